import PyProof.Rows.All
import Wide.All
import OpenK.AllK
import Wide.FinOn
import KE.KStateDown
import Lean
import HandS.ForMost
import HandS.ForExc
import HandS.Defaults
import HandS.Head0
import HandS.Head1
import HandS.Head2
import HandS.HeadEnd
import HandS.HeadHook1
import HandS.HeadHook2
import HandS.HeadHook3
import HandS.HeadHook4
import HandS.Wide
import HandS.SetKeys
import HandS.Style
import HandS.IsInst
import HandS.ExcValue
import HandS.ExcIs
import HandS.Steps
import HandS.Codes
import HandS.Walk
import PySem.Challenge.RW_rimsewn_k01_checks_of_any_value
set_option Elab.async false
set_option linter.all false
set_option maxRecDepth 100000
set_option maxHeartbeats 4000000
namespace Vf
open PySem PySem.Spec PyProof.Rows L2
/-! ### a def by its name -/
abbrev FnP (K : PySem.W.Frag) (x : Str) (st : Stmt) (f : Addr) (fd : FuncData) : Prop := FunD K x x (defArgs st) (defBody st) (defScope st) [] [] f fd
/-- the module's name x stands for a def that keeps the promise -/
def Has (P : Program) (w : World) (K : PySem.W.Frag) (mg : Str → Option Value) (base : Heap) (x : Str) (k : Nat) (ps : List Str) (sp : Sp) : Prop :=
  ∃ (f : Addr) (fd : FuncData), FnOk P w K mg base CX0 k f fd ps sp ∧ mg x = some (.ref f) ∧ PySem.W.keepIn K (.ref f) = true ∧ Binds K fd ps []
/-! ### what stays -/
def Kp (p : Addr) (H H' : Hp) : Prop := ∀ a o, a ≠ p → H a = some o → H' a = some o
theorem Kp.refl (p : Addr) (H : Hp) : Kp p H H := fun _ _ _ h => h
theorem Kp.trans {p : Addr} {H H1 H2 : Hp} (a : Kp p H H1) (b : Kp p H1 H2) : Kp p H H2 := fun c o n h => b c o n (a c o n h)
theorem Kp.same {p : Addr} {H H1 : Hp} (a : Same H H1) : Kp p H H1 := fun c o _ h => a c o h
theorem Kp.set {p : Addr} {H H1 : Hp} {o : HO} (a : Kp p H H1) : Kp p H (upd H1 p o) := fun c u n h => by
  rw [upd_ne n]
  exact a c u n h
theorem same_new {H : Hp} {p : Addr} {o : HO} (h : H p = none) : Same H (upd H p o) := fun b x e => by
  rw [upd_ne (ne_of_none e h)]
  exact e
theorem Kp.new {p q : Addr} {H H1 : Hp} {o : HO} (a : Kp p H H1) (h : H1 q = none) : Kp p H (upd H1 q o) := a.trans (Kp.same (same_new h))
/-- an object that was not there may change -/
theorem Kp.mut {p q : Addr} {H H1 : Hp} {o : HO} (a : Kp p H H1) (h : H q = none) : Kp p H (upd H1 q o) := fun c u n e => by
  rw [upd_ne (ne_of_none e h)]
  exact a c u n e
theorem Same.mut {q : Addr} {H H1 : Hp} {o : HO} (a : Same H H1) (h : H q = none) : Same H (upd H1 q o) := fun c u e => by
  rw [upd_ne (ne_of_none e h)]
  exact a c u e
/-! ### the pen -/
/-- the pen at p, its cells at c, with at least b draws to go -/
def PenAt (H : Hp) (p c : Addr) (b : Nat) : Prop := ∃ (ns : List Int) (n g : Int), H p = some (.lst [.ref c, .int n, .int g]) ∧ H c = some (.lst (ns.map V.int)) ∧ 0 ≤ n ∧ n + (b : Int) ≤ 1000000
theorem PenAt.less {H : Hp} {p c : Addr} {b d : Nat} (h : PenAt H p c b) (l : d ≤ b) : PenAt H p c d := by
  obtain ⟨ns, n, g, h1, h2, h3, h4⟩ := h
  exact ⟨ns, n, g, h1, h2, h3, by omega⟩
theorem ref_ints {c : Addr} {n g : Int} {ns : List Int} : [V.ref c, V.int n, V.int g] ≠ ns.map V.int := fun e => by
  cases ns with
  | nil => cases e
  | cons a r =>
    injection e with e1 _
    cases e1
theorem PenAt.same {H H' : Hp} {p c : Addr} {b : Nat} (h : PenAt H p c b) (s : Same H H') : PenAt H' p c b := by
  obtain ⟨ns, n, g, h1, h2, h3, h4⟩ := h
  exact ⟨ns, n, g, s _ _ h1, s _ _ h2, h3, h4⟩
theorem PenAt.at {H : Hp} {p c : Addr} {b : Nat} (h : PenAt H p c b) : ∃ xs, H p = some (.lst xs) := by
  obtain ⟨ns, n, g, h1, h2, h3, h4⟩ := h
  exact ⟨_, h1⟩
theorem PenAt.cells {H : Hp} {p c : Addr} {b : Nat} (h : PenAt H p c b) : ∃ xs, H c = some (.lst xs) := by
  obtain ⟨ns, n, g, h1, h2, h3, h4⟩ := h
  exact ⟨_, h2⟩
/-- another object than the pen's changes -/
theorem PenAt.mut {H : Hp} {p c q : Addr} {o : HO} {b : Nat} (h : PenAt H p c b) (hp : q ≠ p) (hc : q ≠ c) : PenAt (upd H q o) p c b := by
  obtain ⟨ns, n, g, h1, h2, h3, h4⟩ := h
  refine ⟨ns, n, g, ?_, ?_, h3, h4⟩
  · rw [upd_ne hp.symm]
    exact h1
  · rw [upd_ne hc.symm]
    exact h2
/-- what was not there is no part of the pen -/
theorem PenAt.new {H : Hp} {p c q : Addr} {b : Nat} (h : PenAt H p c b) (hq : H q = none) : q ≠ p ∧ q ≠ c := by
  obtain ⟨ns, n, g, h1, h2, h3, h4⟩ := h
  exact ⟨ne_of_none h1 hq |>.symm, ne_of_none h2 hq |>.symm⟩
def spDraw : Sp := fun vs H Q _ => ∃ (p c : Addr) (many : Int) (b : Nat), vs = [.ref p, .int many] ∧ PenAt H p c (b + 1) ∧ 0 < many ∧ many < 2 ^ 200 ∧
  ∀ (H' : Hp) (d : Int), PenAt H' p c b → Kp p H H' → 0 ≤ d → d < many → Q (.int d) H'
theorem many_div {g m : Int} (h : 0 < m) (h2 : m < 2 ^ 200) : CDivW g m := wide_div h (b := 200) (by omega) (by decide) (by decide)
/-! ### flat data -/
def fdat : V → PyData
  | .int i => .int i
  | .str x => .str x
  | .bl b => .bool b
  | _ => .none
def flatS : V → Bool
  | .int _ => true
  | .str x => PyData.strOk x
  | .bl _ => true
  | .non => true
  | _ => false
theorem dp_flat {K : PySem.W.Frag} {H : Hp} : ∀ {v : V}, flatS v = true → Dp K H v (fdat v)
  | .int i, _ => .int i
  | .str x, _ => .str x
  | .bl b, _ => .bl b
  | .non, _ => .non
theorem dpAll_flat {K : PySem.W.Frag} {H : Hp} : ∀ {xs : List V}, (∀ v ∈ xs, flatS v = true) → DpAll K H xs (xs.map fdat)
  | [], _ => .nil
  | v :: vs, h => .cons (dp_flat (h v (List.mem_cons_self ..))) (dpAll_flat fun u hu => h u (List.mem_cons_of_mem _ hu))
theorem canLay_flat : ∀ {v : V}, flatS v = true → PyData.canLay0 (fdat v) = true
  | .int i, _ => by simp only [fdat, PyData.canLay0]
  | .str x, h => by simp only [fdat, PyData.canLay0]; exact h
  | .bl b, _ => by simp only [fdat, PyData.canLay0]
  | .non, _ => by simp only [fdat, PyData.canLay0]
theorem canLayAll_flat : ∀ {xs : List V}, (∀ v ∈ xs, flatS v = true) → PyData.canLayAll0 (xs.map fdat) = true
  | [], _ => by simp only [List.map_nil, PyData.canLayAll0]
  | v :: vs, h => by
    simp only [List.map_cons, PyData.canLayAll0, Bool.and_eq_true]
    exact ⟨canLay_flat (h v (List.mem_cons_self ..)), canLayAll_flat fun u hu => h u (List.mem_cons_of_mem _ hu)⟩
theorem depth_flat (v : V) : PyData.depth (fdat v) ≤ 1 := by
  cases v <;> simp [fdat, PyData.depth]
theorem depthAll_flat : ∀ xs : List V, PyData.depthAll (xs.map fdat) ≤ 1
  | [] => by simp [PyData.depthAll]
  | v :: vs => by
    have h1 := depth_flat v
    have h2 := depthAll_flat vs
    simp only [List.map_cons, PyData.depthAll]
    omega
theorem shaped_flat {v : V} (h : flatS v = true) : SeqAt.shaped (fdat v) = true := by
  unfold SeqAt.shaped
  have h2 := depth_flat v
  rw [canLay_flat h, Bool.true_and]
  exact decide_eq_true (by omega)
theorem shaped_list {xs : List V} (h : ∀ v ∈ xs, flatS v = true) : SeqAt.shaped (.list (xs.map fdat)) = true := by
  unfold SeqAt.shaped
  have h1 := depthAll_flat xs
  have h2 : PyData.canLay0 (.list (xs.map fdat)) = true := by simp only [PyData.canLay0]; exact canLayAll_flat h
  rw [h2, Bool.true_and]
  refine decide_eq_true ?_
  simp only [PyData.depth]
  omega
theorem eqv_nil (xs : List V) : PyData.eqv (.list (xs.map fdat)) (.list []) = decide (xs = []) := by
  cases xs with
  | nil => simp [PyData.eqv, PyData.eqvAll]
  | cons a r => simp [PyData.eqv, PyData.eqvAll]
theorem flat_ints (ns : List Int) : ∀ v ∈ ns.map V.int, flatS v = true := fun v hv => by
  obtain ⟨i, _, rfl⟩ := List.mem_map.mp hv
  rfl
/-- an item at a place reckoned by a remainder -/
theorem at_mod {α : Type} {xs : List α} {n : Int} (h : xs ≠ []) : ∃ x, x ∈ xs ∧ atI xs (n % (xs.length : Int)) = some x := by
  have hl : 0 < xs.length := List.length_pos_iff.mpr h
  have h0 := Int.emod_nonneg n (b := (xs.length : Int)) (by omega)
  have h1 := Int.emod_lt_of_pos n (b := (xs.length : Int)) (by omega)
  obtain ⟨j, hj⟩ := Int.eq_ofNat_of_zero_le h0
  rw [hj] at h1 ⊢
  have hlt : j < xs.length := by omega
  exact ⟨xs[j], List.getElem_mem hlt, atI_nat (List.getElem?_eq_getElem hlt)⟩
theorem at_in {α : Type} {xs : List α} {n : Int} (h0 : 0 ≤ n) (h1 : n < (xs.length : Int)) : ∃ x, x ∈ xs ∧ atI xs n = some x := by
  obtain ⟨j, hj⟩ := Int.eq_ofNat_of_zero_le h0
  rw [hj] at h1 ⊢
  have hlt : j < xs.length := by omega
  exact ⟨xs[j], List.getElem_mem hlt, atI_nat (List.getElem?_eq_getElem hlt)⟩
end Vf
namespace Vf
open PySem PySem.Spec PyProof.Rows L2
section
variable {X : Cx}
/-- X(), an own exception class without own __init__, as a value: a new exception object -/
theorem pe_exc0 {C : Addr} {bmB : List Value} {B newId initId : String} {x : Str} {p pos : Pos} (F : ExcBaseFacts B newId initId bmB) (q : PySem.W.excIn X.K C bmB newId = true) (gC : X.mg x = some (.ref C)) (kC : PySem.W.keepIn X.K (.ref C) = true) (hg : Gl X x)
    (hdb : (x == ("__debug__" : Str)) = false := by decide) :
    PE X (.Call (.Name x p) [] [] pos) (fun σ H Q => ∀ a, H a = none → Q (.ref a) (upd H a (ExO (.ref C) a))) := by
  refine ⟨fun pins s σ H Q I h => ?_⟩
  refine wpAny_Call_Name_kw (ld_glob I hg gC ?_ hdb)
  refine PySem.W.callWith_K0 I.kIn kC ?_
  obtain ⟨bm, N, nm, qn, bs, hdct, sn, sub, ab, col, dd, k0, k1, k2, k3, k5, mN, hC, hN, hni, T⟩ := exc_obj I.kIn q
  refine wpAny_call_exc_subT F T hC hN hni (fun h' a hm => ?_) (by show 0 ≤ sizeLine; exact Nat.zero_le _)
  have hn : H a = none := I.hok.gone hm.new
  obtain ⟨t, ht, _, _⟩ := hm.there
  exact ⟨.ref a, upd H a (ExO (.ref C) a), I.laidN hm.keeps hm.new hn (exO_ok ht ⟨rfl, rfl⟩ rfl rfl rfl (show 4 < 6 by decide)), rfl, h a hn⟩
end
end Vf
namespace Vf
open PySem PySem.Spec PyProof.Rows L2
/-! ### isinstance by what a value is -/
inductive Knd where
  | int | str | bool | none | list | tuple | exc (C : Addr)
def Knd.ty : Knd → Value
  | .int => .type "int"
  | .str => .type "str"
  | .bool => .type "bool"
  | .none => .type "NoneType"
  | .list => .type "list"
  | .tuple => .type "tuple"
  | .exc C => .ref C
/-- a value is of a kind; exceptions of the class at C alone -/
def KndV (C : Addr) (H : Hp) : V → Knd → Prop
  | .int _, .int => True
  | .str _, .str => True
  | .bl _, .bool => True
  | .non, .none => True
  | .ref a, .list => ∃ xs, H a = some (.lst xs)
  | .ref a, .tuple => ∃ xs, H a = some (.tup xs)
  | .ref a, .exc D => D = C ∧ H a = some (ExO (.ref C) a)
  | _, _ => False
theorem KndV.same {C : Addr} {H H' : Hp} {v : V} {k : Knd} (h : KndV C H v k) (s : Same H H') : KndV C H' v k := by
  cases v <;> cases k <;> first | exact h | exact h.elim | skip
  · obtain ⟨xs, e⟩ := h
    exact ⟨xs, s _ _ e⟩
  · obtain ⟨xs, e⟩ := h
    exact ⟨xs, s _ _ e⟩
  · exact ⟨h.1, s _ _ h.2⟩
section
variable {X : Cx} {pins : List (Addr × Obj)} {σ : L2.St} {H : Hp} {s : Shared}
theorem knd_kit {C : Addr} {x : V} {u : Value} {k : Knd} (E : ExcC X.K C) (I : Inv X pins σ H s) (rx : RelV x u) (h : KndV C H x k) : ∃ P : Heap → Prop, PySem.W.KitX X.K u k.ty P ∧ P s.heap ∧ u ≠ .builtin "__main__.__loader__#opaque" := by
  cases x <;> cases k <;> first | exact h.elim | skip
  · exact kit_of (t := .type "NoneType") I rx (.base .non)
  · exact kit_of (t := .type "bool") I rx (.base (.bl _))
  · exact kit_of (t := .type "int") I rx (.base (.int _))
  · exact kit_of (t := .type "str") I rx (.base (.str _))
  · obtain ⟨xs, e⟩ := h
    exact kit_of (t := .type "list") I rx (.base (.lst e))
  · obtain ⟨xs, e⟩ := h
    exact kit_of (t := .type "tuple") I rx (.base (.tup e))
  · rename_i a D
    obtain ⟨rfl, e⟩ := h
    cases (show u = Value.ref a from rx)
    obtain ⟨⟨oe, vs, ho, hz, hd, _⟩, _, _⟩ := I.hok _ _ e
    have J : PySem.W.InstAt s.heap a oe D none := by
      obtain ⟨oc, od, oda, osl⟩ := oe
      obtain ⟨h1, h2⟩ := hz
      dsimp only at h1 h2 hd
      subst h1 h2 hd
      exact ⟨ho, rfl, rfl, trivial⟩
    exact ⟨_, PySem.W.handS_kitx_exc E.hg E.hk E.hs E.hd E.ha E.hn E.ht E.hm, J, fun z => nomatch z⟩
def rIsY (C : Addr) (K : PySem.W.Frag) : List V → Hp → VK → Prop := fun xs H Q => ∃ (x : V) (T : String) (k : Knd) (b : Bool), xs = [x, .ty T] ∧ KndV C H x k ∧ PySem.W.kitOne K k.ty (.type T) = some b ∧ Q (.bl b) H
theorem call_isY {C : Addr} (E : ExcC X.K C) : CallR X (.builtin "isinstance") (rIsY C X.K) := by
  intro pins s σ H xs us Q I r h
  obtain ⟨x, T, k, b, rfl, ty, e, q⟩ := h
  obtain ⟨u1, u2, rfl, r1, r2⟩ := vals2 r
  cases (show u2 = Value.type T from r2)
  obtain ⟨P, Z, p, hx⟩ := knd_kit E I r1 ty
  exact PySem.W.kia_one Z I.kIn p e hx fun tk => ⟨.bl b, H, I.tok tk, rfl, q⟩
def rIsTY (C : Addr) (K : PySem.W.Frag) : List V → Hp → VK → Prop := fun xs H Q => ∃ (x : V) (tp : Addr) (cs : List V) (k : Knd) (us : List Value) (b : Bool), xs = [x, .ref tp] ∧ H tp = some (.tup cs) ∧ Paired ClsV cs us ∧ KndV C H x k ∧ PySem.W.kitAny K k.ty us = some b ∧ Q (.bl b) H
theorem call_isTY {C : Addr} (E : ExcC X.K C) : CallR X (.builtin "isinstance") (rIsTY C X.K) := by
  intro pins s σ H xs us Q I r h
  obtain ⟨x, tp, cs, k, ws, b, rfl, hT, kk, ty, e, q⟩ := h
  obtain ⟨u1, u2, rfl, r1, r2⟩ := vals2 r
  cases (show u2 = Value.ref tp from r2)
  obtain ⟨P, Z, p, hx⟩ := knd_kit E I r1 ty
  obtain ⟨_, its, rv, o, h1, h2, n, h3⟩ := (show ObjOk X.prog X.w H s.heap tp (.tup cs) from I.hok tp _ hT)
  have e3 := ClsV.all kk rv
  subst e3
  obtain ⟨oc, od, dt, sl⟩ := o
  simp only at h2 h3
  subst h2 h3
  exact PySem.W.kia_tup Z I.kIn p h1 e hx fun tk => ⟨.bl b, H, I.tok tk, rfl, q⟩
end
end Vf
namespace Vf
open PySem PySem.Spec PyProof.Rows L2
/-! ### facts of an own error class without fields, off the head -/
def excB (K : PySem.W.Frag) (C : Addr) : Bool :=
  He.eqO (PySem.W.findIn K (.ref C) "__getattribute__") (some (some (.builtin "BaseException.__getattribute__"))) && (He.eqO (PySem.W.findIn K (.ref C) "__getattr__") (some none) && (decide (PySem.W.subIn K (.ref C) (.type "BaseException") = some true) &&
  (PySem.W.hasDictIn K C && (He.eqO (PySem.W.findIn K (.ref C) "__class__") (some (some (.builtin "object.__class__"))) && (decide (PySem.W.specialIn K (.builtin "object.__class__") "__get__" = some (some (.builtin "getset_descriptor.__get__"))) &&
  (decide (PySem.W.takesIn K (.builtin "object.__class__") = some true) && decide (PySem.W.mroIn K C (.type "object") = some true)))))))
theorem excC_of {K : PySem.W.Frag} {C : Addr} (h : excB K C = true) : ExcC K C := by
  unfold excB at h
  simp only [Bool.and_eq_true, decide_eq_true_eq] at h
  obtain ⟨h1, h2, h3, h4, h5, h6, h7, h8⟩ := h
  exact ⟨He.eqO_ok h1, He.eqO_ok h2, h3, h4, He.eqO_ok h5, h6, h7, h8⟩
def kitNo (K : PySem.W.Frag) (C : Addr) : List String → Bool
  | [] => true
  | T :: r => decide (PySem.W.kitOne K (.ref C) (.type T) = some false) && kitNo K C r
theorem kitNo_of {K : PySem.W.Frag} {C : Addr} : ∀ {l : List String}, kitNo K C l = true → ∀ T ∈ l, PySem.W.kitOne K (.ref C) (.type T) = some false
  | [], _, T, h => nomatch h
  | S :: r, h, T, hT => by
    simp only [kitNo, Bool.and_eq_true, decide_eq_true_eq] at h
    rcases List.mem_cons.mp hT with e | e
    · rw [e]
      exact h.1
    · exact kitNo_of h.2 T e
def kinds5 : List String := ["int", "str", "bool", "list", "tuple"]
def Knd.is (T : String) : Knd → Bool
  | .int => T == "int"
  | .str => T == "str"
  | .bool => T == "bool" || T == "int"
  | .list => T == "list"
  | .tuple => T == "tuple"
  | _ => false
theorem kit_is {K : PySem.W.Frag} {C : Addr} {H : Hp} {v : V} {k : Knd} (n : kitNo K C kinds5 = true) (h : KndV C H v k) {T : String} (hT : T ∈ kinds5) : PySem.W.kitOne K k.ty (.type T) = some (k.is T) := by
  cases k with
  | exc D =>
    have e : D = C := by
      cases v <;> first | exact h.1 | exact h.elim
    rw [e]
    exact kitNo_of n T hT
  | _ =>
    simp only [kinds5, List.mem_cons, List.not_mem_nil, or_false] at hT
    rcases hT with rfl | rfl | rfl | rfl | rfl <;> exact kit_ty (by decide +kernel)
theorem kit_seq {K : PySem.W.Frag} {C : Addr} {H : Hp} {v : V} {k : Knd} (n : kitNo K C kinds5 = true) (h : KndV C H v k) : PySem.W.kitAny K k.ty [.type "list", .type "tuple"] = some (k.is "list" || k.is "tuple") := by
  refine kitAny_cons (kit_is n h (by decide)) (fun e => ?_) (fun e => by rw [e]; rfl)
  rw [e, Bool.false_or]
  refine kitAny_cons (kit_is n h (by decide)) (fun e => ?_) (fun e => e)
  rw [e]
  exact kitAny_nil
end Vf
namespace Vf
open PySem PySem.Spec PyProof.Rows L2
theorem small_line {n : Nat} (h : n ≤ 100000) : n < sizeLine := Nat.lt_of_le_of_lt h (by decide)
theorem le_line {n : Nat} (h : n ≤ 100000) : n ≤ sizeLine := Nat.le_of_lt (small_line h)
/-- a comprehension over things that stand, whose tests and elements change nothing that stood -/
theorem lc_pure {J : It} {n : Nat} {G : Hp → Prop} {Y : Nat → Hp → V → Hp → Prop} (w : Walk J n G Y) (ys : List V) (hn : n = ys.length) (hl : ys.length ≤ 100000) (hY : ∀ i H x H', Y i H x H' → Same H H' ∧ ys[i]? = some x) (f : V → V) (keep : V → Bool)
    {g : TG} {tt : TT} {te : TE} {vs : List Nat} {σ : L2.St} {H1 : Hp} {D : Addr} {Qd : Hp → Prop} (nD : H1 D = none) (hG : ∀ H, Same H1 H → G H)
    (hs : ∀ (i : Nat) x H (Q1 : VK) (Q0 : Hp → Prop), ys[i]? = some x → Same H1 H → (keep x = true → ∀ H4, Same H H4 → Q1 (f x) H4) → (keep x = false → ∀ H4, Same H H4 → Q0 H4) →
      g x (wipe σ vs) H fun σ2 H2 => wipe σ2 vs = wipe σ vs ∧ tt σ2 H2 fun b H3 => if b = true then te σ2 H3 Q1 else Q0 H3)
    (hd : ∀ H, Same H1 H → H D = some (.lst ((ys.filter keep).map f)) → Qd H) :
    ∃ W : Nat → Nat → Hp → Prop, (∃ m, W 0 m (upd H1 D (.lst []))) ∧ ∀ i m H, W i m H →
      (J.stop i H ∧ Qd H) ∨ (J.go i H ∧ ∃ Nx : Hp → Prop, (∀ H', Nx H' → ∃ m', m' < m ∧ W (i + 1) m' H') ∧ ∀ x H', J.yld i H x H' → g x (wipe σ vs) H' fun σ2 H2 => wipe σ2 vs = wipe σ vs ∧ tt σ2 H2 fun b H3 =>
        if b = true then te σ2 H3 fun y H4 => ∃ acc, H4 D = some (.lst acc) ∧ acc.length < sizeLine ∧ Nx (upd H4 D (.lst (acc ++ [y]))) else Nx H3) := by
  refine lc_it w (fun i H => Same H1 H ∧ H D = some (.lst (((ys.take i).filter keep).map f))) ⟨same_new nD, upd_same⟩ (fun i H _ p => hG H p.1) (fun i x H H' hi p y => ?_) (fun H p => ?_)
  · obtain ⟨s, hx⟩ := hY i H x H' y
    have hD := s _ _ p.2
    have et : ys.take (i + 1) = ys.take i ++ [x] := by rw [List.take_add_one, hx] <;> rfl
    refine hs i x H' _ _ hx (p.1.trans s) (fun k H4 s4 => ?_) (fun k H4 s4 => ?_)
    · refine ⟨_, s4 _ _ hD, ?_, ?_, ?_⟩
      · rw [List.length_map]
        refine small_line (Nat.le_trans (List.length_filter_le _ _) ?_)
        rw [List.length_take]
        omega
      · exact Same.mut ((p.1.trans s).trans s4) nD
      · rw [upd_same, et, List.filter_append, List.map_append]
        simp [k]
    · refine ⟨(p.1.trans s).trans s4, ?_⟩
      rw [s4 _ _ hD, et, List.filter_append, List.map_append]
      simp [k]
  · refine hd H p.1 ?_
    rw [p.2, hn, List.take_length]
def sgs (z : Str) : List V := z.cps.toList.map fun c => .str ⟨#[c]⟩
theorem sgs_len (z : Str) : (sgs z).length = z.cps.size := by unfold sgs; simp
theorem walk_sgs {z : Str} : Walk (Its z) z.cps.size (fun _ => True) (fun i H x H' => H' = H ∧ (sgs z)[i]? = some x) :=
  walk_str.mono (fun _ h => h) fun i H x H' _ _ y => ⟨y.1, by
    obtain ⟨_, c, hc, rfl⟩ := y
    unfold sgs
    rw [List.getElem?_map, show z.cps.toList[i]? = some c by rw [Array.getElem?_toList]; exact hc] <;> rfl⟩
theorem same_of_eq {H H' : Hp} (h : H' = H) : Same H H' := by
  rw [h]
  exact Same.refl H
end Vf
namespace Vf
open PySem PySem.Spec PyProof.Rows L2
/-! ### texts of a bounded length -/
def TxB (z : Str) (n : Nat) : Prop := z.length ≤ n ∧ PyData.strOk z = true
theorem TxB.le {z : Str} {m n : Nat} (h : TxB z m) (l : m ≤ n) : TxB z n := ⟨Nat.le_trans h.1 l, h.2⟩
theorem strOk_iff {z : Str} : PyData.strOk z = true ↔ ∀ c ∈ z.cps.toList, c < 0x110000 := by
  unfold PyData.strOk
  rw [← Array.all_toList, List.all_eq_true]
  simp
theorem app_len (x y : Str) : (x ++ y).length = x.length + y.length := by
  show (x.cps ++ y.cps).size = _
  rw [Array.size_append]
  rfl
theorem app_cps (x y : Str) : (x ++ y).cps.toList = x.cps.toList ++ y.cps.toList := by
  show (x.cps ++ y.cps).toList = _
  rw [Array.toList_append]
theorem TxB.app {x y : Str} {m n : Nat} (h : TxB x m) (g : TxB y n) : TxB (x ++ y) (m + n) := by
  refine ⟨by rw [app_len]; exact Nat.add_le_add h.1 g.1, strOk_iff.mpr fun c hc => ?_⟩
  rw [app_cps] at hc
  rcases List.mem_append.mp hc with e | e
  · exact strOk_iff.mp h.2 c e
  · exact strOk_iff.mp g.2 c e
theorem TxB.sign {x : Str} {m : Nat} {c : Nat} (h : TxB x m) (hc : c ∈ x.cps.toList) : TxB ⟨#[c]⟩ 1 :=
  ⟨Nat.le_refl _, strOk_iff.mpr fun d hd => by
    have e : d = c := by simpa using hd
    rw [e]
    exact strOk_iff.mp h.2 c hc⟩
theorem TxB.cut {x : Str} {m : Nat} (h : TxB x m) (lo hi : Option Int) : TxB (cutS x lo hi) m := by
  refine ⟨Nat.le_trans (cutS_length x lo hi) h.1, strOk_iff.mpr fun c hc => ?_⟩
  unfold cutS at hc
  exact strOk_iff.mp h.2 c (List.mem_of_mem_drop (List.mem_of_mem_take (by simpa using hc)))
theorem TxB.lit {z : Str} (n : Nat) (h : (decide (z.length ≤ n) && PyData.strOk z) = true) : TxB z n := by
  simp only [Bool.and_eq_true, decide_eq_true_eq] at h
  exact h
theorem TxB.line {z : Str} {n : Nat} (h : TxB z n) (l : n ≤ 100000) : z.length ≤ sizeLine := le_line (Nat.le_trans h.1 l)
/-- a sign of a text at a drawn place -/
theorem TxB.at {z : Str} {n : Nat} {d : Int} (h : TxB z n) (h0 : 0 ≤ d) (h1 : d < (z.length : Int)) : ∃ c, atI z.cps.toList d = some c ∧ TxB ⟨#[c]⟩ 1 := by
  have e : z.length = z.cps.toList.length := by simp [Str.length]
  obtain ⟨c, hc, hat⟩ := at_in (xs := z.cps.toList) h0 (by omega)
  exact ⟨c, hat, h.sign hc⟩
/-- the text that a def of one return gives back -/
def retStr (st : Stmt) : Str := match defBody st with
  | [.Return (some (.Constant (.str x) _ _)) _] => x
  | _ => Str.empty
section
variable {X : Cx}
/-- text * number -/
def rRepS : V → V → Hp → VK → Prop := fun x y H Q => ∃ z k, x = .str z ∧ y = .int k ∧ z.length ≤ 1000 ∧ 0 ≤ k ∧ k ≤ 1000 ∧ Q (.str (Txt.mul z k)) H
theorem op_rep_str : OpR X (binaryOp .Mult) rRepS := by
  intro pins s σ H x y u v Q I rx ry h
  obtain ⟨z, k, rfl, rfl, hz, h0, h1, q⟩ := h
  obtain ⟨t, rfl⟩ := rx
  obtain ⟨t', rfl⟩ := ry
  exact SB.mul (mulOk_of 1000 1000 hz (by omega) (by omega) (by decide) (by decide)) fun t2 k2 => ⟨.str (Txt.mul z k), H, I.tok k2, ⟨t2, rfl⟩, q⟩
end
end Vf
namespace Vf
open PySem PySem.Spec PyProof.Rows L2
section
variable {X : Cx}
/-- a list == [], whatever its items are -/
def rEqNil (K : PySem.W.Frag) : V → V → Hp → VK → Prop := fun x y H Q => ∃ a b xs, x = .ref a ∧ y = .ref b ∧ SqL K H a xs ∧ SqL K H b [] ∧ Q (.bl (decide (xs = []))) H
theorem op_eqNil (hu : X.A.units < cLine) : OpR X (compareOp .Eq) (rEqNil X.K) := by
  intro pins s σ H x y v u Q I rx ry h
  obtain ⟨a, b, xs, rfl, rfl, ha, hb, q⟩ := h
  cases (show v = Value.ref a from rx)
  cases (show u = Value.ref b from ry)
  obtain ⟨its, rv, hl, _⟩ := I.list ha
  obtain ⟨its2, rv2, hl2, _⟩ := I.list hb
  cases rv2
  cases xs with
  | nil =>
    cases rv
    exact SeqAt.eq_listAt (e := fun _ => true) hl.isList hl2.isList rfl hu (fun j h1 => by simp at h1) ⟨.bl true, H, I, rfl, q⟩
  | cons z r =>
    cases rv
    exact SeqAt.eq_list_lengthsAt hl.isList hl2.isList (by simp) hu ⟨.bl false, H, I, rfl, q⟩
end
end Vf
namespace Vf
open PySem PySem.Spec PyProof.Rows L2
/-! ### f(k = v, ..) -/
section
variable {X : Cx} {CX : CXT} {k : Nat} {f : Addr} {fd : FuncData} {ps ks : List Str} {sp : Sp} {E : XK} {x : Str} {p pos : Pos} {kws : List Keyword} {tk : TA} {g : List Value → List Value → List Value} {gV : List V → List V → List V}
theorem pe_callK0 (F : FnOk X.prog X.w X.K X.mg X.base CX k f fd ps sp) (hr : Room k X.A) (hg : Gl X x) (hm : X.mg x = some (.ref f)) (hk : PySem.W.keepIn X.K (.ref f) = true) (hb : KBn X.K fd ps 0 ks g gV) (hx : Passes CX X E)
    (hkw : PK X kws tk) (hall : (backToKw pos (keywordEach kws X.env)).all (·.1.isSome) = true := by rfl) (hks : (backToKw pos (keywordEach kws X.env)).filterMap (·.1) = ks := by rfl)
    (hdb : (x == ("__debug__" : Str)) = false := by decide) (hpl : ((backTo pos (starEach [] X.env)).any (·.1) || (backToKw pos (keywordEach kws X.env)).any (·.1.isNone)) = false := by rfl) :
    PE X (.Call (.Name x p) [] kws pos) (tCallN 0 ks.length sp gV E tNil tk) := by
  refine ⟨fun pins s σ H Q I h => ?_⟩
  refine wpAny_Call_Name_kw (ld_glob I hg hm ?_ hdb)
  refine PySem.W.callWith_KW0 (h₀ := X.base) I.ok.mod.kin hk hall ?_ hpl
  refine thn (hkw.run pos pins s σ H _ I h) fun ws s2 ⟨zs, H2, I2, rz, l1, l2, q2⟩ => ⟨I2.kIn, ?_⟩
  rw [hks]
  exact run_fnN (us := []) (vs := []) F hr hb hx I2 .nil rz rfl l2 q2
end
/-- the module's name x stands for a def that keeps the promise, called by keywords alone -/
def HasK (P : Program) (w : World) (K : PySem.W.Frag) (mg : Str → Option Value) (base : Heap) (x : Str) (k : Nat) (ps ks : List Str) (gV : List V → List V → List V) (sp : Sp) : Prop :=
  ∃ (f : Addr) (fd : FuncData) (g : List Value → List Value → List Value), FnOk P w K mg base CX0 k f fd ps sp ∧ mg x = some (.ref f) ∧ PySem.W.keepIn K (.ref f) = true ∧ KBn K fd ps 0 ks g gV
theorem kbn_of {K : PySem.W.Frag} {x qual : Str} {params : Arguments} {body : List Stmt} {scope : Scope} {f : Addr} {fd : FuncData} {ps ks : List Str} {g : List Value → List Value → List Value} {gV : List V → List V → List V} (F : FunD K x qual params body scope [] [] f fd)
    (h : ∀ (kV doc pm : Value) (an : Option Addr) (cdv ct : Value) (ws : List Value), ws.length = ks.length → bindArgs (PySem.W.fnOf x qual params body scope .none kV doc pm an cdv ct) ⟨[], ks.zip ws⟩ = pure (ps.zip (g [] ws)))
    (rel : ∀ {vs : List V} {us : List Value} {zs : List V} {ws : List Value}, Vals vs us → Vals zs ws → Vals (gV vs zs) (g us ws)) : KBn K fd ps 0 ks g gV := by
  obtain ⟨oc, od, dV, kV, doc, pm, an, cdv, ct, osl, rfl, lk, hcd, hD, hK⟩ := F.ex
  rcases hD with ⟨_, rfl⟩ | ⟨e, _⟩
  · refine ⟨fun s us ws _ l1 l2 => ?_, rel⟩
    cases us with
    | nil => exact .of_eq (h kV doc pm an cdv ct ws l2)
    | cons a r => cases l1
  · exact absurd rfl e
/-- one keyword -/
def gv1 : List V → List V → List V := fun _ zs => zs
/-- three keywords: the last parameter, then the first, then the second -/
def gv3 : List V → List V → List V := fun _ zs => match zs with
  | [m, v, l] => [v, l, m]
  | _ => []
def gu3 : List Value → List Value → List Value := fun _ zs => match zs with
  | [m, v, l] => [v, l, m]
  | _ => []
theorem gv3_rel {vs : List V} {us : List Value} {zs : List V} {ws : List Value} (_ : Vals vs us) (h : Vals zs ws) : Vals (gv3 vs zs) (gu3 us ws) := by
  cases h with
  | nil => exact .nil
  | cons r1 h =>
    cases h with
    | nil => exact .nil
    | cons r2 h =>
      cases h with
      | nil => exact .nil
      | cons r3 h =>
        cases h with
        | nil => exact .cons r2 (.cons r3 (.cons r1 .nil))
        | cons r4 h => exact .nil
end Vf
namespace K01
open PySem PySem.Spec PyProof.Rows L2 Vf
def top (i : Nat) : Stmt := PySem.Challenge.pw_rimsewn_k01_checks_of_any_value.main.body.getD i (.Pass ⟨0, 0, 0, 0⟩)
abbrev s_is_grid : Stmt := top 5
abbrev s_is_integer : Stmt := top 10
abbrev s_is_within : Stmt := top 11
abbrev s_is_kind : Stmt := top 12
abbrev s_is_name : Stmt := top 13
abbrev s_is_listed : Stmt := top 14
abbrev s_is_row : Stmt := top 15
abbrev s_first_twice : Stmt := top 16
abbrev s_law_pen : Stmt := top 18
abbrev s_law_draw : Stmt := top 19
abbrev s_law_signs : Stmt := top 20
abbrev s_law_text : Stmt := top 21
abbrev s_law_number : Stmt := top 22
abbrev s_law_simple : Stmt := top 23
abbrev s_law_row : Stmt := top 24
abbrev s_law_plain : Stmt := top 25
abbrev s_law_names : Stmt := top 26
abbrev s_law_one_right : Stmt := top 27
abbrev s_law_bounds_right : Stmt := top 28
abbrev s_law_twice_right : Stmt := top 29
abbrev s_law : Stmt := top 30
def d_is_grid : He.DefD := ⟨("is_grid", none), "is_grid", "is_grid", defArgs s_is_grid, defBody s_is_grid, defScope s_is_grid, [], []⟩
def d_is_integer : He.DefD := ⟨("is_integer", none), "is_integer", "is_integer", defArgs s_is_integer, defBody s_is_integer, defScope s_is_integer, [], []⟩
def d_is_within : He.DefD := ⟨("is_within", none), "is_within", "is_within", defArgs s_is_within, defBody s_is_within, defScope s_is_within, [], []⟩
def d_is_kind : He.DefD := ⟨("is_kind", none), "is_kind", "is_kind", defArgs s_is_kind, defBody s_is_kind, defScope s_is_kind, [], []⟩
def d_is_name : He.DefD := ⟨("is_name", none), "is_name", "is_name", defArgs s_is_name, defBody s_is_name, defScope s_is_name, [], []⟩
def d_is_listed : He.DefD := ⟨("is_listed", none), "is_listed", "is_listed", defArgs s_is_listed, defBody s_is_listed, defScope s_is_listed, [], []⟩
def d_is_row : He.DefD := ⟨("is_row", none), "is_row", "is_row", defArgs s_is_row, defBody s_is_row, defScope s_is_row, [], []⟩
def d_first_twice : He.DefD := ⟨("first_twice", none), "first_twice", "first_twice", defArgs s_first_twice, defBody s_first_twice, defScope s_first_twice, [], []⟩
def d_law_pen : He.DefD := ⟨("_law_pen", none), "_law_pen", "_law_pen", defArgs s_law_pen, defBody s_law_pen, defScope s_law_pen, [], []⟩
def d_law_draw : He.DefD := ⟨("_law_draw", none), "_law_draw", "_law_draw", defArgs s_law_draw, defBody s_law_draw, defScope s_law_draw, [], []⟩
def d_law_signs : He.DefD := ⟨("_law_signs", none), "_law_signs", "_law_signs", defArgs s_law_signs, defBody s_law_signs, defScope s_law_signs, [], []⟩
def d_law_text : He.DefD := ⟨("_law_text", none), "_law_text", "_law_text", defArgs s_law_text, defBody s_law_text, defScope s_law_text, [], []⟩
def d_law_number : He.DefD := ⟨("_law_number", none), "_law_number", "_law_number", defArgs s_law_number, defBody s_law_number, defScope s_law_number, [], []⟩
def d_law_simple : He.DefD := ⟨("_law_simple", none), "_law_simple", "_law_simple", defArgs s_law_simple, defBody s_law_simple, defScope s_law_simple, [], []⟩
def d_law_row : He.DefD := ⟨("_law_row", none), "_law_row", "_law_row", defArgs s_law_row, defBody s_law_row, defScope s_law_row, [], []⟩
def d_law_plain : He.DefD := ⟨("_law_plain", none), "_law_plain", "_law_plain", defArgs s_law_plain, defBody s_law_plain, defScope s_law_plain, [], []⟩
def d_law_names : He.DefD := ⟨("_law_names", none), "_law_names", "_law_names", defArgs s_law_names, defBody s_law_names, defScope s_law_names, [], []⟩
def d_law_one_right : He.DefD := ⟨("_law_one_right", none), "_law_one_right", "_law_one_right", defArgs s_law_one_right, defBody s_law_one_right, defScope s_law_one_right, [], []⟩
def d_law_bounds_right : He.DefD := ⟨("_law_bounds_right", none), "_law_bounds_right", "_law_bounds_right", defArgs s_law_bounds_right, defBody s_law_bounds_right, defScope s_law_bounds_right, [], []⟩
def d_law_twice_right : He.DefD := ⟨("_law_twice_right", none), "_law_twice_right", "_law_twice_right", defArgs s_law_twice_right, defBody s_law_twice_right, defScope s_law_twice_right, [], []⟩
def d_law : He.DefD := ⟨("law", none), "law", "law", defArgs s_law, defBody s_law, defScope s_law, [], []⟩
def fn : List He.DefD := [d_is_grid, d_is_integer, d_is_within, d_is_kind, d_is_name, d_is_listed, d_is_row, d_first_twice, d_law_pen, d_law_draw, d_law_signs, d_law_text, d_law_number, d_law_simple, d_law_row, d_law_plain, d_law_names, d_law_one_right, d_law_bounds_right, d_law_twice_right, d_law]
def fa : List He.Fa := [.glo "SewError", .glo "Nothing", .glo "is_grid", .glo "is_integer", .glo "is_within", .glo "is_kind", .glo "is_name", .glo "is_listed", .glo "is_row", .glo "first_twice", .glo "_law_pen", .glo "_law_draw", .glo "_law_signs", .glo "_law_text", .glo "_law_number", .glo "_law_simple", .glo "_law_row", .glo "_law_plain", .glo "_law_names", .glo "_law_one_right", .glo "_law_bounds_right", .glo "_law_twice_right", .glo "law", .glo "KINDS", .str "SMALL" "abcdefghijklmnopqrstuvwxyz", .str "DIGITS" "0123456789", .int "LONGEST_NAME" 12, .free "ValueError", .free "abs", .free "all", .free "bool", .free "enumerate", .free "int", .free "isinstance", .free "len", .free "list", .free "range", .free "set", .free "str", .free "tuple", .free "zip", .exc "Nothing"]
def ex (K : PySem.W.Frag) : Bool := He.tupB K "KINDS" [.str "square", .str "triangle"] && (excB K (He.ga K "Nothing") && kitNo K (He.ga K "Nothing") kinds5)
abbrev R : PySem.W.OpenRow := PySem.W.OpenLaw.row PySem.Challenge.rw_rimsewn_k01_checks_of_any_value
abbrev hk : PySem.W.Hook := He.hookX 6 fa fn [] [] ex
def ob (s : PySem.W.SharedT) : He.AlX := He.obsX 6 fa fn [] [] ex (HandSHeadRun.getT s)
theorem ob_eq (s : PySem.W.SharedT) : ob s = hk.obs s.abs := He.obsX_eq (HandSHeadRun.getT_eq s)
def loose : List Str := [("SewError" : Str), ("Nothing" : Str), ("KINDS" : Str), ("is_grid" : Str), ("SMALL" : Str), ("DIGITS" : Str), ("LONGEST_NAME" : Str), ("is_integer" : Str), ("is_within" : Str), ("is_kind" : Str), ("is_name" : Str), ("is_listed" : Str), ("is_row" : Str), ("first_twice" : Str), ("_law_pen" : Str), ("_law_draw" : Str), ("_law_signs" : Str), ("_law_text" : Str), ("_law_number" : Str), ("_law_simple" : Str), ("_law_row" : Str), ("_law_plain" : Str), ("_law_names" : Str), ("_law_one_right" : Str), ("_law_bounds_right" : Str), ("_law_twice_right" : Str)]
theorem run (w : World) : HandSHeadRun.RunEq R (PySem.W.view R.prog [30]) hk ob 3000 loose w := by
  intro os
  kernel_rfl
structure Txt (K : PySem.W.Frag) (mg : Str → Option Value) : Prop where
  g_SewError : mg "SewError" = some (.ref (He.ga K "SewError"))
  g_Nothing : mg "Nothing" = some (.ref (He.ga K "Nothing"))
  g_KINDS : mg "KINDS" = some (.ref (He.ga K "KINDS"))
  c_SMALL : ∃ t, mg "SMALL" = some (.str "abcdefghijklmnopqrstuvwxyz" t)
  c_DIGITS : ∃ t, mg "DIGITS" = some (.str "0123456789" t)
  c_LONGEST_NAME : ∃ t, mg "LONGEST_NAME" = some (.int 12 t)
  n_ValueError : mg "ValueError" = none
  n_abs : mg "abs" = none
  n_all : mg "all" = none
  n_bool : mg "bool" = none
  n_enumerate : mg "enumerate" = none
  n_int : mg "int" = none
  n_isinstance : mg "isinstance" = none
  n_len : mg "len" = none
  n_list : mg "list" = none
  n_range : mg "range" = none
  n_set : mg "set" = none
  n_str : mg "str" = none
  n_tuple : mg "tuple" = none
  n_zip : mg "zip" = none
  kinds : ∀ H, SqT K H (He.ga K "KINDS") [.str "square", .str "triangle"]
  exc : ExcC K (He.ga K "Nothing")
  kit : kitNo K (He.ga K "Nothing") kinds5 = true
  exi : PySem.W.excIn K (He.ga K "Nothing") He.veBase "ValueError.__new__" = true
  exk : PySem.W.keepIn K (.ref (He.ga K "Nothing")) = true
theorem txt_of {w : World} {K : PySem.W.Frag} {h : Heap} {mg : Str → Option Value} (X : K.In h) (G : h.Ns mainGlobals mg) (c : He.SaysX fa fn [] [] ex w h K) : Txt K mg :=
  ⟨He.glo_ok X G (c.t.d.fact 0 (f := .glo "SewError") rfl),
   He.glo_ok X G (c.t.d.fact 1 (f := .glo "Nothing") rfl),
   He.glo_ok X G (c.t.d.fact 23 (f := .glo "KINDS") rfl),
   He.str_ok X G (c.t.d.fact 24 (f := .str "SMALL" "abcdefghijklmnopqrstuvwxyz") rfl),
   He.str_ok X G (c.t.d.fact 25 (f := .str "DIGITS" "0123456789") rfl),
   He.int_ok X G (c.t.d.fact 26 (f := .int "LONGEST_NAME" 12) rfl),
   He.free_ok X G (c.t.d.fact 27 (f := .free "ValueError") rfl),
   He.free_ok X G (c.t.d.fact 28 (f := .free "abs") rfl),
   He.free_ok X G (c.t.d.fact 29 (f := .free "all") rfl),
   He.free_ok X G (c.t.d.fact 30 (f := .free "bool") rfl),
   He.free_ok X G (c.t.d.fact 31 (f := .free "enumerate") rfl),
   He.free_ok X G (c.t.d.fact 32 (f := .free "int") rfl),
   He.free_ok X G (c.t.d.fact 33 (f := .free "isinstance") rfl),
   He.free_ok X G (c.t.d.fact 34 (f := .free "len") rfl),
   He.free_ok X G (c.t.d.fact 35 (f := .free "list") rfl),
   He.free_ok X G (c.t.d.fact 36 (f := .free "range") rfl),
   He.free_ok X G (c.t.d.fact 37 (f := .free "set") rfl),
   He.free_ok X G (c.t.d.fact 38 (f := .free "str") rfl),
   He.free_ok X G (c.t.d.fact 39 (f := .free "tuple") rfl),
   He.free_ok X G (c.t.d.fact 40 (f := .free "zip") rfl),
   fun H => He.tupB_ok (He.ba c.more).1 H,
   excC_of (He.ba (He.ba c.more).2).1,
   (He.ba (He.ba c.more).2).2,
   (He.exc_ok (c.t.d.fact 41 (f := .exc "Nothing") rfl)).1,
   (He.exc_ok (c.t.d.fact 41 (f := .exc "Nothing") rfl)).2.1⟩
end K01
namespace K01
open PySem PySem.Spec PyProof.Rows L2 Vf
section
variable {hh : Heap} {P : Program} {w : World} {K : PySem.W.Frag} {mg : Str → Option Value} {base : Heap}
abbrev sp_law_draw : Sp := spDraw
theorem cpow18 : CPow 10 18 := ⟨by decide, by decide, by decide⟩
theorem mix_small {n x : Int} (h0 : 0 ≤ n) (h1 : n ≤ 1000000) (x0 : 0 ≤ x) (x1 : x < 2147483647) : 0 ≤ x * (2 * n + 1613) + 41719 * n * n + 52361 ∧ x * (2 * n + 1613) + 41719 * n * n + 52361 ≤ 100000000000000000 := by
  have a1 : 0 ≤ x * (2 * n + 1613) := Int.mul_nonneg x0 (by omega)
  have a2 : x * (2 * n + 1613) ≤ 2147483647 * 2001613 := Int.mul_le_mul (by omega) (by omega) (by omega) (by decide)
  have a3 : 0 ≤ 41719 * n * n := Int.mul_nonneg (by omega) h0
  have a4 : 41719 * n * n ≤ 41719000000 * 1000000 := Int.mul_le_mul (by omega) h1 h0 (by decide)
  omega
theorem cdiv64 {i : Int} : CDiv i 64 := ⟨by decide, by decide⟩
theorem sc_law_draw : FnScope ["_law_pen_here", "_law_many", "_law_digit", "_law_at", "_law_cell", "_law_great", "_law_mixed"] ["_law_pen_here", "_law_many"] (defScope s_law_draw) := ⟨rfl, rfl, rfl, by decide +kernel, rfl, by decide +kernel, by decide +kernel⟩
theorem ok_law_draw {f : Addr} {fd : FuncData} (F : FnP K "_law_draw" s_law_draw f fd) (Tx : Txt K mg)   : FnOk P w K mg base CX0 1 f fd ["_law_pen_here", "_law_many"] sp_law_draw := by
  refine F.ok sc_law_draw (fun vs H Q E h => ?_) (fun cdv A outer s H vs Q E hr h => ?_)
  · obtain ⟨p, c, many, b, rfl, _⟩ := h
    rfl
  · obtain ⟨p, c, m, b, rfl, ⟨ns, n, g, hp, hc, n0, nb⟩, m0, m2, k⟩ := h
    have cp : c ≠ p := fun e => by
      rw [e, hp] at hc
      injection hc with z
      injection z with z
      exact ref_ints z
    refine ⟨_, PSs.nox (pss_cons (ps_if (pt_cmpR op_gt (pe_ix ix_list (pv 0) pe_int (fun _ _ => rfl)) pe_int (nomark _)) (pss_cons (ps_set (i := 2) sc_law_draw.nd rfl (Or.inl rfl) (pe_op op_mod (pe_callTy call_int1 (by rfl) Tx.n_int (by decide +kernel) (pa_cons (pe_ix ix_list (pv 0) pe_int (fun _ _ => rfl)) pa_nil)) (pv 1)))
        (pss_cons (ps_asg (pe_op op_fdivW (pe_callTy call_int1 (by rfl) Tx.n_int (by decide +kernel) (pa_cons (pe_ix ix_list (pv 0) pe_int (fun _ _ => rfl)) pa_nil)) (pv 1)) (pg_sub (pv 0) pe_int set_list))
        (pss_one (ps_ret (pv 2))))) pss_nil)
        (pss_cons (ps_set (i := 3) sc_law_draw.nd rfl (Or.inl rfl) (pe_ix ix_list (pv 0) pe_int (fun _ _ => rfl)))
        (pss_cons (ps_asg (pe_op op_add (pv 3) pe_int) (pg_sub (pv 0) pe_int set_list))
        (pss_cons (ps_set (i := 4) sc_law_draw.nd rfl (Or.inl rfl) (pe_op op_add (pe_op op_mul pe_int (pv 3)) pe_int))
        (C8.pss_cut (ps_if (pt_cmpR (op_neD hr.units) (pe_ix ix_list (pv 0) pe_int (fun _ _ => rfl)) (pe_lst pa_nil) (nomark _)) (pss_one (ps_set (i := 4) sc_law_draw.nd rfl (Or.inl rfl) (pe_ix ix_list (pe_ix ix_list (pv 0) pe_int (fun _ _ => rfl)) (pe_op op_mod (pe_callTy call_int1 (by rfl) Tx.n_int (by decide +kernel) (pa_cons (pv 3) pa_nil)) (pe_callB call_len_seq (by rfl) Tx.n_len (by decide +kernel) (pa_cons (pe_ix ix_list (pv 0) pe_int (fun _ _ => rfl)) pa_nil))) (fun _ _ => rfl)))) pss_nil)
        (C8.pss_cut (ps_if (PW.pt (pw_and (pt_cmpR op_lt (pv 3) (pe_callB call_len_seq (by rfl) Tx.n_len (by decide +kernel) (pa_cons (pe_ix ix_list (pv 0) pe_int (fun _ _ => rfl)) pa_nil)) (nomark _)) (pw_and1 (pt_cmpR op_ge (pe_callB call_abs (by rfl) Tx.n_abs (by decide +kernel) (pa_cons (pv 4) pa_nil)) (pe_op op_pow pe_int pe_int) (nomark _))))) (pss_cons (ps_set (i := 5) sc_law_draw.nd rfl (Or.inl rfl) (pe_op op_add (pe_op op_mul pe_int (pe_op op_sub (pe_callB call_abs (by rfl) Tx.n_abs (by decide +kernel) (pa_cons (pv 4) pa_nil)) (pe_op op_pow pe_int pe_int))) (pe_callTy call_int1 (by rfl) Tx.n_int (by decide +kernel) (pa_cons (pe_cmpR op_lt (pv 4) pe_int (nomark _)) pa_nil))))
        (pss_cons (ps_asg (pe_op op_fdivW (pe_callTy call_int1 (by rfl) Tx.n_int (by decide +kernel) (pa_cons (pv 5) pa_nil)) (pv 1)) (pg_sub (pv 0) pe_int set_list))
        (pss_one (ps_ret (pe_op op_mod (pe_callTy call_int1 (by rfl) Tx.n_int (by decide +kernel) (pa_cons (pv 5) pa_nil)) (pv 1)))))) pss_nil)
        (C8.pss_cut (ps_set (i := 6) sc_law_draw.nd rfl (Or.inl rfl) (pe_op op_mod (pe_callTy call_int1 (by rfl) Tx.n_int (by decide +kernel) (pa_cons (pe_op op_pow (pe_op op_add (pe_op op_add (pe_op op_mod (pe_callTy call_int1 (by rfl) Tx.n_int (by decide +kernel) (pa_cons (pv 4) pa_nil)) pe_int) (pe_op op_mul pe_int (pv 3))) pe_int) pe_int) pa_nil)) pe_int))
        (pss_cons (ps_set (i := 6) sc_law_draw.nd rfl (Or.inl rfl) (pe_op op_mod (pe_callTy call_int1 (by rfl) Tx.n_int (by decide +kernel) (pa_cons (pe_op op_pow (pe_op op_add (pe_op op_add (pe_op op_mul (pv 6) (pe_op op_add (pe_op op_mul pe_int (pv 3)) pe_int)) (pe_op op_mul (pe_op op_mul pe_int (pv 3)) (pv 3))) pe_int) pe_int) pa_nil)) pe_int))
        (pss_one (ps_ret (pe_op op_mod (pe_callTy call_int1 (by rfl) Tx.n_int (by decide +kernel) (pa_cons (pe_op op_fdiv (pv 6) pe_int) pa_nil)) (pv 1)))))))))))), ?_⟩
    -- if pen[2] > 0
    refine ⟨_, rfl, p, _, 2, .int g, rfl, rfl, SqL.of hp, rfl, _, _, rfl, rfl, _, rfl, ite2 (fun hg => ?_) (fun hg => ?_)⟩
    · refine ⟨_, rfl, p, _, 2, .int g, rfl, rfl, SqL.of hp, rfl, .inl ⟨_, rfl, ?_⟩⟩
      refine ⟨_, rfl, _, _, rfl, rfl, m0, ?_⟩
      refine ⟨_, rfl, p, _, 2, .int g, rfl, rfl, SqL.of hp, rfl, .inl ⟨_, rfl, ?_⟩⟩
      refine ⟨_, rfl, _, _, rfl, rfl, many_div m0 m2, ?_⟩
      refine ⟨_, rfl, p, _, 2, 2, rfl, rfl, hp, rfl, ?_⟩
      refine ⟨_, rfl, ?_⟩
      refine k _ _ ⟨ns, n, g / m, upd_same, by rw [upd_ne cp]; exact hc, n0, by omega⟩ (Kp.refl _ _).set (Int.emod_nonneg _ (by omega)) (Int.emod_lt_of_pos _ m0)
    · -- at = pen[1]; pen[1] = at + 1
      refine ⟨_, rfl, p, _, 1, .int n, rfl, rfl, SqL.of hp, rfl, ?_⟩
      refine ⟨_, rfl, _, _, rfl, rfl, _, rfl, p, _, 1, 1, rfl, rfl, hp, rfl, ?_⟩
      have hp1 : upd H p (.lst ([V.ref c, V.int n, V.int g].set 1 (.int (n + 1)))) p = some (.lst [V.ref c, V.int (n + 1), V.int g]) := upd_same
      have hc1 : upd H p (.lst ([V.ref c, V.int n, V.int g].set 1 (.int (n + 1)))) c = some (.lst (ns.map V.int)) := by rw [upd_ne cp]; exact hc
      have k1 : Kp p H (upd H p (.lst ([V.ref c, V.int n, V.int g].set 1 (.int (n + 1))))) := (Kp.refl _ _).set
      revert hp1 hc1 k1
      generalize upd H p (.lst ([V.ref c, V.int n, V.int g].set 1 (.int (n + 1)))) = H1
      intro hp1 hc1 k1
      -- cell = 41719 * at + 1327
      refine ⟨_, rfl, _, _, rfl, rfl, .inl ⟨by decide, by decide⟩, _, _, rfl, rfl, ?_⟩
      -- if pen[0] != []: cell = pen[0][..]
      refine ⟨fun σ H2 => ∃ z : Int, σ = [some (.ref p), some (.int m), none, some (.int n), some (.int z), none, none] ∧ Same H1 H2, ?_, ?_⟩
      · refine ⟨_, rfl, p, _, 0, .ref c, rfl, rfl, SqL.of hp1, rfl, Nat.zero_le _, fun q nq => ?_⟩
        have s2 : Same H1 (upd H1 q (.lst [])) := same_new nq
        refine ⟨_, _, .lst (SqL.of (s2 _ _ hc1)) (dpAll_flat (flat_ints ns)), .lst (SqL.of upd_same) .nil, shaped_list (flat_ints ns), rfl, _, rfl, ite2 (fun e => ?_) (fun e => ?_)⟩
        · rw [eqv_nil] at e
          have ne : ns.map V.int ≠ [] := fun z => by
            rw [z] at e
            cases e
          obtain ⟨x, hx, hat⟩ := at_mod (n := n) ne
          obtain ⟨z, _, rfl⟩ := List.mem_map.mp hx
          refine ⟨_, rfl, p, _, 0, .ref c, rfl, rfl, SqL.of (s2 _ _ hp1), rfl, _, rfl, .inl ⟨_, rfl, _, rfl, p, _, 0, .ref c, rfl, rfl, SqL.of (s2 _ _ hp1), rfl, c, _, rfl, .inl (SqL.of (s2 _ _ hc1)), _, _, rfl, rfl, ?_, c, _, _, .int z, rfl, rfl, SqL.of (s2 _ _ hc1), hat, z, rfl, s2⟩⟩
          have := List.length_pos_iff.mpr ne
          omega
        · exact ⟨_, rfl, s2⟩
      · rintro σ H2 ⟨z, rfl, s2⟩
        have hc2 := s2 _ _ hc1
        have hp2 := s2 _ _ hp1
        have k2 : Kp p H H2 := k1.trans (Kp.same s2)
        -- if at < len(pen[0]) and abs(cell) >= 10 ** 18
        refine ⟨fun σ H3 => σ = [some (.ref p), some (.int m), none, some (.int n), some (.int z), none, none] ∧ H3 = H2, ?_, ?_⟩
        · refine ⟨_, rfl, _, rfl, p, _, 0, .ref c, rfl, rfl, SqL.of hp2, rfl, c, _, rfl, .inl (SqL.of hc2), _, _, rfl, rfl, _, rfl, ite2 (fun _ => ?_) (fun _ => iteF ⟨rfl, rfl⟩)⟩
          refine ⟨_, rfl, z, rfl, _, _, rfl, rfl, cpow18, _, _, rfl, rfl, _, rfl, ite2 (fun _ => ?_) (fun _ => ⟨rfl, rfl⟩)⟩
          refine ⟨_, rfl, z, rfl, _, _, rfl, rfl, cpow18, _, _, rfl, rfl, _, _, rfl, rfl, .inl ⟨by decide, by decide⟩, _, rfl, _, _, rfl, rfl, .inr ⟨_, rfl, _, _, rfl, rfl, ?_⟩⟩
          refine ⟨_, rfl, .inl ⟨_, rfl, _, rfl, _, _, rfl, rfl, many_div m0 m2, _, rfl, p, _, 2, 2, rfl, rfl, hp2, rfl, ?_⟩⟩
          refine ⟨_, rfl, .inl ⟨_, rfl, _, rfl, _, _, rfl, rfl, m0, ?_⟩⟩
          refine k _ _ ⟨ns, n + 1, _, upd_same, by rw [upd_ne cp]; exact hc2, by omega, by omega⟩ k2.set (Int.emod_nonneg _ (by omega)) (Int.emod_lt_of_pos _ m0)
        · rintro σ H3 ⟨rfl, rfl⟩
          have z0 := Int.emod_nonneg z (b := 2147483549) (by decide)
          have z1 := Int.emod_lt_of_pos z (b := 2147483549) (by decide)
          refine ⟨fun σ H4 => ∃ x : Int, 0 ≤ x ∧ x < 2147483647 ∧ σ = [some (.ref p), some (.int m), none, some (.int n), some (.int z), none, some (.int x)] ∧ H4 = H3, ?_, ?_⟩
          · refine ⟨_, rfl, .inl ⟨_, rfl, _, _, rfl, rfl, (show (0 : Int) < 2147483549 by decide), _, rfl, _, _, rfl, rfl, .inl ⟨by decide, by decide⟩, _, _, rfl, rfl, _, _, rfl, rfl, _, _, rfl, rfl, ⟨by decide, by decide, by omega⟩, .inl ⟨_, rfl, _, _, rfl, rfl, (show (0 : Int) < 2147483647 by decide), ?_⟩⟩⟩
            exact ⟨_, Int.emod_nonneg _ (by decide), Int.emod_lt_of_pos _ (by decide), rfl, rfl⟩
          · rintro σ H4 ⟨x, x0, x1, rfl, rfl⟩
            obtain ⟨y0, y1⟩ := mix_small n0 (show n ≤ 1000000 by omega) x0 x1
            refine ⟨_, rfl, _, rfl, _, _, rfl, rfl, .inl ⟨by decide, by decide⟩, _, _, rfl, rfl, _, _, rfl, rfl, .inl ⟨by omega, by omega⟩, _, rfl, _, _, rfl, rfl, .inl ⟨by decide, by decide⟩, _, rfl, _, _, rfl, rfl, .inr ⟨by omega, by omega⟩, _, _, rfl, rfl, _, _, rfl, rfl, _, _, rfl, rfl, ⟨by decide, by decide, by omega⟩, .inl ⟨_, rfl, _, _, rfl, rfl, (show (0 : Int) < 2147483489 by decide), ?_⟩⟩
            refine ⟨_, rfl, _, _, rfl, rfl, cdiv64, .inl ⟨_, rfl, _, rfl, _, _, rfl, rfl, m0, ?_⟩⟩
            exact k _ _ ⟨ns, n + 1, g, hp2, hc2, by omega, by omega⟩ k2 (Int.emod_nonneg _ (by omega)) (Int.emod_lt_of_pos _ m0)
theorem has_law_draw (Tx : Txt K mg) (c : He.SaysX fa fn [] [] ex w hh K) (X : K.In hh) (GG : hh.Ns mainGlobals mg)   : Has P w K mg base "_law_draw" 1 ["_law_pen_here", "_law_many"] sp_law_draw := by
  obtain ⟨fd, F⟩ := c.t.d.def_ 9 (d := d_law_draw) rfl
  exact ⟨_, fd, ok_law_draw F Tx , He.glo_ok X GG (c.t.d.fact 11 (f := .glo "_law_draw") rfl), F.kp, F.bindsN fun _ _ _ _ _ _ us hl => match us, hl with | [_, _], _ => rfl⟩

end
end K01
namespace K01
open PySem PySem.Spec PyProof.Rows L2 Vf
section
variable {hh : Heap} {P : Program} {w : World} {K : PySem.W.Frag} {mg : Str → Option Value} {base : Heap}
/-! ### what the checks tell -/
abbrev NC (K : PySem.W.Frag) : Addr := He.ga K "Nothing"
def isI : V → Bool
  | .int _ => true
  | _ => false
def isB : V → Bool
  | .bl _ => true
  | _ => false
def isS : V → Bool
  | .str _ => true
  | _ => false
theorem knd_int {C : Addr} {H : Hp} {v : V} {k : Knd} (h : KndV C H v k) : k.is "int" = (isI v || isB v) := by
  cases v <;> cases k <;> first | rfl | exact h.elim
theorem knd_bool {C : Addr} {H : Hp} {v : V} {k : Knd} (h : KndV C H v k) : k.is "bool" = isB v := by
  cases v <;> cases k <;> first | rfl | exact h.elim
theorem knd_str {C : Addr} {H : Hp} {v : V} {k : Knd} (h : KndV C H v k) : k.is "str" = isS v := by
  cases v <;> cases k <;> first | rfl | exact h.elim
def isGrid (v : V) : Bool := isS v && inV v [.str "square", .str "triangle"]
def sp_is_grid (K : PySem.W.Frag) : Sp := fun vs H Q _ => ∃ (v : V) (k : Knd), vs = [v] ∧ KndV (NC K) H v k ∧ Q (.bl (isGrid v)) H
theorem sc_is_grid : FnScope ["value"] ["value"] (defScope s_is_grid) := ⟨rfl, rfl, rfl, by decide +kernel, rfl, by decide +kernel, by decide +kernel⟩
theorem ok_is_grid {f : Addr} {fd : FuncData} (F : FnP K "is_grid" s_is_grid f fd) (Tx : Txt K mg)   : FnOk P w K mg base CX0 1 f fd ["value"] (sp_is_grid K) := by
  refine F.ok sc_is_grid (fun vs H Q E h => ?_) (fun cdv A outer s H vs Q E hr h => ?_)
  · obtain ⟨v, k, rfl, _⟩ := h
    rfl
  · obtain ⟨v, k, rfl, hk, q⟩ := h
    refine ⟨_, PSs.nox (pss_one (ps_ret (pe_and (pe_callB (call_isY Tx.exc) (by rfl) Tx.n_isinstance (by decide +kernel) (pa_cons (pv 0) (pa_cons (pe_bltn (v := .ty "str") (by rfl) Tx.n_str (by decide +kernel) rfl) pa_nil))) (pe_one (pe_cmpR op_in_seq (pv 0) (pe_glob (v := .ref (He.ga K "KINDS")) (by rfl) Tx.g_KINDS rfl) rfl))))), ?_⟩
    refine ⟨_, rfl, v, "str", k, _, rfl, hk, kit_is Tx.kit hk (by decide), _, rfl, ?_⟩
    rw [knd_str hk]
    cases v with
    | str z => exact ⟨_, rfl, _, _, rfl, .inr (Tx.kinds _), rfl, rfl, q⟩
    | _ => exact q
theorem has_is_grid (Tx : Txt K mg) (c : He.SaysX fa fn [] [] ex w hh K) (X : K.In hh) (GG : hh.Ns mainGlobals mg)   : Has P w K mg base "is_grid" 1 ["value"] (sp_is_grid K) := by
  obtain ⟨fd, F⟩ := c.t.d.def_ 0 (d := d_is_grid) rfl
  exact ⟨_, fd, ok_is_grid F Tx , He.glo_ok X GG (c.t.d.fact 2 (f := .glo "is_grid") rfl), F.kp, F.bindsN fun _ _ _ _ _ _ us hl => match us, hl with | [_], _ => rfl⟩
def sp_is_integer (K : PySem.W.Frag) : Sp := fun vs H Q _ => ∃ (v : V) (k : Knd), vs = [v] ∧ KndV (NC K) H v k ∧ Q (.bl (isI v)) H
theorem sc_is_integer : FnScope ["value"] ["value"] (defScope s_is_integer) := ⟨rfl, rfl, rfl, by decide +kernel, rfl, by decide +kernel, by decide +kernel⟩
theorem ok_is_integer {f : Addr} {fd : FuncData} (F : FnP K "is_integer" s_is_integer f fd) (Tx : Txt K mg)   : FnOk P w K mg base CX0 1 f fd ["value"] (sp_is_integer K) := by
  refine F.ok sc_is_integer (fun vs H Q E h => ?_) (fun cdv A outer s H vs Q E hr h => ?_)
  · obtain ⟨v, k, rfl, _⟩ := h
    rfl
  · obtain ⟨v, k, rfl, hk, q⟩ := h
    refine ⟨_, PSs.nox (pss_one (ps_ret (pe_and (pe_callB (call_isY Tx.exc) (by rfl) Tx.n_isinstance (by decide +kernel) (pa_cons (pv 0) (pa_cons (pe_bltn (v := .ty "int") (by rfl) Tx.n_int (by decide +kernel) rfl) pa_nil))) (pe_one (pe_not (pe_callB (call_isY Tx.exc) (by rfl) Tx.n_isinstance (by decide +kernel) (pa_cons (pv 0) (pa_cons (pe_bltn (v := .ty "bool") (by rfl) Tx.n_bool (by decide +kernel) rfl) pa_nil)))))))), ?_⟩
    refine ⟨_, rfl, v, "int", k, _, rfl, hk, kit_is Tx.kit hk (by decide), _, rfl, ?_⟩
    rw [knd_int hk]
    refine ite2 (fun e => ?_) (fun e => ?_)
    · refine ⟨_, rfl, v, "bool", k, _, rfl, hk, kit_is Tx.kit hk (by decide), _, rfl, ?_⟩
      rw [knd_bool hk]
      cases v <;> first | exact q | cases e
    · cases v <;> first | exact q | exact absurd rfl e
theorem has_is_integer (Tx : Txt K mg) (c : He.SaysX fa fn [] [] ex w hh K) (X : K.In hh) (GG : hh.Ns mainGlobals mg)   : Has P w K mg base "is_integer" 1 ["value"] (sp_is_integer K) := by
  obtain ⟨fd, F⟩ := c.t.d.def_ 1 (d := d_is_integer) rfl
  exact ⟨_, fd, ok_is_integer F Tx , He.glo_ok X GG (c.t.d.fact 3 (f := .glo "is_integer") rfl), F.kp, F.bindsN fun _ _ _ _ _ _ us hl => match us, hl with | [_], _ => rfl⟩
def sp_is_kind (K : PySem.W.Frag) : Sp := sp_is_grid K
theorem sc_is_kind : FnScope ["value"] ["value"] (defScope s_is_kind) := ⟨rfl, rfl, rfl, by decide +kernel, rfl, by decide +kernel, by decide +kernel⟩
theorem ok_is_kind {f : Addr} {fd : FuncData} (F : FnP K "is_kind" s_is_kind f fd) (Tx : Txt K mg) (h_is_grid : Has P w K mg base "is_grid" 1 ["value"] (sp_is_grid K))  : FnOk P w K mg base CX0 2 f fd ["value"] (sp_is_kind K) := by
  obtain ⟨f_is_grid, fd_is_grid, G_is_grid, g_is_grid, k_is_grid, b_is_grid⟩ := h_is_grid
  refine F.ok sc_is_kind (fun vs H Q E h => ?_) (fun cdv A outer s H vs Q E hr h => ?_)
  · obtain ⟨v, k, rfl, _⟩ := h
    rfl
  · obtain ⟨v, k, rfl, hk, q⟩ := h
    refine ⟨_, PSs.nox (pss_one (ps_ret (pe_call G_is_grid (hr.mono (by decide)) (by rfl) g_is_grid k_is_grid b_is_grid .nil pass0 (pa_cons (pv 0) pa_nil)))), ?_⟩
    exact ⟨_, rfl, v, k, rfl, hk, q⟩
theorem has_is_kind (Tx : Txt K mg) (c : He.SaysX fa fn [] [] ex w hh K) (X : K.In hh) (GG : hh.Ns mainGlobals mg) (h_is_grid : Has P w K mg base "is_grid" 1 ["value"] (sp_is_grid K))  : Has P w K mg base "is_kind" 2 ["value"] (sp_is_kind K) := by
  obtain ⟨fd, F⟩ := c.t.d.def_ 3 (d := d_is_kind) rfl
  exact ⟨_, fd, ok_is_kind F Tx h_is_grid, He.glo_ok X GG (c.t.d.fact 5 (f := .glo "is_kind") rfl), F.kp, F.bindsN fun _ _ _ _ _ _ us hl => match us, hl with | [_], _ => rfl⟩
def lo1 (x : Int) : V → Bool
  | .int i => decide (i ≤ x)
  | _ => true
def hi1 (x : Int) : V → Bool
  | .int j => decide (x ≤ j)
  | _ => true
def bnd (v l m : V) : Bool := match v with
  | .int x => lo1 x l && hi1 x m
  | _ => false
def noi : V → Bool
  | .non => true
  | .int _ => true
  | _ => false
def sp_is_within (K : PySem.W.Frag) : Sp := fun vs H Q _ => ∃ (v l m : V) (k : Knd), vs = [v, l, m] ∧ KndV (NC K) H v k ∧ noi l = true ∧ noi m = true ∧ Q (.bl (bnd v l m)) H
theorem sc_is_within : FnScope ["value", "least", "most"] ["value", "least", "most"] (defScope s_is_within) := ⟨rfl, rfl, rfl, by decide +kernel, rfl, by decide +kernel, by decide +kernel⟩
theorem ok_is_within {f : Addr} {fd : FuncData} (F : FnP K "is_within" s_is_within f fd) (Tx : Txt K mg) (h_is_integer : Has P w K mg base "is_integer" 1 ["value"] (sp_is_integer K))  : FnOk P w K mg base CX0 2 f fd ["value", "least", "most"] (sp_is_within K) := by
  obtain ⟨f_is_integer, fd_is_integer, G_is_integer, g_is_integer, k_is_integer, b_is_integer⟩ := h_is_integer
  refine F.ok sc_is_within (fun vs H Q E h => ?_) (fun cdv A outer s H vs Q E hr h => ?_)
  · obtain ⟨v, l, m, k, rfl, _⟩ := h
    rfl
  · obtain ⟨v, l, m, k, rfl, hk, hl, hm, q⟩ := h
    refine ⟨_, PSs.nox (pss_cons (ps_if (pt_not (pt_val (pe_call G_is_integer (hr.mono (by decide)) (by rfl) g_is_integer k_is_integer b_is_integer .nil pass0 (pa_cons (pv 0) pa_nil)))) (pss_one (ps_ret pe_bl)) pss_nil)
        (pss_one (ps_ret (pe_and (pe_or (pe_cmpR op_isN (pv 1) pe_non (nomark _)) (pe_one (pe_cmpR op_ge (pv 0) (pv 1) (nomark _)))) (pe_one (pe_or (pe_cmpR op_isN (pv 2) pe_non (nomark _)) (pe_one (pe_cmpR op_le (pv 0) (pv 2) (nomark _))))))))), ?_⟩
    refine ⟨_, rfl, v, k, rfl, hk, _, rfl, ite2 (fun e => ?_) (fun e => ?_)⟩
    · cases v <;> first | exact q | cases e
    · cases v with
      | int x =>
        cases l with
        | non =>
          refine ⟨_, rfl, rfl, _, rfl, ?_⟩
          refine ⟨_, rfl, ?_⟩
          cases m with
          | non => exact ⟨_, rfl, rfl, _, rfl, q⟩
          | int j => exact ⟨_, rfl, rfl, _, rfl, _, rfl, _, rfl, _, _, rfl, rfl, q⟩
          | _ => cases hm
        | int i =>
          refine ⟨_, rfl, rfl, _, rfl, _, rfl, _, rfl, _, _, rfl, rfl, _, rfl, ?_⟩
          refine ite2 (fun e1 => ?_) (fun e1 => ?_)
          · have q2 : Q (.bl (hi1 x m)) H := by
              have q3 : Q (.bl (decide (i ≤ x) && hi1 x m)) H := q
              rw [e1, Bool.true_and] at q3
              exact q3
            cases m with
            | non => exact ⟨_, rfl, rfl, _, rfl, q2⟩
            | int j => exact ⟨_, rfl, rfl, _, rfl, _, rfl, _, rfl, _, _, rfl, rfl, q2⟩
            | _ => cases hm
          · have q3 : Q (.bl (decide (i ≤ x) && hi1 x m)) H := q
            rw [Bool.eq_false_iff.mpr e1, Bool.false_and] at q3
            exact q3
        | _ => cases hl
      | _ => exact absurd rfl e
theorem has_is_within (Tx : Txt K mg) (c : He.SaysX fa fn [] [] ex w hh K) (X : K.In hh) (GG : hh.Ns mainGlobals mg) (h_is_integer : Has P w K mg base "is_integer" 1 ["value"] (sp_is_integer K))  : Has P w K mg base "is_within" 2 ["value", "least", "most"] (sp_is_within K) := by
  obtain ⟨fd, F⟩ := c.t.d.def_ 2 (d := d_is_within) rfl
  exact ⟨_, fd, ok_is_within F Tx h_is_integer, He.glo_ok X GG (c.t.d.fact 4 (f := .glo "is_within") rfl), F.kp, F.bindsN fun _ _ _ _ _ _ us hl => match us, hl with | [_, _, _], _ => rfl⟩

end
end K01
namespace K01
open PySem PySem.Spec PyProof.Rows L2 Vf
section
variable {hh : Heap} {P : Program} {w : World} {K : PySem.W.Frag} {mg : Str → Option Value} {base : Heap}
/-! ### rows -/
def Knd.seq (k : Knd) : Bool := k.is "list" || k.is "tuple"
def sp_is_listed (K : PySem.W.Frag) : Sp := fun vs H Q _ => ∃ (v : V) (k : Knd), vs = [v] ∧ KndV (NC K) H v k ∧ ∀ H', Same H H' → Q (.bl (Knd.seq k)) H'
theorem sc_is_listed : FnScope ["value"] ["value"] (defScope s_is_listed) := ⟨rfl, rfl, rfl, by decide +kernel, rfl, by decide +kernel, by decide +kernel⟩
theorem ok_is_listed {f : Addr} {fd : FuncData} (F : FnP K "is_listed" s_is_listed f fd) (Tx : Txt K mg)   : FnOk P w K mg base CX0 1 f fd ["value"] (sp_is_listed K) := by
  refine F.ok sc_is_listed (fun vs H Q E h => ?_) (fun cdv A outer s H vs Q E hr h => ?_)
  · obtain ⟨v, k, rfl, _⟩ := h
    rfl
  · obtain ⟨v, k, rfl, hk, q⟩ := h
    refine ⟨_, PSs.nox (pss_one (ps_ret (pe_callB (call_isTY Tx.exc) (by rfl) Tx.n_isinstance (by decide +kernel) (pa_cons (pv 0) (pa_cons (pe_tup (pa_cons (pe_bltn (v := .ty "list") (by rfl) Tx.n_list (by decide +kernel) rfl) (pa_cons (pe_bltn (v := .ty "tuple") (by rfl) Tx.n_tuple (by decide +kernel) rfl) pa_nil))) pa_nil))))), ?_⟩
    refine ⟨_, rfl, le_line (by decide), fun t nt => ?_⟩
    exact ⟨v, t, _, k, _, _, rfl, upd_same, .cons (.ty "list") (.cons (.ty "tuple") .nil), hk.same (same_new nt), kit_seq Tx.kit hk, q _ (same_new nt)⟩
theorem has_is_listed (Tx : Txt K mg) (c : He.SaysX fa fn [] [] ex w hh K) (X : K.In hh) (GG : hh.Ns mainGlobals mg)   : Has P w K mg base "is_listed" 1 ["value"] (sp_is_listed K) := by
  obtain ⟨fd, F⟩ := c.t.d.def_ 5 (d := d_is_listed) rfl
  exact ⟨_, fd, ok_is_listed F Tx , He.glo_ok X GG (c.t.d.fact 7 (f := .glo "is_listed") rfl), F.kp, F.bindsN fun _ _ _ _ _ _ us hl => match us, hl with | [_], _ => rfl⟩
/-- the items of a list or a tuple, each of some kind -/
def Row (C : Addr) (H : Hp) (v : V) (xs : List V) : Prop := ∃ a : Addr, v = .ref a ∧ (H a = some (.lst xs) ∨ H a = some (.tup xs)) ∧ xs.length ≤ 1000 ∧ ∀ x ∈ xs, ∃ k, KndV C H x k
theorem Row.same {C : Addr} {H H' : Hp} {v : V} {xs : List V} (h : Row C H v xs) (s : Same H H') : Row C H' v xs := by
  obtain ⟨a, e, h1, h2, h3⟩ := h
  refine ⟨a, e, ?_, h2, fun x hx => ?_⟩
  · rcases h1 with h1 | h1
    · exact .inl (s _ _ h1)
    · exact .inr (s _ _ h1)
  · obtain ⟨k, hk⟩ := h3 x hx
    exact ⟨k, hk.same s⟩
/-- what is asked of a value that the checks may see: its kind, its items, its length -/
structure Seen (C : Addr) (H : Hp) (v : V) (k : Knd) (xs : List V) : Prop where
  knd : KndV C H v k
  row : Knd.seq k = true → Row C H v xs
  txt : ∀ z, v = .str z → z.length ≤ 1000 ∧ PyData.strOk z = true
theorem Seen.same {C : Addr} {H H' : Hp} {v : V} {k : Knd} {xs : List V} (h : Seen C H v k xs) (s : Same H H') : Seen C H' v k xs :=
  ⟨h.knd.same s, fun e => (h.row e).same s, h.txt⟩
theorem bls_map (xs : List V) : (xs.filter fun _ => true).map (fun x => V.bl (isI x)) = (xs.map isI).map V.bl := by
  rw [List.filter_eq_self.mpr fun _ _ => rfl, List.map_map]
  rfl
def sp_is_row (K : PySem.W.Frag) : Sp := fun vs H Q _ => ∃ (v : V) (k : Knd) (xs : List V), vs = [v] ∧ Seen (NC K) H v k xs ∧ ∀ H', Same H H' → Q (.bl (Knd.seq k && (xs.map isI).all id)) H'
theorem sc_is_row : FnScope ["value", "item"] ["value"] (defScope s_is_row) := ⟨rfl, rfl, rfl, by decide +kernel, rfl, by decide +kernel, by decide +kernel⟩
theorem ok_is_row {f : Addr} {fd : FuncData} (F : FnP K "is_row" s_is_row f fd) (Tx : Txt K mg) (h_is_listed : Has P w K mg base "is_listed" 1 ["value"] (sp_is_listed K)) (h_is_integer : Has P w K mg base "is_integer" 1 ["value"] (sp_is_integer K))  : FnOk P w K mg base CX0 2 f fd ["value"] (sp_is_row K) := by
  obtain ⟨f_is_listed, fd_is_listed, G_is_listed, g_is_listed, k_is_listed, b_is_listed⟩ := h_is_listed
  obtain ⟨f_is_integer, fd_is_integer, G_is_integer, g_is_integer, k_is_integer, b_is_integer⟩ := h_is_integer
  refine F.ok sc_is_row (fun vs H Q E h => ?_) (fun cdv A outer s H vs Q E hr h => ?_)
  · obtain ⟨v, k, xs, rfl, _⟩ := h
    rfl
  · obtain ⟨v, k, xs, rfl, hv, q⟩ := h
    by_cases hs : Knd.seq k = true
    · obtain ⟨a, rfl, ha, hl, hx⟩ := hv.row hs
      rw [hs, Bool.true_and] at q
      rcases ha with ha | ha
      · refine ⟨_, PSs.nox (pss_one (ps_ret (pe_and (pe_call G_is_listed (hr.mono (by decide)) (by rfl) g_is_listed k_is_listed b_is_listed .nil pass0 (pa_cons (pv 0) pa_nil)) (pe_one (pe_callB (cr_all rfl) (by rfl) Tx.n_all (by decide +kernel) (pa_cons (pe_lc (own := [("item", 1)]) (g := gName 1) (tt := tYes) rfl sc_is_row.nd (pi_list (pv 0)) (blkOk_by (own := [("item", 1)]) (N := ["value", "item"]) (sc := defScope s_is_row) (by decide +kernel)) (fun _ _ _ _ _ => (pg_name (i := 1) sc_is_row.nd rfl (Or.inl rfl))) (fun _ _ _ _ _ => pts_nil) (fun _ _ _ _ _ => (pe_call G_is_integer (hr.mono (by decide)) (by rfl) g_is_integer k_is_integer b_is_integer .nil pass0 (pa_cons (pv 1) pa_nil)))) pa_nil)))))), ?_⟩
        refine ⟨_, rfl, _, k, rfl, hv.knd, fun H1 s1 => ⟨_, rfl, ?_⟩⟩
        refine ite2 (fun _ => ?_) (fun e => absurd hs e)
        refine ⟨_, rfl, a, rfl, ⟨xs, SqL.of (s1 _ _ ha)⟩, fun D nD => ?_⟩
        refine lc_pure (walk_list (K := K) (a := a) (xs := xs)) xs rfl (by omega) (fun i H x H' y => ⟨same_of_eq y.1, y.2⟩) (fun x => .bl (isI x)) (fun _ => true) nD (fun H s => SqL.of (s _ _ (s1 _ _ ha))) (fun i x H2 Q1 Q0 hi s2 q1 q0 => ?_) (fun H2 s2 hD => ?_)
        · refine ⟨rfl, ?_⟩
          obtain ⟨kx, hkx⟩ := hx x (List.mem_of_getElem? hi)
          exact ⟨_, rfl, x, kx, rfl, (hkx.same s1).same s2, q1 rfl _ (Same.refl _)⟩
        · rw [bls_map] at hD
          exact ⟨D, _, rfl, SqL.of hD, q _ (s1.trans s2)⟩
      · refine ⟨_, PSs.nox (pss_one (ps_ret (pe_and (pe_call G_is_listed (hr.mono (by decide)) (by rfl) g_is_listed k_is_listed b_is_listed .nil pass0 (pa_cons (pv 0) pa_nil)) (pe_one (pe_callB (cr_all rfl) (by rfl) Tx.n_all (by decide +kernel) (pa_cons (pe_lc (own := [("item", 1)]) (g := gName 1) (tt := tYes) rfl sc_is_row.nd (pi_tup (pv 0)) (blkOk_by (own := [("item", 1)]) (N := ["value", "item"]) (sc := defScope s_is_row) (by decide +kernel)) (fun _ _ _ _ _ => (pg_name (i := 1) sc_is_row.nd rfl (Or.inl rfl))) (fun _ _ _ _ _ => pts_nil) (fun _ _ _ _ _ => (pe_call G_is_integer (hr.mono (by decide)) (by rfl) g_is_integer k_is_integer b_is_integer .nil pass0 (pa_cons (pv 1) pa_nil)))) pa_nil)))))), ?_⟩
        refine ⟨_, rfl, _, k, rfl, hv.knd, fun H1 s1 => ⟨_, rfl, ?_⟩⟩
        refine ite2 (fun _ => ?_) (fun e => absurd hs e)
        refine ⟨_, rfl, a, rfl, ⟨xs, SqT.of (s1 _ _ ha)⟩, fun D nD => ?_⟩
        refine lc_pure (walk_tup (K := K) (a := a) (xs := xs)) xs rfl (by omega) (fun i H x H' y => ⟨same_of_eq y.1, y.2⟩) (fun x => .bl (isI x)) (fun _ => true) nD (fun H s => SqT.of (s _ _ (s1 _ _ ha))) (fun i x H2 Q1 Q0 hi s2 q1 q0 => ?_) (fun H2 s2 hD => ?_)
        · refine ⟨rfl, ?_⟩
          obtain ⟨kx, hkx⟩ := hx x (List.mem_of_getElem? hi)
          exact ⟨_, rfl, x, kx, rfl, (hkx.same s1).same s2, q1 rfl _ (Same.refl _)⟩
        · rw [bls_map] at hD
          exact ⟨D, _, rfl, SqL.of hD, q _ (s1.trans s2)⟩
    · have e : Knd.seq k = false := Bool.eq_false_iff.mpr hs
      rw [e, Bool.false_and] at q
      refine ⟨_, PSs.nox (pss_one (ps_ret (pe_and (pe_call G_is_listed (hr.mono (by decide)) (by rfl) g_is_listed k_is_listed b_is_listed .nil pass0 (pa_cons (pv 0) pa_nil)) (pe_one (pe_callB (cr_all rfl) (by rfl) Tx.n_all (by decide +kernel) (pa_cons (pe_lc (own := [("item", 1)]) (g := gName 1) (tt := tYes) rfl sc_is_row.nd (pi_list (pv 0)) (blkOk_by (own := [("item", 1)]) (N := ["value", "item"]) (sc := defScope s_is_row) (by decide +kernel)) (fun _ _ _ _ _ => (pg_name (i := 1) sc_is_row.nd rfl (Or.inl rfl))) (fun _ _ _ _ _ => pts_nil) (fun _ _ _ _ _ => (pe_call G_is_integer (hr.mono (by decide)) (by rfl) g_is_integer k_is_integer b_is_integer .nil pass0 (pa_cons (pv 1) pa_nil)))) pa_nil)))))), ?_⟩
      refine ⟨_, rfl, _, k, rfl, hv.knd, fun H1 s1 => ⟨_, rfl, ?_⟩⟩
      refine ite2 (fun e1 => absurd e1 hs) (fun _ => q _ s1)
theorem has_is_row (Tx : Txt K mg) (c : He.SaysX fa fn [] [] ex w hh K) (X : K.In hh) (GG : hh.Ns mainGlobals mg) (h_is_listed : Has P w K mg base "is_listed" 1 ["value"] (sp_is_listed K)) (h_is_integer : Has P w K mg base "is_integer" 1 ["value"] (sp_is_integer K))  : Has P w K mg base "is_row" 2 ["value"] (sp_is_row K) := by
  obtain ⟨fd, F⟩ := c.t.d.def_ 6 (d := d_is_row) rfl
  exact ⟨_, fd, ok_is_row F Tx h_is_listed h_is_integer, He.glo_ok X GG (c.t.d.fact 8 (f := .glo "is_row") rfl), F.kp, F.bindsN fun _ _ _ _ _ _ us hl => match us, hl with | [_], _ => rfl⟩
/-! ### names -/
def smallC : List Nat := ("abcdefghijklmnopqrstuvwxyz" : Str).cps.toList
def digC : List Nat := ("0123456789" : Str).cps.toList
def okC (c : Nat) : Bool := decide (c ∈ smallC) || decide (c ∈ digC)
def nameC : List Nat → Bool
  | [] => false
  | c :: r => decide ((c :: r).length ≤ 12) && (decide (c ∈ smallC) && (c :: r).all okC)
def isName : V → Bool
  | .str z => nameC z.cps.toList
  | _ => false
def okV : V → Bool
  | .str z => (match z.cps.toList with | [c] => okC c | _ => false)
  | _ => false
theorem okV_sign (c : Nat) : okV (.str ⟨#[c]⟩) = okC c := rfl
theorem sgs_all (z : Str) : ((sgs z).map okV).all id = z.cps.toList.all okC := by
  unfold sgs
  rw [List.map_map, List.all_map]
  rfl
theorem nameC_len {l : List Nat} (h : l.length < 1) : nameC l = false := by
  cases l with
  | nil => rfl
  | cons c r => simp at h
theorem nameC_long {l : List Nat} (h : 12 < l.length) : nameC l = false := by
  cases l with
  | nil => rfl
  | cons c r =>
    show (decide ((c :: r).length ≤ 12) && _) = false
    rw [decide_eq_false (by omega), Bool.false_and]
theorem str_len (z : Str) : z.length = z.cps.toList.length := by simp [Str.length]
theorem bls_ok (z : Str) : ((sgs z).filter fun _ => true).map (fun x => V.bl (okV x)) = ((sgs z).map okV).map V.bl := by
  rw [List.filter_eq_self.mpr fun _ _ => rfl, List.map_map]
  rfl
def sp_is_name (K : PySem.W.Frag) : Sp := fun vs H Q _ => ∃ (v : V) (k : Knd) (xs : List V), vs = [v] ∧ Seen (NC K) H v k xs ∧ ∀ H', Same H H' → Q (.bl (isName v)) H'
theorem sc_is_name : FnScope ["value", "sign"] ["value"] (defScope s_is_name) := ⟨rfl, rfl, rfl, by decide +kernel, rfl, by decide +kernel, by decide +kernel⟩
theorem ok_is_name {f : Addr} {fd : FuncData} (F : FnP K "is_name" s_is_name f fd) (Tx : Txt K mg)   : FnOk P w K mg base CX0 1 f fd ["value"] (sp_is_name K) := by
  refine F.ok sc_is_name (fun vs H Q E h => ?_) (fun cdv A outer s H vs Q E hr h => ?_)
  · obtain ⟨v, k, xs, rfl, _⟩ := h
    rfl
  · obtain ⟨v, k, xs, rfl, hv, q⟩ := h
    refine ⟨_, PSs.nox (pss_cons (ps_if (PW.pt (pw_or (pt_not (pt_val (pe_callB (call_isY Tx.exc) (by rfl) Tx.n_isinstance (by decide +kernel) (pa_cons (pv 0) (pa_cons (pe_bltn (v := .ty "str") (by rfl) Tx.n_str (by decide +kernel) rfl) pa_nil))))) (pw_or (pt_cmpR op_lt (pe_callB call_len_str (by rfl) Tx.n_len (by decide +kernel) (pa_cons (pv 0) pa_nil)) pe_int (nomark _)) (pw_or1 (pt_cmpR op_gt (pe_callB call_len_str (by rfl) Tx.n_len (by decide +kernel) (pa_cons (pv 0) pa_nil)) (pe_glob (v := .int 12) (by rfl) (Tx.c_LONGEST_NAME).choose_spec ⟨_, rfl⟩) (nomark _)))))) (pss_one (ps_ret pe_bl)) pss_nil)
        (pss_one (ps_ret (pe_and (pe_cmpR op_in_sign (pe_ix ix_str (pv 0) pe_int (fun _ _ => rfl)) (pe_glob (v := .str "abcdefghijklmnopqrstuvwxyz") (by rfl) (Tx.c_SMALL).choose_spec ⟨_, rfl⟩) rfl) (pe_one (pe_callB (cr_all rfl) (by rfl) Tx.n_all (by decide +kernel) (pa_cons (pe_lc (own := [("sign", 1)]) (g := gName 1) (tt := tYes) rfl sc_is_name.nd (pi_str (pv 0)) (blkOk_by (own := [("sign", 1)]) (N := ["value", "sign"]) (sc := defScope s_is_name) (by decide +kernel)) (fun _ _ _ _ _ => (pg_name (i := 1) sc_is_name.nd rfl (Or.inl rfl))) (fun _ _ _ _ _ => pts_nil) (fun _ _ _ _ _ => (pe_or (pe_cmpR op_in_sign (pv 1) (pe_glob (v := .str "abcdefghijklmnopqrstuvwxyz") (by rfl) (Tx.c_SMALL).choose_spec ⟨_, rfl⟩) rfl) (pe_one (pe_cmpR op_in_sign (pv 1) (pe_glob (v := .str "0123456789") (by rfl) (Tx.c_DIGITS).choose_spec ⟨_, rfl⟩) rfl))))) pa_nil))))))), ?_⟩
    refine ⟨_, rfl, v, "str", k, _, rfl, hv.knd, kit_is Tx.kit hv.knd (by decide), _, rfl, ?_⟩
    rw [knd_str hv.knd]
    cases v with
    | str z =>
      have hz := (hv.txt z rfl).1
      have hl : z.length ≤ sizeLine := le_line (by omega)
      have el := str_len z
      refine ite2 (fun e => by cases e) (fun _ => ?_)
      refine ⟨_, rfl, _, rfl, hl, _, _, rfl, rfl, _, rfl, ite2 (fun e => ?_) (fun e => ?_)⟩
      · have h1 : nameC z.cps.toList = false := nameC_len (by
          have := of_decide_eq_true e
          omega)
        show Q (.bl false) H
        rw [← h1]
        exact q _ (Same.refl _)
      · have n0 : ¬ ((z.length : Int) < 1) := fun x => e (decide_eq_true x)
        refine ⟨_, rfl, _, rfl, hl, _, _, rfl, rfl, _, rfl, ite2 (fun e2 => ?_) (fun e2 => ?_)⟩
        · have h1 : nameC z.cps.toList = false := nameC_long (by
            have := of_decide_eq_true e2
            omega)
          show Q (.bl false) H
          rw [← h1]
          exact q _ (Same.refl _)
        · have n1 : ¬ ((12 : Int) < z.length) := fun x => e2 (decide_eq_true x)
          obtain ⟨c, r, hc⟩ : ∃ c r, z.cps.toList = c :: r := by
            cases h : z.cps.toList with
            | nil =>
              rw [h] at el
              simp at el
              omega
            | cons c r => exact ⟨c, r, rfl⟩
          have hat : atI z.cps.toList 0 = some c := by
            rw [hc]
            exact atI_nat (j := 0) rfl
          have hn : nameC z.cps.toList = (decide (c ∈ smallC) && z.cps.toList.all okC) := by
            rw [hc]
            have h12 : (c :: r).length ≤ 12 := by
              rw [← hc]
              omega
            show (decide ((c :: r).length ≤ 12) && (decide (c ∈ smallC) && (c :: r).all okC)) = _
            rw [decide_eq_true h12, Bool.true_and]
          refine ⟨_, rfl, z, 0, c, rfl, rfl, hl, hat, c, _, rfl, rfl, _, rfl, ite2 (fun e3 => ?_) (fun e3 => ?_)⟩
          · refine ⟨_, rfl, z, rfl, fun D nD => ?_⟩
            refine lc_pure walk_sgs (sgs z) (sgs_len z).symm (by rw [sgs_len]; have : z.cps.size = z.length := rfl; omega) (fun i H x H' y => ⟨same_of_eq y.1, y.2⟩) (fun x => .bl (okV x)) (fun _ => true) nD (fun _ _ => trivial) (fun i x H2 Q1 Q0 hi s2 q1 q0 => ?_) (fun H2 s2 hD => ?_)
            · refine ⟨rfl, ?_⟩
              obtain ⟨d, _, rfl⟩ := List.mem_map.mp (List.mem_of_getElem? hi)
              have q2 := q1 rfl _ (Same.refl _)
              show _
              refine ⟨_, rfl, d, _, rfl, rfl, _, rfl, ite2 (fun e4 => ?_) (fun e4 => ?_)⟩
              · have e5 : decide (d ∈ smallC) = true := e4
                have e6 : okV (.str ⟨#[d]⟩) = true := by
                  rw [okV_sign]
                  unfold okC
                  rw [e5] <;> rfl
                rw [e6] at q2
                exact q2
              · have e5 : decide (d ∈ smallC) = false := Bool.eq_false_iff.mpr e4
                refine ⟨_, rfl, d, _, rfl, rfl, ?_⟩
                have e6 : okV (.str ⟨#[d]⟩) = decide (d ∈ digC) := by
                  rw [okV_sign]
                  unfold okC
                  rw [e5] <;> rfl
                rw [e6] at q2
                exact q2
            · rw [bls_ok] at hD
              refine ⟨D, _, rfl, SqL.of hD, ?_⟩
              rw [sgs_all]
              have q2 := q H2 s2
              have e5 : isName (.str z) = z.cps.toList.all okC := by
                show nameC z.cps.toList = _
                rw [hn, show decide (c ∈ smallC) = true from e3, Bool.true_and]
              rw [e5] at q2
              exact q2
          · have e5 : isName (.str z) = false := by
              show nameC z.cps.toList = _
              rw [hn, show decide (c ∈ smallC) = false from Bool.eq_false_iff.mpr e3, Bool.false_and]
            have q2 := q H (Same.refl _)
            rw [e5] at q2
            exact q2
    | _ => exact ite2 (fun _ => q _ (Same.refl _)) (fun e => absurd rfl e)
theorem has_is_name (Tx : Txt K mg) (c : He.SaysX fa fn [] [] ex w hh K) (X : K.In hh) (GG : hh.Ns mainGlobals mg)   : Has P w K mg base "is_name" 1 ["value"] (sp_is_name K) := by
  obtain ⟨fd, F⟩ := c.t.d.def_ 4 (d := d_is_name) rfl
  exact ⟨_, fd, ok_is_name F Tx , He.glo_ok X GG (c.t.d.fact 6 (f := .glo "is_name") rfl), F.kp, F.bindsN fun _ _ _ _ _ _ us hl => match us, hl with | [_], _ => rfl⟩

end
end K01
namespace K01
open PySem PySem.Spec PyProof.Rows L2 Vf
section
variable {hh : Heap} {P : Program} {w : World} {K : PySem.W.Frag} {mg : Str → Option Value} {base : Heap}
/-! ### the first that stands twice -/
def hasK (l : List L2.Key) (k : L2.Key) : Bool := l.any fun j => decide (j = k)
def ftwGo (seen : List L2.Key) : List L2.Key → V
  | [] => .non
  | k :: r => if hasK seen k = true then kV k else ftwGo (seen ++ [k]) r
def sp_first_twice (K : PySem.W.Frag) : Sp := fun vs H Q _ => ∃ (a : Addr) (ks : List L2.Key), vs = [.ref a] ∧ (H a = some (.lst (ks.map kV)) ∨ H a = some (.tup (ks.map kV))) ∧ ks.length ≤ 1000 ∧ ∀ H', Same H H' → Q (ftwGo [] ks) H'
theorem sc_first_twice : FnScope ["values", "seen", "value"] ["values"] (defScope s_first_twice) := ⟨rfl, rfl, rfl, by decide +kernel, rfl, by decide +kernel, by decide +kernel⟩
theorem ok_first_twice {f : Addr} {fd : FuncData} (F : FnP K "first_twice" s_first_twice f fd) (Tx : Txt K mg)   : FnOk P w K mg base CX0 1 f fd ["values"] (sp_first_twice K) := by
  refine F.ok sc_first_twice (fun vs H Q E h => ?_) (fun cdv A outer s H vs Q E hr h => ?_)
  · obtain ⟨a, ks, rfl, _⟩ := h
    rfl
  · obtain ⟨a, ks, rfl, ha, hl, q⟩ := h
    rcases ha with ha | ha
    · refine ⟨_, PSs.nox (pss_cons (ps_set (i := 1) sc_first_twice.nd rfl (Or.inl rfl) (pe_callTy0 cr_set0K (by rfl) Tx.n_set (by decide +kernel)))
        (pss_cons (ps_for PassesOwn.never rfl (pi_list (pv 0)) (pg_name (i := 2) sc_first_twice.nd rfl (Or.inl rfl)) (pss_cons (ps_if (pt_cmpR or_sinK (pv 2) (pv 1) rfl) (pss_one (ps_ret (pv 2))) pss_nil)
        (pss_one (ps_expr (pe_saddK (pv 1) (pa_cons (pv 2) pa_nil))))))
        (pss_one (ps_ret pe_non)))), ?_⟩
      refine ⟨rfl, fun S nS => ?_⟩
      have nSa : a ≠ S := ne_of_none ha nS
      refine ⟨_, rfl, a, rfl, ⟨_, SqL.of (same_new nS _ _ ha)⟩, ?_⟩
      refine for_it (walk_list (K := K) (a := a) (xs := ks.map kV)) (fun i σ H2 => ∃ (v : Option V) (n : Nat), σ = [some (.ref a), some (.ref S), v] ∧ Same H H2 ∧ H2 S = some (SetK P w S (hasK (ks.take i)) n) ∧ n ≤ i ∧ ftwGo [] ks = ftwGo (ks.take i) (ks.drop i))
        ⟨none, 0, rfl, same_new nS, by rw [upd_same]; rfl, Nat.le_refl _, rfl⟩ (fun i σ H2 _ p => ?_) (fun i x σ H2 H3 hi p y => ?_) (fun σ H2 p => ?_)
      · obtain ⟨_, _, _, s, _⟩ := p
        exact SqL.of (s _ _ ha)
      · obtain ⟨v, n, rfl, s, hS, hn, e⟩ := p
        obtain ⟨rfl, hx⟩ := y
        rw [List.getElem?_map] at hx
        obtain ⟨k, hk, rfl⟩ := Option.map_eq_some_iff.mp hx
        have hi2 : i < ks.length := (List.getElem?_eq_some_iff.mp hk).1
        have ed : ks.drop i = k :: ks.drop (i + 1) := List.drop_eq_getElem_cons hi2 |>.trans (by rw [(List.getElem?_eq_some_iff.mp hk).2])
        have et : ks.take (i + 1) = ks.take i ++ [k] := by rw [List.take_add_one, hk] <;> rfl
        refine ⟨_, rfl, _, rfl, k, S, _, n, rfl, rfl, hS, _, rfl, ite2 (fun e1 => ?_) (fun e1 => ?_)⟩
        · refine ⟨_, rfl, ?_⟩
          have e2 : hasK (ks.take i) k = true := e1
          have e3 : ftwGo [] ks = kV k := by
            rw [e, ed]
            unfold ftwGo
            rw [if_pos e2]
          rw [← e3]
          exact q _ s
        · have e2 : ¬ hasK (ks.take i) k = true := e1
          refine ⟨_, rfl, ⟨S, _, n, rfl, hS⟩, _, rfl, S, k, _, n, rfl, rfl, hS, (by show n + 1 < 4096; omega), ?_⟩
          refine ⟨_, n + 1, rfl, Same.mut s nS, ?_, ?_, ?_⟩
          · show upd H3 S (SetK P w S (fun j => hasK (ks.take i) j || decide (j = k)) (if hasK (ks.take i) k = true then n else n + 1)) S = _
            rw [upd_same, et]
            have e4 : (if hasK (ks.take i) k = true then n else n + 1) = n + 1 := if_neg e1
            rw [e4]
            have e5 : (fun j => hasK (ks.take i) j || decide (j = k)) = hasK (ks.take i ++ [k]) := by
              funext j
              unfold hasK
              rw [List.any_append]
              simp [eq_comm]
            rw [e5]
          · omega
          · rw [e, ed, et]
            conv => lhs; unfold ftwGo
            rw [if_neg e2]
      · obtain ⟨v, n, rfl, s, hS, hn, e⟩ := p
        have e3 : ftwGo [] ks = .non := by
          rw [e, List.length_map, List.drop_length]
          rfl
        show Q .non H2
        rw [← e3]
        exact q _ s
    · refine ⟨_, PSs.nox (pss_cons (ps_set (i := 1) sc_first_twice.nd rfl (Or.inl rfl) (pe_callTy0 cr_set0K (by rfl) Tx.n_set (by decide +kernel)))
        (pss_cons (ps_for PassesOwn.never rfl (pi_tup (pv 0)) (pg_name (i := 2) sc_first_twice.nd rfl (Or.inl rfl)) (pss_cons (ps_if (pt_cmpR or_sinK (pv 2) (pv 1) rfl) (pss_one (ps_ret (pv 2))) pss_nil)
        (pss_one (ps_expr (pe_saddK (pv 1) (pa_cons (pv 2) pa_nil))))))
        (pss_one (ps_ret pe_non)))), ?_⟩
      refine ⟨rfl, fun S nS => ?_⟩
      have nSa : a ≠ S := ne_of_none ha nS
      refine ⟨_, rfl, a, rfl, ⟨_, SqT.of (same_new nS _ _ ha)⟩, ?_⟩
      refine for_it (walk_tup (K := K) (a := a) (xs := ks.map kV)) (fun i σ H2 => ∃ (v : Option V) (n : Nat), σ = [some (.ref a), some (.ref S), v] ∧ Same H H2 ∧ H2 S = some (SetK P w S (hasK (ks.take i)) n) ∧ n ≤ i ∧ ftwGo [] ks = ftwGo (ks.take i) (ks.drop i))
        ⟨none, 0, rfl, same_new nS, by rw [upd_same]; rfl, Nat.le_refl _, rfl⟩ (fun i σ H2 _ p => ?_) (fun i x σ H2 H3 hi p y => ?_) (fun σ H2 p => ?_)
      · obtain ⟨_, _, _, s, _⟩ := p
        exact SqT.of (s _ _ ha)
      · obtain ⟨v, n, rfl, s, hS, hn, e⟩ := p
        obtain ⟨rfl, hx⟩ := y
        rw [List.getElem?_map] at hx
        obtain ⟨k, hk, rfl⟩ := Option.map_eq_some_iff.mp hx
        have hi2 : i < ks.length := (List.getElem?_eq_some_iff.mp hk).1
        have ed : ks.drop i = k :: ks.drop (i + 1) := List.drop_eq_getElem_cons hi2 |>.trans (by rw [(List.getElem?_eq_some_iff.mp hk).2])
        have et : ks.take (i + 1) = ks.take i ++ [k] := by rw [List.take_add_one, hk] <;> rfl
        refine ⟨_, rfl, _, rfl, k, S, _, n, rfl, rfl, hS, _, rfl, ite2 (fun e1 => ?_) (fun e1 => ?_)⟩
        · refine ⟨_, rfl, ?_⟩
          have e2 : hasK (ks.take i) k = true := e1
          have e3 : ftwGo [] ks = kV k := by
            rw [e, ed]
            unfold ftwGo
            rw [if_pos e2]
          rw [← e3]
          exact q _ s
        · have e2 : ¬ hasK (ks.take i) k = true := e1
          refine ⟨_, rfl, ⟨S, _, n, rfl, hS⟩, _, rfl, S, k, _, n, rfl, rfl, hS, (by show n + 1 < 4096; omega), ?_⟩
          refine ⟨_, n + 1, rfl, Same.mut s nS, ?_, ?_, ?_⟩
          · show upd H3 S (SetK P w S (fun j => hasK (ks.take i) j || decide (j = k)) (if hasK (ks.take i) k = true then n else n + 1)) S = _
            rw [upd_same, et]
            have e4 : (if hasK (ks.take i) k = true then n else n + 1) = n + 1 := if_neg e1
            rw [e4]
            have e5 : (fun j => hasK (ks.take i) j || decide (j = k)) = hasK (ks.take i ++ [k]) := by
              funext j
              unfold hasK
              rw [List.any_append]
              simp [eq_comm]
            rw [e5]
          · omega
          · rw [e, ed, et]
            conv => lhs; unfold ftwGo
            rw [if_neg e2]
      · obtain ⟨v, n, rfl, s, hS, hn, e⟩ := p
        have e3 : ftwGo [] ks = .non := by
          rw [e, List.length_map, List.drop_length]
          rfl
        show Q .non H2
        rw [← e3]
        exact q _ s
theorem has_first_twice (Tx : Txt K mg) (c : He.SaysX fa fn [] [] ex w hh K) (X : K.In hh) (GG : hh.Ns mainGlobals mg)   : Has P w K mg base "first_twice" 1 ["values"] (sp_first_twice K) := by
  obtain ⟨fd, F⟩ := c.t.d.def_ 7 (d := d_first_twice) rfl
  exact ⟨_, fd, ok_first_twice F Tx , He.glo_ok X GG (c.t.d.fact 9 (f := .glo "first_twice") rfl), F.kp, F.bindsN fun _ _ _ _ _ _ us hl => match us, hl with | [_], _ => rfl⟩

end
end K01
namespace K01
open PySem PySem.Spec PyProof.Rows L2 Vf
section
variable {hh : Heap} {P : Program} {w : World} {K : PySem.W.Frag} {mg : Str → Option Value} {base : Heap}
/-! ### the law's draws -/
theorem cut_ints (ns : List Int) (lo hi : Option Int) : ∃ ms : List Int, cutV (ns.map V.int) lo hi = ms.map V.int ∧ ms.length ≤ ns.length := by
  unfold cutV
  rw [← List.map_drop, ← List.map_take]
  refine ⟨_, rfl, ?_⟩
  rw [List.length_take, List.length_drop]
  omega
def sp_law_pen (K : PySem.W.Frag) : Sp := fun vs H Q _ => ∃ (a : Addr) (ns : List Int), vs = [.ref a] ∧ SqL K H a (ns.map V.int) ∧ ns.length ≤ 63 ∧ ∀ H' p c, Same H H' → H p = none → H c = none → PenAt H' p c 900000 → Q (.ref p) H'
theorem sc_law_pen : FnScope ["_law_script", "_law_cell"] ["_law_script"] (defScope s_law_pen) := ⟨rfl, rfl, rfl, by decide +kernel, rfl, by decide +kernel, by decide +kernel⟩
theorem ok_law_pen {f : Addr} {fd : FuncData} (F : FnP K "_law_pen" s_law_pen f fd) (Tx : Txt K mg)   : FnOk P w K mg base CX0 1 f fd ["_law_script"] (sp_law_pen K) := by
  refine F.ok sc_law_pen (fun vs H Q E h => ?_) (fun cdv A outer s H vs Q E hr h => ?_)
  · obtain ⟨a, ns, rfl, _⟩ := h
    rfl
  · obtain ⟨a, ns, rfl, ha, hl, q⟩ := h
    refine ⟨_, PSs.nox (pss_one (ps_ret (pe_lst (pa_cons (pe_lc (own := [("_law_cell", 1)]) (g := gName 1) (tt := tYes) rfl sc_law_pen.nd (pi_list (pe_slice sl_list (pv 0) po_none (po_some pe_int))) (blkOk_by (own := [("_law_cell", 1)]) (N := ["_law_script", "_law_cell"]) (sc := defScope s_law_pen) (by decide +kernel)) (fun _ _ _ _ _ => (pg_name (i := 1) sc_law_pen.nd rfl (Or.inl rfl))) (fun _ _ _ _ _ => pts_nil) (fun _ _ _ _ _ => (pe_callTy call_int1 (by rfl) Tx.n_int (by decide +kernel) (pa_cons (pv 1) pa_nil)))) (pa_cons pe_int (pa_cons pe_int pa_nil)))))), ?_⟩
    refine ⟨_, rfl, _, rfl, a, _, rfl, ha, fun c nc => ?_⟩
    obtain ⟨ms, em, lm⟩ := cut_ints ns none (some 60)
    have s1 : Same H (upd H c (.lst (cutV (ns.map V.int) none (some 60)))) := same_new nc
    refine ⟨c, rfl, ⟨_, SqL.of upd_same⟩, fun D nD => ?_⟩
    refine lc_pure (walk_list (K := K) (a := c) (xs := ms.map V.int)) (ms.map V.int) rfl (by rw [List.length_map]; omega) (fun i H x H' y => ⟨same_of_eq y.1, y.2⟩) (fun x => x) (fun _ => true) nD (fun H2 s => SqL.of (s _ _ (by rw [upd_same, em]))) (fun i x H2 Q1 Q0 hi s2 q1 q0 => ?_) (fun H2 s2 hD => ?_)
    · refine ⟨rfl, ?_⟩
      obtain ⟨z, _, rfl⟩ := List.mem_map.mp (List.mem_of_getElem? hi)
      exact ⟨_, rfl, .inl ⟨_, rfl, q1 rfl _ (Same.refl _)⟩⟩
    · rw [List.filter_eq_self.mpr fun _ _ => rfl, List.map_id'] at hD
      refine ⟨le_line (n := 3) (by decide), fun p np => ?_⟩
      have hp : H p = none := s1.free (s2.free np)
      have ne : D ≠ p := ne_of_none hD np
      refine q _ p D ((s1.trans s2).trans (same_new np)) hp (s1.free nD) ⟨ms, 0, 0, upd_same, ?_, by decide, by decide⟩
      rw [upd_ne ne]
      exact hD
theorem has_law_pen (Tx : Txt K mg) (c : He.SaysX fa fn [] [] ex w hh K) (X : K.In hh) (GG : hh.Ns mainGlobals mg)   : Has P w K mg base "_law_pen" 1 ["_law_script"] (sp_law_pen K) := by
  obtain ⟨fd, F⟩ := c.t.d.def_ 8 (d := d_law_pen) rfl
  exact ⟨_, fd, ok_law_pen F Tx , He.glo_ok X GG (c.t.d.fact 10 (f := .glo "_law_pen") rfl), F.kp, F.bindsN fun _ _ _ _ _ _ us hl => match us, hl with | [_], _ => rfl⟩
def sp_law_number : Sp := fun vs H Q _ => ∃ (p c : Addr) (b : Nat), vs = [.ref p] ∧ PenAt H p c (b + 2) ∧ ∀ H' i, PenAt H' p c b → Kp p H H' → Q (.int i) H'
theorem sc_law_number : FnScope ["_law_pen_here"] ["_law_pen_here"] (defScope s_law_number) := ⟨rfl, rfl, rfl, by decide +kernel, rfl, by decide +kernel, by decide +kernel⟩
theorem ok_law_number {f : Addr} {fd : FuncData} (F : FnP K "_law_number" s_law_number f fd) (Tx : Txt K mg) (h_law_draw : Has P w K mg base "_law_draw" 1 ["_law_pen_here", "_law_many"] sp_law_draw)  : FnOk P w K mg base CX0 2 f fd ["_law_pen_here"] sp_law_number := by
  obtain ⟨f_law_draw, fd_law_draw, G_law_draw, g_law_draw, k_law_draw, b_law_draw⟩ := h_law_draw
  refine F.ok sc_law_number (fun vs H Q E h => ?_) (fun cdv A outer s H vs Q E hr h => ?_)
  · obtain ⟨p, c, b, rfl, _⟩ := h
    rfl
  · obtain ⟨p, c, b, rfl, hp, q⟩ := h
    refine ⟨_, PSs.nox (pss_cons (ps_if (pt_cmpR op_eq (pe_call G_law_draw (hr.mono (by decide)) (by rfl) g_law_draw k_law_draw b_law_draw .nil pass0 (pa_cons (pv 0) (pa_cons pe_int pa_nil))) pe_int (nomark _)) (pss_one (ps_ret (pe_op op_sub (pe_call G_law_draw (hr.mono (by decide)) (by rfl) g_law_draw k_law_draw b_law_draw .nil pass0 (pa_cons (pv 0) (pa_cons (pe_op op_pow pe_int pe_int) pa_nil))) (pe_op op_pow pe_int pe_int)))) pss_nil)
        (pss_one (ps_ret (pe_op op_sub (pe_call G_law_draw (hr.mono (by decide)) (by rfl) g_law_draw k_law_draw b_law_draw .nil pass0 (pa_cons (pv 0) (pa_cons pe_int pa_nil))) pe_int)))), ?_⟩
    refine ⟨_, rfl, p, c, 3, b + 1, rfl, hp, by decide, by decide, fun H1 d h1 k1 d0 d1 => ?_⟩
    refine ⟨rfl, _, rfl, ite2 (fun _ => ?_) (fun _ => ?_)⟩
    · refine ⟨_, rfl, _, _, rfl, rfl, ⟨by decide, by decide, by decide⟩, p, c, _, b, rfl, h1, by decide, by decide, fun H2 d2 h2 k2 _ _ => ?_⟩
      refine ⟨_, _, rfl, rfl, ⟨by decide, by decide, by decide⟩, _, _, rfl, rfl, q _ _ h2 (k1.trans k2)⟩
    · refine ⟨_, rfl, p, c, 60, b, rfl, h1, by decide, by decide, fun H2 d2 h2 k2 _ _ => ?_⟩
      exact ⟨_, _, rfl, rfl, q _ _ h2 (k1.trans k2)⟩
theorem has_law_number (Tx : Txt K mg) (c : He.SaysX fa fn [] [] ex w hh K) (X : K.In hh) (GG : hh.Ns mainGlobals mg) (h_law_draw : Has P w K mg base "_law_draw" 1 ["_law_pen_here", "_law_many"] sp_law_draw)  : Has P w K mg base "_law_number" 2 ["_law_pen_here"] sp_law_number := by
  obtain ⟨fd, F⟩ := c.t.d.def_ 12 (d := d_law_number) rfl
  exact ⟨_, fd, ok_law_number F Tx h_law_draw, He.glo_ok X GG (c.t.d.fact 14 (f := .glo "_law_number") rfl), F.kp, F.bindsN fun _ _ _ _ _ _ us hl => match us, hl with | [_], _ => rfl⟩
def sp_law_plain (K : PySem.W.Frag) : Sp := fun vs H Q _ => ∃ (v : V) (k : Knd), vs = [v] ∧ KndV (NC K) H v k ∧ Q (.bl (isI v)) H
theorem sc_law_plain : FnScope ["_law_value"] ["_law_value"] (defScope s_law_plain) := ⟨rfl, rfl, rfl, by decide +kernel, rfl, by decide +kernel, by decide +kernel⟩
theorem ok_law_plain {f : Addr} {fd : FuncData} (F : FnP K "_law_plain" s_law_plain f fd) (Tx : Txt K mg)   : FnOk P w K mg base CX0 1 f fd ["_law_value"] (sp_law_plain K) := by
  refine F.ok sc_law_plain (fun vs H Q E h => ?_) (fun cdv A outer s H vs Q E hr h => ?_)
  · obtain ⟨v, k, rfl, _⟩ := h
    rfl
  · obtain ⟨v, k, rfl, hk, q⟩ := h
    refine ⟨_, PSs.nox (pss_one (ps_ret (pe_and (pe_callB (call_isY Tx.exc) (by rfl) Tx.n_isinstance (by decide +kernel) (pa_cons (pv 0) (pa_cons (pe_bltn (v := .ty "int") (by rfl) Tx.n_int (by decide +kernel) rfl) pa_nil))) (pe_one (pe_not (pe_callB (call_isY Tx.exc) (by rfl) Tx.n_isinstance (by decide +kernel) (pa_cons (pv 0) (pa_cons (pe_bltn (v := .ty "bool") (by rfl) Tx.n_bool (by decide +kernel) rfl) pa_nil)))))))), ?_⟩
    refine ⟨_, rfl, v, "int", k, _, rfl, hk, kit_is Tx.kit hk (by decide), _, rfl, ?_⟩
    rw [knd_int hk]
    refine ite2 (fun e => ?_) (fun e => ?_)
    · refine ⟨_, rfl, v, "bool", k, _, rfl, hk, kit_is Tx.kit hk (by decide), _, rfl, ?_⟩
      rw [knd_bool hk]
      cases v <;> first | exact q | cases e
    · cases v <;> first | exact q | exact absurd rfl e
theorem has_law_plain (Tx : Txt K mg) (c : He.SaysX fa fn [] [] ex w hh K) (X : K.In hh) (GG : hh.Ns mainGlobals mg)   : Has P w K mg base "_law_plain" 1 ["_law_value"] (sp_law_plain K) := by
  obtain ⟨fd, F⟩ := c.t.d.def_ 15 (d := d_law_plain) rfl
  exact ⟨_, fd, ok_law_plain F Tx , He.glo_ok X GG (c.t.d.fact 17 (f := .glo "_law_plain") rfl), F.kp, F.bindsN fun _ _ _ _ _ _ us hl => match us, hl with | [_], _ => rfl⟩

end
end K01
namespace K01
open PySem PySem.Spec PyProof.Rows L2 Vf
section
variable {hh : Heap} {P : Program} {w : World} {K : PySem.W.Frag} {mg : Str → Option Value} {base : Heap}
/-! ### drawn texts -/
def sgn : Str := retStr s_law_signs
theorem sgn_tx : TxB sgn 100 := TxB.lit 100 (by decide +kernel)
theorem sgn_len : sgn.length = 94 := by decide +kernel
def sp_law_signs : Sp := fun vs H Q _ => vs = [] ∧ Q (.str sgn) H
theorem sc_law_signs : FnScope [] [] (defScope s_law_signs) := ⟨rfl, rfl, rfl, by decide +kernel, rfl, by decide +kernel, by decide +kernel⟩
theorem ok_law_signs {f : Addr} {fd : FuncData} (F : FnP K "_law_signs" s_law_signs f fd) (Tx : Txt K mg)   : FnOk P w K mg base CX0 1 f fd [] sp_law_signs := by
  refine F.ok sc_law_signs (fun vs H Q E h => ?_) (fun cdv A outer s H vs Q E hr h => ?_)
  · rw [h.1]
    rfl
  · obtain ⟨rfl, q⟩ := h
    refine ⟨_, PSs.nox (pss_one (ps_ret pe_str)), ?_⟩
    exact q
theorem has_law_signs (Tx : Txt K mg) (c : He.SaysX fa fn [] [] ex w hh K) (X : K.In hh) (GG : hh.Ns mainGlobals mg)   : Has P w K mg base "_law_signs" 1 [] sp_law_signs := by
  obtain ⟨fd, F⟩ := c.t.d.def_ 10 (d := d_law_signs) rfl
  exact ⟨_, fd, ok_law_signs F Tx , He.glo_ok X GG (c.t.d.fact 12 (f := .glo "_law_signs") rfl), F.kp, F.bindsN fun _ _ _ _ _ _ us hl => match us, hl with | [], _ => rfl⟩
def sml : Str := "abcdefghijklmnopqrstuvwxyz0123456789"
theorem sml_tx : TxB sml 36 := TxB.lit 36 (by decide +kernel)
theorem sml_len : sml.length = 36 := by decide +kernel
def eight : List Str := ["square", "triangle", "squares", "Square", "triangl", "triangle ", "squar", "trianglesquare"]
theorem eight_tx : ∀ z ∈ eight, TxB z 40 := fun z hz => TxB.lit 40 (List.all_eq_true.mp (show (eight.all fun z => decide (z.length ≤ 40) && PyData.strOk z) = true by decide +kernel) z hz)
def three : List Str := ["\n", "\t", " "]
theorem three_tx : ∀ z ∈ three, TxB z 1 := fun z hz => TxB.lit 1 (List.all_eq_true.mp (show (three.all fun z => decide (z.length ≤ 1) && PyData.strOk z) = true by decide +kernel) z hz)
theorem at_strs {l : List Str} {d : Int} (h0 : 0 ≤ d) (h1 : d < (l.length : Int)) : ∃ z, z ∈ l ∧ atI (l.map V.str) d = some (.str z) := by
  obtain ⟨x, hx, hat⟩ := at_in (xs := l.map V.str) h0 (by rw [List.length_map]; exact h1)
  obtain ⟨z, hz, rfl⟩ := List.mem_map.mp hx
  exact ⟨z, hz, hat⟩
def sp_law_text : Sp := fun vs H Q _ => ∃ (p cc : Addr) (b : Nat), vs = [.ref p] ∧ PenAt H p cc (b + 25) ∧ ∀ H' z, PenAt H' p cc b → Kp p H H' → TxB z 70 → Q (.str z) H'
theorem sc_law_text : FnScope ["_law_pen_here", "_law_signs_here", "_law_small", "_law_kind", "_law_made", "_law_at"] ["_law_pen_here"] (defScope s_law_text) := ⟨rfl, rfl, rfl, by decide +kernel, rfl, by decide +kernel, by decide +kernel⟩
theorem ok_law_text {f : Addr} {fd : FuncData} (F : FnP K "_law_text" s_law_text f fd) (Tx : Txt K mg) (h_law_signs : Has P w K mg base "_law_signs" 1 [] sp_law_signs) (h_law_draw : Has P w K mg base "_law_draw" 1 ["_law_pen_here", "_law_many"] sp_law_draw)  : FnOk P w K mg base CX0 2 f fd ["_law_pen_here"] sp_law_text := by
  obtain ⟨f_law_signs, fd_law_signs, G_law_signs, g_law_signs, k_law_signs, b_law_signs⟩ := h_law_signs
  obtain ⟨f_law_draw, fd_law_draw, G_law_draw, g_law_draw, k_law_draw, b_law_draw⟩ := h_law_draw
  refine F.ok sc_law_text (fun vs H Q E h => ?_) (fun cdv A outer s H vs Q E hr h => ?_)
  · obtain ⟨p, cc, b, rfl, _⟩ := h
    rfl
  · obtain ⟨p, cc, b, rfl, hp, q⟩ := h
    refine ⟨_, PSs.nox (pss_cons (ps_par3 (i := 1) (j := 2) (l := 3) (by rfl) sc_law_text.nd rfl rfl rfl (by decide) (by decide) (by decide) rfl rfl rfl (pa_cons (pe_call0 G_law_signs (hr.mono (by decide)) (by rfl) g_law_signs k_law_signs b_law_signs .nil pass0) (pa_cons pe_str (pa_cons (pe_call G_law_draw (hr.mono (by decide)) (by rfl) g_law_draw k_law_draw b_law_draw .nil pass0 (pa_cons (pv 0) (pa_cons pe_int pa_nil))) pa_nil))) (by rfl))
        (pss_cons (ps_if (pt_cmpR op_eq (pv 3) pe_int (nomark _)) (pss_one (ps_ret (pe_ix ix_list (pe_lst (pa_cons pe_str (pa_cons pe_str (pa_cons pe_str (pa_cons pe_str (pa_cons pe_str (pa_cons pe_str (pa_cons pe_str (pa_cons pe_str pa_nil))))))))) (pe_call G_law_draw (hr.mono (by decide)) (by rfl) g_law_draw k_law_draw b_law_draw .nil pass0 (pa_cons (pv 0) (pa_cons pe_int pa_nil))) (fun _ _ => rfl)))) pss_nil)
        (pss_cons (ps_set (i := 4) sc_law_text.nd rfl (Or.inl rfl) pe_str)
        (pss_cons (ps_for PassesOwn.never rfl (pi_range1 (by rfl) Tx.n_range (pa_cons (pe_call G_law_draw (hr.mono (by decide)) (by rfl) g_law_draw k_law_draw b_law_draw .nil pass0 (pa_cons (pv 0) (pa_cons pe_int pa_nil))) pa_nil)) (pg_name (i := 5) sc_law_text.nd rfl (Or.inl rfl)) (pss_one (ps_set (i := 4) sc_law_text.nd rfl (Or.inl rfl) (pe_op op_add_str (pv 4) (pe_ifExp (pt_cmpR op_lt (pv 3) pe_int (nomark _)) (pe_ix ix_str (pv 2) (pe_call G_law_draw (hr.mono (by decide)) (by rfl) g_law_draw k_law_draw b_law_draw .nil pass0 (pa_cons (pv 0) (pa_cons pe_int pa_nil))) (fun _ _ => rfl)) (pe_ix ix_str (pv 1) (pe_call G_law_draw (hr.mono (by decide)) (by rfl) g_law_draw k_law_draw b_law_draw .nil pass0 (pa_cons (pv 0) (pa_cons (pe_callB call_len_str (by rfl) Tx.n_len (by decide +kernel) (pa_cons (pv 1) pa_nil)) pa_nil))) (fun _ _ => rfl)))))))
        (C8.pss_cut (ps_if (PW.pt (pw_and (pt_cmpR op_eq (pv 3) pe_int (nomark _)) (pw_and1 (pt_cmpR op_ne (pv 4) pe_str (nomark _))))) (pss_cons (ps_set (i := 5) sc_law_text.nd rfl (Or.inl rfl) (pe_call G_law_draw (hr.mono (by decide)) (by rfl) g_law_draw k_law_draw b_law_draw .nil pass0 (pa_cons (pv 0) (pa_cons (pe_callB call_len_str (by rfl) Tx.n_len (by decide +kernel) (pa_cons (pv 4) pa_nil)) pa_nil))))
        (pss_one (ps_set (i := 4) sc_law_text.nd rfl (Or.inl rfl) (pe_op op_add_str (pe_op op_add_str (pe_slice sl_str (pv 4) po_none (po_some (pv 5))) (pe_ix ix_str (pe_op op_add_str (pv 1) pe_str) (pe_call G_law_draw (hr.mono (by decide)) (by rfl) g_law_draw k_law_draw b_law_draw .nil pass0 (pa_cons (pv 0) (pa_cons (pe_op op_add (pe_callB call_len_str (by rfl) Tx.n_len (by decide +kernel) (pa_cons (pv 1) pa_nil)) pe_int) pa_nil))) (fun _ _ => rfl))) (pe_slice sl_str (pv 4) (po_some (pe_op op_add (pv 5) pe_int)) po_none))))) pss_nil)
        (pss_cons (ps_if (pt_cmpR op_eq (pe_call G_law_draw (hr.mono (by decide)) (by rfl) g_law_draw k_law_draw b_law_draw .nil pass0 (pa_cons (pv 0) (pa_cons pe_int pa_nil))) pe_int (nomark _)) (pss_cons (ps_set (i := 5) sc_law_text.nd rfl (Or.inl rfl) (pe_call G_law_draw (hr.mono (by decide)) (by rfl) g_law_draw k_law_draw b_law_draw .nil pass0 (pa_cons (pv 0) (pa_cons (pe_op op_add (pe_callB call_len_str (by rfl) Tx.n_len (by decide +kernel) (pa_cons (pv 4) pa_nil)) pe_int) pa_nil))))
        (pss_one (ps_set (i := 4) sc_law_text.nd rfl (Or.inl rfl) (pe_op op_add_str (pe_op op_add_str (pe_slice sl_str (pv 4) po_none (po_some (pv 5))) (pe_ix ix_list (pe_lst (pa_cons pe_str (pa_cons pe_str (pa_cons pe_str pa_nil)))) (pe_call G_law_draw (hr.mono (by decide)) (by rfl) g_law_draw k_law_draw b_law_draw .nil pass0 (pa_cons (pv 0) (pa_cons pe_int pa_nil))) (fun _ _ => rfl))) (pe_slice sl_str (pv 4) (po_some (pv 5)) po_none))))) pss_nil)
        (pss_one (ps_ret (pv 4))))))))), ?_⟩
    -- the three names
    refine ⟨rfl, _, rfl, p, cc, 4, b + 24, rfl, hp, by decide, by decide, fun H1 d h1 k1 d0 d1 => ?_⟩
    refine ⟨_, _, _, rfl, ?_⟩
    -- if kind == 0
    refine ⟨_, rfl, rfl, _, rfl, ite2 (fun _ => ?_) (fun _ => ?_)⟩
    · refine ⟨le_line (n := 8) (by decide), fun l nl => ?_⟩
      refine ⟨_, rfl, p, cc, 8, b + 23, rfl, h1.same (same_new nl), by decide, by decide, fun H2 e h2 k2 e0 e1 => ?_⟩
      obtain ⟨xs, hx⟩ := h1.at
      have lp : l ≠ p := (ne_of_none hx nl).symm
      obtain ⟨z, hz, hat⟩ := at_strs (l := eight) e0 e1
      exact ⟨l, _, e, .str z, rfl, rfl, SqL.of (k2 _ _ lp upd_same), hat, q _ _ (h2.less (by omega)) ((k1.trans (Kp.same (same_new nl))).trans k2) ((eight_tx z hz).le (by decide))⟩
    · -- made = '', the loop
      refine ⟨_, rfl, p, cc, 15, b + 23, rfl, h1, by decide, by decide, fun H2 e h2 k2 e0 e1 => ?_⟩
      refine ⟨e, rfl, by omega, by omega, ?_⟩
      refine for_it (walk_range (lo := 0) (n := e.toNat)) (fun i σ H3 => ∃ (made : Str) (at_ : Option V), σ = [some (.ref p), some (.str sgn), some (.str sml), some (.int d), some (.str made), at_] ∧ PenAt H3 p cc (b + 23 - i) ∧ Kp p H H3 ∧ TxB made i)
        ⟨Str.empty, none, rfl, h2, k1.trans k2, TxB.lit 0 (by decide +kernel)⟩ (fun _ _ _ _ _ => trivial) (fun i x σ H3 H4 hi pv y => ?_) (fun σ H3 pv => ?_)
      · obtain ⟨made, at_, rfl, h3, k3, ht⟩ := pv
        obtain ⟨rfl, rfl⟩ := y
        have hb : b + 23 - i = (b + 23 - (i + 1)) + 1 := by omega
        rw [hb] at h3
        refine ⟨_, rfl, _, rfl, _, _, rfl, rfl, _, rfl, ite2 (fun _ => ?_) (fun _ => ?_)⟩
        · refine ⟨_, rfl, _, rfl, p, cc, 36, _, rfl, h3, by decide, by decide, fun H5 c h5 k5 c0 c1 => ?_⟩
          obtain ⟨g, hat, hg⟩ := sml_tx.at c0 (by rw [sml_len]; exact c1)
          refine ⟨sml, c, g, rfl, rfl, sml_tx.line (by decide), hat, made, _, rfl, rfl, le_line (by have := ht.1; have := hg.1; omega), ?_⟩
          exact ⟨_, _, rfl, h5, k3.trans k5, ht.app hg⟩
        · refine ⟨_, rfl, _, rfl, _, rfl, _, rfl, sgn_tx.line (by decide), p, cc, _, _, rfl, h3, by rw [sgn_len]; decide, by rw [sgn_len]; decide, fun H5 c h5 k5 c0 c1 => ?_⟩
          obtain ⟨g, hat, hg⟩ := sgn_tx.at c0 c1
          refine ⟨sgn, c, g, rfl, rfl, sgn_tx.line (by decide), hat, made, _, rfl, rfl, le_line (by have := ht.1; have := hg.1; omega), ?_⟩
          exact ⟨_, _, rfl, h5, k3.trans k5, ht.app hg⟩
      · obtain ⟨made, at_, rfl, h3, k3, ht⟩ := pv
        replace h3 := h3.less (d := b + 8) (by omega)
        replace ht := ht.le (n := 15) (by omega)
        -- one sign exchanged
        refine ⟨fun σ H4 => ∃ (made : Str) (at_ : Option V), σ = [some (.ref p), some (.str sgn), some (.str sml), some (.int d), some (.str made), at_] ∧ PenAt H4 p cc (b + 6) ∧ Kp p H H4 ∧ TxB made 31, ?_, ?_⟩
        · refine ⟨_, rfl, rfl, _, rfl, ite2 (fun _ => ?_) (fun _ => ?_)⟩
          · refine ⟨_, rfl, rfl, _, rfl, ite2 (fun en => ?_) (fun _ => ?_)⟩
            · have hm : 0 < made.length := by
                rcases Nat.eq_zero_or_pos made.length with z | z
                · exfalso
                  have e0 : made = Str.empty := by
                    cases made with
                    | mk cps =>
                      have : cps = #[] := Array.eq_empty_of_size_eq_zero z
                      rw [this] <;> rfl
                  rw [e0] at en
                  revert en
                  decide +kernel
                · exact z
              refine ⟨_, rfl, _, rfl, _, rfl, ht.line (by decide), p, cc, _, b + 7, rfl, h3, by omega, by have := ht.1; omega, fun H4 c h4 k4 c0 c1 => ?_⟩
              refine ⟨_, rfl, _, rfl, _, rfl, made, rfl, ht.line (by decide), ?_⟩
              refine ⟨_, rfl, _, _, rfl, rfl, by rw [sgn_len]; decide, _, rfl, _, rfl, _, rfl, sgn_tx.line (by decide), _, _, rfl, rfl, p, cc, _, b + 6, rfl, h4, by rw [sgn_len]; decide, by rw [sgn_len]; decide, fun H5 c2 h5 k5 c20 c21 => ?_⟩
              have tx2 : TxB (sgn ++ ("\n\t" : Str)) 102 := sgn_tx.app (TxB.lit 2 (by decide +kernel))
              have l2 : (sgn ++ ("\n\t" : Str)).length = 96 := by decide +kernel
              obtain ⟨g, hat, hg⟩ := tx2.at c20 (by rw [l2]; rw [sgn_len] at c21; exact c21)
              have t3 := (ht.cut none (some c)).app hg
              refine ⟨_, c2, g, rfl, rfl, tx2.line (by decide), hat, _, _, rfl, rfl, le_line (by have := (ht.cut none (some c)).1; have := hg.1; omega), ?_⟩
              refine ⟨_, rfl, _, rfl, _, _, rfl, rfl, _, rfl, made, rfl, ht.line (by decide), ?_⟩
              have t4 := t3.app (ht.cut (some (c + 1)) none)
              refine ⟨_, _, rfl, rfl, le_line (by have := t3.1; have := (ht.cut (some (c + 1)) none).1; omega), ?_⟩
              exact ⟨_, _, rfl, h5, (k3.trans k4).trans k5, t4⟩
            · exact ⟨made, at_, rfl, h3.less (by omega), k3, ht.le (by decide)⟩
          · exact ⟨made, at_, rfl, h3.less (by omega), k3, ht.le (by decide)⟩
        · rintro σ H4 ⟨made, at_, rfl, h4, k4, ht⟩
          -- one sign put in
          refine ⟨_, rfl, p, cc, 6, b + 5, rfl, h4, by decide, by decide, fun H5 c h5 k5 c0 c1 => ?_⟩
          refine ⟨rfl, _, rfl, ite2 (fun _ => ?_) (fun _ => ?_)⟩
          · refine ⟨_, rfl, _, rfl, _, rfl, ht.line (by decide), _, _, rfl, rfl, p, cc, _, b + 4, rfl, h5, by omega, by have := ht.1; omega, fun H6 a h6 k6 a0 a1 => ?_⟩
            refine ⟨_, rfl, _, rfl, _, rfl, made, rfl, ht.line (by decide), ?_⟩
            refine ⟨le_line (n := 3) (by decide), fun l nl => ?_⟩
            obtain ⟨xs, hx⟩ := h6.at
            have lp : l ≠ p := (ne_of_none hx nl).symm
            refine ⟨_, rfl, p, cc, 3, b + 3, rfl, h6.same (same_new nl), by decide, by decide, fun H7 e h7 k7 e0 e1 => ?_⟩
            obtain ⟨z, hz, hat⟩ := at_strs (l := three) e0 e1
            have tz := three_tx z hz
            have t3 := (ht.cut none (some a)).app tz
            refine ⟨l, _, e, .str z, rfl, rfl, SqL.of (k7 _ _ lp upd_same), hat, _, _, rfl, rfl, le_line (by have := (ht.cut none (some a)).1; have := tz.1; omega), ?_⟩
            refine ⟨_, rfl, _, rfl, _, rfl, made, rfl, ht.line (by decide), ?_⟩
            have t4 := t3.app (ht.cut (some a) none)
            refine ⟨_, _, rfl, rfl, le_line (by have := t3.1; have := (ht.cut (some a) none).1; omega), ?_⟩
            exact ⟨_, rfl, q _ _ (h7.less (by omega)) (((k4.trans k5).trans k6).trans ((Kp.same (same_new nl)).trans k7)) (t4.le (by decide))⟩
          · exact ⟨_, rfl, q _ _ (h5.less (by omega)) (k4.trans k5) (ht.le (by decide))⟩
theorem has_law_text (Tx : Txt K mg) (c : He.SaysX fa fn [] [] ex w hh K) (X : K.In hh) (GG : hh.Ns mainGlobals mg) (h_law_signs : Has P w K mg base "_law_signs" 1 [] sp_law_signs) (h_law_draw : Has P w K mg base "_law_draw" 1 ["_law_pen_here", "_law_many"] sp_law_draw)  : Has P w K mg base "_law_text" 2 ["_law_pen_here"] sp_law_text := by
  obtain ⟨fd, F⟩ := c.t.d.def_ 11 (d := d_law_text) rfl
  exact ⟨_, fd, ok_law_text F Tx h_law_signs h_law_draw, He.glo_ok X GG (c.t.d.fact 13 (f := .glo "_law_text") rfl), F.kp, F.bindsN fun _ _ _ _ _ _ us hl => match us, hl with | [_], _ => rfl⟩

end
end K01
namespace K01
open PySem PySem.Spec PyProof.Rows L2 Vf
section
variable {hh : Heap} {P : Program} {w : World} {K : PySem.W.Frag} {mg : Str → Option Value} {base : Heap}
/-! ### drawn values -/
theorem ixN_at {n j : Nat} (hj : j < n) : ixN n (j : Int) = some j := by
  unfold ixN
  rw [if_pos (by omega), if_pos (by omega)]
  simp
theorem KndV.kp {C p : Addr} {H H' : Hp} {v : V} {k : Knd} (h : KndV C H v k) (s : Kp p H H') (hp : ∀ a, v = .ref a → a ≠ p) : KndV C H' v k := by
  cases v <;> cases k <;> first | exact h | exact h.elim | skip
  · obtain ⟨xs, e⟩ := h
    exact ⟨xs, s _ _ (hp _ rfl) e⟩
  · obtain ⟨xs, e⟩ := h
    exact ⟨xs, s _ _ (hp _ rfl) e⟩
  · exact ⟨h.1, s _ _ (hp _ rfl) h.2⟩
/-- a drawn value, no list: an int, a text, a truth, none, or an error -/
structure Smp (C : Addr) (H : Hp) (v : V) (k : Knd) : Prop where
  knd : KndV C H v k
  no : Knd.seq k = false
  txt : ∀ z, v = .str z → TxB z 70
theorem Smp.seen {C : Addr} {H : Hp} {v : V} {k : Knd} (h : Smp C H v k) : Seen C H v k [] :=
  ⟨h.knd, (fun e => by rw [h.no] at e; cases e), fun z e => ⟨Nat.le_trans (h.txt z e).1 (by decide), (h.txt z e).2⟩⟩
/-- it does not stand where a list stands -/
theorem Smp.apart {C p : Addr} {H : Hp} {v : V} {k : Knd} {xs : List V} (h : Smp C H v k) (hp : H p = some (.lst xs)) : ∀ a, v = .ref a → a ≠ p := fun a e q => by
  have h1 := h.knd
  have h2 := h.no
  rw [e, q] at h1
  cases k with
  | exc D =>
    obtain ⟨_, h3⟩ := h1
    rw [hp] at h3
    cases h3
  | list => cases h2
  | tuple => cases h2
  | _ => exact h1.elim
theorem Smp.kp {C p : Addr} {H H' : Hp} {v : V} {k : Knd} {xs : List V} (h : Smp C H v k) (s : Kp p H H') (hp : H p = some (.lst xs)) : Smp C H' v k :=
  ⟨KndV.kp h.knd s (h.apart hp), h.no, h.txt⟩
theorem Smp.same {C : Addr} {H H' : Hp} {v : V} {k : Knd} (h : Smp C H v k) (s : Same H H') : Smp C H' v k := ⟨h.knd.same s, h.no, h.txt⟩
def sp_law_simple (K : PySem.W.Frag) : Sp := fun vs H Q _ => ∃ (p c : Addr) (b : Nat), vs = [.ref p] ∧ PenAt H p c (b + 30) ∧ ∀ H' v k, PenAt H' p c b → Kp p H H' → Smp (NC K) H' v k → Q v H'
theorem smp_int {C : Addr} {H : Hp} (i : Int) : Smp C H (.int i) .int := ⟨trivial, rfl, fun z e => by cases e⟩
theorem smp_bl {C : Addr} {H : Hp} (b : Bool) : Smp C H (.bl b) .bool := ⟨trivial, rfl, fun z e => by cases e⟩
theorem smp_non {C : Addr} {H : Hp} : Smp C H .non .none := ⟨trivial, rfl, fun z e => by cases e⟩
theorem smp_str {C : Addr} {H : Hp} {x : Str} (h : TxB x 70) : Smp C H (.str x) .str := ⟨trivial, rfl, fun z e => by cases e; exact h⟩
theorem sc_law_simple : FnScope ["_law_pen_here", "_law_kind"] ["_law_pen_here"] (defScope s_law_simple) := ⟨rfl, rfl, rfl, by decide +kernel, rfl, by decide +kernel, by decide +kernel⟩
theorem ok_law_simple {f : Addr} {fd : FuncData} (F : FnP K "_law_simple" s_law_simple f fd) (Tx : Txt K mg) (h_law_draw : Has P w K mg base "_law_draw" 1 ["_law_pen_here", "_law_many"] sp_law_draw) (h_law_number : Has P w K mg base "_law_number" 2 ["_law_pen_here"] sp_law_number) (h_law_text : Has P w K mg base "_law_text" 2 ["_law_pen_here"] sp_law_text)  : FnOk P w K mg base CX0 3 f fd ["_law_pen_here"] (sp_law_simple K) := by
  obtain ⟨f_law_draw, fd_law_draw, G_law_draw, g_law_draw, k_law_draw, b_law_draw⟩ := h_law_draw
  obtain ⟨f_law_number, fd_law_number, G_law_number, g_law_number, k_law_number, b_law_number⟩ := h_law_number
  obtain ⟨f_law_text, fd_law_text, G_law_text, g_law_text, k_law_text, b_law_text⟩ := h_law_text
  refine F.ok sc_law_simple (fun vs H Q E h => ?_) (fun cdv A outer s H vs Q E hr h => ?_)
  · obtain ⟨p, c, b, rfl, _⟩ := h
    rfl
  · obtain ⟨p, c, b, rfl, hp, q⟩ := h
    refine ⟨_, PSs.nox (pss_cons (ps_set (i := 1) sc_law_simple.nd rfl (Or.inl rfl) (pe_call G_law_draw (hr.mono (by decide)) (by rfl) g_law_draw k_law_draw b_law_draw .nil pass0 (pa_cons (pv 0) (pa_cons pe_int pa_nil))))
        (pss_cons (ps_if (pt_cmpR op_lt (pv 1) pe_int (nomark _)) (pss_one (ps_ret (pe_call G_law_number (hr.mono (by decide)) (by rfl) g_law_number k_law_number b_law_number .nil pass0 (pa_cons (pv 0) pa_nil)))) pss_nil)
        (pss_cons (ps_if (pt_cmpR op_lt (pv 1) pe_int (nomark _)) (pss_one (ps_ret (pe_call G_law_text (hr.mono (by decide)) (by rfl) g_law_text k_law_text b_law_text .nil pass0 (pa_cons (pv 0) pa_nil)))) pss_nil)
        (pss_one (ps_ret (pe_ifExp (pt_cmpR op_eq (pv 1) pe_int (nomark _)) (pe_ix ix_list (pe_lst (pa_cons pe_bl (pa_cons pe_bl (pa_cons pe_non pa_nil)))) (pe_call G_law_draw (hr.mono (by decide)) (by rfl) g_law_draw k_law_draw b_law_draw .nil pass0 (pa_cons (pv 0) (pa_cons pe_int pa_nil))) (fun _ _ => rfl)) (pe_exc0 PySem.F.excBase_ValueError Tx.exi Tx.g_Nothing Tx.exk (by rfl)))))))), ?_⟩
    refine ⟨_, rfl, p, c, 7, b + 29, rfl, hp, by decide, by decide, fun H1 d h1 k1 d0 d1 => ?_⟩
    refine ⟨_, rfl, _, _, rfl, rfl, _, rfl, ite2 (fun _ => ?_) (fun _ => ?_)⟩
    · exact ⟨_, rfl, p, c, b, rfl, h1.less (by omega), fun H2 i h2 k2 => q _ _ _ h2 (k1.trans k2) (smp_int i)⟩
    · refine ⟨_, rfl, _, _, rfl, rfl, _, rfl, ite2 (fun _ => ?_) (fun _ => ?_)⟩
      · exact ⟨_, rfl, p, c, b, rfl, h1.less (by omega), fun H2 z h2 k2 tz => q _ _ _ h2 (k1.trans k2) (smp_str tz)⟩
      · refine ⟨_, rfl, rfl, _, rfl, ite2 (fun _ => ?_) (fun _ => ?_)⟩
        · refine ⟨le_line (n := 3) (by decide), fun l nl => ?_⟩
          obtain ⟨lp, _⟩ := h1.new nl
          refine ⟨_, rfl, p, c, 3, b, rfl, (h1.same (same_new nl)).less (by omega), by decide, by decide, fun H2 e h2 k2 e0 e1 => ?_⟩
          have k3 := (k1.trans (Kp.same (same_new nl))).trans k2
          obtain ⟨x, hx, hat⟩ := at_in (xs := [V.bl true, V.bl false, V.non]) e0 e1
          refine ⟨l, _, e, x, rfl, rfl, SqL.of (k2 _ _ lp upd_same), hat, ?_⟩
          simp only [List.mem_cons, List.not_mem_nil, or_false] at hx
          rcases hx with rfl | rfl | rfl
          · exact q _ _ _ h2 k3 (smp_bl _)
          · exact q _ _ _ h2 k3 (smp_bl _)
          · exact q _ _ _ h2 k3 smp_non
        · intro a na
          exact q _ _ (.exc (NC K)) ((h1.same (same_new na)).less (by omega)) (k1.trans (Kp.same (same_new na))) ⟨⟨rfl, upd_same⟩, rfl, fun z e => by cases e⟩
theorem has_law_simple (Tx : Txt K mg) (c : He.SaysX fa fn [] [] ex w hh K) (X : K.In hh) (GG : hh.Ns mainGlobals mg) (h_law_draw : Has P w K mg base "_law_draw" 1 ["_law_pen_here", "_law_many"] sp_law_draw) (h_law_number : Has P w K mg base "_law_number" 2 ["_law_pen_here"] sp_law_number) (h_law_text : Has P w K mg base "_law_text" 2 ["_law_pen_here"] sp_law_text)  : Has P w K mg base "_law_simple" 3 ["_law_pen_here"] (sp_law_simple K) := by
  obtain ⟨fd, F⟩ := c.t.d.def_ 13 (d := d_law_simple) rfl
  exact ⟨_, fd, ok_law_simple F Tx h_law_draw h_law_number h_law_text, He.glo_ok X GG (c.t.d.fact 15 (f := .glo "_law_simple") rfl), F.kp, F.bindsN fun _ _ _ _ _ _ us hl => match us, hl with | [_], _ => rfl⟩
/-- a drawn row: a list of values that are no lists -/
def RowAt (C : Addr) (H : Hp) (r : Addr) (xs : List V) : Prop := H r = some (.lst xs) ∧ xs.length ≤ 8 ∧ ∀ x ∈ xs, ∃ k, Smp C H x k
def sp_law_row (K : PySem.W.Frag) : Sp := fun vs H Q _ => ∃ (p c : Addr) (b : Nat), vs = [.ref p] ∧ PenAt H p c (b + 60) ∧ ∀ H' r xs, PenAt H' p c b → Kp p H H' → H r = none → RowAt (NC K) H' r xs → Q (.ref r) H'
theorem sc_law_row : FnScope ["_law_pen_here", "_law_row_here", "_law_at"] ["_law_pen_here"] (defScope s_law_row) := ⟨rfl, rfl, rfl, by decide +kernel, rfl, by decide +kernel, by decide +kernel⟩
theorem ok_law_row {f : Addr} {fd : FuncData} (F : FnP K "_law_row" s_law_row f fd) (Tx : Txt K mg) (h_law_number : Has P w K mg base "_law_number" 2 ["_law_pen_here"] sp_law_number) (h_law_simple : Has P w K mg base "_law_simple" 3 ["_law_pen_here"] (sp_law_simple K)) (h_law_draw : Has P w K mg base "_law_draw" 1 ["_law_pen_here", "_law_many"] sp_law_draw)  : FnOk P w K mg base CX0 4 f fd ["_law_pen_here"] (sp_law_row K) := by
  obtain ⟨f_law_number, fd_law_number, G_law_number, g_law_number, k_law_number, b_law_number⟩ := h_law_number
  obtain ⟨f_law_simple, fd_law_simple, G_law_simple, g_law_simple, k_law_simple, b_law_simple⟩ := h_law_simple
  obtain ⟨f_law_draw, fd_law_draw, G_law_draw, g_law_draw, k_law_draw, b_law_draw⟩ := h_law_draw
  refine F.ok sc_law_row (fun vs H Q E h => ?_) (fun cdv A outer s H vs Q E hr h => ?_)
  · obtain ⟨p, c, b, rfl, _⟩ := h
    rfl
  · obtain ⟨p, c, b, rfl, hp, q⟩ := h
    refine ⟨_, PSs.nox (pss_cons (ps_setLc (i := 1) (own := [("_law_at", 2)]) (g := gName 2) (tt := tYes) rfl sc_law_row.nd rfl rfl (sw_true rfl rfl rfl (by decide +kernel)) (pi_range1 (by rfl) Tx.n_range (pa_cons (pe_call G_law_draw (hr.mono (by decide)) (by rfl) g_law_draw k_law_draw b_law_draw .nil pass0 (pa_cons (pv 0) (pa_cons pe_int pa_nil))) pa_nil)) (blkOk_by (own := [("_law_at", 2)]) (N := ["_law_pen_here", "_law_row_here", "_law_at"]) (sc := defScope s_law_row) (by decide +kernel)) (fun _ _ _ _ _ => (pg_name (i := 2) sc_law_row.nd rfl (Or.inl rfl))) (fun _ _ _ _ _ => pts_nil) (fun _ _ _ _ _ => (pe_call G_law_number (hr.mono (by decide)) (by rfl) g_law_number k_law_number b_law_number .nil pass0 (pa_cons (pv 0) pa_nil))))
        (C8.pss_cut (ps_if (PW.pt (pw_and (pt_cmpR op_eq (pe_call G_law_draw (hr.mono (by decide)) (by rfl) g_law_draw k_law_draw b_law_draw .nil pass0 (pa_cons (pv 0) (pa_cons pe_int pa_nil))) pe_int (nomark _)) (pw_and1 (pt_cmpR (op_neD hr.units) (pv 1) (pe_lst pa_nil) (nomark _))))) (pss_one (ps_asg (pe_call G_law_simple (hr.mono (by decide)) (by rfl) g_law_simple k_law_simple b_law_simple .nil pass0 (pa_cons (pv 0) pa_nil)) (pg_sub (pv 1) (pe_call G_law_draw (hr.mono (by decide)) (by rfl) g_law_draw k_law_draw b_law_draw .nil pass0 (pa_cons (pv 0) (pa_cons (pe_callB call_len_seq (by rfl) Tx.n_len (by decide +kernel) (pa_cons (pv 1) pa_nil)) pa_nil))) set_list))) pss_nil)
        (pss_one (ps_ret (pv 1))))), ?_⟩
    refine ⟨_, rfl, p, c, 9, b + 59, rfl, hp, by decide, by decide, fun H1 d h1 k1 d0 d1 => ?_⟩
    refine ⟨d, rfl, by omega, by omega, fun D nD => ?_⟩
    obtain ⟨Dp, Dc⟩ := h1.new nD
    have D0 : H D = none := by
      cases e : H D with
      | none => rfl
      | some o =>
        rw [k1 D o Dp e] at nD
        cases nD
    refine lc_it (walk_range (lo := 0) (n := d.toNat)) (fun i H2 => ∃ is : List Int, H2 D = some (.lst (is.map V.int)) ∧ is.length = i ∧ PenAt H2 p c (b + 59 - 2 * i) ∧ Kp p H H2)
      ⟨[], upd_same, rfl, h1.mut Dp Dc, k1.mut D0⟩ (fun _ _ _ _ => trivial) (fun i x H2 H3 hi pv y => ?_) (fun H2 pv => ?_)
    · obtain ⟨is, hD, hl, h2, k2⟩ := pv
      obtain ⟨rfl, rfl⟩ := y
      have hb : b + 59 - 2 * i = (b + 59 - 2 * (i + 1)) + 2 := by omega
      rw [hb] at h2
      refine ⟨rfl, _, rfl, p, c, _, rfl, h2, fun H4 z h4 k4 => ?_⟩
      refine ⟨_, k4 _ _ Dp hD, by rw [List.length_map]; exact small_line (by omega), is ++ [z], ?_, by rw [List.length_append, hl] <;> rfl, h4.mut Dp Dc, (k2.trans k4).mut D0⟩
      rw [upd_same, List.map_append]
      rfl
    · obtain ⟨is, hD, hl, h2, k2⟩ := pv
      have hrow : RowAt (NC K) H2 D (is.map V.int) := ⟨hD, by rw [List.length_map]; omega, fun x hx => by
        obtain ⟨z, _, rfl⟩ := List.mem_map.mp hx
        exact ⟨_, smp_int z⟩⟩
      replace h2 := h2.less (d := b + 40) (by omega)
      -- if draw(2) == 1 and row != []
      refine ⟨fun σ H4 => ∃ xs : List V, σ = [some (.ref p), some (.ref D), none] ∧ PenAt H4 p c b ∧ Kp p H H4 ∧ RowAt (NC K) H4 D xs, ?_, ?_⟩
      · refine ⟨_, rfl, p, c, 2, b + 39, rfl, h2, by decide, by decide, fun H3 e h3 k3 e0 e1 => ?_⟩
        have hD3 := k3 _ _ Dp hD
        obtain ⟨ps, hps⟩ := h2.at
        have hrow3 : RowAt (NC K) H3 D (is.map V.int) := ⟨hD3, hrow.2.1, fun x hx => by
          obtain ⟨k, hk⟩ := hrow.2.2 x hx
          exact ⟨k, hk.kp k3 hps⟩⟩
        refine ⟨rfl, _, rfl, ite2 (fun _ => ?_) (fun _ => ?_)⟩
        · refine ⟨_, rfl, Nat.zero_le _, fun z nz => ?_⟩
          have s3 : Same H3 (upd H3 z (.lst [])) := same_new nz
          refine ⟨_, _, .lst (SqL.of (s3 _ _ hD3)) (dpAll_flat (flat_ints is)), .lst (SqL.of upd_same) .nil, shaped_list (flat_ints is), rfl, _, rfl, ite2 (fun en => ?_) (fun _ => ?_)⟩
          · rw [eqv_nil] at en
            have ne : is.map V.int ≠ [] := fun z => by
              rw [z] at en
              cases en
            have lpos := List.length_pos_iff.mpr ne
            have h3' := h3.same s3
            -- row[draw(len(row))] = simple
            refine ⟨_, rfl, p, c, b + 2, rfl, h3'.less (by omega), fun H4 v k h4 k4 hv => ?_⟩
            have hD4 := k4 _ _ Dp (s3 _ _ hD3)
            refine ⟨_, rfl, _, rfl, _, rfl, D, _, rfl, .inl (SqL.of hD4), p, c, _, b + 1, rfl, h4, by omega, by have := hrow.2.1; omega, fun H5 a h5 k5 a0 a1 => ?_⟩
            have hD5 := k5 _ _ Dp hD4
            obtain ⟨j, hj⟩ := Int.eq_ofNat_of_zero_le a0
            obtain ⟨ps4, hps4⟩ := h4.at
            refine ⟨D, _, a, j, rfl, rfl, hD5, ?_, ?_⟩
            · rw [hj]
              exact ixN_at (by omega)
            · obtain ⟨ps3, hps3⟩ := h3'.at
              refine ⟨_, rfl, (h5.mut Dp Dc).less (by omega), ((((k2.trans k3).trans (Kp.same s3)).trans k4).trans k5).mut D0, upd_same, by rw [List.length_set]; exact hrow.2.1, fun x hx => ?_⟩
              have all5 : ∀ x ∈ is.map V.int, ∃ k, Smp (NC K) H5 x k := fun x hx => by
                obtain ⟨z, _, rfl⟩ := List.mem_map.mp hx
                exact ⟨_, smp_int z⟩
              have hv5 : Smp (NC K) H5 v k := hv.kp k5 hps4
              have step : ∀ y k, Smp (NC K) H5 y k → Smp (NC K) (upd H5 D (.lst ((is.map V.int).set j v))) y k := fun y k hy => by
                have ap := hy.apart hD5
                refine ⟨?_, hy.no, hy.txt⟩
                exact KndV.kp hy.knd (Kp.refl D H5).set ap
              rcases List.mem_or_eq_of_mem_set hx with hx | rfl
              · obtain ⟨k', hk'⟩ := all5 x hx
                exact ⟨k', step x k' hk'⟩
              · exact ⟨k, step x k hv5⟩
          · refine ⟨is.map V.int, rfl, (h3.same s3).less (by omega), (k2.trans k3).trans (Kp.same s3), s3 _ _ hD3, hrow.2.1, fun x hx => ?_⟩
            obtain ⟨k, hk⟩ := hrow3.2.2 x hx
            exact ⟨k, hk.same s3⟩
        · exact ⟨is.map V.int, rfl, h3.less (by omega), k2.trans k3, hrow3⟩
      · rintro σ H4 ⟨xs, rfl, h4, k4, hr4⟩
        exact ⟨_, rfl, q _ _ xs h4 k4 D0 hr4⟩
theorem has_law_row (Tx : Txt K mg) (c : He.SaysX fa fn [] [] ex w hh K) (X : K.In hh) (GG : hh.Ns mainGlobals mg) (h_law_number : Has P w K mg base "_law_number" 2 ["_law_pen_here"] sp_law_number) (h_law_simple : Has P w K mg base "_law_simple" 3 ["_law_pen_here"] (sp_law_simple K)) (h_law_draw : Has P w K mg base "_law_draw" 1 ["_law_pen_here", "_law_many"] sp_law_draw)  : Has P w K mg base "_law_row" 4 ["_law_pen_here"] (sp_law_row K) := by
  obtain ⟨fd, F⟩ := c.t.d.def_ 14 (d := d_law_row) rfl
  exact ⟨_, fd, ok_law_row F Tx h_law_number h_law_simple h_law_draw, He.glo_ok X GG (c.t.d.fact 16 (f := .glo "_law_row") rfl), F.kp, F.bindsN fun _ _ _ _ _ _ us hl => match us, hl with | [_], _ => rfl⟩

end
end K01
namespace K01
open PySem PySem.Spec PyProof.Rows L2 Vf
section
variable {hh : Heap} {P : Program} {w : World} {K : PySem.W.Frag} {mg : Str → Option Value} {base : Heap}
/-! ### the law's own checks -/
theorem has_is_integer_kw (Tx : Txt K mg) (c : He.SaysX fa fn [] [] ex w hh K) (X : K.In hh) (GG : hh.Ns mainGlobals mg)  : HasK P w K mg base "is_integer" 1 ["value"] ["value"] gv1 (sp_is_integer K) := by
  obtain ⟨fd, F⟩ := c.t.d.def_ 1 (d := d_is_integer) rfl
  exact ⟨_, fd, (fun _ zs => zs), ok_is_integer F Tx , He.glo_ok X GG (c.t.d.fact 3 (f := .glo "is_integer") rfl), F.kp, kbn_of F (fun _ _ _ _ _ _ ws hl => match ws, hl with | [_], _ => rfl) (fun _ h => h)⟩
theorem has_is_kind_kw (Tx : Txt K mg) (c : He.SaysX fa fn [] [] ex w hh K) (X : K.In hh) (GG : hh.Ns mainGlobals mg) (h_is_grid : Has P w K mg base "is_grid" 1 ["value"] (sp_is_grid K)) : HasK P w K mg base "is_kind" 2 ["value"] ["value"] gv1 (sp_is_kind K) := by
  obtain ⟨fd, F⟩ := c.t.d.def_ 3 (d := d_is_kind) rfl
  exact ⟨_, fd, (fun _ zs => zs), ok_is_kind F Tx h_is_grid, He.glo_ok X GG (c.t.d.fact 5 (f := .glo "is_kind") rfl), F.kp, kbn_of F (fun _ _ _ _ _ _ ws hl => match ws, hl with | [_], _ => rfl) (fun _ h => h)⟩
theorem has_is_name_kw (Tx : Txt K mg) (c : He.SaysX fa fn [] [] ex w hh K) (X : K.In hh) (GG : hh.Ns mainGlobals mg)  : HasK P w K mg base "is_name" 1 ["value"] ["value"] gv1 (sp_is_name K) := by
  obtain ⟨fd, F⟩ := c.t.d.def_ 4 (d := d_is_name) rfl
  exact ⟨_, fd, (fun _ zs => zs), ok_is_name F Tx , He.glo_ok X GG (c.t.d.fact 6 (f := .glo "is_name") rfl), F.kp, kbn_of F (fun _ _ _ _ _ _ ws hl => match ws, hl with | [_], _ => rfl) (fun _ h => h)⟩
theorem has_is_within_kw (Tx : Txt K mg) (c : He.SaysX fa fn [] [] ex w hh K) (X : K.In hh) (GG : hh.Ns mainGlobals mg) (h_is_integer : Has P w K mg base "is_integer" 1 ["value"] (sp_is_integer K)) : HasK P w K mg base "is_within" 2 ["value", "least", "most"] ["most", "value", "least"] gv3 (sp_is_within K) := by
  obtain ⟨fd, F⟩ := c.t.d.def_ 2 (d := d_is_within) rfl
  exact ⟨_, fd, gu3, ok_is_within F Tx h_is_integer, He.glo_ok X GG (c.t.d.fact 4 (f := .glo "is_within") rfl), F.kp, kbn_of F (fun _ _ _ _ _ _ ws hl => match ws, hl with | [_, _, _], _ => rfl) gv3_rel⟩
def allC : List Nat := ("0123456789abcdefghijklmnopqrstuvwxyz" : Str).cps.toList
theorem allC_eq : allC = digC ++ smallC := by decide +kernel
theorem mem_allC (c : Nat) : decide (c ∈ allC) = okC c := by
  rw [allC_eq]
  unfold okC
  rw [show decide (c ∈ digC ++ smallC) = (decide (c ∈ digC) || decide (c ∈ smallC)) by simp [List.mem_append]]
  exact Bool.or_comm _ _
theorem kept_none {xs : List V} {f : V → Bool} : decide (((xs.filter fun x => !f x).map fun x => x) = []) = (xs.map f).all id := by
  rw [List.map_id']
  induction xs with
  | nil => rfl
  | cons a r ih =>
    rw [List.filter_cons, List.map_cons, List.all_cons]
    cases h : f a with
    | true => simp only [Bool.not_true, Bool.false_eq_true, if_false, id, Bool.true_and]; exact ih
    | false => simp only [Bool.not_false, if_true, id, Bool.false_and]; rfl
def sp_law_names (K : PySem.W.Frag) : Sp := fun vs H Q _ => ∃ (v : V) (k : Knd) (xs : List V), vs = [v] ∧ Seen (NC K) H v k xs ∧ ∀ H', Same H H' → Q (.bl (isName v)) H'
theorem sc_law_names : FnScope ["_law_value", "_law_sign"] ["_law_value"] (defScope s_law_names) := ⟨rfl, rfl, rfl, by decide +kernel, rfl, by decide +kernel, by decide +kernel⟩
theorem ok_law_names {f : Addr} {fd : FuncData} (F : FnP K "_law_names" s_law_names f fd) (Tx : Txt K mg)   : FnOk P w K mg base CX0 1 f fd ["_law_value"] (sp_law_names K) := by
  refine F.ok sc_law_names (fun vs H Q E h => ?_) (fun cdv A outer s H vs Q E hr h => ?_)
  · obtain ⟨v, k, xs, rfl, _⟩ := h
    rfl
  · obtain ⟨v, k, xs, rfl, hv, q⟩ := h
    refine ⟨_, PSs.nox (pss_cons (ps_if (PW.pt (pw_or (pt_not (pt_val (pe_callB (call_isY Tx.exc) (by rfl) Tx.n_isinstance (by decide +kernel) (pa_cons (pv 0) (pa_cons (pe_bltn (v := .ty "str") (by rfl) Tx.n_str (by decide +kernel) rfl) pa_nil))))) (pw_or (pt_cmpR op_lt (pe_callB call_len_str (by rfl) Tx.n_len (by decide +kernel) (pa_cons (pv 0) pa_nil)) pe_int (nomark _)) (pw_or (pt_cmpR op_gt (pe_callB call_len_str (by rfl) Tx.n_len (by decide +kernel) (pa_cons (pv 0) pa_nil)) pe_int (nomark _)) (pw_or1 (pt_cmpR op_notIn_sign (pe_ix ix_str (pv 0) pe_int (fun _ _ => rfl)) pe_str rfl)))))) (pss_one (ps_ret pe_bl)) pss_nil)
        (pss_one (ps_ret (pe_cmpR (op_eqNil hr.units0) (pe_lc (own := [("_law_sign", 1)]) (g := gName 1) rfl sc_law_names.nd (pi_str (pv 0)) (blkOk_by (own := [("_law_sign", 1)]) (N := ["_law_value", "_law_sign"]) (sc := defScope s_law_names) (by decide +kernel)) (fun _ _ _ _ _ => (pg_name (i := 1) sc_law_names.nd rfl (Or.inl rfl))) (fun _ _ _ _ _ => (pts_one (pt_cmpR op_notIn_sign (pv 1) pe_str rfl))) (fun _ _ _ _ _ => (pv 1))) (pe_lst pa_nil) (nomark _))))), ?_⟩
    refine ⟨_, rfl, v, "str", k, _, rfl, hv.knd, kit_is Tx.kit hv.knd (by decide), _, rfl, ?_⟩
    rw [knd_str hv.knd]
    cases v with
    | str z =>
      have hz := (hv.txt z rfl).1
      have hl : z.length ≤ sizeLine := le_line (by omega)
      have el := str_len z
      refine ite2 (fun e => by cases e) (fun _ => ?_)
      refine ⟨_, rfl, _, rfl, hl, _, _, rfl, rfl, _, rfl, ite2 (fun e => ?_) (fun e => ?_)⟩
      · have h1 : nameC z.cps.toList = false := nameC_len (by
          have := of_decide_eq_true e
          omega)
        show Q (.bl false) H
        rw [← h1]
        exact q _ (Same.refl _)
      · have n0 : ¬ ((z.length : Int) < 1) := fun x => e (decide_eq_true x)
        refine ⟨_, rfl, _, rfl, hl, _, _, rfl, rfl, _, rfl, ite2 (fun e2 => ?_) (fun e2 => ?_)⟩
        · have h1 : nameC z.cps.toList = false := nameC_long (by
            have := of_decide_eq_true e2
            omega)
          show Q (.bl false) H
          rw [← h1]
          exact q _ (Same.refl _)
        · have n1 : ¬ ((12 : Int) < z.length) := fun x => e2 (decide_eq_true x)
          obtain ⟨c, r, hc⟩ : ∃ c r, z.cps.toList = c :: r := by
            cases h : z.cps.toList with
            | nil =>
              rw [h] at el
              simp at el
              omega
            | cons c r => exact ⟨c, r, rfl⟩
          have hat : atI z.cps.toList 0 = some c := by
            rw [hc]
            exact atI_nat (j := 0) rfl
          have hn : nameC z.cps.toList = (decide (c ∈ smallC) && z.cps.toList.all okC) := by
            rw [hc]
            have h12 : (c :: r).length ≤ 12 := by
              rw [← hc]
              omega
            show (decide ((c :: r).length ≤ 12) && (decide (c ∈ smallC) && (c :: r).all okC)) = _
            rw [decide_eq_true h12, Bool.true_and]
          refine ⟨_, rfl, z, 0, c, rfl, rfl, hl, hat, c, _, rfl, rfl, _, rfl, ite2 (fun e3 => ?_) (fun e3 => ?_)⟩
          · have e4 : decide (c ∈ smallC) = false := by
              have e5 : (!decide (c ∈ smallC)) = true := e3
              simpa using e5
            have e5 : isName (.str z) = false := by
              show nameC z.cps.toList = _
              rw [hn, e4, Bool.false_and]
            have q2 := q H (Same.refl _)
            rw [e5] at q2
            exact q2
          · have e4 : decide (c ∈ smallC) = true := by
              have e5 : ¬ (!decide (c ∈ smallC)) = true := e3
              simpa using e5
            refine ⟨_, rfl, z, rfl, fun D nD => ?_⟩
            refine lc_pure walk_sgs (sgs z) (sgs_len z).symm (by rw [sgs_len]; have : z.cps.size = z.length := rfl; omega) (fun i H x H' y => ⟨same_of_eq y.1, y.2⟩) (fun x => x) (fun x => !okV x) nD (fun _ _ => trivial) (fun i x H2 Q1 Q0 hi s2 q1 q0 => ?_) (fun H2 s2 hD => ?_)
            · refine ⟨rfl, ?_⟩
              obtain ⟨d, _, rfl⟩ := List.mem_map.mp (List.mem_of_getElem? hi)
              refine ⟨_, rfl, d, _, rfl, rfl, _, rfl, ?_⟩
              have e6 : (!decide (d ∈ allC)) = !okV (.str ⟨#[d]⟩) := by rw [mem_allC, okV_sign]
              refine ite2 (fun e7 => ?_) (fun e7 => ?_)
              · exact ⟨_, rfl, q1 (e6.symm.trans e7) _ (Same.refl _)⟩
              · exact q0 (e6.symm.trans (Bool.eq_false_iff.mpr e7)) _ (Same.refl _)
            · refine ⟨Nat.zero_le _, fun o no => ?_⟩
              refine ⟨D, o, _, rfl, rfl, SqL.of (same_new no _ _ hD), SqL.of upd_same, ?_⟩
              have e5 : isName (.str z) = decide (((sgs z).filter fun x => !okV x).map (fun x => x) = []) := by
                rw [kept_none, sgs_all]
                show nameC z.cps.toList = _
                rw [hn, e4, Bool.true_and]
              rw [← e5]
              exact q _ (s2.trans (same_new no))
    | _ => exact ite2 (fun _ => q _ (Same.refl _)) (fun e => absurd rfl e)
theorem has_law_names (Tx : Txt K mg) (c : He.SaysX fa fn [] [] ex w hh K) (X : K.In hh) (GG : hh.Ns mainGlobals mg)   : Has P w K mg base "_law_names" 1 ["_law_value"] (sp_law_names K) := by
  obtain ⟨fd, F⟩ := c.t.d.def_ 16 (d := d_law_names) rfl
  exact ⟨_, fd, ok_law_names F Tx , He.glo_ok X GG (c.t.d.fact 18 (f := .glo "_law_names") rfl), F.kp, F.bindsN fun _ _ _ _ _ _ us hl => match us, hl with | [_], _ => rfl⟩

end
end K01
namespace K01
open PySem PySem.Spec PyProof.Rows L2 Vf
section
variable {hh : Heap} {P : Program} {w : World} {K : PySem.W.Frag} {mg : Str → Option Value} {base : Heap}
/-! ### one value -/
def sp_law_one_right (K : PySem.W.Frag) : Sp := fun vs H Q _ => ∃ (v : V) (k : Knd) (xs : List V), vs = [v] ∧ Seen (NC K) H v k xs ∧ ∀ H', Same H H' → Q (.bl true) H'
theorem sc_law_one_right : FnScope ["_law_value", "_law_rows", "_law_kinds", "_law_told", "_law_answer", "_law_due", "_law_part"] ["_law_value"] (defScope s_law_one_right) := ⟨rfl, rfl, rfl, by decide +kernel, rfl, by decide +kernel, by decide +kernel⟩
theorem ok_law_one_right {f : Addr} {fd : FuncData} (F : FnP K "_law_one_right" s_law_one_right f fd) (Tx : Txt K mg) (h_is_integer : Has P w K mg base "is_integer" 1 ["value"] (sp_is_integer K)) (h_is_name : Has P w K mg base "is_name" 1 ["value"] (sp_is_name K)) (h_is_row : Has P w K mg base "is_row" 2 ["value"] (sp_is_row K)) (h_is_kind : Has P w K mg base "is_kind" 2 ["value"] (sp_is_kind K)) (h_is_within : Has P w K mg base "is_within" 2 ["value", "least", "most"] (sp_is_within K)) (h_law_plain : Has P w K mg base "_law_plain" 1 ["_law_value"] (sp_law_plain K)) (h_law_names : Has P w K mg base "_law_names" 1 ["_law_value"] (sp_law_names K)) (h_is_integer_kw : HasK P w K mg base "is_integer" 1 ["value"] ["value"] gv1 (sp_is_integer K)) (h_is_name_kw : HasK P w K mg base "is_name" 1 ["value"] ["value"] gv1 (sp_is_name K)) (h_is_kind_kw : HasK P w K mg base "is_kind" 2 ["value"] ["value"] gv1 (sp_is_kind K)) : FnOk P w K mg base CX0 3 f fd ["_law_value"] (sp_law_one_right K) := by
  obtain ⟨f_is_integer, fd_is_integer, G_is_integer, g_is_integer, k_is_integer, b_is_integer⟩ := h_is_integer
  obtain ⟨f_is_name, fd_is_name, G_is_name, g_is_name, k_is_name, b_is_name⟩ := h_is_name
  obtain ⟨f_is_row, fd_is_row, G_is_row, g_is_row, k_is_row, b_is_row⟩ := h_is_row
  obtain ⟨f_is_kind, fd_is_kind, G_is_kind, g_is_kind, k_is_kind, b_is_kind⟩ := h_is_kind
  obtain ⟨f_is_within, fd_is_within, G_is_within, g_is_within, k_is_within, b_is_within⟩ := h_is_within
  obtain ⟨f_law_plain, fd_law_plain, G_law_plain, g_law_plain, k_law_plain, b_law_plain⟩ := h_law_plain
  obtain ⟨f_law_names, fd_law_names, G_law_names, g_law_names, k_law_names, b_law_names⟩ := h_law_names
  obtain ⟨f_is_integer_kw, fd_is_integer_kw, gg_is_integer_kw, G_is_integer_kw, g_is_integer_kw, k_is_integer_kw, b_is_integer_kw⟩ := h_is_integer_kw
  obtain ⟨f_is_name_kw, fd_is_name_kw, gg_is_name_kw, G_is_name_kw, g_is_name_kw, k_is_name_kw, b_is_name_kw⟩ := h_is_name_kw
  obtain ⟨f_is_kind_kw, fd_is_kind_kw, gg_is_kind_kw, G_is_kind_kw, g_is_kind_kw, k_is_kind_kw, b_is_kind_kw⟩ := h_is_kind_kw
  refine F.ok sc_law_one_right (fun vs H Q E h => ?_) (fun cdv A outer s H vs Q E hr h => ?_)
  · obtain ⟨v, k, xs, rfl, _⟩ := h
    rfl
  · obtain ⟨v, k, xs, rfl, hv, q⟩ := h
    by_cases ht : Knd.seq k = true ∧ ∃ a, v = .ref a ∧ H a = some (.tup xs)
    · refine ⟨_, PSs.nox (pss_cons (ps_set (i := 1) sc_law_one_right.nd rfl (Or.inl rfl) (pe_callB (call_isTY Tx.exc) (by rfl) Tx.n_isinstance (by decide +kernel) (pa_cons (pv 0) (pa_cons (pe_tup (pa_cons (pe_bltn (v := .ty "list") (by rfl) Tx.n_list (by decide +kernel) rfl) (pa_cons (pe_bltn (v := .ty "tuple") (by rfl) Tx.n_tuple (by decide +kernel) rfl) pa_nil))) pa_nil))))
        (C8.pss_cut (ps_if (pt_val (pv 1)) (pss_one (ps_set (i := 1) sc_law_one_right.nd rfl (Or.inl rfl) (pe_cmpR (op_eqNil hr.units0) (pe_lc (own := [("_law_part", 6)]) (g := gName 6) rfl sc_law_one_right.nd (pi_tup (pv 0)) (blkOk_by (own := [("_law_part", 6)]) (N := ["_law_value", "_law_rows", "_law_kinds", "_law_told", "_law_answer", "_law_due", "_law_part"]) (sc := defScope s_law_one_right) (by decide +kernel)) (fun _ _ _ _ _ => (pg_name (i := 6) sc_law_one_right.nd rfl (Or.inl rfl))) (fun _ _ _ _ _ => (pts_one (pt_not (pt_val (pe_call G_law_plain (hr.mono (by decide)) (by rfl) g_law_plain k_law_plain b_law_plain .nil pass0 (pa_cons (pv 6) pa_nil)))))) (fun _ _ _ _ _ => (pv 6))) (pe_lst pa_nil) (nomark _)))) pss_nil)
        (pss_cons (ps_set (i := 2) sc_law_one_right.nd rfl (Or.inl rfl) (pe_and (pe_callB (call_isY Tx.exc) (by rfl) Tx.n_isinstance (by decide +kernel) (pa_cons (pv 0) (pa_cons (pe_bltn (v := .ty "str") (by rfl) Tx.n_str (by decide +kernel) rfl) pa_nil))) (pe_one (pe_cmpR op_in_seq (pv 0) (pe_tup (pa_cons pe_str (pa_cons pe_str pa_nil))) rfl))))
        (pss_cons (ps_set (i := 3) sc_law_one_right.nd rfl (Or.inl rfl) (pe_lst (pa_cons (pe_call G_is_integer (hr.mono (by decide)) (by rfl) g_is_integer k_is_integer b_is_integer .nil pass0 (pa_cons (pv 0) pa_nil)) (pa_cons (pe_call G_is_name (hr.mono (by decide)) (by rfl) g_is_name k_is_name b_is_name .nil pass0 (pa_cons (pv 0) pa_nil)) (pa_cons (pe_call G_is_row (hr.mono (by decide)) (by rfl) g_is_row k_is_row b_is_row .nil pass0 (pa_cons (pv 0) pa_nil)) (pa_cons (pe_call G_is_kind (hr.mono (by decide)) (by rfl) g_is_kind k_is_kind b_is_kind .nil pass0 (pa_cons (pv 0) pa_nil)) (pa_cons (pe_call G_is_within (hr.mono (by decide)) (by rfl) g_is_within k_is_within b_is_within .nil pass0 (pa_cons (pv 0) (pa_cons pe_non (pa_cons pe_non pa_nil)))) pa_nil)))))))
        (pss_cons (ps_for PassesOwn.never rfl (pi_zip (by rfl) Tx.n_zip (pa_cons (pv 3) (pa_cons (pe_lst (pa_cons (pe_call G_law_plain (hr.mono (by decide)) (by rfl) g_law_plain k_law_plain b_law_plain .nil pass0 (pa_cons (pv 0) pa_nil)) (pa_cons (pe_call G_law_names (hr.mono (by decide)) (by rfl) g_law_names k_law_names b_law_names .nil pass0 (pa_cons (pv 0) pa_nil)) (pa_cons (pv 1) (pa_cons (pv 2) (pa_cons (pe_call G_law_plain (hr.mono (by decide)) (by rfl) g_law_plain k_law_plain b_law_plain .nil pass0 (pa_cons (pv 0) pa_nil)) pa_nil)))))) pa_nil))) (pg_tup (by rfl) (pgs_cons (pg_name (i := 4) sc_law_one_right.nd rfl (Or.inl rfl)) (pgs_cons (pg_name (i := 5) sc_law_one_right.nd rfl (Or.inl rfl)) pgs_nil))) (pss_one (ps_if (PW.pt (pw_or (pt_not (pt_val (pe_callB (call_isY Tx.exc) (by rfl) Tx.n_isinstance (by decide +kernel) (pa_cons (pv 4) (pa_cons (pe_bltn (v := .ty "bool") (by rfl) Tx.n_bool (by decide +kernel) rfl) pa_nil))))) (pw_or1 (pt_cmpR op_ne (pv 4) (pv 5) (nomark _))))) (pss_one (ps_ret pe_bl)) pss_nil)))
        (pss_one (ps_ret (pe_and (pe_cmpR op_eq (pe_callK0 G_is_integer_kw (hr.mono (by decide)) (by rfl) g_is_integer_kw k_is_integer_kw b_is_integer_kw pass0 (pk_cons (pv 0) pk_nil)) (pe_ix ix_list (pv 3) pe_int (fun _ _ => rfl)) (nomark _)) (pe_and (pe_cmpR op_eq (pe_callK0 G_is_name_kw (hr.mono (by decide)) (by rfl) g_is_name_kw k_is_name_kw b_is_name_kw pass0 (pk_cons (pv 0) pk_nil)) (pe_ix ix_list (pv 3) pe_int (fun _ _ => rfl)) (nomark _)) (pe_one (pe_cmpR op_eq (pe_callK0 G_is_kind_kw (hr.mono (by decide)) (by rfl) g_is_kind_kw k_is_kind_kw b_is_kind_kw pass0 (pk_cons (pv 0) pk_nil)) (pe_ix ix_list (pv 3) pe_int (fun _ _ => rfl)) (nomark _)))))))))))), ?_⟩
      -- rows
      refine ⟨_, rfl, le_line (n := 2) (by decide), fun t nt => ?_⟩
      have s1 : Same H (upd H t (.tup [.ty "list", .ty "tuple"])) := same_new nt
      refine ⟨v, t, _, k, _, _, rfl, upd_same, .cons (.ty "list") (.cons (.ty "tuple") .nil), hv.knd.same s1, kit_seq Tx.kit hv.knd, ?_⟩
      revert s1
      generalize upd H t (.tup [.ty "list", .ty "tuple"]) = H1
      intro s1
      refine ⟨fun σ H2 => σ = [some v, some (.bl (Knd.seq k && (xs.map isI).all id)), none, none, none, none, none] ∧ Same H H2, ?_, ?_⟩
      · refine ⟨_, rfl, _, rfl, ite2 (fun hs => ?_) (fun hs => ?_)⟩
        · obtain ⟨hq, a0, ea, hta⟩ := ht
          obtain ⟨a, rfl, ha, hl, hx⟩ := (show ∃ a, v = .ref a ∧ H a = some (.tup xs) ∧ xs.length ≤ 1000 ∧ ∀ x ∈ xs, ∃ k, KndV (NC K) H x k from ⟨a0, ea, hta, (hv.row hq).choose_spec.2.2.1, (hv.row hq).choose_spec.2.2.2⟩)
          refine ⟨_, rfl, a, rfl, ⟨xs, SqT.of (s1 _ _ ha)⟩, fun D nD => ?_⟩
          refine lc_pure (walk_tup (K := K) (a := a) (xs := xs)) xs rfl (by omega) (fun i H x H' y => ⟨same_of_eq y.1, y.2⟩) (fun x => x) (fun x => !isI x) nD (fun H2 s => SqT.of (s _ _ (s1 _ _ ha))) (fun i x H2 Q1 Q0 hi s2 q1 q0 => ?_) (fun H2 s2 hD => ?_)
          · refine ⟨rfl, ?_⟩
            obtain ⟨kx, hkx⟩ := hx x (List.mem_of_getElem? hi)
            refine ⟨_, rfl, x, kx, rfl, (hkx.same s1).same s2, _, rfl, ite2 (fun e => ?_) (fun e => ?_)⟩
            · exact ⟨_, rfl, q1 e _ (Same.refl _)⟩
            · exact q0 (Bool.eq_false_iff.mpr e) _ (Same.refl _)
          · refine ⟨Nat.zero_le _, fun o no => ?_⟩
            refine ⟨D, o, _, rfl, rfl, SqL.of (same_new no _ _ hD), SqL.of upd_same, ?_⟩
            refine ⟨?_, (s1.trans s2).trans (same_new no)⟩
            have hs' : Knd.seq k = true := hs
            rw [kept_none, hs', Bool.true_and]
            rfl
        · have hs' : Knd.seq k = false := Bool.eq_false_iff.mpr hs
          refine ⟨?_, s1⟩
          rw [hs', Bool.false_and]
          have e : (k.is "list" || k.is "tuple") = false := hs'
          rw [e]
          rfl
      · rintro σ H2 ⟨rfl, s2⟩
        have hv2 := hv.same s2
        -- kinds
        refine ⟨_, rfl, v, "str", k, _, rfl, hv2.knd, kit_is Tx.kit hv2.knd (by decide), _, rfl, ?_⟩
        have kd : ∀ (R : V → Hp → Prop), (∀ H3, Same H2 H3 → R (.bl (isGrid v)) H3) → (if k.is "str" = true then tOp (rIn K false) (tVar 0) (tTup (tCons (tC (.str "square")) (tCons (tC (.str "triangle")) tNil))) [some v, some (.bl (Knd.seq k && (xs.map isI).all id)), none, none, none, none, none] H2 R else R (.bl false) H2) := fun R r => by
          rw [knd_str hv2.knd]
          cases v with
          | str z =>
            refine iteT ⟨_, rfl, le_line (n := 2) (by decide), fun t2 nt2 => ?_⟩
            exact ⟨t2, _, rfl, .inr (SqT.of upd_same), rfl, rfl, r _ (same_new nt2)⟩
          | _ => exact iteF (r _ (Same.refl _))
        refine kd _ fun H3 s3 => ?_
        have hv3 := hv2.same s3
        -- told
        refine ⟨_, rfl, v, k, rfl, hv3.knd, _, rfl, v, k, xs, rfl, hv3, fun H4 s4 => ?_⟩
        have hv4 := hv3.same s4
        refine ⟨_, rfl, v, k, xs, rfl, hv4, fun H5 s5 => ?_⟩
        have hv5 := hv4.same s5
        refine ⟨_, rfl, v, k, rfl, hv5.knd, _, rfl, v, .non, .non, k, rfl, hv5.knd, rfl, rfl, le_line (n := 5) (by decide), fun tl ntl => ?_⟩
        have s6 : Same H5 (upd H5 tl (.lst [.bl (isI v), .bl (isName v), .bl (Knd.seq k && (xs.map isI).all id), .bl (isGrid v), .bl (isI v)])) := same_new ntl
        have ew : bnd v .non .non = isI v := by cases v <;> rfl
        have h6 : (upd H5 tl (.lst [.bl (isI v), .bl (isName v), .bl (Knd.seq k && (xs.map isI).all id), .bl (isGrid v), .bl (isI v)])) tl = some (.lst [.bl (isI v), .bl (isName v), .bl (Knd.seq k && (xs.map isI).all id), .bl (isGrid v), .bl (isI v)]) := upd_same
        rw [ew]
        revert s6 h6
        generalize upd H5 tl (.lst [.bl (isI v), .bl (isName v), .bl (Knd.seq k && (xs.map isI).all id), .bl (isGrid v), .bl (isI v)]) = H6
        intro s6 h6
        have hv6 := hv5.same s6
        -- the zip
        refine ⟨_, rfl, _, rfl, v, k, rfl, hv6.knd, _, rfl, v, k, xs, rfl, hv6, fun H7 s7 => ?_⟩
        have hv7 := hv6.same s7
        refine ⟨_, rfl, _, rfl, _, rfl, v, k, rfl, hv7.knd, le_line (n := 5) (by decide), fun tm ntm => ?_⟩
        have s8 : Same H7 (upd H7 tm (.lst [.bl (isI v), .bl (isName v), .bl (Knd.seq k && (xs.map isI).all id), .bl (isGrid v), .bl (isI v)])) := same_new ntm
        have h8 : (upd H7 tm (.lst [.bl (isI v), .bl (isName v), .bl (Knd.seq k && (xs.map isI).all id), .bl (isGrid v), .bl (isI v)])) tm = some (.lst [.bl (isI v), .bl (isName v), .bl (Knd.seq k && (xs.map isI).all id), .bl (isGrid v), .bl (isI v)]) := upd_same
        revert s8 h8
        generalize hH8 : upd H7 tm (.lst [.bl (isI v), .bl (isName v), .bl (Knd.seq k && (xs.map isI).all id), .bl (isGrid v), .bl (isI v)]) = H8
        intro s8 h8
        have st : Same H H8 := (((((s2.trans s3).trans s4).trans s5).trans s6).trans s7).trans s8
        have hall : ∀ x ∈ [V.bl (isI v), .bl (isName v), .bl (Knd.seq k && (xs.map isI).all id), .bl (isGrid v), .bl (isI v)], ∃ b, x = .bl b := by
          intro x hx
          simp only [List.mem_cons, List.not_mem_nil, or_false] at hx
          rcases hx with rfl | rfl | rfl | rfl | rfl <;> exact ⟨_, rfl⟩
        have h68 := s8 _ _ (s7 _ _ h6)
        have same_at : ∀ {H9 : Hp}, Same H8 H9 → SqL K H9 tl [.bl (isI v), .bl (isName v), .bl (Knd.seq k && (xs.map isI).all id), .bl (isGrid v), .bl (isI v)] := fun s9 => SqL.of (s9 _ _ h68)
        refine ⟨tl, tm, _, _, rfl, SqL.of h68, SqL.of h8, ?_⟩
        refine for_it (walk_zip (K := K) (a := tl) (b := tm) (xs := [.bl (isI v), .bl (isName v), .bl (Knd.seq k && (xs.map isI).all id), .bl (isGrid v), .bl (isI v)]) (ys := [.bl (isI v), .bl (isName v), .bl (Knd.seq k && (xs.map isI).all id), .bl (isGrid v), .bl (isI v)]) (n := 5) rfl)
          (fun i σ H9 => ∃ a4 a5 : Option V, σ = [some v, some (.bl (Knd.seq k && (xs.map isI).all id)), some (.bl (isGrid v)), some (.ref tl), a4, a5, none] ∧ Same H8 H9) ⟨none, none, rfl, Same.refl _⟩ (fun i σ H9 _ p => ?_) (fun i x σ H9 H10 hi p y => ?_) (fun σ H9 p => ?_)
        · obtain ⟨_, _, _, s9⟩ := p
          exact ⟨same_at s9, SqL.of (s9 _ _ h8)⟩
        · obtain ⟨a4, a5, rfl, s9⟩ := p
          obtain ⟨T, x1, x2, rfl, nT, rfl, f1, f2⟩ := y
          have ex : x1 = x2 := Option.some.inj (f1.symm.trans f2)
          subst ex
          obtain ⟨b, rfl⟩ := hall x1 (List.mem_of_getElem? f1)
          refine ⟨T, [.bl b, .bl b], rfl, SqT.of upd_same, rfl, .bl b, [.bl b], rfl, .bl b, [], rfl, rfl, ?_⟩
          refine ⟨_, rfl, .bl b, "bool", .bool, _, rfl, trivial, kit_ty (r := true) (by decide +kernel), _, rfl, ?_⟩
          refine ite2 (fun e => by cases e) (fun _ => ?_)
          refine ⟨_, rfl, _, rfl, rfl, _, rfl, ite2 (fun e => ?_) (fun _ => ?_)⟩
          · rw [decide_eq_true rfl] at e
            cases e
          · exact ⟨_, _, rfl, s9.trans (same_new nT)⟩
        · obtain ⟨a4, a5, rfl, s9⟩ := p
          have hv9 := (hv.same st).same s9
          refine ⟨_, rfl, rfl, rfl, v, k, rfl, hv9.knd, _, rfl, tl, _, 0, .bl (isI v), rfl, rfl, same_at s9, rfl, rfl, _, rfl, ite2 (fun _ => ?_) (fun e => absurd (decide_eq_true rfl) e)⟩
          refine ⟨_, rfl, rfl, rfl, v, k, xs, rfl, hv9, fun H10 s10 => ?_⟩
          have hv10 := hv9.same s10
          refine ⟨_, rfl, tl, _, 1, .bl (isName v), rfl, rfl, same_at (s9.trans s10), rfl, rfl, _, rfl, ite2 (fun _ => ?_) (fun e => absurd (decide_eq_true rfl) e)⟩
          refine ⟨_, rfl, rfl, rfl, v, k, rfl, hv10.knd, _, rfl, tl, _, 3, .bl (isGrid v), rfl, rfl, same_at (s9.trans s10), rfl, rfl, ?_⟩
          show Q (.bl (decide (V.bl (isGrid v) = V.bl (isGrid v)))) H10
          rw [decide_eq_true rfl]
          exact q _ ((st.trans s9).trans s10)
    · refine ⟨_, PSs.nox (pss_cons (ps_set (i := 1) sc_law_one_right.nd rfl (Or.inl rfl) (pe_callB (call_isTY Tx.exc) (by rfl) Tx.n_isinstance (by decide +kernel) (pa_cons (pv 0) (pa_cons (pe_tup (pa_cons (pe_bltn (v := .ty "list") (by rfl) Tx.n_list (by decide +kernel) rfl) (pa_cons (pe_bltn (v := .ty "tuple") (by rfl) Tx.n_tuple (by decide +kernel) rfl) pa_nil))) pa_nil))))
        (C8.pss_cut (ps_if (pt_val (pv 1)) (pss_one (ps_set (i := 1) sc_law_one_right.nd rfl (Or.inl rfl) (pe_cmpR (op_eqNil hr.units0) (pe_lc (own := [("_law_part", 6)]) (g := gName 6) rfl sc_law_one_right.nd (pi_list (pv 0)) (blkOk_by (own := [("_law_part", 6)]) (N := ["_law_value", "_law_rows", "_law_kinds", "_law_told", "_law_answer", "_law_due", "_law_part"]) (sc := defScope s_law_one_right) (by decide +kernel)) (fun _ _ _ _ _ => (pg_name (i := 6) sc_law_one_right.nd rfl (Or.inl rfl))) (fun _ _ _ _ _ => (pts_one (pt_not (pt_val (pe_call G_law_plain (hr.mono (by decide)) (by rfl) g_law_plain k_law_plain b_law_plain .nil pass0 (pa_cons (pv 6) pa_nil)))))) (fun _ _ _ _ _ => (pv 6))) (pe_lst pa_nil) (nomark _)))) pss_nil)
        (pss_cons (ps_set (i := 2) sc_law_one_right.nd rfl (Or.inl rfl) (pe_and (pe_callB (call_isY Tx.exc) (by rfl) Tx.n_isinstance (by decide +kernel) (pa_cons (pv 0) (pa_cons (pe_bltn (v := .ty "str") (by rfl) Tx.n_str (by decide +kernel) rfl) pa_nil))) (pe_one (pe_cmpR op_in_seq (pv 0) (pe_tup (pa_cons pe_str (pa_cons pe_str pa_nil))) rfl))))
        (pss_cons (ps_set (i := 3) sc_law_one_right.nd rfl (Or.inl rfl) (pe_lst (pa_cons (pe_call G_is_integer (hr.mono (by decide)) (by rfl) g_is_integer k_is_integer b_is_integer .nil pass0 (pa_cons (pv 0) pa_nil)) (pa_cons (pe_call G_is_name (hr.mono (by decide)) (by rfl) g_is_name k_is_name b_is_name .nil pass0 (pa_cons (pv 0) pa_nil)) (pa_cons (pe_call G_is_row (hr.mono (by decide)) (by rfl) g_is_row k_is_row b_is_row .nil pass0 (pa_cons (pv 0) pa_nil)) (pa_cons (pe_call G_is_kind (hr.mono (by decide)) (by rfl) g_is_kind k_is_kind b_is_kind .nil pass0 (pa_cons (pv 0) pa_nil)) (pa_cons (pe_call G_is_within (hr.mono (by decide)) (by rfl) g_is_within k_is_within b_is_within .nil pass0 (pa_cons (pv 0) (pa_cons pe_non (pa_cons pe_non pa_nil)))) pa_nil)))))))
        (pss_cons (ps_for PassesOwn.never rfl (pi_zip (by rfl) Tx.n_zip (pa_cons (pv 3) (pa_cons (pe_lst (pa_cons (pe_call G_law_plain (hr.mono (by decide)) (by rfl) g_law_plain k_law_plain b_law_plain .nil pass0 (pa_cons (pv 0) pa_nil)) (pa_cons (pe_call G_law_names (hr.mono (by decide)) (by rfl) g_law_names k_law_names b_law_names .nil pass0 (pa_cons (pv 0) pa_nil)) (pa_cons (pv 1) (pa_cons (pv 2) (pa_cons (pe_call G_law_plain (hr.mono (by decide)) (by rfl) g_law_plain k_law_plain b_law_plain .nil pass0 (pa_cons (pv 0) pa_nil)) pa_nil)))))) pa_nil))) (pg_tup (by rfl) (pgs_cons (pg_name (i := 4) sc_law_one_right.nd rfl (Or.inl rfl)) (pgs_cons (pg_name (i := 5) sc_law_one_right.nd rfl (Or.inl rfl)) pgs_nil))) (pss_one (ps_if (PW.pt (pw_or (pt_not (pt_val (pe_callB (call_isY Tx.exc) (by rfl) Tx.n_isinstance (by decide +kernel) (pa_cons (pv 4) (pa_cons (pe_bltn (v := .ty "bool") (by rfl) Tx.n_bool (by decide +kernel) rfl) pa_nil))))) (pw_or1 (pt_cmpR op_ne (pv 4) (pv 5) (nomark _))))) (pss_one (ps_ret pe_bl)) pss_nil)))
        (pss_one (ps_ret (pe_and (pe_cmpR op_eq (pe_callK0 G_is_integer_kw (hr.mono (by decide)) (by rfl) g_is_integer_kw k_is_integer_kw b_is_integer_kw pass0 (pk_cons (pv 0) pk_nil)) (pe_ix ix_list (pv 3) pe_int (fun _ _ => rfl)) (nomark _)) (pe_and (pe_cmpR op_eq (pe_callK0 G_is_name_kw (hr.mono (by decide)) (by rfl) g_is_name_kw k_is_name_kw b_is_name_kw pass0 (pk_cons (pv 0) pk_nil)) (pe_ix ix_list (pv 3) pe_int (fun _ _ => rfl)) (nomark _)) (pe_one (pe_cmpR op_eq (pe_callK0 G_is_kind_kw (hr.mono (by decide)) (by rfl) g_is_kind_kw k_is_kind_kw b_is_kind_kw pass0 (pk_cons (pv 0) pk_nil)) (pe_ix ix_list (pv 3) pe_int (fun _ _ => rfl)) (nomark _)))))))))))), ?_⟩
      -- rows
      refine ⟨_, rfl, le_line (n := 2) (by decide), fun t nt => ?_⟩
      have s1 : Same H (upd H t (.tup [.ty "list", .ty "tuple"])) := same_new nt
      refine ⟨v, t, _, k, _, _, rfl, upd_same, .cons (.ty "list") (.cons (.ty "tuple") .nil), hv.knd.same s1, kit_seq Tx.kit hv.knd, ?_⟩
      revert s1
      generalize upd H t (.tup [.ty "list", .ty "tuple"]) = H1
      intro s1
      refine ⟨fun σ H2 => σ = [some v, some (.bl (Knd.seq k && (xs.map isI).all id)), none, none, none, none, none] ∧ Same H H2, ?_, ?_⟩
      · refine ⟨_, rfl, _, rfl, ite2 (fun hs => ?_) (fun hs => ?_)⟩
        · have hq : Knd.seq k = true := hs
          obtain ⟨a, rfl, ha, hl, hx⟩ := (show ∃ a, v = .ref a ∧ H a = some (.lst xs) ∧ xs.length ≤ 1000 ∧ ∀ x ∈ xs, ∃ k, KndV (NC K) H x k by
            obtain ⟨a, e, h1, h2, h3⟩ := hv.row hq
            rcases h1 with h1 | h1
            · exact ⟨a, e, h1, h2, h3⟩
            · exact absurd ⟨hq, a, e, h1⟩ ht)
          refine ⟨_, rfl, a, rfl, ⟨xs, SqL.of (s1 _ _ ha)⟩, fun D nD => ?_⟩
          refine lc_pure (walk_list (K := K) (a := a) (xs := xs)) xs rfl (by omega) (fun i H x H' y => ⟨same_of_eq y.1, y.2⟩) (fun x => x) (fun x => !isI x) nD (fun H2 s => SqL.of (s _ _ (s1 _ _ ha))) (fun i x H2 Q1 Q0 hi s2 q1 q0 => ?_) (fun H2 s2 hD => ?_)
          · refine ⟨rfl, ?_⟩
            obtain ⟨kx, hkx⟩ := hx x (List.mem_of_getElem? hi)
            refine ⟨_, rfl, x, kx, rfl, (hkx.same s1).same s2, _, rfl, ite2 (fun e => ?_) (fun e => ?_)⟩
            · exact ⟨_, rfl, q1 e _ (Same.refl _)⟩
            · exact q0 (Bool.eq_false_iff.mpr e) _ (Same.refl _)
          · refine ⟨Nat.zero_le _, fun o no => ?_⟩
            refine ⟨D, o, _, rfl, rfl, SqL.of (same_new no _ _ hD), SqL.of upd_same, ?_⟩
            refine ⟨?_, (s1.trans s2).trans (same_new no)⟩
            have hs' : Knd.seq k = true := hs
            rw [kept_none, hs', Bool.true_and]
            rfl
        · have hs' : Knd.seq k = false := Bool.eq_false_iff.mpr hs
          refine ⟨?_, s1⟩
          rw [hs', Bool.false_and]
          have e : (k.is "list" || k.is "tuple") = false := hs'
          rw [e]
          rfl
      · rintro σ H2 ⟨rfl, s2⟩
        have hv2 := hv.same s2
        -- kinds
        refine ⟨_, rfl, v, "str", k, _, rfl, hv2.knd, kit_is Tx.kit hv2.knd (by decide), _, rfl, ?_⟩
        have kd : ∀ (R : V → Hp → Prop), (∀ H3, Same H2 H3 → R (.bl (isGrid v)) H3) → (if k.is "str" = true then tOp (rIn K false) (tVar 0) (tTup (tCons (tC (.str "square")) (tCons (tC (.str "triangle")) tNil))) [some v, some (.bl (Knd.seq k && (xs.map isI).all id)), none, none, none, none, none] H2 R else R (.bl false) H2) := fun R r => by
          rw [knd_str hv2.knd]
          cases v with
          | str z =>
            refine iteT ⟨_, rfl, le_line (n := 2) (by decide), fun t2 nt2 => ?_⟩
            exact ⟨t2, _, rfl, .inr (SqT.of upd_same), rfl, rfl, r _ (same_new nt2)⟩
          | _ => exact iteF (r _ (Same.refl _))
        refine kd _ fun H3 s3 => ?_
        have hv3 := hv2.same s3
        -- told
        refine ⟨_, rfl, v, k, rfl, hv3.knd, _, rfl, v, k, xs, rfl, hv3, fun H4 s4 => ?_⟩
        have hv4 := hv3.same s4
        refine ⟨_, rfl, v, k, xs, rfl, hv4, fun H5 s5 => ?_⟩
        have hv5 := hv4.same s5
        refine ⟨_, rfl, v, k, rfl, hv5.knd, _, rfl, v, .non, .non, k, rfl, hv5.knd, rfl, rfl, le_line (n := 5) (by decide), fun tl ntl => ?_⟩
        have s6 : Same H5 (upd H5 tl (.lst [.bl (isI v), .bl (isName v), .bl (Knd.seq k && (xs.map isI).all id), .bl (isGrid v), .bl (isI v)])) := same_new ntl
        have ew : bnd v .non .non = isI v := by cases v <;> rfl
        have h6 : (upd H5 tl (.lst [.bl (isI v), .bl (isName v), .bl (Knd.seq k && (xs.map isI).all id), .bl (isGrid v), .bl (isI v)])) tl = some (.lst [.bl (isI v), .bl (isName v), .bl (Knd.seq k && (xs.map isI).all id), .bl (isGrid v), .bl (isI v)]) := upd_same
        rw [ew]
        revert s6 h6
        generalize upd H5 tl (.lst [.bl (isI v), .bl (isName v), .bl (Knd.seq k && (xs.map isI).all id), .bl (isGrid v), .bl (isI v)]) = H6
        intro s6 h6
        have hv6 := hv5.same s6
        -- the zip
        refine ⟨_, rfl, _, rfl, v, k, rfl, hv6.knd, _, rfl, v, k, xs, rfl, hv6, fun H7 s7 => ?_⟩
        have hv7 := hv6.same s7
        refine ⟨_, rfl, _, rfl, _, rfl, v, k, rfl, hv7.knd, le_line (n := 5) (by decide), fun tm ntm => ?_⟩
        have s8 : Same H7 (upd H7 tm (.lst [.bl (isI v), .bl (isName v), .bl (Knd.seq k && (xs.map isI).all id), .bl (isGrid v), .bl (isI v)])) := same_new ntm
        have h8 : (upd H7 tm (.lst [.bl (isI v), .bl (isName v), .bl (Knd.seq k && (xs.map isI).all id), .bl (isGrid v), .bl (isI v)])) tm = some (.lst [.bl (isI v), .bl (isName v), .bl (Knd.seq k && (xs.map isI).all id), .bl (isGrid v), .bl (isI v)]) := upd_same
        revert s8 h8
        generalize hH8 : upd H7 tm (.lst [.bl (isI v), .bl (isName v), .bl (Knd.seq k && (xs.map isI).all id), .bl (isGrid v), .bl (isI v)]) = H8
        intro s8 h8
        have st : Same H H8 := (((((s2.trans s3).trans s4).trans s5).trans s6).trans s7).trans s8
        have hall : ∀ x ∈ [V.bl (isI v), .bl (isName v), .bl (Knd.seq k && (xs.map isI).all id), .bl (isGrid v), .bl (isI v)], ∃ b, x = .bl b := by
          intro x hx
          simp only [List.mem_cons, List.not_mem_nil, or_false] at hx
          rcases hx with rfl | rfl | rfl | rfl | rfl <;> exact ⟨_, rfl⟩
        have h68 := s8 _ _ (s7 _ _ h6)
        have same_at : ∀ {H9 : Hp}, Same H8 H9 → SqL K H9 tl [.bl (isI v), .bl (isName v), .bl (Knd.seq k && (xs.map isI).all id), .bl (isGrid v), .bl (isI v)] := fun s9 => SqL.of (s9 _ _ h68)
        refine ⟨tl, tm, _, _, rfl, SqL.of h68, SqL.of h8, ?_⟩
        refine for_it (walk_zip (K := K) (a := tl) (b := tm) (xs := [.bl (isI v), .bl (isName v), .bl (Knd.seq k && (xs.map isI).all id), .bl (isGrid v), .bl (isI v)]) (ys := [.bl (isI v), .bl (isName v), .bl (Knd.seq k && (xs.map isI).all id), .bl (isGrid v), .bl (isI v)]) (n := 5) rfl)
          (fun i σ H9 => ∃ a4 a5 : Option V, σ = [some v, some (.bl (Knd.seq k && (xs.map isI).all id)), some (.bl (isGrid v)), some (.ref tl), a4, a5, none] ∧ Same H8 H9) ⟨none, none, rfl, Same.refl _⟩ (fun i σ H9 _ p => ?_) (fun i x σ H9 H10 hi p y => ?_) (fun σ H9 p => ?_)
        · obtain ⟨_, _, _, s9⟩ := p
          exact ⟨same_at s9, SqL.of (s9 _ _ h8)⟩
        · obtain ⟨a4, a5, rfl, s9⟩ := p
          obtain ⟨T, x1, x2, rfl, nT, rfl, f1, f2⟩ := y
          have ex : x1 = x2 := Option.some.inj (f1.symm.trans f2)
          subst ex
          obtain ⟨b, rfl⟩ := hall x1 (List.mem_of_getElem? f1)
          refine ⟨T, [.bl b, .bl b], rfl, SqT.of upd_same, rfl, .bl b, [.bl b], rfl, .bl b, [], rfl, rfl, ?_⟩
          refine ⟨_, rfl, .bl b, "bool", .bool, _, rfl, trivial, kit_ty (r := true) (by decide +kernel), _, rfl, ?_⟩
          refine ite2 (fun e => by cases e) (fun _ => ?_)
          refine ⟨_, rfl, _, rfl, rfl, _, rfl, ite2 (fun e => ?_) (fun _ => ?_)⟩
          · rw [decide_eq_true rfl] at e
            cases e
          · exact ⟨_, _, rfl, s9.trans (same_new nT)⟩
        · obtain ⟨a4, a5, rfl, s9⟩ := p
          have hv9 := (hv.same st).same s9
          refine ⟨_, rfl, rfl, rfl, v, k, rfl, hv9.knd, _, rfl, tl, _, 0, .bl (isI v), rfl, rfl, same_at s9, rfl, rfl, _, rfl, ite2 (fun _ => ?_) (fun e => absurd (decide_eq_true rfl) e)⟩
          refine ⟨_, rfl, rfl, rfl, v, k, xs, rfl, hv9, fun H10 s10 => ?_⟩
          have hv10 := hv9.same s10
          refine ⟨_, rfl, tl, _, 1, .bl (isName v), rfl, rfl, same_at (s9.trans s10), rfl, rfl, _, rfl, ite2 (fun _ => ?_) (fun e => absurd (decide_eq_true rfl) e)⟩
          refine ⟨_, rfl, rfl, rfl, v, k, rfl, hv10.knd, _, rfl, tl, _, 3, .bl (isGrid v), rfl, rfl, same_at (s9.trans s10), rfl, rfl, ?_⟩
          show Q (.bl (decide (V.bl (isGrid v) = V.bl (isGrid v)))) H10
          rw [decide_eq_true rfl]
          exact q _ ((st.trans s9).trans s10)
theorem has_law_one_right (Tx : Txt K mg) (c : He.SaysX fa fn [] [] ex w hh K) (X : K.In hh) (GG : hh.Ns mainGlobals mg) (h_is_integer : Has P w K mg base "is_integer" 1 ["value"] (sp_is_integer K)) (h_is_name : Has P w K mg base "is_name" 1 ["value"] (sp_is_name K)) (h_is_row : Has P w K mg base "is_row" 2 ["value"] (sp_is_row K)) (h_is_kind : Has P w K mg base "is_kind" 2 ["value"] (sp_is_kind K)) (h_is_within : Has P w K mg base "is_within" 2 ["value", "least", "most"] (sp_is_within K)) (h_law_plain : Has P w K mg base "_law_plain" 1 ["_law_value"] (sp_law_plain K)) (h_law_names : Has P w K mg base "_law_names" 1 ["_law_value"] (sp_law_names K)) (h_is_integer_kw : HasK P w K mg base "is_integer" 1 ["value"] ["value"] gv1 (sp_is_integer K)) (h_is_name_kw : HasK P w K mg base "is_name" 1 ["value"] ["value"] gv1 (sp_is_name K)) (h_is_kind_kw : HasK P w K mg base "is_kind" 2 ["value"] ["value"] gv1 (sp_is_kind K)) : Has P w K mg base "_law_one_right" 3 ["_law_value"] (sp_law_one_right K) := by
  obtain ⟨fd, F⟩ := c.t.d.def_ 17 (d := d_law_one_right) rfl
  exact ⟨_, fd, ok_law_one_right F Tx h_is_integer h_is_name h_is_row h_is_kind h_is_within h_law_plain h_law_names h_is_integer_kw h_is_name_kw h_is_kind_kw, He.glo_ok X GG (c.t.d.fact 19 (f := .glo "_law_one_right") rfl), F.kp, F.bindsN fun _ _ _ _ _ _ us hl => match us, hl with | [_], _ => rfl⟩

end
end K01
namespace K01
open PySem PySem.Spec PyProof.Rows L2 Vf
section
variable {hh : Heap} {P : Program} {w : World} {K : PySem.W.Frag} {mg : Str → Option Value} {base : Heap}
/-! ### bounds -/
def lo0 (v l : V) : Bool := match v with
  | .int x => lo1 x l
  | _ => false
theorem bnd_and (v l m : V) : bnd v l m = (match v with | .int x => lo1 x l && hi1 x m | _ => false) := by cases v <;> rfl
def five (m x : Int) : List V := [.non, .int (m - 1), .int m, .int (m + 1), .int x]
theorem five_noi {m x : Int} : ∀ y ∈ five m x, noi y = true := fun y hy => by
  simp only [five, List.mem_cons, List.not_mem_nil, or_false] at hy
  rcases hy with rfl | rfl | rfl | rfl | rfl <;> rfl
def sp_law_bounds_right (K : PySem.W.Frag) : Sp := fun vs H Q _ => ∃ (p c : Addr) (b : Nat) (v : V) (k : Knd), vs = [.ref p, v] ∧ PenAt H p c (b + 20) ∧ KndV (NC K) H v k ∧ (∀ a, v = .ref a → a ≠ p) ∧ ∀ H', PenAt H' p c b → Kp p H H' → Q (.bl true) H'
theorem sc_law_bounds_right : FnScope ["_law_pen_here", "_law_value", "_law_middle", "_law_low", "_law_high", "_law_due", "_law_told"] ["_law_pen_here", "_law_value"] (defScope s_law_bounds_right) := ⟨rfl, rfl, rfl, by decide +kernel, rfl, by decide +kernel, by decide +kernel⟩
theorem ok_law_bounds_right {f : Addr} {fd : FuncData} (F : FnP K "_law_bounds_right" s_law_bounds_right f fd) (Tx : Txt K mg) (h_law_plain : Has P w K mg base "_law_plain" 1 ["_law_value"] (sp_law_plain K)) (h_law_number : Has P w K mg base "_law_number" 2 ["_law_pen_here"] sp_law_number) (h_is_within : Has P w K mg base "is_within" 2 ["value", "least", "most"] (sp_is_within K)) (h_is_within_kw : HasK P w K mg base "is_within" 2 ["value", "least", "most"] ["most", "value", "least"] gv3 (sp_is_within K)) : FnOk P w K mg base CX0 3 f fd ["_law_pen_here", "_law_value"] (sp_law_bounds_right K) := by
  obtain ⟨f_law_plain, fd_law_plain, G_law_plain, g_law_plain, k_law_plain, b_law_plain⟩ := h_law_plain
  obtain ⟨f_law_number, fd_law_number, G_law_number, g_law_number, k_law_number, b_law_number⟩ := h_law_number
  obtain ⟨f_is_within, fd_is_within, G_is_within, g_is_within, k_is_within, b_is_within⟩ := h_is_within
  obtain ⟨f_is_within_kw, fd_is_within_kw, gg_is_within_kw, G_is_within_kw, g_is_within_kw, k_is_within_kw, b_is_within_kw⟩ := h_is_within_kw
  refine F.ok sc_law_bounds_right (fun vs H Q E h => ?_) (fun cdv A outer s H vs Q E hr h => ?_)
  · obtain ⟨p, c, b, v, k, rfl, _⟩ := h
    rfl
  · obtain ⟨p, c, b, v, k, rfl, hp, hk, hv, q⟩ := h
    refine ⟨_, PSs.nox (C8.pss_cut (ps_set (i := 2) sc_law_bounds_right.nd rfl (Or.inl rfl) (pe_ifExp (pt_val (pe_call G_law_plain (hr.mono (by decide)) (by rfl) g_law_plain k_law_plain b_law_plain .nil pass0 (pa_cons (pv 1) pa_nil))) (pv 1) (pe_call G_law_number (hr.mono (by decide)) (by rfl) g_law_number k_law_number b_law_number .nil pass0 (pa_cons (pv 0) pa_nil))))
        (pss_cons (ps_for PassesOwn.never rfl (pi_tup (pe_tup (pa_cons pe_non (pa_cons (pe_op op_sub (pv 2) pe_int) (pa_cons (pv 2) (pa_cons (pe_op op_add (pv 2) pe_int) (pa_cons (pe_call G_law_number (hr.mono (by decide)) (by rfl) g_law_number k_law_number b_law_number .nil pass0 (pa_cons (pv 0) pa_nil)) pa_nil))))))) (pg_name (i := 3) sc_law_bounds_right.nd rfl (Or.inl rfl)) (pss_one (ps_for PassesOwn.never rfl (pi_tup (pe_tup (pa_cons pe_non (pa_cons (pe_op op_sub (pv 2) pe_int) (pa_cons (pv 2) (pa_cons (pe_op op_add (pv 2) pe_int) (pa_cons (pe_call G_law_number (hr.mono (by decide)) (by rfl) g_law_number k_law_number b_law_number .nil pass0 (pa_cons (pv 0) pa_nil)) pa_nil))))))) (pg_name (i := 4) sc_law_bounds_right.nd rfl (Or.inl rfl)) (pss_cons (ps_set (i := 5) sc_law_bounds_right.nd rfl (Or.inl rfl) (pe_call G_law_plain (hr.mono (by decide)) (by rfl) g_law_plain k_law_plain b_law_plain .nil pass0 (pa_cons (pv 1) pa_nil)))
        (C8.pss_cut (ps_if (PW.pt (pw_and (pt_val (pv 5)) (pw_and1 (pt_cmpR op_notN (pv 3) pe_non (nomark _))))) (pss_one (ps_set (i := 5) sc_law_bounds_right.nd rfl (Or.inl rfl) (pe_cmpR op_le (pv 3) (pv 1) (nomark _)))) pss_nil)
        (C8.pss_cut (ps_if (PW.pt (pw_and (pt_val (pv 5)) (pw_and1 (pt_cmpR op_notN (pv 4) pe_non (nomark _))))) (pss_one (ps_set (i := 5) sc_law_bounds_right.nd rfl (Or.inl rfl) (pe_cmpR op_le (pv 1) (pv 4) (nomark _)))) pss_nil)
        (pss_cons (ps_set (i := 6) sc_law_bounds_right.nd rfl (Or.inl rfl) (pe_call G_is_within (hr.mono (by decide)) (by rfl) g_is_within k_is_within b_is_within .nil pass0 (pa_cons (pv 1) (pa_cons (pv 3) (pa_cons (pv 4) pa_nil)))))
        (pss_one (ps_if (PW.pt (pw_or (pt_not (pt_val (pe_callB (call_isY Tx.exc) (by rfl) Tx.n_isinstance (by decide +kernel) (pa_cons (pv 6) (pa_cons (pe_bltn (v := .ty "bool") (by rfl) Tx.n_bool (by decide +kernel) rfl) pa_nil))))) (pw_or (pt_cmpR op_ne (pv 6) (pv 5) (nomark _)) (pw_or1 (pt_cmpR op_ne (pe_callK0 G_is_within_kw (hr.mono (by decide)) (by rfl) g_is_within_kw k_is_within_kw b_is_within_kw pass0 (pk_cons (pv 4) (pk_cons (pv 1) (pk_cons (pv 3) pk_nil)))) (pv 5) (nomark _)))))) (pss_one (ps_ret pe_bl)) pss_nil)))))))))
        (pss_one (ps_ret pe_bl)))), ?_⟩
    -- middle
    refine ⟨fun σ H1 => ∃ m : Int, σ = [some (.ref p), some v, some (.int m), none, none, none, none] ∧ PenAt H1 p c (b + 18) ∧ Kp p H H1, ?_, ?_⟩
    · refine ⟨_, rfl, v, k, rfl, hk, _, rfl, ite2 (fun e => ?_) (fun e => ?_)⟩
      · cases v with
        | int x => exact ⟨_, rfl, x, rfl, hp.less (by omega), Kp.refl _ _⟩
        | _ => cases e
      · exact ⟨_, rfl, p, c, b + 18, rfl, hp, fun H1 i h1 k1 => ⟨i, rfl, h1, k1⟩⟩
    · rintro σ H1 ⟨m, rfl, h1, k1⟩
      -- the lower ends
      refine ⟨_, rfl, _, _, rfl, rfl, _, rfl, _, rfl, _, _, rfl, rfl, _, rfl, p, c, b + 16, rfl, h1, fun H2 x h2 k2 => ?_⟩
      refine ⟨le_line (n := 5) (by decide), fun T nT => ?_⟩
      obtain ⟨Tp, Tc⟩ := h2.new nT
      have s3 : Same H2 (upd H2 T (.tup (five m x))) := same_new nT
      have hT : upd H2 T (.tup (five m x)) T = some (.tup (five m x)) := upd_same
      have k3 : Kp p H (upd H2 T (.tup (five m x))) := (k1.trans k2).trans (Kp.same s3)
      have h3 : PenAt (upd H2 T (.tup (five m x))) p c (b + 16) := h2.same s3
      refine ⟨T, rfl, ⟨five m x, SqT.of hT⟩, ?_⟩
      show ∃ W : Nat → Nat → L2.St → Hp → Prop, (∃ m', W 0 m' _ (upd H2 T (.tup (five m x)))) ∧ _
      revert hT k3 h3
      generalize upd H2 T (.tup (five m x)) = H3
      intro hT k3 h3
      refine for_it (walk_tup (K := K) (a := T) (xs := five m x)) (fun i σ H4 => ∃ (a3 a4 a5 a6 : Option V), σ = [some (.ref p), some v, some (.int m), a3, a4, a5, a6] ∧ PenAt H4 p c (b + 16 - 2 * i) ∧ Kp p H H4 ∧ Kp p H3 H4)
        ⟨none, none, none, none, rfl, h3, k3, Kp.refl _ _⟩ (fun i σ H4 _ pv => ?_) (fun i l σ H4 H5 hi pv y => ?_) (fun σ H4 pv => ?_)
      · obtain ⟨_, _, _, _, _, _, _, k4⟩ := pv
        exact SqT.of (k4 _ _ Tp hT)
      · obtain ⟨a3, a4, a5, a6, rfl, h4, k4, k34⟩ := pv
        obtain ⟨rfl, hl⟩ := y
        have nl := five_noi l (List.mem_of_getElem? hl)
        have hi5 : i < 5 := hi
        have hb : b + 16 - 2 * i = (b + 16 - 2 * (i + 1)) + 2 := by omega
        rw [hb] at h4
        -- the upper ends
        refine ⟨_, rfl, _, _, rfl, rfl, _, rfl, _, rfl, _, _, rfl, rfl, _, rfl, p, c, b + 16 - 2 * (i + 1), rfl, h4, fun H6 z h6 k6 => ?_⟩
        refine ⟨le_line (n := 5) (by decide), fun U nU => ?_⟩
        obtain ⟨Up, Uc⟩ := h6.new nU
        have s7 : Same H6 (upd H6 U (.tup (five m z))) := same_new nU
        have hU : upd H6 U (.tup (five m z)) U = some (.tup (five m z)) := upd_same
        have k7 : Kp p H (upd H6 U (.tup (five m z))) := (k4.trans k6).trans (Kp.same s7)
        have k37 : Kp p H3 (upd H6 U (.tup (five m z))) := (k34.trans k6).trans (Kp.same s7)
        have h7 : PenAt (upd H6 U (.tup (five m z))) p c (b + 16 - 2 * (i + 1)) := h6.same s7
        refine ⟨U, rfl, ⟨five m z, SqT.of hU⟩, ?_⟩
        show ∃ W : Nat → Nat → L2.St → Hp → Prop, (∃ m', W 0 m' _ (upd H6 U (.tup (five m z)))) ∧ _
        revert hU k7 k37 h7
        generalize upd H6 U (.tup (five m z)) = H7
        intro hU k7 k37 h7
        have hk7 : KndV (NC K) H7 v k := KndV.kp hk k7 hv
        refine for_it (walk_tup (K := K) (a := U) (xs := five m z)) (fun i2 σ H8 => ∃ (a4 a5 a6 : Option V), σ = [some (.ref p), some v, some (.int m), some l, a4, a5, a6] ∧ H8 = H7)
          ⟨_, _, _, rfl, rfl⟩ (fun _ σ H8 _ pv => ?_) (fun j u σ H8 H9 hj pv y => ?_) (fun σ H8 pv => ?_)
        · obtain ⟨_, _, _, _, e⟩ := pv
          rw [e]
          exact SqT.of hU
        · obtain ⟨b4, b5, b6, rfl, rfl⟩ := pv
          obtain ⟨rfl, hu⟩ := y
          have nu := five_noi u (List.mem_of_getElem? hu)
          refine ⟨_, rfl, v, k, rfl, hk7, ?_⟩
          -- if due and low is not None
          refine ⟨fun σ Ha => σ = [some (.ref p), some v, some (.int m), some l, some u, some (.bl (lo0 v l)), b6] ∧ Ha = H9, ?_, ?_⟩
          · refine ⟨_, rfl, _, rfl, ?_⟩
            cases v with
            | int y =>
              refine iteT ⟨_, rfl, rfl, _, rfl, ?_⟩
              cases l with
              | non => exact iteF ⟨rfl, rfl⟩
              | int w => exact iteT ⟨_, rfl, _, rfl, _, _, rfl, rfl, rfl, rfl⟩
              | _ => cases nl
            | _ => exact iteF ⟨rfl, rfl⟩
          · rintro σ Ha ⟨rfl, rfl⟩
            refine ⟨fun σ Hb => σ = [some (.ref p), some v, some (.int m), some l, some u, some (.bl (bnd v l u)), b6] ∧ Hb = Ha, ?_, ?_⟩
            · refine ⟨_, rfl, _, rfl, ?_⟩
              cases v with
              | int y =>
                have e0 : bnd (.int y) l u = (lo1 y l && hi1 y u) := rfl
                rw [e0]
                show (if lo1 y l = true then _ else _)
                cases e1 : lo1 y l with
                | true =>
                  refine iteT ⟨_, rfl, rfl, _, rfl, ?_⟩
                  cases u with
                  | non =>
                    refine iteF ⟨?_, rfl⟩
                    show [some (V.ref p), some (V.int y), some (V.int m), some l, some V.non, some (.bl (lo1 y l)), b6] = _
                    rw [e1]
                    rfl
                  | int w => exact iteT ⟨_, rfl, _, rfl, _, _, rfl, rfl, rfl, rfl⟩
                  | _ => cases nu
                | false =>
                  refine iteF ⟨?_, rfl⟩
                  show [some (V.ref p), some (V.int y), some (V.int m), some l, some u, some (.bl (lo1 y l)), b6] = _
                  rw [e1]
                  rfl
              | _ => exact iteF ⟨rfl, rfl⟩
            · rintro σ Hb ⟨rfl, rfl⟩
              refine ⟨_, rfl, _, rfl, _, rfl, v, l, u, k, rfl, hk7, nl, nu, ?_⟩
              refine ⟨_, rfl, .bl (bnd v l u), "bool", .bool, _, rfl, trivial, kit_ty (r := true) (by decide +kernel), _, rfl, ?_⟩
              refine ite2 (fun e => by cases e) (fun _ => ?_)
              refine ⟨_, rfl, _, rfl, rfl, _, rfl, ite2 (fun e => ?_) (fun _ => ?_)⟩
              · rw [decide_eq_true rfl] at e
                cases e
              · refine ⟨_, rfl, _, rfl, _, rfl, rfl, rfl, v, l, u, k, rfl, hk7, nl, nu, ?_⟩
                refine ⟨_, rfl, rfl, _, rfl, ite2 (fun e => ?_) (fun _ => ?_)⟩
                · rw [decide_eq_true rfl] at e
                  cases e
                · exact ⟨_, _, _, rfl, rfl⟩
        · obtain ⟨b4, b5, b6, rfl, rfl⟩ := pv
          exact ⟨_, _, _, _, rfl, h7, k7, k37⟩
      · obtain ⟨a3, a4, a5, a6, rfl, h4, k4, _⟩ := pv
        exact q _ (h4.less (by show b ≤ b + 16 - 2 * 5; omega)) k4
theorem has_law_bounds_right (Tx : Txt K mg) (c : He.SaysX fa fn [] [] ex w hh K) (X : K.In hh) (GG : hh.Ns mainGlobals mg) (h_law_plain : Has P w K mg base "_law_plain" 1 ["_law_value"] (sp_law_plain K)) (h_law_number : Has P w K mg base "_law_number" 2 ["_law_pen_here"] sp_law_number) (h_is_within : Has P w K mg base "is_within" 2 ["value", "least", "most"] (sp_is_within K)) (h_is_within_kw : HasK P w K mg base "is_within" 2 ["value", "least", "most"] ["most", "value", "least"] gv3 (sp_is_within K)) : Has P w K mg base "_law_bounds_right" 3 ["_law_pen_here", "_law_value"] (sp_law_bounds_right K) := by
  obtain ⟨fd, F⟩ := c.t.d.def_ 18 (d := d_law_bounds_right) rfl
  exact ⟨_, fd, ok_law_bounds_right F Tx h_law_plain h_law_number h_is_within h_is_within_kw, He.glo_ok X GG (c.t.d.fact 20 (f := .glo "_law_bounds_right") rfl), F.kp, F.bindsN fun _ _ _ _ _ _ us hl => match us, hl with | [_, _], _ => rfl⟩

end
end K01
namespace K01
open PySem PySem.Spec PyProof.Rows L2 Vf
section
variable {hh : Heap} {P : Program} {w : World} {K : PySem.W.Frag} {mg : Str → Option Value} {base : Heap}
/-! ### what stands twice -/
theorem kV_ne (k : L2.Key) : kV k ≠ .non := by cases k <;> (intro e; cases e)
theorem ftw_snoc (l : List L2.Key) (k : L2.Key) : ∀ seen, ftwGo seen (l ++ [k]) = if ftwGo seen l = .non then (if hasK (seen ++ l) k = true then kV k else .non) else ftwGo seen l := by
  induction l with
  | nil =>
    intro seen
    rw [List.nil_append, List.append_nil]
    show ftwGo seen [k] = if V.non = .non then _ else _
    rw [if_pos rfl]
    unfold ftwGo
    by_cases h : hasK seen k = true
    · rw [if_pos h, if_pos h]
    · rw [if_neg h, if_neg h]
      rfl
  | cons a r ih =>
    intro seen
    rw [List.cons_append]
    unfold ftwGo
    by_cases h : hasK seen a = true
    · rw [if_pos h, if_pos h, if_neg (kV_ne a)]
    · rw [if_neg h, if_neg h, ih (seen ++ [a]), List.append_assoc]
      rfl
theorem eqV_key (j k : L2.Key) : eqV (kV j) (kV k) = decide (j = k) := by
  cases j with
  | inl a =>
    cases k with
    | inl b => exact (key_ll a b).symm
    | inr b => exact (key_lr a b).symm
  | inr a =>
    cases k with
    | inl b => exact (key_rl a b).symm
    | inr b =>
      rw [key_rr]
      show (a == b) = decide (a = b)
      by_cases h : a = b
      · rw [h, decide_eq_true rfl]
        exact beq_self_eq_true b
      · rw [decide_eq_false h]
        exact beq_eq_false_iff_ne.mpr h
theorem inV_keys (ks : List L2.Key) (k : L2.Key) : inV (kV k) (ks.map kV) = hasK ks k := by
  unfold inV hasK
  rw [List.any_map]
  congr 1
  funext j
  exact eqV_key j k
theorem cut_take (xs : List V) (j : Nat) : cutV xs none (some (j : Int)) = xs.take j := by
  unfold cutV
  rw [show HT.sIx xs.length xs.length (some (j : Int)) = min j xs.length from HT.sIx_nat _ _ _, show HT.sIx xs.length 0 none = 0 from HT.sIx_none _ _, List.drop_zero, Nat.sub_zero]
  rcases Nat.le_total j xs.length with h | h
  · rw [Nat.min_eq_left h]
  · rw [Nat.min_eq_right h, List.take_length, List.take_of_length_le h]
theorem cut_keys (ks : List L2.Key) (lo hi : Option Int) : ∃ ms : List L2.Key, cutV (ks.map kV) lo hi = ms.map kV ∧ ms.length ≤ ks.length ∧ ∀ k ∈ ms, k ∈ ks := by
  unfold cutV
  rw [← List.map_drop, ← List.map_take]
  refine ⟨_, rfl, ?_, fun k hk => List.mem_of_mem_drop (List.mem_of_mem_take hk)⟩
  rw [List.length_take, List.length_drop]
  omega
def okK : L2.Key → Prop
  | .inl _ => True
  | .inr z => TxB z 70
theorem okK_flat {k : L2.Key} (h : okK k) : flatS (kV k) = true := by
  cases k with
  | inl i => rfl
  | inr z => exact h.2
theorem keys_flat {ks : List L2.Key} (h : ∀ k ∈ ks, okK k) : ∀ v ∈ ks.map kV, flatS v = true := fun v hv => by
  obtain ⟨k, hk, rfl⟩ := List.mem_map.mp hv
  exact okK_flat (h k hk)
theorem keys_flatV (ks : List L2.Key) : (ks.map kV).all flatV = true := by
  rw [List.all_eq_true]
  intro v hv
  obtain ⟨k, _, rfl⟩ := List.mem_map.mp hv
  cases k <;> rfl
theorem flatV_key (k : L2.Key) : flatV (kV k) = true := by cases k <;> rfl
/-- a list of ints and texts -/
structure Vl (H : Hp) (a : Addr) (ks : List L2.Key) : Prop where
  obj : H a = some (.lst (ks.map kV))
  len : ks.length ≤ 100
  ok : ∀ k ∈ ks, okK k
theorem Vl.same {H H' : Hp} {a : Addr} {ks : List L2.Key} (h : Vl H a ks) (s : Same H H') : Vl H' a ks := ⟨s _ _ h.obj, h.len, h.ok⟩
/-- what may be found: none, an int, a text -/
def isF : V → Bool
  | .non => true
  | .int _ => true
  | .str _ => true
  | _ => false
theorem ftw_isF : ∀ (l seen : List L2.Key), isF (ftwGo seen l) = true
  | [], _ => rfl
  | k :: r, seen => by
    unfold ftwGo
    by_cases h : hasK seen k = true
    · rw [if_pos h]
      cases k <;> rfl
    · rw [if_neg h]
      exact ftw_isF r _
theorem scal_isF {v : V} (h : isF v = true) : scal v v = true := by
  cases v <;> first | rfl | cases h
theorem eqv_self {xs : List V} (h : ∀ v ∈ xs, flatS v = true) : PyData.eqv (.list (xs.map fdat)) (.list (xs.map fdat)) = true := SeqAt.eqv_refl _ (SeqAt.canLay_of_shaped (shaped_list h))
def sp_law_twice_right (K : PySem.W.Frag) : Sp := fun vs H Q _ => ∃ (p c : Addr) (b : Nat), vs = [.ref p] ∧ PenAt H p c (b + 300) ∧ ∀ H', Q (.bl true) H'
theorem sc_law_twice_right : FnScope ["_law_pen_here", "_law_numbers", "_law_words", "_law_values", "_law_due", "_law_passed", "_law_at", "_law_value", "_law_told"] ["_law_pen_here"] (defScope s_law_twice_right) := ⟨rfl, rfl, rfl, by decide +kernel, rfl, by decide +kernel, by decide +kernel⟩
theorem ok_law_twice_right {f : Addr} {fd : FuncData} (F : FnP K "_law_twice_right" s_law_twice_right f fd) (Tx : Txt K mg) (h_law_text : Has P w K mg base "_law_text" 2 ["_law_pen_here"] sp_law_text) (h_law_draw : Has P w K mg base "_law_draw" 1 ["_law_pen_here", "_law_many"] sp_law_draw) (h_first_twice : Has P w K mg base "first_twice" 1 ["values"] (sp_first_twice K))  : FnOk P w K mg base CX0 3 f fd ["_law_pen_here"] (sp_law_twice_right K) := by
  obtain ⟨f_law_text, fd_law_text, G_law_text, g_law_text, k_law_text, b_law_text⟩ := h_law_text
  obtain ⟨f_law_draw, fd_law_draw, G_law_draw, g_law_draw, k_law_draw, b_law_draw⟩ := h_law_draw
  obtain ⟨f_first_twice, fd_first_twice, G_first_twice, g_first_twice, k_first_twice, b_first_twice⟩ := h_first_twice
  refine F.ok sc_law_twice_right (fun vs H Q E h => ?_) (fun cdv A outer s H vs Q E hr h => ?_)
  · obtain ⟨p, c, b, rfl, _⟩ := h
    rfl
  · obtain ⟨p, c, b, rfl, hp, q⟩ := h
    refine ⟨_, PSs.nox (pss_cons (ps_setLc (i := 1) (own := [("_law_at", 6)]) (g := gName 6) (tt := tYes) rfl sc_law_twice_right.nd rfl rfl (sw_true rfl rfl rfl (by decide +kernel)) (pi_range1 (by rfl) Tx.n_range (pa_cons (pe_call G_law_draw (hr.mono (by decide)) (by rfl) g_law_draw k_law_draw b_law_draw .nil pass0 (pa_cons (pv 0) (pa_cons pe_int pa_nil))) pa_nil)) (blkOk_by (own := [("_law_at", 6)]) (N := ["_law_pen_here", "_law_numbers", "_law_words", "_law_values", "_law_due", "_law_passed", "_law_at", "_law_value", "_law_told"]) (sc := defScope s_law_twice_right) (by decide +kernel)) (fun _ _ _ _ _ => (pg_name (i := 6) sc_law_twice_right.nd rfl (Or.inl rfl))) (fun _ _ _ _ _ => pts_nil) (fun _ _ _ _ _ => (pe_op op_sub (pe_call G_law_draw (hr.mono (by decide)) (by rfl) g_law_draw k_law_draw b_law_draw .nil pass0 (pa_cons (pv 0) (pa_cons pe_int pa_nil))) pe_int)))
        (pss_cons (ps_setLc (i := 2) (own := [("_law_at", 6)]) (g := gName 6) (tt := tYes) rfl sc_law_twice_right.nd rfl rfl (sw_true rfl rfl rfl (by decide +kernel)) (pi_range1 (by rfl) Tx.n_range (pa_cons (pe_call G_law_draw (hr.mono (by decide)) (by rfl) g_law_draw k_law_draw b_law_draw .nil pass0 (pa_cons (pv 0) (pa_cons pe_int pa_nil))) pa_nil)) (blkOk_by (own := [("_law_at", 6)]) (N := ["_law_pen_here", "_law_numbers", "_law_words", "_law_values", "_law_due", "_law_passed", "_law_at", "_law_value", "_law_told"]) (sc := defScope s_law_twice_right) (by decide +kernel)) (fun _ _ _ _ _ => (pg_name (i := 6) sc_law_twice_right.nd rfl (Or.inl rfl))) (fun _ _ _ _ _ => pts_nil) (fun _ _ _ _ _ => (pe_call G_law_text (hr.mono (by decide)) (by rfl) g_law_text k_law_text b_law_text .nil pass0 (pa_cons (pv 0) pa_nil))))
        (C8.pss_cut (ps_if (pt_cmpR (op_neD hr.units) (pv 2) (pe_lst pa_nil) (nomark _)) (pss_one (ps_expr (pe_bm PySem.F.plainAttrs_list PySem.F.slot_list_append PySem.F.type_list_append mt_append (pv 2) (pa_cons (pe_ix ix_list (pv 2) (pe_call G_law_draw (hr.mono (by decide)) (by rfl) g_law_draw k_law_draw b_law_draw .nil pass0 (pa_cons (pv 0) (pa_cons (pe_callB call_len_seq (by rfl) Tx.n_len (by decide +kernel) (pa_cons (pv 2) pa_nil)) pa_nil))) (fun _ _ => rfl)) pa_nil)))) pss_nil)
        (pss_cons (ps_for PassesOwn.never rfl (pi_tup (pe_tup (pa_cons (pv 1) (pa_cons (pv 2) (pa_cons (pe_slice sl_list (pv 2) po_none (po_some (pe_un un_neg pe_int))) (pa_cons (pe_lst pa_nil) (pa_cons (pe_lst (pa_cons pe_str (pa_cons pe_str pa_nil))) (pa_cons (pe_lst (pa_cons pe_str (pa_cons pe_str pa_nil))) (pa_cons (pe_lst (pa_cons pe_int (pa_cons (pe_un un_neg pe_int) (pa_cons pe_int (pa_cons (pe_un un_neg pe_int) pa_nil))))) pa_nil))))))))) (pg_name (i := 3) sc_law_twice_right.nd rfl (Or.inl rfl)) (pss_cons (ps_par (i := 4) (j := 5) (by rfl) sc_law_twice_right.nd rfl rfl (by decide) rfl rfl (pa_cons pe_non (pa_cons (pe_callTy call_list_of (by rfl) Tx.n_list (by decide +kernel) (pa_cons (pv 3) pa_nil)) pa_nil)) (by rfl))
        (pss_cons (ps_for PassesOwn.never rfl (pi_enum (by rfl) Tx.n_enumerate (pa_cons (pv 3) pa_nil)) (pg_tup (by rfl) (pgs_cons (pg_name (i := 6) sc_law_twice_right.nd rfl (Or.inl rfl)) (pgs_cons (pg_name (i := 7) sc_law_twice_right.nd rfl (Or.inl rfl)) pgs_nil))) (pss_one (ps_if (PW.pt (pw_and (pt_cmpR op_isN (pv 4) pe_non (nomark _)) (pw_and1 (pt_cmpR op_in_seq (pv 7) (pe_slice sl_list (pv 3) po_none (po_some (pv 6))) rfl)))) (pss_one (ps_set (i := 4) sc_law_twice_right.nd rfl (Or.inl rfl) (pv 7))) pss_nil)))
        (pss_cons (ps_for PassesOwn.never rfl (pi_tup (pe_tup (pa_cons (pe_call G_first_twice (hr.mono (by decide)) (by rfl) g_first_twice k_first_twice b_first_twice .nil pass0 (pa_cons (pv 3) pa_nil)) (pa_cons (pe_call G_first_twice (hr.mono (by decide)) (by rfl) g_first_twice k_first_twice b_first_twice .nil pass0 (pa_cons (pe_callTy call_tuple_of (by rfl) Tx.n_tuple (by decide +kernel) (pa_cons (pv 3) pa_nil)) pa_nil)) pa_nil)))) (pg_name (i := 8) sc_law_twice_right.nd rfl (Or.inl rfl)) (pss_one (ps_if (PW.pt (pw_or (pt_cmpR op_ne (pv 8) (pv 4) (nomark _)) (pw_or1 (pt_cmpR op_ne (pe_cmpR op_isN (pv 8) pe_non (nomark _)) (pe_cmpR op_isN (pv 4) pe_non (nomark _)) (nomark _))))) (pss_one (ps_ret pe_bl)) pss_nil)))
        (pss_one (ps_if (pt_cmpR (op_neD hr.units) (pv 3) (pv 5) (nomark _)) (pss_one (ps_ret pe_bl)) pss_nil))))))
        (pss_one (ps_ret pe_bl)))))), ?_⟩
    -- numbers
    refine ⟨_, rfl, p, c, 17, b + 299, rfl, hp, by decide, by decide, fun H1 d h1 k1 d0 d1 => ?_⟩
    refine ⟨d, rfl, by omega, by omega, fun N nN => ?_⟩
    obtain ⟨Np, Nc⟩ := h1.new nN
    refine lc_it (walk_range (lo := 0) (n := d.toNat)) (fun i H2 => ∃ is : List Int, H2 N = some (.lst (is.map V.int)) ∧ is.length = i ∧ PenAt H2 p c (b + 299 - i))
      ⟨[], upd_same, rfl, h1.mut Np Nc⟩ (fun _ _ _ _ => trivial) (fun i x H2 H3 hi pv y => ?_) (fun H2 pv => ?_)
    · obtain ⟨is, hN, hl, h2⟩ := pv
      obtain ⟨rfl, rfl⟩ := y
      have hb : b + 299 - i = (b + 299 - (i + 1)) + 1 := by omega
      rw [hb] at h2
      refine ⟨rfl, _, rfl, p, c, 20, _, rfl, h2, by decide, by decide, fun H4 z h4 k4 _ _ => ?_⟩
      refine ⟨_, _, rfl, rfl, ?_⟩
      refine ⟨_, k4 _ _ Np hN, by rw [List.length_map]; exact small_line (by omega), is ++ [z - 6], ?_, by rw [List.length_append, hl] <;> rfl, h4.mut Np Nc⟩
      rw [upd_same, List.map_append]
      rfl
    · obtain ⟨is, hN, hl, h2⟩ := pv
      have hNv : Vl H2 N (is.map Sum.inl) := ⟨by rw [List.map_map]; exact hN, by rw [List.length_map]; omega, fun k hk => by
        obtain ⟨z, _, rfl⟩ := List.mem_map.mp hk
        trivial⟩
      replace h2 := h2.less (d := b + 200) (by omega)
      -- words
      refine ⟨_, rfl, p, c, 7, b + 199, rfl, h2, by decide, by decide, fun H3 e h3 k3 e0 e1 => ?_⟩
      have hN3 : Vl H3 N (is.map Sum.inl) := ⟨k3 _ _ Np hNv.obj, hNv.len, hNv.ok⟩
      refine ⟨e, rfl, by omega, by omega, fun W nW => ?_⟩
      obtain ⟨Wp, Wc⟩ := h3.new nW
      have NW : N ≠ W := ne_of_none hN3.obj nW
      refine lc_it (walk_range (lo := 0) (n := e.toNat)) (fun i H4 => ∃ zs : List Str, H4 W = some (.lst (zs.map V.str)) ∧ zs.length = i ∧ (∀ z ∈ zs, TxB z 70) ∧ PenAt H4 p c (b + 199 - 25 * i) ∧ Vl H4 N (is.map Sum.inl))
        ⟨[], upd_same, rfl, (fun z hz => by cases hz), h3.mut Wp Wc, ⟨by rw [upd_ne NW]; exact hN3.obj, hN3.len, hN3.ok⟩⟩ (fun _ _ _ _ => trivial) (fun i x H4 H5 hi pv y => ?_) (fun H4 pv => ?_)
      · obtain ⟨zs, hW, hl2, hz, h4, hN4⟩ := pv
        obtain ⟨rfl, rfl⟩ := y
        have hb : b + 199 - 25 * i = (b + 199 - 25 * (i + 1)) + 25 := by omega
        rw [hb] at h4
        refine ⟨rfl, _, rfl, p, c, _, rfl, h4, fun H6 z h6 k6 tz => ?_⟩
        refine ⟨_, k6 _ _ Wp hW, by rw [List.length_map]; exact small_line (by omega), zs ++ [z], ?_, by rw [List.length_append, hl2] <;> rfl, fun y hy => ?_, h6.mut Wp Wc, ⟨?_, hN4.len, hN4.ok⟩⟩
        · rw [upd_same, List.map_append]
          rfl
        · rcases List.mem_append.mp hy with h | h
          · exact hz y h
          · rw [List.mem_singleton.mp h]
            exact tz
        · rw [upd_ne NW]
          exact k6 _ _ Np hN4.obj
      · obtain ⟨zs, hW, hl2, hz, h4, hN4⟩ := pv
        replace h4 := h4.less (d := b + 40) (by omega)
        -- one word once more
        refine ⟨fun σ H5 => ∃ ws : List L2.Key, σ = [some (.ref p), some (.ref N), some (.ref W), none, none, none, none, none, none] ∧ Vl H5 W ws ∧ Vl H5 N (is.map Sum.inl), ?_, ?_⟩
        · have base : ∀ {H5 : Hp}, H5 W = some (.lst (zs.map V.str)) → Vl H5 W (zs.map Sum.inr) := fun e5 => ⟨by rw [List.map_map]; exact e5, by rw [List.length_map]; omega, fun k hk => by
            obtain ⟨z, hz2, rfl⟩ := List.mem_map.mp hk
            exact hz z hz2⟩
          have hWv : ∀ v ∈ zs.map V.str, flatS v = true := fun v hv => by
            obtain ⟨z, hz2, rfl⟩ := List.mem_map.mp hv
            exact (hz z hz2).2
          refine ⟨_, rfl, Nat.zero_le _, fun o no => ?_⟩
          have s5 : Same H4 (upd H4 o (.lst [])) := same_new no
          refine ⟨_, _, .lst (SqL.of (s5 _ _ hW)) (dpAll_flat hWv), .lst (SqL.of upd_same) .nil, shaped_list hWv, rfl, _, rfl, ite2 (fun en => ?_) (fun _ => ?_)⟩
          · rw [eqv_nil] at en
            have ne : zs.map V.str ≠ [] := fun z => by
              rw [z] at en
              cases en
            have lpos := List.length_pos_iff.mpr ne
            rw [List.length_map] at lpos
            refine ⟨_, rfl, .inl ⟨rfl, _, SqL.of (s5 _ _ hW)⟩, ?_⟩
            refine ⟨_, rfl, _, rfl, _, rfl, W, _, rfl, .inl (SqL.of (s5 _ _ hW)), p, c, _, b, rfl, (h4.same s5).less (by omega), by rw [List.length_map]; omega, by rw [List.length_map]; omega, fun H6 a h6 k6 a0 a1 => ?_⟩
            rw [List.length_map] at a1
            obtain ⟨z, hzm, hat⟩ := at_strs (l := zs) a0 a1
            have hW6 := k6 _ _ Wp (s5 _ _ hW)
            refine ⟨W, _, a, .str z, rfl, rfl, SqL.of hW6, hat, W, _, .str z, rfl, rfl, hW6, by rw [List.length_map]; exact small_line (by omega), ?_⟩
            refine ⟨zs.map Sum.inr ++ [Sum.inr z], rfl, ⟨?_, by rw [List.length_append, List.length_map]; show zs.length + 1 ≤ 100; omega, fun k hk => ?_⟩, ⟨?_, hN4.len, hN4.ok⟩⟩
            · rw [upd_same, List.map_append, List.map_map]
              rfl
            · rcases List.mem_append.mp hk with h | h
              · exact (base hW).ok k h
              · rw [List.mem_singleton.mp h]
                exact hz z hzm
            · rw [upd_ne NW]
              exact k6 _ _ Np (s5 _ _ hN4.obj)
          · exact ⟨zs.map Sum.inr, rfl, base (s5 _ _ hW), hN4.same s5⟩
        · rintro σ H5 ⟨ws, rfl, hWv, hNv⟩
          obtain ⟨ms, em, lm, mm⟩ := cut_keys ws none (some (-1))
          -- the seven lists
          refine ⟨_, rfl, _, rfl, _, rfl, _, rfl, _, rfl, W, _, rfl, SqL.of hWv.obj, fun S nS => ?_⟩
          refine ⟨Nat.zero_le _, fun A1 n1 => ?_⟩
          refine ⟨le_line (n := 2) (by decide), fun A2 n2 => ?_⟩
          refine ⟨le_line (n := 2) (by decide), fun A3 n3 => ?_⟩
          refine ⟨_, rfl, _, rfl, le_line (n := 4) (by decide), fun A4 n4 => ?_⟩
          refine ⟨le_line (n := 7) (by decide), fun T nT => ?_⟩
          have fin : ∀ H6, Same H5 H6 → H6 S = some (.lst (cutV (ws.map kV) none (some (-1)))) → H6 A1 = some (.lst []) → H6 A2 = some (.lst [.str "", .str ""]) → H6 A3 = some (.lst [.str "1", .str "2"]) → H6 A4 = some (.lst [.int 0, .int (-1), .int 0, .int (-1)]) →
              ∀ x ∈ [V.ref N, .ref W, .ref S, .ref A1, .ref A2, .ref A3, .ref A4], ∃ (a : Addr) (ks : List L2.Key), x = .ref a ∧ Vl H6 a ks := fun H6 s6 e1 e2 e3 e4 e5 x hx => by
            simp only [List.mem_cons, List.not_mem_nil, or_false] at hx
            rcases hx with rfl | rfl | rfl | rfl | rfl | rfl | rfl
            · exact ⟨N, _, rfl, hNv.same s6⟩
            · exact ⟨W, _, rfl, hWv.same s6⟩
            · exact ⟨S, ms, rfl, ⟨by rw [e1, em], Nat.le_trans lm hWv.len, fun k hk => hWv.ok k (mm k hk)⟩⟩
            · exact ⟨A1, [], rfl, ⟨e2, by decide, fun k hk => by cases hk⟩⟩
            · exact ⟨A2, [.inr "", .inr ""], rfl, ⟨e3, by decide, fun k hk => by
                simp only [List.mem_cons, List.not_mem_nil, or_false, or_self] at hk
                rw [hk]
                exact TxB.lit 70 (by decide +kernel)⟩⟩
            · exact ⟨A3, [.inr "1", .inr "2"], rfl, ⟨e4, by decide, fun k hk => by
                simp only [List.mem_cons, List.not_mem_nil, or_false] at hk
                rcases hk with rfl | rfl <;> exact TxB.lit 70 (by decide +kernel)⟩⟩
            · exact ⟨A4, [.inl 0, .inl (-1), .inl 0, .inl (-1)], rfl, ⟨e5, by decide, fun k hk => by
                simp only [List.mem_cons, List.not_mem_nil, or_false] at hk
                rcases hk with rfl | rfl | rfl | rfl <;> trivial⟩⟩
          have t1 := same_new (o := HO.lst (cutV (ws.map kV) none (some (-1)))) nS
          have t2 := same_new (o := HO.lst []) n1
          have t3 := same_new (o := HO.lst [.str "", .str ""]) n2
          have t4 := same_new (o := HO.lst [.str "1", .str "2"]) n3
          have t5 := same_new (o := HO.lst [.int 0, .int (-1), .int 0, .int (-1)]) n4
          have t6 := same_new (o := HO.tup [V.ref N, .ref W, .ref S, .ref A1, .ref A2, .ref A3, .ref A4]) nT
          have all := fin _ (((((t1.trans t2).trans t3).trans t4).trans t5).trans t6) (t6 _ _ (t5 _ _ (t4 _ _ (t3 _ _ (t2 _ _ upd_same))))) (t6 _ _ (t5 _ _ (t4 _ _ (t3 _ _ upd_same)))) (t6 _ _ (t5 _ _ (t4 _ _ upd_same))) (t6 _ _ (t5 _ _ upd_same)) (t6 _ _ upd_same)
          refine ⟨T, rfl, ⟨_, SqT.of upd_same⟩, ?_⟩
          refine for_it (walk_tup (K := K) (a := T) (xs := [V.ref N, .ref W, .ref S, .ref A1, .ref A2, .ref A3, .ref A4])) (fun i σ H6 => ∃ a3 a4 a5 a6 a7 a8 : Option V, σ = [some (.ref p), some (.ref N), some (.ref W), a3, a4, a5, a6, a7, a8] ∧ Same _ H6)
            ⟨_, _, _, _, _, _, rfl, Same.refl _⟩ (fun i σ H6 _ pv => ?_) (fun i x σ H6 H7 hi pv y => ?_) (fun σ H6 pv => ?_)
          · obtain ⟨_, _, _, _, _, _, _, s6⟩ := pv
            exact SqT.of (s6 _ _ upd_same)
          · obtain ⟨a3, a4, a5, a6, a7, a8, rfl, s6⟩ := pv
            obtain ⟨rfl, hx⟩ := y
            obtain ⟨a, ks, rfl, hv0⟩ := all x (List.mem_of_getElem? hx)
            have hv := hv0.same s6
            -- due, passed = None, list(values)
            refine ⟨_, rfl, a, _, rfl, .inl (SqL.of hv.obj), fun P nP => ?_⟩
            refine ⟨_, _, rfl, ?_⟩
            have s8 := same_new (o := HO.lst (ks.map kV)) nP
            have hv8 := hv.same s8
            have hP8 : upd H7 P (.lst (ks.map kV)) P = some (.lst (ks.map kV)) := upd_same
            have st := s6.trans s8
            revert s8 hv8 hP8 st
            generalize upd H7 P (.lst (ks.map kV)) = H8
            intro s8 hv8 hP8 st
            -- the first that stands ahead
            refine ⟨_, rfl, a, _, rfl, SqL.of hv8.obj, ?_⟩
            refine for_it (walk_enum (K := K) (a := a) (xs := ks.map kV)) (fun j σ H9 => ∃ b6 b7 : Option V, σ = [some (.ref p), some (.ref N), some (.ref W), some (.ref a), some (ftwGo [] (ks.take j)), some (.ref P), b6, b7, a8] ∧ Same H8 H9)
              ⟨_, _, rfl, Same.refl _⟩ (fun j σ H9 _ pv => ?_) (fun j x σ H9 H10 hj pv y => ?_) (fun σ H9 pv => ?_)
            · obtain ⟨_, _, _, s9⟩ := pv
              exact SqL.of (s9 _ _ hv8.obj)
            · obtain ⟨b6, b7, rfl, s9⟩ := pv
              obtain ⟨U, x1, x2, rfl, nU, rfl, f1, f2⟩ := y
              have ex1 : V.int (j : Nat) = x1 := Option.some.inj f1
              subst ex1
              replace f2 : (ks.map kV)[j]? = some x2 := f2
              rw [List.getElem?_map] at f2
              obtain ⟨k, hk, rfl⟩ := Option.map_eq_some_iff.mp f2
              have s10 := same_new (o := HO.tup [.int (j : Nat), kV k]) nU
              have hv10 := (hv8.same s9).same s10
              have et : ks.take (j + 1) = ks.take j ++ [k] := by rw [List.take_add_one, hk] <;> rfl
              have eu := ftw_snoc (ks.take j) k []
              rw [← et, List.nil_append] at eu
              refine ⟨U, [.int (j : Nat), kV k], rfl, SqT.of upd_same, rfl, .int (j : Nat), [kV k], rfl, kV k, [], rfl, rfl, ?_⟩
              refine ⟨_, rfl, rfl, _, rfl, ite2 (fun e1 => ?_) (fun e1 => ?_)⟩
              · have e2 : ftwGo [] (ks.take j) = .non := of_decide_eq_true e1
                rw [if_pos e2] at eu
                refine ⟨_, rfl, _, rfl, _, rfl, _, rfl, a, _, rfl, SqL.of hv10.obj, fun Z nZ => ?_⟩
                refine ⟨Z, _, rfl, .inl (SqL.of upd_same), flatV_key k, ?_, _, rfl, ite2 (fun e3 => ?_) (fun e3 => ?_)⟩
                · rw [cut_take, ← List.map_take]
                  exact keys_flatV _
                · have e4 : hasK (ks.take j) k = true := by
                    have e5 : inV (kV k) (cutV (ks.map kV) none (some (j : Int))) = true := e3
                    rw [cut_take, ← List.map_take, inV_keys] at e5
                    exact e5
                  rw [if_pos e4] at eu
                  refine ⟨_, rfl, some (.int (j : Nat)), some (kV k), ?_, (s9.trans s10).trans (same_new nZ)⟩
                  rw [eu]
                  rfl
                · have e4 : ¬ hasK (ks.take j) k = true := fun e6 => e3 (by
                    show inV (kV k) (cutV (ks.map kV) none (some (j : Int))) = true
                    rw [cut_take, ← List.map_take, inV_keys]
                    exact e6)
                  rw [if_neg e4] at eu
                  refine ⟨some (.int (j : Nat)), some (kV k), ?_, (s9.trans s10).trans (same_new nZ)⟩
                  rw [eu, ← e2]
                  rfl
              · have e2 : ¬ ftwGo [] (ks.take j) = .non := fun z => e1 (decide_eq_true z)
                rw [if_neg e2] at eu
                refine ⟨some (.int (j : Nat)), some (kV k), ?_, s9.trans s10⟩
                rw [eu]
                rfl
            · obtain ⟨b6, b7, rfl, s9⟩ := pv
              rw [List.length_map, List.take_length]
              have hv9 := hv8.same s9
              have hF := ftw_isF ks []
              -- what is told
              refine ⟨_, rfl, a, ks, rfl, .inl hv9.obj, (by have := hv9.len; omega), fun Ha sa => ?_⟩
              have hva := hv9.same sa
              refine ⟨_, rfl, a, _, rfl, .inl ⟨SqL.of hva.obj, fun tt ntt => ?_⟩⟩
              refine ⟨tt, ks, rfl, .inr upd_same, (by have := hv9.len; omega), fun Hb sb => ?_⟩
              refine ⟨le_line (n := 2) (by decide), fun T2 nT2 => ?_⟩
              have sc := same_new (o := HO.tup [ftwGo [] ks, ftwGo [] ks]) nT2
              have hT2 : upd Hb T2 (.tup [ftwGo [] ks, ftwGo [] ks]) T2 = some (.tup [ftwGo [] ks, ftwGo [] ks]) := upd_same
              have sd := (((s9.trans sa).trans (same_new (o := HO.tup (ks.map kV)) ntt)).trans sb).trans sc
              refine ⟨T2, rfl, ⟨_, SqT.of upd_same⟩, ?_⟩
              refine for_it (walk_tup (K := K) (a := T2) (xs := [ftwGo [] ks, ftwGo [] ks])) (fun j σ H9 => ∃ b8 : Option V, σ = [some (.ref p), some (.ref N), some (.ref W), some (.ref a), some (ftwGo [] ks), some (.ref P), b6, b7, b8] ∧ H9 = upd Hb T2 (.tup [ftwGo [] ks, ftwGo [] ks]))
                ⟨_, rfl, rfl⟩ (fun j σ H9 _ pv => ?_) (fun j x σ H9 H10 hj pv y => ?_) (fun σ H9 pv => ?_)
              · obtain ⟨_, _, e⟩ := pv
                rw [e]
                exact SqT.of hT2
              · obtain ⟨b8, rfl, e9⟩ := pv
                obtain ⟨e10, hx2⟩ := y
                have ex : x = ftwGo [] ks := by
                  have hm := List.mem_of_getElem? hx2
                  simp only [List.mem_cons, List.not_mem_nil, or_false, or_self] at hm
                  exact hm
                subst ex
                refine ⟨_, rfl, _, rfl, scal_isF hF, _, rfl, ite2 (fun e => ?_) (fun _ => ?_)⟩
                · rw [decide_eq_true rfl] at e
                  cases e
                · refine ⟨_, rfl, rfl, _, rfl, rfl, rfl, _, rfl, ite2 (fun e => ?_) (fun _ => ?_)⟩
                  · rw [decide_eq_true rfl] at e
                    cases e
                  · exact ⟨_, rfl, e10.trans e9⟩
              · obtain ⟨b8, rfl, e9⟩ := pv
                subst e9
                have kf := keys_flat hv9.ok
                refine ⟨_, rfl, _, rfl, _, _, .lst (SqL.of (sd _ _ hv8.obj)) (dpAll_flat kf), .lst (SqL.of (sd _ _ hP8)) (dpAll_flat kf), shaped_list kf, shaped_list kf, _, rfl, ite2 (fun e => ?_) (fun _ => ?_)⟩
                · rw [eqv_self kf] at e
                  cases e
                · exact ⟨_, _, _, _, _, _, rfl, st.trans sd⟩
          · exact q _
theorem has_law_twice_right (Tx : Txt K mg) (c : He.SaysX fa fn [] [] ex w hh K) (X : K.In hh) (GG : hh.Ns mainGlobals mg) (h_law_text : Has P w K mg base "_law_text" 2 ["_law_pen_here"] sp_law_text) (h_law_draw : Has P w K mg base "_law_draw" 1 ["_law_pen_here", "_law_many"] sp_law_draw) (h_first_twice : Has P w K mg base "first_twice" 1 ["values"] (sp_first_twice K))  : Has P w K mg base "_law_twice_right" 3 ["_law_pen_here"] (sp_law_twice_right K) := by
  obtain ⟨fd, F⟩ := c.t.d.def_ 19 (d := d_law_twice_right) rfl
  exact ⟨_, fd, ok_law_twice_right F Tx h_law_text h_law_draw h_first_twice, He.glo_ok X GG (c.t.d.fact 21 (f := .glo "_law_twice_right") rfl), F.kp, F.bindsN fun _ _ _ _ _ _ us hl => match us, hl with | [_], _ => rfl⟩

end
end K01
namespace K01
open PySem PySem.Spec PyProof.Rows L2 Vf
section
variable {hh : Heap} {P : Program} {w : World} {K : PySem.W.Frag} {mg : Str → Option Value} {base : Heap}
/-! ### the law -/
theorem RowAt.kp {C p r : Addr} {H H' : Hp} {xs ys : List V} (h : RowAt C H r xs) (s : Kp p H H') (hp : H p = some (.lst ys)) (rp : r ≠ p) : RowAt C H' r xs :=
  ⟨s _ _ rp h.1, h.2.1, fun x hx => by
    obtain ⟨k, hk⟩ := h.2.2 x hx
    exact ⟨k, hk.kp s hp⟩⟩
theorem RowAt.same {C r : Addr} {H H' : Hp} {xs : List V} (h : RowAt C H r xs) (s : Same H H') : RowAt C H' r xs :=
  ⟨s _ _ h.1, h.2.1, fun x hx => by
    obtain ⟨k, hk⟩ := h.2.2 x hx
    exact ⟨k, hk.same s⟩⟩
theorem seen_list {C a : Addr} {H : Hp} {xs : List V} (h : H a = some (.lst xs)) (hl : xs.length ≤ 1000) (hx : ∀ x ∈ xs, ∃ k, KndV C H x k) : ∃ k ys, Seen C H (.ref a) k ys :=
  ⟨.list, xs, ⟨xs, h⟩, fun _ => ⟨a, rfl, .inl h, hl, hx⟩, fun z e => by cases e⟩
theorem seen_tup {C a : Addr} {H : Hp} {xs : List V} (h : H a = some (.tup xs)) (hl : xs.length ≤ 1000) (hx : ∀ x ∈ xs, ∃ k, KndV C H x k) : ∃ k ys, Seen C H (.ref a) k ys :=
  ⟨.tuple, xs, ⟨xs, h⟩, fun _ => ⟨a, rfl, .inr h, hl, hx⟩, fun z e => by cases e⟩
theorem seen_str {C : Addr} {H : Hp} {z : Str} (h : TxB z 70) : ∃ k ys, Seen C H (.str z) k ys := ⟨_, _, (smp_str h).seen⟩
theorem seen_bl {C : Addr} {H : Hp} (b : Bool) : ∃ k ys, Seen C H (.bl b) k ys := ⟨_, _, (smp_bl b).seen⟩
theorem seen_int {C : Addr} {H : Hp} (i : Int) : ∃ k ys, Seen C H (.int i) k ys := ⟨_, _, (smp_int i).seen⟩
theorem seen_non {C : Addr} {H : Hp} : ∃ k ys, Seen C H .non k ys := ⟨_, _, smp_non.seen⟩
def c16 (B1 B2 B3 B4 : Addr) : List V := [.ref B1, .ref B2, .str "", .str "a", .str "z9", .str "9z", .str (Txt.mul "a" 12), .str (Txt.mul "a" 13), .bl true, .bl false, .int 0, .int (-1), .non, .ref B3, .ref B4, .str "squaretriangle"]
def c9 : List V := [.str "a\n", .str "\na", .str "a\tb", .str "square\n", .str "triangle ", .str " square", .str "\n", .str (Txt.mul "a" 12 ++ "\n"), .str (Txt.mul "z" 11 ++ "\n")]
theorem PenAt.kp {H H' : Hp} {p c q : Addr} {b : Nat} (h : PenAt H p c b) (s : Kp q H H') (hp : p ≠ q) (hc : c ≠ q) : PenAt H' p c b := by
  obtain ⟨ns, n, g, h1, h2, h3, h4⟩ := h
  exact ⟨ns, n, g, s _ _ hp h1, s _ _ hc h2, h3, h4⟩
theorem row_knd {C r : Addr} {H : Hp} {xs : List V} (h : RowAt C H r xs) : ∀ x ∈ xs, ∃ k, KndV C H x k := fun x hx => by
  obtain ⟨k, hk⟩ := h.2.2 x hx
  exact ⟨k, hk.knd⟩
def sp_law (K : PySem.W.Frag) : Sp := fun vs H Q _ => ∃ (a : Addr) (ns : List Int), vs = [.ref a] ∧ SqL K H a (ns.map V.int) ∧ ns.length ≤ 63 ∧ ∀ H', Q (.bl true) H'
theorem sc_law : FnScope ["_law_script", "_law_pen_here", "_law_row_here", "_law_values", "_law_value"] ["_law_script"] (defScope s_law) := ⟨rfl, rfl, rfl, by decide +kernel, rfl, by decide +kernel, by decide +kernel⟩
theorem ok_law {f : Addr} {fd : FuncData} (F : FnP K "law" s_law f fd) (Tx : Txt K mg) (h_law_pen : Has P w K mg base "_law_pen" 1 ["_law_script"] (sp_law_pen K)) (h_law_row : Has P w K mg base "_law_row" 4 ["_law_pen_here"] (sp_law_row K)) (h_law_twice_right : Has P w K mg base "_law_twice_right" 3 ["_law_pen_here"] (sp_law_twice_right K)) (h_law_simple : Has P w K mg base "_law_simple" 3 ["_law_pen_here"] (sp_law_simple K)) (h_law_text : Has P w K mg base "_law_text" 2 ["_law_pen_here"] sp_law_text) (h_law_one_right : Has P w K mg base "_law_one_right" 3 ["_law_value"] (sp_law_one_right K)) (h_law_bounds_right : Has P w K mg base "_law_bounds_right" 3 ["_law_pen_here", "_law_value"] (sp_law_bounds_right K))  : FnOk P w K mg base CX0 5 f fd ["_law_script"] (sp_law K) := by
  obtain ⟨f_law_pen, fd_law_pen, G_law_pen, g_law_pen, k_law_pen, b_law_pen⟩ := h_law_pen
  obtain ⟨f_law_row, fd_law_row, G_law_row, g_law_row, k_law_row, b_law_row⟩ := h_law_row
  obtain ⟨f_law_twice_right, fd_law_twice_right, G_law_twice_right, g_law_twice_right, k_law_twice_right, b_law_twice_right⟩ := h_law_twice_right
  obtain ⟨f_law_simple, fd_law_simple, G_law_simple, g_law_simple, k_law_simple, b_law_simple⟩ := h_law_simple
  obtain ⟨f_law_text, fd_law_text, G_law_text, g_law_text, k_law_text, b_law_text⟩ := h_law_text
  obtain ⟨f_law_one_right, fd_law_one_right, G_law_one_right, g_law_one_right, k_law_one_right, b_law_one_right⟩ := h_law_one_right
  obtain ⟨f_law_bounds_right, fd_law_bounds_right, G_law_bounds_right, g_law_bounds_right, k_law_bounds_right, b_law_bounds_right⟩ := h_law_bounds_right
  refine F.ok sc_law (fun vs H Q E h => ?_) (fun cdv A outer s H vs Q E hr h => ?_)
  · obtain ⟨a, ns, rfl, _⟩ := h
    rfl
  · obtain ⟨a, ns, rfl, ha, hl, q⟩ := h
    refine ⟨_, PSs.nox (pss_cons (ps_set (i := 1) sc_law.nd rfl (Or.inl rfl) (pe_call G_law_pen (hr.mono (by decide)) (by rfl) g_law_pen k_law_pen b_law_pen .nil pass0 (pa_cons (pv 0) pa_nil)))
        (pss_cons (ps_set (i := 2) sc_law.nd rfl (Or.inl rfl) (pe_call G_law_row (hr.mono (by decide)) (by rfl) g_law_row k_law_row b_law_row .nil pass0 (pa_cons (pv 1) pa_nil)))
        (pss_cons (ps_set (i := 3) sc_law.nd rfl (Or.inl rfl) (pe_lst (pa_cons (pe_call G_law_simple (hr.mono (by decide)) (by rfl) g_law_simple k_law_simple b_law_simple .nil pass0 (pa_cons (pv 1) pa_nil)) (pa_cons (pe_call G_law_text (hr.mono (by decide)) (by rfl) g_law_text k_law_text b_law_text .nil pass0 (pa_cons (pv 1) pa_nil)) (pa_cons (pv 2) (pa_cons (pe_callTy call_tuple_of (by rfl) Tx.n_tuple (by decide +kernel) (pa_cons (pv 2) pa_nil)) (pa_cons (pe_call G_law_simple (hr.mono (by decide)) (by rfl) g_law_simple k_law_simple b_law_simple .nil pass0 (pa_cons (pv 1) pa_nil)) (pa_cons (pe_lst (pa_cons (pv 2) pa_nil)) (pa_cons (pe_lst (pa_cons (pe_callTy call_tuple_of (by rfl) Tx.n_tuple (by decide +kernel) (pa_cons (pv 2) pa_nil)) (pa_cons pe_int pa_nil))) pa_nil)))))))))
        (pss_cons (ps_expr (pe_bm PySem.F.plainAttrs_list PySem.F.slot_list_extend PySem.F.type_list_extend mt_extend (pv 3) (pa_cons (pe_lst (pa_cons (pe_lst pa_nil) (pa_cons (pe_tup pa_nil) (pa_cons pe_str (pa_cons pe_str (pa_cons pe_str (pa_cons pe_str (pa_cons (pe_op op_rep_str pe_str pe_int) (pa_cons (pe_op op_rep_str pe_str pe_int) (pa_cons pe_bl (pa_cons pe_bl (pa_cons pe_int (pa_cons (pe_un un_neg pe_int) (pa_cons pe_non (pa_cons (pe_lst (pa_cons pe_bl pa_nil)) (pa_cons (pe_tup (pa_cons pe_int pa_nil)) (pa_cons pe_str pa_nil))))))))))))))))) pa_nil)))
        (C8.pss_cut (ps_expr (pe_bm PySem.F.plainAttrs_list PySem.F.slot_list_extend PySem.F.type_list_extend mt_extend (pv 3) (pa_cons (pe_lst (pa_cons pe_str (pa_cons pe_str (pa_cons pe_str (pa_cons pe_str (pa_cons pe_str (pa_cons pe_str (pa_cons pe_str (pa_cons (pe_op op_add_str (pe_op op_rep_str pe_str pe_int) pe_str) (pa_cons (pe_op op_add_str (pe_op op_rep_str pe_str pe_int) pe_str) pa_nil)))))))))) pa_nil)))
        (pss_cons (ps_for PassesOwn.never rfl (pi_list (pv 3)) (pg_name (i := 4) sc_law.nd rfl (Or.inl rfl)) (pss_one (ps_if (pt_not (pt_val (pe_call G_law_one_right (hr.mono (by decide)) (by rfl) g_law_one_right k_law_one_right b_law_one_right .nil pass0 (pa_cons (pv 4) pa_nil)))) (pss_one (ps_ret pe_bl)) pss_nil)))
        (pss_cons (ps_for PassesOwn.never rfl (pi_tup (pe_tup (pa_cons (pe_ix ix_list (pv 3) pe_int (fun _ _ => rfl)) (pa_cons (pe_ix ix_list (pv 3) pe_int (fun _ _ => rfl)) (pa_cons (pe_ix ix_list (pv 3) pe_int (fun _ _ => rfl)) (pa_cons (pv 2) (pa_cons pe_bl (pa_cons pe_bl (pa_cons pe_int (pa_cons pe_non pa_nil)))))))))) (pg_name (i := 4) sc_law.nd rfl (Or.inl rfl)) (pss_one (ps_if (pt_not (pt_val (pe_call G_law_bounds_right (hr.mono (by decide)) (by rfl) g_law_bounds_right k_law_bounds_right b_law_bounds_right .nil pass0 (pa_cons (pv 1) (pa_cons (pv 4) pa_nil))))) (pss_one (ps_ret pe_bl)) pss_nil)))
        (pss_one (ps_ret (pe_call G_law_twice_right (hr.mono (by decide)) (by rfl) g_law_twice_right k_law_twice_right b_law_twice_right .nil pass0 (pa_cons (pv 1) pa_nil))))))))))), ?_⟩
    refine ⟨_, rfl, a, ns, rfl, ha, hl, fun H1 p c s1 p0 c0 h1 => ?_⟩
    refine ⟨_, rfl, p, c, 800000, rfl, h1.less (by decide), fun H2 r xs h2 k2 nr hr2 => ?_⟩
    obtain ⟨rp, rc⟩ := h1.new nr
    -- the values
    refine ⟨_, rfl, p, c, 799900, rfl, h2.less (by decide), fun H3 v1 e1 h3 k3 hv1 => ?_⟩
    obtain ⟨ps2, hps2⟩ := h2.at
    have hr3 := hr2.kp k3 hps2 rp
    refine ⟨_, rfl, p, c, 799800, rfl, h3.less (by decide), fun H4 z h4 k4 tz => ?_⟩
    obtain ⟨ps3, hps3⟩ := h3.at
    have hr4 := hr3.kp k4 hps3 rp
    have hv14 := hv1.kp k4 hps3
    refine ⟨_, rfl, _, rfl, r, _, rfl, .inl ⟨SqL.of hr4.1, fun T1 nT1 => ?_⟩⟩
    obtain ⟨T1p, _⟩ := h4.new nT1
    have s5 := same_new (o := HO.tup xs) nT1
    have hr5 := hr4.same s5
    have hv15 := hv14.same s5
    have h5 := h4.same s5
    have hT15 : upd H4 T1 (.tup xs) T1 = some (.tup xs) := upd_same
    revert hr5 hv15 h5 hT15
    generalize upd H4 T1 (.tup xs) = H5
    intro hr5 hv15 h5 hT15
    refine ⟨_, rfl, p, c, 799700, rfl, h5.less (by decide), fun H6 v2 e2 h6 k6 hv2 => ?_⟩
    obtain ⟨ps5, hps5⟩ := h5.at
    have hr6 := hr5.kp k6 hps5 rp
    have hv16 := hv15.kp k6 hps5
    have hT16 := k6 _ _ T1p hT15
    refine ⟨_, rfl, le_line (n := 1) (by decide), fun L1 nL1 => ?_⟩
    have s7 := same_new (o := HO.lst [V.ref r]) nL1
    refine ⟨_, rfl, r, _, rfl, .inl ⟨SqL.of (s7 _ _ hr6.1), fun T2 nT2 => ?_⟩⟩
    have s8 := same_new (o := HO.tup xs) nT2
    refine ⟨le_line (n := 2) (by decide), fun L2 nL2 => ?_⟩
    have s9 := same_new (o := HO.lst [V.ref T2, V.int 1]) nL2
    have hL1 := s9 _ _ (s8 _ _ (upd_same (H := H6) (a := L1) (o := HO.lst [V.ref r])))
    have hT2 := s9 _ _ (upd_same (H := upd H6 L1 (HO.lst [V.ref r])) (a := T2) (o := HO.tup xs))
    have hL2 := upd_same (H := upd (upd H6 L1 (HO.lst [V.ref r])) T2 (HO.tup xs)) (a := L2) (o := HO.lst [V.ref T2, V.int 1])
    have s69 := (s7.trans s8).trans s9
    have hr9 := hr6.same s69
    have hv19 := hv16.same s69
    have hv29 := hv2.same s69
    have hT19 := s69 _ _ hT16
    have h9 := h6.same s69
    refine ⟨le_line (n := 7) (by decide), fun V0 nV0 => ?_⟩
    obtain ⟨V0p, V0c⟩ := h9.new nV0
    have rV : r ≠ V0 := ne_of_none hr9.1 nV0
    have T1V : T1 ≠ V0 := ne_of_none hT19 nV0
    have T2V : T2 ≠ V0 := ne_of_none hT2 nV0
    have L1V : L1 ≠ V0 := ne_of_none hL1 nV0
    have L2V : L2 ≠ V0 := ne_of_none hL2 nV0
    have s10 := same_new (o := HO.lst [v1, .str z, .ref r, .ref T1, v2, .ref L1, .ref L2]) nV0
    have e10 : (upd (upd (upd (upd H6 L1 (HO.lst [V.ref r])) T2 (HO.tup xs)) L2 (HO.lst [V.ref T2, V.int 1])) V0 (HO.lst [v1, .str z, .ref r, .ref T1, v2, .ref L1, .ref L2])) V0 = some (.lst [v1, .str z, .ref r, .ref T1, v2, .ref L1, .ref L2]) := upd_same
    have hr10 := hr9.same s10
    have hv110 := hv19.same s10
    have hv210 := hv29.same s10
    have hT110 := s10 _ _ hT19
    have hT210 := s10 _ _ hT2
    have hL110 := s10 _ _ hL1
    have hL210 := s10 _ _ hL2
    have h10 := h9.same s10
    revert e10 hr10 hv110 hv210 hT110 hT210 hL110 hL210 h10
    generalize (upd (upd (upd (upd H6 L1 (HO.lst [V.ref r])) T2 (HO.tup xs)) L2 (HO.lst [V.ref T2, V.int 1])) V0 (HO.lst [v1, .str z, .ref r, .ref T1, v2, .ref L1, .ref L2])) = H10
    intro e10 hr10 hv110 hv210 hT110 hT210 hL110 hL210 h10
    -- sixteen more
    refine ⟨_, rfl, .inl ⟨rfl, _, SqL.of e10⟩, Nat.zero_le _, fun B1 n1 => ?_⟩
    have B1V : B1 ≠ V0 := (ne_of_none e10 n1).symm
    have q11 := same_new (o := HO.lst []) n1
    refine ⟨Nat.zero_le _, fun B2 n2 => ?_⟩
    have B2V : B2 ≠ V0 := (ne_of_none (q11 _ _ e10) n2).symm
    have q12 := same_new (o := HO.tup []) n2
    refine ⟨"a", 12, rfl, rfl, by decide +kernel, by decide, by decide, "a", 13, rfl, rfl, by decide +kernel, by decide, by decide, _, rfl, le_line (n := 1) (by decide), fun B3 n3 => ?_⟩
    have B3V : B3 ≠ V0 := (ne_of_none ((q11.trans q12) _ _ e10) n3).symm
    have q13 := same_new (o := HO.lst [V.bl true]) n3
    refine ⟨le_line (n := 1) (by decide), fun B4 n4 => ?_⟩
    have B4V : B4 ≠ V0 := (ne_of_none (((q11.trans q12).trans q13) _ _ e10) n4).symm
    have q14 := same_new (o := HO.tup [V.int 0]) n4
    refine ⟨le_line (n := 16) (by decide), fun B5 n5 => ?_⟩
    have B5V : B5 ≠ V0 := (ne_of_none ((((q11.trans q12).trans q13).trans q14) _ _ e10) n5).symm
    have q15 := same_new (o := HO.lst (c16 B1 B2 B3 B4)) n5
    have q1015 := (((q11.trans q12).trans q13).trans q14).trans q15
    refine ⟨V0, B5, _, _, rfl, rfl, q1015 _ _ e10, upd_same, le_line (n := 23) (by decide), ?_⟩
    -- nine more
    have e16 : ∀ H, (upd H V0 (.lst ([v1, .str z, .ref r, .ref T1, v2, .ref L1, .ref L2] ++ c16 B1 B2 B3 B4))) V0 = some (.lst ([v1, .str z, .ref r, .ref T1, v2, .ref L1, .ref L2] ++ c16 B1 B2 B3 B4)) := fun H => upd_same
    refine ⟨fun σ HF => σ = [some (.ref a), some (.ref p), some (.ref r), some (.ref V0), none] ∧ HF V0 = some (.lst (([v1, .str z, .ref r, .ref T1, v2, .ref L1, .ref L2] ++ c16 B1 B2 B3 B4) ++ c9)) ∧
      (∀ x ∈ (([v1, .str z, .ref r, .ref T1, v2, .ref L1, .ref L2] ++ c16 B1 B2 B3 B4) ++ c9), ∃ k ys, Seen (NC K) HF x k ys) ∧ PenAt HF p c 799700 ∧ RowAt (NC K) HF r xs ∧ Smp (NC K) HF v1 e1 ∧ Smp (NC K) HF v2 e2, ?_, ?_⟩
    · refine ⟨_, rfl, .inl ⟨rfl, _, SqL.of (e16 _)⟩, "a", 12, rfl, rfl, by decide +kernel, by decide, by decide, _, _, rfl, rfl, le_line (n := 13) (by decide +kernel), "z", 11, rfl, rfl, by decide +kernel, by decide, by decide, _, _, rfl, rfl, le_line (n := 12) (by decide +kernel), le_line (n := 9) (by decide), fun B6 n6 => ?_⟩
      have q17 := same_new (o := HO.lst c9) n6
      refine ⟨V0, B6, _, _, rfl, rfl, q17 _ _ (e16 _), upd_same, le_line (n := 32) (by decide), ?_⟩
      -- all that stands
      have kF : Kp V0 H10 _ := (((Kp.same q1015).set (o := HO.lst ([v1, .str z, .ref r, .ref T1, v2, .ref L1, .ref L2] ++ c16 B1 B2 B3 B4))).trans (Kp.same q17)).set (o := HO.lst (([v1, .str z, .ref r, .ref T1, v2, .ref L1, .ref L2] ++ c16 B1 B2 B3 B4) ++ c9))
      have kG : ∀ {Hm : Hp}, Same Hm _ → Kp V0 Hm _ := fun {Hm} t => (((Kp.same (t.trans q15)).set (o := HO.lst ([v1, .str z, .ref r, .ref T1, v2, .ref L1, .ref L2] ++ c16 B1 B2 B3 B4))).trans (Kp.same q17)).set (o := HO.lst (([v1, .str z, .ref r, .ref T1, v2, .ref L1, .ref L2] ++ c16 B1 B2 B3 B4) ++ c9))
      have hB1 := kG ((q12.trans q13).trans q14) B1 _ B1V upd_same
      have hB2 := kG (q13.trans q14) B2 _ B2V upd_same
      have hB3 := kG q14 B3 _ B3V upd_same
      have hB4 := kG (Same.refl _) B4 _ B4V upd_same
      have eV := upd_same (H := upd (upd (upd (upd (upd (upd (upd H10 B1 (HO.lst [])) B2 (HO.tup [])) B3 (HO.lst [V.bl true])) B4 (HO.tup [V.int 0])) B5 (HO.lst (c16 B1 B2 B3 B4))) V0 (HO.lst ([v1, .str z, .ref r, .ref T1, v2, .ref L1, .ref L2] ++ c16 B1 B2 B3 B4))) B6 (HO.lst c9)) (a := V0) (o := HO.lst (([v1, .str z, .ref r, .ref T1, v2, .ref L1, .ref L2] ++ c16 B1 B2 B3 B4) ++ c9))
      have hrF := hr10.kp kF e10 rV
      have hv1F := hv110.kp kF e10
      have hv2F := hv210.kp kF e10
      have hT1F := kF _ _ T1V hT110
      have hT2F := kF _ _ T2V hT210
      have hL1F := kF _ _ L1V hL110
      have hL2F := kF _ _ L2V hL210
      have hF := PenAt.kp h10 kF V0p.symm V0c.symm
      refine ⟨rfl, eV, fun x hx => ?_, hF, hrF, hv1F, hv2F⟩
      have hxl := hrF.2.1
      have hxk := row_knd hrF
      simp only [c16, c9, List.mem_append, List.mem_cons, List.not_mem_nil, or_false] at hx
      rcases hx with ((rfl | rfl | rfl | rfl | rfl | rfl | rfl) | (rfl | rfl | rfl | rfl | rfl | rfl | rfl | rfl | rfl | rfl | rfl | rfl | rfl | rfl | rfl | rfl)) | (rfl | rfl | rfl | rfl | rfl | rfl | rfl | rfl | rfl)
      · exact ⟨e1, [], hv1F.seen⟩
      · exact seen_str tz
      · exact seen_list hrF.1 (by omega) hxk
      · exact seen_tup hT1F (by omega) hxk
      · exact ⟨e2, [], hv2F.seen⟩
      · exact seen_list hL1F (show 1 ≤ 1000 by decide) fun x hx => by
          rw [List.mem_singleton.mp hx]
          exact ⟨.list, _, hrF.1⟩
      · exact seen_list hL2F (show 2 ≤ 1000 by decide) fun x hx => by
          simp only [List.mem_cons, List.not_mem_nil, or_false] at hx
          rcases hx with rfl | rfl
          · exact ⟨.tuple, _, hT2F⟩
          · exact ⟨.int, trivial⟩
      · exact seen_list hB1 (by decide) fun x hx => by cases hx
      · exact seen_tup hB2 (by decide) fun x hx => by cases hx
      · exact seen_str (TxB.lit 70 (by decide +kernel))
      · exact seen_str (TxB.lit 70 (by decide +kernel))
      · exact seen_str (TxB.lit 70 (by decide +kernel))
      · exact seen_str (TxB.lit 70 (by decide +kernel))
      · exact seen_str (TxB.lit 70 (by decide +kernel))
      · exact seen_str (TxB.lit 70 (by decide +kernel))
      · exact seen_bl _
      · exact seen_bl _
      · exact seen_int _
      · exact seen_int _
      · exact seen_non
      · exact seen_list hB3 (by decide) fun x hx => by
          rw [List.mem_singleton.mp hx]
          exact ⟨.bool, trivial⟩
      · exact seen_tup hB4 (by decide) fun x hx => by
          rw [List.mem_singleton.mp hx]
          exact ⟨.int, trivial⟩
      · exact seen_str (TxB.lit 70 (by decide +kernel))
      · exact seen_str (TxB.lit 70 (by decide +kernel))
      · exact seen_str (TxB.lit 70 (by decide +kernel))
      · exact seen_str (TxB.lit 70 (by decide +kernel))
      · exact seen_str (TxB.lit 70 (by decide +kernel))
      · exact seen_str (TxB.lit 70 (by decide +kernel))
      · exact seen_str (TxB.lit 70 (by decide +kernel))
      · exact seen_str (TxB.lit 70 (by decide +kernel))
      · exact seen_str (TxB.lit 70 (by decide +kernel))
      · exact seen_str (TxB.lit 70 (by decide +kernel))
    · rintro σ HF ⟨rfl, eV, hall, hF, hrF, hv1F, hv2F⟩
      -- each value
      refine ⟨_, rfl, V0, rfl, ⟨_, SqL.of eV⟩, ?_⟩
      refine for_it (walk_list (K := K) (a := V0) (xs := ([v1, .str z, .ref r, .ref T1, v2, .ref L1, .ref L2] ++ c16 B1 B2 B3 B4) ++ c9)) (fun i σ H' => ∃ a4 : Option V, σ = [some (.ref a), some (.ref p), some (.ref r), some (.ref V0), a4] ∧ Same HF H')
        ⟨_, rfl, Same.refl _⟩ (fun i σ H' _ pv => ?_) (fun i x σ H' H'' hi pv y => ?_) (fun σ H' pv => ?_)
      · obtain ⟨_, _, s⟩ := pv
        exact SqL.of (s _ _ eV)
      · obtain ⟨a4, rfl, s⟩ := pv
        obtain ⟨rfl, hx⟩ := y
        obtain ⟨k, ys, hs⟩ := hall x (List.mem_of_getElem? hx)
        refine ⟨_, rfl, x, k, ys, rfl, hs.same s, fun Hn sn => ?_⟩
        exact ⟨_, rfl, ite2 (fun e => by cases e) (fun _ => ⟨_, rfl, s.trans sn⟩)⟩
      · obtain ⟨a4, rfl, s⟩ := pv
        have eV' := s _ _ eV
        have hF' := hF.same s
        have hr' := hrF.same s
        have hv1' := hv1F.same s
        have hv2' := hv2F.same s
        -- the bounds
        refine ⟨_, rfl, V0, _, 0, v1, rfl, rfl, SqL.of eV', rfl, _, rfl, V0, _, 1, .str z, rfl, rfl, SqL.of eV', rfl, _, rfl, V0, _, 4, v2, rfl, rfl, SqL.of eV', rfl, _, rfl, le_line (n := 8) (by decide), fun Tb nTb => ?_⟩
        have sT := same_new (o := HO.tup [v1, .str z, v2, .ref r, .bl true, .bl false, .int 0, .non]) nTb
        obtain ⟨Tbp, _⟩ := hF'.new nTb
        have hT := upd_same (H := H') (a := Tb) (o := HO.tup [v1, .str z, v2, .ref r, .bl true, .bl false, .int 0, .non])
        have hFT := hF'.same sT
        obtain ⟨psT, hpsT⟩ := hFT.at
        have items : ∀ x ∈ [v1, .str z, v2, .ref r, .bl true, .bl false, .int 0, .non], ∃ k, KndV (NC K) _ x k ∧ ∀ a, x = .ref a → a ≠ p := fun x hx => by
          simp only [List.mem_cons, List.not_mem_nil, or_false] at hx
          rcases hx with rfl | rfl | rfl | rfl | rfl | rfl | rfl | rfl
          · exact ⟨e1, (hv1'.same sT).knd, (hv1'.same sT).apart hpsT⟩
          · exact ⟨.str, trivial, fun a e => by cases e⟩
          · exact ⟨e2, (hv2'.same sT).knd, (hv2'.same sT).apart hpsT⟩
          · exact ⟨.list, ⟨_, (hr'.same sT).1⟩, fun a e => by cases e; exact rp⟩
          · exact ⟨.bool, trivial, fun a e => by cases e⟩
          · exact ⟨.bool, trivial, fun a e => by cases e⟩
          · exact ⟨.int, trivial, fun a e => by cases e⟩
          · exact ⟨.none, trivial, fun a e => by cases e⟩
        refine ⟨Tb, rfl, ⟨_, SqT.of hT⟩, ?_⟩
        refine for_it (walk_tup (K := K) (a := Tb) (xs := [v1, .str z, v2, .ref r, .bl true, .bl false, .int 0, .non])) (fun i σ H2 => ∃ a4 : Option V, σ = [some (.ref a), some (.ref p), some (.ref r), some (.ref V0), a4] ∧ PenAt H2 p c (799700 - 20 * i) ∧ Kp p _ H2)
          ⟨_, rfl, hFT, Kp.refl _ _⟩ (fun i σ H2 _ pv => ?_) (fun i x σ H2 H3 hi pv y => ?_) (fun σ H2 pv => ?_)
        · obtain ⟨_, _, _, k2⟩ := pv
          exact SqT.of (k2 _ _ Tbp hT)
        · obtain ⟨a4, rfl, hp2, k2⟩ := pv
          obtain ⟨rfl, hx⟩ := y
          obtain ⟨k, hk, ap⟩ := items x (List.mem_of_getElem? hx)
          have hi8 : i < 8 := hi
          have hb : 799700 - 20 * i = (799700 - 20 * (i + 1)) + 20 := by omega
          rw [hb] at hp2
          refine ⟨_, rfl, _, rfl, p, c, _, x, k, rfl, hp2, KndV.kp hk k2 ap, ap, fun Hn hn kn => ?_⟩
          exact ⟨_, rfl, ite2 (fun e => by cases e) (fun _ => ⟨_, rfl, hn, k2.trans kn⟩)⟩
        · obtain ⟨a4, rfl, hp2, k2⟩ := pv
          exact ⟨_, rfl, p, c, 799000, rfl, hp2.less (by show 799000 + 300 ≤ 799700 - 20 * 8; decide), fun Hn => q Hn⟩
theorem has_law (Tx : Txt K mg) (c : He.SaysX fa fn [] [] ex w hh K) (X : K.In hh) (GG : hh.Ns mainGlobals mg) (h_law_pen : Has P w K mg base "_law_pen" 1 ["_law_script"] (sp_law_pen K)) (h_law_row : Has P w K mg base "_law_row" 4 ["_law_pen_here"] (sp_law_row K)) (h_law_twice_right : Has P w K mg base "_law_twice_right" 3 ["_law_pen_here"] (sp_law_twice_right K)) (h_law_simple : Has P w K mg base "_law_simple" 3 ["_law_pen_here"] (sp_law_simple K)) (h_law_text : Has P w K mg base "_law_text" 2 ["_law_pen_here"] sp_law_text) (h_law_one_right : Has P w K mg base "_law_one_right" 3 ["_law_value"] (sp_law_one_right K)) (h_law_bounds_right : Has P w K mg base "_law_bounds_right" 3 ["_law_pen_here", "_law_value"] (sp_law_bounds_right K))  : Has P w K mg base "law" 5 ["_law_script"] (sp_law K) := by
  obtain ⟨fd, F⟩ := c.t.d.def_ 20 (d := d_law) rfl
  exact ⟨_, fd, ok_law F Tx h_law_pen h_law_row h_law_twice_right h_law_simple h_law_text h_law_one_right h_law_bounds_right, He.glo_ok X GG (c.t.d.fact 22 (f := .glo "law") rfl), F.kp, F.bindsN fun _ _ _ _ _ _ us hl => match us, hl with | [_], _ => rfl⟩

end
end K01
namespace K01
open PySem PySem.Spec PyProof.Rows L2 Vf
abbrev lawLevel : Nat := 5
abbrev spLaw (K : PySem.W.Frag) : Sp := sp_law K
theorem facts {P : Program} {w : World} {K : PySem.W.Frag} {h : Heap} {mg : Str → Option Value} {f : Addr} (X : K.In h) (G : h.Ns mainGlobals mg) (hfa : mg ("law" : Str) = some (.ref f)) (c : He.SaysX fa fn [] [] ex w h K) :
    ∃ fd : FuncData, (∀ (s : Shared) (v : Value), BindsTo s fd ⟨[v], []⟩ [("_law_script", v)]) ∧ ∀ base : Heap, K.In base → base.Ns mainGlobals mg → FnOk P w K mg base CX0 lawLevel f fd ["_law_script"] (spLaw K) := by
  have Tx := txt_of X G c
  obtain ⟨fd, F⟩ := c.t.d.def_ 20 (d := d_law) rfl
  have e := hfa.symm.trans (He.glo_ok X G (c.t.d.fact 22 (f := .glo "law") rfl))
  cases e
  refine ⟨fd, fun s v => FunD.bindsA (ps := ["_law_script"]) F (fun _ _ _ _ _ _ us hl => match us, hl with | [_], _ => rfl) s [v] rfl, fun base _ _ => ?_⟩
  have h_is_grid := has_is_grid (P := P) (base := base) Tx c X G 
  have h_is_integer := has_is_integer (P := P) (base := base) Tx c X G 
  have h_is_integer_kw := has_is_integer_kw (P := P) (base := base) Tx c X G 
  have h_is_within := has_is_within (P := P) (base := base) Tx c X G h_is_integer
  have h_is_within_kw := has_is_within_kw (P := P) (base := base) Tx c X G h_is_integer
  have h_is_kind := has_is_kind (P := P) (base := base) Tx c X G h_is_grid
  have h_is_kind_kw := has_is_kind_kw (P := P) (base := base) Tx c X G h_is_grid
  have h_is_name := has_is_name (P := P) (base := base) Tx c X G 
  have h_is_name_kw := has_is_name_kw (P := P) (base := base) Tx c X G 
  have h_is_listed := has_is_listed (P := P) (base := base) Tx c X G 
  have h_is_row := has_is_row (P := P) (base := base) Tx c X G h_is_listed h_is_integer
  have h_first_twice := has_first_twice (P := P) (base := base) Tx c X G 
  have h_law_pen := has_law_pen (P := P) (base := base) Tx c X G 
  have h_law_draw := has_law_draw (P := P) (base := base) Tx c X G 
  have h_law_signs := has_law_signs (P := P) (base := base) Tx c X G 
  have h_law_text := has_law_text (P := P) (base := base) Tx c X G h_law_signs h_law_draw
  have h_law_number := has_law_number (P := P) (base := base) Tx c X G h_law_draw
  have h_law_simple := has_law_simple (P := P) (base := base) Tx c X G h_law_draw h_law_number h_law_text
  have h_law_row := has_law_row (P := P) (base := base) Tx c X G h_law_number h_law_simple h_law_draw
  have h_law_plain := has_law_plain (P := P) (base := base) Tx c X G 
  have h_law_names := has_law_names (P := P) (base := base) Tx c X G 
  have h_law_one_right := has_law_one_right (P := P) (base := base) Tx c X G h_is_integer h_is_name h_is_row h_is_kind h_is_within h_law_plain h_law_names h_is_integer_kw h_is_name_kw h_is_kind_kw
  have h_law_bounds_right := has_law_bounds_right (P := P) (base := base) Tx c X G h_law_plain h_law_number h_is_within h_is_within_kw
  have h_law_twice_right := has_law_twice_right (P := P) (base := base) Tx c X G h_law_text h_law_draw h_first_twice
  exact ok_law F Tx h_law_pen h_law_row h_law_twice_right h_law_simple h_law_text h_law_one_right h_law_bounds_right
end K01
open PySem PySem.W PySem.Calls PyProof.Rows
theorem PySem.Challenge.cw_rimsewn_k01_checks_of_any_value_holds : PySem.Challenge.rw_rimsewn_k01_checks_of_any_value.Holds := by
  w_on; o_law
  refine HandSHeadRun.head_any (r := OpenLaw.row PySem.Challenge.rw_rimsewn_k01_checks_of_any_value) (q := view (OpenLaw.row PySem.Challenge.rw_rimsewn_k01_checks_of_any_value).prog [30]) (H := K01.hk) (ob := K01.ob) (M := 3000) (loose := K01.loose) (d := HandSHeadRun.topDef (OpenLaw.row PySem.Challenge.rw_rimsewn_k01_checks_of_any_value).prog 30) (kwd := []) K01.ob_eq
    (by kernel_rfl) (fun s => by kernel_rfl) K01.run (by kernel_rfl) (by kernel_rfl) (by kernel_rfl) (by rfl) (by first | assumption | decide +kernel) (by decide +kernel) ⟨rfl, rfl, rfl, rfl, rfl, by decide +kernel⟩ ?hw ?hc
  case hw => w_witness2
  case hc =>
    refine L2.walk_ofE (l := PySem.Challenge.rw_rimsewn_k01_checks_of_any_value) (n := 63) (k := K01.lawLevel) (x := "_law_script") (CX := L2.CX0) rfl (by decide) (by kernel_rfl) ⟨rfl, by decide, by decide⟩ ?F (fun _ _ _ _ z => z)
    intro w mg fa h Y G hmg0
    obtain ⟨K, KX, c⟩ := Y
    have hmg : mg ("law" : PySem.Str) = some (.ref fa) := by
      have e : (HandSHeadRun.topDef (OpenLaw.row PySem.Challenge.rw_rimsewn_k01_checks_of_any_value).prog 30).name = ("law" : PySem.Str) := by kernel_rfl
      rw [← e]
      exact hmg0
    obtain ⟨fd, hb, hF⟩ := K01.facts (P := (PySem.Challenge.rw_rimsewn_k01_checks_of_any_value).prog) (w := w) KX G hmg c
    exact ⟨K, fd, K01.spLaw K, KX, hb, fun H a ns hl _ hS => ⟨a, ns, rfl, hS, hl, fun _ => rfl⟩, hF⟩
