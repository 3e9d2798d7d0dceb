import PyProof.Rows.All
import Wide.All
import OpenK.AllK
import Wide.FinOn
import KE.KStateDown
import Lean
import HandS.ForMost
import HandS.ForExc
import HandS.Defaults
import HandS.Head0
import HandS.Head1
import HandS.Head2
import HandS.HeadEnd
import HandS.HeadHook1
import HandS.HeadHook2
import HandS.HeadHook3
import HandS.HeadHook4
import HandS.Wide
import HandS.SetKeys
import HandS.Style
import HandS.IsInst
import HandS.ExcValue
import HandS.ExcIs
import HandS.Steps
import HandS.Codes
import HandS.Walk
import HandS.Lambda
import HandS.HeadWalk
import HandS.ExcInit
import HandS.ExcField
import HandS.WordsExc
import HandS.ExcOwn
import HandS.MakeKw
import HandS.MakeKwOnly
import HandS.SortRule
import HandS.FStr
import HandS.NoneIn
import HandS.TupAny
import HandS.RaiseMore
import HandS.CallSlots
import HandS.StrMore
import HandS.AnyAll
import HandS.Conv
import HandS.HeadNt
import HandS.ClsMeth
import HandS.Text
import KE.KFmtOwn
import KE.KExcIs
import KE.KExcStr
import KE.DataMinMax
import PySem.Challenge.RW_rimsewn_k47_vectors_as_numbers_of_the_gr
set_option Elab.async false
set_option linter.all false
set_option maxRecDepth 100000
set_option maxHeartbeats 4000000
namespace Vf
open PySem PySem.Spec PyProof.Rows L2
/-! ### a def by its name -/
abbrev FnP (K : PySem.W.Frag) (x : Str) (st : Stmt) (f : Addr) (fd : FuncData) : Prop := FunD K x x (defArgs st) (defBody st) (defScope st) [] [] f fd
/-- the module's name x stands for a def that keeps the promise -/
def Has (P : Program) (w : World) (K : PySem.W.Frag) (mg : Str → Option Value) (base : Heap) (x : Str) (k : Nat) (ps : List Str) (sp : Sp) : Prop :=
  ∃ (f : Addr) (fd : FuncData), FnOk P w K mg base CX0 k f fd ps sp ∧ mg x = some (.ref f) ∧ PySem.W.keepIn K (.ref f) = true ∧ Binds K fd ps []
/-! ### what stays -/
def Kp (p : Addr) (H H' : Hp) : Prop := ∀ a o, a ≠ p → H a = some o → H' a = some o
theorem Kp.refl (p : Addr) (H : Hp) : Kp p H H := fun _ _ _ h => h
theorem Kp.trans {p : Addr} {H H1 H2 : Hp} (a : Kp p H H1) (b : Kp p H1 H2) : Kp p H H2 := fun c o n h => b c o n (a c o n h)
theorem Kp.same {p : Addr} {H H1 : Hp} (a : Same H H1) : Kp p H H1 := fun c o _ h => a c o h
theorem Kp.set {p : Addr} {H H1 : Hp} {o : HO} (a : Kp p H H1) : Kp p H (upd H1 p o) := fun c u n h => by
  rw [upd_ne n]
  exact a c u n h
theorem same_new {H : Hp} {p : Addr} {o : HO} (h : H p = none) : Same H (upd H p o) := fun b x e => by
  rw [upd_ne (ne_of_none e h)]
  exact e
theorem Kp.new {p q : Addr} {H H1 : Hp} {o : HO} (a : Kp p H H1) (h : H1 q = none) : Kp p H (upd H1 q o) := a.trans (Kp.same (same_new h))
/-- an object that was not there may change -/
theorem Kp.mut {p q : Addr} {H H1 : Hp} {o : HO} (a : Kp p H H1) (h : H q = none) : Kp p H (upd H1 q o) := fun c u n e => by
  rw [upd_ne (ne_of_none e h)]
  exact a c u n e
theorem Same.mut {q : Addr} {H H1 : Hp} {o : HO} (a : Same H H1) (h : H q = none) : Same H (upd H1 q o) := fun c u e => by
  rw [upd_ne (ne_of_none e h)]
  exact a c u e
/-! ### the pen -/
/-- the pen at p, its cells at c, with at least b draws to go -/
def PenAt (H : Hp) (p c : Addr) (b : Nat) : Prop := ∃ (ns : List Int) (n g : Int), H p = some (.lst [.ref c, .int n, .int g]) ∧ H c = some (.lst (ns.map V.int)) ∧ 0 ≤ n ∧ n + (b : Int) ≤ 1000000
theorem PenAt.less {H : Hp} {p c : Addr} {b d : Nat} (h : PenAt H p c b) (l : d ≤ b) : PenAt H p c d := by
  obtain ⟨ns, n, g, h1, h2, h3, h4⟩ := h
  exact ⟨ns, n, g, h1, h2, h3, by omega⟩
theorem ref_ints {c : Addr} {n g : Int} {ns : List Int} : [V.ref c, V.int n, V.int g] ≠ ns.map V.int := fun e => by
  cases ns with
  | nil => cases e
  | cons a r =>
    injection e with e1 _
    cases e1
theorem PenAt.same {H H' : Hp} {p c : Addr} {b : Nat} (h : PenAt H p c b) (s : Same H H') : PenAt H' p c b := by
  obtain ⟨ns, n, g, h1, h2, h3, h4⟩ := h
  exact ⟨ns, n, g, s _ _ h1, s _ _ h2, h3, h4⟩
theorem PenAt.at {H : Hp} {p c : Addr} {b : Nat} (h : PenAt H p c b) : ∃ xs, H p = some (.lst xs) := by
  obtain ⟨ns, n, g, h1, h2, h3, h4⟩ := h
  exact ⟨_, h1⟩
theorem PenAt.cells {H : Hp} {p c : Addr} {b : Nat} (h : PenAt H p c b) : ∃ xs, H c = some (.lst xs) := by
  obtain ⟨ns, n, g, h1, h2, h3, h4⟩ := h
  exact ⟨_, h2⟩
/-- another object than the pen's changes -/
theorem PenAt.mut {H : Hp} {p c q : Addr} {o : HO} {b : Nat} (h : PenAt H p c b) (hp : q ≠ p) (hc : q ≠ c) : PenAt (upd H q o) p c b := by
  obtain ⟨ns, n, g, h1, h2, h3, h4⟩ := h
  refine ⟨ns, n, g, ?_, ?_, h3, h4⟩
  · rw [upd_ne hp.symm]
    exact h1
  · rw [upd_ne hc.symm]
    exact h2
/-- what was not there is no part of the pen -/
theorem PenAt.new {H : Hp} {p c q : Addr} {b : Nat} (h : PenAt H p c b) (hq : H q = none) : q ≠ p ∧ q ≠ c := by
  obtain ⟨ns, n, g, h1, h2, h3, h4⟩ := h
  exact ⟨ne_of_none h1 hq |>.symm, ne_of_none h2 hq |>.symm⟩
def spDraw : Sp := fun vs H Q _ => ∃ (p c : Addr) (many : Int) (b : Nat), vs = [.ref p, .int many] ∧ PenAt H p c (b + 1) ∧ 0 < many ∧ many < 2 ^ 200 ∧
  ∀ (H' : Hp) (d : Int), PenAt H' p c b → Kp p H H' → 0 ≤ d → d < many → Q (.int d) H'
theorem many_div {g m : Int} (h : 0 < m) (h2 : m < 2 ^ 200) : CDivW g m := wide_div h (b := 200) (by omega) (by decide) (by decide)
/-! ### flat data -/
def fdat : V → PyData
  | .int i => .int i
  | .str x => .str x
  | .bl b => .bool b
  | _ => .none
def flatS : V → Bool
  | .int _ => true
  | .str x => PyData.strOk x
  | .bl _ => true
  | .non => true
  | _ => false
theorem dp_flat {K : PySem.W.Frag} {H : Hp} : ∀ {v : V}, flatS v = true → Dp K H v (fdat v)
  | .int i, _ => .int i
  | .str x, _ => .str x
  | .bl b, _ => .bl b
  | .non, _ => .non
theorem dpAll_flat {K : PySem.W.Frag} {H : Hp} : ∀ {xs : List V}, (∀ v ∈ xs, flatS v = true) → DpAll K H xs (xs.map fdat)
  | [], _ => .nil
  | v :: vs, h => .cons (dp_flat (h v (List.mem_cons_self ..))) (dpAll_flat fun u hu => h u (List.mem_cons_of_mem _ hu))
theorem canLay_flat : ∀ {v : V}, flatS v = true → PyData.canLay0 (fdat v) = true
  | .int i, _ => by simp only [fdat, PyData.canLay0]
  | .str x, h => by simp only [fdat, PyData.canLay0]; exact h
  | .bl b, _ => by simp only [fdat, PyData.canLay0]
  | .non, _ => by simp only [fdat, PyData.canLay0]
theorem canLayAll_flat : ∀ {xs : List V}, (∀ v ∈ xs, flatS v = true) → PyData.canLayAll0 (xs.map fdat) = true
  | [], _ => by simp only [List.map_nil, PyData.canLayAll0]
  | v :: vs, h => by
    simp only [List.map_cons, PyData.canLayAll0, Bool.and_eq_true]
    exact ⟨canLay_flat (h v (List.mem_cons_self ..)), canLayAll_flat fun u hu => h u (List.mem_cons_of_mem _ hu)⟩
theorem depth_flat (v : V) : PyData.depth (fdat v) ≤ 1 := by
  cases v <;> simp [fdat, PyData.depth]
theorem depthAll_flat : ∀ xs : List V, PyData.depthAll (xs.map fdat) ≤ 1
  | [] => by simp [PyData.depthAll]
  | v :: vs => by
    have h1 := depth_flat v
    have h2 := depthAll_flat vs
    simp only [List.map_cons, PyData.depthAll]
    omega
theorem shaped_flat {v : V} (h : flatS v = true) : SeqAt.shaped (fdat v) = true := by
  unfold SeqAt.shaped
  have h2 := depth_flat v
  rw [canLay_flat h, Bool.true_and]
  exact decide_eq_true (by omega)
theorem shaped_list {xs : List V} (h : ∀ v ∈ xs, flatS v = true) : SeqAt.shaped (.list (xs.map fdat)) = true := by
  unfold SeqAt.shaped
  have h1 := depthAll_flat xs
  have h2 : PyData.canLay0 (.list (xs.map fdat)) = true := by simp only [PyData.canLay0]; exact canLayAll_flat h
  rw [h2, Bool.true_and]
  refine decide_eq_true ?_
  simp only [PyData.depth]
  omega
theorem eqv_nil (xs : List V) : PyData.eqv (.list (xs.map fdat)) (.list []) = decide (xs = []) := by
  cases xs with
  | nil => simp [PyData.eqv, PyData.eqvAll]
  | cons a r => simp [PyData.eqv, PyData.eqvAll]
theorem flat_ints (ns : List Int) : ∀ v ∈ ns.map V.int, flatS v = true := fun v hv => by
  obtain ⟨i, _, rfl⟩ := List.mem_map.mp hv
  rfl
/-- an item at a place reckoned by a remainder -/
theorem at_mod {α : Type} {xs : List α} {n : Int} (h : xs ≠ []) : ∃ x, x ∈ xs ∧ atI xs (n % (xs.length : Int)) = some x := by
  have hl : 0 < xs.length := List.length_pos_iff.mpr h
  have h0 := Int.emod_nonneg n (b := (xs.length : Int)) (by omega)
  have h1 := Int.emod_lt_of_pos n (b := (xs.length : Int)) (by omega)
  obtain ⟨j, hj⟩ := Int.eq_ofNat_of_zero_le h0
  rw [hj] at h1 ⊢
  have hlt : j < xs.length := by omega
  exact ⟨xs[j], List.getElem_mem hlt, atI_nat (List.getElem?_eq_getElem hlt)⟩
theorem at_in {α : Type} {xs : List α} {n : Int} (h0 : 0 ≤ n) (h1 : n < (xs.length : Int)) : ∃ x, x ∈ xs ∧ atI xs n = some x := by
  obtain ⟨j, hj⟩ := Int.eq_ofNat_of_zero_le h0
  rw [hj] at h1 ⊢
  have hlt : j < xs.length := by omega
  exact ⟨xs[j], List.getElem_mem hlt, atI_nat (List.getElem?_eq_getElem hlt)⟩
end Vf
namespace Vf
open PySem PySem.Spec PyProof.Rows L2
section
variable {X : Cx}
/-- X(), an own exception class without own __init__, as a value: a new exception object -/
theorem pe_exc0 {C : Addr} {bmB : List Value} {B newId initId : String} {x : Str} {p pos : Pos} (F : ExcBaseFacts B newId initId bmB) (q : PySem.W.excIn X.K C bmB newId = true) (gC : X.mg x = some (.ref C)) (kC : PySem.W.keepIn X.K (.ref C) = true) (hg : Gl X x)
    (hdb : (x == ("__debug__" : Str)) = false := by decide) :
    PE X (.Call (.Name x p) [] [] pos) (fun σ H Q => ∀ a, H a = none → Q (.ref a) (upd H a (ExO (.ref C) a))) := by
  refine ⟨fun pins s σ H Q I h => ?_⟩
  refine wpAny_Call_Name_kw (ld_glob I hg gC ?_ hdb)
  refine PySem.W.callWith_K0 I.kIn kC ?_
  obtain ⟨bm, N, nm, qn, bs, hdct, sn, sub, ab, col, dd, k0, k1, k2, k3, k5, mN, hC, hN, hni, T⟩ := exc_obj I.kIn q
  refine wpAny_call_exc_subT F T hC hN hni (fun h' a hm => ?_) (by show 0 ≤ sizeLine; exact Nat.zero_le _)
  have hn : H a = none := I.hok.gone hm.new
  obtain ⟨t, ht, _, _⟩ := hm.there
  exact ⟨.ref a, upd H a (ExO (.ref C) a), I.laidN hm.keeps hm.new hn (exO_ok ht ⟨rfl, rfl⟩ rfl rfl rfl (show 4 < 6 by decide)), rfl, h a hn⟩
end
end Vf
namespace Vf
open PySem PySem.Spec PyProof.Rows L2
/-! ### isinstance by what a value is -/
inductive Knd where
  | int | str | bool | none | list | tuple | exc (C : Addr)
def Knd.ty : Knd → Value
  | .int => .type "int"
  | .str => .type "str"
  | .bool => .type "bool"
  | .none => .type "NoneType"
  | .list => .type "list"
  | .tuple => .type "tuple"
  | .exc C => .ref C
/-- a value is of a kind; exceptions of the class at C alone -/
def KndV (C : Addr) (H : Hp) : V → Knd → Prop
  | .int _, .int => True
  | .str _, .str => True
  | .bl _, .bool => True
  | .non, .none => True
  | .ref a, .list => ∃ xs, H a = some (.lst xs)
  | .ref a, .tuple => ∃ xs, H a = some (.tup xs)
  | .ref a, .exc D => D = C ∧ H a = some (ExO (.ref C) a)
  | _, _ => False
theorem KndV.same {C : Addr} {H H' : Hp} {v : V} {k : Knd} (h : KndV C H v k) (s : Same H H') : KndV C H' v k := by
  cases v <;> cases k <;> first | exact h | exact h.elim | skip
  · obtain ⟨xs, e⟩ := h
    exact ⟨xs, s _ _ e⟩
  · obtain ⟨xs, e⟩ := h
    exact ⟨xs, s _ _ e⟩
  · exact ⟨h.1, s _ _ h.2⟩
section
variable {X : Cx} {pins : List (Addr × Obj)} {σ : L2.St} {H : Hp} {s : Shared}
theorem knd_kit {C : Addr} {x : V} {u : Value} {k : Knd} (E : ExcC X.K C) (I : Inv X pins σ H s) (rx : RelV x u) (h : KndV C H x k) : ∃ P : Heap → Prop, PySem.W.KitX X.K u k.ty P ∧ P s.heap ∧ u ≠ .builtin "__main__.__loader__#opaque" := by
  cases x <;> cases k <;> first | exact h.elim | skip
  · exact kit_of (t := .type "NoneType") I rx (.base .non)
  · exact kit_of (t := .type "bool") I rx (.base (.bl _))
  · exact kit_of (t := .type "int") I rx (.base (.int _))
  · exact kit_of (t := .type "str") I rx (.base (.str _))
  · obtain ⟨xs, e⟩ := h
    exact kit_of (t := .type "list") I rx (.base (.lst e))
  · obtain ⟨xs, e⟩ := h
    exact kit_of (t := .type "tuple") I rx (.base (.tup e))
  · rename_i a D
    obtain ⟨rfl, e⟩ := h
    cases (show u = Value.ref a from rx)
    obtain ⟨⟨oe, vs, ho, hz, hd, _⟩, _, _⟩ := I.hok _ _ e
    have J : PySem.W.InstAt s.heap a oe D none := by
      obtain ⟨oc, od, oda, osl⟩ := oe
      obtain ⟨h1, h2⟩ := hz
      dsimp only at h1 h2 hd
      subst h1 h2 hd
      exact ⟨ho, rfl, rfl, trivial⟩
    exact ⟨_, PySem.W.handS_kitx_exc E.hg E.hk E.hs E.hd E.ha E.hn E.ht E.hm, J, fun z => nomatch z⟩
def rIsY (C : Addr) (K : PySem.W.Frag) : List V → Hp → VK → Prop := fun xs H Q => ∃ (x : V) (T : String) (k : Knd) (b : Bool), xs = [x, .ty T] ∧ KndV C H x k ∧ PySem.W.kitOne K k.ty (.type T) = some b ∧ Q (.bl b) H
theorem call_isY {C : Addr} (E : ExcC X.K C) : CallR X (.builtin "isinstance") (rIsY C X.K) := by
  intro pins s σ H xs us Q I r h
  obtain ⟨x, T, k, b, rfl, ty, e, q⟩ := h
  obtain ⟨u1, u2, rfl, r1, r2⟩ := vals2 r
  cases (show u2 = Value.type T from r2)
  obtain ⟨P, Z, p, hx⟩ := knd_kit E I r1 ty
  exact PySem.W.kia_one Z I.kIn p e hx fun tk => ⟨.bl b, H, I.tok tk, rfl, q⟩
def rIsTY (C : Addr) (K : PySem.W.Frag) : List V → Hp → VK → Prop := fun xs H Q => ∃ (x : V) (tp : Addr) (cs : List V) (k : Knd) (us : List Value) (b : Bool), xs = [x, .ref tp] ∧ H tp = some (.tup cs) ∧ Paired ClsV cs us ∧ KndV C H x k ∧ PySem.W.kitAny K k.ty us = some b ∧ Q (.bl b) H
theorem call_isTY {C : Addr} (E : ExcC X.K C) : CallR X (.builtin "isinstance") (rIsTY C X.K) := by
  intro pins s σ H xs us Q I r h
  obtain ⟨x, tp, cs, k, ws, b, rfl, hT, kk, ty, e, q⟩ := h
  obtain ⟨u1, u2, rfl, r1, r2⟩ := vals2 r
  cases (show u2 = Value.ref tp from r2)
  obtain ⟨P, Z, p, hx⟩ := knd_kit E I r1 ty
  obtain ⟨_, its, rv, o, h1, h2, n, h3⟩ := (show ObjOk X.prog X.w H s.heap tp (.tup cs) from I.hok tp _ hT)
  have e3 := ClsV.all kk rv
  subst e3
  obtain ⟨oc, od, dt, sl⟩ := o
  simp only at h2 h3
  subst h2 h3
  exact PySem.W.kia_tup Z I.kIn p h1 e hx fun tk => ⟨.bl b, H, I.tok tk, rfl, q⟩
end
end Vf
namespace Vf
open PySem PySem.Spec PyProof.Rows L2
/-! ### facts of an own error class without fields, off the head -/
def excB (K : PySem.W.Frag) (C : Addr) : Bool :=
  He.eqO (PySem.W.findIn K (.ref C) "__getattribute__") (some (some (.builtin "BaseException.__getattribute__"))) && (He.eqO (PySem.W.findIn K (.ref C) "__getattr__") (some none) && (decide (PySem.W.subIn K (.ref C) (.type "BaseException") = some true) &&
  (PySem.W.hasDictIn K C && (He.eqO (PySem.W.findIn K (.ref C) "__class__") (some (some (.builtin "object.__class__"))) && (decide (PySem.W.specialIn K (.builtin "object.__class__") "__get__" = some (some (.builtin "getset_descriptor.__get__"))) &&
  (decide (PySem.W.takesIn K (.builtin "object.__class__") = some true) && decide (PySem.W.mroIn K C (.type "object") = some true)))))))
theorem excC_of {K : PySem.W.Frag} {C : Addr} (h : excB K C = true) : ExcC K C := by
  unfold excB at h
  simp only [Bool.and_eq_true, decide_eq_true_eq] at h
  obtain ⟨h1, h2, h3, h4, h5, h6, h7, h8⟩ := h
  exact ⟨He.eqO_ok h1, He.eqO_ok h2, h3, h4, He.eqO_ok h5, h6, h7, h8⟩
def kitNo (K : PySem.W.Frag) (C : Addr) : List String → Bool
  | [] => true
  | T :: r => decide (PySem.W.kitOne K (.ref C) (.type T) = some false) && kitNo K C r
theorem kitNo_of {K : PySem.W.Frag} {C : Addr} : ∀ {l : List String}, kitNo K C l = true → ∀ T ∈ l, PySem.W.kitOne K (.ref C) (.type T) = some false
  | [], _, T, h => nomatch h
  | S :: r, h, T, hT => by
    simp only [kitNo, Bool.and_eq_true, decide_eq_true_eq] at h
    rcases List.mem_cons.mp hT with e | e
    · rw [e]
      exact h.1
    · exact kitNo_of h.2 T e
def kinds5 : List String := ["int", "str", "bool", "list", "tuple"]
def Knd.is (T : String) : Knd → Bool
  | .int => T == "int"
  | .str => T == "str"
  | .bool => T == "bool" || T == "int"
  | .list => T == "list"
  | .tuple => T == "tuple"
  | _ => false
theorem kit_is {K : PySem.W.Frag} {C : Addr} {H : Hp} {v : V} {k : Knd} (n : kitNo K C kinds5 = true) (h : KndV C H v k) {T : String} (hT : T ∈ kinds5) : PySem.W.kitOne K k.ty (.type T) = some (k.is T) := by
  cases k with
  | exc D =>
    have e : D = C := by
      cases v <;> first | exact h.1 | exact h.elim
    rw [e]
    exact kitNo_of n T hT
  | _ =>
    simp only [kinds5, List.mem_cons, List.not_mem_nil, or_false] at hT
    rcases hT with rfl | rfl | rfl | rfl | rfl <;> exact kit_ty (by decide +kernel)
theorem kit_seq {K : PySem.W.Frag} {C : Addr} {H : Hp} {v : V} {k : Knd} (n : kitNo K C kinds5 = true) (h : KndV C H v k) : PySem.W.kitAny K k.ty [.type "list", .type "tuple"] = some (k.is "list" || k.is "tuple") := by
  refine kitAny_cons (kit_is n h (by decide)) (fun e => ?_) (fun e => by rw [e]; rfl)
  rw [e, Bool.false_or]
  refine kitAny_cons (kit_is n h (by decide)) (fun e => ?_) (fun e => e)
  rw [e]
  exact kitAny_nil
end Vf
namespace Vf
open PySem PySem.Spec PyProof.Rows L2
theorem small_line {n : Nat} (h : n ≤ 100000) : n < sizeLine := Nat.lt_of_le_of_lt h (by decide)
theorem le_line {n : Nat} (h : n ≤ 100000) : n ≤ sizeLine := Nat.le_of_lt (small_line h)
/-- a comprehension over things that stand, whose tests and elements change nothing that stood -/
theorem lc_pure {J : It} {n : Nat} {G : Hp → Prop} {Y : Nat → Hp → V → Hp → Prop} (w : Walk J n G Y) (ys : List V) (hn : n = ys.length) (hl : ys.length ≤ 100000) (hY : ∀ i H x H', Y i H x H' → Same H H' ∧ ys[i]? = some x) (f : V → V) (keep : V → Bool)
    {g : TG} {tt : TT} {te : TE} {vs : List Nat} {σ : L2.St} {H1 : Hp} {D : Addr} {Qd : Hp → Prop} (nD : H1 D = none) (hG : ∀ H, Same H1 H → G H)
    (hs : ∀ (i : Nat) x H (Q1 : VK) (Q0 : Hp → Prop), ys[i]? = some x → Same H1 H → (keep x = true → ∀ H4, Same H H4 → Q1 (f x) H4) → (keep x = false → ∀ H4, Same H H4 → Q0 H4) →
      g x (wipe σ vs) H fun σ2 H2 => wipe σ2 vs = wipe σ vs ∧ tt σ2 H2 fun b H3 => if b = true then te σ2 H3 Q1 else Q0 H3)
    (hd : ∀ H, Same H1 H → H D = some (.lst ((ys.filter keep).map f)) → Qd H) :
    ∃ W : Nat → Nat → Hp → Prop, (∃ m, W 0 m (upd H1 D (.lst []))) ∧ ∀ i m H, W i m H →
      (J.stop i H ∧ Qd H) ∨ (J.go i H ∧ ∃ Nx : Hp → Prop, (∀ H', Nx H' → ∃ m', m' < m ∧ W (i + 1) m' H') ∧ ∀ x H', J.yld i H x H' → g x (wipe σ vs) H' fun σ2 H2 => wipe σ2 vs = wipe σ vs ∧ tt σ2 H2 fun b H3 =>
        if b = true then te σ2 H3 fun y H4 => ∃ acc, H4 D = some (.lst acc) ∧ acc.length < sizeLine ∧ Nx (upd H4 D (.lst (acc ++ [y]))) else Nx H3) := by
  refine lc_it w (fun i H => Same H1 H ∧ H D = some (.lst (((ys.take i).filter keep).map f))) ⟨same_new nD, upd_same⟩ (fun i H _ p => hG H p.1) (fun i x H H' hi p y => ?_) (fun H p => ?_)
  · obtain ⟨s, hx⟩ := hY i H x H' y
    have hD := s _ _ p.2
    have et : ys.take (i + 1) = ys.take i ++ [x] := by rw [List.take_add_one, hx] <;> rfl
    refine hs i x H' _ _ hx (p.1.trans s) (fun k H4 s4 => ?_) (fun k H4 s4 => ?_)
    · refine ⟨_, s4 _ _ hD, ?_, ?_, ?_⟩
      · rw [List.length_map]
        refine small_line (Nat.le_trans (List.length_filter_le _ _) ?_)
        rw [List.length_take]
        omega
      · exact Same.mut ((p.1.trans s).trans s4) nD
      · rw [upd_same, et, List.filter_append, List.map_append]
        simp [k]
    · refine ⟨(p.1.trans s).trans s4, ?_⟩
      rw [s4 _ _ hD, et, List.filter_append, List.map_append]
      simp [k]
  · refine hd H p.1 ?_
    rw [p.2, hn, List.take_length]
def sgs (z : Str) : List V := z.cps.toList.map fun c => .str ⟨#[c]⟩
theorem sgs_len (z : Str) : (sgs z).length = z.cps.size := by unfold sgs; simp
theorem walk_sgs {z : Str} : Walk (Its z) z.cps.size (fun _ => True) (fun i H x H' => H' = H ∧ (sgs z)[i]? = some x) :=
  walk_str.mono (fun _ h => h) fun i H x H' _ _ y => ⟨y.1, by
    obtain ⟨_, c, hc, rfl⟩ := y
    unfold sgs
    rw [List.getElem?_map, show z.cps.toList[i]? = some c by rw [Array.getElem?_toList]; exact hc] <;> rfl⟩
theorem same_of_eq {H H' : Hp} (h : H' = H) : Same H H' := by
  rw [h]
  exact Same.refl H
end Vf
namespace Vf
open PySem PySem.Spec PyProof.Rows L2
/-! ### texts of a bounded length -/
def TxB (z : Str) (n : Nat) : Prop := z.length ≤ n ∧ PyData.strOk z = true
theorem TxB.le {z : Str} {m n : Nat} (h : TxB z m) (l : m ≤ n) : TxB z n := ⟨Nat.le_trans h.1 l, h.2⟩
theorem strOk_iff {z : Str} : PyData.strOk z = true ↔ ∀ c ∈ z.cps.toList, c < 0x110000 := by
  unfold PyData.strOk
  rw [← Array.all_toList, List.all_eq_true]
  simp
theorem app_len (x y : Str) : (x ++ y).length = x.length + y.length := by
  show (x.cps ++ y.cps).size = _
  rw [Array.size_append]
  rfl
theorem app_cps (x y : Str) : (x ++ y).cps.toList = x.cps.toList ++ y.cps.toList := by
  show (x.cps ++ y.cps).toList = _
  rw [Array.toList_append]
theorem TxB.app {x y : Str} {m n : Nat} (h : TxB x m) (g : TxB y n) : TxB (x ++ y) (m + n) := by
  refine ⟨by rw [app_len]; exact Nat.add_le_add h.1 g.1, strOk_iff.mpr fun c hc => ?_⟩
  rw [app_cps] at hc
  rcases List.mem_append.mp hc with e | e
  · exact strOk_iff.mp h.2 c e
  · exact strOk_iff.mp g.2 c e
theorem TxB.sign {x : Str} {m : Nat} {c : Nat} (h : TxB x m) (hc : c ∈ x.cps.toList) : TxB ⟨#[c]⟩ 1 :=
  ⟨Nat.le_refl _, strOk_iff.mpr fun d hd => by
    have e : d = c := by simpa using hd
    rw [e]
    exact strOk_iff.mp h.2 c hc⟩
theorem TxB.cut {x : Str} {m : Nat} (h : TxB x m) (lo hi : Option Int) : TxB (cutS x lo hi) m := by
  refine ⟨Nat.le_trans (cutS_length x lo hi) h.1, strOk_iff.mpr fun c hc => ?_⟩
  unfold cutS at hc
  exact strOk_iff.mp h.2 c (List.mem_of_mem_drop (List.mem_of_mem_take (by simpa using hc)))
theorem TxB.lit {z : Str} (n : Nat) (h : (decide (z.length ≤ n) && PyData.strOk z) = true) : TxB z n := by
  simp only [Bool.and_eq_true, decide_eq_true_eq] at h
  exact h
theorem TxB.line {z : Str} {n : Nat} (h : TxB z n) (l : n ≤ 100000) : z.length ≤ sizeLine := le_line (Nat.le_trans h.1 l)
/-- a sign of a text at a drawn place -/
theorem TxB.at {z : Str} {n : Nat} {d : Int} (h : TxB z n) (h0 : 0 ≤ d) (h1 : d < (z.length : Int)) : ∃ c, atI z.cps.toList d = some c ∧ TxB ⟨#[c]⟩ 1 := by
  have e : z.length = z.cps.toList.length := by simp [Str.length]
  obtain ⟨c, hc, hat⟩ := at_in (xs := z.cps.toList) h0 (by omega)
  exact ⟨c, hat, h.sign hc⟩
/-- the text that a def of one return gives back -/
def retStr (st : Stmt) : Str := match defBody st with
  | [.Return (some (.Constant (.str x) _ _)) _] => x
  | _ => Str.empty
section
variable {X : Cx}
/-- text * number -/
def rRepS : V → V → Hp → VK → Prop := fun x y H Q => ∃ z k, x = .str z ∧ y = .int k ∧ z.length ≤ 1000 ∧ 0 ≤ k ∧ k ≤ 1000 ∧ Q (.str (Txt.mul z k)) H
theorem op_rep_str : OpR X (binaryOp .Mult) rRepS := by
  intro pins s σ H x y u v Q I rx ry h
  obtain ⟨z, k, rfl, rfl, hz, h0, h1, q⟩ := h
  obtain ⟨t, rfl⟩ := rx
  obtain ⟨t', rfl⟩ := ry
  exact SB.mul (mulOk_of 1000 1000 hz (by omega) (by omega) (by decide) (by decide)) fun t2 k2 => ⟨.str (Txt.mul z k), H, I.tok k2, ⟨t2, rfl⟩, q⟩
end
end Vf
namespace Vf
open PySem PySem.Spec PyProof.Rows L2
section
variable {X : Cx}
/-- a list == [], whatever its items are -/
def rEqNil (K : PySem.W.Frag) : V → V → Hp → VK → Prop := fun x y H Q => ∃ a b xs, x = .ref a ∧ y = .ref b ∧ SqL K H a xs ∧ SqL K H b [] ∧ Q (.bl (decide (xs = []))) H
theorem op_eqNil (hu : X.A.units < cLine) : OpR X (compareOp .Eq) (rEqNil X.K) := by
  intro pins s σ H x y v u Q I rx ry h
  obtain ⟨a, b, xs, rfl, rfl, ha, hb, q⟩ := h
  cases (show v = Value.ref a from rx)
  cases (show u = Value.ref b from ry)
  obtain ⟨its, rv, hl, _⟩ := I.list ha
  obtain ⟨its2, rv2, hl2, _⟩ := I.list hb
  cases rv2
  cases xs with
  | nil =>
    cases rv
    exact SeqAt.eq_listAt (e := fun _ => true) hl.isList hl2.isList rfl hu (fun j h1 => by simp at h1) ⟨.bl true, H, I, rfl, q⟩
  | cons z r =>
    cases rv
    exact SeqAt.eq_list_lengthsAt hl.isList hl2.isList (by simp) hu ⟨.bl false, H, I, rfl, q⟩
end
end Vf
namespace Vf
open PySem PySem.Spec PyProof.Rows L2
/-! ### f(k = v, ..) -/
section
variable {X : Cx} {CX : CXT} {k : Nat} {f : Addr} {fd : FuncData} {ps ks : List Str} {sp : Sp} {E : XK} {x : Str} {p pos : Pos} {kws : List Keyword} {tk : TA} {g : List Value → List Value → List Value} {gV : List V → List V → List V}
theorem pe_callK0 (F : FnOk X.prog X.w X.K X.mg X.base CX k f fd ps sp) (hr : Room k X.A) (hg : Gl X x) (hm : X.mg x = some (.ref f)) (hk : PySem.W.keepIn X.K (.ref f) = true) (hb : KBn X.K fd ps 0 ks g gV) (hx : Passes CX X E)
    (hkw : PK X kws tk) (hall : (backToKw pos (keywordEach kws X.env)).all (·.1.isSome) = true := by rfl) (hks : (backToKw pos (keywordEach kws X.env)).filterMap (·.1) = ks := by rfl)
    (hdb : (x == ("__debug__" : Str)) = false := by decide) (hpl : ((backTo pos (starEach [] X.env)).any (·.1) || (backToKw pos (keywordEach kws X.env)).any (·.1.isNone)) = false := by rfl) :
    PE X (.Call (.Name x p) [] kws pos) (tCallN 0 ks.length sp gV E tNil tk) := by
  refine ⟨fun pins s σ H Q I h => ?_⟩
  refine wpAny_Call_Name_kw (ld_glob I hg hm ?_ hdb)
  refine PySem.W.callWith_KW0 (h₀ := X.base) I.ok.mod.kin hk hall ?_ hpl
  refine thn (hkw.run pos pins s σ H _ I h) fun ws s2 ⟨zs, H2, I2, rz, l1, l2, q2⟩ => ⟨I2.kIn, ?_⟩
  rw [hks]
  exact run_fnN (us := []) (vs := []) F hr hb hx I2 .nil rz rfl l2 q2
end
/-- the module's name x stands for a def that keeps the promise, called by keywords alone -/
def HasK (P : Program) (w : World) (K : PySem.W.Frag) (mg : Str → Option Value) (base : Heap) (x : Str) (k : Nat) (ps ks : List Str) (gV : List V → List V → List V) (sp : Sp) : Prop :=
  ∃ (f : Addr) (fd : FuncData) (g : List Value → List Value → List Value), FnOk P w K mg base CX0 k f fd ps sp ∧ mg x = some (.ref f) ∧ PySem.W.keepIn K (.ref f) = true ∧ KBn K fd ps 0 ks g gV
theorem kbn_of {K : PySem.W.Frag} {x qual : Str} {params : Arguments} {body : List Stmt} {scope : Scope} {f : Addr} {fd : FuncData} {ps ks : List Str} {g : List Value → List Value → List Value} {gV : List V → List V → List V} (F : FunD K x qual params body scope [] [] f fd)
    (h : ∀ (kV doc pm : Value) (an : Option Addr) (cdv ct : Value) (ws : List Value), ws.length = ks.length → bindArgs (PySem.W.fnOf x qual params body scope .none kV doc pm an cdv ct) ⟨[], ks.zip ws⟩ = pure (ps.zip (g [] ws)))
    (rel : ∀ {vs : List V} {us : List Value} {zs : List V} {ws : List Value}, Vals vs us → Vals zs ws → Vals (gV vs zs) (g us ws)) : KBn K fd ps 0 ks g gV := by
  obtain ⟨oc, od, dV, kV, doc, pm, an, cdv, ct, osl, rfl, lk, hcd, hD, hK⟩ := F.ex
  rcases hD with ⟨_, rfl⟩ | ⟨e, _⟩
  · refine ⟨fun s us ws _ l1 l2 => ?_, rel⟩
    cases us with
    | nil => exact .of_eq (h kV doc pm an cdv ct ws l2)
    | cons a r => cases l1
  · exact absurd rfl e
/-- one keyword -/
def gv1 : List V → List V → List V := fun _ zs => zs
/-- three keywords: the last parameter, then the first, then the second -/
def gv3 : List V → List V → List V := fun _ zs => match zs with
  | [m, v, l] => [v, l, m]
  | _ => []
def gu3 : List Value → List Value → List Value := fun _ zs => match zs with
  | [m, v, l] => [v, l, m]
  | _ => []
theorem gv3_rel {vs : List V} {us : List Value} {zs : List V} {ws : List Value} (_ : Vals vs us) (h : Vals zs ws) : Vals (gv3 vs zs) (gu3 us ws) := by
  cases h with
  | nil => exact .nil
  | cons r1 h =>
    cases h with
    | nil => exact .nil
    | cons r2 h =>
      cases h with
      | nil => exact .nil
      | cons r3 h =>
        cases h with
        | nil => exact .cons r2 (.cons r3 (.cons r1 .nil))
        | cons r4 h => exact .nil
end Vf
namespace Vf
open PySem PySem.Spec PyProof.Rows L2
/-! ### own error classes with fields -/
def oexB (K : PySem.W.Frag) (C : Addr) : Bool := (match K.lookup C with
  | some ⟨.type "type", _, .cls cd, sl⟩ => (match cd.mro, sl.toList with
    | .ref C' :: bm, [_, _, _, _, some (.builtin n), _] => C' == C && (n == "ValueError.__new__" && (!cd.hasDel && (cd.hasDict && PySem.HandSPX.refsVE bm)))
    | _, _ => false)
  | _ => false) && (He.eqO (PySem.W.findIn K (.ref C) "__setattr__") (some (some (.builtin "object.__setattr__"))) && (decide (PySem.W.subIn K (.ref C) (.type "BaseException") = some true) && (decide (PySem.W.typeIn K (.ref C) = some (.type "type")) && PySem.W.keepIn K (.ref C))))
theorem oexC_of {K : PySem.W.Frag} {C : Addr} (h : oexB K C = true) : OexC K C := by
  unfold oexB at h
  obtain ⟨q, h⟩ := He.ba h
  obtain ⟨h1, h⟩ := He.ba h
  obtain ⟨h2, h⟩ := He.ba h
  obtain ⟨h3, h4⟩ := He.ba h
  refine ⟨?_, He.eqO_ok h1, of_decide_eq_true h2, of_decide_eq_true h3, h4⟩
  split at q
  · rename_i dd cd sl ho
    split at q
    · rename_i C' bm k0 k1 k2 k3 n k5 hm hs
      simp only [Bool.and_eq_true, beq_iff_eq, Bool.not_eq_true'] at q
      obtain ⟨e1, e2, hdel, hdct, ht⟩ := q
      subst e1 e2
      obtain ⟨nm, bs, mro, ns, qn, hd, sn, sub, ab, col, del⟩ := cd
      dsimp only at hm hdel hdct
      subst hm hdel hdct
      have hsl : sl = #[k0, k1, k2, k3, some (.builtin "ValueError.__new__"), k5] := by
        obtain ⟨l⟩ := sl
        simp only at hs
        rw [hs]
      subst hsl
      exact ⟨nm, qn, ns, bs, bm, sn, sub, ab, col, dd, k0, k1, k2, k3, k5, ho, ht⟩
    · cases q
  · cases q
/-- an own error class x, its own __init__, the fields fs: none of them is an attribute of the class -/
structure ErrC (K : PySem.W.Frag) (x : Str) (fs : List Str) : Prop where
  oex : OexC K (He.ga K x)
  exc : ExcC K (He.ga K x)
  ini : PySem.W.findIn K (.ref (He.ga K x)) "__init__" = some (some (.ref (He.ma K (He.ga K x) "__init__")))
  fn : PySem.W.typeIn K (.ref (He.ma K (He.ga K x) "__init__")) = some (.type "function")
  no : ∀ f ∈ fs, PySem.W.findIn K (.ref (He.ga K x)) f = some none
def errB (K : PySem.W.Frag) (x : Str) (fs : List Str) : Bool := oexB K (He.ga K x) && (excB K (He.ga K x) && (He.eqO (PySem.W.findIn K (.ref (He.ga K x)) "__init__") (some (some (.ref (He.ma K (He.ga K x) "__init__")))) &&
  (decide (PySem.W.typeIn K (.ref (He.ma K (He.ga K x) "__init__")) = some (.type "function")) && fs.all fun f => He.eqO (PySem.W.findIn K (.ref (He.ga K x)) f) (some none))))
theorem errC_of {K : PySem.W.Frag} {x : Str} {fs : List Str} (h : errB K x fs = true) : ErrC K x fs := by
  unfold errB at h
  obtain ⟨h1, h⟩ := He.ba h
  obtain ⟨h2, h⟩ := He.ba h
  obtain ⟨h3, h⟩ := He.ba h
  obtain ⟨h4, h5⟩ := He.ba h
  exact ⟨oexC_of h1, excC_of h2, He.eqO_ok h3, of_decide_eq_true h4, fun f hf => He.eqO_ok (List.all_eq_true.mp h5 f hf)⟩
theorem ErrC.xf {K : PySem.W.Frag} {x : Str} {fs : List Str} (h : ErrC K x fs) : XfC K (He.ga K x) := ⟨h.exc.hg, h.exc.hk, h.exc.hs, h.exc.hd⟩
/-- isinstance's answers -/
def kitsB (K : PySem.W.Frag) (x : Str) (ys : List (Str × Bool)) : Bool := decide (PySem.W.kitOne K (.ref (He.ga K x)) (.type "ValueError") = some true) && ys.all fun y => decide (PySem.W.kitOne K (.ref (He.ga K x)) (.ref (He.ga K y.1)) = some y.2)
structure Kits (K : PySem.W.Frag) (x : Str) (ys : List (Str × Bool)) : Prop where
  ve : PySem.W.kitOne K (.ref (He.ga K x)) (.type "ValueError") = some true
  own : ∀ y ∈ ys, PySem.W.kitOne K (.ref (He.ga K x)) (.ref (He.ga K y.1)) = some y.2
theorem kits_of {K : PySem.W.Frag} {x : Str} {ys : List (Str × Bool)} (h : kitsB K x ys = true) : Kits K x ys := by
  unfold kitsB at h
  obtain ⟨h1, h2⟩ := He.ba h
  exact ⟨of_decide_eq_true h1, fun y hy => of_decide_eq_true (List.all_eq_true.mp h2 y hy)⟩
/-! ### raising them -/
/-- the wish of an exception of the class at C with the fields fs, told from H -/
def Rz (E : XK) (C : Addr) (fs : List (Str × V)) (H : Hp) : Prop := ∀ H' d, Same H H' → H d = none → H' d = some (.xd fs) → E (.ref C) (some d) H'
theorem Rz.same {E : XK} {C : Addr} {fs : List (Str × V)} {H H1 : Hp} (h : Rz E C fs H) (s : Same H H1) : Rz E C fs H1 := fun H' d s2 n e => by
  refine h H' d (s.trans s2) ?_ e
  cases q : H d with
  | none => rfl
  | some o =>
    rw [s _ _ q] at n
    cases n
/-- def __init__(self, f): self.f = f -/
def spI1 (K : PySem.W.Frag) (f : Str) : Sp := fun vs H Q _ => ∃ (a C : Addr) (v : V), vs = [.ref a, v] ∧ OexC K C ∧ PySem.W.findIn K (.ref C) f = some none ∧ H a = some (exo a C none) ∧
  ∀ dx, H dx = none → dx ≠ a → Q .non (upd (upd H dx (exd dx [(f, v)])) a (exo a C (some dx)))
/-- .. of two fields -/
def spI2 (K : PySem.W.Frag) (f g : Str) : Sp := fun vs H Q _ => ∃ (a C : Addr) (v u : V), vs = [.ref a, v, u] ∧ OexC K C ∧ PySem.W.findIn K (.ref C) f = some none ∧ PySem.W.findIn K (.ref C) g = some none ∧ H a = some (exo a C none) ∧
  ∀ dx, H dx = none → dx ≠ a → Q .non (upd (upd (upd H dx (exd dx [(f, v)])) a (exo a C (some dx))) dx (exd dx [(g, u), (f, v)]))
theorem same_exc {H : Hp} {a d : Addr} {o : HO} (ha : H a = none) (hd : H d = none) {H2 : Hp} (h2 : ∀ b, b ≠ a → b ≠ d → H2 b = H b) : Same H (upd (L2.del H2 a) d o) := fun b u e => by
  have n1 := ne_of_none e ha
  have n2 := ne_of_none e hd
  rw [upd_ne n2, del_ne n1, h2 b n1 n2]
  exact e
theorem mk1 {K : PySem.W.Frag} {C : Addr} {f : Str} {v : V} {H : Hp} {E : XK} (T : OexC K C) (no : PySem.W.findIn K (.ref C) f = some none) (r : Rz E C [(f, v)] H) :
    ([v].length ≤ 1000 ∧ ∀ a, H a = none → spI1 K f (.ref a :: ([v] ++ [])) (upd H a (exo a C none))
      (fun v H2 => v = .non ∧ ∃ (d : Addr) (fs : List (Str × V)), H2 a = some (exo a C (some d)) ∧ H2 d = some (exd d fs) ∧ H d = none ∧ E (.ref C) (some d) (upd (L2.del H2 a) d (.xd fs))) (fun _ _ _ => False)) := by
  refine ⟨(show 1 ≤ 1000 by decide), fun a na => ⟨a, C, v, rfl, T, no, upd_same, fun dx nd nda => ?_⟩⟩
  have nd' : H dx = none := by
    rw [upd_ne nda] at nd
    exact nd
  refine ⟨rfl, dx, [(f, v)], upd_same, by rw [upd_ne nda, upd_same], nd', ?_⟩
  exact r _ dx (same_exc na nd' fun b n1 n2 => by rw [upd_ne n1, upd_ne n2, upd_ne n1]) nd' upd_same
theorem mk2 {K : PySem.W.Frag} {C : Addr} {f g : Str} {v u : V} {H : Hp} {E : XK} (T : OexC K C) (no : PySem.W.findIn K (.ref C) f = some none) (no2 : PySem.W.findIn K (.ref C) g = some none) (r : Rz E C [(g, u), (f, v)] H) :
    ([v, u].length ≤ 1000 ∧ ∀ a, H a = none → spI2 K f g (.ref a :: ([v, u] ++ [])) (upd H a (exo a C none))
      (fun v H2 => v = .non ∧ ∃ (d : Addr) (fs : List (Str × V)), H2 a = some (exo a C (some d)) ∧ H2 d = some (exd d fs) ∧ H d = none ∧ E (.ref C) (some d) (upd (L2.del H2 a) d (.xd fs))) (fun _ _ _ => False)) := by
  refine ⟨(show 2 ≤ 1000 by decide), fun a na => ⟨a, C, v, u, rfl, T, no, no2, upd_same, fun dx nd nda => ?_⟩⟩
  have nd' : H dx = none := by
    rw [upd_ne nda] at nd
    exact nd
  refine ⟨rfl, dx, [(g, u), (f, v)], by rw [upd_ne nda.symm, upd_same], upd_same, nd', ?_⟩
  exact r _ dx (same_exc na nd' fun b n1 n2 => by rw [upd_ne n2, upd_ne n1, upd_ne n2, upd_ne n1]) nd' upd_same
/-- what a def that may raise lets out, in a def that may raise -/
theorem passE {X : Cx} {E : XK} (hs : X.stack = X.env :: X.outer) (hf : X.env.frame = some X.env.locals) (hex : X.ex = []) {E₁ : Value → Shared → Prop} (hx : X.xe = fun e s' => wpAny (model X.prog X.w) X.A (leaving X.env e) (fun _ s'' => L2.CX X.prog X.w X.outer X.H_0 X.s_0 E e s'') E₁ s') : Passes (L2.CX X.prog X.w) X E :=
  passes_call (takes_of hs hf hex hx) fun _ _ _ _ h => h
theorem takes_no {X : Cx} : Takes X (fun _ _ _ _ => False) := fun _ _ x => by
  obtain ⟨_, _, _, _, _, _, _, _, _, _, _, _, _, _, _, _, z⟩ := x
  exact z.elim
/-- .. in a def that lets nothing out -/
theorem passN {X : Cx} : Passes (L2.CX X.prog X.w) X (fun _ _ _ => False) := passes_call takes_no fun _ _ _ _ h => h
/-- a def that may raise, by its name -/
def HasX (P : Program) (w : World) (K : PySem.W.Frag) (mg : Str → Option Value) (base : Heap) (x : Str) (k : Nat) (ps : List Str) (sp : Sp) : Prop :=
  ∃ (f : Addr) (fd : FuncData), FnOk P w K mg base (L2.CX P w) k f fd ps sp ∧ mg x = some (.ref f) ∧ PySem.W.keepIn K (.ref f) = true ∧ Binds K fd ps []
end Vf
open PySem
namespace Vf
open PySem PySem.Spec PyProof.Rows L2
/-! ### exceptions that are held as values -/
/-- at a: an exception that was caught, of the class at C, its dict d -/
def exv (a C : Addr) (d : Option Addr) : HO := .ext fun h => ∃ (o : Obj) (vs : Array Value), h.get? a = some o ∧ o.cls = .ref C ∧ o.dict = d ∧ o.data = .fields vs
theorem exv_ok {P : Program} {w : World} {H : Hp} {h : Heap} {a C : Addr} {d : Option Addr} {o : Obj} {vs : Array Value} (e : h.get? a = some o) (c : o.cls = .ref C) (dd : o.dict = d) (v : o.data = .fields vs) : ObjOk P w H h a (exv a C d) :=
  ⟨⟨o, vs, e, c, dd, v⟩, ⟨o, e⟩, fun _ _ ⟨o', ws, e', r⟩ k => ⟨o', ws, k _ e', r⟩⟩
/-- at a stands an exception of the class at C with these fields; none: without a dict -/
inductive ExcAt (H : Hp) (a C : Addr) : Option (List (Str × V)) → Prop where
  | made (d : Addr) (fs : List (Str × V)) (e : H a = some (exo a C (some d))) (f : H d = some (exd d fs)) : ExcAt H a C (some fs)
  | caught (d : Addr) (fs : List (Str × V)) (e : H a = some (exv a C (some d))) (f : H d = some (.xd fs)) : ExcAt H a C (some fs)
  | bare (e : H a = some (ExO (.ref C) a)) : ExcAt H a C none
theorem ExcAt.same {H H' : Hp} {a C : Addr} {fs : Option (List (Str × V))} (x : ExcAt H a C fs) (s : Same H H') : ExcAt H' a C fs := by
  cases x with
  | made d fs e f => exact .made d fs (s _ _ e) (s _ _ f)
  | caught d fs e f => exact .caught d fs (s _ _ e) (s _ _ f)
  | bare e => exact .bare (s _ _ e)
/-- the object and, if it has one, its dict -/
theorem ExcAt.read {P : Program} {w : World} {H : Hp} {h : Heap} {a C : Addr} {fs : Option (List (Str × V))} (k : HOk P w H h) (x : ExcAt H a C fs) : ∃ (oe : Obj) (od : Option Obj), PySem.W.InstAt h a oe C od ∧
    ∀ g, fs = some g → ∃ (o : Obj) (mA : Str → Option Value), od = some o ∧ (∀ n, PySem.W.lookIn n o = some (mA n)) ∧ ∀ n, RelO (g.lookup n) (mA n) := by
  cases x with
  | made d fs e f =>
    obtain ⟨t, hx⟩ := exo_at k e
    obtain ⟨mA, hn, hr⟩ := exd_at k f
    obtain ⟨o, ho, hl⟩ := lookIn_ns hn
    exact ⟨_, some o, ⟨hx, rfl, rfl, ho⟩, fun g z => ⟨o, mA, rfl, hl, by cases z; exact hr⟩⟩
  | caught d fs e f =>
    obtain ⟨⟨oe, vs, hx, hc, hd, hv⟩, _, _⟩ := (show ObjOk P w H h a (exv a C (some d)) from k _ _ e)
    obtain ⟨mA, hn, hr⟩ := (show ObjOk P w H h d (.xd fs) from k _ _ f)
    obtain ⟨o, ho, hl⟩ := lookIn_ns hn
    exact ⟨oe, some o, ⟨hx, hc, by unfold PySem.W.notCls; rw [hv] <;> rfl, by rw [hd]; exact ho⟩, fun g z => ⟨o, mA, rfl, hl, by cases z; exact hr⟩⟩
  | bare e =>
    obtain ⟨⟨oe, vs, hx, ⟨hc, hd⟩, hv, _⟩, _, _⟩ := (show ObjOk P w H h a (ExO (.ref C) a) from k _ _ e)
    exact ⟨oe, none, ⟨hx, hc, by unfold PySem.W.notCls; rw [hv] <;> rfl, by rw [hd]; exact True.intro⟩, fun g z => by cases z⟩
section
variable {X : Cx}
/-- e.f, e an exception -/
def tEf (K : PySem.W.Frag) (f : Str) (te : TE) : TE := fun σ H Q => te σ H fun x H1 => ∃ (a C : Addr) (fs : List (Str × V)) (v : V), x = .ref a ∧ ExcAt H1 a C (some fs) ∧ XfC K C ∧ PySem.W.findIn K (.ref C) f = some none ∧ fs.lookup f = some v ∧ Q v H1
theorem pe_ef {e : Expr} {te : TE} {f : Str} {pos : Pos} (he : PE X e te) (hb : attributeBase e f X.env (eval e X.env) = eval e X.env := by rfl) : PE X (.Attribute e f pos) (tEf X.K f te) :=
  ⟨fun pins s σ H Q I h => attr_of hb (thn (he.run pins s σ H _ I h) fun u s1 ⟨x, H1, I1, rx, a, C, fs, v, ex, hx, T, no, l, q⟩ => by
    subst ex
    cases (show u = Value.ref a from rx)
    obtain ⟨oe, od, J, hd⟩ := hx.read I1.hok
    obtain ⟨o, mA, rfl, hl, hr⟩ := hd fs rfl
    obtain ⟨y, hy, ry⟩ := RelO.some_of (v := v) (o := mA f) (l ▸ hr f)
    exact HandSPX.exc_get I1.kIn J T.ga T.gg T.exC (PySem.W.findObj_own T.hdC no rfl ((hl f).trans (congrArg some hy))) (handed_of ry) ⟨v, H1, I1.tok _, ry, q⟩)⟩
theorem kit_exc {K : PySem.W.Frag} {a D : Addr} {oe : Obj} {od : Option Obj} (C : ExcC K D) : PySem.W.KitX K (.ref a) (.ref D) fun h => PySem.W.InstAt h a oe D od := by
  refine PySem.W.kitx_exc ?_ C.hg C.hk C.hs C.ha C.hn C.ht C.hm
  obtain ⟨cd, hc, _⟩ := PySem.W.any_some C.hd
  rw [hc] <;> rfl
/-- isinstance(e, c), e an exception -/
def rIsV (K : PySem.W.Frag) : List V → Hp → VK → Prop := fun xs H Q => ∃ (a D : Addr) (fs : Option (List (Str × V))) (c : V) (u : Value) (b : Bool), xs = [.ref a, c] ∧ ExcAt H a D fs ∧ ExcC K D ∧ ClsV c u ∧ PySem.W.kitOne K (.ref D) u = some b ∧ Q (.bl b) H
theorem call_isV : CallR X (.builtin "isinstance") (rIsV X.K) := by
  intro pins s σ H xs us Q I r h
  obtain ⟨a, D, fs, c, u, b, rfl, hx, C, k, e, q⟩ := h
  obtain ⟨u1, u2, rfl, r1, r2⟩ := vals2 r
  have e3 := k.eq r2
  subst e3
  cases (show u1 = Value.ref a from r1)
  obtain ⟨oe, od, J, _⟩ := hx.read I.hok
  exact PySem.W.kia_one (kit_exc C) I.kIn J e (fun z => nomatch z) fun tk => ⟨.bl b, H, I.tok tk, rfl, q⟩
end
end Vf
namespace Vf
open PySem PySem.Spec PyProof.Rows L2
/-! ### C(..), C(k = v, ..) of an own exception class, as a value -/
section
variable {M : Model} {A : Around} {E : Value → Shared → Prop} {hp : Heap} {ge : Array GenState} {dr : Drawn} {tk : Nat} {os : OsState}
variable {nm q : Str} {C N : Addr} {bs bm bmB : List Value} {hdct : Bool} {sn : List Str} {sub : List Value} {ab : Bool} {col : Option Bool} {dd : Option Addr} {k0 k1 k2 k3 k5 : Option Value} {B newId initId : String}
theorem newCheck_kw (F : ExcBaseFacts B newId initId bmB) (hT : ∀ x : String, bm.contains (.type x) = bmB.contains (.type x)) {rest : List Value} {kw : List (Str × Value)} {Q : Unit → Shared → Prop}
    (hC : hp.get? C = some (excClassObj nm q C N bs bm hdct sn sub ab col dd k0 k1 k2 k3 k5 newId)) (z : Q () ⟨hp, ge, dr, tk, os⟩) : wpAny M A (checkBuiltinCall newId ⟨.ref C :: rest, kw⟩) Q E ⟨hp, ge, dr, tk, os⟩ := by
  have c1 : (Value.ref C :: bm).contains (.type B) = true := by
    rw [List.contains_cons, hT, F.hasB] <;> simp
  have c2 := F.noStar
  simp only [checkBuiltinCall, F.newKind, F.newSplit, F.newRow]
  repeat (first
    | refine wpAny_loadPart_at hC ?_
    | (refine wpAny_isSubtype_exc hC ?_; rw [c1])
    | refine wpAny_staticBase_exc hC ?_
    | refine wpAny_madeBy_exc hC ?_
    | simp only [bne_self_eq_false, Bool.false_eq_true, if_false]
    | wp_step)
  exact z
end
section
variable {pg : Program} {wd : World} {A : Around} {E : Value → Shared → Prop} {R : Result → Shared → Prop} {hp : Heap} {ge : Array GenState} {dr : Drawn} {tk : Nat} {os : OsState}
variable {nm q : Str} {C N : Addr} {bs bm bmB : List Value} {hdct : Bool} {sn : List Str} {sub : List Value} {ab : Bool} {col : Option Bool} {dd : Option Addr} {k0 k1 k2 k3 k5 : Option Value} {B newId initId : String}
/-- the exception object that is made, its (empty) tuple of arguments -/
abbrev exoOf (C t : Addr) : Obj := PySem.HandSPX.excO C t
theorem newMade_kw (F : ExcBaseFacts B newId initId bmB) (hT : ∀ x : String, bm.contains (.type x) = bmB.contains (.type x)) {kw : List (Str × Value)}
    (hC : hp.get? C = some (excClassObj nm q C N bs bm hdct sn sub ab col dd k0 k1 k2 k3 k5 newId))
    (z : R (.ok (.ret (.ref (hp.objs.size + 1)))) ⟨(hp.push (PySem.W.kdv_tup [])).push (exoOf C hp.objs.size), ge, dr, tk, os⟩) :
    codeAny (model pg wd) A (.builtin newId ⟨[.ref C], kw⟩) R ⟨hp, ge, dr, tk, os⟩ := by
  have e0 := F.ends
  have c1 : (Value.ref C :: bm).contains (.type B) = true := by
    rw [List.contains_cons, hT, F.hasB] <;> simp
  have c2 : (Value.ref C :: bm).contains (.type "AttributeError") = false := by
    rw [List.contains_cons, hT, F.noAttr] <;> rfl
  have c3 : (Value.ref C :: bm).contains (.type "NameError") = false := by
    rw [List.contains_cons, hT, F.noName] <;> rfl
  refine codeAny_builtinAt F.entry ?_
  unfold Builtin.«BaseException.__new__»
  refine PySem.wpAt_bind ?_
  show PySem.wpAt _ _ _ (stack >>= _) _ _ _
  refine PySem.wpAt_bind (PySem.wpAt_stack fun _ _ => PySem.wpAt_of_wpAny ?_)
  wp_walk
  refine PySem.wpAt_of_wpAny ?_
  rw [F.owner]
  repeat (first
    | with_reducible refine wpAny_madeHere_exc F.canon hC ?_
    | with_reducible refine wpAny_loadPart_at hC ?_
    | (with_reducible refine wpAny_isSubtype_exc hC ?_
       first | rw [c1] | rw [c2] | rw [c3])
    | wp_step)
  show R _ _
  rw [Heap.size_push]
  exact z
theorem typeCall_kw (F : ExcBaseFacts B newId initId bmB) (hT : ∀ x : String, bm.contains (.type x) = bmB.contains (.type x)) {kw : List (Str × Value)} {fI : Addr} {Q : Fin → Shared → Prop}
    (hC : hp.get? C = some (excClassObj nm q C N bs bm hdct sn sub ab col dd k0 k1 k2 k3 k5 newId)) (li : W.Looks (model pg wd) hp (typeLookup (.ref C) "__init__") (some (.ref fI)))
    (lb : ∀ x, W.Looks (model pg wd) hp (bindSpecial (.ref fI) x) (.ref fI, [x]))
    (z : codeAny (model pg wd) A (.call (.ref fI) ⟨[.ref (hp.objs.size + 1)], kw⟩) (fun r s' => match r with
      | .ok (.ret v) => v = .none ∧ Q (.done (.ret (.ref (hp.objs.size + 1)))) s'
      | .ok _ => False
      | .error e => E e s') ⟨(hp.push (PySem.W.kdv_tup [])).push (exoOf C hp.objs.size), ge, dr, tk, os⟩) :
    wpAny (model pg wd) A (Builtin.«type.__call__» ⟨[.ref C], kw⟩) Q E ⟨hp, ge, dr, tk, os⟩ := by
  repeat (first
    | with_reducible refine wpAny_loadPart_at hC ?_
    | with_reducible refine wpAny_madeBy_exc hC ?_
    | wp_step)
  refine codeAny_call_builtin_code (Code.quiet_builtin _ F.quiet) (newCheck_kw F hT hC ?_)
  refine newMade_kw F hT hC ?_
  show wpAny _ _ _ _ _ _
  have k : ∀ b o, hp.get? b = some o → ((hp.push (PySem.W.kdv_tup [])).push (exoOf C hp.objs.size)).get? b = some o := fun b o e =>
    Heap.get?_push_of_some _ (Heap.get?_push_of_some _ e)
  have hC2 := k _ _ hC
  have ge2 : ((hp.push (PySem.W.kdv_tup [])).push (exoOf C hp.objs.size)).get? (hp.objs.size + 1) = some (exoOf C hp.objs.size) := by
    heap_get
  have c1 : (Value.ref C :: bm).contains (.ref C) = true := by
    simp
  have li2 := li.keeps k
  have lb2 := (lb (.ref (hp.objs.size + 1))).keeps k
  unfold isInstance
  repeat (first
    | with_reducible refine wpAny_loadPart_at ge2 ?_
    | (with_reducible refine wpAny_isSubtype_exc hC2 ?_
       rw [c1])
    | wp_step)
  show wpAny _ _ (typeLookup (.ref C) _) _ _ _
  refine li2.at ?_
  refine wpAny_holding (wpAny_bind (lb2.at ?_))
  refine wpAny_bind (wpAny_call (codeAny_mono z fun r s' hz => ?_))
  rcases r with e | (v | _ | _ | _) <;> first
    | exact hz
    | exact hz.elim
    | skip
  obtain ⟨rfl, hz⟩ := hz
  first
    | exact wpAny_pure (wpAny_pure hz)
    | (wp_walk; exact hz)
theorem typeCheck_kw {M : Model} {kw : List (Str × Value)} {Q : Unit → Shared → Prop} {E : Value → Shared → Prop}
    (hC : hp.get? C = some (excClassObj nm q C N bs bm hdct sn sub ab col dd k0 k1 k2 k3 k5 newId)) (z : Q () ⟨hp, ge, dr, tk, os⟩) : wpAny M A (checkBuiltinCall "type.__call__" ⟨[.ref C], kw⟩) Q E ⟨hp, ge, dr, tk, os⟩ := by
  have t1 := tc_sub
  have t2 : (⟨hp, ge, dr, tk, os⟩ : Shared).TypeIs (.ref C) "type" := ⟨_, hC, rfl⟩
  simp only [checkBuiltinCall, tc_kind, tc_split]
  repeat (any_goals (first
    | assumption
    | with_reducible refine wpAny_loadPart_at hC ?_
    | with_reducible refine wpAny_onRaise ?_
    | with_reducible refine wpAny_map ?_
    | wp_step))
theorem call_kw (F : ExcBaseFacts B newId initId bmB) (hT : ∀ x : String, bm.contains (.type x) = bmB.contains (.type x)) {kw : List (Str × Value)} {fI : Addr}
    (hC : hp.get? C = some (excClassObj nm q C N bs bm hdct sn sub ab col dd k0 k1 k2 k3 k5 newId)) (li : W.Looks (model pg wd) hp (typeLookup (.ref C) "__init__") (some (.ref fI)))
    (lb : ∀ x, W.Looks (model pg wd) hp (bindSpecial (.ref fI) x) (.ref fI, [x]))
    (z : codeAny (model pg wd) (A.under (.builtin "type.__call__" ⟨[.ref C], kw⟩)) (.call (.ref fI) ⟨[.ref (hp.objs.size + 1)], kw⟩) (W.InitBack (hp.objs.size + 1) R) ⟨(hp.push (PySem.W.kdv_tup [])).push (exoOf C hp.objs.size), ge, dr, tk, os⟩) :
    codeAny (model pg wd) A (.call (.ref C) ⟨[], kw⟩) R ⟨hp, ge, dr, tk, os⟩ := by
  have t1 := tc_lookup
  have t2 := tc_bind (.ref C)
  have t3 : (⟨hp, ge, dr, tk, os⟩ : Shared).TypeIs (.ref C) "type" := ⟨_, hC, rfl⟩
  refine codeAny_of_tree ?_
  show wpAny _ _ (callAny (.ref C) _) _ _ _
  repeat (any_goals (first
    | assumption
    | with_reducible refine wpAny_loadPart_at hC ?_
    | wp_step))
  refine ⟨rfl, ?_⟩
  refine codeAny_call_builtin_at (Code.quiet_builtin _ (by decide +kernel)) entry_typeCall ?_
  refine typeCheck_kw hC (typeCall_kw F hT hC li lb (codeAny_mono z fun r s' hz => ?_))
  rcases r with e | (v | _ | _ | _) <;> exact hz
end
end Vf
namespace Vf
open PySem PySem.Spec PyProof.Rows L2
section
variable {X : Cx} {e : Expr} {es : List Expr} {kws : List Keyword} {ta tk : TA} {p pos : Pos} {CX : CXT} {x : Str} {C fI : Addr} {k : Nat} {fd : FuncData} {ps ks : List Str} {sp : Sp}
/-- C(e, ..), a new exception, C's own __init__ keeping sp -/
def tExV (C : Addr) (sp : Sp) (ta : TA) : TE := fun σ H Q => ta σ H fun vs H1 => vs.length ≤ 1000 ∧ ∀ a, H1 a = none → sp (.ref a :: vs) (upd H1 a (exo a C none)) (fun v H2 => v = .non ∧ Q (.ref a) H2) (fun _ _ _ => False)
theorem exV_run {pins : List (Addr × Obj)} {σ : L2.St} {H : Hp} {s : Shared} {Q : VK} {vs ws : List V} {us : List Value} {kw : List (Str × Value)} (T : OexC X.K C) (hr : Room (k + 1) X.A) (hx : Passes CX X (fun _ _ _ => False)) (I : Inv X pins σ H s)
    (F1 : FnOk X.prog X.w X.K X.mg X.base CX k fI fd ps sp) (us1 : List Value) (hus : us1.length ≤ 1000)
    (go : ∀ R : Result → Shared → Prop, codeAny (model X.prog X.w) (X.A.under (.builtin "type.__call__" ⟨.ref C :: us1, kw⟩)) (.call (.ref fI) ⟨.ref (s.heap.objs.size + 1) :: us1, kw⟩) (PySem.W.InitBack (s.heap.objs.size + 1) R)
        { s with heap := (s.heap.push (PySem.W.kdv_tup us1)).push (PySem.HandSPX.excO C s.heap.objs.size) } → codeAny (model X.prog X.w) X.A (.call (.ref C) ⟨us1, kw⟩) R s)
    (hb : ∀ t : Shared, X.K.In t.heap → BindsTo t fd ⟨.ref (s.heap.objs.size + 1) :: us1, kw⟩ (ps.zip us)) (r : Vals vs us) (he : vs = .ref (s.heap.objs.size + 1) :: ws)
    (h : sp vs (upd H (s.heap.objs.size + 1) (exo (s.heap.objs.size + 1) C none)) (fun v H2 => v = .non ∧ Q (.ref (s.heap.objs.size + 1)) H2) (fun _ _ _ => False)) :
    wpAny (model X.prog X.w) X.A (call (.ref C) us1 kw) (EP X pins σ Q) X.xe s := by
  obtain ⟨hp, g, dr, t, os⟩ := s
  have grow : ∀ b o, hp.get? b = some o → ((hp.push (PySem.W.kdv_tup us1)).push (PySem.HandSPX.excO C hp.objs.size)).get? b = some o := fun b o q =>
    Heap.get?_push_of_some _ (Heap.get?_push_of_some _ q)
  have there : ((hp.push (PySem.W.kdv_tup us1)).push (PySem.HandSPX.excO C hp.objs.size)).get? (hp.objs.size + 1) = some (PySem.HandSPX.excO C hp.objs.size) := by
    heap_get
  have J : Inv X pins σ (upd H (hp.objs.size + 1) (exo (hp.objs.size + 1) C none)) ⟨(hp.push (PySem.W.kdv_tup us1)).push (PySem.HandSPX.excO C hp.objs.size), g, dr, t, os⟩ :=
    I.laid (t' := t) (a := hp.objs.size + 1) (o := exo (hp.objs.size + 1) C none) grow (Nat.le_succ _) (exo_ok there)
  refine wpAny_call (go _ ?_)
  have rc := F1.run _ X.stack _ _ ⟨Value.ref (hp.objs.size + 1) :: us1, kw⟩ us vs _ (fun _ _ _ => False) (hr.make C us1 kw) (J.env0.make C us1 kw) (hb _ J.kIn) r h
  refine codeAny_mono rc fun q s2 z => ?_
  match q, z with
  | .error er, z => exact hx pins σ _ _ er s2 J z
  | .ok (.ret u), z =>
    obtain ⟨v, H2, o1, o2, o3, o4, rv, ev, q2⟩ := z
    subst ev
    exact ⟨rv, J.after ⟨.ref (hp.objs.size + 1), H2, o1, o2, o3, o4, rfl, q2⟩⟩
  | .ok .next, z => exact False.elim z
  | .ok .brk, z => exact False.elim z
  | .ok .cont, z => exact False.elim z
theorem pe_exV (T : OexC X.K C) (iC : PySem.W.findIn X.K (.ref C) "__init__" = some (some (.ref fI))) (tI : PySem.W.typeIn X.K (.ref fI) = some (.type "function")) (F1 : FnOk X.prog X.w X.K X.mg X.base CX k fI fd ps sp) (hr : Room (k + 1) X.A) (hb : Binds X.K fd ps [])
    (hx : Passes CX X (fun _ _ _ => False)) (hg : Gl X x) (hm : X.mg x = some (.ref C)) (ha : PA X (e :: es) ta) (hdb : (x == ("__debug__" : Str)) = false := by decide)
    (he : starEach (e :: es) X.env = (false, eval e X.env) :: starEach es X.env := by rfl) (hpl : (backTo pos (starEach es X.env)).any (·.1) = false := by rfl) : PE X (.Call (.Name x p) (e :: es) [] pos) (tExV C sp ta) := by
  refine ⟨fun pins s σ H Q I h => ?_⟩
  obtain ⟨nm, q, N, bs, bm, sn, sub, ab, col, dd, k0, k1, k2, k3, k5, hC, hbm⟩ := T.cls
  refine wpAny_Call_Name_kw (ld_glob I hg hm ?_ hdb)
  refine PySem.W.callWith_K (h₀ := X.base) I.ok.mod.kin T.kC ?_ he hpl
  refine thn (ha.run pos pins s σ H _ I h) fun us s1 ⟨vs, H1, I1, r1, hz, q1⟩ => ⟨I1.kIn, ?_⟩
  have hn : H1 (s1.heap.objs.size + 1) = none := I1.hok.fresh (Nat.le_succ _)
  have hl : us.length ≤ 1000 := Paired.length r1 ▸ hz
  have r2 : Vals (V.ref (s1.heap.objs.size + 1) :: vs) (Value.ref (s1.heap.objs.size + 1) :: us) := .cons rfl r1
  have sz : us.length ≤ sizeLine := by
    rw [sizeLine_eq]
    omega
  refine exV_run T hr hx I1 F1 us hl (fun R z => ?_) (fun t ht => ?_) r2 rfl (q1 _ hn)
  · obtain ⟨hp, g, dr, tk, os⟩ := s1
    exact PySem.HandSPX.call_own F.excBase_ValueError (fun Y => PySem.HandSPX.refsVE_contains Y bm hbm) (I1.kIn _ _ hC) (PySem.W.looks_findIn I1.kIn iC) (fun self => PySem.W.bind_fn I1.kIn self tI) sz z
  · have b := hb t (Value.ref (s1.heap.objs.size + 1) :: us) ht ((congrArg List.length (List.append_nil _)).trans <| (Paired.length r2).symm.trans (F1.len _ _ _ _ (q1 _ hn)))
    rw [List.append_nil] at b
    exact b
/-- C(k = v, ..) -/
def tExK (C : Addr) (n : Nat) (sp : Sp) (gV : List V → List V → List V) (tk : TA) : TE := fun σ H Q => tk σ H fun zs H1 => zs.length = n ∧ ∀ a, H1 a = none → sp (gV [.ref a] zs) (upd H1 a (exo a C none)) (fun v H2 => v = .non ∧ Q (.ref a) H2) (fun _ _ _ => False)
theorem pe_exK {g : List Value → List Value → List Value} {gV : List V → List V → List V} (T : OexC X.K C) (iC : PySem.W.findIn X.K (.ref C) "__init__" = some (some (.ref fI))) (tI : PySem.W.typeIn X.K (.ref fI) = some (.type "function"))
    (F1 : FnOk X.prog X.w X.K X.mg X.base CX k fI fd ps sp) (hr : Room (k + 1) X.A) (hb : KBn X.K fd ps 1 ks g gV) (hx : Passes CX X (fun _ _ _ => False)) (hg : Gl X x) (hm : X.mg x = some (.ref C)) (hkw : PK X kws tk) (hgV : ∀ a zs, ∃ ws, zs.length = ks.length → gV [.ref a] zs = .ref a :: ws)
    (hall : (backToKw pos (keywordEach kws X.env)).all (·.1.isSome) = true := by rfl) (hks : (backToKw pos (keywordEach kws X.env)).filterMap (·.1) = ks := by rfl) (hdb : (x == ("__debug__" : Str)) = false := by decide)
    (hpl : ((backTo pos (starEach [] X.env)).any (·.1) || (backToKw pos (keywordEach kws X.env)).any (·.1.isNone)) = false := by rfl) : PE X (.Call (.Name x p) [] kws pos) (tExK C ks.length sp gV tk) := by
  refine ⟨fun pins s σ H Q I h => ?_⟩
  obtain ⟨nm, q, N, bs, bm, sn, sub, ab, col, dd, k0, k1, k2, k3, k5, hC, hbm⟩ := T.cls
  refine wpAny_Call_Name_kw (ld_glob I hg hm ?_ hdb)
  refine PySem.W.callWith_KW0 (h₀ := X.base) I.ok.mod.kin T.kC hall ?_ hpl
  refine thn (hkw.run pos pins s σ H _ I h) fun ws s1 ⟨zs, H1, I1, rz, l1, q1⟩ => ⟨I1.kIn, ?_⟩
  rw [hks]
  have hn : H1 (s1.heap.objs.size + 1) = none := I1.hok.fresh (Nat.le_succ _)
  have rr := hb.rel (vs := [.ref (s1.heap.objs.size + 1)]) (us := [.ref (s1.heap.objs.size + 1)]) (.cons rfl .nil) rz
  obtain ⟨w2, hw⟩ := hgV (s1.heap.objs.size + 1) zs
  refine exV_run (us1 := []) (kw := ks.zip ws) T hr hx I1 F1 (Nat.zero_le _) (fun R z => ?_) (fun t ht => hb.to t [.ref (s1.heap.objs.size + 1)] ws ht rfl (rz.length.symm.trans l1)) rr (hw l1) (q1 _ hn)
  obtain ⟨hp, g, dr, tk, os⟩ := s1
  exact call_kw F.excBase_ValueError (fun Y => PySem.HandSPX.refsVE_contains Y bm hbm) (I1.kIn _ _ hC) (PySem.W.looks_findIn I1.kIn iC) (fun self => PySem.W.bind_fn I1.kIn self tI) z
end
end Vf
namespace Vf
open PySem PySem.Spec PyProof.Rows L2
section
variable {X : Cx} {pins : List (Addr × Obj)} {σ : L2.St} {H : Hp} {s : Shared}
/-- an exception that is pinned is told in the abstract heap -/
theorem hold_exc {a C : Addr} {d : Option Addr} {oe : Obj} {vs : Array Value} (I : Inv X pins σ H s) (n0 : X.s_0.heap.get? a = none) (na : H a = none) (np : ∀ p ∈ X.pn ++ pins, p.1 ≠ a)
    (ho : s.heap.get? a = some oe) (hd : oe.data = .fields vs) (hc : oe.cls = .ref C) (dd : oe.dict = d) : Inv X pins σ (upd H a (exv a C d)) s := by
  have some_ne : ∀ {b : Addr} {o : HO}, H b = some o → b ≠ a := fun {b o} e => ne_of_none e na
  have old_ne : ∀ {b : Addr} {o : Obj}, X.s_0.heap.get? b = some o → b ≠ a := fun {b o} e z => by
    rw [z, n0] at e
    cases e
  have cell_ne : ∀ x c, X.env.cells.lookup x = some c → c ≠ a := fun x c e z => by
    obtain ⟨v, o, h1, h2⟩ := I.cell x c e
    rw [z, ho] at h1
    cases h1
    rw [hd] at h2
    cases h2
  have loc_ne : X.env.locals ≠ a := fun z => by
    obtain ⟨m, ⟨o, es, ep, h1, h2, _⟩, _⟩ := I.loc
    rw [z, ho] at h1
    cases h1
    rw [hd] at h2
    cases h2
  refine ⟨I.ok, I.os, I.bare, ⟨I.base.keep, I.base.slot, fun b o e n hx => ?_, I.base.there, fun b xs e => ?_, fun b o u e => ?_, fun b ps e => ?_⟩, I.loc, I.cell, ?_, fun x c e => ?_, fun p hp => ?_, fun b u e => ?_, I.len⟩
  · rw [upd_ne (old_ne e)]
    exact I.base.free b o e n hx
  · have q := I.base.tups b xs e
    rw [upd_ne (some_ne q)]
    exact q
  · have q := I.base.frzs b o u e
    rw [upd_ne (some_ne q)]
    exact q
  · obtain ⟨more, q⟩ := I.base.tbls b ps e
    exact ⟨more, by rw [upd_ne (some_ne q)]; exact q⟩
  · rw [upd_ne loc_ne]
    exact I.free
  · rw [upd_ne (cell_ne x c e)]
    exact I.freeC x c e
  · obtain ⟨q1, q2, q3⟩ := I.pin p hp
    exact ⟨q1, by rw [upd_ne (np p hp)]; exact q2, q3⟩
  · by_cases z : b = a
    · subst z
      rw [upd_same] at e
      cases e
      exact exv_ok ho hc dd hd
    · rw [upd_ne z] at e
      exact (I.hok b u e).stay (fun _ _ _ q => q) (fun c q => by rw [upd_ne (some_ne q)]; exact q) fun c xs q => by rw [upd_ne (some_ne q)]; exact q
end
/-- behind the suite: what was caught is told -/
def held (H : Hp) (a : Addr) (cls : Value) (d : Option Addr) : Hp := match cls with
  | .ref C => upd H a (exv a C d)
  | _ => H
def endsH (a : Addr) (cls : Value) (d : Option Addr) (i : Nat) (D : Ends) : Ends where
  nx := fun σ H => D.nx (σ.set i none) (held H a cls d)
  rt := fun v H => D.rt v (held H a cls d)
  bk := fun σ H => D.bk (σ.set i none) (held H a cls d)
  ct := fun σ H => D.ct (σ.set i none) (held H a cls d)
def wHold (K : PySem.W.Frag) (c : Value) (i : Nat) (ts : Addr → Value → Option Addr → TS) (Wout : WX) (D : Ends) : WX := fun cls d σ H => ∃ b, PySem.W.exmOne K cls c = some b ∧
  (b = true → ∀ a, H a = none → ts a cls d (endsH a cls d i D) (σ.set i (some (.ref a))) H) ∧ (b = false → Wout cls d σ H)
section
variable {X : Cx} {x n : Str} {c : Value} {i : Nat} {body suite : List Stmt} {b0 : Stmt} {np pos pos' : Pos} {tb : WX → TS} {ts : Addr → Value → Option Addr → TS} {Wout : WX}
theorem ps_try_hold (hs : X.stack = X.env :: X.outer) (hf : X.env.frame = some X.env.locals) (hex : X.ex = []) (hN : X.N.Nodup) (hi : X.N[i]? = some n) (hln : X.env.kindOf n = some .local) (hc : Names X x c) (tk : Takes X Wout)
    (hb : ∀ (W : WX) (pn : List (Addr × Obj)) (xe : Value → Shared → Prop), Takes (X.tr pn xe) W → PassesOwn (model X.prog X.w) X.A X.env xe → PSs (X.tr pn xe) body (tb W))
    (hsu : ∀ (a : Addr) (oe : Obj) (cls : Value) (d : Option Addr) (pn : List (Addr × Obj)), Zc cls d oe → (∃ vs, oe.data = .fields vs) → PSs (X.suite a ((a, oe) :: pn)) (b0 :: suite) (ts a cls d)) :
    PS X (.Try body [.ExceptHandler (some (.Name x np)) (some n) (b0 :: suite) pos'] [] [] pos) (fun D σ H => tb (wHold X.K c i ts Wout D) D σ H) := by
  refine ⟨fun pins s σ H D I h => ?_⟩
  have oX := I.ok
  have frm : X.A.frames = some (X.env :: X.outer) := hs ▸ oX.frames
  have isL : Loc X.env.scope n := .inl hln
  refine wpAny_Try_except ?_
  let fly : Value → Shared → Prop := fun e s1 =>
    wpAny (model X.prog X.w) X.A (noteFrame e X.env) (fun _ s2 =>
      wpAny (model X.prog X.w) X.A (setFlight e none) (fun _ s3 =>
        wpAny (model X.prog X.w) X.A
          (handleBy e X.env [.ExceptHandler (some (.Name x np)) (some n) (b0 :: suite) pos'])
          (SP X pins D) X.xe s3) X.xe s2) X.xe s1
  have run := (hb (wHold X.K c i ts Wout D) (X.pn ++ pins) fly ?takes PassesOwn.looking).run [] s σ H D (I.toTry _) h
  case takes =>
    rintro u s' ⟨a, B, sI, pins', σ', H', cls, d, rfl, J', nb, up, sky, na, os, ag, b, hb1, hyes, hno⟩
    have J : Inv X pins σ' H' sI := J'.ofTry oX
    have sky2 : Sky B (X.env :: X.outer) a (Zc cls d) X.env.locals s'.heap := hs ▸ sky
    show wpAny (model X.prog X.w) X.A (noteFrame (.ref a) X.env) _ _ _
    refine Sky.land Zc.steady frm hf sky2 fun h3 fl3 up3 => ?_
    have J3 : Inv X pins σ' H' { s' with heap := h3 } := J.landed nb fl3.1 (up.trans up3) os ag
    obtain ⟨o3, v3, e3, z3, d3⟩ := fl3.there
    have notFrame : a ∉ frs (X.env :: X.outer) := fun hm => by
      obtain ⟨_, o', e', hnf⟩ := fl3.2.2.1.mem hm
      rw [e3] at e'
      cases e'
      exact hnf _ d3
    have nL : a ≠ X.env.locals := fun z => notFrame (List.mem_filterMap.mpr ⟨X.env, List.mem_cons_self, z ▸ hf⟩)
    have nF : a ∉ X.fs := fun hm => by
      obtain ⟨en, hen, q⟩ := List.mem_filterMap.mp hm
      exact notFrame (List.mem_filterMap.mpr ⟨en, List.mem_cons_of_mem _ hen, q⟩)
    have freshI : sI.heap.get? a = none := by
      cases q : sI.heap.get? a with
      | none => rfl
      | some o =>
        have z := nb a o q (by rw [hs]; exact notFrame)
        rw [fl3.2.1] at z
        cases z
    have fresh0 : X.s_0.heap.get? a = none := by
      cases q : X.s_0.heap.get? a with
      | none => rfl
      | some o =>
        obtain ⟨o2, q2⟩ := J.base.there a o q (by rw [hex]; exact List.not_mem_nil)
        rw [freshI] at q2
        cases q2
    have pinNe : ∀ p ∈ X.pn ++ pins, p.1 ≠ a := fun p hp z => by
      have q := (J.pin p hp).1
      rw [z, freshI] at q
      cases q
    have S3 := J3.suite e3 d3 na nL nF
    refine wpAny_handleBy_cons (codeAny_handlers_test ?_) (by intro q; cases q)
    have LT : PySem.W.Looks (model X.prog X.w) h3 (typeOf (.ref a)) cls := fun _ _ _ _ k q =>
      wpAny_typeOf_ref (k _ _ e3) (by rw [z3.1]; exact q)
    have LM := PySem.W.exm_one (M := model X.prog X.w) J3.kIn LT hb1
    have named : ∀ {Q : Value → Shared → Prop} {E : Value → Shared → Prop}, Q c { s' with heap := h3 } →
        wpAny (model X.prog X.w) (X.A.mark (some (.ref a))) (eval (.Name x np) X.env) Q E { s' with heap := h3 } := fun {Q E} q => by
      obtain ⟨hg, hdbg, hm | ⟨hm, hv, hnn⟩⟩ := hc
      · exact ld_glob (X := X.suite a ((a, o3) :: (X.pn ++ pins))) S3 hg hm q hdbg
      · exact ld_blt (X := X.suite a ((a, o3) :: (X.pn ++ pins))) S3 hg hm hv q hnn hdbg
    refine named (LM.here ?_)
    cases b with
    | false =>
      show wpAny _ X.A (handleBy (.ref a) X.env []) _ _ _
      refine wpAny_handleBy_nil ?_
      obtain ⟨k1, k2, k3, oz, vz, T, oT, ts', he, hz, hd, h1, hr⟩ := id fl3
      unfold PySem.passOn
      refine wpAny_bind (wpAny_field he hd h1 ?_)
      rw [if_neg (show ¬ ((Value.ref T == Value.none) = true) from by simp)]
      have out : wpAny (model X.prog X.w) X.A (setFlight (.ref a) X.env.frame)
          (fun _ s4 => wpAny (model X.prog X.w) X.A (throw (.ref a) : Sem Flow) (SP X pins D) X.xe s4) X.xe { s' with heap := h3 } := by
        rw [hf]
        refine HandSPX.setFlight_upZ fl3 fun h4 hh4 up4 => wpAny_throw (tk _ _ ?_)
        exact ⟨a, B, sI, pins, σ', H', cls, d, rfl, J, nb, (up.trans up3).trans up4, .inr (.inr (hs ▸ hh4)), na, os, ag, hno rfl⟩
      first
        | exact wpAny_bind (wpAny_pure (wpAny_bind out))
        | exact wpAny_bind out
    | true =>
      refine codeAny_handlers_suite_as ?_
      refine HandSPX.lands_againZ fl3 fun h4 fl4 up4 => ?_
      have J4 : Inv X pins σ' H' { s' with heap := h4 } := J.landed nb fl4.1 ((up.trans up3).trans up4) os ag
      obtain ⟨o4, v4, e4, z4, d4⟩ := fl4.there
      have S4 := J4.suite e4 d4 na nL nF
      refine store_ok (X := X.suite a ((a, o4) :: (X.pn ++ pins))) (v := .ref a) S4 hN hi isL rfl (fun s5 S5 => ?_) (.inr hln)
      have goes := (hsu a o4 cls d (X.pn ++ pins) z4 ⟨_, d4⟩).run [] s5 _ H' _ S5 (hyes rfl a na)
      refine wpAny_mono goes (fun f s6 hsp => ?_) (fun _ _ z => False.elim z)
      have fin : ∀ {σ6 : L2.St} {H6 : Hp} {Q : Shared → Prop}, Inv (X.suite a ((a, o4) :: (X.pn ++ pins))) [] σ6 H6 s6 → (∀ s7, Inv X pins (σ6.set i none) (held H6 a cls d) s7 → Q s7) →
          wpAny (model X.prog X.w) X.A (do bindName X.env n .none; unbindBehindTheSuite X.env n pos') (fun _ s7 => Q s7) X.xe s6 := fun {σ6 H6 Q} S6 hq => by
        have J6 : Inv X ((a, o4) :: pins) σ6 H6 s6 := ⟨oX, S6.os, S6.bare, S6.base, S6.loc, S6.cell, S6.free, S6.freeC, fun p hp => S6.pin p (by
          rcases List.mem_append.mp hp with z | z
          · exact List.mem_append_left _ (List.mem_cons_of_mem _ (List.mem_append_left _ z))
          · rcases List.mem_cons.mp z with z | z
            · exact List.mem_append_left _ (z ▸ List.mem_cons_self)
            · exact List.mem_append_left _ (List.mem_cons_of_mem _ (List.mem_append_right _ z))), S6.hok, S6.len⟩
        refine gone_ok J6 hN hi hln fun s7 J7 => hq s7 ?_
        have J8 : Inv X pins (σ6.set i none) H6 s7 := ⟨J7.ok, J7.os, J7.bare, J7.base, J7.loc, J7.cell, J7.free, J7.freeC, fun p hp => J7.pin p (by
          rcases List.mem_append.mp hp with z | z
          · exact List.mem_append_left _ z
          · exact List.mem_append_right _ (List.mem_cons_of_mem _ z)), J7.hok, J7.len⟩
        obtain ⟨g7, n7, _⟩ := J7.pin (a, o4) (List.mem_append_right _ List.mem_cons_self)
        unfold held
        split
        · rename_i C
          exact hold_exc J8 fresh0 n7 pinNe g7 d4 z4.1 z4.2
        · exact J8
      match f, hsp with
      | .next, ⟨σ6, H6, S6, q6⟩ => exact fin S6 fun s7 J7 => ⟨_, _, J7, q6⟩
      | .brk, ⟨σ6, H6, S6, q6⟩ => exact fin S6 fun s7 J7 => ⟨_, _, J7, q6⟩
      | .cont, ⟨σ6, H6, S6, q6⟩ => exact fin S6 fun s7 J7 => ⟨_, _, J7, q6⟩
      | .ret u, ⟨v6, σ6, H6, S6, r6, q6⟩ => exact fin S6 fun s7 J7 => ⟨_, _, _, J7, r6, q6⟩
  refine wpAny_mono run (fun f s1 hsp => ?_) (fun e s1 he => he)
  match f, hsp with
  | .next, ⟨σ1, H1, J1, q⟩ => exact wpAny_execs_nil ⟨σ1, H1, J1.ofTry oX, q⟩
  | .brk, ⟨σ1, H1, J1, q⟩ => exact ⟨σ1, H1, J1.ofTry oX, q⟩
  | .cont, ⟨σ1, H1, J1, q⟩ => exact ⟨σ1, H1, J1.ofTry oX, q⟩
  | .ret u, ⟨v, σ1, H1, J1, r, q⟩ => exact ⟨v, σ1, H1, J1.ofTry oX, r, q⟩
end
end Vf
namespace Vf
open PySem PySem.Spec PyProof.Rows L2
theorem pe_weak {X : Cx} {e : Expr} {t u : TE} (h : PE X e t) (w : ∀ σ H Q, u σ H Q → t σ H Q) : PE X e u := ⟨fun pins s σ H Q I z => h.run pins s σ H Q I (w σ H Q z)⟩
/-- keywords behind n values, no defaults -/
theorem kbn_at {K : PySem.W.Frag} {x qual : Str} {params : Arguments} {body : List Stmt} {scope : Scope} {f : Addr} {fd : FuncData} {ps : List Str} {g : List Value → List Value → List Value} {gV : List V → List V → List V} (F : FunD K x qual params body scope [] [] f fd) (n : Nat) (ks : List Str)
    (h : ∀ (kV doc pm : Value) (an : Option Addr) (cdv ct : Value) (us ws : List Value), us.length = n → ws.length = ks.length → bindArgs (PySem.W.fnOf x qual params body scope .none kV doc pm an cdv ct) ⟨us, ks.zip ws⟩ = pure (ps.zip (g us ws)))
    (rel : ∀ {vs : List V} {us : List Value} {zs : List V} {ws : List Value}, Vals vs us → Vals zs ws → Vals (gV vs zs) (g us ws)) : KBn K fd ps n ks g gV := by
  obtain ⟨oc, od, dV, kV, doc, pm, an, cdv, ct, osl, rfl, lk, hcd, hD, hK⟩ := F.ex
  rcases hD with ⟨_, rfl⟩ | ⟨e, _⟩
  · exact ⟨fun s us ws _ l1 l2 => .of_eq (h kV doc pm an cdv ct us ws l1 l2), rel⟩
  · exact absurd rfl e
def gkA {α : Type} : List α → List α → List α := fun us ws => us ++ ws
def gkS {α : Type} : List α → List α → List α := fun us ws => us ++ ws.reverse
theorem gkA_rel {vs zs : List V} {us ws : List Value} (h1 : Vals vs us) (h2 : Vals zs ws) : Vals (gkA vs zs) (gkA us ws) := h1.append h2
theorem vals_rev : ∀ {zs : List V} {ws : List Value}, Vals zs ws → Vals zs.reverse ws.reverse
  | _, _, .nil => .nil
  | _, _, .cons r t => by
    rw [List.reverse_cons, List.reverse_cons]
    exact (vals_rev t).append (.cons r .nil)
theorem gkS_rel {vs zs : List V} {us ws : List Value} (h1 : Vals vs us) (h2 : Vals zs ws) : Vals (gkS vs zs) (gkS us ws) := h1.append (vals_rev h2)
section
variable {X : Cx} {e e1 e2 : Expr} {te t1 t2 : TE} {p pos kp1 kp2 : Pos} {CX : CXT} {x f g n1 n2 : Str} {C fI : Addr} {k : Nat} {fd : FuncData} {ps : List Str}
theorem do1 {K : PySem.W.Frag} {H : Hp} {v : V} {Q : VK} (T : OexC K C) (no : PySem.W.findIn K (.ref C) f = some none) (q : ∀ a H2, Same H H2 → ExcAt H2 a C (some [(f, v)]) → Q (.ref a) H2) (a : Addr) (na : H a = none) :
    spI1 K f [.ref a, v] (upd H a (exo a C none)) (fun w H2 => w = .non ∧ Q (.ref a) H2) (fun _ _ _ => False) := by
  refine ⟨a, C, v, rfl, T, no, upd_same, fun dx nd ne => ⟨rfl, ?_⟩⟩
  have nd' : H dx = none := by
    rw [upd_ne ne] at nd
    exact nd
  refine q a _ (fun b o h => ?_) (.made dx _ upd_same (by rw [upd_ne ne, upd_same]))
  have b1 := ne_of_none h na
  rw [upd_ne b1, upd_ne (ne_of_none h nd'), upd_ne b1]
  exact h
theorem do2 {K : PySem.W.Frag} {H : Hp} {v u : V} {Q : VK} (T : OexC K C) (no : PySem.W.findIn K (.ref C) f = some none) (no2 : PySem.W.findIn K (.ref C) g = some none) (q : ∀ a H2, Same H H2 → ExcAt H2 a C (some [(g, u), (f, v)]) → Q (.ref a) H2) (a : Addr) (na : H a = none) :
    spI2 K f g [.ref a, v, u] (upd H a (exo a C none)) (fun w H2 => w = .non ∧ Q (.ref a) H2) (fun _ _ _ => False) := by
  refine ⟨a, C, v, u, rfl, T, no, no2, upd_same, fun dx nd ne => ⟨rfl, ?_⟩⟩
  have nd' : H dx = none := by
    rw [upd_ne ne] at nd
    exact nd
  refine q a _ (fun b o h => ?_) (.made dx _ (by rw [upd_ne ne.symm, upd_same]) upd_same)
  have b1 := ne_of_none h na
  have b2 := ne_of_none h nd'
  rw [upd_ne b2, upd_ne b1, upd_ne b2, upd_ne b1]
  exact h
end
end Vf
namespace Vf
open PySem PySem.Spec PyProof.Rows L2
/-! ### a comprehension whose element may raise -/
theorem note_same {x : Value} {e1 e2 : Env} (h : e1.frame = e2.frame) : noteFrame x e1 = noteFrame x e2 := by
  unfold noteFrame PySem.frameOf
  simp only [h]
/-- behind the block: what a comprehension asks where nothing is raised, or what flies on from the block's own frame -/
def postX (M : Model) (A : Around) (E : Value → Shared → Prop) (use : Option (Value → Sem Unit)) (Q : Value → Shared → Prop) (acc : Value) (ce : Env) (r : Result) (t : Shared) : Prop :=
  match r with
  | .ok f => compPost M A E use Q acc ce.locals (.ok f) t
  | .error x => ∃ m, t.heap.Ns ce.locals m ∧ ∀ g, Heap.SameBut ce.locals t.heap g → wpAny M A (passOn "comprehension.variables-let-go" x ce : Sem Value) (fun _ _ => False) E { t with heap := g }
section
variable {M : Model} {A : Around} {E : Value → Shared → Prop} {s : Shared} {env : Env}
theorem comp_raising {e : Expr} {scope : Scope} {pos : Pos} {mk first : Sem Value} {c0 : Comprehension} {cs : List Comprehension} {clo : List (Str × Addr)} {use : Option (Value → Sem Unit)} {Q : Value → Shared → Prop}
    (h1 : clausesOf e = c0 :: cs) (h2 : ∀ x, foldedSetIterable c0.iter env x = pure x) (h3 : closureFor scope env = pure clo) (h4 : scope.kind = .function) (h5 : ∀ y ∈ scope.names, y.2 = .local → scope.names.lookup y.1 = some .local)
    (h : wpAny M A first (fun x t1 => wpAny M A (pyIter x) (fun i t2 => wpAny M A mk (fun acc t3 => wpAny M A (newFunctionEnv scope env.globals clo [] env.qual none .none (some env)) (fun ce t4 =>
      codeAny M A (.compStart e 0 i acc { ce with scope := relabel scope env }) (postX M A E use Q acc { ce with scope := relabel scope env }) t4) E t3) E t2) E t1) E s) : wpAny M A (comprehension e scope env pos mk false first use) Q E s := by
  unfold comprehension
  rw [h3, h1]
  refine wpAny_bind (wpAny_mono h (fun x t1 k1 => ?_) fun _ _ z => z)
  refine wpAny_bind (wpAny_standAt (wpAny_bind (wpAny_of_eq (h2 x) (wpAny_bind (wpAny_holding (wpAny_mono k1 (fun i t2 k2 => ?_) fun _ _ z => z))))))
  refine wpAny_standIf (wpAny_bind (wpAny_mono k2 (fun acc t3 k3 => ?_) fun _ _ z => z))
  refine wpAny_bind (wpAny_pure (wpAny_bind (wpAny_mono k3 (fun ce t4 k4 => ?_) fun _ _ z => z)))
  dsimp only
  have names : ∀ y ∈ (scope.names.filter fun y => (y.2 == .local || y.2 == .cell) && y.1 != (".0" : Str)).reverse, y.2 = .local → Env.kindOf { ce with scope := relabel scope env } y.1 = some .local := fun y hy hl =>
    lookup_relabel_local (h5 y (List.mem_filter.mp (List.mem_reverse.mp hy)).1 hl)
  refine wpAny_holding (wpAny_bind (wpAny_attempt (wpAny_holding (wpAny_run (codeAny_mono k4 fun r t hr => ?_)))))
  have later : ∀ y ∈ (scope.names.filter fun y => (y.2 == .local || y.2 == .cell) && y.1 != (".0" : Str)).reverse.drop 1 ++ (scope.names.filter fun y => (y.2 == .local || y.2 == .cell) && y.1 != (".0" : Str)).reverse.take 1,
      y.2 = .local → Env.kindOf { ce with scope := relabel scope env } y.1 = some .local := fun y hy hl => names y ((List.mem_append.mp hy).elim List.mem_of_mem_drop List.mem_of_mem_take) hl
  match r, use, hr with
  | .ok f, none, ⟨m, hn, go⟩ => exact wpAny_bind (wpAny_holding (wpAny_comp_letGo (cenv := { ce with scope := relabel scope env }) h4 _ t m names hn fun g _ _ sb => wpAny_pure (go g sb)))
  | .ok f, some u, hr =>
    refine wpAny_bind (wpAny_rule (wpAny_bind (wpAny_holding (wpAny_mono hr (fun _ t2 ⟨m, hn, go⟩ => ?_) fun _ _ z => z))))
    exact wpAny_bind (wpAny_comp_letGo (cenv := { ce with scope := relabel scope env }) h4 _ t2 m later hn fun g _ _ sb => wpAny_pure (go g sb))
  | .error x, none, ⟨m, hn, go⟩ => exact wpAny_bind (wpAny_holding (wpAny_comp_letGo (cenv := { ce with scope := relabel scope env }) h4 _ t m names hn fun g _ _ sb => wpAny_mono (go g sb) (fun _ _ z => z.elim) fun _ _ z => z))
  | .error x, some u, ⟨m, hn, go⟩ => exact wpAny_bind (wpAny_holding (wpAny_comp_letGo (cenv := { ce with scope := relabel scope env }) h4 _ t m names hn fun g _ _ sb => wpAny_mono (go g sb) (fun _ _ z => z.elim) fun _ _ z => z))
end
/-- the block's context, with its own wish about what is raised -/
abbrev blkX (X : Cx) (s : Shared) (H : Hp) (scope : Scope) (ce : Env) (fp : List Addr) (xe : Value → Shared → Prop) : Cx := { X.blk s H scope ce fp with xe := xe }
section
variable {X : Cx} {s0 : Shared} {H0 : Hp} {scope : Scope} {ce : Env} {fp : List Addr} {xe : Value → Shared → Prop} {pins : List (Addr × Obj)} {σ : L2.St} {H : Hp} {s : Shared}
theorem blk_to (I : Inv (X.blk s0 H0 scope ce fp) pins σ H s) : Inv (blkX X s0 H0 scope ce fp xe) pins σ H s :=
  ⟨⟨I.ok.mod, I.ok.kind, I.ok.glob, I.ok.blt, I.ok.above, I.ok.inj, I.ok.has, I.ok.cab, I.ok.hd, I.ok.frames, I.ok.stk, I.ok.exf, I.ok.bs, I.ok.bsz, I.ok.noex, I.ok.exfs, I.ok.funs, I.ok.frf⟩, I.os, I.bare, I.base, I.loc, I.cell, I.free, I.freeC, I.pin, I.hok, I.len⟩
theorem frames_but {B B' h h' : Heap} {C : Addr} (sb : Heap.SameBut C h h') (nb : ∀ b, B.get? b = none → B'.get? b = none) : ∀ {l : List Env}, h.FunFrames B l → C ∉ frs l → h'.FunFrames B' l
  | [], _, _ => trivial
  | env :: l, ⟨hk, ⟨L, o, hf, hn, ho, hd⟩, hr⟩, hC => by
    have nL : L ≠ C := fun e => hC (List.mem_filterMap.mpr ⟨env, List.mem_cons_self, e ▸ hf⟩)
    refine ⟨hk, ⟨L, o, hf, nb L hn, (sb.2 L nL).trans ho, hd⟩, frames_but sb nb hr fun hm => hC ?_⟩
    obtain ⟨e, he, q⟩ := List.mem_filterMap.mp hm
    exact List.mem_filterMap.mpr ⟨e, List.mem_cons_of_mem _ he, q⟩
end
section
variable {X : Cx} {E : XK}
/-- what the element's callee lets out flies on from the def -/
theorem passes_blk {s3 : Shared} {H3 : Hp} {scope : Scope} {ce : Env} {fp : List Addr} {pins : List (Addr × Obj)} {σ : L2.St} {use : Option (Value → Sem Unit)} {Q : Value → Shared → Prop} {acc : Value} (hs : X.stack = X.env :: X.outer) (hf : X.env.frame = some X.env.locals) (tk : Takes X fun cls d _ H => E cls d H)
    (I3 : Inv X pins σ H3 s3) (f3 : ∀ b ∈ fp, FpOk X pins H3 b) (cF : ce.frame = X.env.frame) (cL : ce.locals = s3.heap.objs.size) :
    Passes (L2.CX X.prog X.w) (blkX X s3 H3 scope ce fp (notedBy (model X.prog X.w) X.A ce fun e t => postX (model X.prog X.w) X.A X.xe use Q acc ce (.error e) t)) E := by
  intro pins' σ' H' s5 u s' I c
  obtain ⟨a0, B0, _, _, _, e0, fl0, _⟩ := id c
  subst e0
  obtain ⟨_, _, _, oe, vs, T, oT, ts, he, hz0, hd, h1, _, hTe, hT, hdT, h3⟩ := fl0
  obtain ⟨a, B, sI, pins2, σ2, H2, cls, d, e1, I2, nb, up, sky, na, os, ag, hE⟩ := L2.XE.of_call (W := fun cls d _ H => E cls d H) I (fun _ _ _ z => z) c
  cases e1
  have fl : HandSPX.FlyingZ B (X.env :: X.outer) a0 (Zc cls d) s'.heap := by
    have sky' : Sky B (X.env :: X.outer) a0 (Zc cls d) ce.locals s'.heap := hs ▸ sky
    rcases sky' with ⟨_, _, _, oe', vs', he', _, hd', h1'⟩ | z | ⟨_, _, _, oe', vs', T', oT', ts', he', _, hd', h1', _, _, hT', hdT', h3'⟩
    · rw [he] at he'
      cases he'
      rw [hd] at hd'
      cases hd'
      rw [h1] at h1'
      cases h1'
    · exact z
    · rw [he] at he'
      cases he'
      rw [hd] at hd'
      cases hd'
      rw [h1] at h1'
      cases h1'
      rw [hT] at hT'
      cases hT'
      rw [hdT] at hdT'
      cases hdT'
      rw [h3] at h3'
      cases h3'
  have frm : X.A.frames = some (X.env :: X.outer) := hs ▸ I3.ok.frames
  show wpAny (model X.prog X.w) X.A (noteFrame (.ref a0) ce) _ _ s'
  rw [note_same cF]
  refine HandSPX.looks_onZ Zc.steady frm hf fl fun g hh up1 => ?_
  -- the block's own names
  obtain ⟨m, hn, _⟩ := I2.loc
  have hn1 : g.Ns ce.locals m := up1.ns (up.ns hn)
  refine ⟨m, hn1, fun g2 sb => ?_⟩
  have dC : ∀ {b : Addr} {o : Obj} {vs : Array Value}, g.get? b = some o → o.data = .fields vs → b ≠ ce.locals := fun {b o vs} e1 e2 z => by
    obtain ⟨o', _, _, e3, e4, _⟩ := hn1
    rw [← z, e1] at e3
    cases e3
    rw [e2] at e4
    cases e4
  obtain ⟨k1, k2, k3, pe, pv, pT, poT, pts, phe, phz, phd, ph1, phn, phTe, phT, phdT, ph3⟩ := hh
  have na0 : a0 ≠ ce.locals := dC phe phd
  have nT : pT ≠ ce.locals := dC phT phdT
  have nC : ce.locals ∉ frs (X.env :: X.outer) := fun hm => by
    obtain ⟨_, o, e, _⟩ := I3.stack.mem (hs ▸ hm)
    have q := Heap.lt_size e
    rw [cL] at q
    exact absurd q (Nat.lt_irrefl _)
  -- the ground without the block
  have hid : ∀ {h : Heap} {b : Addr} {o : Obj}, (PySem.W.hideAll h [ce.locals]).get? b = some o → b ≠ ce.locals ∧ h.get? b = some o := fun {h b o} e => by
    refine ⟨fun z => ?_, PySem.W.of_hideAll _ e⟩
    have q := PySem.W.hideAll_none [ce.locals] (h := h) (b := b) (List.mem_singleton.mpr z)
    rw [q] at e
    cases e
  have st2 : (PySem.W.hideAll B [ce.locals]).StaysIn g2 := fun b o e => (sb.2 b (hid e).1).trans (k1 b o (hid e).2)
  have nB : ∀ b, B.get? b = none → (PySem.W.hideAll B [ce.locals]).get? b = none := fun b e => by
    cases q : (PySem.W.hideAll B [ce.locals]).get? b with
    | none => rfl
    | some o =>
      have z := (hid q).2
      rw [e] at z
      cases z
  have fr2 : g2.FunFrames (PySem.W.hideAll B [ce.locals]) (X.env :: X.outer) := frames_but sb nB k3 nC
  have tr2 : HandSPX.TracedZ g2 (PySem.W.hideAll B [ce.locals]) a0 (Zc cls d) (rawInt X.env.locals) := ⟨pe, pv, pT, poT, pts, (sb.2 _ na0).trans phe, phz, phd, ph1, nB _ phn, phTe, (sb.2 _ nT).trans phT, phdT, ph3⟩
  -- the state without the exception and the block
  have J0 : Inv X pins σ H2 sI := I3.call' (ch := fp) I2.os I2.base I2.hok I2.bare fun b hb => ⟨(f3 b hb).2.2.2.1, (f3 b hb).2.1, (f3 b hb).2.2.2.2.1, (f3 b hb).2.2.2.2.2⟩
  have nH : H2 s3.heap.objs.size = none := by
    have z : H2 ce.locals = none := I2.free
    rw [cL] at z
    exact z
  obtain ⟨f0, f1, _, f4, f5, f6⟩ := I3.fpOk (H' := H2) (Nat.le_refl _) nH
  have J : Inv X pins σ H2 { sI with heap := PySem.W.hideAll sI.heap [ce.locals] } := J0.turned (t' := sI.toks) (fun b o hb e => PySem.W.hideAll_get _ e fun z => hb (by rw [List.mem_singleton.mp z, cL])) f0 f1 f4 f5 f6
  show wpAny _ _ (passOn "comprehension.variables-let-go" (.ref a0) ce : Sem Value) _ _ _
  unfold PySem.passOn
  refine wpAny_bind (wpAny_field ((sb.2 _ na0).trans phe) phd ph1 ?_)
  rw [if_neg (show ¬ ((Value.ref pT == Value.none) = true) from by simp)]
  have out : wpAny (model X.prog X.w) X.A (setFlight (.ref a0) ce.frame) (fun _ t => wpAny (model X.prog X.w) X.A (throw (.ref a0) : Sem Value) (fun _ _ => False) X.xe t) X.xe { s' with heap := g2 } := by
    rw [cF, hf]
    refine HandSPX.setFlight_anyZ (fr := some X.env.locals) st2 fr2 tr2 fun g3 q1 q2 q3 up3 => wpAny_throw (tk _ _ ?_)
    refine ⟨a0, PySem.W.hideAll B [ce.locals], _, pins, σ, H2, cls, d, rfl, J, fun b o e hb => ?_, fun b o e hd => ?_, .inr (.inr ⟨q1, nB _ k2, hs ▸ q2, q3⟩), na, os, ag, hE⟩
    · exact PySem.W.hideAll_get _ (nb b o (hid e).2 hb) fun z => (hid e).1 (List.mem_singleton.mp z)
    · obtain ⟨x1, e1⟩ := up b o (hid e).2 hd
      obtain ⟨x2, e2⟩ := up1 b _ e1 hd
      exact up3 b { o with slots := x2 } ((sb.2 b (hid e).1).trans e2) hd
  first
    | exact wpAny_bind (wpAny_pure (wpAny_bind out))
    | exact wpAny_bind out
end
end Vf
namespace Vf
open PySem PySem.Spec PyProof.Rows L2
section
variable {X : Cx} {E : XK}
theorem lcR_core {pins : List (Addr × Obj)} {s : Shared} {σ : L2.St} {H : Hp} {Q : VK} {elt tg iter : Expr} {ifs : List Expr} {scope : Scope} {own : List (Str × Nat)} {pos pos' : Pos} {wi : TI} {g : TG} {tt : TT} {te : TE} {use : Option (Value → Sem Unit)} {Qf : Value → Shared → Prop} (hs : X.stack = X.env :: X.outer) (hf : X.env.frame = some X.env.locals) (tk : Takes X fun cls d _ H => E cls d H)
    (hc : X.calm = true) (hN : X.N.Nodup) (hi : PI X tg iter wi) (ok : BlkOk X.N X.env.scope scope own)
    (hg : ∀ (s : Shared) (H : Hp) (C : Addr) (cl : List (Str × Addr)) (fp : List Addr) (xe : Value → Shared → Prop), PG (blkX X s H scope (compEnvC scope cl C X.env) fp xe) tg g)
    (ht : ∀ (s : Shared) (H : Hp) (C : Addr) (cl : List (Str × Addr)) (fp : List Addr) (xe : Value → Shared → Prop), PTs (blkX X s H scope (compEnvC scope cl C X.env) fp xe) ifs tt)
    (he : ∀ (s : Shared) (H : Hp) (C : Addr) (cl : List (Str × Addr)) (fp : List Addr) (xe : Value → Shared → Prop), Passes (L2.CX X.prog X.w) (blkX X s H scope (compEnvC scope cl C X.env) fp xe) E → PE (blkX X s H scope (compEnvC scope cl C X.env) fp xe) elt te)
    (hsx : ∀ x, foldedSetIterable iter X.env x = pure x) (I : Inv X pins σ H s) (h : tLc wi g tt te (own.map (·.2)) σ H Q)
    (done : ∀ D C t m H', Inv X pins σ H' t → Q (.ref D) H' → t.heap.Ns C m → FpOk X pins H' C → compPost (model X.prog X.w) X.A X.xe use Qf (.ref D) C (.ok .next) t) :
    wpAny (model X.prog X.w) X.A (comprehension (.ListComp elt [⟨tg, iter, ifs, 0⟩] scope pos) scope X.env pos' (newList []) false (eval iter X.env) use) Qf X.xe s := by
  have clos : ∀ y ∈ scope.names, y.2 = .free → ∃ c, X.env.cells.lookup y.1 = some c := fun y hy e => by
    rcases ok.free y hy e with k | k
    · exact I.ok.has _ (Or.inl k)
    · exact I.ok.has _ (Or.inr k)
  refine comp_raising rfl hsx (closure_ok clos) ok.kind (fun y hy e => (ok.uniq y hy).trans (congrArg some e)) (thn (hi.run pins s σ H _ I h) fun _ t1 w1 => thn w1 fun _ t2 w2 => ?_)
  obtain ⟨it, fp, tn, J, H2, rfl, I2, T, st2, f2, q⟩ := w2
  refine wpAny_newObj_type (newEnv_comp ?_) (show 0 ≤ sizeLine from Nat.zero_le _)
  obtain ⟨D, hD⟩ : ∃ D, t2.heap.objs.size = D := ⟨_, rfl⟩
  rw [hD]
  obtain ⟨W, ⟨m0, w0⟩, turn⟩ := q D (I2.hok.fresh (Nat.le_of_eq hD))
  obtain ⟨t3, ht3⟩ : ∃ t3 : Shared, { t2 with heap := t2.heap.push { cls := .type "list", data := .seq ([] : List Value).toArray } } = t3 := ⟨_, rfl⟩
  have e3 : t3.heap = t2.heap.push { cls := .type "list", data := .seq ([] : List Value).toArray } := by rw [← ht3]
  have I3 : Inv X pins σ (upd H2 D (.lst [])) t3 := by
    rw [← ht3, ← hD]
    exact I2.laid (t' := t2.toks) (fun b o e => Heap.get?_push_of_some _ e) (Nat.le_refl _) ⟨Nat.zero_le _, [], 0, .nil, Heap.get?_push_size _ rfl⟩
  have lts : ∀ b ∈ fp, b < t2.heap.objs.size := fun b hb => let ⟨o, e, _⟩ := T.obj _ _ st2 b hb; Heap.lt_size e
  have f3 : ∀ b ∈ fp, FpOk X pins (upd H2 D (.lst [])) b ∧ b < t3.heap.objs.size := fun b hb => by
    have l := lts b hb
    have nD : b ≠ D := fun z => by
      rw [hD, z] at l
      exact absurd l (Nat.lt_irrefl _)
    refine ⟨⟨(upd_ne nD).trans (f2 b hb).1, (f2 b hb).2⟩, ?_⟩
    rw [e3, Heap.size_push]
    exact Nat.lt_succ_of_lt l
  have st3 : tn 0 t3.heap := T.keep _ _ _ st2 fun b _ o e => by
    rw [e3]
    exact Heap.get?_push_of_some _ e
  have I4 := block_start I3 ok hN f3
  have nfp : ∀ b ∈ fp, (upd H2 D (.lst [])) b = none := fun b hb => (f3 b hb).1.1
  rw [ht3]
  show codeAny _ _ (.compStart (.ListComp elt [⟨tg, iter, ifs, 0⟩] scope pos) 0 (.ref it) (.ref D) (compEnvC scope (cellsFrom (t3.heap.objs.size + 1) scope.names (cloFrom X.env.cells scope.names [])) t3.heap.objs.size X.env))
    (postX (model X.prog X.w) X.A X.xe use Qf (.ref D) (compEnvC scope (cellsFrom (t3.heap.objs.size + 1) scope.names (cloFrom X.env.cells scope.names [])) t3.heap.objs.size X.env)) { t3 with heap := pushCells (t3.heap.push { cls := .type "dict", data := .dict #[] }) scope.names }
  have eg := fun xe => hg t3 (upd H2 D (.lst [])) t3.heap.objs.size (cellsFrom (t3.heap.objs.size + 1) scope.names (cloFrom X.env.cells scope.names [])) fp xe
  have et := fun xe => ht t3 (upd H2 D (.lst [])) t3.heap.objs.size (cellsFrom (t3.heap.objs.size + 1) scope.names (cloFrom X.env.cells scope.names [])) fp xe
  have ee := fun xe => he t3 (upd H2 D (.lst [])) t3.heap.objs.size (cellsFrom (t3.heap.objs.size + 1) scope.names (cloFrom X.env.cells scope.names [])) fp xe
  have cF : (compEnvC scope (cellsFrom (t3.heap.objs.size + 1) scope.names (cloFrom X.env.cells scope.names [])) t3.heap.objs.size X.env).frame = X.env.frame := rfl
  have cL : (compEnvC scope (cellsFrom (t3.heap.objs.size + 1) scope.names (cloFrom X.env.cells scope.names [])) t3.heap.objs.size X.env).locals = t3.heap.objs.size := rfl
  generalize compEnvC scope (cellsFrom (t3.heap.objs.size + 1) scope.names (cloFrom X.env.cells scope.names [])) t3.heap.objs.size X.env = ce at I4 eg et ee cF cL ⊢
  generalize upd H2 D (.lst []) = H3 at I3 I4 eg et ee w0 nfp f3
  obtain ⟨t4, ht4⟩ : ∃ t4 : Shared, { t3 with heap := pushCells (t3.heap.push { cls := .type "dict", data := .dict #[] }) scope.names } = t4 := ⟨_, rfl⟩
  rw [ht4] at I4 ⊢
  have st4 : tn 0 t4.heap := T.keep _ _ _ st3 fun b _ o e => by
    rw [← ht4]
    exact pushCells_keeps _ _ _ _ (Heap.get?_push_of_some _ e)
  have ps := passes_blk (scope := scope) (use := use) (Q := Qf) (acc := .ref D) hs hf tk I3 (fun b hb => (f3 b hb).1) cF cL
  revert ps
  generalize hxe : (notedBy (model X.prog X.w) X.A ce fun e t => postX (model X.prog X.w) X.A X.xe use Qf (.ref D) ce (.error e) t) = xe
  intro ps
  have pg := eg xe
  have pt := et xe
  have pe := ee xe ps
  have stat : ∀ {σ' : L2.St} {H' : Hp} {s' : Shared}, Inv (blkX X t3 H3 scope ce fp xe) [] σ' H' s' → (∀ b ∈ fp, H' b = none) → ∀ b ∈ fp, FpOk (blkX X t3 H3 scope ce fp xe) [] H' b := fun {σ' H' s'} I' hn b hb =>
    ⟨hn b hb, (I'.ok.exf b hb).1, I'.ok.exfs b hb, Or.inl hb, fun x c e => (I'.ok.exf b hb).2 x c e, fun p hp => absurd (show p ∈ ([] : List (Addr × Obj)) ++ [] from hp) (by simp)⟩
  have loop : codeAny (model X.prog X.w) X.A (.compLoop (.ListComp elt [⟨tg, iter, ifs, 0⟩] scope pos) 0 (.ref it) (.ref D) ce) (postX (model X.prog X.w) X.A X.xe use Qf (.ref D) ce) t4 := by
    refine compLoop_any (fun n t => ∃ i H', Inv (blkX X t3 H3 scope ce fp xe) [] (wipe σ (own.map (·.2))) H' t ∧ tn i t.heap ∧ (∀ b ∈ fp, H' b = none) ∧ W i n H') ?_ m0 ⟨0, H3, blk_to I4, st4, nfp, w0⟩
    rintro n t5 ⟨i, H5, I5, st5, n5, w5⟩
    rw [hxe]
    rcases turn i n H5 w5 with ⟨stop, qq⟩ | ⟨go, Nx, hNx, step⟩
    · refine thnF (T.done (blkX X t3 H3 scope ce fp xe) rfl rfl rfl hc i [] t5 _ H5 (fun _ _ => False) I5 (stat I5 n5) st5 stop) fun r t6 ⟨hr, I6⟩ => ?_
      subst hr
      have I7 : Inv X pins σ H5 t6 := I3.call' (ch := fp) I6.os I6.base I6.hok I6.bare fun b hb => ⟨(f3 b hb).1.2.2.2.1, (f3 b hb).1.2.1, (f3 b hb).1.2.2.2.2.1, (f3 b hb).1.2.2.2.2.2⟩
      have nC : H5 t3.heap.objs.size = none := by
        have z : H5 ce.locals = none := I6.free
        rw [cL] at z
        exact z
      obtain ⟨m, hn, _⟩ := I6.loc
      have hn' : t6.heap.Ns t3.heap.objs.size m := cL ▸ hn
      show compPost _ _ _ _ _ _ ce.locals _ _
      rw [cL]
      exact done D _ t6 m H5 I7 qq hn' (I3.fpOk (Nat.le_refl _) nC)
    · refine thnF (T.item (blkX X t3 H3 scope ce fp xe) rfl rfl rfl hc i [] t5 _ H5 (fun _ _ => False) I5 (stat I5 n5) st5 go) fun r t6 ⟨u, hr, w6⟩ => ?_
      subst hr
      refine thnF w6 fun _ t7 ⟨x, H7, I7, r7, y7, st7, n7⟩ => ?_
      refine thn (pg.run _ t7 _ H7 x u _ (I7.pinned (stat I7 n7) (T.obj _ _ st7)) r7 (step x H7 y7)) fun _ t8 ⟨σ8, H8, I8, w8, q8⟩ => ?_
      refine thn (pt.run _ t8 σ8 H8 _ I8 q8) fun b t9 ⟨H9, I9, q9⟩ => ?_
      have again : ∀ {t : Shared} {H' : Hp}, Inv (blkX X t3 H3 scope ce fp xe) ([] ++ pinsAt fp t7.heap) σ8 H' t → Nx H' → ∃ m, m < n ∧ ∃ i H', Inv (blkX X t3 H3 scope ce fp xe) [] (wipe σ (own.map (·.2))) H' t ∧ tn i t.heap ∧ (∀ b ∈ fp, H' b = none) ∧ W i m H' := fun {t H'} I' nx => by
        obtain ⟨m', lm, w'⟩ := hNx H' nx
        have pinned : ∀ b ∈ fp, ∀ o, t7.heap.get? b = some o → t.heap.get? b = some o ∧ H' b = none := fun b hb o e => by
          have z := I'.pin (b, o) (List.mem_append_right _ (List.mem_append_right _ (mem_pinsAt hb e)))
          exact ⟨z.1, z.2.1⟩
        have same : (wipe σ (own.map (·.2))).length = σ8.length := by rw [← w8, wipe_length]
        refine ⟨m', lm, i + 1, H', (I'.unpinned (pins := [])).weak same (fun j v e => (wipe_some (by rw [w8]; exact e)).1), T.keep _ _ _ st7 fun b hb o e => (pinned b hb o e).1, fun b hb => ?_, w'⟩
        obtain ⟨o, e, _⟩ := T.obj _ _ st7 b hb
        exact (pinned b hb o e).2
      cases b with
      | false =>
        simp only [Bool.false_eq_true, if_false] at q9 ⊢
        exact again I9 q9
      | true =>
        simp only [if_true] at q9 ⊢
        refine thn (pe.run _ t9 σ8 H9 _ I9 q9) fun z t10 ⟨y, H10, I10, r10, acc, hacc, lacc, nx⟩ => ?_
        exact app_ok (X := blkX X t3 H3 scope ce fp xe) I10 hacc lacc r10 fun t11 I11 => again I11 nx
  exact codeAny_compStart_list loop (T.self X.A 0 _ _ _ st4 loop)
/-- [elt for target in iter if ..] in a def that may raise; the element's callee lets out E -/
theorem pe_lcR {elt tg iter : Expr} {ifs : List Expr} {scope : Scope} {own : List (Str × Nat)} {pos : Pos} {wi : TI} {g : TG} {tt : TT} {te : TE} (hs : X.stack = X.env :: X.outer) (hf : X.env.frame = some X.env.locals) (tk : Takes X fun cls d _ H => E cls d H)
    (hc : X.calm = true) (hN : X.N.Nodup) (hi : PI X tg iter wi) (ok : BlkOk X.N X.env.scope scope own)
    (hg : ∀ (s : Shared) (H : Hp) (C : Addr) (cl : List (Str × Addr)) (fp : List Addr) (xe : Value → Shared → Prop), PG (blkX X s H scope (compEnvC scope cl C X.env) fp xe) tg g)
    (ht : ∀ (s : Shared) (H : Hp) (C : Addr) (cl : List (Str × Addr)) (fp : List Addr) (xe : Value → Shared → Prop), PTs (blkX X s H scope (compEnvC scope cl C X.env) fp xe) ifs tt)
    (he : ∀ (s : Shared) (H : Hp) (C : Addr) (cl : List (Str × Addr)) (fp : List Addr) (xe : Value → Shared → Prop), Passes (L2.CX X.prog X.w) (blkX X s H scope (compEnvC scope cl C X.env) fp xe) E → PE (blkX X s H scope (compEnvC scope cl C X.env) fp xe) elt te)
    (hsx : ∀ x, foldedSetIterable iter X.env x = pure x := by intro _; rfl) : PE X (.ListComp elt [⟨tg, iter, ifs, 0⟩] scope pos) (tLc wi g tt te (own.map (·.2))) := by
  refine ⟨fun pins s σ H Q I h => ?_⟩
  rw [eval_ListComp]
  refine lcR_core hs hf tk hc hN hi ok hg ht he hsx I h fun D C t m H' J q hn ⟨p0, p1, _, p3, p4, p5⟩ => ⟨m, hn, fun g2 sb => ?_⟩
  exact ⟨.ref D, H', J.turned (t' := t.toks) (fun b o hb e => (sb.2 b hb).trans e) p0 p1 p3 p4 p5, rfl, q⟩
/-- name = [..] on one line -/
theorem ps_setLcR {i : Nat} {y : Str} {py spos : Pos} {elt tg iter : Expr} {ifs : List Expr} {scope : Scope} {own : List (Str × Nat)} {pos : Pos} {wi : TI} {g : TG} {tt : TT} {te : TE} (hy : X.N[i]? = some y) (hyl : X.env.scope.names.lookup y = some .local)
    (hsw : swapsWith (.ListComp elt [⟨tg, iter, ifs, 0⟩] scope pos) (some (.Name y py)) spos.line X.env = pure true) (hs : X.stack = X.env :: X.outer) (hf : X.env.frame = some X.env.locals) (tk : Takes X fun cls d _ H => E cls d H)
    (hc : X.calm = true) (hN : X.N.Nodup) (hi : PI X tg iter wi) (ok : BlkOk X.N X.env.scope scope own)
    (hg : ∀ (s : Shared) (H : Hp) (C : Addr) (cl : List (Str × Addr)) (fp : List Addr) (xe : Value → Shared → Prop), PG (blkX X s H scope (compEnvC scope cl C X.env) fp xe) tg g)
    (ht : ∀ (s : Shared) (H : Hp) (C : Addr) (cl : List (Str × Addr)) (fp : List Addr) (xe : Value → Shared → Prop), PTs (blkX X s H scope (compEnvC scope cl C X.env) fp xe) ifs tt)
    (he : ∀ (s : Shared) (H : Hp) (C : Addr) (cl : List (Str × Addr)) (fp : List Addr) (xe : Value → Shared → Prop), Passes (L2.CX X.prog X.w) (blkX X s H scope (compEnvC scope cl C X.env) fp xe) E → PE (blkX X s H scope (compEnvC scope cl C X.env) fp xe) elt te)
    (hsx : ∀ x, foldedSetIterable iter X.env x = pure x := by intro _; rfl) : PS X (.Assign [.Name y py] (.ListComp elt [⟨tg, iter, ifs, 0⟩] scope pos) spos) (tAsg (tLc wi g tt te (own.map (·.2))) (gName i)) := by
  refine ⟨fun pins s σ H D I h => ?_⟩
  rw [exec_Assign_Name_used _ _ _ _ hsw]
  refine wpAny_bind (wpAny_standAt (wpAny_bind ?_))
  show wpAny _ X.A (do let _ ← comprehension (.ListComp elt [⟨tg, iter, ifs, 0⟩] scope pos) scope X.env (firstIterPos [⟨tg, iter, ifs, 0⟩] pos) (newList []) false (eval iter X.env) (some (assign (.Name y py) X.env))) _ _ s
  have h1 : tLc wi g tt te (own.map (·.2)) σ H (fun x H1 => gName i x σ H1 D.nx) := h
  refine wpAny_bind (thn (lcR_core (Qf := fun _ t => SP X pins D .next t) hs hf tk hc hN hi ok hg ht he hsx I h1 fun L C t m H' J q hn p => ?_) fun _ _ z => wpAny_pure (wpAny_pure z))
  obtain ⟨p0, p1, _, p3, p4, p5⟩ := p
  refine wpAny_assign_Name (store_ok2 (v := V.ref L) J hN hy (Or.inl hyl) rfl (fun t2 J2 ⟨a, sb, ha⟩ => ?_) (Or.inr hyl))
  have nC : C ≠ a := ha.elim (fun z => z ▸ p1) fun z e => p4 y a z e.symm
  exact ⟨m, hn.sameBut sb nC, fun g2 sb2 => ⟨_, H', J2.turned (t' := t2.toks) (fun b o hb e => (sb2.2 b hb).trans e) p0 p1 p3 p4 p5, q⟩⟩
end
end Vf
namespace Vf
open PySem PySem.Spec PyProof.Rows L2 LamX
/-! ### lambdas that are kept, and called later -/
/-- at f: a lambda of this text, its captured cells, its code object at c' -/
def LamO (f : Addr) (q : Str) (params : Arguments) (body : Expr) (scope : Scope) (cl : List (Str × Addr)) (c' : Addr) : HO := .ext fun h => ∃ pm ctv : Value, h.get? f = some (PySem.W.kla_obj "<lambda>" q params body scope cl pm c' ctv)
theorem lamO_ok {P : Program} {w : World} {H : Hp} {h : Heap} {f c' : Addr} {q : Str} {params : Arguments} {body : Expr} {scope : Scope} {cl : List (Str × Addr)} {pm ctv : Value} (e : h.get? f = some (PySem.W.kla_obj "<lambda>" q params body scope cl pm c' ctv)) :
    ObjOk P w H h f (LamO f q params body scope cl c') :=
  ⟨⟨pm, ctv, e⟩, ⟨_, e⟩, fun _ _ ⟨pm, ctv, e'⟩ k => ⟨pm, ctv, k _ e'⟩⟩
section
variable {X : Cx} {pins : List (Addr × Obj)} {σ : L2.St} {H : Hp} {s : Shared}
/-- the lambda is made and told -/
theorem lam_make3 {T : List (Addr × Str)} {c P : Addr} {params : Arguments} {body : Expr} {scope : Scope} {pos : Pos} {E : Value → Shared → Prop} {Q : Value → Shared → Prop} (I : Inv X pins σ H s) (TB : TabB X.base X.mg c P) (hcode : X.env.code = .ref c)
    (hm : (P, X.env.qual ++ "<lambda>") ∈ T) (hu : ∀ p ∈ T, p.1 = P → p.2 = X.env.qual ++ "<lambda>") (hT : Tabs T H) (hdef : defaultsOf params X.env = ([], [])) (hfree : ∀ y ∈ scope.names, y.2 = .free → ∃ c, X.env.cells.lookup y.1 = some c)
    (h : ∀ (f c' : Addr) (H1 : Hp) (s' : Shared), Inv X pins σ H1 s' → ExtN H H1 → Tabs T H1 → H f = none →
      H1 f = some (LamO f (X.env.qual ++ "<lambda>") params body scope (cloFrom X.env.cells scope.names []) c') → H1 c' = some (CodeO c' (X.env.qual ++ "<lambda>")) → Q (.ref f) s') :
    wpAny (model X.prog X.w) X.A (eval (.Lambda params body scope pos) X.env) Q E s := by
  obtain ⟨ps, hP, ht, ha⟩ := hT _ hm
  refine PySem.W.kla_eval hdef ?_
  have bP : s.heap.BuiltinsAt X.mg P := TB.bm.keeps I.bk
  have hP' : s.heap.get? P = some { cls := .none, data := .fields ps } := I.hok P _ hP
  cases hc : codeAmong pos ps.toList with
  | none =>
    refine PySem.W.kla_makeFunction (mg := X.mg) (c := c) (P := P) (ps := ps) (closure_ok hfree) I.ok.glob (I.mod.glob.keeps I.bk) hcode (TB.code.keeps I.bk) hP' ht hc TB.gP bP fun c' ctv h' tk hx hge hlt hrec htb => ?_
    obtain ⟨c2, oc, vs, t, e2, hoc, hd, hv⟩ := hrec
    cases e2
    have hsz : s.heap.objs.size ≤ h'.objs.size := Nat.le_trans hge (Nat.le_of_lt hlt)
    have nC : H c' = none := I.hok.fresh hge
    have I1 := inv_table (t' := tk) (more := #[rawInt pos.line, rawInt pos.col, .ref c']) (h' := h') I hP (fun b o hb e => hx b o hb e) htb hge ⟨oc, vs, t, hoc, hd, hv⟩
    have hE : ExtN H (upd (upd H P (.tbl (ps ++ #[rawInt pos.line, rawInt pos.col, .ref c']))) c' (CodeO c' (X.env.qual ++ "<lambda>"))) := fun b o e n => by
      rw [upd_ne (ne_of_none e nC), upd_ne (fun z => n ps (Option.some.inj (e.symm.trans (by rw [z]; exact hP))))]
      exact e
    have eL : (ps ++ #[rawInt pos.line, rawInt pos.col, .ref c']).toList = ps.toList ++ [rawInt pos.line, rawInt pos.col, .ref c'] := by simp
    have T1 : Tabs T (upd (upd H P (.tbl (ps ++ #[rawInt pos.line, rawInt pos.col, .ref c']))) c' (CodeO c' (X.env.qual ++ "<lambda>"))) := fun p hp => by
      by_cases hb : p.1 = P
      · rw [hu p hp hb, hb]
        refine ⟨_, by rw [upd_ne (ne_of_none hP nC), upd_same], by rw [eL]; exact PySem.TriplesOk_snoc _ _ _ _ ht, fun p' cv hcv => ?_⟩
        rw [eL] at hcv
        rcases among_app _ ht hcv with z | z
        · obtain ⟨c0, e1, e2⟩ := ha p' cv z
          exact ⟨c0, e1, hE _ _ e2 codeO_ne⟩
        · exact ⟨c', z, upd_same⟩
      · obtain ⟨ps', a1, a2, a3⟩ := hT p hp
        refine ⟨ps', by rw [upd_ne (ne_of_none a1 nC), upd_ne hb]; exact a1, a2, fun p' cv hcv => ?_⟩
        obtain ⟨c0, e1, e2⟩ := a3 p' cv hcv
        exact ⟨c0, e1, hE _ _ e2 codeO_ne⟩
    have atC : upd (upd H P (.tbl (ps ++ #[rawInt pos.line, rawInt pos.col, .ref c']))) c' (CodeO c' (X.env.qual ++ "<lambda>")) c' = some (CodeO c' (X.env.qual ++ "<lambda>")) := upd_same
    revert I1 hE T1 atC
    generalize upd (upd H P (.tbl (ps ++ #[rawInt pos.line, rawInt pos.col, .ref c']))) c' (CodeO c' (X.env.qual ++ "<lambda>")) = H1
    intro I1 hE T1 atC
    have nf : H1 h'.objs.size = none := I1.hok.fresh (Nat.le_refl _)
    have sm : Same H1 (upd H1 h'.objs.size (LamO h'.objs.size (X.env.qual ++ "<lambda>") params body scope (cloFrom X.env.cells scope.names []) c')) := same_new nf
    have I2 := I1.laid (t' := tk) (o := LamO h'.objs.size (X.env.qual ++ "<lambda>") params body scope (cloFrom X.env.cells scope.names []) c') (h' := h'.push (PySem.W.kla_obj "<lambda>" (X.env.qual ++ "<lambda>") params body scope (cloFrom X.env.cells scope.names []) ((X.mg "__name__").getD .none) c' ctv)) (fun b o e => Heap.get?_push_of_some _ e) (Nat.le_refl _) (lamO_ok (Heap.get?_push_size _ rfl))
    exact h h'.objs.size c' _ _ I2 (hE.trans (ExtN.of sm)) (T1.ext sm) (I.hok.fresh hsz) upd_same (sm _ _ atC)
  | some cv =>
    obtain ⟨c', e, hco⟩ := ha pos cv hc
    subst e
    refine PySem.W.kla_makeFunctionHit (mg := X.mg) (c := c) (P := P) (ps := ps) (closure_ok hfree) I.ok.glob (I.mod.glob.keeps I.bk) hcode (TB.code.keeps I.bk) hP' ht hc bP fun ctv h' tk hx hsz => ?_
    have nf : H h'.objs.size = none := I.hok.fresh hsz
    have sm : Same H (upd H h'.objs.size (LamO h'.objs.size (X.env.qual ++ "<lambda>") params body scope (cloFrom X.env.cells scope.names []) c')) := same_new nf
    have I2 : Inv X pins σ (upd H h'.objs.size (LamO h'.objs.size (X.env.qual ++ "<lambda>") params body scope (cloFrom X.env.cells scope.names []) c')) { s with heap := h'.push (PySem.W.kla_obj "<lambda>" (X.env.qual ++ "<lambda>") params body scope (cloFrom X.env.cells scope.names []) ((X.mg "__name__").getD .none) c' ctv), toks := tk } :=
      I.laid (t' := tk) (fun b o e => Heap.get?_push_of_some _ (hx b o e)) hsz (lamO_ok (Heap.get?_push_size _ rfl))
    exact h h'.objs.size c' _ _ I2 (ExtN.of sm) (hT.ext sm) nf upd_same (sm _ _ hco)
/-- a lambda as a value: told from then on -/
def tMk (T : List (Addr × Str)) (q : Str) (params : Arguments) (body : Expr) (scope : Scope) (cells : List (Str × Addr)) : TE := fun _ H Q => Tabs T H ∧ ∀ (f c' : Addr) (H1 : Hp), ExtN H H1 → Tabs T H1 → H f = none →
  H1 f = some (LamO f q params body scope (cloFrom cells scope.names []) c') → H1 c' = some (CodeO c' q) → Q (.ref f) H1
theorem pe_lam {T : List (Addr × Str)} {c P : Addr} {params : Arguments} {body : Expr} {scope : Scope} {pos : Pos} (TB : TabB X.base X.mg c P) (hcode : X.env.code = .ref c)
    (hm : (P, X.env.qual ++ "<lambda>") ∈ T) (hu : ∀ p ∈ T, p.1 = P → p.2 = X.env.qual ++ "<lambda>") (L : LamS X.env.scope scope) (hdef : defaultsOf params X.env = ([], [])) :
    PE X (.Lambda params body scope pos) (tMk T (X.env.qual ++ "<lambda>") params body scope X.env.cells) :=
  ⟨fun pins s σ H Q I h => lam_make3 I TB hcode hm hu h.1 hdef (L.has I.ok) fun f c' H1 s' I1 eN T1 nf hf hc => ⟨.ref f, H1, I1, rfl, h.2 f c' H1 eN T1 nf hf hc⟩⟩
end
/-! ### such a lambda called: the maker's state is that at which the block began -/
section
variable {X : Cx} {pins : List (Addr × Obj)} {σ : L2.St} {H HZ : Hp} {s s1 : Shared}
theorem lam_start3 {A : Around} {outer : List Env} {E : XK} {scope : Scope} {f c' : Addr} {h₁ : Heap} {tk : Nat} {fs ex : List Addr} (I : Inv X pins σ H s) (L : LamS X.env.scope scope) (e0 : Env0 X.prog X.w X.K X.mg X.base A outer s1 HZ) (hd : A.handled = none)
    (un : Un fs ex H HZ s.heap s1.heap) (hx : ∀ y c, X.env.cells.lookup y = some c → c ∉ ex) (hns : h₁.Ns s1.heap.objs.size fun y => ([] : List (Str × Value)).reverse.lookup y) (kp : ∀ b o, s1.heap.get? b = some o → h₁.get? b = some o) :
    Inv (lamCx X A outer s1 HZ E scope f c') [] σ HZ { s1 with heap := h₁, toks := tk } := by
  have hfree := L.has I.ok
  have cm : ∀ {y c}, (cloFrom X.env.cells scope.names []).lookup y = some c → X.env.cells.lookup y = some c := fun {y c} e => by
    rcases cloFrom_mem (PySem.mem_of_lookup e) with hm | ⟨h1, h2⟩
    · cases hm
    · obtain ⟨c1, hc⟩ := hfree _ h1 rfl
      have hc : X.env.cells.lookup y = some c1 := hc
      have e2 : c = c1 := by
        rw [h2, hc] <;> rfl
      rw [e2]
      exact hc
  have look : ∀ {y}, scope.names.lookup y = some .free → ∃ c, (cloFrom X.env.cells scope.names []).lookup y = some c := fun {y} hl => by
    have hy : (y, NameKind.free) ∈ scope.names := PySem.mem_of_lookup hl
    exact mem_lookup (cloFrom_has (cells := X.env.cells) (acc := []) hy)
  have cellK : ∀ {y : Str} {c : Addr} {v : Option Value}, X.env.cells.lookup y = some c → s.heap.IsCell c v → h₁.IsCell c v := fun {y c v} n ⟨o, ho, hd⟩ => by
    obtain ⟨sl, q⟩ := un.any ho (I.freeC y c n) (hx y c n)
    exact ⟨_, kp _ _ q, hd⟩
  have noA : ∀ b : Addr, b ∉ (lamCx X A outer s1 HZ E scope f c').ex := fun b z => absurd (show b ∈ ([] : List Addr) from z) (by simp)
  refine ⟨⟨e0.mod, L.kind, rfl, rfl, Nat.le_refl _, fun y z c e1 e2 => I.ok.inj y z c (cm e1) (cm e2), fun y hy => ?_, fun y c z _ => ?_, fun _ => hd, Around.frames_deeper e0.frames, .inr ⟨rfl, rfl⟩, fun b z => absurd z (noA b), e0.bs, e0.bsz, fun b _ _ => noA b,
      fun b z => absurd z (noA b), e0.funs, e0.frf⟩,
    rfl, e0.bare, Un.kept kp, ⟨_, hns, fun i y v e1 e2 e3 => ?_⟩, fun y c e => ?_, e0.hok.fresh (Nat.le_refl _), fun y c e => ?_, fun q hq => absurd (show q ∈ ([] : List (Addr × Obj)) ++ [] from hq) (by simp), e0.hok.kept kp, I.len⟩
  · have hy : scope.names.lookup y = some .cell ∨ scope.names.lookup y = some .free := hy
    rcases hy with hy | hy
    · exact absurd rfl (L.own _ (PySem.mem_of_lookup hy)).2
    · exact look hy
  · have z : false = true := z
    cases z
  · have e3 : Vis scope y := e3
    rcases e3 with k | k | k
    · exact absurd rfl (L.own _ (PySem.mem_of_lookup k)).1
    · exact absurd rfl (L.own _ (PySem.mem_of_lookup k)).2
    · obtain ⟨m, hn, hl⟩ := I.loc
      have hvis : Vis X.env.scope y := (L.free _ (PySem.mem_of_lookup k) rfl).elim (fun k => .inr (.inl k)) (fun k => .inr (.inr k))
      obtain ⟨w', r, q⟩ := hl i y v e1 e2 hvis
      obtain ⟨c2, h2⟩ := look k
      refine ⟨w', r, .inr ⟨.inr k, c2, h2, ?_⟩⟩
      have c1 := cm h2
      rcases q with ⟨k', _⟩ | ⟨_, c3, e', z⟩
      · have k' : X.env.scope.names.lookup y = some .local := k'
        rcases L.free _ (PySem.mem_of_lookup k) rfl with k2 | k2 <;> rw [show X.env.scope.names.lookup y = _ from k2] at k' <;> cases k'
      · rw [c1] at e'
        cases e'
        exact cellK c1 z
  · obtain ⟨w', z⟩ := I.cell y c (cm e)
    exact ⟨w', cellK (cm e) z⟩
  · obtain ⟨v, o, ho, hd⟩ := I.cell y c (cm e)
    exact un.free c o ho (I.freeC y c (cm e)) (hx y c (cm e))
/-- what is known of a lambda that X makes: its text and its reading -/
structure LamD (X : Cx) (k : Nat) where
  params : Arguments
  body : Expr
  scope : Scope
  t : XK → TE
  L : LamS X.env.scope scope
  bind : ∀ (q : Str) (cl : List (Str × Addr)) (pm cv ctv : Value), bindArgs (PySem.W.kla_fn "<lambda>" q params body scope cl pm cv ctv) ⟨[], []⟩ = pure []
  run : ∀ (A : Around) (outer : List Env) (s : Shared) (H : Hp) (E : XK) (f c' : Addr), Room k (A.deeper (lamEnv X scope s.heap.objs.size f c')) → PE (lamCx X A outer s H E scope f c') body (t E)
/-- at f stands a lambda with this reading -/
def LamAt (X : Cx) (k : Nat) (H : Hp) (f : Addr) (D : LamD X k) : Prop := ∃ c', H f = some (LamO f (X.env.qual ++ "<lambda>") D.params D.body D.scope (cloFrom X.env.cells D.scope.names []) c') ∧ H c' = some (CodeO c' (X.env.qual ++ "<lambda>"))
theorem LamAt.same {X : Cx} {k : Nat} {H H' : Hp} {f : Addr} {D : LamD X k} (h : LamAt X k H f D) (s : Same H H') : LamAt X k H' f D := by
  obtain ⟨c', h1, h2⟩ := h
  exact ⟨c', s _ _ h1, s _ _ h2⟩
theorem LamAt.ext {X : Cx} {k : Nat} {H H' : Hp} {f : Addr} {D : LamD X k} (h : LamAt X k H f D) (s : ExtN H H') : LamAt X k H' f D := by
  obtain ⟨c', h1, h2⟩ := h
  exact ⟨c', s _ _ h1 (fun ps z => by unfold LamO at z; cases z), s _ _ h2 codeO_ne⟩
/-- a(), in the def that got the lambda; that def was entered at s2 from the frames st, X's own state was known at s -/
theorem pe_act3 {CXg : CXT} {Eg : XK} {Ng : List Str} {qg : Str} {sg : Scope} {g f : Addr} {cdg : Value} {k i : Nat} {a : Str} {pn : List (Addr × Obj)} {xe : Value → Shared → Prop} {W : WX} {E : XK} {p1 p2 : Pos} {s2 : Shared} {H2 : Hp} {A0 : Around} {st : List Env} {ex : List Addr} {c' : Addr}
    (I : Inv X pins σ H s) (D : LamD X k) (un : Un (frs st) ex H H2 s.heap s2.heap) (hx : ∀ y c, X.env.cells.lookup y = some c → c ∉ ex)
    (tk : Takes ((cxOf CXg X.prog X.w X.K X.mg X.base Ng qg sg g cdg A0 st s2 H2 Eg).tr pn xe) W) (hW : ∀ cls d σ' H', E cls d H' → W cls d σ' H') (hr : Room (k + 1) (A0.deeper (envOfC qg sg s2.heap.objs.size g cdg)))
    (hN : Ng[i]? = some a) (hv : Vis sg a) (hd : (a == ("__debug__" : Str)) = false := by decide) (hcd : (a == ("__classdict__" : Str)) = false := by decide) :
    PE ((cxOf CXg X.prog X.w X.K X.mg X.base Ng qg sg g cdg A0 st s2 H2 Eg).tr pn xe) (.Call (.Name a p1) [] [] p2)
      (fun σZ HZ Q => σZ[i]? = some (some (.ref f)) ∧ (HZ f = some (LamO f (X.env.qual ++ "<lambda>") D.params D.body D.scope (cloFrom X.env.cells D.scope.names []) c') ∧ HZ c' = some (CodeO c' (X.env.qual ++ "<lambda>"))) ∧ D.t E σ HZ Q) := by
  refine ⟨fun pinsZ sZ σZ HZ Q IZ h => ?_⟩
  obtain ⟨hs, ⟨hf, hc⟩, ht⟩ := h
  refine wpAny_Call_Name_kw (thn ((pe_var (pos := p1) (i := i) hN hv hd hcd).run pinsZ sZ σZ HZ (fun v H1 => v = .ref f ∧ H1 = HZ) IZ ⟨.ref f, hs, rfl, rfl⟩) fun u s1 ⟨v, H1, I1, r1, q1⟩ => ?_)
  obtain ⟨ev, eH⟩ := q1
  subst ev
  rw [eH] at I1
  obtain rfl : u = Value.ref f := r1
  obtain ⟨⟨pm, ctv, of1⟩, _, _⟩ := I1.hok f _ hf
  refine PySem.W.callWith_F0 ⟨_, _, _, _, of1⟩ ?_
  have un2 : Un (frs st) ex H2 HZ s2.heap s1.heap := (show Un (frs st) [] H2 HZ s2.heap s1.heap from I1.base).mono (fun _ z => z) (fun _ z => nomatch z)
  have un3 := un.trans un2
  obtain ⟨⟨oc, vs, t, hoc, hdc, hvc⟩, _, _⟩ := I1.hok c' _ hc
  have rc : codeAny (model X.prog X.w) (A0.deeper (envOfC qg sg s2.heap.objs.size g cdg)) (.call (.ref f) ⟨[], []⟩) (CR (L2.CX X.prog X.w) (envOfC qg sg s2.heap.objs.size g cdg :: st) X.prog X.w HZ s1 Q E) s1 := by
    refine PySem.W.kla_callFunE hr.depth of1 rfl D.L.co D.L.gen rfl ⟨c', oc, vs, t, rfl, hoc, hdc, hvc⟩ ?_
    rw [D.bind]
    refine wpAny_pure (wpAny_newFunctionEnv (fun y hy => (D.L.own y hy).2) (fun y hy => absurd hy (by simp)) (fun h₁ hns hsb => ⟨I1.nolimit.fresh _ hsb, ?_⟩) D.L.kind)
    show codeAny _ _ (.expr D.body (lamEnv X D.scope s1.heap.objs.size f c')) _ _
    have kp : ∀ b o, s1.heap.get? b = some o → h₁.get? b = some o := fun b o e => hsb.extBut b o (Nat.ne_of_lt (Heap.lt_size e)) (Heap.get?_push_of_some _ e)
    have J : Inv (lamCx X (A0.deeper (envOfC qg sg s2.heap.objs.size g cdg)) (envOfC qg sg s2.heap.objs.size g cdg :: st) s1 HZ E D.scope f c') [] σ HZ { s1 with heap := h₁, toks := s1.toks + ([] : List (Str × Value)).length } :=
      lam_start3 I D.L I1.env0 hr.hd un3 hx hns kp
    refine PySem.W.kla_codeExpr (wpAny_mono ((D.run _ _ s1 HZ E f c' (hr.deeper _)).run [] _ _ HZ Q J ht) (fun v s' hq => ?_) fun e s' hq => hq)
    obtain ⟨w', H', J', rv, q⟩ := hq
    exact ⟨w', H', J'.os, J'.bare, J'.base, J'.hok, rv, q⟩
  have hx : Passes (L2.CX X.prog X.w) ((cxOf CXg X.prog X.w X.K X.mg X.base Ng qg sg g cdg A0 st s2 H2 Eg).tr pn xe) E := passes_call tk hW
  refine wpAny_call (codeAny_mono rc fun r s' hq => ?_)
  cases r with
  | error e => exact hx pinsZ σZ HZ s1 e s' I1 hq
  | ok fl =>
    cases fl with
    | ret u => exact I1.after hq
    | next => exact False.elim hq
    | brk => exact False.elim hq
    | cont => exact False.elim hq
end
/-- the def that calls what it got, of any lambda that is told by HO o at f -/
def GivesV (Y : Cx) (Ng : List Str) (x : Str) (sg : Scope) (g : Addr) (cdg : Value) (bg : List Stmt) (a : Str) (TT : (XK → Hp → VK → Prop) → Hp → VK → Prop) : Prop :=
  ∀ (f : Addr) (Ph : Hp → Prop) (s : Shared) (H : Hp) (Q : VK) (tl : XK → Hp → VK → Prop),
    (∀ (W : WX) (pn : List (Addr × Obj)) (xe : Value → Shared → Prop) (E : XK) (p1 p2 : Pos), Takes ((cxOf C8.CX0 Y.prog Y.w Y.K Y.mg Y.base Ng x sg g cdg Y.A Y.stack s H C8.E0).tr pn xe) W → (∀ cls d σ' H', E cls d H' → W cls d σ' H') →
      PE ((cxOf C8.CX0 Y.prog Y.w Y.K Y.mg Y.base Ng x sg g cdg Y.A Y.stack s H C8.E0).tr pn xe) (.Call (.Name a p1) [] [] p2) (fun σZ HZ Q => σZ[0]? = some (some (.ref f)) ∧ Ph HZ ∧ tl E HZ Q)) →
    Ph H → TT tl H Q →
    ∃ t, PSs (cxOf C8.CX0 Y.prog Y.w Y.K Y.mg Y.base Ng x sg g cdg Y.A Y.stack s H C8.E0).nox bg t ∧ t { nx := fun _ H' => Q .non H', rt := Q } (L2.start Ng [.ref f]) H
/-- x(e) in a block of X, e a lambda that X made -/
def tLamV (X : Cx) (k : Nat) (σ0 : L2.St) (TT : (XK → Hp → VK → Prop) → Hp → VK → Prop) (te : TE) : TE := fun σ H Q => te σ H fun v H1 => ∃ (f : Addr) (D : LamD X k), v = .ref f ∧ LamAt X k H1 f D ∧ TT (fun E H' Q' => D.t E σ0 H' Q') H1 Q
section
variable {X : Cx} {s3 : Shared} {H3 : Hp} {scope : Scope} {ce : Env} {fp : List Addr} {xe : Value → Shared → Prop} {pins3 : List (Addr × Obj)} {σ3 : L2.St}
theorem pe_lamV {TT : (XK → Hp → VK → Prop) → Hp → VK → Prop} {x a : Str} {g : Addr} {k : Nat} {pg : Arguments} {bg : List Stmt} {sg : Scope} {dV kV doc pm cdv ct oc : Value} {an od : Option Addr} {osl : Array (Option Value)} {Ng : List Str} {e : Expr} {te : TE} {p pos : Pos}
    (I3 : Inv X pins3 σ3 H3 s3) (hfp : ∀ b ∈ fp, FpOk X pins3 H3 b)
    (hg : Gl (blkX X s3 H3 scope ce fp xe) x) (hm : X.mg x = some (.ref g)) (hk : PySem.W.keepIn X.K (.ref g) = true)
    (lk : X.K.lookup g = some ⟨oc, od, .func (PySem.W.fnOf x x pg bg sg dV kV doc pm an cdv ct), osl⟩) (hcg : PySem.W.codeIn X.K cdv x = true) (hb : L2.Binds X.K (PySem.W.fnOf x x pg bg sg dV kV doc pm an cdv ct) [a] []) (Sg : FnScope Ng [a] sg) (hNg : Ng[0]? = some a) (hva : Vis sg a)
    (hG : GivesV (blkX X s3 H3 scope ce fp xe) Ng x sg g cdv bg a TT) (hr : Room (k + 2) X.A) (he : PE (blkX X s3 H3 scope ce fp xe) e te)
    (hdb : (x == ("__debug__" : Str)) = false := by decide) (hd : (a == ("__debug__" : Str)) = false := by decide) (hcd : (a == ("__classdict__" : Str)) = false := by decide)
    (hest : starEach [e] ce = (false, eval e ce) :: starEach [] ce := by rfl) (hpl : (backTo pos (starEach [] ce)).any (·.1) = false := by rfl) :
    PE (blkX X s3 H3 scope ce fp xe) (.Call (.Name x p) [e] [] pos) (tLamV X k σ3 TT te) := by
  refine ⟨fun pins s σ H Q I h => ?_⟩
  refine wpAny_Call_Name_kw (ld_glob I hg hm ?_ hdb)
  obtain ⟨Z, hZ⟩ : ∃ Z : List V → Hp → Prop, Z = fun (vs : List V) (H1 : Hp) => match vs with
    | [v] => ∃ (f : Addr) (D : LamD X k), v = .ref f ∧ LamAt X k H1 f D ∧ TT (fun E H' Q' => D.t E σ3 H' Q') H1 Q
    | _ => False := ⟨_, rfl⟩
  have h' : tCons te tNil σ H Z := by
    subst hZ
    exact h
  refine PySem.W.callWith_K (h₀ := X.base) I.ok.mod.kin hk (thn ((pa_cons he pa_nil (hs := hest)).run pos pins s σ H Z I h') fun us s1 ⟨vs, H1, I1, r, q⟩ => ⟨I1.kIn, ?_⟩) hest hpl
  subst hZ
  match vs, q with
  | [v], q =>
    obtain ⟨f, D, ev, ⟨c', hf, hc⟩, ht⟩ := q
    rw [ev] at r
    rw [Vals.ref1 r]
    have un1 : Un (frs X.stack) fp H3 H1 s3.heap s1.heap := I1.base
    have hx : ∀ y c, X.env.cells.lookup y = some c → c ∉ fp := fun y c e z => (hfp c z).2.2.2.2.1 y c e rfl
    have rc : codeAny (model X.prog X.w) X.A (.call (.ref g) ⟨[.ref f], []⟩) (CR C8.CX0 X.stack X.prog X.w H1 s1 Q C8.E0) s1 := by
      refine run_ofS (N := Ng) (ps := [a]) (us := [.ref f]) (vs := [.ref f]) lk hcg Sg hr I1.env0 (hb s1 [.ref f] I1.kIn rfl) (.cons rfl .nil) rfl fun hr' => ?_
      obtain ⟨t', ht', hq'⟩ := hG f (fun HZ => HZ f = some (LamO f (X.env.qual ++ "<lambda>") D.params D.body D.scope (cloFrom X.env.cells D.scope.names []) c') ∧ HZ c' = some (CodeO c' (X.env.qual ++ "<lambda>"))) s1 H1 Q (fun E H' Q' => D.t E σ3 H' Q') (fun W pn xe E p1 p2 tk hW => pe_act3 (i := 0) I3 D un1 hx tk hW hr' hNg hva hd hcd) ⟨hf, hc⟩ ht
      exact ⟨t', ht'.nox, hq'⟩
    refine wpAny_call (codeAny_mono rc fun r s2 hq => ?_)
    cases r with
    | error e => exact (show False from hq).elim
    | ok fl =>
      cases fl with
      | ret u => exact I1.after hq
      | next => exact False.elim hq
      | brk => exact False.elim hq
      | cont => exact False.elim hq
end
end Vf
namespace Vf
open PySem PySem.Spec PyProof.Rows L2
/-! ### a comprehension whose tests know the state of the def at its start -/
section
variable {X : Cx}
theorem lcM_core {pins : List (Addr × Obj)} {s : Shared} {σ : L2.St} {H : Hp} {Q : VK} {elt tg iter : Expr} {ifs : List Expr} {scope : Scope} {own : List (Str × Nat)} {pos pos' : Pos} {wi : TI} {g : TG} {tt : L2.St → TT} {te : TE} {use : Option (Value → Sem Unit)} {Qf : Value → Shared → Prop}
    (hc : X.calm = true) (hN : X.N.Nodup) (hi : PI X tg iter wi) (ok : BlkOk X.N X.env.scope scope own)
    (hg : ∀ (s : Shared) (H : Hp) (C : Addr) (cl : List (Str × Addr)) (fp : List Addr) (xe : Value → Shared → Prop), PG (blkX X s H scope (compEnvC scope cl C X.env) fp xe) tg g)
    (ht : ∀ (s : Shared) (H : Hp) (C : Addr) (cl : List (Str × Addr)) (fp : List Addr) (xe : Value → Shared → Prop) (pins : List (Addr × Obj)) (σ : L2.St), Inv X pins σ H s → (∀ b ∈ fp, FpOk X pins H b) → PTs (blkX X s H scope (compEnvC scope cl C X.env) fp xe) ifs (tt σ))
    (he : ∀ (s : Shared) (H : Hp) (C : Addr) (cl : List (Str × Addr)) (fp : List Addr) (xe : Value → Shared → Prop), PE (blkX X s H scope (compEnvC scope cl C X.env) fp xe) elt te)
    (hsx : ∀ x, foldedSetIterable iter X.env x = pure x) (I : Inv X pins σ H s) (h : tLc wi g (tt σ) te (own.map (·.2)) σ H Q)
    (done : ∀ D C t m H', Inv X pins σ H' t → Q (.ref D) H' → t.heap.Ns C m → FpOk X pins H' C → compPost (model X.prog X.w) X.A X.xe use Qf (.ref D) C (.ok .next) t) :
    wpAny (model X.prog X.w) X.A (comprehension (.ListComp elt [⟨tg, iter, ifs, 0⟩] scope pos) scope X.env pos' (newList []) false (eval iter X.env) use) Qf X.xe s := by
  have clos : ∀ y ∈ scope.names, y.2 = .free → ∃ c, X.env.cells.lookup y.1 = some c := fun y hy e => by
    rcases ok.free y hy e with k | k
    · exact I.ok.has _ (Or.inl k)
    · exact I.ok.has _ (Or.inr k)
  refine comp_raising rfl hsx (closure_ok clos) ok.kind (fun y hy e => (ok.uniq y hy).trans (congrArg some e)) (thn (hi.run pins s σ H _ I h) fun _ t1 w1 => thn w1 fun _ t2 w2 => ?_)
  obtain ⟨it, fp, tn, J, H2, rfl, I2, T, st2, f2, q⟩ := w2
  refine wpAny_newObj_type (newEnv_comp ?_) (show 0 ≤ sizeLine from Nat.zero_le _)
  obtain ⟨D, hD⟩ : ∃ D, t2.heap.objs.size = D := ⟨_, rfl⟩
  rw [hD]
  obtain ⟨W, ⟨m0, w0⟩, turn⟩ := q D (I2.hok.fresh (Nat.le_of_eq hD))
  obtain ⟨t3, ht3⟩ : ∃ t3 : Shared, { t2 with heap := t2.heap.push { cls := .type "list", data := .seq ([] : List Value).toArray } } = t3 := ⟨_, rfl⟩
  have e3 : t3.heap = t2.heap.push { cls := .type "list", data := .seq ([] : List Value).toArray } := by rw [← ht3]
  have I3 : Inv X pins σ (upd H2 D (.lst [])) t3 := by
    rw [← ht3, ← hD]
    exact I2.laid (t' := t2.toks) (fun b o e => Heap.get?_push_of_some _ e) (Nat.le_refl _) ⟨Nat.zero_le _, [], 0, .nil, Heap.get?_push_size _ rfl⟩
  have lts : ∀ b ∈ fp, b < t2.heap.objs.size := fun b hb => let ⟨o, e, _⟩ := T.obj _ _ st2 b hb; Heap.lt_size e
  have f3 : ∀ b ∈ fp, FpOk X pins (upd H2 D (.lst [])) b ∧ b < t3.heap.objs.size := fun b hb => by
    have l := lts b hb
    have nD : b ≠ D := fun z => by
      rw [hD, z] at l
      exact absurd l (Nat.lt_irrefl _)
    refine ⟨⟨(upd_ne nD).trans (f2 b hb).1, (f2 b hb).2⟩, ?_⟩
    rw [e3, Heap.size_push]
    exact Nat.lt_succ_of_lt l
  have st3 : tn 0 t3.heap := T.keep _ _ _ st2 fun b _ o e => by
    rw [e3]
    exact Heap.get?_push_of_some _ e
  have I4 := block_start I3 ok hN f3
  have nfp : ∀ b ∈ fp, (upd H2 D (.lst [])) b = none := fun b hb => (f3 b hb).1.1
  rw [ht3]
  show codeAny _ _ (.compStart (.ListComp elt [⟨tg, iter, ifs, 0⟩] scope pos) 0 (.ref it) (.ref D) (compEnvC scope (cellsFrom (t3.heap.objs.size + 1) scope.names (cloFrom X.env.cells scope.names [])) t3.heap.objs.size X.env))
    (postX (model X.prog X.w) X.A X.xe use Qf (.ref D) (compEnvC scope (cellsFrom (t3.heap.objs.size + 1) scope.names (cloFrom X.env.cells scope.names [])) t3.heap.objs.size X.env)) { t3 with heap := pushCells (t3.heap.push { cls := .type "dict", data := .dict #[] }) scope.names }
  have eg := fun xe => hg t3 (upd H2 D (.lst [])) t3.heap.objs.size (cellsFrom (t3.heap.objs.size + 1) scope.names (cloFrom X.env.cells scope.names [])) fp xe
  have et := fun xe => ht t3 (upd H2 D (.lst [])) t3.heap.objs.size (cellsFrom (t3.heap.objs.size + 1) scope.names (cloFrom X.env.cells scope.names [])) fp xe pins σ I3 fun b hb => (f3 b hb).1
  have ee := fun xe => he t3 (upd H2 D (.lst [])) t3.heap.objs.size (cellsFrom (t3.heap.objs.size + 1) scope.names (cloFrom X.env.cells scope.names [])) fp xe
  have cF : (compEnvC scope (cellsFrom (t3.heap.objs.size + 1) scope.names (cloFrom X.env.cells scope.names [])) t3.heap.objs.size X.env).frame = X.env.frame := rfl
  have cL : (compEnvC scope (cellsFrom (t3.heap.objs.size + 1) scope.names (cloFrom X.env.cells scope.names [])) t3.heap.objs.size X.env).locals = t3.heap.objs.size := rfl
  generalize compEnvC scope (cellsFrom (t3.heap.objs.size + 1) scope.names (cloFrom X.env.cells scope.names [])) t3.heap.objs.size X.env = ce at I4 eg et ee cF cL ⊢
  generalize upd H2 D (.lst []) = H3 at I3 I4 eg et ee w0 nfp f3
  obtain ⟨t4, ht4⟩ : ∃ t4 : Shared, { t3 with heap := pushCells (t3.heap.push { cls := .type "dict", data := .dict #[] }) scope.names } = t4 := ⟨_, rfl⟩
  rw [ht4] at I4 ⊢
  have st4 : tn 0 t4.heap := T.keep _ _ _ st3 fun b _ o e => by
    rw [← ht4]
    exact pushCells_keeps _ _ _ _ (Heap.get?_push_of_some _ e)
  generalize hxe : (notedBy (model X.prog X.w) X.A ce fun e t => postX (model X.prog X.w) X.A X.xe use Qf (.ref D) ce (.error e) t) = xe
  have pg := eg xe
  have pt := et xe
  have pe := ee xe
  have stat : ∀ {σ' : L2.St} {H' : Hp} {s' : Shared}, Inv (blkX X t3 H3 scope ce fp xe) [] σ' H' s' → (∀ b ∈ fp, H' b = none) → ∀ b ∈ fp, FpOk (blkX X t3 H3 scope ce fp xe) [] H' b := fun {σ' H' s'} I' hn b hb =>
    ⟨hn b hb, (I'.ok.exf b hb).1, I'.ok.exfs b hb, Or.inl hb, fun x c e => (I'.ok.exf b hb).2 x c e, fun p hp => absurd (show p ∈ ([] : List (Addr × Obj)) ++ [] from hp) (by simp)⟩
  have loop : codeAny (model X.prog X.w) X.A (.compLoop (.ListComp elt [⟨tg, iter, ifs, 0⟩] scope pos) 0 (.ref it) (.ref D) ce) (postX (model X.prog X.w) X.A X.xe use Qf (.ref D) ce) t4 := by
    refine compLoop_any (fun n t => ∃ i H', Inv (blkX X t3 H3 scope ce fp xe) [] (wipe σ (own.map (·.2))) H' t ∧ tn i t.heap ∧ (∀ b ∈ fp, H' b = none) ∧ W i n H') ?_ m0 ⟨0, H3, blk_to I4, st4, nfp, w0⟩
    rintro n t5 ⟨i, H5, I5, st5, n5, w5⟩
    rw [hxe]
    rcases turn i n H5 w5 with ⟨stop, qq⟩ | ⟨go, Nx, hNx, step⟩
    · refine thnF (T.done (blkX X t3 H3 scope ce fp xe) rfl rfl rfl hc i [] t5 _ H5 (fun _ _ => False) I5 (stat I5 n5) st5 stop) fun r t6 ⟨hr, I6⟩ => ?_
      subst hr
      have I7 : Inv X pins σ H5 t6 := I3.call' (ch := fp) I6.os I6.base I6.hok I6.bare fun b hb => ⟨(f3 b hb).1.2.2.2.1, (f3 b hb).1.2.1, (f3 b hb).1.2.2.2.2.1, (f3 b hb).1.2.2.2.2.2⟩
      have nC : H5 t3.heap.objs.size = none := by
        have z : H5 ce.locals = none := I6.free
        rw [cL] at z
        exact z
      obtain ⟨m, hn, _⟩ := I6.loc
      have hn' : t6.heap.Ns t3.heap.objs.size m := cL ▸ hn
      show compPost _ _ _ _ _ _ ce.locals _ _
      rw [cL]
      exact done D _ t6 m H5 I7 qq hn' (I3.fpOk (Nat.le_refl _) nC)
    · refine thnF (T.item (blkX X t3 H3 scope ce fp xe) rfl rfl rfl hc i [] t5 _ H5 (fun _ _ => False) I5 (stat I5 n5) st5 go) fun r t6 ⟨u, hr, w6⟩ => ?_
      subst hr
      refine thnF w6 fun _ t7 ⟨x, H7, I7, r7, y7, st7, n7⟩ => ?_
      refine thn (pg.run _ t7 _ H7 x u _ (I7.pinned (stat I7 n7) (T.obj _ _ st7)) r7 (step x H7 y7)) fun _ t8 ⟨σ8, H8, I8, w8, q8⟩ => ?_
      refine thn (pt.run _ t8 σ8 H8 _ I8 q8) fun b t9 ⟨H9, I9, q9⟩ => ?_
      have again : ∀ {t : Shared} {H' : Hp}, Inv (blkX X t3 H3 scope ce fp xe) ([] ++ pinsAt fp t7.heap) σ8 H' t → Nx H' → ∃ m, m < n ∧ ∃ i H', Inv (blkX X t3 H3 scope ce fp xe) [] (wipe σ (own.map (·.2))) H' t ∧ tn i t.heap ∧ (∀ b ∈ fp, H' b = none) ∧ W i m H' := fun {t H'} I' nx => by
        obtain ⟨m', lm, w'⟩ := hNx H' nx
        have pinned : ∀ b ∈ fp, ∀ o, t7.heap.get? b = some o → t.heap.get? b = some o ∧ H' b = none := fun b hb o e => by
          have z := I'.pin (b, o) (List.mem_append_right _ (List.mem_append_right _ (mem_pinsAt hb e)))
          exact ⟨z.1, z.2.1⟩
        have same : (wipe σ (own.map (·.2))).length = σ8.length := by rw [← w8, wipe_length]
        refine ⟨m', lm, i + 1, H', (I'.unpinned (pins := [])).weak same (fun j v e => (wipe_some (by rw [w8]; exact e)).1), T.keep _ _ _ st7 fun b hb o e => (pinned b hb o e).1, fun b hb => ?_, w'⟩
        obtain ⟨o, e, _⟩ := T.obj _ _ st7 b hb
        exact (pinned b hb o e).2
      cases b with
      | false =>
        simp only [Bool.false_eq_true, if_false] at q9 ⊢
        exact again I9 q9
      | true =>
        simp only [if_true] at q9 ⊢
        refine thn (pe.run _ t9 σ8 H9 _ I9 q9) fun z t10 ⟨y, H10, I10, r10, acc, hacc, lacc, nx⟩ => ?_
        exact app_ok (X := blkX X t3 H3 scope ce fp xe) I10 hacc lacc r10 fun t11 I11 => again I11 nx
  exact codeAny_compStart_list loop (T.self X.A 0 _ _ _ st4 loop)
/-- [elt for target in iter if ..] in a def that may raise; the element's callee lets out E -/
theorem pe_lcM {elt tg iter : Expr} {ifs : List Expr} {scope : Scope} {own : List (Str × Nat)} {pos : Pos} {wi : TI} {g : TG} {tt : L2.St → TT} {te : TE}
    (hc : X.calm = true) (hN : X.N.Nodup) (hi : PI X tg iter wi) (ok : BlkOk X.N X.env.scope scope own)
    (hg : ∀ (s : Shared) (H : Hp) (C : Addr) (cl : List (Str × Addr)) (fp : List Addr) (xe : Value → Shared → Prop), PG (blkX X s H scope (compEnvC scope cl C X.env) fp xe) tg g)
    (ht : ∀ (s : Shared) (H : Hp) (C : Addr) (cl : List (Str × Addr)) (fp : List Addr) (xe : Value → Shared → Prop) (pins : List (Addr × Obj)) (σ : L2.St), Inv X pins σ H s → (∀ b ∈ fp, FpOk X pins H b) → PTs (blkX X s H scope (compEnvC scope cl C X.env) fp xe) ifs (tt σ))
    (he : ∀ (s : Shared) (H : Hp) (C : Addr) (cl : List (Str × Addr)) (fp : List Addr) (xe : Value → Shared → Prop), PE (blkX X s H scope (compEnvC scope cl C X.env) fp xe) elt te)
    (hsx : ∀ x, foldedSetIterable iter X.env x = pure x := by intro _; rfl) : PE X (.ListComp elt [⟨tg, iter, ifs, 0⟩] scope pos) (fun σ H Q => tLc wi g (tt σ) te (own.map (·.2)) σ H Q) := by
  refine ⟨fun pins s σ H Q I h => ?_⟩
  rw [eval_ListComp]
  refine lcM_core hc hN hi ok hg ht he hsx I h fun D C t m H' J q hn ⟨p0, p1, _, p3, p4, p5⟩ => ⟨m, hn, fun g2 sb => ?_⟩
  exact ⟨.ref D, H', J.turned (t' := t.toks) (fun b o hb e => (sb.2 b hb).trans e) p0 p1 p3 p4 p5, rfl, q⟩
end
end Vf
namespace Vf
open PySem PySem.Spec PyProof.Rows L2
/-! ### lists or tuples, as they come -/
section
variable {X : Cx} {K : PySem.W.Frag}
theorem pg_or {e : Expr} {t1 t2 : TG} (h1 : PG X e t1) (h2 : PG X e t2) : PG X e (fun v σ H Q => t1 v σ H Q ∨ t2 v σ H Q) :=
  ⟨fun pins s σ H v u Q I r h => h.elim (h1.run pins s σ H v u Q I r) (h2.run pins s σ H v u Q I r)⟩
def rIxB (K : PySem.W.Frag) : R2 := fun x y H Q => ∃ p xs i v, x = .ref p ∧ y = .int i ∧ (SqT K H p xs ∨ SqL K H p xs) ∧ atI xs i = some v ∧ Q v H
theorem ix_box : IxR X (rIxB X.K) := by
  intro value slice pins s σ H x y v u Q I rx ry h hs
  obtain ⟨p, xs, i, w, e1, e2, hb, ha, q⟩ := h
  rcases hb with hb | hb
  · exact ix_tup value slice pins s σ H x y v u Q I rx ry ⟨p, xs, i, w, e1, e2, hb, ha, q⟩ hs
  · exact ix_list value slice pins s σ H x y v u Q I rx ry ⟨p, xs, i, w, e1, e2, hb, ha, q⟩ hs
theorem ix_boxK (hK : X.K = K) : IxR X (rIxB K) := by
  subst hK
  exact ix_box
theorem op_eqDK (hK : X.K = K) (hu : X.A.units + 64 < cLine) : OpR X (compareOp .Eq) (rEqD K) := by
  subst hK
  exact op_eqD hu
theorem op_neDK (hK : X.K = K) (hu : X.A.units + 64 < cLine) : OpR X (compareOp .NotEq) (rNeD K) := by
  subst hK
  exact op_neD hu
end
/-! ### numbers of a bounded length -/
def Wi (n : Nat) (i : Int) : Prop := i.natAbs < 2 ^ n
theorem Wi.le {m n : Nat} {i : Int} (h : Wi m i) (l : m ≤ n) : Wi n i := Nat.lt_of_lt_of_le h (Nat.pow_le_pow_right (by decide) l)
theorem Wi.add {n : Nat} {i j : Int} (h : Wi n i) (g : Wi n j) : Wi (n + 1) (i + j) := by
  unfold Wi at *
  have e : 2 ^ (n + 1) = 2 ^ n + 2 ^ n := by rw [Nat.pow_succ]; omega
  omega
theorem Wi.neg {n : Nat} {i : Int} (h : Wi n i) : Wi n (-i) := by
  unfold Wi at *
  omega
theorem Wi.sub {n : Nat} {i j : Int} (h : Wi n i) (g : Wi n j) : Wi (n + 1) (i - j) := by
  rw [Int.sub_eq_add_neg]
  exact h.add g.neg
theorem Wi.mul {m n : Nat} {i j : Int} (h : Wi m i) (g : Wi n j) : Wi (m + n) (i * j) := wide_lt h g
theorem Wi.cm {m n : Nat} {i j : Int} (h : Wi m i) (g : Wi n j) (h0 : 0 < m := by decide) (h1 : 0 < n := by decide) (l : m + n ≤ 1000000 := by decide) : CMulW i j := wide_mul h g h0 h1 l
end Vf
namespace K47
open PySem PySem.Spec PyProof.Rows L2 Vf
def tabT (K : PySem.W.Frag) (x : Str) : Addr := (He.cT K (x, none)).2
def tabsNe (K : PySem.W.Frag) : Bool := decide (tabT K "_law_quotients_right" ≠ tabT K "_law_refused_right")
def tf : List He.Defn := [("_law_quotients_right", none), ("_law_refused_right", none)]
def top (i : Nat) : Stmt := PySem.Challenge.pw_rimsewn_k47_vectors_as_numbers_of_the_gr.main.body.getD i (.Pass ⟨0, 0, 0, 0⟩)
abbrev s_BadKind_init : Stmt := inClass (top 2) 0
abbrev s_BadNumber_init : Stmt := inClass (top 3) 0
abbrev s_is_grid : Stmt := top 6
abbrev s_need_kind : Stmt := top 7
abbrev s_full_of : Stmt := top 8
abbrev s_is_integer : Stmt := top 10
abbrev s_is_within : Stmt := top 11
abbrev s_is_listed : Stmt := top 12
abbrev s_is_row : Stmt := top 13
abbrev s_is_vector : Stmt := top 17
abbrev s_need_vector : Stmt := top 18
abbrev s_length_of : Stmt := top 19
abbrev s_spun : Stmt := top 20
abbrev s_flip : Stmt := top 21
abbrev s_both : Stmt := top 22
abbrev s_square_of : Stmt := top 23
abbrev s_product : Stmt := top 24
abbrev s_turned : Stmt := top 25
abbrev s_flipped : Stmt := top 26
abbrev s_times : Stmt := top 27
abbrev s_quotient : Stmt := top 28
abbrev s_vectors_of : Stmt := top 29
abbrev s_law_pen : Stmt := top 31
abbrev s_law_draw : Stmt := top 32
abbrev s_law_pick : Stmt := top 33
abbrev s_law_number : Stmt := top 34
abbrev s_law_vector : Stmt := top 35
abbrev s_law_wide : Stmt := top 36
abbrev s_law_norm : Stmt := top 37
abbrev s_law_narrow : Stmt := top 38
abbrev s_law_times : Stmt := top 39
abbrev s_law_turned : Stmt := top 40
abbrev s_law_mirror : Stmt := top 41
abbrev s_law_quotient : Stmt := top 42
abbrev s_law_two_right : Stmt := top 43
abbrev s_law_turns_right : Stmt := top 44
abbrev s_law_quotients_right : Stmt := top 45
abbrev s_law_all : Stmt := top 46
abbrev s_law_heard : Stmt := top 47
abbrev s_law_refused_right : Stmt := top 48
abbrev s_law : Stmt := top 49
def d_BadKind_init : He.DefD := ⟨("BadKind", some "__init__"), "__init__", "BadKind.__init__", defArgs s_BadKind_init, defBody s_BadKind_init, defScope s_BadKind_init, [], []⟩
def d_BadNumber_init : He.DefD := ⟨("BadNumber", some "__init__"), "__init__", "BadNumber.__init__", defArgs s_BadNumber_init, defBody s_BadNumber_init, defScope s_BadNumber_init, [], []⟩
def d_is_grid : He.DefD := ⟨("is_grid", none), "is_grid", "is_grid", defArgs s_is_grid, defBody s_is_grid, defScope s_is_grid, [], []⟩
def d_need_kind : He.DefD := ⟨("need_kind", none), "need_kind", "need_kind", defArgs s_need_kind, defBody s_need_kind, defScope s_need_kind, [], []⟩
def d_full_of : He.DefD := ⟨("full_of", none), "full_of", "full_of", defArgs s_full_of, defBody s_full_of, defScope s_full_of, [], []⟩
def d_is_integer : He.DefD := ⟨("is_integer", none), "is_integer", "is_integer", defArgs s_is_integer, defBody s_is_integer, defScope s_is_integer, [], []⟩
def d_is_within : He.DefD := ⟨("is_within", none), "is_within", "is_within", defArgs s_is_within, defBody s_is_within, defScope s_is_within, [], []⟩
def d_is_listed : He.DefD := ⟨("is_listed", none), "is_listed", "is_listed", defArgs s_is_listed, defBody s_is_listed, defScope s_is_listed, [], []⟩
def d_is_row : He.DefD := ⟨("is_row", none), "is_row", "is_row", defArgs s_is_row, defBody s_is_row, defScope s_is_row, [], []⟩
def d_is_vector : He.DefD := ⟨("is_vector", none), "is_vector", "is_vector", defArgs s_is_vector, defBody s_is_vector, defScope s_is_vector, [], []⟩
def d_need_vector : He.DefD := ⟨("need_vector", none), "need_vector", "need_vector", defArgs s_need_vector, defBody s_need_vector, defScope s_need_vector, [], []⟩
def d_length_of : He.DefD := ⟨("length_of", none), "length_of", "length_of", defArgs s_length_of, defBody s_length_of, defScope s_length_of, [], []⟩
def d_spun : He.DefD := ⟨("spun", none), "spun", "spun", defArgs s_spun, defBody s_spun, defScope s_spun, [], []⟩
def d_flip : He.DefD := ⟨("flip", none), "flip", "flip", defArgs s_flip, defBody s_flip, defScope s_flip, [], []⟩
def d_both : He.DefD := ⟨("both", none), "both", "both", defArgs s_both, defBody s_both, defScope s_both, [], []⟩
def d_square_of : He.DefD := ⟨("square_of", none), "square_of", "square_of", defArgs s_square_of, defBody s_square_of, defScope s_square_of, [], []⟩
def d_product : He.DefD := ⟨("product", none), "product", "product", defArgs s_product, defBody s_product, defScope s_product, [], []⟩
def d_turned : He.DefD := ⟨("turned", none), "turned", "turned", defArgs s_turned, defBody s_turned, defScope s_turned, [], []⟩
def d_flipped : He.DefD := ⟨("flipped", none), "flipped", "flipped", defArgs s_flipped, defBody s_flipped, defScope s_flipped, [], []⟩
def d_times : He.DefD := ⟨("times", none), "times", "times", defArgs s_times, defBody s_times, defScope s_times, [], []⟩
def d_quotient : He.DefD := ⟨("quotient", none), "quotient", "quotient", defArgs s_quotient, defBody s_quotient, defScope s_quotient, [], []⟩
def d_vectors_of : He.DefD := ⟨("vectors_of", none), "vectors_of", "vectors_of", defArgs s_vectors_of, defBody s_vectors_of, defScope s_vectors_of, [], []⟩
def d_law_pen : He.DefD := ⟨("_law_pen", none), "_law_pen", "_law_pen", defArgs s_law_pen, defBody s_law_pen, defScope s_law_pen, [], []⟩
def d_law_draw : He.DefD := ⟨("_law_draw", none), "_law_draw", "_law_draw", defArgs s_law_draw, defBody s_law_draw, defScope s_law_draw, [], []⟩
def d_law_pick : He.DefD := ⟨("_law_pick", none), "_law_pick", "_law_pick", defArgs s_law_pick, defBody s_law_pick, defScope s_law_pick, [], []⟩
def d_law_number : He.DefD := ⟨("_law_number", none), "_law_number", "_law_number", defArgs s_law_number, defBody s_law_number, defScope s_law_number, [], []⟩
def d_law_vector : He.DefD := ⟨("_law_vector", none), "_law_vector", "_law_vector", defArgs s_law_vector, defBody s_law_vector, defScope s_law_vector, [], []⟩
def d_law_wide : He.DefD := ⟨("_law_wide", none), "_law_wide", "_law_wide", defArgs s_law_wide, defBody s_law_wide, defScope s_law_wide, [], []⟩
def d_law_norm : He.DefD := ⟨("_law_norm", none), "_law_norm", "_law_norm", defArgs s_law_norm, defBody s_law_norm, defScope s_law_norm, [], []⟩
def d_law_narrow : He.DefD := ⟨("_law_narrow", none), "_law_narrow", "_law_narrow", defArgs s_law_narrow, defBody s_law_narrow, defScope s_law_narrow, [], []⟩
def d_law_times : He.DefD := ⟨("_law_times", none), "_law_times", "_law_times", defArgs s_law_times, defBody s_law_times, defScope s_law_times, [], []⟩
def d_law_turned : He.DefD := ⟨("_law_turned", none), "_law_turned", "_law_turned", defArgs s_law_turned, defBody s_law_turned, defScope s_law_turned, [], []⟩
def d_law_mirror : He.DefD := ⟨("_law_mirror", none), "_law_mirror", "_law_mirror", defArgs s_law_mirror, defBody s_law_mirror, defScope s_law_mirror, [], []⟩
def d_law_quotient : He.DefD := ⟨("_law_quotient", none), "_law_quotient", "_law_quotient", defArgs s_law_quotient, defBody s_law_quotient, defScope s_law_quotient, [], []⟩
def d_law_two_right : He.DefD := ⟨("_law_two_right", none), "_law_two_right", "_law_two_right", defArgs s_law_two_right, defBody s_law_two_right, defScope s_law_two_right, [], []⟩
def d_law_turns_right : He.DefD := ⟨("_law_turns_right", none), "_law_turns_right", "_law_turns_right", defArgs s_law_turns_right, defBody s_law_turns_right, defScope s_law_turns_right, [], []⟩
def d_law_quotients_right : He.DefD := ⟨("_law_quotients_right", none), "_law_quotients_right", "_law_quotients_right", defArgs s_law_quotients_right, defBody s_law_quotients_right, defScope s_law_quotients_right, [], []⟩
def d_law_all : He.DefD := ⟨("_law_all", none), "_law_all", "_law_all", defArgs s_law_all, defBody s_law_all, defScope s_law_all, [], []⟩
def d_law_heard : He.DefD := ⟨("_law_heard", none), "_law_heard", "_law_heard", defArgs s_law_heard, defBody s_law_heard, defScope s_law_heard, [], []⟩
def d_law_refused_right : He.DefD := ⟨("_law_refused_right", none), "_law_refused_right", "_law_refused_right", defArgs s_law_refused_right, defBody s_law_refused_right, defScope s_law_refused_right, [], []⟩
def d_law : He.DefD := ⟨("law", none), "law", "law", defArgs s_law, defBody s_law, defScope s_law, [], []⟩
def fn : List He.DefD := [d_BadKind_init, d_BadNumber_init, d_is_grid, d_need_kind, d_full_of, d_is_integer, d_is_within, d_is_listed, d_is_row, d_is_vector, d_need_vector, d_length_of, d_spun, d_flip, d_both, d_square_of, d_product, d_turned, d_flipped, d_times, d_quotient, d_vectors_of, d_law_pen, d_law_draw, d_law_pick, d_law_number, d_law_vector, d_law_wide, d_law_norm, d_law_narrow, d_law_times, d_law_turned, d_law_mirror, d_law_quotient, d_law_two_right, d_law_turns_right, d_law_quotients_right, d_law_all, d_law_heard, d_law_refused_right, d_law]
def fa : List He.Fa := [.glo "SewError", .glo "BadKind", .glo "BadNumber", .glo "is_grid", .glo "need_kind", .glo "full_of", .glo "is_integer", .glo "is_within", .glo "is_listed", .glo "is_row", .glo "is_vector", .glo "need_vector", .glo "length_of", .glo "spun", .glo "flip", .glo "both", .glo "square_of", .glo "product", .glo "turned", .glo "flipped", .glo "times", .glo "quotient", .glo "vectors_of", .glo "_law_pen", .glo "_law_draw", .glo "_law_pick", .glo "_law_number", .glo "_law_vector", .glo "_law_wide", .glo "_law_norm", .glo "_law_narrow", .glo "_law_times", .glo "_law_turned", .glo "_law_mirror", .glo "_law_quotient", .glo "_law_two_right", .glo "_law_turns_right", .glo "_law_quotients_right", .glo "_law_all", .glo "_law_heard", .glo "_law_refused_right", .glo "law", .glo "KINDS", .int "MOST_SQUARE" 400, .int "MOST_STEPS" 20, .free "ValueError", .free "abs", .free "all", .free "bool", .free "int", .free "isinstance", .free "len", .free "list", .free "range", .free "str", .free "tuple", .exm "BadKind" "SewError" true, .exm "BadNumber" "SewError" true]
def ex (K : PySem.W.Frag) : Bool := [He.tupB K "KINDS" [.str "square", .str "triangle"], errB K "BadKind" ["part"], kitsB K "BadKind" [("BadKind", true), ("BadNumber", false)], errB K "BadNumber" ["part"], kitsB K "BadNumber" [("BadKind", false), ("BadNumber", true)], tabsNe K].all id
abbrev R : PySem.W.OpenRow := PySem.W.OpenLaw.row PySem.Challenge.rw_rimsewn_k47_vectors_as_numbers_of_the_gr
abbrev hk : PySem.W.Hook := He.hookX 6 fa fn [] tf ex
def ob (s : PySem.W.SharedT) : He.AlX := He.obsX 6 fa fn [] tf ex (HandSHeadRun.getT s)
theorem ob_eq (s : PySem.W.SharedT) : ob s = hk.obs s.abs := He.obsX_eq (HandSHeadRun.getT_eq s)
def loose : List Str := [("SewError" : Str), ("BadKind" : Str), ("BadNumber" : Str), ("KINDS" : Str), ("is_grid" : Str), ("need_kind" : Str), ("full_of" : Str), ("is_integer" : Str), ("is_within" : Str), ("is_listed" : Str), ("is_row" : Str), ("MOST_SQUARE" : Str), ("MOST_STEPS" : Str), ("is_vector" : Str), ("need_vector" : Str), ("length_of" : Str), ("spun" : Str), ("flip" : Str), ("both" : Str), ("square_of" : Str), ("product" : Str), ("turned" : Str), ("flipped" : Str), ("times" : Str), ("quotient" : Str), ("vectors_of" : Str), ("_law_pen" : Str), ("_law_draw" : Str), ("_law_pick" : Str), ("_law_number" : Str), ("_law_vector" : Str), ("_law_wide" : Str), ("_law_norm" : Str), ("_law_narrow" : Str), ("_law_times" : Str), ("_law_turned" : Str), ("_law_mirror" : Str), ("_law_quotient" : Str), ("_law_two_right" : Str), ("_law_turns_right" : Str), ("_law_quotients_right" : Str), ("_law_all" : Str), ("_law_heard" : Str), ("_law_refused_right" : Str)]
theorem run (w : World) : HandSHeadRun.RunEq R (PySem.W.view R.prog [49]) hk ob 4000 loose w := by
  intro os
  kernel_rfl
structure Txt (K : PySem.W.Frag) (mg : Str → Option Value) : Prop where
  g_SewError : mg "SewError" = some (.ref (He.ga K "SewError"))
  g_BadKind : mg "BadKind" = some (.ref (He.ga K "BadKind"))
  g_BadNumber : mg "BadNumber" = some (.ref (He.ga K "BadNumber"))
  g_KINDS : mg "KINDS" = some (.ref (He.ga K "KINDS"))
  c_MOST_SQUARE : ∃ t, mg "MOST_SQUARE" = some (.int 400 t)
  c_MOST_STEPS : ∃ t, mg "MOST_STEPS" = some (.int 20 t)
  n_ValueError : mg "ValueError" = none
  n_abs : mg "abs" = none
  n_all : mg "all" = none
  n_bool : mg "bool" = none
  n_int : mg "int" = none
  n_isinstance : mg "isinstance" = none
  n_len : mg "len" = none
  n_list : mg "list" = none
  n_range : mg "range" = none
  n_str : mg "str" = none
  n_tuple : mg "tuple" = none
  ex_BadKind : PySem.W.exmOne K (.ref (He.ga K "BadKind")) (.ref (He.ga K "SewError")) = some true
  ex_BadNumber : PySem.W.exmOne K (.ref (He.ga K "BadNumber")) (.ref (He.ga K "SewError")) = some true
  kinds : ∀ H, SqT K H (He.ga K "KINDS") [.str "square", .str "triangle"]
  er_BadKind : ErrC K "BadKind" ["part"]
  ki_BadKind : Kits K "BadKind" [("BadKind", true), ("BadNumber", false)]
  er_BadNumber : ErrC K "BadNumber" ["part"]
  ki_BadNumber : Kits K "BadNumber" [("BadKind", false), ("BadNumber", true)]
  tabs : tabsNe K = true
def exl (K : PySem.W.Frag) : List Bool := [He.tupB K "KINDS" [.str "square", .str "triangle"], errB K "BadKind" ["part"], kitsB K "BadKind" [("BadKind", true), ("BadNumber", false)], errB K "BadNumber" ["part"], kitsB K "BadNumber" [("BadKind", false), ("BadNumber", true)], tabsNe K]
theorem exx {K : PySem.W.Frag} (h : ex K = true) {i : Nat} {b : Bool} (e : (exl K)[i]? = some b) : b = true := List.all_eq_true.mp (show (exl K).all id = true from h) b (List.mem_of_getElem? e)
theorem txt_of {w : World} {K : PySem.W.Frag} {h : Heap} {mg : Str → Option Value} (X : K.In h) (G : h.Ns mainGlobals mg) (c : He.SaysX fa fn [] tf ex w h K) : Txt K mg :=
  ⟨He.glo_ok X G (c.t.d.fact 0 (f := .glo "SewError") rfl),
   He.glo_ok X G (c.t.d.fact 1 (f := .glo "BadKind") rfl),
   He.glo_ok X G (c.t.d.fact 2 (f := .glo "BadNumber") rfl),
   He.glo_ok X G (c.t.d.fact 42 (f := .glo "KINDS") rfl),
   He.int_ok X G (c.t.d.fact 43 (f := .int "MOST_SQUARE" 400) rfl),
   He.int_ok X G (c.t.d.fact 44 (f := .int "MOST_STEPS" 20) rfl),
   He.free_ok X G (c.t.d.fact 45 (f := .free "ValueError") rfl),
   He.free_ok X G (c.t.d.fact 46 (f := .free "abs") rfl),
   He.free_ok X G (c.t.d.fact 47 (f := .free "all") rfl),
   He.free_ok X G (c.t.d.fact 48 (f := .free "bool") rfl),
   He.free_ok X G (c.t.d.fact 49 (f := .free "int") rfl),
   He.free_ok X G (c.t.d.fact 50 (f := .free "isinstance") rfl),
   He.free_ok X G (c.t.d.fact 51 (f := .free "len") rfl),
   He.free_ok X G (c.t.d.fact 52 (f := .free "list") rfl),
   He.free_ok X G (c.t.d.fact 53 (f := .free "range") rfl),
   He.free_ok X G (c.t.d.fact 54 (f := .free "str") rfl),
   He.free_ok X G (c.t.d.fact 55 (f := .free "tuple") rfl),
   He.exm_ok (c.t.d.fact 56 (f := .exm "BadKind" "SewError" true) rfl),
   He.exm_ok (c.t.d.fact 57 (f := .exm "BadNumber" "SewError" true) rfl),
   fun H => He.tupB_ok (exx c.more (i := 0) rfl) H,
   errC_of (exx c.more (i := 1) rfl),
   kits_of (exx c.more (i := 2) rfl),
   errC_of (exx c.more (i := 3) rfl),
   kits_of (exx c.more (i := 4) rfl),
   exx c.more (i := 5) rfl⟩
end K47

namespace Vf
open PySem PySem.Spec PyProof.Rows L2
/-! ### min, max of a tuple of two ints; str of an own object -/
section
variable {X : Cx}
theorem alike_two {i j : Int} : PySem.W.AlikeAll [.int i, .int j] := by
  refine ⟨fun x hx y hy => ?_, fun x hx => ?_⟩
  · simp only [List.mem_cons, List.not_mem_nil, or_false] at hx hy
    rcases hx with rfl | rfl <;> rcases hy with rfl | rfl <;> simp [PySem.W.alike]
  · simp only [List.mem_cons, List.not_mem_nil, or_false] at hx
    rcases hx with rfl | rfl <;> exact fun z => nomatch z
theorem depth_two {i j : Int} : PyData.depthAll [.int i, .int j] ≤ 2 := by simp [PyData.depthAll, PyData.depth]
theorem lt_ints {i j : Int} : PySem.W.dataLt (.int i) (.int j) = decide (i < j) := by
  unfold PySem.W.dataLt
  simp [PySem.W.keyToks, PyProof.Rows.lexLt]
  rfl
def rMinT (K : PySem.W.Frag) : List V → Hp → VK → Prop := fun vs H Q => ∃ (a : Addr) (i j : Int), vs = [.ref a] ∧ SqT K H a [.int i, .int j] ∧ Q (.int (if j < i then j else i)) H
def rMaxT (K : PySem.W.Frag) : List V → Hp → VK → Prop := fun vs H Q => ∃ (a : Addr) (i j : Int), vs = [.ref a] ∧ SqT K H a [.int i, .int j] ∧ Q (.int (if i < j then j else i)) H
theorem cr_minT (hc : X.calm = true) (hu : X.A.units + 64 < cLine) : CallR X (.builtin "min") (rMinT X.K) := by
  intro pins s σ H vs us Q I r h
  obtain ⟨a, i, j, rfl, hs, q⟩ := h
  obtain ⟨its, rv, hl, _⟩ := I.tuple hs
  rw [Vals.ref1 r]
  obtain ⟨u1, u2, rfl, ⟨t1, rfl⟩, ⟨t2, rfl⟩⟩ := vals2 rv
  refine PySem.W.min_tuple_data (as := []) (x := .int i) (xs := [.int j]) (I.ok.hd hc) hl (.cons (.int ..) (.cons (.int ..) .nil)) alike_two (by have := depth_two (i := i) (j := j); omega) fun n v h' tk bs hv hr hk => ?_
  have e : PySem.W.minD (.int i) [.int j] = .int (if j < i then j else i) := by
    show (if PySem.W.dataLt (.int j) (.int i) = true then PyData.int j else PyData.int i) = _
    rw [lt_ints]
    by_cases h : j < i
    · rw [if_pos (decide_eq_true h), if_pos h]
    · rw [if_neg (by simpa using h), if_neg h]
  rw [e] at hr
  cases hr
  exact ⟨.int _, H, I.kept hk, ⟨_, rfl⟩, q⟩
theorem cr_maxT (hc : X.calm = true) (hu : X.A.units + 64 < cLine) : CallR X (.builtin "max") (rMaxT X.K) := by
  intro pins s σ H vs us Q I r h
  obtain ⟨a, i, j, rfl, hs, q⟩ := h
  obtain ⟨its, rv, hl, _⟩ := I.tuple hs
  rw [Vals.ref1 r]
  obtain ⟨u1, u2, rfl, ⟨t1, rfl⟩, ⟨t2, rfl⟩⟩ := vals2 rv
  refine PySem.W.max_tuple_data (as := []) (x := .int i) (xs := [.int j]) (I.ok.hd hc) hl (.cons (.int ..) (.cons (.int ..) .nil)) alike_two (by have := depth_two (i := i) (j := j); omega) fun n v h' tk bs hv hr hk => ?_
  have e : PySem.W.maxD (.int i) [.int j] = .int (if i < j then j else i) := by
    show (if PySem.W.dataLt (.int i) (.int j) = true then PyData.int j else PyData.int i) = _
    rw [lt_ints]
    by_cases h : i < j
    · rw [if_pos (decide_eq_true h), if_pos h]
    · rw [if_neg (by simpa using h), if_neg h]
  rw [e] at hr
  cases hr
  exact ⟨.int _, H, I.kept hk, ⟨_, rfl⟩, q⟩
/-- str(o), o's class with its own __str__ -/
def rStrO (C : Addr) (sp : Sp) : List V → Hp → VK → Prop := fun xs H Q => ∃ (a dx : Addr) (fs : List (Str × V)), xs = [.ref a] ∧ H a = some (.ins C dx fs) ∧ sp [.ref a] H (fun v H' => ∃ z, v = .str z ∧ Q (.str z) H') (fun _ _ _ => False)
theorem call_strO {C f : Addr} {k : Nat} {fd : FuncData} {ps : List Str} {sp : Sp} (M : Meth X.K C "__str__" f) (F : FnOk X.prog X.w X.K X.mg X.base CX0 k f fd ps sp) (hb : Binds X.K fd ps []) (hr : Room (k + 2) X.A) : CallR X (.type "str") (rStrO C sp) := by
  intro pins s σ H xs us Q I r h
  obtain ⟨a, dx, fs, rfl, e, h⟩ := h
  rw [Vals.ref1 r]
  obtain ⟨mA, O, _⟩ := ins_get I.hok e
  obtain ⟨od, J, _⟩ := O.look
  have hr2 : Room k X.A.in1.in1 := hr.in1.in1
  refine PySem.W.kso_call hr2.units0 I.kIn J M.at_ M.fn ?_
  have e0 : Env0 X.prog X.w X.K X.mg X.base X.A.in1.in1 X.stack s H := ⟨I.env0.frames, I.env0.mod, I.env0.bs, I.env0.bsz, I.env0.funs, I.env0.frf, I.env0.hok, I.env0.bare⟩
  refine wpAny_call (codeAny_mono (F.run X.A.in1.in1 X.stack s H ⟨[.ref a], []⟩ [.ref a] [.ref a] _ _ hr2 e0 (hb s [.ref a] I.kIn (F.len _ _ _ _ h)) (.cons rfl .nil) h) fun r s' hq => ?_)
  cases r with
  | error e => exact (show False from hq).elim
  | ok fl =>
    cases fl with
    | ret u =>
      obtain ⟨v, H', os, bare, un, hok, rv, z, rfl, q⟩ := hq
      obtain ⟨t, rfl⟩ := rv
      exact I.after ⟨.str z, H', os, bare, un, hok, ⟨t, rfl⟩, q⟩
    | next => exact False.elim hq
    | brk => exact False.elim hq
    | cont => exact False.elim hq
end
/-! ### isinstance of the exception that a suite holds, its fields told -/
def rIsZ (K : PySem.W.Frag) (a : Addr) (cls : Value) (d : Option Addr) : List V → Hp → VK → Prop := fun xs H Q => ∃ (c : V) (u : Value) (D dd : Addr) (fs : List (Str × V)) (b : Bool), xs = [.ref a, c] ∧ ClsV c u ∧ cls = .ref D ∧ d = some dd ∧ H dd = some (.xd fs) ∧ ExcC K D ∧ PySem.W.kitOne K (.ref D) u = some b ∧ Q (.bl b) H
def rIsZT (K : PySem.W.Frag) (a : Addr) (cls : Value) (d : Option Addr) : List V → Hp → VK → Prop := fun xs H Q => ∃ (tp : Addr) (cs : List V) (us : List Value) (D dd : Addr) (fs : List (Str × V)) (b : Bool), xs = [.ref a, .ref tp] ∧ H tp = some (.tup cs) ∧ Paired ClsV cs us ∧ cls = .ref D ∧ d = some dd ∧ H dd = some (.xd fs) ∧ ExcC K D ∧ PySem.W.kitAny K (.ref D) us = some b ∧ Q (.bl b) H
section
variable {X : Cx} {a : Addr} {oe : Obj} {cls : Value} {d : Option Addr} {pn : List (Addr × Obj)}
theorem inst_held {pins : List (Addr × Obj)} {σ : L2.St} {H : Hp} {s : Shared} {D dd : Addr} {fs : List (Str × V)} (hz : Zc cls d oe) (hf : ∃ vs, oe.data = .fields vs) (I : Inv (X.suite a ((a, oe) :: pn)) pins σ H s) (e1 : cls = .ref D) (e2 : d = some dd) (hd : H dd = some (.xd fs)) :
    ∃ o : Obj, PySem.W.InstAt s.heap a oe D (some o) := by
  obtain ⟨hget, _⟩ := I.pin (a, oe) (List.mem_append.mpr (.inl List.mem_cons_self))
  obtain ⟨vs, hv⟩ := hf
  obtain ⟨m, ⟨o, es, ep, ho, _⟩, _⟩ := (show ObjOk _ _ H s.heap dd (.xd fs) from I.hok dd _ hd)
  refine ⟨o, ?_⟩
  obtain ⟨oc, od, oda, osl⟩ := oe
  obtain ⟨h1, h2⟩ := hz
  dsimp only at h1 h2 hv
  subst h1 h2 hv e1 e2
  exact ⟨hget, rfl, rfl, ho⟩
theorem kit_held {K : PySem.W.Frag} {D : Addr} {o : Obj} (C : ExcC K D) : PySem.W.KitX K (.ref a) (.ref D) fun h => PySem.W.InstAt h a oe D (some o) := by
  refine PySem.W.kitx_exc ?_ C.hg C.hk C.hs C.ha C.hn C.ht C.hm
  obtain ⟨cd, hc, _⟩ := PySem.W.any_some C.hd
  rw [hc] <;> rfl
theorem call_isZ (hz : Zc cls d oe) (hf : ∃ vs, oe.data = .fields vs) : CallR (X.suite a ((a, oe) :: pn)) (.builtin "isinstance") (rIsZ X.K a cls d) := by
  intro pins s σ H xs us Q I r h
  obtain ⟨c, u, D, dd, fs, b, rfl, k, e1, e2, hd, C, e, q⟩ := h
  obtain ⟨u1, u2, rfl, r1, r2⟩ := vals2 r
  have e3 := k.eq r2
  subst e3
  cases (show u1 = Value.ref a from r1)
  obtain ⟨o, J⟩ := inst_held hz hf I e1 e2 hd
  exact PySem.W.kia_one (kit_held C) I.kIn J e (fun z => nomatch z) fun tk => ⟨.bl b, H, I.tok tk, rfl, q⟩
theorem call_isZT (hz : Zc cls d oe) (hf : ∃ vs, oe.data = .fields vs) : CallR (X.suite a ((a, oe) :: pn)) (.builtin "isinstance") (rIsZT X.K a cls d) := by
  intro pins s σ H xs us Q I r h
  obtain ⟨tp, cs, ws, D, dd, fs, b, rfl, hT, k, e1, e2, hd, C, e, q⟩ := h
  obtain ⟨u1, u2, rfl, r1, r2⟩ := vals2 r
  cases (show u2 = Value.ref tp from r2)
  cases (show u1 = Value.ref a from r1)
  obtain ⟨o, J⟩ := inst_held hz hf I e1 e2 hd
  obtain ⟨_, its, rv, o2, h1, h2, n, h3⟩ := (show ObjOk _ _ H s.heap tp (.tup cs) from I.hok tp _ hT)
  have e3 := ClsV.all k rv
  subst e3
  obtain ⟨oc, od, dt, sl⟩ := o2
  simp only at h2 h3
  subst h2 h3
  exact PySem.W.kia_tup (kit_held C) I.kIn J h1 e (fun z => nomatch z) fun tk => ⟨.bl b, H, I.tok tk, rfl, q⟩
end
/-! ### kinds of values -/
inductive Kd where
  | int | str | bool | none | list | tuple | dict
def Kd.nm : Kd → String
  | .int => "int"
  | .str => "str"
  | .bool => "bool"
  | .none => "NoneType"
  | .list => "list"
  | .tuple => "tuple"
  | .dict => "dict"
def KdV (K : PySem.W.Frag) (H : Hp) : V → Kd → Prop
  | .int _, .int => True
  | .str _, .str => True
  | .bl _, .bool => True
  | .non, .none => True
  | .ref a, .list => ∃ xs, H a = some (.lst xs)
  | .ref a, .tuple => (∃ xs, H a = some (.tup xs)) ∨ ∃ o, K.lookup a = some o ∧ o.cls = .type "tuple"
  | .ref a, .dict => ∃ kvs, H a = some (.dK kvs)
  | _, _ => False
theorem KdV.ext {K : PySem.W.Frag} {H H' : Hp} {v : V} {k : Kd} (h : KdV K H v k) (s : ∀ a o, v = .ref a → H a = some o → (∀ ps, o ≠ .tbl ps) → H' a = some o) : KdV K H' v k := by
  cases v <;> cases k <;> first | exact h | exact h.elim | skip
  · obtain ⟨xs, e⟩ := h
    exact ⟨xs, s _ _ rfl e fun _ z => nomatch z⟩
  · rcases h with ⟨xs, e⟩ | h
    · exact .inl ⟨xs, s _ _ rfl e fun _ z => nomatch z⟩
    · exact .inr h
  · obtain ⟨xs, e⟩ := h
    exact ⟨xs, s _ _ rfl e fun _ z => nomatch z⟩
theorem KdV.same {K : PySem.W.Frag} {H H' : Hp} {v : V} {k : Kd} (h : KdV K H v k) (s : Same H H') : KdV K H' v k := h.ext fun a o _ e _ => s a o e
theorem KdV.ty {K : PySem.W.Frag} {H : Hp} {v : V} {k : Kd} (h : KdV K H v k) : TyX K H v (.type k.nm) := by
  cases v <;> cases k <;> first | exact h.elim | skip
  · exact .base .non
  · exact .base (.bl _)
  · exact .base (.int _)
  · exact .base (.str _)
  · obtain ⟨xs, e⟩ := h
    exact .base (.lst e)
  · rcases h with ⟨xs, e⟩ | ⟨o, e, c⟩
    · exact .base (.tup e)
    · exact .kTuple e c
  · obtain ⟨xs, e⟩ := h
    exact .base (.dK e)
def Kd.is (T : String) : Kd → Bool
  | .int => T == "int"
  | .str => T == "str"
  | .bool => T == "bool" || T == "int"
  | .list => T == "list"
  | .tuple => T == "tuple"
  | .dict => T == "dict"
  | .none => false
theorem kd_is {K : PySem.W.Frag} {k : Kd} {T : String} (hT : T ∈ kinds5) : PySem.W.kitOne K (.type k.nm) (.type T) = some (k.is T) := by
  cases k <;>
  · simp only [kinds5, List.mem_cons, List.not_mem_nil, or_false] at hT
    rcases hT with rfl | rfl | rfl | rfl | rfl <;> exact kit_ty (by decide +kernel)
def Kd.seq (k : Kd) : Bool := k.is "list" || k.is "tuple"
theorem kd_seq {K : PySem.W.Frag} {k : Kd} : PySem.W.kitAny K (.type k.nm) [.type "list", .type "tuple"] = some k.seq := by
  refine kitAny_cons (kd_is (by decide)) (fun e => ?_) (fun e => by unfold Kd.seq; rw [e]; rfl)
  unfold Kd.seq
  rw [e, Bool.false_or]
  refine kitAny_cons (kd_is (by decide)) (fun e => ?_) (fun e => e)
  rw [e]
  exact kitAny_nil
end Vf
namespace Vf
open PySem PySem.Spec PyProof.Rows L2
theorem sqT_same {K : PySem.W.Frag} {H H' : Hp} {a : Addr} {xs : List V} (h : SqT K H a xs) (s : Same H H') : SqT K H' a xs := by
  rcases h with (h | ⟨o, h⟩) | h
  · exact .inl (.inl (s _ _ h))
  · exact .inl (.inr ⟨o, s _ _ h⟩)
  · exact .inr h
theorem sqL_same {K : PySem.W.Frag} {H H' : Hp} {a : Addr} {xs : List V} (h : SqL K H a xs) (s : Same H H') : SqL K H' a xs := by
  rcases h with (h | ⟨o, h⟩) | h
  · exact .inl (.inl (s _ _ h))
  · exact .inl (.inr ⟨o, s _ _ h⟩)
  · exact .inr h
/-! ### the rules whose readings name the written part, it told -/
section
variable {X : Cx} {K : PySem.W.Frag}
theorem pe_fldK {a : Expr} {f : Str} {pos : Pos} {ta : TE} (hK : X.K = K) (ha : PE X a ta) (hb : attributeBase a f X.env (eval a X.env) = eval a X.env) : PE X (.Attribute a f pos) (tFld K ta f) := by
  subst hK
  exact pe_fld ha hb
theorem cr_minTK (hK : X.K = K) (hc : X.calm = true) (hu : X.A.units + 64 < cLine) : CallR X (.builtin "min") (rMinT K) := by
  subst hK
  exact cr_minT hc hu
theorem cr_maxTK (hK : X.K = K) (hc : X.calm = true) (hu : X.A.units + 64 < cLine) : CallR X (.builtin "max") (rMaxT K) := by
  subst hK
  exact cr_maxT hc hu
theorem ix_tupK (hK : X.K = K) : IxR X (rIxT K) := by
  subst hK
  exact ix_tup
theorem ix_listK (hK : X.K = K) : IxR X (rIxL K) := by
  subst hK
  exact ix_list
theorem pg_tupK {es : List Expr} {k : Nat} {pos : Pos} {t : TGs} {n : Nat} (hK : X.K = K) (hc : X.calm = true) (h : PGs X es t)
    (hn : (assignEach es X.env).length = n := by rfl) (hst : (assignEach es X.env).findIdx? (·.1) = none := by rfl) : PG X (.Tuple es k pos) (gTup K n t) := by
  subst hK
  exact pg_tup hc h hn hst
theorem op_in_seqK (hK : X.K = K) : OpR X (compareOp .In) (rIn K false) := by
  subst hK
  exact op_in_seq
theorem op_notIn_seqK (hK : X.K = K) : OpR X (compareOp .NotIn) (rIn K true) := by
  subst hK
  exact op_notIn_seq
end
/-- a method of an own class, by its class and name -/
def HasM (P : Program) (w : World) (K : PySem.W.Frag) (mg : Str → Option Value) (base : Heap) (CX : CXT) (x m : Str) (k : Nat) (ps : List Str) (sp : Sp) : Prop :=
  ∃ fd : FuncData, FnOk P w K mg base CX k (He.ma K (He.ga K x) m) fd ps sp ∧ Binds K fd ps []
/-- f(k = v, ..) of a def with defaults: n positional values, keywords ks; g puts positional values, defaults, keywords' values in the parameters' order -/
theorem kbn_dfl {K : PySem.W.Frag} {x qual : Str} {params : Arguments} {body : List Stmt} {scope : Scope} {dvs : List V} {f : Addr} {fd : FuncData} {ps : List Str} (F : FunD K x qual params body scope dvs [] f fd) (n : Nat) (ks : List Str) (g : {α : Type} → List α → List α → List α → List α) (hd : dvs ≠ [])
    (hrel : ∀ {vs ds zs : List V} {us its ws : List Value}, Vals vs us → Vals ds its → Vals zs ws → Vals (g vs ds zs) (g us its ws))
    (h : ∀ (T : Addr) (kV doc pm : Value) (an : Option Addr) (cdv ct : Value) (us its ws : List Value), us.length = n → its.length = dvs.length → ws.length = ks.length →
      ∃ k, bindArgs (PySem.W.fnOf x qual params body scope (.ref T) kV doc pm an cdv ct) ⟨us, ks.zip ws⟩ = seqItems? (.ref T) >>= k ∧ k (some its.toArray) = pure (ps.zip (g us its ws))) :
    ∃ its : List Value, KBn K fd ps n ks (fun us ws => g us its ws) (fun vs zs => g vs dvs zs) := by
  obtain ⟨oc, od, dV, kV, doc, pm, an, cdv, ct, osl, rfl, lk, hcd, hD, hK⟩ := F.ex
  rcases hD with ⟨e, _⟩ | ⟨_, T, o, its, m, rfl, lT, oT, rT⟩
  · exact absurd e hd
  · refine ⟨its, ⟨fun s us ws X l1 l2 => ?_, fun r1 r2 => hrel r1 rT r2⟩⟩
    obtain ⟨k, e1, e2⟩ := h T kV doc pm an cdv ct us its ws l1 rT.length.symm l2
    refine BindsTo.of_looks fun M => ?_
    rw [e1]
    exact looks_items X lT oT (.of_pure e2)
end Vf
namespace K47
open PySem PySem.Spec PyProof.Rows L2 Vf
def gk10 {α : Type} : List α → List α → List α := fun _ zs => match zs with
  | [z0, z1] => [z1, z0]
  | _ => []
theorem gk10_rel {vs zs : List V} {us ws : List Value} (_ : Vals vs us) (h : Vals zs ws) : Vals (gk10 vs zs) (gk10 us ws) := by
  cases h with
  | nil => exact .nil
  | cons r0 h =>
    cases h with
    | nil => exact .nil
    | cons r1 h =>
      cases h with
      | nil => exact (.cons r1 (.cons r0 .nil))
      | cons r h => exact .nil
def gk01 {α : Type} : List α → List α → List α := fun _ zs => match zs with
  | [z0, z1] => [z0, z1]
  | _ => []
theorem gk01_rel {vs zs : List V} {us ws : List Value} (_ : Vals vs us) (h : Vals zs ws) : Vals (gk01 vs zs) (gk01 us ws) := by
  cases h with
  | nil => exact .nil
  | cons r0 h =>
    cases h with
    | nil => exact .nil
    | cons r1 h =>
      cases h with
      | nil => exact (.cons r0 (.cons r1 .nil))
      | cons r h => exact .nil
def gk210 {α : Type} : List α → List α → List α := fun _ zs => match zs with
  | [z0, z1, z2] => [z2, z1, z0]
  | _ => []
theorem gk210_rel {vs zs : List V} {us ws : List Value} (_ : Vals vs us) (h : Vals zs ws) : Vals (gk210 vs zs) (gk210 us ws) := by
  cases h with
  | nil => exact .nil
  | cons r0 h =>
    cases h with
    | nil => exact .nil
    | cons r1 h =>
      cases h with
      | nil => exact .nil
      | cons r2 h =>
        cases h with
        | nil => exact (.cons r2 (.cons r1 (.cons r0 .nil)))
        | cons r h => exact .nil
def gk012 {α : Type} : List α → List α → List α := fun _ zs => match zs with
  | [z0, z1, z2] => [z0, z1, z2]
  | _ => []
theorem gk012_rel {vs zs : List V} {us ws : List Value} (_ : Vals vs us) (h : Vals zs ws) : Vals (gk012 vs zs) (gk012 us ws) := by
  cases h with
  | nil => exact .nil
  | cons r0 h =>
    cases h with
    | nil => exact .nil
    | cons r1 h =>
      cases h with
      | nil => exact .nil
      | cons r2 h =>
        cases h with
        | nil => exact (.cons r0 (.cons r1 (.cons r2 .nil)))
        | cons r h => exact .nil
def gk201 {α : Type} : List α → List α → List α := fun _ zs => match zs with
  | [z0, z1, z2] => [z2, z0, z1]
  | _ => []
theorem gk201_rel {vs zs : List V} {us ws : List Value} (_ : Vals vs us) (h : Vals zs ws) : Vals (gk201 vs zs) (gk201 us ws) := by
  cases h with
  | nil => exact .nil
  | cons r0 h =>
    cases h with
    | nil => exact .nil
    | cons r1 h =>
      cases h with
      | nil => exact .nil
      | cons r2 h =>
        cases h with
        | nil => exact (.cons r2 (.cons r0 (.cons r1 .nil)))
        | cons r h => exact .nil
def HasKX (P : Program) (w : World) (K : PySem.W.Frag) (mg : Str → Option Value) (base : Heap) (x : Str) (k : Nat) (ps ks : List Str) (gV : List V → List V → List V) (sp : Sp) : Prop :=
  ∃ (f : Addr) (fd : FuncData) (g : List Value → List Value → List Value), FnOk P w K mg base (L2.CX P w) k f fd ps sp ∧ mg x = some (.ref f) ∧ PySem.W.keepIn K (.ref f) = true ∧ KBn K fd ps 0 ks g gV
end K47

namespace K47
open PySem PySem.Spec PyProof.Rows L2 Vf LamX
section
variable {hh : Heap} {P : Program} {w : World} {K : PySem.W.Frag} {mg : Str → Option Value} {base : Heap}
/-! ### what the checks tell -/
def isI : V → Bool
  | .int _ => true
  | _ => false
def isB : V → Bool
  | .bl _ => true
  | _ => false
def isS : V → Bool
  | .str _ => true
  | _ => false
theorem kd_int {H : Hp} {v : V} {k : Kd} (h : KdV K H v k) : k.is "int" = (isI v || isB v) := by
  cases v <;> cases k <;> first | rfl | exact h.elim
theorem kd_bool {H : Hp} {v : V} {k : Kd} (h : KdV K H v k) : k.is "bool" = isB v := by
  cases v <;> cases k <;> first | rfl | exact h.elim
theorem kd_str {H : Hp} {v : V} {k : Kd} (h : KdV K H v k) : k.is "str" = isS v := by
  cases v <;> cases k <;> first | rfl | exact h.elim
def isGrid (v : V) : Bool := isS v && inV v [.str "square", .str "triangle"]
def sp_is_grid (K : PySem.W.Frag) : Sp := fun vs H Q _ => ∃ (v : V) (k : Kd), vs = [v] ∧ KdV K H v k ∧ Q (.bl (isGrid v)) H
theorem sc_is_grid : FnScope ["value"] ["value"] (defScope s_is_grid) := ⟨rfl, rfl, rfl, by decide +kernel, rfl, by decide +kernel, by decide +kernel⟩
theorem ok_is_grid {f : Addr} {fd : FuncData} (F : FunD K "is_grid" "is_grid" (defArgs s_is_grid) (defBody s_is_grid) (defScope s_is_grid) [] [] f fd) (Tx : Txt K mg)   : FnOk P w K mg base CX0 1 f fd ["value"] (sp_is_grid K) := by
  refine FunD.ok F sc_is_grid (fun vs H Q E h => ?_) (fun cdv A outer s H vs Q E hr h => ?_)
  · obtain ⟨v, k, rfl, _⟩ := h
    rfl
  · obtain ⟨v, k, rfl, hk, q⟩ := h
    refine ⟨_, PSs.nox (pss_one (ps_ret (pe_and (pe_callB call_isi (by rfl) Tx.n_isinstance (by decide +kernel) (pa_cons (pv 0) (pa_cons (pe_bltn (v := .ty "str") (by rfl) Tx.n_str (by decide +kernel) rfl) pa_nil))) (pe_one (pe_cmpR op_in_seq (pv 0) (pe_glob (v := .ref (He.ga K "KINDS")) (by rfl) Tx.g_KINDS rfl) rfl))))), ?_⟩
    refine ⟨_, rfl, v, _, _, _, _, rfl, .ty "str", hk.ty, kd_is (by decide), _, rfl, ?_⟩
    rw [kd_str hk]
    cases v with
    | str z => exact ⟨_, rfl, _, _, rfl, .inr (Tx.kinds _), rfl, rfl, q⟩
    | _ => exact q
theorem has_is_grid (Tx : Txt K mg) (c : He.SaysX fa fn [] tf ex w hh K) (X : K.In hh) (GG : hh.Ns mainGlobals mg)   : Has P w K mg base "is_grid" 1 ["value"] (sp_is_grid K) := by
  obtain ⟨fd, F⟩ := c.t.d.def_ 2 (d := d_is_grid) rfl
  exact ⟨_, fd, ok_is_grid F Tx , He.glo_ok X GG (c.t.d.fact 3 (f := .glo "is_grid") rfl), F.kp, F.bindsN fun _ _ _ _ _ _ us hl => match us, hl with | [_], _ => rfl⟩
def sp_is_integer (K : PySem.W.Frag) : Sp := fun vs H Q _ => ∃ (v : V) (k : Kd), vs = [v] ∧ KdV K H v k ∧ Q (.bl (isI v)) H
theorem sc_is_integer : FnScope ["value"] ["value"] (defScope s_is_integer) := ⟨rfl, rfl, rfl, by decide +kernel, rfl, by decide +kernel, by decide +kernel⟩
theorem ok_is_integer {f : Addr} {fd : FuncData} (F : FunD K "is_integer" "is_integer" (defArgs s_is_integer) (defBody s_is_integer) (defScope s_is_integer) [] [] f fd) (Tx : Txt K mg)   : FnOk P w K mg base CX0 1 f fd ["value"] (sp_is_integer K) := by
  refine FunD.ok F sc_is_integer (fun vs H Q E h => ?_) (fun cdv A outer s H vs Q E hr h => ?_)
  · obtain ⟨v, k, rfl, _⟩ := h
    rfl
  · obtain ⟨v, k, rfl, hk, q⟩ := h
    refine ⟨_, PSs.nox (pss_one (ps_ret (pe_and (pe_callB call_isi (by rfl) Tx.n_isinstance (by decide +kernel) (pa_cons (pv 0) (pa_cons (pe_bltn (v := .ty "int") (by rfl) Tx.n_int (by decide +kernel) rfl) pa_nil))) (pe_one (pe_not (pe_callB call_isi (by rfl) Tx.n_isinstance (by decide +kernel) (pa_cons (pv 0) (pa_cons (pe_bltn (v := .ty "bool") (by rfl) Tx.n_bool (by decide +kernel) rfl) pa_nil)))))))), ?_⟩
    refine ⟨_, rfl, v, _, _, _, _, rfl, .ty "int", hk.ty, kd_is (by decide), _, rfl, ?_⟩
    rw [kd_int hk]
    refine ite2 (fun e => ?_) (fun e => ?_)
    · refine ⟨_, rfl, v, _, _, _, _, rfl, .ty "bool", hk.ty, kd_is (by decide), _, rfl, ?_⟩
      rw [kd_bool hk]
      cases v <;> first | exact q | cases e
    · cases v <;> first | exact q | exact absurd rfl e
theorem has_is_integer (Tx : Txt K mg) (c : He.SaysX fa fn [] tf ex w hh K) (X : K.In hh) (GG : hh.Ns mainGlobals mg)   : Has P w K mg base "is_integer" 1 ["value"] (sp_is_integer K) := by
  obtain ⟨fd, F⟩ := c.t.d.def_ 5 (d := d_is_integer) rfl
  exact ⟨_, fd, ok_is_integer F Tx , He.glo_ok X GG (c.t.d.fact 6 (f := .glo "is_integer") rfl), F.kp, F.bindsN fun _ _ _ _ _ _ us hl => match us, hl with | [_], _ => rfl⟩
def lo1 (x : Int) : V → Bool
  | .int i => decide (i ≤ x)
  | _ => true
def hi1 (x : Int) : V → Bool
  | .int j => decide (x ≤ j)
  | _ => true
def bnd (v l m : V) : Bool := match v with
  | .int x => lo1 x l && hi1 x m
  | _ => false
def noi : V → Bool
  | .non => true
  | .int _ => true
  | _ => false
def sp_is_within (K : PySem.W.Frag) : Sp := fun vs H Q _ => ∃ (v l m : V) (k : Kd), vs = [v, l, m] ∧ KdV K H v k ∧ noi l = true ∧ noi m = true ∧ Q (.bl (bnd v l m)) H
theorem sc_is_within : FnScope ["value", "least", "most"] ["value", "least", "most"] (defScope s_is_within) := ⟨rfl, rfl, rfl, by decide +kernel, rfl, by decide +kernel, by decide +kernel⟩
theorem ok_is_within {f : Addr} {fd : FuncData} (F : FunD K "is_within" "is_within" (defArgs s_is_within) (defBody s_is_within) (defScope s_is_within) [] [] f fd) (Tx : Txt K mg) (h_is_integer : Has P w K mg base "is_integer" 1 ["value"] (sp_is_integer K))  : FnOk P w K mg base CX0 2 f fd ["value", "least", "most"] (sp_is_within K) := by
  obtain ⟨f_is_integer, fd_is_integer, G_is_integer, g_is_integer, k_is_integer, b_is_integer⟩ := h_is_integer
  refine FunD.ok F sc_is_within (fun vs H Q E h => ?_) (fun cdv A outer s H vs Q E hr h => ?_)
  · obtain ⟨v, l, m, k, rfl, _⟩ := h
    rfl
  · obtain ⟨v, l, m, k, rfl, hk, hl, hm, q⟩ := h
    refine ⟨_, PSs.nox (pss_cons (ps_if (pt_not (pt_val (pe_call G_is_integer (hr.mono (by decide)) (by rfl) g_is_integer k_is_integer b_is_integer .nil pass0 (pa_cons (pv 0) pa_nil)))) (pss_one (ps_ret pe_bl)) pss_nil)
        (pss_one (ps_ret (pe_and (pe_or (pe_cmpR op_isN (pv 1) pe_non (nomark _)) (pe_one (pe_cmpR op_ge (pv 0) (pv 1) (nomark _)))) (pe_one (pe_or (pe_cmpR op_isN (pv 2) pe_non (nomark _)) (pe_one (pe_cmpR op_le (pv 0) (pv 2) (nomark _))))))))), ?_⟩
    refine ⟨_, rfl, v, k, rfl, hk, _, rfl, ite2 (fun e => ?_) (fun e => ?_)⟩
    · cases v <;> first | exact q | cases e
    · cases v with
      | int x =>
        cases l with
        | non =>
          refine ⟨_, rfl, rfl, _, rfl, ?_⟩
          refine ⟨_, rfl, ?_⟩
          cases m with
          | non => exact ⟨_, rfl, rfl, _, rfl, q⟩
          | int j => exact ⟨_, rfl, rfl, _, rfl, _, rfl, _, rfl, _, _, rfl, rfl, q⟩
          | _ => cases hm
        | int i =>
          refine ⟨_, rfl, rfl, _, rfl, _, rfl, _, rfl, _, _, rfl, rfl, _, rfl, ?_⟩
          refine ite2 (fun e1 => ?_) (fun e1 => ?_)
          · have q2 : Q (.bl (hi1 x m)) H := by
              have q3 : Q (.bl (decide (i ≤ x) && hi1 x m)) H := q
              rw [e1, Bool.true_and] at q3
              exact q3
            cases m with
            | non => exact ⟨_, rfl, rfl, _, rfl, q2⟩
            | int j => exact ⟨_, rfl, rfl, _, rfl, _, rfl, _, rfl, _, _, rfl, rfl, q2⟩
            | _ => cases hm
          · have q3 : Q (.bl (decide (i ≤ x) && hi1 x m)) H := q
            rw [Bool.eq_false_iff.mpr e1, Bool.false_and] at q3
            exact q3
        | _ => cases hl
      | _ => exact absurd rfl e
theorem has_is_within (Tx : Txt K mg) (c : He.SaysX fa fn [] tf ex w hh K) (X : K.In hh) (GG : hh.Ns mainGlobals mg) (h_is_integer : Has P w K mg base "is_integer" 1 ["value"] (sp_is_integer K))  : Has P w K mg base "is_within" 2 ["value", "least", "most"] (sp_is_within K) := by
  obtain ⟨fd, F⟩ := c.t.d.def_ 6 (d := d_is_within) rfl
  exact ⟨_, fd, ok_is_within F Tx h_is_integer, He.glo_ok X GG (c.t.d.fact 7 (f := .glo "is_within") rfl), F.kp, F.bindsN fun _ _ _ _ _ _ us hl => match us, hl with | [_, _, _], _ => rfl⟩
def sp_is_listed (K : PySem.W.Frag) : Sp := fun vs H Q _ => ∃ (v : V) (k : Kd), vs = [v] ∧ KdV K H v k ∧ ∀ H', Same H H' → Q (.bl k.seq) H'
theorem sc_is_listed : FnScope ["value"] ["value"] (defScope s_is_listed) := ⟨rfl, rfl, rfl, by decide +kernel, rfl, by decide +kernel, by decide +kernel⟩
theorem ok_is_listed {f : Addr} {fd : FuncData} (F : FunD K "is_listed" "is_listed" (defArgs s_is_listed) (defBody s_is_listed) (defScope s_is_listed) [] [] f fd) (Tx : Txt K mg)   : FnOk P w K mg base CX0 1 f fd ["value"] (sp_is_listed K) := by
  refine FunD.ok F sc_is_listed (fun vs H Q E h => ?_) (fun cdv A outer s H vs Q E hr h => ?_)
  · obtain ⟨v, k, rfl, _⟩ := h
    rfl
  · obtain ⟨v, k, rfl, hk, q⟩ := h
    refine ⟨_, PSs.nox (pss_one (ps_ret (pe_callB call_isiT (by rfl) Tx.n_isinstance (by decide +kernel) (pa_cons (pv 0) (pa_cons (pe_tup (pa_cons (pe_bltn (v := .ty "list") (by rfl) Tx.n_list (by decide +kernel) rfl) (pa_cons (pe_bltn (v := .ty "tuple") (by rfl) Tx.n_tuple (by decide +kernel) rfl) pa_nil))) pa_nil))))), ?_⟩
    refine ⟨_, rfl, le_line (by decide), fun t nt => ?_⟩
    exact ⟨v, t, _, _, _, _, rfl, upd_same, .cons (.ty "list") (.cons (.ty "tuple") .nil), (hk.same (same_new nt)).ty, kd_seq, q _ (same_new nt)⟩
theorem has_is_listed (Tx : Txt K mg) (c : He.SaysX fa fn [] tf ex w hh K) (X : K.In hh) (GG : hh.Ns mainGlobals mg)   : Has P w K mg base "is_listed" 1 ["value"] (sp_is_listed K) := by
  obtain ⟨fd, F⟩ := c.t.d.def_ 7 (d := d_is_listed) rfl
  exact ⟨_, fd, ok_is_listed F Tx , He.glo_ok X GG (c.t.d.fact 8 (f := .glo "is_listed") rfl), F.kp, F.bindsN fun _ _ _ _ _ _ us hl => match us, hl with | [_], _ => rfl⟩
/-! ### rows of numbers -/
/-- a list or a tuple that was made -/
def Box (H : Hp) (a : Addr) (xs : List V) : Prop := H a = some (.lst xs) ∨ H a = some (.tup xs)
theorem Box.same {H H' : Hp} {a : Addr} {xs : List V} (h : Box H a xs) (s : Same H H') : Box H' a xs := h.elim (fun h => .inl (s _ _ h)) fun h => .inr (s _ _ h)
theorem Box.sq {H : Hp} {a : Addr} {xs : List V} (h : Box H a xs) : SqT K H a xs ∨ SqL K H a xs := h.elim (fun h => .inr (SqL.of h)) fun h => .inl (SqT.of h)
theorem bls_map (xs : List V) : (xs.filter fun _ => true).map (fun x => V.bl (isI x)) = (xs.map isI).map V.bl := by
  rw [List.filter_eq_self.mpr fun _ _ => rfl, List.map_map]
  rfl
/-- what may be asked whether it is a row: its items, or that it has none -/
def RowV (K : PySem.W.Frag) (H : Hp) (v : V) (b : Bool) : Prop := (∃ k, KdV K H v k ∧ k.seq = false ∧ b = false) ∨ ∃ (a : Addr) (xs : List V), v = .ref a ∧ Box H a xs ∧ xs.length ≤ 100 ∧ (∀ x ∈ xs, ∃ k, ∀ H', KdV K H' x k) ∧ b = xs.all isI
def sp_is_row (K : PySem.W.Frag) : Sp := fun vs H Q _ => ∃ (v : V) (b : Bool), vs = [v] ∧ RowV K H v b ∧ ∀ H', Same H H' → Q (.bl b) H'
theorem sc_is_row : FnScope ["value", "item"] ["value"] (defScope s_is_row) := ⟨rfl, rfl, rfl, by decide +kernel, rfl, by decide +kernel, by decide +kernel⟩
theorem ok_is_row {f : Addr} {fd : FuncData} (F : FunD K "is_row" "is_row" (defArgs s_is_row) (defBody s_is_row) (defScope s_is_row) [] [] f fd) (Tx : Txt K mg) (h_is_listed : Has P w K mg base "is_listed" 1 ["value"] (sp_is_listed K)) (h_is_integer : Has P w K mg base "is_integer" 1 ["value"] (sp_is_integer K))  : FnOk P w K mg base CX0 2 f fd ["value"] (sp_is_row K) := by
  obtain ⟨f_is_listed, fd_is_listed, G_is_listed, g_is_listed, k_is_listed, b_is_listed⟩ := h_is_listed
  obtain ⟨f_is_integer, fd_is_integer, G_is_integer, g_is_integer, k_is_integer, b_is_integer⟩ := h_is_integer
  refine FunD.ok F sc_is_row (fun vs H Q E h => ?_) (fun cdv A outer s H vs Q E hr h => ?_)
  · obtain ⟨v, b, rfl, _⟩ := h
    rfl
  · obtain ⟨v, b, rfl, hv, q⟩ := h
    rcases hv with ⟨k, hk, hs, rfl⟩ | ⟨a, xs, rfl, ha | ha, hl, hx, rfl⟩
    · refine ⟨_, PSs.nox (pss_one (ps_ret (pe_and (pe_call G_is_listed (hr.mono (by decide)) (by rfl) g_is_listed k_is_listed b_is_listed .nil pass0 (pa_cons (pv 0) pa_nil)) (pe_one (pe_callB (cr_all rfl) (by rfl) Tx.n_all (by decide +kernel) (pa_cons (pe_lc (own := [("item", 1)]) (g := gName 1) (tt := tYes) rfl sc_is_row.nd (pi_list (pv 0)) (blkOk_by (own := [("item", 1)]) (N := ["value", "item"]) (sc := defScope s_is_row) (by decide +kernel)) (fun _ _ _ _ _ => (pg_name (i := 1) sc_is_row.nd rfl (Or.inl rfl))) (fun _ _ _ _ _ => pts_nil) (fun _ _ _ _ _ => (pe_call G_is_integer (hr.mono (by decide)) (by rfl) g_is_integer k_is_integer b_is_integer .nil pass0 (pa_cons (pv 1) pa_nil)))) pa_nil)))))), ?_⟩
      refine ⟨_, rfl, _, k, rfl, hk, fun H1 s1 => ⟨_, rfl, ?_⟩⟩
      rw [hs]
      exact ite2 (fun e1 => absurd e1 (by decide)) (fun _ => q _ s1)
    · refine ⟨_, PSs.nox (pss_one (ps_ret (pe_and (pe_call G_is_listed (hr.mono (by decide)) (by rfl) g_is_listed k_is_listed b_is_listed .nil pass0 (pa_cons (pv 0) pa_nil)) (pe_one (pe_callB (cr_all rfl) (by rfl) Tx.n_all (by decide +kernel) (pa_cons (pe_lc (own := [("item", 1)]) (g := gName 1) (tt := tYes) rfl sc_is_row.nd (pi_list (pv 0)) (blkOk_by (own := [("item", 1)]) (N := ["value", "item"]) (sc := defScope s_is_row) (by decide +kernel)) (fun _ _ _ _ _ => (pg_name (i := 1) sc_is_row.nd rfl (Or.inl rfl))) (fun _ _ _ _ _ => pts_nil) (fun _ _ _ _ _ => (pe_call G_is_integer (hr.mono (by decide)) (by rfl) g_is_integer k_is_integer b_is_integer .nil pass0 (pa_cons (pv 1) pa_nil)))) pa_nil)))))), ?_⟩
      refine ⟨_, rfl, _, .list, rfl, ⟨_, ha⟩, fun H1 s1 => ⟨_, rfl, ?_⟩⟩
      refine ite2 (fun _ => ?_) (fun e => absurd rfl e)
      refine ⟨_, rfl, a, rfl, ⟨xs, SqL.of (s1 _ _ ha)⟩, fun D nD => ?_⟩
      refine lc_pure (walk_list (K := K) (a := a) (xs := xs)) xs rfl (by omega) (fun i H x H' y => ⟨same_of_eq y.1, y.2⟩) (fun x => .bl (isI x)) (fun _ => true) nD (fun H s => SqL.of (s _ _ (s1 _ _ ha))) (fun i x H2 Q1 Q0 hi s2 q1 q0 => ?_) (fun H2 s2 hD => ?_)
      · refine ⟨rfl, ?_⟩
        obtain ⟨kx, hkx⟩ := hx x (List.mem_of_getElem? hi)
        exact ⟨_, rfl, x, kx, rfl, hkx _, q1 rfl _ (Same.refl _)⟩
      · rw [bls_map] at hD
        refine ⟨D, _, rfl, SqL.of hD, ?_⟩
        have e : ((xs.map isI).all id) = xs.all isI := by rw [List.all_map]; rfl
        rw [e]
        exact q _ (s1.trans s2)
    · refine ⟨_, PSs.nox (pss_one (ps_ret (pe_and (pe_call G_is_listed (hr.mono (by decide)) (by rfl) g_is_listed k_is_listed b_is_listed .nil pass0 (pa_cons (pv 0) pa_nil)) (pe_one (pe_callB (cr_all rfl) (by rfl) Tx.n_all (by decide +kernel) (pa_cons (pe_lc (own := [("item", 1)]) (g := gName 1) (tt := tYes) rfl sc_is_row.nd (pi_tup (pv 0)) (blkOk_by (own := [("item", 1)]) (N := ["value", "item"]) (sc := defScope s_is_row) (by decide +kernel)) (fun _ _ _ _ _ => (pg_name (i := 1) sc_is_row.nd rfl (Or.inl rfl))) (fun _ _ _ _ _ => pts_nil) (fun _ _ _ _ _ => (pe_call G_is_integer (hr.mono (by decide)) (by rfl) g_is_integer k_is_integer b_is_integer .nil pass0 (pa_cons (pv 1) pa_nil)))) pa_nil)))))), ?_⟩
      refine ⟨_, rfl, _, .tuple, rfl, .inl ⟨_, ha⟩, fun H1 s1 => ⟨_, rfl, ?_⟩⟩
      refine ite2 (fun _ => ?_) (fun e => absurd rfl e)
      refine ⟨_, rfl, a, rfl, ⟨xs, SqT.of (s1 _ _ ha)⟩, fun D nD => ?_⟩
      refine lc_pure (walk_tup (K := K) (a := a) (xs := xs)) xs rfl (by omega) (fun i H x H' y => ⟨same_of_eq y.1, y.2⟩) (fun x => .bl (isI x)) (fun _ => true) nD (fun H s => SqT.of (s _ _ (s1 _ _ ha))) (fun i x H2 Q1 Q0 hi s2 q1 q0 => ?_) (fun H2 s2 hD => ?_)
      · refine ⟨rfl, ?_⟩
        obtain ⟨kx, hkx⟩ := hx x (List.mem_of_getElem? hi)
        exact ⟨_, rfl, x, kx, rfl, hkx _, q1 rfl _ (Same.refl _)⟩
      · rw [bls_map] at hD
        refine ⟨D, _, rfl, SqL.of hD, ?_⟩
        have e : ((xs.map isI).all id) = xs.all isI := by rw [List.all_map]; rfl
        rw [e]
        exact q _ (s1.trans s2)
theorem has_is_row (Tx : Txt K mg) (c : He.SaysX fa fn [] tf ex w hh K) (X : K.In hh) (GG : hh.Ns mainGlobals mg) (h_is_listed : Has P w K mg base "is_listed" 1 ["value"] (sp_is_listed K)) (h_is_integer : Has P w K mg base "is_integer" 1 ["value"] (sp_is_integer K))  : Has P w K mg base "is_row" 2 ["value"] (sp_is_row K) := by
  obtain ⟨fd, F⟩ := c.t.d.def_ 8 (d := d_is_row) rfl
  exact ⟨_, fd, ok_is_row F Tx h_is_listed h_is_integer, He.glo_ok X GG (c.t.d.fact 9 (f := .glo "is_row") rfl), F.kp, F.bindsN fun _ _ _ _ _ _ us hl => match us, hl with | [_], _ => rfl⟩
/-! ### the error classes' own __init__ -/
def sp_BadKind_init (K : PySem.W.Frag) : Sp := spI1 K "part"
def sp_BadNumber_init (K : PySem.W.Frag) : Sp := spI1 K "part"
theorem sc_BadKind_init : FnScope ["self", "part"] ["self", "part"] (defScope s_BadKind_init) := ⟨rfl, rfl, rfl, by decide +kernel, rfl, by decide +kernel, by decide +kernel⟩
theorem ok_BadKind_init {f : Addr} {fd : FuncData} (F : FunD K "__init__" "BadKind.__init__" (defArgs s_BadKind_init) (defBody s_BadKind_init) (defScope s_BadKind_init) [] [] f fd) (Tx : Txt K mg)   : FnOk P w K mg base CX0 1 f fd ["self", "part"] (sp_BadKind_init K) := by
  refine FunD.ok F sc_BadKind_init (fun vs H Q E h => ?_) (fun cdv A outer s H vs Q E hr h => ?_)
  · obtain ⟨a, C, v, rfl, _⟩ := h
    rfl
  · obtain ⟨a, C, v, rfl, T, no, e, q⟩ := h
    refine ⟨_, PSs.nox (pss_one (ps_ost (pv 0) (pv 1))), ?_⟩
    exact ⟨_, rfl, _, rfl, a, C, rfl, T, no, .inl ⟨e, fun dx nd ne => q dx nd ne⟩⟩
theorem has_BadKind_init (Tx : Txt K mg) (c : He.SaysX fa fn [] tf ex w hh K) (X : K.In hh) (GG : hh.Ns mainGlobals mg)   : HasM P w K mg base CX0 "BadKind" "__init__" 1 ["self", "part"] (sp_BadKind_init K) := by
  obtain ⟨fd, F⟩ := c.t.d.def_ 0 (d := d_BadKind_init) rfl
  exact ⟨fd, ok_BadKind_init F Tx , F.bindsN fun _ _ _ _ _ _ us hl => match us, hl with | [_, _], _ => rfl⟩
theorem sc_BadNumber_init : FnScope ["self", "part"] ["self", "part"] (defScope s_BadNumber_init) := ⟨rfl, rfl, rfl, by decide +kernel, rfl, by decide +kernel, by decide +kernel⟩
theorem ok_BadNumber_init {f : Addr} {fd : FuncData} (F : FunD K "__init__" "BadNumber.__init__" (defArgs s_BadNumber_init) (defBody s_BadNumber_init) (defScope s_BadNumber_init) [] [] f fd) (Tx : Txt K mg)   : FnOk P w K mg base CX0 1 f fd ["self", "part"] (sp_BadNumber_init K) := by
  refine FunD.ok F sc_BadNumber_init (fun vs H Q E h => ?_) (fun cdv A outer s H vs Q E hr h => ?_)
  · obtain ⟨a, C, v, rfl, _⟩ := h
    rfl
  · obtain ⟨a, C, v, rfl, T, no, e, q⟩ := h
    refine ⟨_, PSs.nox (pss_one (ps_ost (pv 0) (pv 1))), ?_⟩
    exact ⟨_, rfl, _, rfl, a, C, rfl, T, no, .inl ⟨e, fun dx nd ne => q dx nd ne⟩⟩
theorem has_BadNumber_init (Tx : Txt K mg) (c : He.SaysX fa fn [] tf ex w hh K) (X : K.In hh) (GG : hh.Ns mainGlobals mg)   : HasM P w K mg base CX0 "BadNumber" "__init__" 1 ["self", "part"] (sp_BadNumber_init K) := by
  obtain ⟨fd, F⟩ := c.t.d.def_ 1 (d := d_BadNumber_init) rfl
  exact ⟨fd, ok_BadNumber_init F Tx , F.bindsN fun _ _ _ _ _ _ us hl => match us, hl with | [_, _], _ => rfl⟩
/-! ### kinds of grid -/
def turnOf (z : Str) : Int := if z = "square" then 4 else 3
def fullOf (z : Str) : Int := if z = "square" then 4 else 6
def kdErr (K : PySem.W.Frag) (E : XK) (H : Hp) : Prop := Rz E (He.ga K "BadKind") [("part", .str "kind")] H
def sp_need_kind (K : PySem.W.Frag) : Sp := fun vs H Q E => ∃ (v : V) (k : Kd), vs = [v] ∧ KdV K H v k ∧ (isGrid v = true → Q .non H) ∧ (isGrid v = false → kdErr K E H)
theorem sc_need_kind : FnScope ["kind"] ["kind"] (defScope s_need_kind) := ⟨rfl, rfl, rfl, by decide +kernel, rfl, by decide +kernel, by decide +kernel⟩
theorem ok_need_kind {f : Addr} {fd : FuncData} (F : FunD K "need_kind" "need_kind" (defArgs s_need_kind) (defBody s_need_kind) (defScope s_need_kind) [] [] f fd) (Tx : Txt K mg) (h_is_grid : Has P w K mg base "is_grid" 1 ["value"] (sp_is_grid K)) (h_BadKind_init : HasM P w K mg base CX0 "BadKind" "__init__" 1 ["self", "part"] (sp_BadKind_init K))  : FnOk P w K mg base (L2.CX P w) 3 f fd ["kind"] (sp_need_kind K) := by
  obtain ⟨f_is_grid, fd_is_grid, G_is_grid, g_is_grid, k_is_grid, b_is_grid⟩ := h_is_grid
  obtain ⟨fd_BadKind_init, G_BadKind_init, b_BadKind_init⟩ := h_BadKind_init
  refine FunD.ok F sc_need_kind (fun vs H Q E h => ?_) (fun cdv A outer s H vs Q E hr h => ?_)
  · obtain ⟨v, k, rfl, _⟩ := h
    rfl
  · obtain ⟨v, k, rfl, hk, q, r⟩ := h
    refine ⟨_, (pss_one (ps_if (pt_not (pt_val (pe_call G_is_grid (hr.mono (by decide)) (by rfl) g_is_grid k_is_grid b_is_grid .nil pass0 (pa_cons (pv 0) pa_nil)))) (pss_one (ps_raise rfl (takes_of rfl rfl rfl rfl) (pmk_oex Tx.er_BadKind.oex Tx.er_BadKind.ini Tx.er_BadKind.fn G_BadKind_init (hr.mono (by decide)) b_BadKind_init .nil pass0 (by rfl) Tx.g_BadKind (pa_cons pe_str pa_nil)))) pss_nil)), ?_⟩
    refine ⟨_, rfl, v, k, rfl, hk, _, rfl, ?_⟩
    cases e : isGrid v with
    | true => exact q e
    | false => exact mk1 Tx.er_BadKind.oex (Tx.er_BadKind.no "part" (by simp)) (r e)
theorem has_need_kind (Tx : Txt K mg) (c : He.SaysX fa fn [] tf ex w hh K) (X : K.In hh) (GG : hh.Ns mainGlobals mg) (h_is_grid : Has P w K mg base "is_grid" 1 ["value"] (sp_is_grid K)) (h_BadKind_init : HasM P w K mg base CX0 "BadKind" "__init__" 1 ["self", "part"] (sp_BadKind_init K))  : HasX P w K mg base "need_kind" 3 ["kind"] (sp_need_kind K) := by
  obtain ⟨fd, F⟩ := c.t.d.def_ 3 (d := d_need_kind) rfl
  exact ⟨_, fd, ok_need_kind F Tx h_is_grid h_BadKind_init, He.glo_ok X GG (c.t.d.fact 4 (f := .glo "need_kind") rfl), F.kp, F.bindsN fun _ _ _ _ _ _ us hl => match us, hl with | [_], _ => rfl⟩
theorem grid_str {v : V} (h : isGrid v = true) : ∃ z, v = .str z := by
  cases v with
  | str z => exact ⟨z, rfl⟩
  | _ => cases h
theorem str_sq (z : Str) : decide (V.str z = V.str "square") = decide (z = "square") := by
  by_cases h : z = "square"
  · rw [h, decide_eq_true rfl, decide_eq_true rfl]
  · rw [decide_eq_false h, decide_eq_false fun e => h (by injection e)]
def sp_full_of (K : PySem.W.Frag) : Sp := fun vs H Q E => ∃ (v : V) (k : Kd), vs = [v] ∧ KdV K H v k ∧ (∀ z, v = .str z → isGrid v = true → Q (.int (fullOf z)) H) ∧ (isGrid v = false → kdErr K E H)
theorem sc_full_of : FnScope ["kind"] ["kind"] (defScope s_full_of) := ⟨rfl, rfl, rfl, by decide +kernel, rfl, by decide +kernel, by decide +kernel⟩
theorem ok_full_of {f : Addr} {fd : FuncData} (F : FunD K "full_of" "full_of" (defArgs s_full_of) (defBody s_full_of) (defScope s_full_of) [] [] f fd) (Tx : Txt K mg) (h_need_kind : HasX P w K mg base "need_kind" 3 ["kind"] (sp_need_kind K))  : FnOk P w K mg base (L2.CX P w) 4 f fd ["kind"] (sp_full_of K) := by
  obtain ⟨f_need_kind, fd_need_kind, G_need_kind, g_need_kind, k_need_kind, b_need_kind⟩ := h_need_kind
  refine FunD.ok F sc_full_of (fun vs H Q E h => ?_) (fun cdv A outer s H vs Q E hr h => ?_)
  · obtain ⟨v, k, rfl, _⟩ := h
    rfl
  · obtain ⟨v, k, rfl, hk, q, r⟩ := h
    refine ⟨_, (pss_cons (ps_expr (pe_call G_need_kind (hr.mono (by decide)) (by rfl) g_need_kind k_need_kind b_need_kind .nil (passE rfl rfl rfl rfl) (pa_cons (pv 0) pa_nil)))
        (pss_one (ps_ret (pe_ifExp (pt_cmpR op_eq (pv 0) pe_str (nomark _)) pe_int pe_int)))), ?_⟩
    refine ⟨_, rfl, v, k, rfl, hk, fun e => ?_, fun e => r e⟩
    obtain ⟨z, rfl⟩ := grid_str e
    have q2 := q z rfl e
    refine ⟨_, rfl, rfl, _, rfl, ?_⟩
    rw [str_sq]
    unfold fullOf at q2
    refine ite2 (fun hz => ?_) (fun hz => ?_)
    · rw [if_pos (of_decide_eq_true hz)] at q2
      exact q2
    · rw [if_neg fun e => hz (decide_eq_true e)] at q2
      exact q2
theorem has_full_of (Tx : Txt K mg) (c : He.SaysX fa fn [] tf ex w hh K) (X : K.In hh) (GG : hh.Ns mainGlobals mg) (h_need_kind : HasX P w K mg base "need_kind" 3 ["kind"] (sp_need_kind K))  : HasX P w K mg base "full_of" 4 ["kind"] (sp_full_of K) := by
  obtain ⟨fd, F⟩ := c.t.d.def_ 4 (d := d_full_of) rfl
  exact ⟨_, fd, ok_full_of F Tx h_need_kind, He.glo_ok X GG (c.t.d.fact 5 (f := .glo "full_of") rfl), F.kp, F.bindsN fun _ _ _ _ _ _ us hl => match us, hl with | [_], _ => rfl⟩

end
end K47

namespace K47
open PySem PySem.Spec PyProof.Rows L2 Vf LamX
section
variable {hh : Heap} {P : Program} {w : World} {K : PySem.W.Frag} {mg : Str → Option Value} {base : Heap}
/-! ### vectors -/
theorem RowV.same {H H' : Hp} {v : V} {b : Bool} (h : RowV K H v b) (s : Same H H') : RowV K H' v b := by
  rcases h with ⟨k, hk, e⟩ | ⟨a, xs, e, hb, r⟩
  · exact .inl ⟨k, hk.same s, e⟩
  · exact .inr ⟨a, xs, e, hb.same s, r⟩
/-- what may be asked whether it is a vector -/
def VecV (K : PySem.W.Frag) (H : Hp) (v : V) (b : Bool) : Prop := (∃ k, KdV K H v k ∧ k.seq = false ∧ b = false) ∨ ∃ (a : Addr) (xs : List V), v = .ref a ∧ Box H a xs ∧ xs.length ≤ 100 ∧ (∀ x ∈ xs, ∃ k, ∀ H', KdV K H' x k) ∧ b = (xs.all isI && decide (xs.length = 2))
theorem Box.ls' {H H1 : Hp} {a : Addr} {xs : List V} (h : Box H a xs) (s : Same H H1) : SqL K H1 a xs ∨ SqT K H1 a xs := h.elim (fun h => .inl (SqL.of (s _ _ h))) fun h => .inr (SqT.of (s _ _ h))
theorem box_tg {n : Nat} {t : TGs} {a : Addr} {xs : List V} {σ : L2.St} {H : Hp} {Q : L2.St → Hp → Prop} (hb : Box H a xs) (hl : xs.length = n) (h : t xs σ H Q) : gTup K n t (.ref a) σ H Q ∨ gUnl K n t (.ref a) σ H Q :=
  hb.elim (fun e => .inr ⟨a, xs, rfl, SqL.of e, hl, h⟩) (fun e => .inl ⟨a, xs, rfl, SqT.of e, hl, h⟩)
theorem VecV.same {H H' : Hp} {v : V} {b : Bool} (h : VecV K H v b) (s : Same H H') : VecV K H' v b := by
  rcases h with ⟨k, hk, e⟩ | ⟨a, xs, e, hb, r⟩
  · exact .inl ⟨k, hk.same s, e⟩
  · exact .inr ⟨a, xs, e, hb.same s, r⟩
/-- a vector, as a list or a tuple -/
def VecAt (H : Hp) (v : V) (p : Int × Int) : Prop := ∃ a, v = .ref a ∧ Box H a [.int p.1, .int p.2]
theorem VecAt.same {H H' : Hp} {v : V} {p : Int × Int} (h : VecAt H v p) (s : Same H H') : VecAt H' v p := by
  obtain ⟨a, e, b⟩ := h
  exact ⟨a, e, b.same s⟩
theorem VecAt.v {H : Hp} {v : V} {p : Int × Int} (h : VecAt H v p) : VecV K H v true := by
  obtain ⟨a, e, b⟩ := h
  refine .inr ⟨a, _, e, b, (show 2 ≤ 100 by decide), fun x hx => ⟨.int, fun H' => ?_⟩, rfl⟩
  simp only [List.mem_cons, List.not_mem_nil, or_false] at hx
  rcases hx with rfl | rfl <;> exact True.intro
theorem VecAt.tup {H : Hp} {a : Addr} {p : Int × Int} (h : H a = some (.tup [.int p.1, .int p.2])) : VecAt H (.ref a) p := ⟨a, rfl, .inr h⟩
theorem VecAt.lst {H : Hp} {a : Addr} {p : Int × Int} (h : H a = some (.lst [.int p.1, .int p.2])) : VecAt H (.ref a) p := ⟨a, rfl, .inl h⟩
def sp_is_vector (K : PySem.W.Frag) : Sp := fun vs H Q _ => ∃ (v : V) (b : Bool), vs = [v] ∧ VecV K H v b ∧ ∀ H', Same H H' → Q (.bl b) H'
theorem sc_is_vector : FnScope ["value"] ["value"] (defScope s_is_vector) := ⟨rfl, rfl, rfl, by decide +kernel, rfl, by decide +kernel, by decide +kernel⟩
theorem ok_is_vector {f : Addr} {fd : FuncData} (F : FunD K "is_vector" "is_vector" (defArgs s_is_vector) (defBody s_is_vector) (defScope s_is_vector) [] [] f fd) (Tx : Txt K mg) (h_is_row : Has P w K mg base "is_row" 2 ["value"] (sp_is_row K))  : FnOk P w K mg base CX0 3 f fd ["value"] (sp_is_vector K) := by
  obtain ⟨f_is_row, fd_is_row, G_is_row, g_is_row, k_is_row, b_is_row⟩ := h_is_row
  refine FunD.ok F sc_is_vector (fun vs H Q E h => ?_) (fun cdv A outer s H vs Q E hr h => ?_)
  · obtain ⟨v, b, rfl, _⟩ := h
    rfl
  · obtain ⟨v, b, rfl, hv, q⟩ := h
    refine ⟨_, PSs.nox (pss_one (ps_ret (pe_and (pe_call G_is_row (hr.mono (by decide)) (by rfl) g_is_row k_is_row b_is_row .nil pass0 (pa_cons (pv 0) pa_nil)) (pe_one (pe_cmpR op_eq (pe_callB call_len_seq (by rfl) Tx.n_len (by decide +kernel) (pa_cons (pv 0) pa_nil)) pe_int (nomark _)))))), ?_⟩
    rcases hv with ⟨k, hk, hs, rfl⟩ | ⟨a, xs, rfl, ha, hl, hx, rfl⟩
    · refine ⟨_, rfl, _, false, rfl, .inl ⟨k, hk, hs, rfl⟩, fun H1 s1 => ⟨_, rfl, ?_⟩⟩
      exact ite2 (fun e => absurd e (by decide)) (fun _ => q _ s1)
    · refine ⟨_, rfl, _, _, rfl, .inr ⟨a, xs, rfl, ha, hl, hx, rfl⟩, fun H1 s1 => ⟨_, rfl, ?_⟩⟩
      refine ite2 (fun e => ?_) (fun e => ?_)
      · refine ⟨_, rfl, a, xs, rfl, ha.ls' s1, rfl, ?_⟩
        have q2 := q _ s1
        rw [e, Bool.true_and] at q2
        have e2 : decide (V.int (xs.length : Int) = V.int 2) = decide (xs.length = 2) := by
          rw [dec_int]
          by_cases h : xs.length = 2 <;> simp [h]
          omega
        rw [e2]
        exact q2
      · rw [Bool.eq_false_iff.mpr e, Bool.false_and] at q
        exact q _ s1
theorem has_is_vector (Tx : Txt K mg) (c : He.SaysX fa fn [] tf ex w hh K) (X : K.In hh) (GG : hh.Ns mainGlobals mg) (h_is_row : Has P w K mg base "is_row" 2 ["value"] (sp_is_row K))  : Has P w K mg base "is_vector" 3 ["value"] (sp_is_vector K) := by
  obtain ⟨fd, F⟩ := c.t.d.def_ 9 (d := d_is_vector) rfl
  exact ⟨_, fd, ok_is_vector F Tx h_is_row, He.glo_ok X GG (c.t.d.fact 10 (f := .glo "is_vector") rfl), F.kp, F.bindsN fun _ _ _ _ _ _ us hl => match us, hl with | [_], _ => rfl⟩
/-! ### what is reckoned -/
def lenF (z : Str) (p : Int × Int) : Int := if z = "square" then p.1 * p.1 + p.2 * p.2 else p.1 * p.1 + p.1 * p.2 + p.2 * p.2
def bothF (z : Str) (p q : Int × Int) : Int × Int := if z = "square" then (p.1 * q.1 - p.2 * q.2, p.1 * q.2 + p.2 * q.1) else (p.1 * q.1 - p.2 * q.2, p.1 * q.2 + p.2 * q.1 + p.2 * q.2)
def flipF (z : Str) (p : Int × Int) : Int × Int := if z = "square" then (p.1, -p.2) else (p.1 + p.2, -p.2)
def spunL (z : Str) (p : Int × Int) : List (Int × Int) := if z = "square" then [(p.1, p.2), (-p.2, p.1), (-p.1, -p.2), (p.2, -p.1)] else [(p.1, p.2), (-p.2, p.1 + p.2), (-p.1 - p.2, p.1), (-p.1, -p.2), (p.2, -p.1 - p.2), (p.1 + p.2, -p.1)]
def Sm (n : Nat) (p : Int × Int) : Prop := Wi n p.1 ∧ Wi n p.2
def sp_length_of (K : PySem.W.Frag) : Sp := fun vs H Q _ => ∃ (z : Str) (v : V) (p : Int × Int), vs = [.str z, v] ∧ VecAt H v p ∧ Sm 400 p ∧ Q (.int (lenF z p)) H
theorem sc_length_of : FnScope ["kind", "vector", "a", "b"] ["kind", "vector"] (defScope s_length_of) := ⟨rfl, rfl, rfl, by decide +kernel, rfl, by decide +kernel, by decide +kernel⟩
theorem ok_length_of {f : Addr} {fd : FuncData} (F : FunD K "length_of" "length_of" (defArgs s_length_of) (defBody s_length_of) (defScope s_length_of) [] [] f fd) (Tx : Txt K mg)   : FnOk P w K mg base CX0 1 f fd ["kind", "vector"] (sp_length_of K) := by
  refine FunD.ok F sc_length_of (fun vs H Q E h => ?_) (fun cdv A outer s H vs Q E hr h => ?_)
  · obtain ⟨z, v, p, rfl, _⟩ := h
    rfl
  · obtain ⟨z, v, p, rfl, hv, hs, q⟩ := h
    refine ⟨_, PSs.nox (pss_cons (ps_asg (pv 1) (pg_or (pg_tup (by rfl) (pgs_cons (pg_name (i := 2) sc_length_of.nd rfl (Or.inl rfl)) (pgs_cons (pg_name (i := 3) sc_length_of.nd rfl (Or.inl rfl)) pgs_nil))) (pg_unl (by rfl) (pgs_cons (pg_name (i := 2) sc_length_of.nd rfl (Or.inl rfl)) (pgs_cons (pg_name (i := 3) sc_length_of.nd rfl (Or.inl rfl)) pgs_nil)))))
        (pss_one (ps_ret (pe_ifExp (pt_cmpR op_eq (pv 0) pe_str (nomark _)) (pe_op op_add (pe_op op_mulW (pv 2) (pv 2)) (pe_op op_mulW (pv 3) (pv 3))) (pe_op op_add (pe_op op_add (pe_op op_mulW (pv 2) (pv 2)) (pe_op op_mulW (pv 2) (pv 3))) (pe_op op_mulW (pv 3) (pv 3))))))), ?_⟩
    obtain ⟨a, rfl, hb⟩ := hv
    refine ⟨_, rfl, box_tg hb rfl ⟨_, _, rfl, _, _, rfl, rfl, ?_⟩⟩
    refine ⟨_, rfl, rfl, _, rfl, ?_⟩
    rw [str_sq]
    have hA : CMulW p.1 p.1 := hs.1.cm hs.1
    have hB : CMulW p.2 p.2 := hs.2.cm hs.2
    have hC : CMulW p.1 p.2 := hs.1.cm hs.2
    unfold lenF at q
    refine ite2 (fun hz => ?_) (fun hz => ?_)
    · rw [if_pos (of_decide_eq_true hz)] at q
      exact ⟨_, rfl, _, rfl, _, _, rfl, rfl, hA, _, rfl, _, rfl, _, _, rfl, rfl, hB, _, _, rfl, rfl, q⟩
    · rw [if_neg fun e => hz (decide_eq_true e)] at q
      exact ⟨_, rfl, _, rfl, _, _, rfl, rfl, hA, _, rfl, _, rfl, _, _, rfl, rfl, hC, _, _, rfl, rfl, _, rfl, _, rfl, _, _, rfl, rfl, hB, _, _, rfl, rfl, q⟩
theorem has_length_of (Tx : Txt K mg) (c : He.SaysX fa fn [] tf ex w hh K) (X : K.In hh) (GG : hh.Ns mainGlobals mg)   : Has P w K mg base "length_of" 1 ["kind", "vector"] (sp_length_of K) := by
  obtain ⟨fd, F⟩ := c.t.d.def_ 11 (d := d_length_of) rfl
  exact ⟨_, fd, ok_length_of F Tx , He.glo_ok X GG (c.t.d.fact 12 (f := .glo "length_of") rfl), F.kp, F.bindsN fun _ _ _ _ _ _ us hl => match us, hl with | [_, _], _ => rfl⟩
def sp_flip (K : PySem.W.Frag) : Sp := fun vs H Q _ => ∃ (z : Str) (v : V) (p : Int × Int), vs = [.str z, v] ∧ VecAt H v p ∧ ∀ H' t, Same H H' → H t = none → H' t = some (.tup [.int (flipF z p).1, .int (flipF z p).2]) → Q (.ref t) H'
theorem sc_flip : FnScope ["kind", "vector", "a", "b"] ["kind", "vector"] (defScope s_flip) := ⟨rfl, rfl, rfl, by decide +kernel, rfl, by decide +kernel, by decide +kernel⟩
theorem ok_flip {f : Addr} {fd : FuncData} (F : FunD K "flip" "flip" (defArgs s_flip) (defBody s_flip) (defScope s_flip) [] [] f fd) (Tx : Txt K mg)   : FnOk P w K mg base CX0 1 f fd ["kind", "vector"] (sp_flip K) := by
  refine FunD.ok F sc_flip (fun vs H Q E h => ?_) (fun cdv A outer s H vs Q E hr h => ?_)
  · obtain ⟨z, v, p, rfl, _⟩ := h
    rfl
  · obtain ⟨z, v, p, rfl, hv, q⟩ := h
    refine ⟨_, PSs.nox (pss_cons (ps_asg (pv 1) (pg_or (pg_tup (by rfl) (pgs_cons (pg_name (i := 2) sc_flip.nd rfl (Or.inl rfl)) (pgs_cons (pg_name (i := 3) sc_flip.nd rfl (Or.inl rfl)) pgs_nil))) (pg_unl (by rfl) (pgs_cons (pg_name (i := 2) sc_flip.nd rfl (Or.inl rfl)) (pgs_cons (pg_name (i := 3) sc_flip.nd rfl (Or.inl rfl)) pgs_nil)))))
        (pss_one (ps_ret (pe_ifExp (pt_cmpR op_eq (pv 0) pe_str (nomark _)) (pe_tup (pa_cons (pv 2) (pa_cons (pe_un un_neg (pv 3)) pa_nil))) (pe_tup (pa_cons (pe_op op_add (pv 2) (pv 3)) (pa_cons (pe_un un_neg (pv 3)) pa_nil))))))), ?_⟩
    obtain ⟨a, rfl, hb⟩ := hv
    refine ⟨_, rfl, box_tg hb rfl ⟨_, _, rfl, _, _, rfl, rfl, ?_⟩⟩
    refine ⟨_, rfl, rfl, _, rfl, ?_⟩
    rw [str_sq]
    unfold flipF at q
    refine ite2 (fun hz => ?_) (fun hz => ?_)
    · rw [if_pos (of_decide_eq_true hz)] at q
      exact ⟨_, rfl, _, rfl, _, rfl, le_line (n := 2) (by decide), fun t nt => q _ t (same_new nt) nt upd_same⟩
    · rw [if_neg fun e => hz (decide_eq_true e)] at q
      exact ⟨_, rfl, _, rfl, _, _, rfl, rfl, _, rfl, _, rfl, le_line (n := 2) (by decide), fun t nt => q _ t (same_new nt) nt upd_same⟩
theorem has_flip (Tx : Txt K mg) (c : He.SaysX fa fn [] tf ex w hh K) (X : K.In hh) (GG : hh.Ns mainGlobals mg)   : Has P w K mg base "flip" 1 ["kind", "vector"] (sp_flip K) := by
  obtain ⟨fd, F⟩ := c.t.d.def_ 13 (d := d_flip) rfl
  exact ⟨_, fd, ok_flip F Tx , He.glo_ok X GG (c.t.d.fact 14 (f := .glo "flip") rfl), F.kp, F.bindsN fun _ _ _ _ _ _ us hl => match us, hl with | [_, _], _ => rfl⟩
def sp_both (K : PySem.W.Frag) : Sp := fun vs H Q _ => ∃ (z : Str) (v u : V) (p q : Int × Int), vs = [.str z, v, u] ∧ VecAt H v p ∧ VecAt H u q ∧ Sm 400 p ∧ Sm 400 q ∧ ∀ H' t, Same H H' → H t = none → H' t = some (.tup [.int (bothF z p q).1, .int (bothF z p q).2]) → Q (.ref t) H'
theorem sc_both : FnScope ["kind", "one", "other", "a", "b", "c", "d"] ["kind", "one", "other"] (defScope s_both) := ⟨rfl, rfl, rfl, by decide +kernel, rfl, by decide +kernel, by decide +kernel⟩
theorem ok_both {f : Addr} {fd : FuncData} (F : FunD K "both" "both" (defArgs s_both) (defBody s_both) (defScope s_both) [] [] f fd) (Tx : Txt K mg)   : FnOk P w K mg base CX0 1 f fd ["kind", "one", "other"] (sp_both K) := by
  refine FunD.ok F sc_both (fun vs H Q E h => ?_) (fun cdv A outer s H vs Q E hr h => ?_)
  · obtain ⟨z, v, u, p, p2, rfl, _⟩ := h
    rfl
  · obtain ⟨z, v, u, p, p2, rfl, hv, hu, hs, hs2, q⟩ := h
    refine ⟨_, PSs.nox (pss_cons (ps_asg (pv 1) (pg_or (pg_tup (by rfl) (pgs_cons (pg_name (i := 3) sc_both.nd rfl (Or.inl rfl)) (pgs_cons (pg_name (i := 4) sc_both.nd rfl (Or.inl rfl)) pgs_nil))) (pg_unl (by rfl) (pgs_cons (pg_name (i := 3) sc_both.nd rfl (Or.inl rfl)) (pgs_cons (pg_name (i := 4) sc_both.nd rfl (Or.inl rfl)) pgs_nil)))))
        (pss_cons (ps_asg (pv 2) (pg_or (pg_tup (by rfl) (pgs_cons (pg_name (i := 5) sc_both.nd rfl (Or.inl rfl)) (pgs_cons (pg_name (i := 6) sc_both.nd rfl (Or.inl rfl)) pgs_nil))) (pg_unl (by rfl) (pgs_cons (pg_name (i := 5) sc_both.nd rfl (Or.inl rfl)) (pgs_cons (pg_name (i := 6) sc_both.nd rfl (Or.inl rfl)) pgs_nil)))))
        (pss_cons (ps_if (pt_cmpR op_eq (pv 0) pe_str (nomark _)) (pss_one (ps_ret (pe_tup (pa_cons (pe_op op_sub (pe_op op_mulW (pv 3) (pv 5)) (pe_op op_mulW (pv 4) (pv 6))) (pa_cons (pe_op op_add (pe_op op_mulW (pv 3) (pv 6)) (pe_op op_mulW (pv 4) (pv 5))) pa_nil))))) pss_nil)
        (pss_one (ps_ret (pe_tup (pa_cons (pe_op op_sub (pe_op op_mulW (pv 3) (pv 5)) (pe_op op_mulW (pv 4) (pv 6))) (pa_cons (pe_op op_add (pe_op op_add (pe_op op_mulW (pv 3) (pv 6)) (pe_op op_mulW (pv 4) (pv 5))) (pe_op op_mulW (pv 4) (pv 6))) pa_nil)))))))), ?_⟩
    obtain ⟨a, rfl, hb⟩ := hv
    obtain ⟨a2, rfl, hb2⟩ := hu
    refine ⟨_, rfl, box_tg hb rfl ⟨_, _, rfl, _, _, rfl, rfl, ?_⟩⟩
    refine ⟨_, rfl, box_tg hb2 rfl ⟨_, _, rfl, _, _, rfl, rfl, ?_⟩⟩
    refine ⟨_, rfl, rfl, _, rfl, ?_⟩
    rw [str_sq]
    have h11 : CMulW p.1 p2.1 := hs.1.cm hs2.1
    have h12 : CMulW p.1 p2.2 := hs.1.cm hs2.2
    have h21 : CMulW p.2 p2.1 := hs.2.cm hs2.1
    have h22 : CMulW p.2 p2.2 := hs.2.cm hs2.2
    unfold bothF at q
    refine ite2 (fun hz => ?_) (fun hz => ?_)
    · rw [if_pos (of_decide_eq_true hz)] at q
      exact ⟨_, rfl, _, rfl, _, _, rfl, rfl, h11, _, rfl, _, rfl, _, _, rfl, rfl, h22, _, _, rfl, rfl, _, rfl, _, rfl, _, _, rfl, rfl, h12, _, rfl, _, rfl, _, _, rfl, rfl, h21, _, _, rfl, rfl, le_line (n := 2) (by decide), fun t nt => q _ t (same_new nt) nt upd_same⟩
    · rw [if_neg fun e => hz (decide_eq_true e)] at q
      exact ⟨_, rfl, _, rfl, _, _, rfl, rfl, h11, _, rfl, _, rfl, _, _, rfl, rfl, h22, _, _, rfl, rfl, _, rfl, _, rfl, _, _, rfl, rfl, h12, _, rfl, _, rfl, _, _, rfl, rfl, h21, _, _, rfl, rfl, _, rfl, _, rfl, _, _, rfl, rfl, h22, _, _, rfl, rfl, le_line (n := 2) (by decide), fun t nt => q _ t (same_new nt) nt upd_same⟩
theorem has_both (Tx : Txt K mg) (c : He.SaysX fa fn [] tf ex w hh K) (X : K.In hh) (GG : hh.Ns mainGlobals mg)   : Has P w K mg base "both" 1 ["kind", "one", "other"] (sp_both K) := by
  obtain ⟨fd, F⟩ := c.t.d.def_ 14 (d := d_both) rfl
  exact ⟨_, fd, ok_both F Tx , He.glo_ok X GG (c.t.d.fact 15 (f := .glo "both") rfl), F.kp, F.bindsN fun _ _ _ _ _ _ us hl => match us, hl with | [_, _, _], _ => rfl⟩
def sp_spun (K : PySem.W.Frag) : Sp := fun vs H Q _ => ∃ (z : Str) (v : V) (p : Int × Int) (m : Int) (q : Int × Int), vs = [.str z, v, .int m] ∧ VecAt H v p ∧ 0 ≤ m ∧ (spunL z p)[m.toNat]? = some q ∧ ∀ H' t, Same H H' → H t = none → H' t = some (.tup [.int q.1, .int q.2]) → Q (.ref t) H'
theorem sc_spun : FnScope ["kind", "vector", "many", "a", "b"] ["kind", "vector", "many"] (defScope s_spun) := ⟨rfl, rfl, rfl, by decide +kernel, rfl, by decide +kernel, by decide +kernel⟩
theorem ok_spun {f : Addr} {fd : FuncData} (F : FunD K "spun" "spun" (defArgs s_spun) (defBody s_spun) (defScope s_spun) [] [] f fd) (Tx : Txt K mg)   : FnOk P w K mg base CX0 1 f fd ["kind", "vector", "many"] (sp_spun K) := by
  refine FunD.ok F sc_spun (fun vs H Q E h => ?_) (fun cdv A outer s H vs Q E hr h => ?_)
  · obtain ⟨z, v, p, m, p2, rfl, _⟩ := h
    rfl
  · obtain ⟨z, v, p, m, p2, rfl, hv, h0, hm, q⟩ := h
    refine ⟨_, PSs.nox (pss_cons (ps_asg (pv 1) (pg_or (pg_tup (by rfl) (pgs_cons (pg_name (i := 3) sc_spun.nd rfl (Or.inl rfl)) (pgs_cons (pg_name (i := 4) sc_spun.nd rfl (Or.inl rfl)) pgs_nil))) (pg_unl (by rfl) (pgs_cons (pg_name (i := 3) sc_spun.nd rfl (Or.inl rfl)) (pgs_cons (pg_name (i := 4) sc_spun.nd rfl (Or.inl rfl)) pgs_nil)))))
        (pss_cons (ps_if (pt_cmpR op_eq (pv 0) pe_str (nomark _)) (pss_one (ps_ret (pe_ix ix_tup (pe_tup (pa_cons (pe_tup (pa_cons (pv 3) (pa_cons (pv 4) pa_nil))) (pa_cons (pe_tup (pa_cons (pe_un un_neg (pv 4)) (pa_cons (pv 3) pa_nil))) (pa_cons (pe_tup (pa_cons (pe_un un_neg (pv 3)) (pa_cons (pe_un un_neg (pv 4)) pa_nil))) (pa_cons (pe_tup (pa_cons (pv 4) (pa_cons (pe_un un_neg (pv 3)) pa_nil))) pa_nil))))) (pe_op op_mod (pv 2) pe_int) (fun _ _ => rfl)))) pss_nil)
        (pss_one (ps_ret (pe_ix ix_tup (pe_tup (pa_cons (pe_tup (pa_cons (pv 3) (pa_cons (pv 4) pa_nil))) (pa_cons (pe_tup (pa_cons (pe_un un_neg (pv 4)) (pa_cons (pe_op op_add (pv 3) (pv 4)) pa_nil))) (pa_cons (pe_tup (pa_cons (pe_op op_sub (pe_un un_neg (pv 3)) (pv 4)) (pa_cons (pv 3) pa_nil))) (pa_cons (pe_tup (pa_cons (pe_un un_neg (pv 3)) (pa_cons (pe_un un_neg (pv 4)) pa_nil))) (pa_cons (pe_tup (pa_cons (pv 4) (pa_cons (pe_op op_sub (pe_un un_neg (pv 3)) (pv 4)) pa_nil))) (pa_cons (pe_tup (pa_cons (pe_op op_add (pv 3) (pv 4)) (pa_cons (pe_un un_neg (pv 3)) pa_nil))) pa_nil))))))) (pe_op op_mod (pv 2) pe_int) (fun _ _ => rfl)))))), ?_⟩
    obtain ⟨a, rfl, hb⟩ := hv
    refine ⟨_, rfl, box_tg hb rfl ⟨_, _, rfl, _, _, rfl, rfl, ?_⟩⟩
    refine ⟨_, rfl, rfl, _, rfl, ?_⟩
    rw [str_sq]
    unfold spunL at hm
    refine ite2 (fun hz => ?_) (fun hz => ?_)
    · rw [if_pos (of_decide_eq_true hz)] at hm
      refine ⟨_, rfl, _, rfl, le_line (n := 2) (by decide), fun t1 n1 => ?_⟩
      have sx : Same H (upd H t1 (.tup [.int (p.1), .int (p.2)])) := same_new n1
      have f1 : upd H t1 (.tup [.int (p.1), .int (p.2)]) t1 = some (.tup [.int (p.1), .int (p.2)]) := upd_same
      have m1 : H t1 = none := n1
      have sA := sx
      clear sx
      revert f1 sA
      generalize upd H t1 (.tup [.int (p.1), .int (p.2)]) = G1
      intro f1 sA
      refine ⟨_, rfl, _, rfl, _, rfl, le_line (n := 2) (by decide), fun t2 n2 => ?_⟩
      have sx : Same G1 (upd G1 t2 (.tup [.int (-p.2), .int (p.1)])) := same_new n2
      replace f1 := sx _ _ f1
      have f2 : upd G1 t2 (.tup [.int (-p.2), .int (p.1)]) t2 = some (.tup [.int (-p.2), .int (p.1)]) := upd_same
      have m2 : H t2 = none := sA.free n2
      replace sA := sA.trans sx
      clear sx
      revert f1 f2 sA
      generalize upd G1 t2 (.tup [.int (-p.2), .int (p.1)]) = G2
      intro f1 f2 sA
      refine ⟨_, rfl, _, rfl, _, rfl, _, rfl, le_line (n := 2) (by decide), fun t3 n3 => ?_⟩
      have sx : Same G2 (upd G2 t3 (.tup [.int (-p.1), .int (-p.2)])) := same_new n3
      replace f1 := sx _ _ f1
      replace f2 := sx _ _ f2
      have f3 : upd G2 t3 (.tup [.int (-p.1), .int (-p.2)]) t3 = some (.tup [.int (-p.1), .int (-p.2)]) := upd_same
      have m3 : H t3 = none := sA.free n3
      replace sA := sA.trans sx
      clear sx
      revert f1 f2 f3 sA
      generalize upd G2 t3 (.tup [.int (-p.1), .int (-p.2)]) = G3
      intro f1 f2 f3 sA
      refine ⟨_, rfl, _, rfl, _, rfl, le_line (n := 2) (by decide), fun t4 n4 => ?_⟩
      have sx : Same G3 (upd G3 t4 (.tup [.int (p.2), .int (-p.1)])) := same_new n4
      replace f1 := sx _ _ f1
      replace f2 := sx _ _ f2
      replace f3 := sx _ _ f3
      have f4 : upd G3 t4 (.tup [.int (p.2), .int (-p.1)]) t4 = some (.tup [.int (p.2), .int (-p.1)]) := upd_same
      have m4 : H t4 = none := sA.free n4
      replace sA := sA.trans sx
      clear sx
      revert f1 f2 f3 f4 sA
      generalize upd G3 t4 (.tup [.int (p.2), .int (-p.1)]) = G4
      intro f1 f2 f3 f4 sA
      refine ⟨le_line (n := 4) (by decide), fun t nt => ?_⟩
      have sx : Same G4 (upd G4 t (.tup [.ref t1, .ref t2, .ref t3, .ref t4])) := same_new nt
      replace f1 := sx _ _ f1
      replace f2 := sx _ _ f2
      replace f3 := sx _ _ f3
      replace f4 := sx _ _ f4
      replace sA := sA.trans sx
      have ht : (m = 0 ∧ p2 = (p.1, p.2)) ∨ (m = 1 ∧ p2 = (-p.2, p.1)) ∨ (m = 2 ∧ p2 = (-p.1, -p.2)) ∨ (m = 3 ∧ p2 = (p.2, -p.1)) := by
        obtain ⟨j, rfl⟩ := Int.eq_ofNat_of_zero_le h0
        match j, hm with
        | 0, hm => exact .inl ⟨rfl, (Option.some.inj hm).symm⟩
        | 1, hm => exact .inr (.inl ⟨rfl, (Option.some.inj hm).symm⟩)
        | 2, hm => exact .inr (.inr (.inl ⟨rfl, (Option.some.inj hm).symm⟩))
        | 3, hm => exact .inr (.inr (.inr (⟨rfl, (Option.some.inj hm).symm⟩)))
        | (j + 4), hm => cases hm
      rcases ht with ⟨rfl, rfl⟩ | ⟨rfl, rfl⟩ | ⟨rfl, rfl⟩ | ⟨rfl, rfl⟩
      · exact ⟨_, rfl, _, _, rfl, rfl, (by decide), t, _, _, _, rfl, rfl, SqT.of upd_same, rfl, q _ t1 sA m1 f1⟩
      · exact ⟨_, rfl, _, _, rfl, rfl, (by decide), t, _, _, _, rfl, rfl, SqT.of upd_same, rfl, q _ t2 sA m2 f2⟩
      · exact ⟨_, rfl, _, _, rfl, rfl, (by decide), t, _, _, _, rfl, rfl, SqT.of upd_same, rfl, q _ t3 sA m3 f3⟩
      · exact ⟨_, rfl, _, _, rfl, rfl, (by decide), t, _, _, _, rfl, rfl, SqT.of upd_same, rfl, q _ t4 sA m4 f4⟩
    · rw [if_neg fun e => hz (decide_eq_true e)] at hm
      refine ⟨_, rfl, _, rfl, le_line (n := 2) (by decide), fun t1 n1 => ?_⟩
      have sx : Same H (upd H t1 (.tup [.int (p.1), .int (p.2)])) := same_new n1
      have f1 : upd H t1 (.tup [.int (p.1), .int (p.2)]) t1 = some (.tup [.int (p.1), .int (p.2)]) := upd_same
      have m1 : H t1 = none := n1
      have sA := sx
      clear sx
      revert f1 sA
      generalize upd H t1 (.tup [.int (p.1), .int (p.2)]) = G1
      intro f1 sA
      refine ⟨_, rfl, _, rfl, _, rfl, _, rfl, _, _, rfl, rfl, le_line (n := 2) (by decide), fun t2 n2 => ?_⟩
      have sx : Same G1 (upd G1 t2 (.tup [.int (-p.2), .int (p.1 + p.2)])) := same_new n2
      replace f1 := sx _ _ f1
      have f2 : upd G1 t2 (.tup [.int (-p.2), .int (p.1 + p.2)]) t2 = some (.tup [.int (-p.2), .int (p.1 + p.2)]) := upd_same
      have m2 : H t2 = none := sA.free n2
      replace sA := sA.trans sx
      clear sx
      revert f1 f2 sA
      generalize upd G1 t2 (.tup [.int (-p.2), .int (p.1 + p.2)]) = G2
      intro f1 f2 sA
      refine ⟨_, rfl, _, rfl, _, rfl, _, _, rfl, rfl, _, rfl, le_line (n := 2) (by decide), fun t3 n3 => ?_⟩
      have sx : Same G2 (upd G2 t3 (.tup [.int (-p.1 - p.2), .int (p.1)])) := same_new n3
      replace f1 := sx _ _ f1
      replace f2 := sx _ _ f2
      have f3 : upd G2 t3 (.tup [.int (-p.1 - p.2), .int (p.1)]) t3 = some (.tup [.int (-p.1 - p.2), .int (p.1)]) := upd_same
      have m3 : H t3 = none := sA.free n3
      replace sA := sA.trans sx
      clear sx
      revert f1 f2 f3 sA
      generalize upd G2 t3 (.tup [.int (-p.1 - p.2), .int (p.1)]) = G3
      intro f1 f2 f3 sA
      refine ⟨_, rfl, _, rfl, _, rfl, _, rfl, le_line (n := 2) (by decide), fun t4 n4 => ?_⟩
      have sx : Same G3 (upd G3 t4 (.tup [.int (-p.1), .int (-p.2)])) := same_new n4
      replace f1 := sx _ _ f1
      replace f2 := sx _ _ f2
      replace f3 := sx _ _ f3
      have f4 : upd G3 t4 (.tup [.int (-p.1), .int (-p.2)]) t4 = some (.tup [.int (-p.1), .int (-p.2)]) := upd_same
      have m4 : H t4 = none := sA.free n4
      replace sA := sA.trans sx
      clear sx
      revert f1 f2 f3 f4 sA
      generalize upd G3 t4 (.tup [.int (-p.1), .int (-p.2)]) = G4
      intro f1 f2 f3 f4 sA
      refine ⟨_, rfl, _, rfl, _, rfl, _, rfl, _, _, rfl, rfl, le_line (n := 2) (by decide), fun t5 n5 => ?_⟩
      have sx : Same G4 (upd G4 t5 (.tup [.int (p.2), .int (-p.1 - p.2)])) := same_new n5
      replace f1 := sx _ _ f1
      replace f2 := sx _ _ f2
      replace f3 := sx _ _ f3
      replace f4 := sx _ _ f4
      have f5 : upd G4 t5 (.tup [.int (p.2), .int (-p.1 - p.2)]) t5 = some (.tup [.int (p.2), .int (-p.1 - p.2)]) := upd_same
      have m5 : H t5 = none := sA.free n5
      replace sA := sA.trans sx
      clear sx
      revert f1 f2 f3 f4 f5 sA
      generalize upd G4 t5 (.tup [.int (p.2), .int (-p.1 - p.2)]) = G5
      intro f1 f2 f3 f4 f5 sA
      refine ⟨_, rfl, _, rfl, _, _, rfl, rfl, _, rfl, _, rfl, le_line (n := 2) (by decide), fun t6 n6 => ?_⟩
      have sx : Same G5 (upd G5 t6 (.tup [.int (p.1 + p.2), .int (-p.1)])) := same_new n6
      replace f1 := sx _ _ f1
      replace f2 := sx _ _ f2
      replace f3 := sx _ _ f3
      replace f4 := sx _ _ f4
      replace f5 := sx _ _ f5
      have f6 : upd G5 t6 (.tup [.int (p.1 + p.2), .int (-p.1)]) t6 = some (.tup [.int (p.1 + p.2), .int (-p.1)]) := upd_same
      have m6 : H t6 = none := sA.free n6
      replace sA := sA.trans sx
      clear sx
      revert f1 f2 f3 f4 f5 f6 sA
      generalize upd G5 t6 (.tup [.int (p.1 + p.2), .int (-p.1)]) = G6
      intro f1 f2 f3 f4 f5 f6 sA
      refine ⟨le_line (n := 6) (by decide), fun t nt => ?_⟩
      have sx : Same G6 (upd G6 t (.tup [.ref t1, .ref t2, .ref t3, .ref t4, .ref t5, .ref t6])) := same_new nt
      replace f1 := sx _ _ f1
      replace f2 := sx _ _ f2
      replace f3 := sx _ _ f3
      replace f4 := sx _ _ f4
      replace f5 := sx _ _ f5
      replace f6 := sx _ _ f6
      replace sA := sA.trans sx
      have ht : (m = 0 ∧ p2 = (p.1, p.2)) ∨ (m = 1 ∧ p2 = (-p.2, p.1 + p.2)) ∨ (m = 2 ∧ p2 = (-p.1 - p.2, p.1)) ∨ (m = 3 ∧ p2 = (-p.1, -p.2)) ∨ (m = 4 ∧ p2 = (p.2, -p.1 - p.2)) ∨ (m = 5 ∧ p2 = (p.1 + p.2, -p.1)) := by
        obtain ⟨j, rfl⟩ := Int.eq_ofNat_of_zero_le h0
        match j, hm with
        | 0, hm => exact .inl ⟨rfl, (Option.some.inj hm).symm⟩
        | 1, hm => exact .inr (.inl ⟨rfl, (Option.some.inj hm).symm⟩)
        | 2, hm => exact .inr (.inr (.inl ⟨rfl, (Option.some.inj hm).symm⟩))
        | 3, hm => exact .inr (.inr (.inr (.inl ⟨rfl, (Option.some.inj hm).symm⟩)))
        | 4, hm => exact .inr (.inr (.inr (.inr (.inl ⟨rfl, (Option.some.inj hm).symm⟩))))
        | 5, hm => exact .inr (.inr (.inr (.inr (.inr (⟨rfl, (Option.some.inj hm).symm⟩)))))
        | (j + 6), hm => cases hm
      rcases ht with ⟨rfl, rfl⟩ | ⟨rfl, rfl⟩ | ⟨rfl, rfl⟩ | ⟨rfl, rfl⟩ | ⟨rfl, rfl⟩ | ⟨rfl, rfl⟩
      · exact ⟨_, rfl, _, _, rfl, rfl, (by decide), t, _, _, _, rfl, rfl, SqT.of upd_same, rfl, q _ t1 sA m1 f1⟩
      · exact ⟨_, rfl, _, _, rfl, rfl, (by decide), t, _, _, _, rfl, rfl, SqT.of upd_same, rfl, q _ t2 sA m2 f2⟩
      · exact ⟨_, rfl, _, _, rfl, rfl, (by decide), t, _, _, _, rfl, rfl, SqT.of upd_same, rfl, q _ t3 sA m3 f3⟩
      · exact ⟨_, rfl, _, _, rfl, rfl, (by decide), t, _, _, _, rfl, rfl, SqT.of upd_same, rfl, q _ t4 sA m4 f4⟩
      · exact ⟨_, rfl, _, _, rfl, rfl, (by decide), t, _, _, _, rfl, rfl, SqT.of upd_same, rfl, q _ t5 sA m5 f5⟩
      · exact ⟨_, rfl, _, _, rfl, rfl, (by decide), t, _, _, _, rfl, rfl, SqT.of upd_same, rfl, q _ t6 sA m6 f6⟩
theorem has_spun (Tx : Txt K mg) (c : He.SaysX fa fn [] tf ex w hh K) (X : K.In hh) (GG : hh.Ns mainGlobals mg)   : Has P w K mg base "spun" 1 ["kind", "vector", "many"] (sp_spun K) := by
  obtain ⟨fd, F⟩ := c.t.d.def_ 12 (d := d_spun) rfl
  exact ⟨_, fd, ok_spun F Tx , He.glo_ok X GG (c.t.d.fact 13 (f := .glo "spun") rfl), F.kp, F.bindsN fun _ _ _ _ _ _ us hl => match us, hl with | [_, _, _], _ => rfl⟩

end
end K47

namespace K47
open PySem PySem.Spec PyProof.Rows L2 Vf LamX
section
variable {hh : Heap} {P : Program} {w : World} {K : PySem.W.Frag} {mg : Str → Option Value} {base : Heap}
/-! ### the functions of vectors: what they refuse, what they tell -/
def nbErr (K : PySem.W.Frag) (E : XK) (H : Hp) (s : Str) : Prop := Rz E (He.ga K "BadNumber") [("part", .str s)] H
def sp_need_vector (K : PySem.W.Frag) : Sp := fun vs H Q E => ∃ (v : V) (b : Bool) (s : Str), vs = [v, .str s] ∧ VecV K H v b ∧ (b = true → ∀ H', Same H H' → Q .non H') ∧ (b = false → nbErr K E H s)
theorem sc_need_vector : FnScope ["value", "part"] ["value", "part"] (defScope s_need_vector) := ⟨rfl, rfl, rfl, by decide +kernel, rfl, by decide +kernel, by decide +kernel⟩
theorem ok_need_vector {f : Addr} {fd : FuncData} (F : FunD K "need_vector" "need_vector" (defArgs s_need_vector) (defBody s_need_vector) (defScope s_need_vector) [] [] f fd) (Tx : Txt K mg) (h_is_vector : Has P w K mg base "is_vector" 3 ["value"] (sp_is_vector K)) (h_BadNumber_init : HasM P w K mg base CX0 "BadNumber" "__init__" 1 ["self", "part"] (sp_BadNumber_init K))  : FnOk P w K mg base (L2.CX P w) 4 f fd ["value", "part"] (sp_need_vector K) := by
  obtain ⟨f_is_vector, fd_is_vector, G_is_vector, g_is_vector, k_is_vector, b_is_vector⟩ := h_is_vector
  obtain ⟨fd_BadNumber_init, G_BadNumber_init, b_BadNumber_init⟩ := h_BadNumber_init
  refine FunD.ok F sc_need_vector (fun vs H Q E h => ?_) (fun cdv A outer s H vs Q E hr h => ?_)
  · obtain ⟨v, b, s, rfl, _⟩ := h
    rfl
  · obtain ⟨v, b, st, rfl, hv, q, r⟩ := h
    refine ⟨_, (pss_one (ps_if (pt_not (pt_val (pe_call G_is_vector (hr.mono (by decide)) (by rfl) g_is_vector k_is_vector b_is_vector .nil pass0 (pa_cons (pv 0) pa_nil)))) (pss_one (ps_raise rfl (takes_of rfl rfl rfl rfl) (pmk_oex Tx.er_BadNumber.oex Tx.er_BadNumber.ini Tx.er_BadNumber.fn G_BadNumber_init (hr.mono (by decide)) b_BadNumber_init .nil pass0 (by rfl) Tx.g_BadNumber (pa_cons (pv 1) pa_nil)))) pss_nil)), ?_⟩
    refine ⟨_, rfl, v, b, rfl, hv, fun H1 s1 => ⟨_, rfl, ?_⟩⟩
    cases b with
    | true => exact iteF (q rfl _ s1)
    | false => exact iteT ⟨_, rfl, mk1 Tx.er_BadNumber.oex (Tx.er_BadNumber.no "part" (by simp)) ((r rfl).same s1)⟩
theorem has_need_vector (Tx : Txt K mg) (c : He.SaysX fa fn [] tf ex w hh K) (X : K.In hh) (GG : hh.Ns mainGlobals mg) (h_is_vector : Has P w K mg base "is_vector" 3 ["value"] (sp_is_vector K)) (h_BadNumber_init : HasM P w K mg base CX0 "BadNumber" "__init__" 1 ["self", "part"] (sp_BadNumber_init K))  : HasX P w K mg base "need_vector" 4 ["value", "part"] (sp_need_vector K) := by
  obtain ⟨fd, F⟩ := c.t.d.def_ 10 (d := d_need_vector) rfl
  exact ⟨_, fd, ok_need_vector F Tx h_is_vector h_BadNumber_init, He.glo_ok X GG (c.t.d.fact 11 (f := .glo "need_vector") rfl), F.kp, F.bindsN fun _ _ _ _ _ _ us hl => match us, hl with | [_, _], _ => rfl⟩
/-- the kind, then one value after another, each with its word -/
def Gate (K : PySem.W.Frag) (E : XK) (H : Hp) (ok : Prop) : List (Bool × Str) → Prop
  | [] => ok
  | (b, s) :: r => (b = false → nbErr K E H s) ∧ (b = true → Gate K E H ok r)
def Gates (K : PySem.W.Frag) (E : XK) (H : Hp) (kv : V) (bs : List (Bool × Str)) (ok : Prop) : Prop := (isGrid kv = false → kdErr K E H) ∧ (isGrid kv = true → Gate K E H ok bs)
theorem kdErr.same {E : XK} {H H' : Hp} (h : kdErr K E H) (s : Same H H') : kdErr K E H' := Rz.same h s
theorem nbErr.same {E : XK} {H H' : Hp} {z : Str} (h : nbErr K E H z) (s : Same H H') : nbErr K E H' z := Rz.same h s
def sp_square_of (K : PySem.W.Frag) : Sp := fun vs H Q E => ∃ (kv v : V) (k : Kd) (b : Bool), vs = [kv, v] ∧ KdV K H kv k ∧ VecV K H v b ∧ Gates K E H kv [(b, "vector")] (∃ z p, kv = .str z ∧ VecAt H v p ∧ Sm 400 p ∧ ∀ H', Same H H' → Q (.int (lenF z p)) H')
theorem sc_square_of : FnScope ["kind", "vector"] ["kind", "vector"] (defScope s_square_of) := ⟨rfl, rfl, rfl, by decide +kernel, rfl, by decide +kernel, by decide +kernel⟩
theorem ok_square_of {f : Addr} {fd : FuncData} (F : FunD K "square_of" "square_of" (defArgs s_square_of) (defBody s_square_of) (defScope s_square_of) [] [] f fd) (Tx : Txt K mg) (h_need_kind : HasX P w K mg base "need_kind" 3 ["kind"] (sp_need_kind K)) (h_need_vector : HasX P w K mg base "need_vector" 4 ["value", "part"] (sp_need_vector K)) (h_length_of : Has P w K mg base "length_of" 1 ["kind", "vector"] (sp_length_of K))  : FnOk P w K mg base (L2.CX P w) 5 f fd ["kind", "vector"] (sp_square_of K) := by
  obtain ⟨f_need_kind, fd_need_kind, G_need_kind, g_need_kind, k_need_kind, b_need_kind⟩ := h_need_kind
  obtain ⟨f_need_vector, fd_need_vector, G_need_vector, g_need_vector, k_need_vector, b_need_vector⟩ := h_need_vector
  obtain ⟨f_length_of, fd_length_of, G_length_of, g_length_of, k_length_of, b_length_of⟩ := h_length_of
  refine FunD.ok F sc_square_of (fun vs H Q E h => ?_) (fun cdv A outer s H vs Q E hr h => ?_)
  · obtain ⟨kv, v, k, b, rfl, _⟩ := h
    rfl
  · obtain ⟨kv, v, k, b, rfl, hk, hv, g0, g⟩ := h
    refine ⟨_, (pss_cons (ps_expr (pe_call G_need_kind (hr.mono (by decide)) (by rfl) g_need_kind k_need_kind b_need_kind .nil (passE rfl rfl rfl rfl) (pa_cons (pv 0) pa_nil)))
        (pss_cons (ps_expr (pe_call G_need_vector (hr.mono (by decide)) (by rfl) g_need_vector k_need_vector b_need_vector .nil (passE rfl rfl rfl rfl) (pa_cons (pv 1) (pa_cons pe_str pa_nil))))
        (pss_one (ps_ret (pe_call G_length_of (hr.mono (by decide)) (by rfl) g_length_of k_length_of b_length_of .nil pass0 (pa_cons (pv 0) (pa_cons (pv 1) pa_nil))))))), ?_⟩
    refine ⟨_, rfl, kv, k, rfl, hk, fun e => ?_, fun e => g0 e⟩
    refine ⟨_, rfl, v, b, _, rfl, hv, fun eb H1 s1 => ?_, fun eb => (g e).1 eb⟩
    obtain ⟨z, p, rfl, hp, hs, q⟩ := (g e).2 eb
    exact ⟨_, rfl, _, rfl, z, v, p, rfl, hp.same s1, hs, q _ s1⟩
theorem has_square_of (Tx : Txt K mg) (c : He.SaysX fa fn [] tf ex w hh K) (X : K.In hh) (GG : hh.Ns mainGlobals mg) (h_need_kind : HasX P w K mg base "need_kind" 3 ["kind"] (sp_need_kind K)) (h_need_vector : HasX P w K mg base "need_vector" 4 ["value", "part"] (sp_need_vector K)) (h_length_of : Has P w K mg base "length_of" 1 ["kind", "vector"] (sp_length_of K))  : HasX P w K mg base "square_of" 5 ["kind", "vector"] (sp_square_of K) := by
  obtain ⟨fd, F⟩ := c.t.d.def_ 15 (d := d_square_of) rfl
  exact ⟨_, fd, ok_square_of F Tx h_need_kind h_need_vector h_length_of, He.glo_ok X GG (c.t.d.fact 16 (f := .glo "square_of") rfl), F.kp, F.bindsN fun _ _ _ _ _ _ us hl => match us, hl with | [_, _], _ => rfl⟩
theorem has_square_of_kw (Tx : Txt K mg) (c : He.SaysX fa fn [] tf ex w hh K) (X : K.In hh) (GG : hh.Ns mainGlobals mg) (h_need_kind : HasX P w K mg base "need_kind" 3 ["kind"] (sp_need_kind K)) (h_need_vector : HasX P w K mg base "need_vector" 4 ["value", "part"] (sp_need_vector K)) (h_length_of : Has P w K mg base "length_of" 1 ["kind", "vector"] (sp_length_of K)) : HasKX P w K mg base "square_of" 5 ["kind", "vector"] ["vector", "kind"] gk10 (sp_square_of K) := by
  obtain ⟨fd, F⟩ := c.t.d.def_ 15 (d := d_square_of) rfl
  exact ⟨_, fd, gk10, ok_square_of F Tx h_need_kind h_need_vector h_length_of, He.glo_ok X GG (c.t.d.fact 16 (f := .glo "square_of") rfl), F.kp, kbn_of F (fun _ _ _ _ _ _ ws hl => match ws, hl with | [_, _], _ => rfl) gk10_rel⟩
def sp_flipped (K : PySem.W.Frag) : Sp := fun vs H Q E => ∃ (kv v : V) (k : Kd) (b : Bool), vs = [kv, v] ∧ KdV K H kv k ∧ VecV K H v b ∧ Gates K E H kv [(b, "vector")] (∃ z p, kv = .str z ∧ VecAt H v p ∧ ∀ H' t, Same H H' → H t = none → H' t = some (.tup [.int (flipF z p).1, .int (flipF z p).2]) → Q (.ref t) H')
theorem sc_flipped : FnScope ["kind", "vector"] ["kind", "vector"] (defScope s_flipped) := ⟨rfl, rfl, rfl, by decide +kernel, rfl, by decide +kernel, by decide +kernel⟩
theorem ok_flipped {f : Addr} {fd : FuncData} (F : FunD K "flipped" "flipped" (defArgs s_flipped) (defBody s_flipped) (defScope s_flipped) [] [] f fd) (Tx : Txt K mg) (h_need_kind : HasX P w K mg base "need_kind" 3 ["kind"] (sp_need_kind K)) (h_need_vector : HasX P w K mg base "need_vector" 4 ["value", "part"] (sp_need_vector K)) (h_flip : Has P w K mg base "flip" 1 ["kind", "vector"] (sp_flip K))  : FnOk P w K mg base (L2.CX P w) 5 f fd ["kind", "vector"] (sp_flipped K) := by
  obtain ⟨f_need_kind, fd_need_kind, G_need_kind, g_need_kind, k_need_kind, b_need_kind⟩ := h_need_kind
  obtain ⟨f_need_vector, fd_need_vector, G_need_vector, g_need_vector, k_need_vector, b_need_vector⟩ := h_need_vector
  obtain ⟨f_flip, fd_flip, G_flip, g_flip, k_flip, b_flip⟩ := h_flip
  refine FunD.ok F sc_flipped (fun vs H Q E h => ?_) (fun cdv A outer s H vs Q E hr h => ?_)
  · obtain ⟨kv, v, k, b, rfl, _⟩ := h
    rfl
  · obtain ⟨kv, v, k, b, rfl, hk, hv, g0, g⟩ := h
    refine ⟨_, (pss_cons (ps_expr (pe_call G_need_kind (hr.mono (by decide)) (by rfl) g_need_kind k_need_kind b_need_kind .nil (passE rfl rfl rfl rfl) (pa_cons (pv 0) pa_nil)))
        (pss_cons (ps_expr (pe_call G_need_vector (hr.mono (by decide)) (by rfl) g_need_vector k_need_vector b_need_vector .nil (passE rfl rfl rfl rfl) (pa_cons (pv 1) (pa_cons pe_str pa_nil))))
        (pss_one (ps_ret (pe_call G_flip (hr.mono (by decide)) (by rfl) g_flip k_flip b_flip .nil pass0 (pa_cons (pv 0) (pa_cons (pv 1) pa_nil))))))), ?_⟩
    refine ⟨_, rfl, kv, k, rfl, hk, fun e => ?_, fun e => g0 e⟩
    refine ⟨_, rfl, v, b, _, rfl, hv, fun eb H1 s1 => ?_, fun eb => (g e).1 eb⟩
    obtain ⟨z, p, rfl, hp, q⟩ := (g e).2 eb
    exact ⟨_, rfl, _, rfl, z, v, p, rfl, hp.same s1, fun H2 t s2 n2 e2 => q _ t (s1.trans s2) (s1.free n2) e2⟩
theorem has_flipped (Tx : Txt K mg) (c : He.SaysX fa fn [] tf ex w hh K) (X : K.In hh) (GG : hh.Ns mainGlobals mg) (h_need_kind : HasX P w K mg base "need_kind" 3 ["kind"] (sp_need_kind K)) (h_need_vector : HasX P w K mg base "need_vector" 4 ["value", "part"] (sp_need_vector K)) (h_flip : Has P w K mg base "flip" 1 ["kind", "vector"] (sp_flip K))  : HasX P w K mg base "flipped" 5 ["kind", "vector"] (sp_flipped K) := by
  obtain ⟨fd, F⟩ := c.t.d.def_ 18 (d := d_flipped) rfl
  exact ⟨_, fd, ok_flipped F Tx h_need_kind h_need_vector h_flip, He.glo_ok X GG (c.t.d.fact 19 (f := .glo "flipped") rfl), F.kp, F.bindsN fun _ _ _ _ _ _ us hl => match us, hl with | [_, _], _ => rfl⟩
theorem has_flipped_kw (Tx : Txt K mg) (c : He.SaysX fa fn [] tf ex w hh K) (X : K.In hh) (GG : hh.Ns mainGlobals mg) (h_need_kind : HasX P w K mg base "need_kind" 3 ["kind"] (sp_need_kind K)) (h_need_vector : HasX P w K mg base "need_vector" 4 ["value", "part"] (sp_need_vector K)) (h_flip : Has P w K mg base "flip" 1 ["kind", "vector"] (sp_flip K)) : HasKX P w K mg base "flipped" 5 ["kind", "vector"] ["kind", "vector"] gk01 (sp_flipped K) := by
  obtain ⟨fd, F⟩ := c.t.d.def_ 18 (d := d_flipped) rfl
  exact ⟨_, fd, gk01, ok_flipped F Tx h_need_kind h_need_vector h_flip, He.glo_ok X GG (c.t.d.fact 19 (f := .glo "flipped") rfl), F.kp, kbn_of F (fun _ _ _ _ _ _ ws hl => match ws, hl with | [_, _], _ => rfl) gk01_rel⟩
def sp_times (K : PySem.W.Frag) : Sp := fun vs H Q E => ∃ (kv v u : V) (k : Kd) (b c : Bool), vs = [kv, v, u] ∧ KdV K H kv k ∧ VecV K H v b ∧ VecV K H u c ∧ Gates K E H kv [(b, "one"), (c, "other")] (∃ z p q, kv = .str z ∧ VecAt H v p ∧ VecAt H u q ∧ Sm 400 p ∧ Sm 400 q ∧ ∀ H' t, Same H H' → H t = none → H' t = some (.tup [.int (bothF z p q).1, .int (bothF z p q).2]) → Q (.ref t) H')
theorem sc_times : FnScope ["kind", "one", "other"] ["kind", "one", "other"] (defScope s_times) := ⟨rfl, rfl, rfl, by decide +kernel, rfl, by decide +kernel, by decide +kernel⟩
theorem ok_times {f : Addr} {fd : FuncData} (F : FunD K "times" "times" (defArgs s_times) (defBody s_times) (defScope s_times) [] [] f fd) (Tx : Txt K mg) (h_need_kind : HasX P w K mg base "need_kind" 3 ["kind"] (sp_need_kind K)) (h_need_vector : HasX P w K mg base "need_vector" 4 ["value", "part"] (sp_need_vector K)) (h_both : Has P w K mg base "both" 1 ["kind", "one", "other"] (sp_both K))  : FnOk P w K mg base (L2.CX P w) 5 f fd ["kind", "one", "other"] (sp_times K) := by
  obtain ⟨f_need_kind, fd_need_kind, G_need_kind, g_need_kind, k_need_kind, b_need_kind⟩ := h_need_kind
  obtain ⟨f_need_vector, fd_need_vector, G_need_vector, g_need_vector, k_need_vector, b_need_vector⟩ := h_need_vector
  obtain ⟨f_both, fd_both, G_both, g_both, k_both, b_both⟩ := h_both
  refine FunD.ok F sc_times (fun vs H Q E h => ?_) (fun cdv A outer s H vs Q E hr h => ?_)
  · obtain ⟨kv, v, u, k, b, c, rfl, _⟩ := h
    rfl
  · obtain ⟨kv, v, u, k, b, c, rfl, hk, hv, hu, g0, g⟩ := h
    refine ⟨_, (pss_cons (ps_expr (pe_call G_need_kind (hr.mono (by decide)) (by rfl) g_need_kind k_need_kind b_need_kind .nil (passE rfl rfl rfl rfl) (pa_cons (pv 0) pa_nil)))
        (pss_cons (ps_expr (pe_call G_need_vector (hr.mono (by decide)) (by rfl) g_need_vector k_need_vector b_need_vector .nil (passE rfl rfl rfl rfl) (pa_cons (pv 1) (pa_cons pe_str pa_nil))))
        (pss_cons (ps_expr (pe_call G_need_vector (hr.mono (by decide)) (by rfl) g_need_vector k_need_vector b_need_vector .nil (passE rfl rfl rfl rfl) (pa_cons (pv 2) (pa_cons pe_str pa_nil))))
        (pss_one (ps_ret (pe_call G_both (hr.mono (by decide)) (by rfl) g_both k_both b_both .nil pass0 (pa_cons (pv 0) (pa_cons (pv 1) (pa_cons (pv 2) pa_nil))))))))), ?_⟩
    refine ⟨_, rfl, kv, k, rfl, hk, fun e => ?_, fun e => g0 e⟩
    refine ⟨_, rfl, v, b, _, rfl, hv, fun eb H1 s1 => ?_, fun eb => (g e).1 eb⟩
    have g1 := (g e).2 eb
    refine ⟨_, rfl, u, c, _, rfl, hu.same s1, fun ec H2 s2 => ?_, fun ec => (g1.1 ec).same s1⟩
    obtain ⟨z, p, p2, rfl, hp, hp2, hs, hs2, q⟩ := g1.2 ec
    have s12 := s1.trans s2
    exact ⟨_, rfl, _, rfl, _, rfl, z, v, u, p, p2, rfl, hp.same s12, hp2.same s12, hs, hs2, fun H3 t s3 n3 e3 => q _ t (s12.trans s3) (s12.free n3) e3⟩
theorem has_times (Tx : Txt K mg) (c : He.SaysX fa fn [] tf ex w hh K) (X : K.In hh) (GG : hh.Ns mainGlobals mg) (h_need_kind : HasX P w K mg base "need_kind" 3 ["kind"] (sp_need_kind K)) (h_need_vector : HasX P w K mg base "need_vector" 4 ["value", "part"] (sp_need_vector K)) (h_both : Has P w K mg base "both" 1 ["kind", "one", "other"] (sp_both K))  : HasX P w K mg base "times" 5 ["kind", "one", "other"] (sp_times K) := by
  obtain ⟨fd, F⟩ := c.t.d.def_ 19 (d := d_times) rfl
  exact ⟨_, fd, ok_times F Tx h_need_kind h_need_vector h_both, He.glo_ok X GG (c.t.d.fact 20 (f := .glo "times") rfl), F.kp, F.bindsN fun _ _ _ _ _ _ us hl => match us, hl with | [_, _, _], _ => rfl⟩
theorem has_times_kw (Tx : Txt K mg) (c : He.SaysX fa fn [] tf ex w hh K) (X : K.In hh) (GG : hh.Ns mainGlobals mg) (h_need_kind : HasX P w K mg base "need_kind" 3 ["kind"] (sp_need_kind K)) (h_need_vector : HasX P w K mg base "need_vector" 4 ["value", "part"] (sp_need_vector K)) (h_both : Has P w K mg base "both" 1 ["kind", "one", "other"] (sp_both K)) : HasKX P w K mg base "times" 5 ["kind", "one", "other"] ["kind", "one", "other"] gk012 (sp_times K) := by
  obtain ⟨fd, F⟩ := c.t.d.def_ 19 (d := d_times) rfl
  exact ⟨_, fd, gk012, ok_times F Tx h_need_kind h_need_vector h_both, He.glo_ok X GG (c.t.d.fact 20 (f := .glo "times") rfl), F.kp, kbn_of F (fun _ _ _ _ _ _ ws hl => match ws, hl with | [_, _, _], _ => rfl) gk012_rel⟩
def sumP (p q : Int × Int) : Int × Int := (p.1 + q.1, p.2 + q.2)
def prodF (z : Str) (p q : Int × Int) : Int := lenF z (sumP p q) - lenF z p - lenF z q
def sp_product (K : PySem.W.Frag) : Sp := fun vs H Q E => ∃ (kv v u : V) (k : Kd) (b c : Bool), vs = [kv, v, u] ∧ KdV K H kv k ∧ VecV K H v b ∧ VecV K H u c ∧ Gates K E H kv [(b, "one"), (c, "other")] (∃ z p q, kv = .str z ∧ VecAt H v p ∧ VecAt H u q ∧ Sm 390 p ∧ Sm 390 q ∧ ∀ H', Same H H' → Q (.int (prodF z p q)) H')
theorem sc_product : FnScope ["kind", "one", "other", "whole"] ["kind", "one", "other"] (defScope s_product) := ⟨rfl, rfl, rfl, by decide +kernel, rfl, by decide +kernel, by decide +kernel⟩
theorem ok_product {f : Addr} {fd : FuncData} (F : FunD K "product" "product" (defArgs s_product) (defBody s_product) (defScope s_product) [] [] f fd) (Tx : Txt K mg) (h_need_kind : HasX P w K mg base "need_kind" 3 ["kind"] (sp_need_kind K)) (h_need_vector : HasX P w K mg base "need_vector" 4 ["value", "part"] (sp_need_vector K)) (h_length_of : Has P w K mg base "length_of" 1 ["kind", "vector"] (sp_length_of K))  : FnOk P w K mg base (L2.CX P w) 5 f fd ["kind", "one", "other"] (sp_product K) := by
  obtain ⟨f_need_kind, fd_need_kind, G_need_kind, g_need_kind, k_need_kind, b_need_kind⟩ := h_need_kind
  obtain ⟨f_need_vector, fd_need_vector, G_need_vector, g_need_vector, k_need_vector, b_need_vector⟩ := h_need_vector
  obtain ⟨f_length_of, fd_length_of, G_length_of, g_length_of, k_length_of, b_length_of⟩ := h_length_of
  refine FunD.ok F sc_product (fun vs H Q E h => ?_) (fun cdv A outer s H vs Q E hr h => ?_)
  · obtain ⟨kv, v, u, k, b, c, rfl, _⟩ := h
    rfl
  · obtain ⟨kv, v, u, k, b, c, rfl, hk, hv, hu, g0, g⟩ := h
    refine ⟨_, (pss_cons (ps_expr (pe_call G_need_kind (hr.mono (by decide)) (by rfl) g_need_kind k_need_kind b_need_kind .nil (passE rfl rfl rfl rfl) (pa_cons (pv 0) pa_nil)))
        (pss_cons (ps_expr (pe_call G_need_vector (hr.mono (by decide)) (by rfl) g_need_vector k_need_vector b_need_vector .nil (passE rfl rfl rfl rfl) (pa_cons (pv 1) (pa_cons pe_str pa_nil))))
        (pss_cons (ps_expr (pe_call G_need_vector (hr.mono (by decide)) (by rfl) g_need_vector k_need_vector b_need_vector .nil (passE rfl rfl rfl rfl) (pa_cons (pv 2) (pa_cons pe_str pa_nil))))
        (pss_cons (ps_set (i := 3) sc_product.nd rfl (Or.inl rfl) (pe_call G_length_of (hr.mono (by decide)) (by rfl) g_length_of k_length_of b_length_of .nil pass0 (pa_cons (pv 0) (pa_cons (pe_tup (pa_cons (pe_op op_add (pe_ix ix_box (pv 1) pe_int (fun _ _ => rfl)) (pe_ix ix_box (pv 2) pe_int (fun _ _ => rfl))) (pa_cons (pe_op op_add (pe_ix ix_box (pv 1) pe_int (fun _ _ => rfl)) (pe_ix ix_box (pv 2) pe_int (fun _ _ => rfl))) pa_nil))) pa_nil))))
        (pss_one (ps_ret (pe_op op_sub (pe_op op_sub (pv 3) (pe_call G_length_of (hr.mono (by decide)) (by rfl) g_length_of k_length_of b_length_of .nil pass0 (pa_cons (pv 0) (pa_cons (pv 1) pa_nil)))) (pe_call G_length_of (hr.mono (by decide)) (by rfl) g_length_of k_length_of b_length_of .nil pass0 (pa_cons (pv 0) (pa_cons (pv 2) pa_nil)))))))))), ?_⟩
    refine ⟨_, rfl, kv, k, rfl, hk, fun e => ?_, fun e => g0 e⟩
    refine ⟨_, rfl, v, b, _, rfl, hv, fun eb H1 s1 => ?_, fun eb => (g e).1 eb⟩
    have g1 := (g e).2 eb
    refine ⟨_, rfl, u, c, _, rfl, hu.same s1, fun ec H2 s2 => ?_, fun ec => (g1.1 ec).same s1⟩
    obtain ⟨z, p, p2, rfl, hp, hp2, hs, hs2, q⟩ := g1.2 ec
    have s12 := s1.trans s2
    obtain ⟨a, rfl, ha⟩ := hp.same s12
    obtain ⟨a2, rfl, ha2⟩ := hp2.same s12
    have sS : Sm 400 (sumP p p2) := ⟨(hs.1.add hs2.1).le (by decide), (hs.2.add hs2.2).le (by decide)⟩
    have S4 : Sm 400 p := ⟨hs.1.le (by decide), hs.2.le (by decide)⟩
    have S5 : Sm 400 p2 := ⟨hs2.1.le (by decide), hs2.2.le (by decide)⟩
    refine ⟨_, rfl, _, rfl, a, _, _, _, rfl, rfl, ha.sq, rfl, _, rfl, a2, _, _, _, rfl, rfl, ha2.sq, rfl, _, _, rfl, rfl, _, rfl, a, _, _, _, rfl, rfl, ha.sq, rfl, _, rfl, a2, _, _, _, rfl, rfl, ha2.sq, rfl, _, _, rfl, rfl, le_line (n := 2) (by decide), fun t nt => ?_⟩
    have s3 := same_new (o := .tup [.int (p.1 + p2.1), .int (p.2 + p2.2)]) nt
    refine ⟨z, _, sumP p p2, rfl, VecAt.tup upd_same, sS, ?_⟩
    refine ⟨_, rfl, _, rfl, _, rfl, z, _, p, rfl, ⟨a, rfl, ha.same s3⟩, S4, _, _, rfl, rfl, _, rfl, _, rfl, z, _, p2, rfl, ⟨a2, rfl, ha2.same s3⟩, S5, _, _, rfl, rfl, q _ (s12.trans s3)⟩
theorem has_product (Tx : Txt K mg) (c : He.SaysX fa fn [] tf ex w hh K) (X : K.In hh) (GG : hh.Ns mainGlobals mg) (h_need_kind : HasX P w K mg base "need_kind" 3 ["kind"] (sp_need_kind K)) (h_need_vector : HasX P w K mg base "need_vector" 4 ["value", "part"] (sp_need_vector K)) (h_length_of : Has P w K mg base "length_of" 1 ["kind", "vector"] (sp_length_of K))  : HasX P w K mg base "product" 5 ["kind", "one", "other"] (sp_product K) := by
  obtain ⟨fd, F⟩ := c.t.d.def_ 16 (d := d_product) rfl
  exact ⟨_, fd, ok_product F Tx h_need_kind h_need_vector h_length_of, He.glo_ok X GG (c.t.d.fact 17 (f := .glo "product") rfl), F.kp, F.bindsN fun _ _ _ _ _ _ us hl => match us, hl with | [_, _, _], _ => rfl⟩
theorem has_product_kw (Tx : Txt K mg) (c : He.SaysX fa fn [] tf ex w hh K) (X : K.In hh) (GG : hh.Ns mainGlobals mg) (h_need_kind : HasX P w K mg base "need_kind" 3 ["kind"] (sp_need_kind K)) (h_need_vector : HasX P w K mg base "need_vector" 4 ["value", "part"] (sp_need_vector K)) (h_length_of : Has P w K mg base "length_of" 1 ["kind", "vector"] (sp_length_of K)) : HasKX P w K mg base "product" 5 ["kind", "one", "other"] ["other", "one", "kind"] gk210 (sp_product K) := by
  obtain ⟨fd, F⟩ := c.t.d.def_ 16 (d := d_product) rfl
  exact ⟨_, fd, gk210, ok_product F Tx h_need_kind h_need_vector h_length_of, He.glo_ok X GG (c.t.d.fact 17 (f := .glo "product") rfl), F.kp, kbn_of F (fun _ _ _ _ _ _ ws hl => match ws, hl with | [_, _, _], _ => rfl) gk210_rel⟩

end
end K47

namespace K47
open PySem PySem.Spec PyProof.Rows L2 Vf LamX
section
variable {hh : Heap} {P : Program} {w : World} {K : PySem.W.Frag} {mg : Str → Option Value} {base : Heap}
theorem run_it {J : It} {n : Nat} {G : Hp → Prop} {Y : Nat → Hp → V → Hp → Prop} (w : Walk J n G Y) {B : (Hp → Prop) → V → Hp → Prop} {H0 : Hp} {Qd : Hp → Prop} (Pv : Nat → Hp → Prop) (h0 : Pv 0 H0) (hG : ∀ i H, i ≤ n → Pv i H → G H)
    (hs : ∀ i x H H', i < n → Pv i H → Y i H x H' → B (Pv (i + 1)) x H') (hd : ∀ H, Pv n H → Qd H) :
    ∃ W : Nat → Nat → Hp → Prop, (∃ m, W 0 m H0) ∧ ∀ i m H, W i m H → (J.stop i H ∧ Qd H) ∨ (J.go i H ∧ ∃ Nx : Hp → Prop, (∀ H', Nx H' → ∃ m', m' < m ∧ W (i + 1) m' H') ∧ ∀ x H', J.yld i H x H' → B Nx x H') := by
  refine ⟨fun i m H => m = n - i ∧ i ≤ n ∧ Pv i H, ⟨n, by simp, Nat.zero_le _, h0⟩, ?_⟩
  rintro i m H ⟨rfl, hi, p⟩
  have q := hG i H hi p
  by_cases hlt : i < n
  · exact .inr ⟨w.goes i H hlt q, Pv (i + 1), fun H' p' => ⟨n - (i + 1), by omega, rfl, hlt, p'⟩, fun x H' y => hs i x H H' hlt p (w.yields i H x H' hlt q y)⟩
  · have e : i = n := by omega
    subst e
    exact .inl ⟨w.stops H q, hd H p⟩
/-! ### turned, quotient, vectors_of -/
def sp_turned (K : PySem.W.Frag) : Sp := fun vs H Q E => ∃ (kv v mv : V) (k k2 : Kd) (b : Bool), vs = [kv, v, mv] ∧ KdV K H kv k ∧ VecV K H v b ∧ KdV K H mv k2 ∧ Gates K E H kv [(b, "vector"), (isI mv, "many")] (∃ z p m q, kv = .str z ∧ VecAt H v p ∧ mv = .int m ∧ (spunL z p)[(m % fullOf z).toNat]? = some q ∧ ∀ H' t, Same H H' → H t = none → H' t = some (.tup [.int q.1, .int q.2]) → Q (.ref t) H')
theorem full_pos (z : Str) : 0 < fullOf z := by
  unfold fullOf
  split <;> decide
theorem sc_turned : FnScope ["kind", "vector", "many"] ["kind", "vector", "many"] (defScope s_turned) := ⟨rfl, rfl, rfl, by decide +kernel, rfl, by decide +kernel, by decide +kernel⟩
theorem ok_turned {f : Addr} {fd : FuncData} (F : FunD K "turned" "turned" (defArgs s_turned) (defBody s_turned) (defScope s_turned) [] [] f fd) (Tx : Txt K mg) (h_need_kind : HasX P w K mg base "need_kind" 3 ["kind"] (sp_need_kind K)) (h_need_vector : HasX P w K mg base "need_vector" 4 ["value", "part"] (sp_need_vector K)) (h_is_integer : Has P w K mg base "is_integer" 1 ["value"] (sp_is_integer K)) (h_BadNumber_init : HasM P w K mg base CX0 "BadNumber" "__init__" 1 ["self", "part"] (sp_BadNumber_init K)) (h_spun : Has P w K mg base "spun" 1 ["kind", "vector", "many"] (sp_spun K)) (h_full_of : HasX P w K mg base "full_of" 4 ["kind"] (sp_full_of K))  : FnOk P w K mg base (L2.CX P w) 5 f fd ["kind", "vector", "many"] (sp_turned K) := by
  obtain ⟨f_need_kind, fd_need_kind, G_need_kind, g_need_kind, k_need_kind, b_need_kind⟩ := h_need_kind
  obtain ⟨f_need_vector, fd_need_vector, G_need_vector, g_need_vector, k_need_vector, b_need_vector⟩ := h_need_vector
  obtain ⟨f_is_integer, fd_is_integer, G_is_integer, g_is_integer, k_is_integer, b_is_integer⟩ := h_is_integer
  obtain ⟨fd_BadNumber_init, G_BadNumber_init, b_BadNumber_init⟩ := h_BadNumber_init
  obtain ⟨f_spun, fd_spun, G_spun, g_spun, k_spun, b_spun⟩ := h_spun
  obtain ⟨f_full_of, fd_full_of, G_full_of, g_full_of, k_full_of, b_full_of⟩ := h_full_of
  refine FunD.ok F sc_turned (fun vs H Q E h => ?_) (fun cdv A outer s H vs Q E hr h => ?_)
  · obtain ⟨kv, v, mv, k, k2, b, rfl, _⟩ := h
    rfl
  · obtain ⟨kv, v, mv, k, k2, b, rfl, hk, hv, hm, g0, g⟩ := h
    refine ⟨_, (pss_cons (ps_expr (pe_call G_need_kind (hr.mono (by decide)) (by rfl) g_need_kind k_need_kind b_need_kind .nil (passE rfl rfl rfl rfl) (pa_cons (pv 0) pa_nil)))
        (pss_cons (ps_expr (pe_call G_need_vector (hr.mono (by decide)) (by rfl) g_need_vector k_need_vector b_need_vector .nil (passE rfl rfl rfl rfl) (pa_cons (pv 1) (pa_cons pe_str pa_nil))))
        (pss_cons (ps_if (pt_not (pt_val (pe_call G_is_integer (hr.mono (by decide)) (by rfl) g_is_integer k_is_integer b_is_integer .nil pass0 (pa_cons (pv 2) pa_nil)))) (pss_one (ps_raise rfl (takes_of rfl rfl rfl rfl) (pmk_oex Tx.er_BadNumber.oex Tx.er_BadNumber.ini Tx.er_BadNumber.fn G_BadNumber_init (hr.mono (by decide)) b_BadNumber_init .nil pass0 (by rfl) Tx.g_BadNumber (pa_cons pe_str pa_nil)))) pss_nil)
        (pss_one (ps_ret (pe_call G_spun (hr.mono (by decide)) (by rfl) g_spun k_spun b_spun .nil pass0 (pa_cons (pv 0) (pa_cons (pv 1) (pa_cons (pe_op op_mod (pv 2) (pe_call G_full_of (hr.mono (by decide)) (by rfl) g_full_of k_full_of b_full_of .nil (passE rfl rfl rfl rfl) (pa_cons (pv 0) pa_nil))) pa_nil))))))))), ?_⟩
    refine ⟨_, rfl, kv, k, rfl, hk, fun e => ?_, fun e => g0 e⟩
    refine ⟨_, rfl, v, b, _, rfl, hv, fun eb H1 s1 => ?_, fun eb => (g e).1 eb⟩
    have g1 := (g e).2 eb
    refine ⟨_, rfl, mv, k2, rfl, hm.same s1, _, rfl, ?_⟩
    cases ec : isI mv with
    | false => exact iteT (mk1 Tx.er_BadNumber.oex (Tx.er_BadNumber.no "part" (by simp)) ((g1.1 ec).same s1))
    | true =>
      obtain ⟨z, p, m, p2, rfl, hp, rfl, hq, q⟩ := g1.2 ec
      refine iteF ⟨_, rfl, _, rfl, _, rfl, _, rfl, .str z, k, rfl, hk.same s1, fun z2 e2 _ => ?_, fun e3 => ?_⟩
      · cases e2
        have h0 := Int.emod_nonneg m (b := fullOf z) (by have := full_pos z; omega)
        exact ⟨_, _, rfl, rfl, full_pos z, z, v, p, _, p2, rfl, hp.same s1, h0, hq, fun H2 t s2 n2 e2 => q _ t (s1.trans s2) (s1.free n2) e2⟩
      · rw [e] at e3
        cases e3
theorem has_turned (Tx : Txt K mg) (c : He.SaysX fa fn [] tf ex w hh K) (X : K.In hh) (GG : hh.Ns mainGlobals mg) (h_need_kind : HasX P w K mg base "need_kind" 3 ["kind"] (sp_need_kind K)) (h_need_vector : HasX P w K mg base "need_vector" 4 ["value", "part"] (sp_need_vector K)) (h_is_integer : Has P w K mg base "is_integer" 1 ["value"] (sp_is_integer K)) (h_BadNumber_init : HasM P w K mg base CX0 "BadNumber" "__init__" 1 ["self", "part"] (sp_BadNumber_init K)) (h_spun : Has P w K mg base "spun" 1 ["kind", "vector", "many"] (sp_spun K)) (h_full_of : HasX P w K mg base "full_of" 4 ["kind"] (sp_full_of K))  : HasX P w K mg base "turned" 5 ["kind", "vector", "many"] (sp_turned K) := by
  obtain ⟨fd, F⟩ := c.t.d.def_ 17 (d := d_turned) rfl
  exact ⟨_, fd, ok_turned F Tx h_need_kind h_need_vector h_is_integer h_BadNumber_init h_spun h_full_of, He.glo_ok X GG (c.t.d.fact 18 (f := .glo "turned") rfl), F.kp, F.bindsN fun _ _ _ _ _ _ us hl => match us, hl with | [_, _, _], _ => rfl⟩
theorem has_turned_kw (Tx : Txt K mg) (c : He.SaysX fa fn [] tf ex w hh K) (X : K.In hh) (GG : hh.Ns mainGlobals mg) (h_need_kind : HasX P w K mg base "need_kind" 3 ["kind"] (sp_need_kind K)) (h_need_vector : HasX P w K mg base "need_vector" 4 ["value", "part"] (sp_need_vector K)) (h_is_integer : Has P w K mg base "is_integer" 1 ["value"] (sp_is_integer K)) (h_BadNumber_init : HasM P w K mg base CX0 "BadNumber" "__init__" 1 ["self", "part"] (sp_BadNumber_init K)) (h_spun : Has P w K mg base "spun" 1 ["kind", "vector", "many"] (sp_spun K)) (h_full_of : HasX P w K mg base "full_of" 4 ["kind"] (sp_full_of K)) : HasKX P w K mg base "turned" 5 ["kind", "vector", "many"] ["many", "vector", "kind"] gk210 (sp_turned K) := by
  obtain ⟨fd, F⟩ := c.t.d.def_ 17 (d := d_turned) rfl
  exact ⟨_, fd, gk210, ok_turned F Tx h_need_kind h_need_vector h_is_integer h_BadNumber_init h_spun h_full_of, He.glo_ok X GG (c.t.d.fact 18 (f := .glo "turned") rfl), F.kp, kbn_of F (fun _ _ _ _ _ _ ws hl => match ws, hl with | [_, _, _], _ => rfl) gk210_rel⟩
theorem lenF_wi {n : Nat} {z : Str} {p : Int × Int} (h : Sm n p) : Wi (2 * n + 2) (lenF z p) := by
  have h11 := (h.1.mul h.1).le (n := 2 * n) (by omega)
  have h22 := (h.2.mul h.2).le (n := 2 * n) (by omega)
  have h12 := (h.1.mul h.2).le (n := 2 * n) (by omega)
  unfold lenF
  split
  · exact (h11.add h22).le (by omega)
  · exact (h11.add h12).add (h22.le (by omega))
theorem sq_nn (a : Int) : 0 ≤ a * a := by
  rcases Int.le_total 0 a with h | h
  · exact Int.mul_nonneg h h
  · exact Int.mul_nonneg_of_nonpos_of_nonpos h h
theorem lenF_nn (z : Str) (p : Int × Int) : 0 ≤ lenF z p := by
  have h1 := sq_nn p.1
  have h2 := sq_nn p.2
  unfold lenF
  split
  · omega
  · have h3 := sq_nn (p.1 + p.2)
    have e : (p.1 + p.2) * (p.1 + p.2) = p.1 * p.1 + p.1 * p.2 + p.2 * p.1 + p.2 * p.2 := by
      rw [Int.add_mul, Int.mul_add, Int.mul_add]
      omega
    rw [e, Int.mul_comm p.2 p.1] at h3
    generalize p.1 * p.2 = m at *
    omega
def quoF (z : Str) (p q : Int × Int) : Option (Int × Int) := if (bothF z p (flipF z q)).1 % lenF z q = 0 ∧ (bothF z p (flipF z q)).2 % lenF z q = 0 then some ((bothF z p (flipF z q)).1 / lenF z q, (bothF z p (flipF z q)).2 / lenF z q) else none
/-- None, or a new vector -/
def ResV (H0 H : Hp) (v : V) : Option (Int × Int) → Prop
  | none => v = .non
  | some p => ∃ t, v = .ref t ∧ H0 t = none ∧ H t = some (.tup [.int p.1, .int p.2])
theorem flip_sm {n : Nat} {z : Str} {p : Int × Int} (h : Sm n p) : Sm (n + 1) (flipF z p) := by
  unfold flipF
  split
  · exact ⟨h.1.le (by omega), h.2.neg.le (by omega)⟩
  · exact ⟨h.1.add h.2, h.2.neg.le (by omega)⟩
def sp_quotient (K : PySem.W.Frag) : Sp := fun vs H Q E => ∃ (kv v u : V) (k : Kd) (b c : Bool), vs = [kv, v, u] ∧ KdV K H kv k ∧ VecV K H v b ∧ VecV K H u c ∧ Gates K E H kv [(b, "one"), (c, "other")] (∃ z p q, kv = .str z ∧ VecAt H v p ∧ VecAt H u q ∧ Sm 390 p ∧ Sm 390 q ∧ (lenF z q = 0 → nbErr K E H "other") ∧ (lenF z q ≠ 0 → ∀ H' r, Same H H' → ResV H H' r (quoF z p q) → Q r H'))
theorem sc_quotient : FnScope ["kind", "one", "other", "square", "a", "b"] ["kind", "one", "other"] (defScope s_quotient) := ⟨rfl, rfl, rfl, by decide +kernel, rfl, by decide +kernel, by decide +kernel⟩
theorem ok_quotient {f : Addr} {fd : FuncData} (F : FunD K "quotient" "quotient" (defArgs s_quotient) (defBody s_quotient) (defScope s_quotient) [] [] f fd) (Tx : Txt K mg) (h_need_kind : HasX P w K mg base "need_kind" 3 ["kind"] (sp_need_kind K)) (h_need_vector : HasX P w K mg base "need_vector" 4 ["value", "part"] (sp_need_vector K)) (h_length_of : Has P w K mg base "length_of" 1 ["kind", "vector"] (sp_length_of K)) (h_BadNumber_init : HasM P w K mg base CX0 "BadNumber" "__init__" 1 ["self", "part"] (sp_BadNumber_init K)) (h_both : Has P w K mg base "both" 1 ["kind", "one", "other"] (sp_both K)) (h_flip : Has P w K mg base "flip" 1 ["kind", "vector"] (sp_flip K))  : FnOk P w K mg base (L2.CX P w) 5 f fd ["kind", "one", "other"] (sp_quotient K) := by
  obtain ⟨f_need_kind, fd_need_kind, G_need_kind, g_need_kind, k_need_kind, b_need_kind⟩ := h_need_kind
  obtain ⟨f_need_vector, fd_need_vector, G_need_vector, g_need_vector, k_need_vector, b_need_vector⟩ := h_need_vector
  obtain ⟨f_length_of, fd_length_of, G_length_of, g_length_of, k_length_of, b_length_of⟩ := h_length_of
  obtain ⟨fd_BadNumber_init, G_BadNumber_init, b_BadNumber_init⟩ := h_BadNumber_init
  obtain ⟨f_both, fd_both, G_both, g_both, k_both, b_both⟩ := h_both
  obtain ⟨f_flip, fd_flip, G_flip, g_flip, k_flip, b_flip⟩ := h_flip
  refine FunD.ok F sc_quotient (fun vs H Q E h => ?_) (fun cdv A outer s H vs Q E hr h => ?_)
  · obtain ⟨kv, v, u, k, b, c, rfl, _⟩ := h
    rfl
  · obtain ⟨kv, v, u, k, b, c, rfl, hk, hv, hu, g0, g⟩ := h
    refine ⟨_, (pss_cons (ps_expr (pe_call G_need_kind (hr.mono (by decide)) (by rfl) g_need_kind k_need_kind b_need_kind .nil (passE rfl rfl rfl rfl) (pa_cons (pv 0) pa_nil)))
        (pss_cons (ps_expr (pe_call G_need_vector (hr.mono (by decide)) (by rfl) g_need_vector k_need_vector b_need_vector .nil (passE rfl rfl rfl rfl) (pa_cons (pv 1) (pa_cons pe_str pa_nil))))
        (pss_cons (ps_expr (pe_call G_need_vector (hr.mono (by decide)) (by rfl) g_need_vector k_need_vector b_need_vector .nil (passE rfl rfl rfl rfl) (pa_cons (pv 2) (pa_cons pe_str pa_nil))))
        (pss_cons (ps_set (i := 3) sc_quotient.nd rfl (Or.inl rfl) (pe_call G_length_of (hr.mono (by decide)) (by rfl) g_length_of k_length_of b_length_of .nil pass0 (pa_cons (pv 0) (pa_cons (pv 2) pa_nil))))
        (pss_cons (ps_if (pt_cmpR op_eq (pv 3) pe_int (nomark _)) (pss_one (ps_raise rfl (takes_of rfl rfl rfl rfl) (pmk_oex Tx.er_BadNumber.oex Tx.er_BadNumber.ini Tx.er_BadNumber.fn G_BadNumber_init (hr.mono (by decide)) b_BadNumber_init .nil pass0 (by rfl) Tx.g_BadNumber (pa_cons pe_str pa_nil)))) pss_nil)
        (pss_cons (ps_asg (pe_call G_both (hr.mono (by decide)) (by rfl) g_both k_both b_both .nil pass0 (pa_cons (pv 0) (pa_cons (pv 1) (pa_cons (pe_call G_flip (hr.mono (by decide)) (by rfl) g_flip k_flip b_flip .nil pass0 (pa_cons (pv 0) (pa_cons (pv 2) pa_nil))) pa_nil)))) (pg_or (pg_tup (by rfl) (pgs_cons (pg_name (i := 4) sc_quotient.nd rfl (Or.inl rfl)) (pgs_cons (pg_name (i := 5) sc_quotient.nd rfl (Or.inl rfl)) pgs_nil))) (pg_unl (by rfl) (pgs_cons (pg_name (i := 4) sc_quotient.nd rfl (Or.inl rfl)) (pgs_cons (pg_name (i := 5) sc_quotient.nd rfl (Or.inl rfl)) pgs_nil)))))
        (pss_one (ps_ret (pe_ifExp (PW.pt (pw_and (pt_cmpR op_eq (pe_op op_mod (pv 4) (pv 3)) pe_int (nomark _)) (pw_and1 (pt_cmpR op_eq (pe_op op_mod (pv 5) (pv 3)) pe_int (nomark _))))) (pe_tup (pa_cons (pe_op op_fdivW (pv 4) (pv 3)) (pa_cons (pe_op op_fdivW (pv 5) (pv 3)) pa_nil))) pe_non))))))))), ?_⟩
    refine ⟨_, rfl, kv, k, rfl, hk, fun e => ?_, fun e => g0 e⟩
    refine ⟨_, rfl, v, b, _, rfl, hv, fun eb H1 s1 => ?_, fun eb => (g e).1 eb⟩
    have g1 := (g e).2 eb
    refine ⟨_, rfl, u, c, _, rfl, hu.same s1, fun ec H2 s2 => ?_, fun ec => (g1.1 ec).same s1⟩
    obtain ⟨z, p, p2, rfl, hp, hp2, hs, hs2, r, q⟩ := g1.2 ec
    have s12 := s1.trans s2
    have S5 : Sm 400 p2 := ⟨hs2.1.le (by decide), hs2.2.le (by decide)⟩
    have S4 : Sm 400 p := ⟨hs.1.le (by decide), hs.2.le (by decide)⟩
    have S6 : Sm 400 (flipF z p2) := ⟨(flip_sm hs2).1.le (by decide), (flip_sm hs2).2.le (by decide)⟩
    refine ⟨_, rfl, _, rfl, z, u, p2, rfl, hp2.same s12, S5, ?_⟩
    have wl := (lenF_wi (z := z) S5)
    have nn := lenF_nn z p2
    refine ⟨_, rfl, rfl, _, rfl, ?_⟩
    rw [dec_int]
    by_cases h0 : lenF z p2 = 0
    · rw [h0]
      exact iteT (mk1 Tx.er_BadNumber.oex (Tx.er_BadNumber.no "part" (by simp)) ((r h0).same s12))
    · have q2 := q h0
      clear r q
      unfold quoF at q2
      generalize lenF z p2 = n at *
      rw [show (n == 0) = false from by simpa using h0]
      refine iteF ?_
      refine ⟨_, rfl, _, rfl, _, rfl, _, rfl, z, u, p2, rfl, hp2.same s12, fun H3 t3 s3 n3 e3 => ?_⟩
      refine ⟨z, v, _, p, flipF z p2, rfl, (hp.same s12).same s3, VecAt.tup e3, S4, S6, fun H4 t4 s4 n4 e4 => ?_⟩
      generalize bothF z p (flipF z p2) = w at *
      refine box_tg (.inr e4) rfl ⟨_, _, rfl, _, _, rfl, rfl, ?_⟩
      have pos : 0 < n := by omega
      have hd : CDivW w.1 n := wide_div pos wl (by decide) (by decide)
      have hd2 : CDivW w.2 n := wide_div pos wl (by decide) (by decide)
      have s34 := s12.trans (s3.trans s4)
      refine ⟨_, rfl, _, rfl, _, _, rfl, rfl, pos, rfl, _, rfl, ?_⟩
      rw [dec_int]
      by_cases m1 : w.1 % n = 0
      · rw [show (w.1 % n == 0) = true from by simpa using m1]
        refine iteT ⟨_, rfl, _, rfl, _, _, rfl, rfl, pos, rfl, _, rfl, ?_⟩
        rw [dec_int]
        by_cases m2 : w.2 % n = 0
        · rw [show (w.2 % n == 0) = true from by simpa using m2]
          rw [if_pos ⟨m1, m2⟩] at q2
          refine iteT ⟨_, rfl, _, rfl, _, _, rfl, rfl, hd, _, rfl, _, rfl, _, _, rfl, rfl, hd2, le_line (n := 2) (by decide), fun t nt => ?_⟩
          exact q2 _ _ (s34.trans (same_new nt)) ⟨t, rfl, s34.free nt, upd_same⟩
        · rw [show (w.2 % n == 0) = false from by simpa using m2]
          rw [if_neg fun z => m2 z.2] at q2
          exact iteF (q2 _ _ s34 rfl)
      · rw [show (w.1 % n == 0) = false from by simpa using m1]
        rw [if_neg fun z => m1 z.1] at q2
        exact iteF (iteF (q2 _ _ s34 rfl))
theorem has_quotient (Tx : Txt K mg) (c : He.SaysX fa fn [] tf ex w hh K) (X : K.In hh) (GG : hh.Ns mainGlobals mg) (h_need_kind : HasX P w K mg base "need_kind" 3 ["kind"] (sp_need_kind K)) (h_need_vector : HasX P w K mg base "need_vector" 4 ["value", "part"] (sp_need_vector K)) (h_length_of : Has P w K mg base "length_of" 1 ["kind", "vector"] (sp_length_of K)) (h_BadNumber_init : HasM P w K mg base CX0 "BadNumber" "__init__" 1 ["self", "part"] (sp_BadNumber_init K)) (h_both : Has P w K mg base "both" 1 ["kind", "one", "other"] (sp_both K)) (h_flip : Has P w K mg base "flip" 1 ["kind", "vector"] (sp_flip K))  : HasX P w K mg base "quotient" 5 ["kind", "one", "other"] (sp_quotient K) := by
  obtain ⟨fd, F⟩ := c.t.d.def_ 20 (d := d_quotient) rfl
  exact ⟨_, fd, ok_quotient F Tx h_need_kind h_need_vector h_length_of h_BadNumber_init h_both h_flip, He.glo_ok X GG (c.t.d.fact 21 (f := .glo "quotient") rfl), F.kp, F.bindsN fun _ _ _ _ _ _ us hl => match us, hl with | [_, _, _], _ => rfl⟩
theorem has_quotient_kw (Tx : Txt K mg) (c : He.SaysX fa fn [] tf ex w hh K) (X : K.In hh) (GG : hh.Ns mainGlobals mg) (h_need_kind : HasX P w K mg base "need_kind" 3 ["kind"] (sp_need_kind K)) (h_need_vector : HasX P w K mg base "need_vector" 4 ["value", "part"] (sp_need_vector K)) (h_length_of : Has P w K mg base "length_of" 1 ["kind", "vector"] (sp_length_of K)) (h_BadNumber_init : HasM P w K mg base CX0 "BadNumber" "__init__" 1 ["self", "part"] (sp_BadNumber_init K)) (h_both : Has P w K mg base "both" 1 ["kind", "one", "other"] (sp_both K)) (h_flip : Has P w K mg base "flip" 1 ["kind", "vector"] (sp_flip K)) : HasKX P w K mg base "quotient" 5 ["kind", "one", "other"] ["one", "other", "kind"] gk201 (sp_quotient K) := by
  obtain ⟨fd, F⟩ := c.t.d.def_ 20 (d := d_quotient) rfl
  exact ⟨_, fd, gk201, ok_quotient F Tx h_need_kind h_need_vector h_length_of h_BadNumber_init h_both h_flip, He.glo_ok X GG (c.t.d.fact 21 (f := .glo "quotient") rfl), F.kp, kbn_of F (fun _ _ _ _ _ _ ws hl => match ws, hl with | [_, _, _], _ => rfl) gk201_rel⟩
/-- the tuples at ts are the pairs ps -/
structure Pairs (H : Hp) (ts : List Addr) (ps : List (Int × Int)) : Prop where
  len : ts.length = ps.length
  at_ : ∀ (i : Nat) t p, ts[i]? = some t → ps[i]? = some p → H t = some (.tup [.int p.1, .int p.2])
theorem Pairs.nil {H : Hp} : Pairs H [] [] := ⟨rfl, fun i t p h => by simp at h⟩
theorem Pairs.same {H H' : Hp} {ts : List Addr} {ps : List (Int × Int)} (h : Pairs H ts ps) (s : Same H H') : Pairs H' ts ps := ⟨h.len, fun i t p h1 h2 => s _ _ (h.at_ i t p h1 h2)⟩
theorem Pairs.mut {H : Hp} {d : Addr} {xs : List V} {o : HO} {ts : List Addr} {ps : List (Int × Int)} (h : Pairs H ts ps) (hd : H d = some (.lst xs)) : Pairs (upd H d o) ts ps := ⟨h.len, fun i t p h1 h2 => by
  have q := h.at_ i t p h1 h2
  rw [upd_ne fun z => by rw [z, hd] at q; cases q]
  exact q⟩
theorem Pairs.snoc {H : Hp} {ts : List Addr} {ps : List (Int × Int)} {t : Addr} {p : Int × Int} (h : Pairs H ts ps) (e : H t = some (.tup [.int p.1, .int p.2])) : Pairs H (ts ++ [t]) (ps ++ [p]) := by
  refine ⟨by rw [List.length_append, List.length_append, h.len] <;> rfl, fun i t' p' h1 h2 => ?_⟩
  by_cases hi : i < ts.length
  · rw [List.getElem?_append_left hi] at h1
    rw [List.getElem?_append_left (by rw [← h.len]; exact hi)] at h2
    exact h.at_ i t' p' h1 h2
  · rw [List.getElem?_append_right (by omega)] at h1
    rw [List.getElem?_append_right (by rw [← h.len]; omega), ← h.len] at h2
    obtain ⟨k, hk⟩ : ∃ k, i - ts.length = k := ⟨_, rfl⟩
    rw [hk] at h1 h2
    cases k with
    | zero =>
      cases h1
      cases h2
      exact e
    | succ k => simp at h1
theorem Pairs.get {H : Hp} {ts : List Addr} {ps : List (Int × Int)} (h : Pairs H ts ps) {i : Nat} {x : V} (hx : (ts.map V.ref)[i]? = some x) : ∃ t p, x = .ref t ∧ ts[i]? = some t ∧ ps[i]? = some p ∧ H t = some (.tup [.int p.1, .int p.2]) := by
  rw [List.getElem?_map] at hx
  obtain ⟨t, ht, rfl⟩ := Option.map_eq_some_iff.mp hx
  obtain ⟨hlt, _⟩ := List.getElem?_eq_some_iff.mp ht
  rw [h.len] at hlt
  exact ⟨t, ps[i], rfl, ht, List.getElem?_eq_getElem hlt, h.at_ i t _ ht (List.getElem?_eq_getElem hlt)⟩
def rowL (i : Nat) (m : Nat) : List (Int × Int) := (List.range m).map fun (j : Nat) => ((i : Int) + 1, (j : Int))
def stepL (i : Nat) : List (Int × Int) := (List.range i).flatMap fun (i : Nat) => rowL i 21
theorem rowL_succ (i m : Nat) : rowL i (m + 1) = rowL i m ++ [((i : Int) + 1, (m : Int))] := by
  unfold rowL
  rw [List.range_succ, List.map_append]
  rfl
theorem stepL_succ (i : Nat) : stepL (i + 1) = stepL i ++ rowL i 21 := by
  unfold stepL
  rw [List.range_succ, List.flatMap_append, List.flatMap_cons, List.flatMap_nil, List.append_nil]
theorem rowL_len (i m : Nat) : (rowL i m).length = m := by
  unfold rowL
  rw [List.length_map, List.length_range]
theorem stepL_len (i : Nat) : (stepL i).length = 21 * i := by
  induction i with
  | zero => rfl
  | succ i ih => rw [stepL_succ, List.length_append, ih, rowL_len]; omega
theorem stepL_mem {i : Nat} {p : Int × Int} (h : p ∈ stepL i) : 1 ≤ p.1 ∧ p.1 ≤ (i : Int) ∧ 0 ≤ p.2 ∧ p.2 ≤ 20 := by
  unfold stepL at h
  obtain ⟨j, hj, hp⟩ := List.mem_flatMap.mp h
  unfold rowL at hp
  obtain ⟨l, hl, rfl⟩ := List.mem_map.mp hp
  have := List.mem_range.mp hj
  have := List.mem_range.mp hl
  dsimp only
  omega
def vecsF (z : Str) (n : Int) : List (Int × Int) := (stepL 20).filter fun p => decide (lenF z p = n)
def sp_vectors_of (K : PySem.W.Frag) : Sp := fun vs H Q E => ∃ (kv sv : V) (k k2 : Kd), vs = [kv, sv] ∧ KdV K H kv k ∧ KdV K H sv k2 ∧ Gates K E H kv [(bnd sv (.int 1) (.int 400), "square")] (∃ z n, kv = .str z ∧ sv = .int n ∧ ∀ H' r us, Same H H' → H r = none → H' r = some (.tup (us.map V.ref)) → Pairs H' us (vecsF z n) → Q (.ref r) H')
theorem sc_vectors_of : FnScope ["kind", "square", "steps", "a", "b", "vector"] ["kind", "square"] (defScope s_vectors_of) := ⟨rfl, rfl, rfl, by decide +kernel, rfl, by decide +kernel, by decide +kernel⟩
theorem ok_vectors_of {f : Addr} {fd : FuncData} (F : FunD K "vectors_of" "vectors_of" (defArgs s_vectors_of) (defBody s_vectors_of) (defScope s_vectors_of) [] [] f fd) (Tx : Txt K mg) (h_need_kind : HasX P w K mg base "need_kind" 3 ["kind"] (sp_need_kind K)) (h_is_within : Has P w K mg base "is_within" 2 ["value", "least", "most"] (sp_is_within K)) (h_BadNumber_init : HasM P w K mg base CX0 "BadNumber" "__init__" 1 ["self", "part"] (sp_BadNumber_init K)) (h_length_of : Has P w K mg base "length_of" 1 ["kind", "vector"] (sp_length_of K))  : FnOk P w K mg base (L2.CX P w) 4 f fd ["kind", "square"] (sp_vectors_of K) := by
  obtain ⟨f_need_kind, fd_need_kind, G_need_kind, g_need_kind, k_need_kind, b_need_kind⟩ := h_need_kind
  obtain ⟨f_is_within, fd_is_within, G_is_within, g_is_within, k_is_within, b_is_within⟩ := h_is_within
  obtain ⟨fd_BadNumber_init, G_BadNumber_init, b_BadNumber_init⟩ := h_BadNumber_init
  obtain ⟨f_length_of, fd_length_of, G_length_of, g_length_of, k_length_of, b_length_of⟩ := h_length_of
  refine FunD.ok F sc_vectors_of (fun vs H Q E h => ?_) (fun cdv A outer s H vs Q E hr h => ?_)
  · obtain ⟨kv, sv, k, k2, rfl, _⟩ := h
    rfl
  · obtain ⟨kv, sv, k, k2, rfl, hk, hs, g0, g⟩ := h
    refine ⟨_, (pss_cons (ps_expr (pe_call G_need_kind (hr.mono (by decide)) (by rfl) g_need_kind k_need_kind b_need_kind .nil (passE rfl rfl rfl rfl) (pa_cons (pv 0) pa_nil)))
        (pss_cons (ps_if (pt_not (pt_val (pe_call G_is_within (hr.mono (by decide)) (by rfl) g_is_within k_is_within b_is_within .nil pass0 (pa_cons (pv 1) (pa_cons pe_int (pa_cons (pe_glob (v := .int 400) (by rfl) (Tx.c_MOST_SQUARE).choose_spec ⟨_, rfl⟩) pa_nil)))))) (pss_one (ps_raise rfl (takes_of rfl rfl rfl rfl) (pmk_oex Tx.er_BadNumber.oex Tx.er_BadNumber.ini Tx.er_BadNumber.fn G_BadNumber_init (hr.mono (by decide)) b_BadNumber_init .nil pass0 (by rfl) Tx.g_BadNumber (pa_cons pe_str pa_nil)))) pss_nil)
        (pss_cons (ps_setLc2 (i := 2) (own := [("a", 3), ("b", 4)]) (vs1 := [4]) (tt := tYes) (tt1 := tYes) rfl sc_vectors_of.nd rfl rfl (sw_true rfl rfl rfl (by decide +kernel)) (pi_range2 (by rfl) Tx.n_range (pa_cons pe_int (pa_cons (pe_op op_add (pe_glob (v := .int 20) (by rfl) (Tx.c_MOST_STEPS).choose_spec ⟨_, rfl⟩) pe_int) pa_nil))) (blkOk_by (own := [("a", 3), ("b", 4)]) (N := ["kind", "square", "steps", "a", "b", "vector"]) (sc := defScope s_vectors_of) (by decide +kernel)) (by decide) (fun _ _ _ _ _ => (pg_name (i := 3) sc_vectors_of.nd rfl (Or.inl rfl))) (fun _ _ _ _ _ => pts_nil) (fun _ _ _ _ _ => (pi_range1 (by rfl) Tx.n_range (pa_cons (pe_op op_add (pe_glob (v := .int 20) (by rfl) (Tx.c_MOST_STEPS).choose_spec ⟨_, rfl⟩) pe_int) pa_nil))) (fun _ _ _ _ _ => (pg_name (i := 4) sc_vectors_of.nd rfl (Or.inl rfl))) (fun _ _ _ _ _ => pts_nil) (fun _ _ _ _ _ => (pe_tup (pa_cons (pv 3) (pa_cons (pv 4) pa_nil)))))
        (pss_one (ps_ret (pe_callTy call_tuple_of (by rfl) Tx.n_tuple (by decide +kernel) (pa_cons (pe_lc (own := [("vector", 5)]) (g := gName 5) rfl sc_vectors_of.nd (pi_list (pv 2)) (blkOk_by (own := [("vector", 5)]) (N := ["kind", "square", "steps", "a", "b", "vector"]) (sc := defScope s_vectors_of) (by decide +kernel)) (fun _ _ _ _ _ => (pg_name (i := 5) sc_vectors_of.nd rfl (Or.inl rfl))) (fun _ _ _ _ _ => (pts_one (pt_cmpR op_eq (pe_call G_length_of (hr.mono (by decide)) (by rfl) g_length_of k_length_of b_length_of .nil pass0 (pa_cons (pv 0) (pa_cons (pv 5) pa_nil))) (pv 1) (nomark _)))) (fun _ _ _ _ _ => (pv 5))) pa_nil))))))), ?_⟩
    refine ⟨_, rfl, kv, k, rfl, hk, fun e => ?_, fun e => g0 e⟩
    refine ⟨_, rfl, sv, _, _, k2, rfl, hs, rfl, rfl, _, rfl, ?_⟩
    cases ec : bnd sv (.int 1) (.int 400) with
    | false => exact iteT (mk1 Tx.er_BadNumber.oex (Tx.er_BadNumber.no "part" (by simp)) ((g e).1 ec))
    | true =>
      obtain ⟨z, n, rfl, rfl, q⟩ := (g e).2 ec
      refine iteF ?_
      refine ⟨_, _, rfl, rfl, _, _, rfl, ⟨by decide, by decide, by decide, by decide⟩, fun D nD => ?_⟩
      refine run_it (walk_range (lo := 1) (n := 20)) (fun i H' => Same H H' ∧ ∃ ts, H' D = some (.lst (ts.map V.ref)) ∧ Pairs H' ts (stepL i)) ⟨same_new nD, [], upd_same, Pairs.nil⟩ (fun i H' _ _ => True.intro) (fun i x H2 H3 hi p y => ?_) (fun H' p => ?_)
      · obtain ⟨rfl, rfl⟩ := y
        refine ⟨rfl, ?_⟩
        refine ⟨_, _, rfl, rfl, _, rfl, by decide, by decide, ?_⟩
        refine run_it (walk_range (lo := 0) (n := 21)) (fun j H' => Same H H' ∧ ∃ ts, H' D = some (.lst (ts.map V.ref)) ∧ Pairs H' ts (stepL i ++ rowL i j)) ⟨p.1, by
          obtain ⟨ts, h1, h2⟩ := p.2
          refine ⟨ts, h1, ?_⟩
          rw [show rowL i 0 = [] from rfl, List.append_nil]
          exact h2⟩ (fun i H' _ _ => True.intro) (fun j x H4 H5 hj p4 y4 => ?_) (fun H' p4 => ?_)
        · obtain ⟨rfl, rfl⟩ := y4
          obtain ⟨s4, ts, h1, h2⟩ := p4
          refine ⟨rfl, ?_⟩
          refine ⟨_, rfl, _, rfl, le_line (n := 2) (by decide), fun t nt => ?_⟩
          have st := same_new (o := .tup [.int (1 + (i : Nat)), .int (0 + (j : Nat))]) nt
          have len : ts.length = 21 * i + j := by
            rw [h2.len, List.length_append, stepL_len, rowL_len]
          refine ⟨ts.map V.ref, st _ _ h1, ?_, Same.mut (s4.trans st) nD, ts ++ [t], ?_, ?_⟩
          · rw [List.length_map]
            exact small_line (by omega)
          · rw [upd_same, List.map_append]
            rfl
          · rw [rowL_succ, ← List.append_assoc]
            refine Pairs.mut (Pairs.snoc (h2.same st) ?_) (st _ _ h1)
            rw [upd_same]
            show some (HO.tup [V.int (1 + (i : Int)), V.int (0 + (j : Int))]) = some (HO.tup [V.int ((i : Int) + 1), V.int (j : Int)])
            rw [Int.zero_add, Int.add_comm]
        · obtain ⟨s4, ts, h1, h2⟩ := p4
          rw [← stepL_succ] at h2
          exact ⟨s4, ts, h1, h2⟩
      · obtain ⟨s1, ts, h1, h2⟩ := p
        have len : ts.length = 420 := by
          rw [h2.len, stepL_len]
        refine ⟨_, rfl, D, rfl, ⟨_, SqL.of h1⟩, fun D2 nD2 => ?_⟩
        refine lc_it (walk_list (K := K) (a := D) (xs := ts.map V.ref)) (fun i H2 => Same H' H2 ∧ ∃ us, H2 D2 = some (.lst (us.map V.ref)) ∧ us.length ≤ i ∧ Pairs H2 us (((stepL 20).take i).filter fun p => decide (lenF z p = n))) ⟨same_new nD2, [], upd_same, Nat.le_refl _, Pairs.nil⟩ (fun i H2 _ p => SqL.of (p.1 _ _ h1)) (fun i x H2 H3 hi p y => ?_) (fun H2 p => ?_)
        · obtain ⟨rfl, hx⟩ := y
          obtain ⟨s2, us, e1, e2, e3⟩ := p
          obtain ⟨t, pr, rfl, ht, hp, htup⟩ := h2.get hx
          have hm := stepL_mem (List.mem_of_getElem? hp)
          have sm : Sm 400 pr := by
            have q : ∀ i : Int, 0 ≤ i → i ≤ 20 → Wi 400 i := fun i h0 h1 => Nat.lt_of_lt_of_le (show i.natAbs < 2 ^ 5 by omega) (Nat.pow_le_pow_right (by decide) (by decide))
            exact ⟨q _ (by omega) (by omega), q _ (by omega) (by omega)⟩
          have et : (stepL 20).take (i + 1) = (stepL 20).take i ++ [pr] := by rw [List.take_add_one, hp] <;> rfl
          refine ⟨rfl, ?_⟩
          refine ⟨_, rfl, _, rfl, z, .ref t, pr, rfl, VecAt.tup (s2 _ _ htup), sm, _, rfl, rfl, _, rfl, ?_⟩
          rw [dec_int]
          cases eb : (lenF z pr == n) with
          | true =>
            refine iteT ⟨_, rfl, us.map V.ref, e1, ?_, Same.mut s2 nD2, us ++ [t], ?_, ?_, ?_⟩
            · rw [List.length_map]
              have : (ts.map V.ref).length = 420 := by rw [List.length_map, len]
              exact small_line (by omega)
            · rw [upd_same, List.map_append]
              rfl
            · rw [List.length_append]
              simp only [List.length_cons, List.length_nil]
              omega
            · rw [et, List.filter_append, show [pr].filter (fun p => decide (lenF z p = n)) = [pr] by simp [show lenF z pr = n by simpa using eb]]
              exact Pairs.mut (Pairs.snoc e3 (s2 _ _ htup)) e1
          | false =>
            refine iteF ⟨s2, us, e1, by omega, ?_⟩
            rw [et, List.filter_append, show [pr].filter (fun p => decide (lenF z p = n)) = [] by simp [show ¬ lenF z pr = n by simpa using eb], List.append_nil]
            exact e3
        · obtain ⟨s2, us, e1, e2, e3⟩ := p
          rw [List.length_map, len, show (stepL 20).take 420 = stepL 20 from List.take_of_length_le (by rw [stepL_len] <;> decide)] at e3
          refine ⟨D2, _, rfl, .inl ⟨SqL.of e1, fun l nl => ?_⟩⟩
          have s3 := s1.trans s2
          exact q _ l us (s3.trans (same_new nl)) (s3.free nl) upd_same (e3.same (same_new nl))
theorem has_vectors_of (Tx : Txt K mg) (c : He.SaysX fa fn [] tf ex w hh K) (X : K.In hh) (GG : hh.Ns mainGlobals mg) (h_need_kind : HasX P w K mg base "need_kind" 3 ["kind"] (sp_need_kind K)) (h_is_within : Has P w K mg base "is_within" 2 ["value", "least", "most"] (sp_is_within K)) (h_BadNumber_init : HasM P w K mg base CX0 "BadNumber" "__init__" 1 ["self", "part"] (sp_BadNumber_init K)) (h_length_of : Has P w K mg base "length_of" 1 ["kind", "vector"] (sp_length_of K))  : HasX P w K mg base "vectors_of" 4 ["kind", "square"] (sp_vectors_of K) := by
  obtain ⟨fd, F⟩ := c.t.d.def_ 21 (d := d_vectors_of) rfl
  exact ⟨_, fd, ok_vectors_of F Tx h_need_kind h_is_within h_BadNumber_init h_length_of, He.glo_ok X GG (c.t.d.fact 22 (f := .glo "vectors_of") rfl), F.kp, F.bindsN fun _ _ _ _ _ _ us hl => match us, hl with | [_, _], _ => rfl⟩
theorem has_vectors_of_kw (Tx : Txt K mg) (c : He.SaysX fa fn [] tf ex w hh K) (X : K.In hh) (GG : hh.Ns mainGlobals mg) (h_need_kind : HasX P w K mg base "need_kind" 3 ["kind"] (sp_need_kind K)) (h_is_within : Has P w K mg base "is_within" 2 ["value", "least", "most"] (sp_is_within K)) (h_BadNumber_init : HasM P w K mg base CX0 "BadNumber" "__init__" 1 ["self", "part"] (sp_BadNumber_init K)) (h_length_of : Has P w K mg base "length_of" 1 ["kind", "vector"] (sp_length_of K)) : HasKX P w K mg base "vectors_of" 4 ["kind", "square"] ["square", "kind"] gk10 (sp_vectors_of K) := by
  obtain ⟨fd, F⟩ := c.t.d.def_ 21 (d := d_vectors_of) rfl
  exact ⟨_, fd, gk10, ok_vectors_of F Tx h_need_kind h_is_within h_BadNumber_init h_length_of, He.glo_ok X GG (c.t.d.fact 22 (f := .glo "vectors_of") rfl), F.kp, kbn_of F (fun _ _ _ _ _ _ ws hl => match ws, hl with | [_, _], _ => rfl) gk10_rel⟩

end
end K47

namespace K47
open PySem PySem.Spec PyProof.Rows L2 Vf LamX
section
variable {hh : Heap} {P : Program} {w : World} {K : PySem.W.Frag} {mg : Str → Option Value} {base : Heap}
abbrev sp_law_draw : Sp := spDraw
theorem cpow18 : CPow 10 18 := ⟨by decide, by decide, by decide⟩
theorem mix_small {n x : Int} (h0 : 0 ≤ n) (h1 : n ≤ 1000000) (x0 : 0 ≤ x) (x1 : x < 2147483647) : 0 ≤ x * (2 * n + 1621) + 45013 * n * n + 47123 ∧ x * (2 * n + 1621) + 45013 * n * n + 47123 ≤ 100000000000000000 := by
  have a1 : 0 ≤ x * (2 * n + 1621) := Int.mul_nonneg x0 (by omega)
  have a2 : x * (2 * n + 1621) ≤ 2147483647 * 2001621 := Int.mul_le_mul (by omega) (by omega) (by omega) (by decide)
  have a3 : 0 ≤ 45013 * n * n := Int.mul_nonneg (by omega) h0
  have a4 : 45013 * n * n ≤ 45013000000 * 1000000 := Int.mul_le_mul (by omega) h1 h0 (by decide)
  omega
theorem cdiv64 {i : Int} : CDiv i 64 := ⟨by decide, by decide⟩
theorem sc_law_draw : FnScope ["_law_pen_here", "_law_many", "_law_digit", "_law_at", "_law_cell", "_law_great", "_law_mixed"] ["_law_pen_here", "_law_many"] (defScope s_law_draw) := ⟨rfl, rfl, rfl, by decide +kernel, rfl, by decide +kernel, by decide +kernel⟩
theorem ok_law_draw {f : Addr} {fd : FuncData} (F : FunD K "_law_draw" "_law_draw" (defArgs s_law_draw) (defBody s_law_draw) (defScope s_law_draw) [] [] f fd) (Tx : Txt K mg)   : FnOk P w K mg base CX0 1 f fd ["_law_pen_here", "_law_many"] sp_law_draw := by
  refine FunD.ok F sc_law_draw (fun vs H Q E h => ?_) (fun cdv A outer s H vs Q E hr h => ?_)
  · obtain ⟨p, c, many, b, rfl, _⟩ := h
    rfl
  · obtain ⟨p, c, m, b, rfl, ⟨ns, n, g, hp, hc, n0, nb⟩, m0, m2, k⟩ := h
    have cp : c ≠ p := fun e => by
      rw [e, hp] at hc
      injection hc with z
      injection z with z
      exact ref_ints z
    refine ⟨_, PSs.nox (pss_cons (ps_if (pt_cmpR op_gt (pe_ix ix_list (pv 0) pe_int (fun _ _ => rfl)) pe_int (nomark _)) (pss_cons (ps_set (i := 2) sc_law_draw.nd rfl (Or.inl rfl) (pe_op op_mod (pe_callTy call_int1 (by rfl) Tx.n_int (by decide +kernel) (pa_cons (pe_ix ix_list (pv 0) pe_int (fun _ _ => rfl)) pa_nil)) (pv 1)))
        (pss_cons (ps_asg (pe_op op_fdivW (pe_callTy call_int1 (by rfl) Tx.n_int (by decide +kernel) (pa_cons (pe_ix ix_list (pv 0) pe_int (fun _ _ => rfl)) pa_nil)) (pv 1)) (pg_sub (pv 0) pe_int set_list))
        (pss_one (ps_ret (pv 2))))) pss_nil)
        (pss_cons (ps_set (i := 3) sc_law_draw.nd rfl (Or.inl rfl) (pe_ix ix_list (pv 0) pe_int (fun _ _ => rfl)))
        (pss_cons (ps_asg (pe_op op_add (pv 3) pe_int) (pg_sub (pv 0) pe_int set_list))
        (pss_cons (ps_set (i := 4) sc_law_draw.nd rfl (Or.inl rfl) (pe_op op_add (pe_op op_mul pe_int (pv 3)) pe_int))
        (C8.pss_cut (ps_if (pt_cmpR (op_neD hr.units) (pe_ix ix_list (pv 0) pe_int (fun _ _ => rfl)) (pe_lst pa_nil) (nomark _)) (pss_one (ps_set (i := 4) sc_law_draw.nd rfl (Or.inl rfl) (pe_ix ix_list (pe_ix ix_list (pv 0) pe_int (fun _ _ => rfl)) (pe_op op_mod (pe_callTy call_int1 (by rfl) Tx.n_int (by decide +kernel) (pa_cons (pv 3) pa_nil)) (pe_callB call_len_seq (by rfl) Tx.n_len (by decide +kernel) (pa_cons (pe_ix ix_list (pv 0) pe_int (fun _ _ => rfl)) pa_nil))) (fun _ _ => rfl)))) pss_nil)
        (C8.pss_cut (ps_if (PW.pt (pw_and (pt_cmpR op_lt (pv 3) (pe_callB call_len_seq (by rfl) Tx.n_len (by decide +kernel) (pa_cons (pe_ix ix_list (pv 0) pe_int (fun _ _ => rfl)) pa_nil)) (nomark _)) (pw_and1 (pt_cmpR op_ge (pe_callB call_abs (by rfl) Tx.n_abs (by decide +kernel) (pa_cons (pv 4) pa_nil)) (pe_op op_pow pe_int pe_int) (nomark _))))) (pss_cons (ps_set (i := 5) sc_law_draw.nd rfl (Or.inl rfl) (pe_op op_add (pe_op op_mul pe_int (pe_op op_sub (pe_callB call_abs (by rfl) Tx.n_abs (by decide +kernel) (pa_cons (pv 4) pa_nil)) (pe_op op_pow pe_int pe_int))) (pe_callTy call_int1 (by rfl) Tx.n_int (by decide +kernel) (pa_cons (pe_cmpR op_lt (pv 4) pe_int (nomark _)) pa_nil))))
        (pss_cons (ps_asg (pe_op op_fdivW (pe_callTy call_int1 (by rfl) Tx.n_int (by decide +kernel) (pa_cons (pv 5) pa_nil)) (pv 1)) (pg_sub (pv 0) pe_int set_list))
        (pss_one (ps_ret (pe_op op_mod (pe_callTy call_int1 (by rfl) Tx.n_int (by decide +kernel) (pa_cons (pv 5) pa_nil)) (pv 1)))))) pss_nil)
        (C8.pss_cut (ps_set (i := 6) sc_law_draw.nd rfl (Or.inl rfl) (pe_op op_mod (pe_callTy call_int1 (by rfl) Tx.n_int (by decide +kernel) (pa_cons (pe_op op_pow (pe_op op_add (pe_op op_add (pe_op op_mod (pe_callTy call_int1 (by rfl) Tx.n_int (by decide +kernel) (pa_cons (pv 4) pa_nil)) pe_int) (pe_op op_mul pe_int (pv 3))) pe_int) pe_int) pa_nil)) pe_int))
        (pss_cons (ps_set (i := 6) sc_law_draw.nd rfl (Or.inl rfl) (pe_op op_mod (pe_callTy call_int1 (by rfl) Tx.n_int (by decide +kernel) (pa_cons (pe_op op_pow (pe_op op_add (pe_op op_add (pe_op op_mul (pv 6) (pe_op op_add (pe_op op_mul pe_int (pv 3)) pe_int)) (pe_op op_mul (pe_op op_mul pe_int (pv 3)) (pv 3))) pe_int) pe_int) pa_nil)) pe_int))
        (pss_one (ps_ret (pe_op op_mod (pe_callTy call_int1 (by rfl) Tx.n_int (by decide +kernel) (pa_cons (pe_op op_fdiv (pv 6) pe_int) pa_nil)) (pv 1)))))))))))), ?_⟩
    -- if pen[2] > 0
    refine ⟨_, rfl, p, _, 2, .int g, rfl, rfl, SqL.of hp, rfl, _, _, rfl, rfl, _, rfl, ite2 (fun hg => ?_) (fun hg => ?_)⟩
    · refine ⟨_, rfl, p, _, 2, .int g, rfl, rfl, SqL.of hp, rfl, .inl ⟨_, rfl, ?_⟩⟩
      refine ⟨_, rfl, _, _, rfl, rfl, m0, ?_⟩
      refine ⟨_, rfl, p, _, 2, .int g, rfl, rfl, SqL.of hp, rfl, .inl ⟨_, rfl, ?_⟩⟩
      refine ⟨_, rfl, _, _, rfl, rfl, many_div m0 m2, ?_⟩
      refine ⟨_, rfl, p, _, 2, 2, rfl, rfl, hp, rfl, ?_⟩
      refine ⟨_, rfl, ?_⟩
      refine k _ _ ⟨ns, n, g / m, upd_same, by rw [upd_ne cp]; exact hc, n0, by omega⟩ (Kp.refl _ _).set (Int.emod_nonneg _ (by omega)) (Int.emod_lt_of_pos _ m0)
    · -- at = pen[1]; pen[1] = at + 1
      refine ⟨_, rfl, p, _, 1, .int n, rfl, rfl, SqL.of hp, rfl, ?_⟩
      refine ⟨_, rfl, _, _, rfl, rfl, _, rfl, p, _, 1, 1, rfl, rfl, hp, rfl, ?_⟩
      have hp1 : upd H p (.lst ([V.ref c, V.int n, V.int g].set 1 (.int (n + 1)))) p = some (.lst [V.ref c, V.int (n + 1), V.int g]) := upd_same
      have hc1 : upd H p (.lst ([V.ref c, V.int n, V.int g].set 1 (.int (n + 1)))) c = some (.lst (ns.map V.int)) := by rw [upd_ne cp]; exact hc
      have k1 : Kp p H (upd H p (.lst ([V.ref c, V.int n, V.int g].set 1 (.int (n + 1))))) := (Kp.refl _ _).set
      revert hp1 hc1 k1
      generalize upd H p (.lst ([V.ref c, V.int n, V.int g].set 1 (.int (n + 1)))) = H1
      intro hp1 hc1 k1
      -- cell = 45013 * at + 919
      refine ⟨_, rfl, _, _, rfl, rfl, .inl ⟨by decide, by decide⟩, _, _, rfl, rfl, ?_⟩
      -- if pen[0] != []: cell = pen[0][..]
      refine ⟨fun σ H2 => ∃ z : Int, σ = [some (.ref p), some (.int m), none, some (.int n), some (.int z), none, none] ∧ Same H1 H2, ?_, ?_⟩
      · refine ⟨_, rfl, p, _, 0, .ref c, rfl, rfl, SqL.of hp1, rfl, Nat.zero_le _, fun q nq => ?_⟩
        have s2 : Same H1 (upd H1 q (.lst [])) := same_new nq
        refine ⟨_, _, .lst (SqL.of (s2 _ _ hc1)) (dpAll_flat (flat_ints ns)), .lst (SqL.of upd_same) .nil, shaped_list (flat_ints ns), rfl, _, rfl, ite2 (fun e => ?_) (fun e => ?_)⟩
        · rw [eqv_nil] at e
          have ne : ns.map V.int ≠ [] := fun z => by
            rw [z] at e
            cases e
          obtain ⟨x, hx, hat⟩ := at_mod (n := n) ne
          obtain ⟨z, _, rfl⟩ := List.mem_map.mp hx
          refine ⟨_, rfl, p, _, 0, .ref c, rfl, rfl, SqL.of (s2 _ _ hp1), rfl, _, rfl, .inl ⟨_, rfl, _, rfl, p, _, 0, .ref c, rfl, rfl, SqL.of (s2 _ _ hp1), rfl, c, _, rfl, .inl (SqL.of (s2 _ _ hc1)), _, _, rfl, rfl, ?_, c, _, _, .int z, rfl, rfl, SqL.of (s2 _ _ hc1), hat, z, rfl, s2⟩⟩
          have := List.length_pos_iff.mpr ne
          omega
        · exact ⟨_, rfl, s2⟩
      · rintro σ H2 ⟨z, rfl, s2⟩
        have hc2 := s2 _ _ hc1
        have hp2 := s2 _ _ hp1
        have k2 : Kp p H H2 := k1.trans (Kp.same s2)
        -- if at < len(pen[0]) and abs(cell) >= 10 ** 18
        refine ⟨fun σ H3 => σ = [some (.ref p), some (.int m), none, some (.int n), some (.int z), none, none] ∧ H3 = H2, ?_, ?_⟩
        · refine ⟨_, rfl, _, rfl, p, _, 0, .ref c, rfl, rfl, SqL.of hp2, rfl, c, _, rfl, .inl (SqL.of hc2), _, _, rfl, rfl, _, rfl, ite2 (fun _ => ?_) (fun _ => iteF ⟨rfl, rfl⟩)⟩
          refine ⟨_, rfl, z, rfl, _, _, rfl, rfl, cpow18, _, _, rfl, rfl, _, rfl, ite2 (fun _ => ?_) (fun _ => ⟨rfl, rfl⟩)⟩
          refine ⟨_, rfl, z, rfl, _, _, rfl, rfl, cpow18, _, _, rfl, rfl, _, _, rfl, rfl, .inl ⟨by decide, by decide⟩, _, rfl, _, _, rfl, rfl, .inr ⟨_, rfl, _, _, rfl, rfl, ?_⟩⟩
          refine ⟨_, rfl, .inl ⟨_, rfl, _, rfl, _, _, rfl, rfl, many_div m0 m2, _, rfl, p, _, 2, 2, rfl, rfl, hp2, rfl, ?_⟩⟩
          refine ⟨_, rfl, .inl ⟨_, rfl, _, rfl, _, _, rfl, rfl, m0, ?_⟩⟩
          refine k _ _ ⟨ns, n + 1, _, upd_same, by rw [upd_ne cp]; exact hc2, by omega, by omega⟩ k2.set (Int.emod_nonneg _ (by omega)) (Int.emod_lt_of_pos _ m0)
        · rintro σ H3 ⟨rfl, rfl⟩
          have z0 := Int.emod_nonneg z (b := 2147483563) (by decide)
          have z1 := Int.emod_lt_of_pos z (b := 2147483563) (by decide)
          refine ⟨fun σ H4 => ∃ x : Int, 0 ≤ x ∧ x < 2147483647 ∧ σ = [some (.ref p), some (.int m), none, some (.int n), some (.int z), none, some (.int x)] ∧ H4 = H3, ?_, ?_⟩
          · refine ⟨_, rfl, .inl ⟨_, rfl, _, _, rfl, rfl, (show (0 : Int) < 2147483563 by decide), _, rfl, _, _, rfl, rfl, .inl ⟨by decide, by decide⟩, _, _, rfl, rfl, _, _, rfl, rfl, _, _, rfl, rfl, ⟨by decide, by decide, by omega⟩, .inl ⟨_, rfl, _, _, rfl, rfl, (show (0 : Int) < 2147483647 by decide), ?_⟩⟩⟩
            exact ⟨_, Int.emod_nonneg _ (by decide), Int.emod_lt_of_pos _ (by decide), rfl, rfl⟩
          · rintro σ H4 ⟨x, x0, x1, rfl, rfl⟩
            obtain ⟨y0, y1⟩ := mix_small n0 (show n ≤ 1000000 by omega) x0 x1
            refine ⟨_, rfl, _, rfl, _, _, rfl, rfl, .inl ⟨by decide, by decide⟩, _, _, rfl, rfl, _, _, rfl, rfl, .inl ⟨by omega, by omega⟩, _, rfl, _, _, rfl, rfl, .inl ⟨by decide, by decide⟩, _, rfl, _, _, rfl, rfl, .inr ⟨by omega, by omega⟩, _, _, rfl, rfl, _, _, rfl, rfl, _, _, rfl, rfl, ⟨by decide, by decide, by omega⟩, .inl ⟨_, rfl, _, _, rfl, rfl, (show (0 : Int) < 2147483587 by decide), ?_⟩⟩
            refine ⟨_, rfl, _, _, rfl, rfl, cdiv64, .inl ⟨_, rfl, _, rfl, _, _, rfl, rfl, m0, ?_⟩⟩
            exact k _ _ ⟨ns, n + 1, g, hp2, hc2, by omega, by omega⟩ k2 (Int.emod_nonneg _ (by omega)) (Int.emod_lt_of_pos _ m0)
theorem has_law_draw (Tx : Txt K mg) (c : He.SaysX fa fn [] tf ex w hh K) (X : K.In hh) (GG : hh.Ns mainGlobals mg)   : Has P w K mg base "_law_draw" 1 ["_law_pen_here", "_law_many"] sp_law_draw := by
  obtain ⟨fd, F⟩ := c.t.d.def_ 23 (d := d_law_draw) rfl
  exact ⟨_, fd, ok_law_draw F Tx , He.glo_ok X GG (c.t.d.fact 24 (f := .glo "_law_draw") rfl), F.kp, F.bindsN fun _ _ _ _ _ _ us hl => match us, hl with | [_, _], _ => rfl⟩
/-! ### the law's draws -/
theorem cut_ints (ns : List Int) (lo hi : Option Int) : ∃ ms : List Int, cutV (ns.map V.int) lo hi = ms.map V.int ∧ ms.length ≤ ns.length := by
  unfold cutV
  rw [← List.map_drop, ← List.map_take]
  refine ⟨_, rfl, ?_⟩
  rw [List.length_take, List.length_drop]
  omega
def sp_law_pen (K : PySem.W.Frag) : Sp := fun vs H Q _ => ∃ (a : Addr) (ns : List Int), vs = [.ref a] ∧ SqL K H a (ns.map V.int) ∧ ns.length ≤ 63 ∧ ∀ H' p c, Same H H' → H p = none → H c = none → PenAt H' p c 900000 → Q (.ref p) H'
theorem sc_law_pen : FnScope ["_law_script", "_law_cell"] ["_law_script"] (defScope s_law_pen) := ⟨rfl, rfl, rfl, by decide +kernel, rfl, by decide +kernel, by decide +kernel⟩
theorem ok_law_pen {f : Addr} {fd : FuncData} (F : FunD K "_law_pen" "_law_pen" (defArgs s_law_pen) (defBody s_law_pen) (defScope s_law_pen) [] [] f fd) (Tx : Txt K mg)   : FnOk P w K mg base CX0 1 f fd ["_law_script"] (sp_law_pen K) := by
  refine FunD.ok F sc_law_pen (fun vs H Q E h => ?_) (fun cdv A outer s H vs Q E hr h => ?_)
  · obtain ⟨a, ns, rfl, _⟩ := h
    rfl
  · obtain ⟨a, ns, rfl, ha, hl, q⟩ := h
    refine ⟨_, PSs.nox (pss_one (ps_ret (pe_lst (pa_cons (pe_lc (own := [("_law_cell", 1)]) (g := gName 1) (tt := tYes) rfl sc_law_pen.nd (pi_list (pe_slice sl_list (pv 0) po_none (po_some pe_int))) (blkOk_by (own := [("_law_cell", 1)]) (N := ["_law_script", "_law_cell"]) (sc := defScope s_law_pen) (by decide +kernel)) (fun _ _ _ _ _ => (pg_name (i := 1) sc_law_pen.nd rfl (Or.inl rfl))) (fun _ _ _ _ _ => pts_nil) (fun _ _ _ _ _ => (pe_callTy call_int1 (by rfl) Tx.n_int (by decide +kernel) (pa_cons (pv 1) pa_nil)))) (pa_cons pe_int (pa_cons pe_int pa_nil)))))), ?_⟩
    refine ⟨_, rfl, _, rfl, a, _, rfl, ha, fun c nc => ?_⟩
    obtain ⟨ms, em, lm⟩ := cut_ints ns none (some 58)
    have s1 : Same H (upd H c (.lst (cutV (ns.map V.int) none (some 58)))) := same_new nc
    refine ⟨c, rfl, ⟨_, SqL.of upd_same⟩, fun D nD => ?_⟩
    refine lc_pure (walk_list (K := K) (a := c) (xs := ms.map V.int)) (ms.map V.int) rfl (by rw [List.length_map]; omega) (fun i H x H' y => ⟨same_of_eq y.1, y.2⟩) (fun x => x) (fun _ => true) nD (fun H2 s => SqL.of (s _ _ (by rw [upd_same, em]))) (fun i x H2 Q1 Q0 hi s2 q1 q0 => ?_) (fun H2 s2 hD => ?_)
    · refine ⟨rfl, ?_⟩
      obtain ⟨z, _, rfl⟩ := List.mem_map.mp (List.mem_of_getElem? hi)
      exact ⟨_, rfl, .inl ⟨_, rfl, q1 rfl _ (Same.refl _)⟩⟩
    · rw [List.filter_eq_self.mpr fun _ _ => rfl, List.map_id'] at hD
      refine ⟨le_line (n := 3) (by decide), fun p np => ?_⟩
      have hp : H p = none := s1.free (s2.free np)
      have ne : D ≠ p := ne_of_none hD np
      refine q _ p D ((s1.trans s2).trans (same_new np)) hp (s1.free nD) ⟨ms, 0, 0, upd_same, ?_, by decide, by decide⟩
      rw [upd_ne ne]
      exact hD
theorem has_law_pen (Tx : Txt K mg) (c : He.SaysX fa fn [] tf ex w hh K) (X : K.In hh) (GG : hh.Ns mainGlobals mg)   : Has P w K mg base "_law_pen" 1 ["_law_script"] (sp_law_pen K) := by
  obtain ⟨fd, F⟩ := c.t.d.def_ 22 (d := d_law_pen) rfl
  exact ⟨_, fd, ok_law_pen F Tx , He.glo_ok X GG (c.t.d.fact 23 (f := .glo "_law_pen") rfl), F.kp, F.bindsN fun _ _ _ _ _ _ us hl => match us, hl with | [_], _ => rfl⟩

/-! ### picks, numbers, vectors -/
def sp_law_pick (K : PySem.W.Frag) : Sp := fun vs H Q _ => ∃ (p c a : Addr) (b : Nat) (xs : List V), vs = [.ref p, .ref a] ∧ PenAt H p c (b + 1) ∧ H a = some (.lst xs) ∧ a ≠ p ∧ xs ≠ [] ∧ xs.length ≤ 1000 ∧
  ∀ H' x, x ∈ xs → PenAt H' p c b → Kp p H H' → Q x H'
theorem lt200 {n : Nat} (h : n ≤ 1000) : (n : Int) < 2 ^ 200 := by
  have : (1000 : Int) < 2 ^ 200 := by decide
  omega
theorem sc_law_pick : FnScope ["_law_pen_here", "_law_some"] ["_law_pen_here", "_law_some"] (defScope s_law_pick) := ⟨rfl, rfl, rfl, by decide +kernel, rfl, by decide +kernel, by decide +kernel⟩
theorem ok_law_pick {f : Addr} {fd : FuncData} (F : FunD K "_law_pick" "_law_pick" (defArgs s_law_pick) (defBody s_law_pick) (defScope s_law_pick) [] [] f fd) (Tx : Txt K mg) (h_law_draw : Has P w K mg base "_law_draw" 1 ["_law_pen_here", "_law_many"] sp_law_draw)  : FnOk P w K mg base CX0 2 f fd ["_law_pen_here", "_law_some"] (sp_law_pick K) := by
  obtain ⟨f_law_draw, fd_law_draw, G_law_draw, g_law_draw, k_law_draw, b_law_draw⟩ := h_law_draw
  refine FunD.ok F sc_law_pick (fun vs H Q E h => ?_) (fun cdv A outer s H vs Q E hr h => ?_)
  · obtain ⟨p, c, a, b, xs, rfl, _⟩ := h
    rfl
  · obtain ⟨p, c, a, b, xs, rfl, hp, ha, nap, hne, hl, q⟩ := h
    have lp : 0 < xs.length := List.length_pos_iff.mpr hne
    refine ⟨_, PSs.nox (pss_one (ps_ret (pe_ix ix_list (pv 1) (pe_call G_law_draw (hr.mono (by decide)) (by rfl) g_law_draw k_law_draw b_law_draw .nil pass0 (pa_cons (pv 0) (pa_cons (pe_callB call_len_seq (by rfl) Tx.n_len (by decide +kernel) (pa_cons (pv 1) pa_nil)) pa_nil))) (fun _ _ => rfl)))), ?_⟩
    refine ⟨_, rfl, _, rfl, _, rfl, a, _, rfl, .inl (SqL.of ha), p, c, _, b, rfl, hp, by omega, lt200 hl, fun H1 d h1 k1 d0 d1 => ?_⟩
    obtain ⟨x, hx, hat⟩ := at_in d0 d1
    exact ⟨a, _, d, x, rfl, rfl, SqL.of (k1 _ _ nap ha), hat, q _ x hx h1 k1⟩
theorem has_law_pick (Tx : Txt K mg) (c : He.SaysX fa fn [] tf ex w hh K) (X : K.In hh) (GG : hh.Ns mainGlobals mg) (h_law_draw : Has P w K mg base "_law_draw" 1 ["_law_pen_here", "_law_many"] sp_law_draw)  : Has P w K mg base "_law_pick" 2 ["_law_pen_here", "_law_some"] (sp_law_pick K) := by
  obtain ⟨fd, F⟩ := c.t.d.def_ 24 (d := d_law_pick) rfl
  exact ⟨_, fd, ok_law_pick F Tx h_law_draw, He.glo_ok X GG (c.t.d.fact 25 (f := .glo "_law_pick") rfl), F.kp, F.bindsN fun _ _ _ _ _ _ us hl => match us, hl with | [_, _], _ => rfl⟩
def sp_law_number : Sp := fun vs H Q _ => ∃ (p c : Addr) (b : Nat), vs = [.ref p] ∧ PenAt H p c (b + 2) ∧ ∀ H' i, Wi 70 i → PenAt H' p c b → Kp p H H' → Q (.int i) H'
theorem wi70 {i : Int} (h0 : -100000000000000000000 ≤ i) (h1 : i ≤ 100000000000000000000) : Wi 70 i := by
  unfold Wi
  have : (2 : Nat) ^ 70 = 1180591620717411303424 := by decide
  omega
theorem sc_law_number : FnScope ["_law_pen_here"] ["_law_pen_here"] (defScope s_law_number) := ⟨rfl, rfl, rfl, by decide +kernel, rfl, by decide +kernel, by decide +kernel⟩
theorem ok_law_number {f : Addr} {fd : FuncData} (F : FunD K "_law_number" "_law_number" (defArgs s_law_number) (defBody s_law_number) (defScope s_law_number) [] [] f fd) (Tx : Txt K mg) (h_law_draw : Has P w K mg base "_law_draw" 1 ["_law_pen_here", "_law_many"] sp_law_draw)  : FnOk P w K mg base CX0 2 f fd ["_law_pen_here"] sp_law_number := by
  obtain ⟨f_law_draw, fd_law_draw, G_law_draw, g_law_draw, k_law_draw, b_law_draw⟩ := h_law_draw
  refine FunD.ok F sc_law_number (fun vs H Q E h => ?_) (fun cdv A outer s H vs Q E hr h => ?_)
  · obtain ⟨p, c, b, rfl, _⟩ := h
    rfl
  · obtain ⟨p, c, b, rfl, hp, q⟩ := h
    refine ⟨_, PSs.nox (pss_cons (ps_if (pt_cmpR op_eq (pe_call G_law_draw (hr.mono (by decide)) (by rfl) g_law_draw k_law_draw b_law_draw .nil pass0 (pa_cons (pv 0) (pa_cons pe_int pa_nil))) pe_int (nomark _)) (pss_one (ps_ret (pe_op op_sub (pe_call G_law_draw (hr.mono (by decide)) (by rfl) g_law_draw k_law_draw b_law_draw .nil pass0 (pa_cons (pv 0) (pa_cons (pe_op op_mulW pe_int (pe_op op_pow pe_int pe_int)) pa_nil))) (pe_op op_pow pe_int pe_int)))) pss_nil)
        (pss_one (ps_ret (pe_op op_sub (pe_call G_law_draw (hr.mono (by decide)) (by rfl) g_law_draw k_law_draw b_law_draw .nil pass0 (pa_cons (pv 0) (pa_cons pe_int pa_nil))) pe_int)))), ?_⟩
    refine ⟨_, rfl, p, c, 6, b + 1, rfl, hp, by decide, by decide, fun H1 d h1 k1 d0 d1 => ?_⟩
    refine ⟨rfl, _, rfl, ite2 (fun _ => ?_) (fun _ => ?_)⟩
    · refine ⟨_, rfl, _, _, rfl, rfl, ⟨by decide, by decide, by decide⟩, _, _, rfl, rfl, Wi.cm (m := 2) (n := 70) (by unfold Wi; decide) (by unfold Wi; decide), p, c, _, b, rfl, h1, by decide, by decide, fun H2 d2 h2 k2 e0 e1 => ?_⟩
      have e2 : d2 < 200000000000000000000 := e1
      exact ⟨_, _, rfl, rfl, ⟨by decide, by decide, by decide⟩, _, _, rfl, rfl, q _ _ (wi70 (show -100000000000000000000 ≤ d2 - 100000000000000000000 by omega) (show d2 - 100000000000000000000 ≤ 100000000000000000000 by omega)) h2 (k1.trans k2)⟩
    · refine ⟨_, rfl, p, c, 15, b, rfl, h1, by decide, by decide, fun H2 d2 h2 k2 e0 e1 => ?_⟩
      exact ⟨_, _, rfl, rfl, q _ _ (wi70 (by omega) (by omega)) h2 (k1.trans k2)⟩
theorem has_law_number (Tx : Txt K mg) (c : He.SaysX fa fn [] tf ex w hh K) (X : K.In hh) (GG : hh.Ns mainGlobals mg) (h_law_draw : Has P w K mg base "_law_draw" 1 ["_law_pen_here", "_law_many"] sp_law_draw)  : Has P w K mg base "_law_number" 2 ["_law_pen_here"] sp_law_number := by
  obtain ⟨fd, F⟩ := c.t.d.def_ 25 (d := d_law_number) rfl
  exact ⟨_, fd, ok_law_number F Tx h_law_draw, He.glo_ok X GG (c.t.d.fact 26 (f := .glo "_law_number") rfl), F.kp, F.bindsN fun _ _ _ _ _ _ us hl => match us, hl with | [_], _ => rfl⟩
def sp_law_vector (K : PySem.W.Frag) : Sp := fun vs H Q _ => ∃ (p c : Addr) (b : Nat), vs = [.ref p] ∧ PenAt H p c (b + 4) ∧ ∀ H' t v, Sm 70 v → PenAt H' p c b → Kp p H H' → H' t = some (.tup [.int v.1, .int v.2]) → Q (.ref t) H'
theorem sc_law_vector : FnScope ["_law_pen_here"] ["_law_pen_here"] (defScope s_law_vector) := ⟨rfl, rfl, rfl, by decide +kernel, rfl, by decide +kernel, by decide +kernel⟩
theorem ok_law_vector {f : Addr} {fd : FuncData} (F : FunD K "_law_vector" "_law_vector" (defArgs s_law_vector) (defBody s_law_vector) (defScope s_law_vector) [] [] f fd) (Tx : Txt K mg) (h_law_number : Has P w K mg base "_law_number" 2 ["_law_pen_here"] sp_law_number)  : FnOk P w K mg base CX0 3 f fd ["_law_pen_here"] (sp_law_vector K) := by
  obtain ⟨f_law_number, fd_law_number, G_law_number, g_law_number, k_law_number, b_law_number⟩ := h_law_number
  refine FunD.ok F sc_law_vector (fun vs H Q E h => ?_) (fun cdv A outer s H vs Q E hr h => ?_)
  · obtain ⟨p, c, b, rfl, _⟩ := h
    rfl
  · obtain ⟨p, c, b, rfl, hp, q⟩ := h
    refine ⟨_, PSs.nox (pss_one (ps_ret (pe_tup (pa_cons (pe_call G_law_number (hr.mono (by decide)) (by rfl) g_law_number k_law_number b_law_number .nil pass0 (pa_cons (pv 0) pa_nil)) (pa_cons (pe_call G_law_number (hr.mono (by decide)) (by rfl) g_law_number k_law_number b_law_number .nil pass0 (pa_cons (pv 0) pa_nil)) pa_nil))))), ?_⟩
    refine ⟨_, rfl, p, c, b + 2, rfl, hp, fun H1 i wi h1 k1 => ?_⟩
    refine ⟨_, rfl, p, c, b, rfl, h1, fun H2 j wj h2 k2 => ?_⟩
    refine ⟨le_line (n := 2) (by decide), fun t nt => ?_⟩
    exact q _ t (i, j) ⟨wi, wj⟩ (h2.same (same_new nt)) ((k1.trans k2).trans (Kp.same (same_new nt))) upd_same
theorem has_law_vector (Tx : Txt K mg) (c : He.SaysX fa fn [] tf ex w hh K) (X : K.In hh) (GG : hh.Ns mainGlobals mg) (h_law_number : Has P w K mg base "_law_number" 2 ["_law_pen_here"] sp_law_number)  : Has P w K mg base "_law_vector" 3 ["_law_pen_here"] (sp_law_vector K) := by
  obtain ⟨fd, F⟩ := c.t.d.def_ 26 (d := d_law_vector) rfl
  exact ⟨_, fd, ok_law_vector F Tx h_law_number, He.glo_ok X GG (c.t.d.fact 27 (f := .glo "_law_vector") rfl), F.kp, F.bindsN fun _ _ _ _ _ _ us hl => match us, hl with | [_], _ => rfl⟩

end
end K47

namespace K47
open PySem PySem.Spec PyProof.Rows L2 Vf LamX
section
variable {hh : Heap} {P : Program} {w : World} {K : PySem.W.Frag} {mg : Str → Option Value} {base : Heap}
/-! ### the law's own reckoning -/
/-- the kind and its turn -/
def KT (z : Str) (t : Int) : Prop := (z = "square" ∧ t = 4) ∨ (z = "triangle" ∧ t = 3)
def wideF (t : Int) (p : Int × Int) : Int × Int := if t = 4 then p else (2 * p.1 + p.2, p.2)
def normF (t : Int) (p : Int × Int) : Int := if t = 4 then (wideF t p).1 * (wideF t p).1 + (wideF t p).2 * (wideF t p).2 else ((wideF t p).1 * (wideF t p).1 + 3 * (wideF t p).2 * (wideF t p).2) / 4
def narF (t : Int) (x y : Int) : Int × Int := if t = 4 then (x, y) else ((x - y) / 2, y)
def timF (t : Int) (p q : Int × Int) : Int × Int := if t = 4 then ((wideF t p).1 * (wideF t q).1 - (wideF t p).2 * (wideF t q).2, (wideF t p).1 * (wideF t q).2 + (wideF t p).2 * (wideF t q).1) else
  narF t (((wideF t p).1 * (wideF t q).1 - 3 * (wideF t p).2 * (wideF t q).2) / 2) (((wideF t p).1 * (wideF t q).2 + (wideF t p).2 * (wideF t q).1) / 2)
def mirF (t : Int) (p : Int × Int) : Int × Int := narF t (wideF t p).1 (-(wideF t p).2)
theorem Sm.le {m n : Nat} {p : Int × Int} (h : Sm m p) (l : m ≤ n) : Sm n p := ⟨h.1.le l, h.2.le l⟩
theorem ne4 {t : Int} (h : ¬ t = 4) : (t == 4) = false := by simpa using h
theorem eq4 {t : Int} (h : t = 4) : (t == 4) = true := by simpa using h
abbrev Tp (H : Hp) (a : Addr) (p : Int × Int) : Prop := H a = some (.tup [.int p.1, .int p.2])
def sp_law_wide (K : PySem.W.Frag) : Sp := fun vs H Q _ => ∃ (t : Int) (a : Addr) (p : Int × Int), vs = [.int t, .ref a] ∧ Tp H a p ∧ Sm 395 p ∧ ∀ H' r, Same H H' → Tp H' r (wideF t p) → Q (.ref r) H'
theorem sc_law_wide : FnScope ["_law_turn", "_law_vector_here"] ["_law_turn", "_law_vector_here"] (defScope s_law_wide) := ⟨rfl, rfl, rfl, by decide +kernel, rfl, by decide +kernel, by decide +kernel⟩
theorem ok_law_wide {f : Addr} {fd : FuncData} (F : FunD K "_law_wide" "_law_wide" (defArgs s_law_wide) (defBody s_law_wide) (defScope s_law_wide) [] [] f fd) (Tx : Txt K mg)   : FnOk P w K mg base CX0 1 f fd ["_law_turn", "_law_vector_here"] (sp_law_wide K) := by
  refine FunD.ok F sc_law_wide (fun vs H Q E h => ?_) (fun cdv A outer s H vs Q E hr h => ?_)
  · obtain ⟨t, a, p, rfl, _⟩ := h
    rfl
  · obtain ⟨t, a, p, rfl, ha, hs, q⟩ := h
    refine ⟨_, PSs.nox (pss_one (ps_ret (pe_ifExp (pt_cmpR op_eq (pv 0) pe_int (nomark _)) (pv 1) (pe_tup (pa_cons (pe_op op_add (pe_op op_mulW pe_int (pe_ix ix_tup (pv 1) pe_int (fun _ _ => rfl))) (pe_ix ix_tup (pv 1) pe_int (fun _ _ => rfl))) (pa_cons (pe_ix ix_tup (pv 1) pe_int (fun _ _ => rfl)) pa_nil)))))), ?_⟩
    have hD : CMulW 2 p.1 := Wi.cm (m := 2) (by unfold Wi; decide) hs.1
    refine ⟨_, rfl, rfl, _, rfl, ?_⟩
    rw [dec_int]
    unfold wideF at q
    by_cases e : t = 4
    · rw [if_pos e] at q
      rw [eq4 e]
      exact iteT ⟨_, rfl, q _ a (Same.refl _) ha⟩
    · rw [if_neg e] at q
      rw [ne4 e]
      refine iteF ⟨_, rfl, a, _, _, _, rfl, rfl, SqT.of ha, rfl, _, _, rfl, rfl, hD, _, rfl, a, _, _, _, rfl, rfl, SqT.of ha, rfl, _, _, rfl, rfl, _, rfl, a, _, _, _, rfl, rfl, SqT.of ha, rfl, le_line (n := 2) (by decide), fun r nr => ?_⟩
      exact q _ r (same_new nr) upd_same
theorem has_law_wide (Tx : Txt K mg) (c : He.SaysX fa fn [] tf ex w hh K) (X : K.In hh) (GG : hh.Ns mainGlobals mg)   : Has P w K mg base "_law_wide" 1 ["_law_turn", "_law_vector_here"] (sp_law_wide K) := by
  obtain ⟨fd, F⟩ := c.t.d.def_ 27 (d := d_law_wide) rfl
  exact ⟨_, fd, ok_law_wide F Tx , He.glo_ok X GG (c.t.d.fact 28 (f := .glo "_law_wide") rfl), F.kp, F.bindsN fun _ _ _ _ _ _ us hl => match us, hl with | [_, _], _ => rfl⟩
theorem wide_sm {n : Nat} {t : Int} {p : Int × Int} (h : Sm n p) : Sm (n + 2) (wideF t p) := by
  unfold wideF
  split
  · exact ⟨h.1.le (by omega), h.2.le (by omega)⟩
  · refine ⟨?_, h.2.le (by omega)⟩
    rw [Int.two_mul]
    exact ((h.1.add h.1).add (h.2.le (by omega)))
theorem wi3 {n : Nat} {i : Int} (h : Wi n i) : Wi (n + 2) (3 * i) := by
  have e : 3 * i = (i + i) + i := by omega
  rw [e]
  exact (h.add h).add (h.le (by omega))
def sp_law_norm (K : PySem.W.Frag) : Sp := fun vs H Q _ => ∃ (t : Int) (a : Addr) (p : Int × Int), vs = [.int t, .ref a] ∧ Tp H a p ∧ Sm 390 p ∧ ∀ H', Same H H' → Q (.int (normF t p)) H'
theorem sc_law_norm : FnScope ["_law_turn", "_law_vector_here", "_law_x", "_law_y"] ["_law_turn", "_law_vector_here"] (defScope s_law_norm) := ⟨rfl, rfl, rfl, by decide +kernel, rfl, by decide +kernel, by decide +kernel⟩
theorem ok_law_norm {f : Addr} {fd : FuncData} (F : FunD K "_law_norm" "_law_norm" (defArgs s_law_norm) (defBody s_law_norm) (defScope s_law_norm) [] [] f fd) (Tx : Txt K mg) (h_law_wide : Has P w K mg base "_law_wide" 1 ["_law_turn", "_law_vector_here"] (sp_law_wide K))  : FnOk P w K mg base CX0 2 f fd ["_law_turn", "_law_vector_here"] (sp_law_norm K) := by
  obtain ⟨f_law_wide, fd_law_wide, G_law_wide, g_law_wide, k_law_wide, b_law_wide⟩ := h_law_wide
  refine FunD.ok F sc_law_norm (fun vs H Q E h => ?_) (fun cdv A outer s H vs Q E hr h => ?_)
  · obtain ⟨t, a, p, rfl, _⟩ := h
    rfl
  · obtain ⟨t, a, p, rfl, ha, hs, q⟩ := h
    refine ⟨_, PSs.nox (pss_cons (ps_asg (pe_call G_law_wide (hr.mono (by decide)) (by rfl) g_law_wide k_law_wide b_law_wide .nil pass0 (pa_cons (pv 0) (pa_cons (pv 1) pa_nil))) (pg_tup (by rfl) (pgs_cons (pg_name (i := 2) sc_law_norm.nd rfl (Or.inl rfl)) (pgs_cons (pg_name (i := 3) sc_law_norm.nd rfl (Or.inl rfl)) pgs_nil))))
        (pss_one (ps_ret (pe_ifExp (pt_cmpR op_eq (pv 0) pe_int (nomark _)) (pe_op op_add (pe_op op_mulW (pv 2) (pv 2)) (pe_op op_mulW (pv 3) (pv 3))) (pe_op op_fdiv (pe_op op_add (pe_op op_mulW (pv 2) (pv 2)) (pe_op op_mulW (pe_op op_mulW pe_int (pv 3)) (pv 3))) pe_int))))), ?_⟩
    refine ⟨_, rfl, _, rfl, t, a, p, rfl, ha, hs.le (by decide), fun H1 r s1 e1 => ?_⟩
    have ws := wide_sm (t := t) hs
    have q2 := q _ s1
    unfold normF at q2
    generalize wideF t p = w at *
    refine ⟨_, _, rfl, SqT.of e1, rfl, _, _, rfl, _, _, rfl, rfl, ?_⟩
    refine ⟨_, rfl, rfl, _, rfl, ?_⟩
    rw [dec_int]
    have hA : CMulW w.1 w.1 := ws.1.cm ws.1
    have hB : CMulW w.2 w.2 := ws.2.cm ws.2
    have hC : CMulW (3 * w.2) w.2 := (wi3 ws.2).cm ws.2
    have hD : CMulW 3 w.2 := Wi.cm (m := 2) (by unfold Wi; decide) ws.2
    by_cases e : t = 4
    · rw [if_pos e] at q2
      rw [eq4 e]
      exact iteT ⟨_, rfl, _, rfl, _, _, rfl, rfl, hA, _, rfl, _, rfl, _, _, rfl, rfl, hB, _, _, rfl, rfl, q2⟩
    · rw [if_neg e] at q2
      rw [ne4 e]
      exact iteF ⟨_, rfl, _, rfl, _, _, rfl, rfl, hA, _, rfl, _, _, rfl, rfl, hD, _, rfl, _, _, rfl, rfl, hC, _, _, rfl, rfl, _, _, rfl, rfl, ⟨by decide, by decide⟩, q2⟩
theorem has_law_norm (Tx : Txt K mg) (c : He.SaysX fa fn [] tf ex w hh K) (X : K.In hh) (GG : hh.Ns mainGlobals mg) (h_law_wide : Has P w K mg base "_law_wide" 1 ["_law_turn", "_law_vector_here"] (sp_law_wide K))  : Has P w K mg base "_law_norm" 2 ["_law_turn", "_law_vector_here"] (sp_law_norm K) := by
  obtain ⟨fd, F⟩ := c.t.d.def_ 28 (d := d_law_norm) rfl
  exact ⟨_, fd, ok_law_norm F Tx h_law_wide, He.glo_ok X GG (c.t.d.fact 29 (f := .glo "_law_norm") rfl), F.kp, F.bindsN fun _ _ _ _ _ _ us hl => match us, hl with | [_, _], _ => rfl⟩
def sp_law_narrow (K : PySem.W.Frag) : Sp := fun vs H Q _ => ∃ (t x y : Int), vs = [.int t, .int x, .int y] ∧ ∀ H' r, Same H H' → H r = none → Tp H' r (narF t x y) → Q (.ref r) H'
theorem sc_law_narrow : FnScope ["_law_turn", "_law_x", "_law_y"] ["_law_turn", "_law_x", "_law_y"] (defScope s_law_narrow) := ⟨rfl, rfl, rfl, by decide +kernel, rfl, by decide +kernel, by decide +kernel⟩
theorem ok_law_narrow {f : Addr} {fd : FuncData} (F : FunD K "_law_narrow" "_law_narrow" (defArgs s_law_narrow) (defBody s_law_narrow) (defScope s_law_narrow) [] [] f fd) (Tx : Txt K mg)   : FnOk P w K mg base CX0 1 f fd ["_law_turn", "_law_x", "_law_y"] (sp_law_narrow K) := by
  refine FunD.ok F sc_law_narrow (fun vs H Q E h => ?_) (fun cdv A outer s H vs Q E hr h => ?_)
  · obtain ⟨t, x, y, rfl, _⟩ := h
    rfl
  · obtain ⟨t, x, y, rfl, q⟩ := h
    refine ⟨_, PSs.nox (pss_one (ps_ret (pe_ifExp (pt_cmpR op_eq (pv 0) pe_int (nomark _)) (pe_tup (pa_cons (pv 1) (pa_cons (pv 2) pa_nil))) (pe_tup (pa_cons (pe_op op_fdiv (pe_op op_sub (pv 1) (pv 2)) pe_int) (pa_cons (pv 2) pa_nil)))))), ?_⟩
    refine ⟨_, rfl, rfl, _, rfl, ?_⟩
    rw [dec_int]
    unfold narF at q
    by_cases e : t = 4
    · rw [if_pos e] at q
      rw [eq4 e]
      exact iteT ⟨_, rfl, _, rfl, le_line (n := 2) (by decide), fun r nr => q _ r (same_new nr) nr upd_same⟩
    · rw [if_neg e] at q
      rw [ne4 e]
      exact iteF ⟨_, rfl, _, rfl, _, _, rfl, rfl, _, _, rfl, rfl, ⟨by decide, by decide⟩, _, rfl, le_line (n := 2) (by decide), fun r nr => q _ r (same_new nr) nr upd_same⟩
theorem has_law_narrow (Tx : Txt K mg) (c : He.SaysX fa fn [] tf ex w hh K) (X : K.In hh) (GG : hh.Ns mainGlobals mg)   : Has P w K mg base "_law_narrow" 1 ["_law_turn", "_law_x", "_law_y"] (sp_law_narrow K) := by
  obtain ⟨fd, F⟩ := c.t.d.def_ 29 (d := d_law_narrow) rfl
  exact ⟨_, fd, ok_law_narrow F Tx , He.glo_ok X GG (c.t.d.fact 30 (f := .glo "_law_narrow") rfl), F.kp, F.bindsN fun _ _ _ _ _ _ us hl => match us, hl with | [_, _, _], _ => rfl⟩
def sp_law_times (K : PySem.W.Frag) : Sp := fun vs H Q _ => ∃ (t : Int) (a a2 : Addr) (p p2 : Int × Int), vs = [.int t, .ref a, .ref a2] ∧ Tp H a p ∧ Tp H a2 p2 ∧ Sm 390 p ∧ Sm 390 p2 ∧ ∀ H' r, Same H H' → H r = none → Tp H' r (timF t p p2) → Q (.ref r) H'
theorem sc_law_times : FnScope ["_law_turn", "_law_one", "_law_other", "_law_x", "_law_y", "_law_u", "_law_v"] ["_law_turn", "_law_one", "_law_other"] (defScope s_law_times) := ⟨rfl, rfl, rfl, by decide +kernel, rfl, by decide +kernel, by decide +kernel⟩
theorem ok_law_times {f : Addr} {fd : FuncData} (F : FunD K "_law_times" "_law_times" (defArgs s_law_times) (defBody s_law_times) (defScope s_law_times) [] [] f fd) (Tx : Txt K mg) (h_law_wide : Has P w K mg base "_law_wide" 1 ["_law_turn", "_law_vector_here"] (sp_law_wide K)) (h_law_narrow : Has P w K mg base "_law_narrow" 1 ["_law_turn", "_law_x", "_law_y"] (sp_law_narrow K))  : FnOk P w K mg base CX0 2 f fd ["_law_turn", "_law_one", "_law_other"] (sp_law_times K) := by
  obtain ⟨f_law_wide, fd_law_wide, G_law_wide, g_law_wide, k_law_wide, b_law_wide⟩ := h_law_wide
  obtain ⟨f_law_narrow, fd_law_narrow, G_law_narrow, g_law_narrow, k_law_narrow, b_law_narrow⟩ := h_law_narrow
  refine FunD.ok F sc_law_times (fun vs H Q E h => ?_) (fun cdv A outer s H vs Q E hr h => ?_)
  · obtain ⟨t, a, a2, p, p2, rfl, _⟩ := h
    rfl
  · obtain ⟨t, a, a2, p, p2, rfl, ha, ha2, hs, hs2, q⟩ := h
    refine ⟨_, PSs.nox (pss_cons (ps_asg (pe_tup (pa_cons (pe_call G_law_wide (hr.mono (by decide)) (by rfl) g_law_wide k_law_wide b_law_wide .nil pass0 (pa_cons (pv 0) (pa_cons (pv 1) pa_nil))) (pa_cons (pe_call G_law_wide (hr.mono (by decide)) (by rfl) g_law_wide k_law_wide b_law_wide .nil pass0 (pa_cons (pv 0) (pa_cons (pv 2) pa_nil))) pa_nil))) (pg_tup (by rfl) (pgs_cons (pg_tup (by rfl) (pgs_cons (pg_name (i := 3) sc_law_times.nd rfl (Or.inl rfl)) (pgs_cons (pg_name (i := 4) sc_law_times.nd rfl (Or.inl rfl)) pgs_nil))) (pgs_cons (pg_tup (by rfl) (pgs_cons (pg_name (i := 5) sc_law_times.nd rfl (Or.inl rfl)) (pgs_cons (pg_name (i := 6) sc_law_times.nd rfl (Or.inl rfl)) pgs_nil))) pgs_nil))))
        (pss_cons (ps_if (pt_cmpR op_eq (pv 0) pe_int (nomark _)) (pss_one (ps_ret (pe_tup (pa_cons (pe_op op_sub (pe_op op_mulW (pv 3) (pv 5)) (pe_op op_mulW (pv 4) (pv 6))) (pa_cons (pe_op op_add (pe_op op_mulW (pv 3) (pv 6)) (pe_op op_mulW (pv 4) (pv 5))) pa_nil))))) pss_nil)
        (pss_one (ps_ret (pe_call G_law_narrow (hr.mono (by decide)) (by rfl) g_law_narrow k_law_narrow b_law_narrow .nil pass0 (pa_cons (pv 0) (pa_cons (pe_op op_fdiv (pe_op op_sub (pe_op op_mulW (pv 3) (pv 5)) (pe_op op_mulW (pe_op op_mulW pe_int (pv 4)) (pv 6))) pe_int) (pa_cons (pe_op op_fdiv (pe_op op_add (pe_op op_mulW (pv 3) (pv 6)) (pe_op op_mulW (pv 4) (pv 5))) pe_int) pa_nil)))))))), ?_⟩
    refine ⟨_, rfl, _, rfl, t, a, p, rfl, ha, hs.le (by decide), fun H1 r1 s1 e1 => ?_⟩
    refine ⟨_, rfl, _, rfl, t, a2, p2, rfl, s1 _ _ ha2, hs2.le (by decide), fun H2 r2 s2 e2 => ?_⟩
    have ws := wide_sm (t := t) hs
    have ws2 := wide_sm (t := t) hs2
    unfold timF at q
    have e1' := s2 _ _ e1
    generalize wideF t p = w at *
    generalize wideF t p2 = w2 at *
    refine ⟨le_line (n := 2) (by decide), fun T nT => ?_⟩
    have sT := same_new (o := .tup [.ref r1, .ref r2]) nT
    refine ⟨_, _, rfl, SqT.of upd_same, rfl, _, _, rfl, _, _, rfl, SqT.of (sT _ _ e1'), rfl, _, _, rfl, _, _, rfl, rfl, _, _, rfl, _, _, rfl, SqT.of (sT _ _ e2), rfl, _, _, rfl, _, _, rfl, rfl, rfl, ?_⟩
    have s12 := (s1.trans s2).trans sT
    refine ⟨_, rfl, rfl, _, rfl, ?_⟩
    rw [dec_int]
    have h11 : CMulW w.1 w2.1 := ws.1.cm ws2.1
    have h12 : CMulW w.1 w2.2 := ws.1.cm ws2.2
    have h21 : CMulW w.2 w2.1 := ws.2.cm ws2.1
    have h22 : CMulW w.2 w2.2 := ws.2.cm ws2.2
    have h3 : CMulW (3 * w.2) w2.2 := (wi3 ws.2).cm ws2.2
    have hD : CMulW 3 w.2 := Wi.cm (m := 2) (by unfold Wi; decide) ws.2
    by_cases e : t = 4
    · rw [if_pos e] at q
      rw [eq4 e]
      refine iteT ⟨_, rfl, _, rfl, _, _, rfl, rfl, h11, _, rfl, _, rfl, _, _, rfl, rfl, h22, _, _, rfl, rfl, _, rfl, _, rfl, _, _, rfl, rfl, h12, _, rfl, _, rfl, _, _, rfl, rfl, h21, _, _, rfl, rfl, le_line (n := 2) (by decide), fun r nr => ?_⟩
      exact q _ r (s12.trans (same_new nr)) (s12.free nr) upd_same
    · rw [if_neg e] at q
      rw [ne4 e]
      refine iteF ⟨_, rfl, _, rfl, _, rfl, _, _, rfl, rfl, h11, _, rfl, _, _, rfl, rfl, hD, _, rfl, _, _, rfl, rfl, h3, _, _, rfl, rfl, _, _, rfl, rfl, ⟨by decide, by decide⟩, _, rfl, _, rfl, _, _, rfl, rfl, h12, _, rfl, _, rfl, _, _, rfl, rfl, h21, _, _, rfl, rfl, _, _, rfl, rfl, ⟨by decide, by decide⟩, t, _, _, rfl, fun H3 r s3 n3 e3 => ?_⟩
      exact q _ r (s12.trans s3) (s12.free n3) e3
theorem has_law_times (Tx : Txt K mg) (c : He.SaysX fa fn [] tf ex w hh K) (X : K.In hh) (GG : hh.Ns mainGlobals mg) (h_law_wide : Has P w K mg base "_law_wide" 1 ["_law_turn", "_law_vector_here"] (sp_law_wide K)) (h_law_narrow : Has P w K mg base "_law_narrow" 1 ["_law_turn", "_law_x", "_law_y"] (sp_law_narrow K))  : Has P w K mg base "_law_times" 2 ["_law_turn", "_law_one", "_law_other"] (sp_law_times K) := by
  obtain ⟨fd, F⟩ := c.t.d.def_ 30 (d := d_law_times) rfl
  exact ⟨_, fd, ok_law_times F Tx h_law_wide h_law_narrow, He.glo_ok X GG (c.t.d.fact 31 (f := .glo "_law_times") rfl), F.kp, F.bindsN fun _ _ _ _ _ _ us hl => match us, hl with | [_, _, _], _ => rfl⟩
def sp_law_mirror (K : PySem.W.Frag) : Sp := fun vs H Q _ => ∃ (t : Int) (a : Addr) (p : Int × Int), vs = [.int t, .ref a] ∧ Tp H a p ∧ Sm 390 p ∧ ∀ H' r, Same H H' → H r = none → Tp H' r (mirF t p) → Q (.ref r) H'
theorem sc_law_mirror : FnScope ["_law_turn", "_law_vector_here", "_law_x", "_law_y"] ["_law_turn", "_law_vector_here"] (defScope s_law_mirror) := ⟨rfl, rfl, rfl, by decide +kernel, rfl, by decide +kernel, by decide +kernel⟩
theorem ok_law_mirror {f : Addr} {fd : FuncData} (F : FunD K "_law_mirror" "_law_mirror" (defArgs s_law_mirror) (defBody s_law_mirror) (defScope s_law_mirror) [] [] f fd) (Tx : Txt K mg) (h_law_wide : Has P w K mg base "_law_wide" 1 ["_law_turn", "_law_vector_here"] (sp_law_wide K)) (h_law_narrow : Has P w K mg base "_law_narrow" 1 ["_law_turn", "_law_x", "_law_y"] (sp_law_narrow K))  : FnOk P w K mg base CX0 2 f fd ["_law_turn", "_law_vector_here"] (sp_law_mirror K) := by
  obtain ⟨f_law_wide, fd_law_wide, G_law_wide, g_law_wide, k_law_wide, b_law_wide⟩ := h_law_wide
  obtain ⟨f_law_narrow, fd_law_narrow, G_law_narrow, g_law_narrow, k_law_narrow, b_law_narrow⟩ := h_law_narrow
  refine FunD.ok F sc_law_mirror (fun vs H Q E h => ?_) (fun cdv A outer s H vs Q E hr h => ?_)
  · obtain ⟨t, a, p, rfl, _⟩ := h
    rfl
  · obtain ⟨t, a, p, rfl, ha, hs, q⟩ := h
    refine ⟨_, PSs.nox (pss_cons (ps_asg (pe_call G_law_wide (hr.mono (by decide)) (by rfl) g_law_wide k_law_wide b_law_wide .nil pass0 (pa_cons (pv 0) (pa_cons (pv 1) pa_nil))) (pg_tup (by rfl) (pgs_cons (pg_name (i := 2) sc_law_mirror.nd rfl (Or.inl rfl)) (pgs_cons (pg_name (i := 3) sc_law_mirror.nd rfl (Or.inl rfl)) pgs_nil))))
        (pss_one (ps_ret (pe_call G_law_narrow (hr.mono (by decide)) (by rfl) g_law_narrow k_law_narrow b_law_narrow .nil pass0 (pa_cons (pv 0) (pa_cons (pv 2) (pa_cons (pe_un un_neg (pv 3)) pa_nil))))))), ?_⟩
    refine ⟨_, rfl, _, rfl, t, a, p, rfl, ha, hs.le (by decide), fun H1 r1 s1 e1 => ?_⟩
    unfold mirF at q
    generalize wideF t p = w at *
    refine ⟨_, _, rfl, SqT.of e1, rfl, _, _, rfl, _, _, rfl, rfl, ?_⟩
    exact ⟨_, rfl, _, rfl, _, rfl, _, rfl, t, _, _, rfl, fun H2 r s2 n2 e2 => q _ r (s1.trans s2) (s1.free n2) e2⟩
theorem has_law_mirror (Tx : Txt K mg) (c : He.SaysX fa fn [] tf ex w hh K) (X : K.In hh) (GG : hh.Ns mainGlobals mg) (h_law_wide : Has P w K mg base "_law_wide" 1 ["_law_turn", "_law_vector_here"] (sp_law_wide K)) (h_law_narrow : Has P w K mg base "_law_narrow" 1 ["_law_turn", "_law_x", "_law_y"] (sp_law_narrow K))  : Has P w K mg base "_law_mirror" 2 ["_law_turn", "_law_vector_here"] (sp_law_mirror K) := by
  obtain ⟨fd, F⟩ := c.t.d.def_ 32 (d := d_law_mirror) rfl
  exact ⟨_, fd, ok_law_mirror F Tx h_law_wide h_law_narrow, He.glo_ok X GG (c.t.d.fact 33 (f := .glo "_law_mirror") rfl), F.kp, F.bindsN fun _ _ _ _ _ _ us hl => match us, hl with | [_, _], _ => rfl⟩
/-- turned by steps of the law's own -/
def turF (t : Int) (p : Int × Int) : Nat → Int × Int
  | 0 => p
  | n + 1 => timF t (turF t p n) (0, 1)

end
end K47

namespace K47
open PySem PySem.Spec PyProof.Rows L2 Vf LamX
section
variable {hh : Heap} {P : Program} {w : World} {K : PySem.W.Frag} {mg : Str → Option Value} {base : Heap}
/-! ### both reckonings agree -/
theorem four_mul_div (m : Int) : 4 * m / 4 = m := Int.mul_ediv_cancel_left _ (by decide)
theorem two_mul_div (m : Int) : 2 * m / 2 = m := Int.mul_ediv_cancel_left _ (by decide)
theorem norm_len {z : Str} {t : Int} (h : KT z t) (p : Int × Int) : normF t p = lenF z p := by
  rcases h with ⟨rfl, rfl⟩ | ⟨rfl, rfl⟩
  · rfl
  · obtain ⟨a, b⟩ := p
    show ((2 * a + b) * (2 * a + b) + 3 * b * b) / 4 = a * a + a * b + b * b
    rw [show (2 * a + b) * (2 * a + b) + 3 * b * b = 4 * (a * a + a * b + b * b) by grind]
    exact four_mul_div _
theorem tim_both {z : Str} {t : Int} (h : KT z t) (p q : Int × Int) : timF t p q = bothF z p q := by
  rcases h with ⟨rfl, rfl⟩ | ⟨rfl, rfl⟩
  · rfl
  · obtain ⟨a, b⟩ := p
    obtain ⟨c, d⟩ := q
    show ((((2 * a + b) * (2 * c + d) - 3 * b * d) / 2 - ((2 * a + b) * d + b * (2 * c + d)) / 2) / 2, ((2 * a + b) * d + b * (2 * c + d)) / 2) = (a * c - b * d, a * d + b * c + b * d)
    rw [show (2 * a + b) * (2 * c + d) - 3 * b * d = 2 * (2 * (a * c) + a * d + b * c - b * d) by grind, show (2 * a + b) * d + b * (2 * c + d) = 2 * (a * d + b * c + b * d) by grind, two_mul_div, two_mul_div,
      show 2 * (a * c) + a * d + b * c - b * d - (a * d + b * c + b * d) = 2 * (a * c - b * d) by grind, two_mul_div]
theorem mir_flip {z : Str} {t : Int} (h : KT z t) (p : Int × Int) : mirF t p = flipF z p := by
  rcases h with ⟨rfl, rfl⟩ | ⟨rfl, rfl⟩
  · rfl
  · obtain ⟨a, b⟩ := p
    show ((2 * a + b - -b) / 2, -b) = (a + b, -b)
    rw [show 2 * a + b - -b = 2 * (a + b) by grind, two_mul_div]
theorem len_both (z : Str) (p q : Int × Int) : lenF z (bothF z p q) = lenF z p * lenF z q := by
  unfold lenF bothF
  split <;> dsimp only <;> grind
theorem prod_two (p q : Int × Int) : prodF "square" p q = 2 * (p.1 * q.1 + p.2 * q.2) := by
  show (p.1 + q.1) * (p.1 + q.1) + (p.2 + q.2) * (p.2 + q.2) - (p.1 * p.1 + p.2 * p.2) - (q.1 * q.1 + q.2 * q.2) = _
  grind
theorem prod_three (p q : Int × Int) : prodF "triangle" p q = ((2 * p.1 + p.2) * (2 * q.1 + q.2) + 3 * p.2 * q.2) / 2 := by
  show (p.1 + q.1) * (p.1 + q.1) + (p.1 + q.1) * (p.2 + q.2) + (p.2 + q.2) * (p.2 + q.2) - (p.1 * p.1 + p.1 * p.2 + p.2 * p.2) - (q.1 * q.1 + q.1 * q.2 + q.2 * q.2) = _
  rw [show (2 * p.1 + p.2) * (2 * q.1 + q.2) + 3 * p.2 * q.2 = 2 * (2 * (p.1 * q.1) + p.1 * q.2 + p.2 * q.1 + 2 * (p.2 * q.2)) by grind, two_mul_div]
  grind
theorem prod_comm (z : Str) (p q : Int × Int) : prodF z p q = prodF z q p := by
  unfold prodF sumP
  rw [Int.add_comm p.1, Int.add_comm p.2]
  omega
theorem both_comm (z : Str) (p q : Int × Int) : bothF z p q = bothF z q p := by
  unfold bothF
  split <;> (refine Prod.ext ?_ ?_ <;> dsimp only <;> grind)
theorem flip_flip (z : Str) (p : Int × Int) : flipF z (flipF z p) = p := by
  unfold flipF
  split <;> (refine Prod.ext ?_ ?_ <;> dsimp only <;> omega)
/-- one times the other, by the other -/
theorem quo_back {z : Str} {p q : Int × Int} (h : lenF z q ≠ 0) : quoF z (bothF z p q) q = some p := by
  have e : bothF z (bothF z p q) (flipF z q) = (p.1 * lenF z q, p.2 * lenF z q) := by
    unfold bothF flipF lenF
    split <;> (refine Prod.ext ?_ ?_ <;> dsimp only <;> grind)
  unfold quoF
  rw [e, if_pos ⟨Int.mul_emod_left .., Int.mul_emod_left ..⟩]
  dsimp only
  rw [Int.mul_ediv_cancel _ h, Int.mul_ediv_cancel _ h]
theorem len_zero {z : Str} {q : Int × Int} (h : lenF z q = 0) : q = (0, 0) := by
  have h1 := sq_nn q.1
  have h2 := sq_nn q.2
  have z0 : q.1 * q.1 = 0 ∧ q.2 * q.2 = 0 := by
    unfold lenF at h
    split at h
    · omega
    · have h3 := sq_nn (q.1 + q.2)
      have e : (q.1 + q.2) * (q.1 + q.2) = q.1 * q.1 + 2 * (q.1 * q.2) + q.2 * q.2 := by grind
      rw [e] at h3
      generalize q.1 * q.2 = m at *
      omega
  have f1 : q.1 = 0 := (Int.mul_eq_zero.mp z0.1).elim id id
  have f2 : q.2 = 0 := (Int.mul_eq_zero.mp z0.2).elim id id
  exact Prod.ext f1 f2
theorem len_at0 (z : Str) : lenF z (0, 0) = 0 := by
  unfold lenF
  split <;> rfl
/-! ### turned, step by step -/
theorem wdiv {n : Nat} {i : Int} (h : Wi n i) : Wi n (i / 2) := by
  unfold Wi at *
  generalize 2 ^ n = m at *
  omega
theorem tim_sm {n k : Nat} {t : Int} {p q : Int × Int} (h : Sm n p) (g : Sm k q) : Sm (n + k + 10) (timF t p q) := by
  have w := wide_sm (t := t) h
  have u := wide_sm (t := t) g
  unfold timF narF
  generalize wideF t p = p at *
  generalize wideF t q = q at *
  have h11 := (w.1.mul u.1).le (n := n + k + 6) (by omega)
  have h12 := (w.1.mul u.2).le (n := n + k + 6) (by omega)
  have h21 := (w.2.mul u.1).le (n := n + k + 6) (by omega)
  have h22 := (w.2.mul u.2).le (n := n + k + 6) (by omega)
  have h3 := ((wi3 w.2).mul u.2).le (n := n + k + 6) (by omega)
  split
  · exact ⟨(h11.sub h22).le (by omega), (h12.add h21).le (by omega)⟩
  · exact ⟨(wdiv ((wdiv (h11.sub h3)).sub (wdiv (h12.add h21)))).le (by omega), (wdiv (h12.add h21)).le (by omega)⟩
theorem tur_sm {n : Nat} {t : Int} {p : Int × Int} (h : Sm n p) : ∀ m : Nat, Sm (n + 11 * m) (turF t p m)
  | 0 => h
  | m + 1 => (tim_sm (q := (0, 1)) (k := 1) (tur_sm h m) ⟨by unfold Wi; decide, by unfold Wi; decide⟩).le (by omega)
def sp_law_turned (K : PySem.W.Frag) : Sp := fun vs H Q _ => ∃ (t m : Int) (a : Addr) (p : Int × Int), vs = [.int t, .ref a, .int m] ∧ Tp H a p ∧ Sm 200 p ∧ 0 ≤ m ∧ m ≤ 6 ∧ ∀ H' r, Same H H' → Tp H' r (turF t p m.toNat) → Q (.ref r) H'
theorem sc_law_turned : FnScope ["_law_turn", "_law_vector_here", "_law_many", "_law_lap"] ["_law_turn", "_law_vector_here", "_law_many"] (defScope s_law_turned) := ⟨rfl, rfl, rfl, by decide +kernel, rfl, by decide +kernel, by decide +kernel⟩
theorem ok_law_turned {f : Addr} {fd : FuncData} (F : FunD K "_law_turned" "_law_turned" (defArgs s_law_turned) (defBody s_law_turned) (defScope s_law_turned) [] [] f fd) (Tx : Txt K mg) (h_law_times : Has P w K mg base "_law_times" 2 ["_law_turn", "_law_one", "_law_other"] (sp_law_times K))  : FnOk P w K mg base CX0 3 f fd ["_law_turn", "_law_vector_here", "_law_many"] (sp_law_turned K) := by
  obtain ⟨f_law_times, fd_law_times, G_law_times, g_law_times, k_law_times, b_law_times⟩ := h_law_times
  refine FunD.ok F sc_law_turned (fun vs H Q E h => ?_) (fun cdv A outer s H vs Q E hr h => ?_)
  · obtain ⟨t, m, a, p, rfl, _⟩ := h
    rfl
  · obtain ⟨t, m, a, p, rfl, ha, hs, h0, h6, q⟩ := h
    refine ⟨_, PSs.nox (pss_cons (ps_for PassesOwn.never rfl (pi_range1 (by rfl) Tx.n_range (pa_cons (pv 2) pa_nil)) (pg_name (i := 3) sc_law_turned.nd rfl (Or.inl rfl)) (pss_one (ps_set (i := 1) sc_law_turned.nd rfl (Or.inl rfl) (pe_call G_law_times (hr.mono (by decide)) (by rfl) g_law_times k_law_times b_law_times .nil pass0 (pa_cons (pv 0) (pa_cons (pv 1) (pa_cons (pe_tup (pa_cons pe_int (pa_cons pe_int pa_nil))) pa_nil)))))))
        (pss_one (ps_ret (pv 1)))), ?_⟩
    refine ⟨_, rfl, _, rfl, by omega, by omega, ?_⟩
    refine for_it (walk_range (lo := 0) (n := m.toNat)) (fun i σ H2 => ∃ (r : Addr) (l : Option V), σ = [some (.int t), some (.ref r), some (.int m), l] ∧ Same H H2 ∧ Tp H2 r (turF t p i)) ⟨a, none, rfl, Same.refl _, ha⟩ (fun i σ H _ _ => True.intro) (fun i x σ H2 H3 hi pv y => ?_) (fun σ H2 pv => ?_)
    · obtain ⟨rfl, rfl⟩ := y
      obtain ⟨r, l, rfl, s2, hr⟩ := pv
      refine ⟨_, rfl, _, rfl, le_line (n := 2) (by decide), fun o no => ?_⟩
      have so := same_new (o := .tup [.int 0, .int 1]) no
      refine ⟨t, r, o, _, (0, 1), rfl, so _ _ hr, upd_same, (tur_sm hs i).le (by omega), ⟨(by unfold Wi; decide), (by unfold Wi; decide)⟩, fun H4 r4 s4 n4 e4 => ?_⟩
      exact ⟨r4, _, rfl, (s2.trans so).trans s4, e4⟩
    · obtain ⟨r, l, rfl, s2, hr⟩ := pv
      exact ⟨_, rfl, q _ r s2 hr⟩
theorem has_law_turned (Tx : Txt K mg) (c : He.SaysX fa fn [] tf ex w hh K) (X : K.In hh) (GG : hh.Ns mainGlobals mg) (h_law_times : Has P w K mg base "_law_times" 2 ["_law_turn", "_law_one", "_law_other"] (sp_law_times K))  : Has P w K mg base "_law_turned" 3 ["_law_turn", "_law_vector_here", "_law_many"] (sp_law_turned K) := by
  obtain ⟨fd, F⟩ := c.t.d.def_ 31 (d := d_law_turned) rfl
  exact ⟨_, fd, ok_law_turned F Tx h_law_times, He.glo_ok X GG (c.t.d.fact 32 (f := .glo "_law_turned") rfl), F.kp, F.bindsN fun _ _ _ _ _ _ us hl => match us, hl with | [_, _, _], _ => rfl⟩
def lqF (t : Int) (p q : Int × Int) : Option (Int × Int) := if (timF t p (mirF t q)).1 % normF t q = 0 ∧ (timF t p (mirF t q)).2 % normF t q = 0 then some ((timF t p (mirF t q)).1 / normF t q, (timF t p (mirF t q)).2 / normF t q) else none
theorem lq_quo {z : Str} {t : Int} (h : KT z t) (p q : Int × Int) : lqF t p q = quoF z p q := by
  unfold lqF quoF
  rw [norm_len h, mir_flip h, tim_both h]
def sp_law_quotient (K : PySem.W.Frag) : Sp := fun vs H Q _ => ∃ (t : Int) (a a2 : Addr) (p p2 : Int × Int), vs = [.int t, .ref a, .ref a2] ∧ Tp H a p ∧ Tp H a2 p2 ∧ Sm 100 p ∧ Sm 100 p2 ∧ 0 < normF t p2 ∧ Wi 300 (normF t p2) ∧ ∀ H' r, Same H H' → ResV H H' r (lqF t p p2) → Q r H'
theorem mir_sm {n : Nat} {t : Int} {p : Int × Int} (h : Sm n p) : Sm (n + 4) (mirF t p) := by
  have w := wide_sm (t := t) h
  unfold mirF narF
  generalize wideF t p = p at *
  split
  · exact ⟨w.1.le (by omega), w.2.neg.le (by omega)⟩
  · exact ⟨(wdiv (w.1.sub w.2.neg)).le (by omega), w.2.neg.le (by omega)⟩
theorem sc_law_quotient : FnScope ["_law_turn", "_law_one", "_law_other", "_law_whole", "_law_size"] ["_law_turn", "_law_one", "_law_other"] (defScope s_law_quotient) := ⟨rfl, rfl, rfl, by decide +kernel, rfl, by decide +kernel, by decide +kernel⟩
theorem ok_law_quotient {f : Addr} {fd : FuncData} (F : FunD K "_law_quotient" "_law_quotient" (defArgs s_law_quotient) (defBody s_law_quotient) (defScope s_law_quotient) [] [] f fd) (Tx : Txt K mg) (h_law_times : Has P w K mg base "_law_times" 2 ["_law_turn", "_law_one", "_law_other"] (sp_law_times K)) (h_law_mirror : Has P w K mg base "_law_mirror" 2 ["_law_turn", "_law_vector_here"] (sp_law_mirror K)) (h_law_norm : Has P w K mg base "_law_norm" 2 ["_law_turn", "_law_vector_here"] (sp_law_norm K))  : FnOk P w K mg base CX0 3 f fd ["_law_turn", "_law_one", "_law_other"] (sp_law_quotient K) := by
  obtain ⟨f_law_times, fd_law_times, G_law_times, g_law_times, k_law_times, b_law_times⟩ := h_law_times
  obtain ⟨f_law_mirror, fd_law_mirror, G_law_mirror, g_law_mirror, k_law_mirror, b_law_mirror⟩ := h_law_mirror
  obtain ⟨f_law_norm, fd_law_norm, G_law_norm, g_law_norm, k_law_norm, b_law_norm⟩ := h_law_norm
  refine FunD.ok F sc_law_quotient (fun vs H Q E h => ?_) (fun cdv A outer s H vs Q E hr h => ?_)
  · obtain ⟨t, a, a2, p, p2, rfl, _⟩ := h
    rfl
  · obtain ⟨t, a, a2, p, p2, rfl, ha, ha2, hs, hs2, pos, wn, q⟩ := h
    refine ⟨_, PSs.nox (pss_cons (ps_par (i := 3) (j := 4) (by rfl) sc_law_quotient.nd rfl rfl (by decide) rfl rfl (pa_cons (pe_call G_law_times (hr.mono (by decide)) (by rfl) g_law_times k_law_times b_law_times .nil pass0 (pa_cons (pv 0) (pa_cons (pv 1) (pa_cons (pe_call G_law_mirror (hr.mono (by decide)) (by rfl) g_law_mirror k_law_mirror b_law_mirror .nil pass0 (pa_cons (pv 0) (pa_cons (pv 2) pa_nil))) pa_nil)))) (pa_cons (pe_call G_law_norm (hr.mono (by decide)) (by rfl) g_law_norm k_law_norm b_law_norm .nil pass0 (pa_cons (pv 0) (pa_cons (pv 2) pa_nil))) pa_nil)) (by rfl))
        (pss_cons (ps_if (PW.pt (pw_or (pt_cmpR op_ne (pe_op op_mod (pe_callTy call_int1 (by rfl) Tx.n_int (by decide +kernel) (pa_cons (pe_ix ix_tup (pv 3) pe_int (fun _ _ => rfl)) pa_nil)) (pv 4)) pe_int (nomark _)) (pw_or1 (pt_cmpR op_ne (pe_op op_mod (pe_callTy call_int1 (by rfl) Tx.n_int (by decide +kernel) (pa_cons (pe_ix ix_tup (pv 3) pe_int (fun _ _ => rfl)) pa_nil)) (pv 4)) pe_int (nomark _))))) (pss_one (ps_ret pe_non)) pss_nil)
        (pss_one (ps_ret (pe_tup (pa_cons (pe_op op_fdivW (pe_ix ix_tup (pv 3) pe_int (fun _ _ => rfl)) (pv 4)) (pa_cons (pe_op op_fdivW (pe_ix ix_tup (pv 3) pe_int (fun _ _ => rfl)) (pv 4)) pa_nil))))))), ?_⟩
    refine ⟨_, rfl, _, rfl, _, rfl, _, rfl, t, a2, p2, rfl, ha2, hs2.le (by decide), fun H1 r1 s1 n1 e1 => ?_⟩
    refine ⟨t, a, r1, p, _, rfl, s1 _ _ ha, e1, hs.le (by decide), (mir_sm hs2).le (by decide), fun H2 r2 s2 n2 e2 => ?_⟩
    have s12 := s1.trans s2
    refine ⟨_, rfl, _, rfl, t, a2, p2, rfl, s12 _ _ ha2, hs2.le (by decide), fun H3 s3 => ?_⟩
    have s13 := s12.trans s3
    unfold lqF at q
    replace e2 := s3 _ _ e2
    generalize timF t p (mirF t p2) = w at *
    generalize normF t p2 = n at *
    have hd : CDivW w.1 n := wide_div pos wn (by decide) (by decide)
    have hd2 : CDivW w.2 n := wide_div pos wn (by decide) (by decide)
    refine ⟨_, _, rfl, ?_⟩
    refine ⟨_, rfl, r2, _, _, _, rfl, rfl, SqT.of e2, rfl, .inl ⟨_, rfl, _, rfl, _, _, rfl, rfl, pos, rfl, _, rfl, ?_⟩⟩
    rw [dec_int]
    by_cases m1 : w.1 % n = 0
    · rw [show (w.1 % n == 0) = true from by simpa using m1]
      refine iteF ⟨_, rfl, r2, _, _, _, rfl, rfl, SqT.of e2, rfl, .inl ⟨_, rfl, _, rfl, _, _, rfl, rfl, pos, rfl, _, rfl, ?_⟩⟩
      rw [dec_int]
      by_cases m2 : w.2 % n = 0
      · rw [show (w.2 % n == 0) = true from by simpa using m2]
        rw [if_pos ⟨m1, m2⟩] at q
        refine iteF ⟨_, rfl, r2, _, _, _, rfl, rfl, SqT.of e2, rfl, _, rfl, _, _, rfl, rfl, hd, _, rfl, r2, _, _, _, rfl, rfl, SqT.of e2, rfl, _, rfl, _, _, rfl, rfl, hd2, le_line (n := 2) (by decide), fun o no => ?_⟩
        exact q _ _ (s13.trans (same_new no)) ⟨o, rfl, s13.free no, upd_same⟩
      · rw [show (w.2 % n == 0) = false from by simpa using m2]
        rw [if_neg fun z => m2 z.2] at q
        exact iteT (q _ _ s13 rfl)
    · rw [show (w.1 % n == 0) = false from by simpa using m1]
      rw [if_neg fun z => m1 z.1] at q
      exact iteT (iteT (q _ _ s13 rfl))
theorem has_law_quotient (Tx : Txt K mg) (c : He.SaysX fa fn [] tf ex w hh K) (X : K.In hh) (GG : hh.Ns mainGlobals mg) (h_law_times : Has P w K mg base "_law_times" 2 ["_law_turn", "_law_one", "_law_other"] (sp_law_times K)) (h_law_mirror : Has P w K mg base "_law_mirror" 2 ["_law_turn", "_law_vector_here"] (sp_law_mirror K)) (h_law_norm : Has P w K mg base "_law_norm" 2 ["_law_turn", "_law_vector_here"] (sp_law_norm K))  : Has P w K mg base "_law_quotient" 3 ["_law_turn", "_law_one", "_law_other"] (sp_law_quotient K) := by
  obtain ⟨fd, F⟩ := c.t.d.def_ 33 (d := d_law_quotient) rfl
  exact ⟨_, fd, ok_law_quotient F Tx h_law_times h_law_mirror h_law_norm, He.glo_ok X GG (c.t.d.fact 34 (f := .glo "_law_quotient") rfl), F.kp, F.bindsN fun _ _ _ _ _ _ us hl => match us, hl with | [_, _, _], _ => rfl⟩
/-! ### all vectors of a square -/
def rowF (t n : Int) (i m : Nat) : List (Int × Int) := (rowL i m).filter fun p => decide (normF t p = n)
def allF (t n : Int) (i : Nat) : List (Int × Int) := (stepL i).filter fun p => decide (normF t p = n)
theorem rowF_succ (t n : Int) (i m : Nat) : rowF t n i (m + 1) = rowF t n i m ++ if normF t ((i : Int) + 1, (m : Int)) = n then [((i : Int) + 1, (m : Int))] else [] := by
  unfold rowF
  rw [rowL_succ, List.filter_append]
  congr 1
  by_cases h : normF t ((i : Int) + 1, (m : Int)) = n <;> simp [h]
theorem allF_succ (t n : Int) (i : Nat) : allF t n (i + 1) = allF t n i ++ rowF t n i 21 := by
  unfold allF rowF
  rw [stepL_succ, List.filter_append]
theorem all_vecs {z : Str} {t : Int} (h : KT z t) (n : Int) : allF t n 20 = vecsF z n := by
  unfold allF vecsF
  congr 1
  funext p
  rw [norm_len h]
theorem rowF_len (t n : Int) (i m : Nat) : (rowF t n i m).length ≤ m := Nat.le_trans (List.length_filter_le _ _) (by rw [rowL_len] <;> omega)
theorem allF_len (t n : Int) (i : Nat) : (allF t n i).length ≤ 21 * i := Nat.le_trans (List.length_filter_le _ _) (by rw [stepL_len] <;> omega)
theorem Pairs.app {H : Hp} {ts us : List Addr} {ps qs : List (Int × Int)} (h : Pairs H ts ps) (g : Pairs H us qs) : Pairs H (ts ++ us) (ps ++ qs) := by
  refine ⟨by rw [List.length_append, List.length_append, h.len, g.len], fun i t p h1 h2 => ?_⟩
  by_cases hi : i < ts.length
  · rw [List.getElem?_append_left hi] at h1
    rw [List.getElem?_append_left (by rw [← h.len]; exact hi)] at h2
    exact h.at_ i t p h1 h2
  · rw [List.getElem?_append_right (by omega)] at h1
    rw [List.getElem?_append_right (by rw [← h.len]; omega), ← h.len] at h2
    exact g.at_ _ t p h1 h2
theorem small_sm {p : Int × Int} (h0 : 0 ≤ p.1) (h1 : p.1 ≤ 20) (h2 : 0 ≤ p.2) (h3 : p.2 ≤ 20) : Sm 5 p := ⟨show p.1.natAbs < 2 ^ 5 by omega, show p.2.natAbs < 2 ^ 5 by omega⟩
def sp_law_all (K : PySem.W.Frag) : Sp := fun vs H Q _ => ∃ (t n : Int), vs = [.int t, .int n] ∧ ∀ H' r us, Same H H' → H' r = some (.tup (us.map V.ref)) → Pairs H' us (allF t n 20) → Q (.ref r) H'
theorem sc_law_all : FnScope ["_law_turn", "_law_square", "_law_found", "_law_a", "_law_b"] ["_law_turn", "_law_square"] (defScope s_law_all) := ⟨rfl, rfl, rfl, by decide +kernel, rfl, by decide +kernel, by decide +kernel⟩
theorem ok_law_all {f : Addr} {fd : FuncData} (F : FunD K "_law_all" "_law_all" (defArgs s_law_all) (defBody s_law_all) (defScope s_law_all) [] [] f fd) (Tx : Txt K mg) (h_law_norm : Has P w K mg base "_law_norm" 2 ["_law_turn", "_law_vector_here"] (sp_law_norm K))  : FnOk P w K mg base CX0 3 f fd ["_law_turn", "_law_square"] (sp_law_all K) := by
  obtain ⟨f_law_norm, fd_law_norm, G_law_norm, g_law_norm, k_law_norm, b_law_norm⟩ := h_law_norm
  refine FunD.ok F sc_law_all (fun vs H Q E h => ?_) (fun cdv A outer s H vs Q E hr h => ?_)
  · obtain ⟨t, n, rfl, _⟩ := h
    rfl
  · obtain ⟨t, n, rfl, q⟩ := h
    refine ⟨_, PSs.nox (pss_cons (ps_set (i := 2) sc_law_all.nd rfl (Or.inl rfl) (pe_lst pa_nil))
        (pss_cons (ps_for PassesOwn.never rfl (pi_range2 (by rfl) Tx.n_range (pa_cons pe_int (pa_cons pe_int pa_nil))) (pg_name (i := 3) sc_law_all.nd rfl (Or.inr rfl)) (pss_one (ps_expr (pe_bm PySem.F.plainAttrs_list PySem.F.slot_list_extend PySem.F.type_list_extend mt_extend (pv 2) (pa_cons (pe_lc (own := [("_law_b", 4)]) (g := gName 4) rfl sc_law_all.nd (pi_range1 (by rfl) Tx.n_range (pa_cons pe_int pa_nil)) (blkOk_by (own := [("_law_b", 4)]) (N := ["_law_turn", "_law_square", "_law_found", "_law_a", "_law_b"]) (sc := defScope s_law_all) (by decide +kernel)) (fun _ _ _ _ _ => (pg_name (i := 4) sc_law_all.nd rfl (Or.inl rfl))) (fun _ _ _ _ _ => (pts_one (pt_cmpR op_eq (pe_call G_law_norm (hr.mono (by decide)) (by rfl) g_law_norm k_law_norm b_law_norm .nil pass0 (pa_cons (pv 0) (pa_cons (pe_tup (pa_cons (pv 3) (pa_cons (pv 4) pa_nil))) pa_nil))) (pv 1) (nomark _)))) (fun _ _ _ _ _ => (pe_tup (pa_cons (pv 3) (pa_cons (pv 4) pa_nil))))) pa_nil)))))
        (pss_one (ps_ret (pe_callTy call_tuple_of (by rfl) Tx.n_tuple (by decide +kernel) (pa_cons (pv 2) pa_nil)))))), ?_⟩
    refine ⟨Nat.zero_le _, fun D nD => ?_⟩
    refine ⟨_, _, rfl, ⟨by decide, by decide, by decide, by decide⟩, ?_⟩
    refine for_it (walk_range (lo := 1) (n := 20)) (fun i σ H2 => ∃ (l1 l2 : Option V) (ts : List Addr), σ = [some (.int t), some (.int n), some (.ref D), l1, l2] ∧ Same H H2 ∧ H2 D = some (.lst (ts.map V.ref)) ∧ Pairs H2 ts (allF t n i)) ?_ (fun i σ H _ _ => True.intro) (fun i x σ H2 H3 hi pv y => ?_) (fun σ H2 pv => ?_)
    · exact ⟨none, none, [], rfl, same_new nD, upd_same, Pairs.nil⟩
    · obtain ⟨rfl, rfl⟩ := y
      obtain ⟨l1, l2, ts, rfl, s2, hD, hP⟩ := pv
      refine ⟨_, rfl, .inl ⟨rfl, _, SqL.of hD⟩, _, rfl, by decide, by decide, fun E nE => ?_⟩
      refine lc_it (walk_range (lo := 0) (n := 21)) (fun j H4 => Same H3 H4 ∧ ∃ us, H4 E = some (.lst (us.map V.ref)) ∧ Pairs H4 us (rowF t n i j)) ⟨same_new nE, [], upd_same, Pairs.nil⟩ (fun i H _ _ => True.intro) (fun j x H4 H5 hj p4 y4 => ?_) (fun H4 p4 => ?_)
      · obtain ⟨rfl, rfl⟩ := y4
        obtain ⟨s4, us, hE, hU⟩ := p4
        refine ⟨rfl, ?_⟩
        refine ⟨_, rfl, _, rfl, _, rfl, le_line (n := 2) (by decide), fun o no => ?_⟩
        have so := same_new (o := .tup [.int (1 + (i : Nat)), .int (0 + (j : Nat))]) no
        have eo : Tp (upd H5 o (.tup [.int (1 + (i : Nat)), .int (0 + (j : Nat))])) o ((i : Int) + 1, (j : Int)) := by
          unfold Tp
          rw [upd_same, Int.zero_add, Int.add_comm]
        have sm : Sm 5 ((i : Int) + 1, (j : Int)) := small_sm (by dsimp only; omega) (by dsimp only; omega) (by dsimp only; omega) (by dsimp only; omega)
        refine ⟨t, o, ((i : Int) + 1, (j : Int)), rfl, eo, sm.le (by decide), fun H6 s6 => ?_⟩
        have s46 := so.trans s6
        refine ⟨_, rfl, rfl, _, rfl, ?_⟩
        rw [dec_int]
        have len : us.length ≤ j := by
          rw [hU.len]
          exact rowF_len t n i j
        cases eb : (normF t ((i : Int) + 1, (j : Int)) == n) with
        | true =>
          refine iteT ⟨_, rfl, _, rfl, le_line (n := 2) (by decide), fun r nr => ?_⟩
          have sr := same_new (o := .tup [.int (1 + (i : Nat)), .int (0 + (j : Nat))]) nr
          refine ⟨us.map V.ref, sr _ _ (s46 _ _ hE), ?_, Same.mut ((s4.trans s46).trans sr) nE, us ++ [r], ?_, ?_⟩
          · rw [List.length_map]
            exact small_line (by omega)
          · rw [upd_same, List.map_append]
            rfl
          · rw [rowF_succ, if_pos (by simpa using eb)]
            refine Pairs.mut (Pairs.snoc ((hU.same s46).same sr) ?_) (sr _ _ (s46 _ _ hE))
            rw [upd_same]
            show some (HO.tup [V.int (1 + (i : Int)), V.int (0 + (j : Int))]) = some (HO.tup [V.int ((i : Int) + 1), V.int (j : Int)])
            rw [Int.zero_add, Int.add_comm]
        | false =>
          refine iteF ⟨s4.trans s46, us, s46 _ _ hE, ?_⟩
          rw [rowF_succ, if_neg (by simpa using eb), List.append_nil]
          exact hU.same s46
      · obtain ⟨s4, us, hE, hU⟩ := p4
        have h1 : ts.length ≤ 21 * i := by
          rw [hP.len]
          exact allF_len t n i
        have h2 : us.length ≤ 21 := by
          rw [hU.len]
          exact rowF_len t n i 21
        have hD4 := s4 _ _ hD
        refine ⟨D, E, _, _, rfl, rfl, hD4, hE, le_line (by rw [List.length_map, List.length_map]; omega), ?_⟩
        refine ⟨_, _, ts ++ us, rfl, Same.mut (s2.trans s4) nD, ?_, ?_⟩
        · rw [upd_same, List.map_append]
        · rw [allF_succ]
          exact Pairs.mut ((hP.same s4).app hU) hD4
    · obtain ⟨l1, l2, ts, rfl, s2, hD, hP⟩ := pv
      refine ⟨_, rfl, D, _, rfl, .inl ⟨SqL.of hD, fun l nl => ?_⟩⟩
      exact q _ l ts (s2.trans (same_new nl)) upd_same (hP.same (same_new nl))
theorem has_law_all (Tx : Txt K mg) (c : He.SaysX fa fn [] tf ex w hh K) (X : K.In hh) (GG : hh.Ns mainGlobals mg) (h_law_norm : Has P w K mg base "_law_norm" 2 ["_law_turn", "_law_vector_here"] (sp_law_norm K))  : Has P w K mg base "_law_all" 3 ["_law_turn", "_law_square"] (sp_law_all K) := by
  obtain ⟨fd, F⟩ := c.t.d.def_ 37 (d := d_law_all) rfl
  exact ⟨_, fd, ok_law_all F Tx h_law_norm, He.glo_ok X GG (c.t.d.fact 38 (f := .glo "_law_all") rfl), F.kp, F.bindsN fun _ _ _ _ _ _ us hl => match us, hl with | [_, _], _ => rfl⟩

end
end K47

namespace K47
open PySem PySem.Spec PyProof.Rows L2 Vf LamX
section
variable {hh : Heap} {P : Program} {w : World} {K : PySem.W.Frag} {mg : Str → Option Value} {base : Heap}
/-! ### code objects and their tables -/
/-- the def that hears -/
def HasH (K : PySem.W.Frag) (mg : Str → Option Value) : Prop := ∃ (g : Addr) (oc : Value) (od : Option Addr) (dV kV doc pm : Value) (an : Option Addr) (cdv ct : Value) (osl : Array (Option Value)), mg "_law_heard" = some (.ref g) ∧ PySem.W.keepIn K (.ref g) = true ∧
  K.lookup g = some ⟨oc, od, .func (PySem.W.fnOf "_law_heard" "_law_heard" (defArgs s_law_heard) (defBody s_law_heard) (defScope s_law_heard) dV kV doc pm an cdv ct), osl⟩ ∧ PySem.W.codeIn K cdv "_law_heard" = true ∧
  L2.Binds K (PySem.W.fnOf "_law_heard" "_law_heard" (defArgs s_law_heard) (defBody s_law_heard) (defScope s_law_heard) dV kV doc pm an cdv ct) ["_law_ask"] []
theorem has_heard (c : He.SaysX fa fn [] tf ex w hh K) (X : K.In hh) (GG : hh.Ns mainGlobals mg) : HasH K mg := by
  obtain ⟨fd, F⟩ := c.t.d.def_ 38 (d := d_law_heard) rfl
  have hb : Binds K fd ["_law_ask"] [] := F.bindsN fun _ _ _ _ _ _ us hl => match us, hl with | [_], _ => rfl
  obtain ⟨oc, od, dV, kV, doc, pm, an, cdv, ct, osl, rfl, lk, hcd, hD, hK⟩ := F.ex
  exact ⟨_, oc, od, dV, kV, doc, pm, an, cdv, ct, osl, He.glo_ok X GG (c.t.d.fact 39 (f := .glo "_law_heard") rfl), F.kp, lk, hcd, hb⟩
theorem okC {CX : CXT} {x : Str} {params : Arguments} {body : List Stmt} {scope : Scope} {fd : FuncData} {N ps : List Str} {k : Nat} {sp : Sp} (F : FunD K x x params body scope [] [] (He.fAd K (x, none)) fd) (S : FnScope N ps scope) (len : ∀ vs H Q E, sp vs H Q E → vs.length = ps.length)
    (walk : ∀ (A : Around) (outer : List Env) (s : Shared) (H : Hp) (vs : List V) (Q : VK) (E : XK), Room k (A.deeper (envOfC x scope s.heap.objs.size (He.fAd K (x, none)) (.ref (He.codeOf K (x, none))))) → sp vs H Q E →
      ∃ t, PSs (cxOf CX P w K mg base N x scope (He.fAd K (x, none)) (.ref (He.codeOf K (x, none))) A outer s H E) body t ∧ t { nx := fun _ H' => Q .non H', rt := Q } (L2.start N vs) H) : FnOk P w K mg base CX (k + 1) (He.fAd K (x, none)) fd ps sp := by
  obtain ⟨oc, od, dV, kV, doc, pm, an, cdv, ct, osl, rfl, lk, hcd, hD, hK⟩ := F.ex
  obtain ⟨cc, rfl⟩ := He.codeIn_ref hcd
  have e := He.codeOf_eq lk rfl
  rw [e] at walk
  exact fn_of lk hcd S len walk
def lq (x : Str) (sc : Scope) : Str := (envOfC x sc 0 0 .none).qual ++ "<lambda>"
abbrev TT0 (K : PySem.W.Frag) : List (Addr × Str) := [(tabT K "_law_quotients_right", lq "_law_quotients_right" (defScope s_law_quotients_right)), (tabT K "_law_refused_right", lq "_law_refused_right" (defScope s_law_refused_right))]
theorem mem_law_quotients_right (K : PySem.W.Frag) : (tabT K "_law_quotients_right", lq "_law_quotients_right" (defScope s_law_quotients_right)) ∈ TT0 K := List.mem_cons_self ..
theorem mem_law_refused_right (K : PySem.W.Frag) : (tabT K "_law_refused_right", lq "_law_refused_right" (defScope s_law_refused_right)) ∈ TT0 K := List.mem_cons_of_mem _ (List.mem_cons_self ..)
theorem tabs_ne (Tx : Txt K mg) : tabT K "_law_quotients_right" ≠ tabT K "_law_refused_right" := of_decide_eq_true Tx.tabs
theorem hu_law_quotients_right (Tx : Txt K mg) : ∀ p ∈ TT0 K, p.1 = tabT K "_law_quotients_right" → p.2 = lq "_law_quotients_right" (defScope s_law_quotients_right) := fun p hp e => by
  simp only [TT0, List.mem_cons, List.not_mem_nil, or_false] at hp
  rcases hp with rfl | rfl
  · rfl
  · exact absurd e.symm (tabs_ne Tx)
theorem hu_law_refused_right (Tx : Txt K mg) : ∀ p ∈ TT0 K, p.1 = tabT K "_law_refused_right" → p.2 = lq "_law_refused_right" (defScope s_law_refused_right) := fun p hp e => by
  simp only [TT0, List.mem_cons, List.not_mem_nil, or_false] at hp
  rcases hp with rfl | rfl
  · exact absurd e (tabs_ne Tx)
  · rfl
theorem tabs_same {T : List (Addr × Str)} {H H1 : Hp} (t : LamX.Tabs T H) (s : Same H H1) : LamX.Tabs T H1 := t.ext s
theorem codeO_lst {H : Hp} {c : Addr} {q : Str} {xs : List V} (h : H c = some (CodeO c q)) : H c ≠ some (.lst xs) := fun e => by
  rw [h] at e
  unfold CodeO at e
  cases e
theorem tabs_kp {T : List (Addr × Str)} {H H1 : Hp} {p : Addr} {xs : List V} (t : LamX.Tabs T H) (hp : H p = some (.lst xs)) (k : Kp p H H1) : LamX.Tabs T H1 := fun z hz => by
  obtain ⟨ps, h1, h2, h3⟩ := t z hz
  refine ⟨ps, k _ _ (fun e => ?_) h1, h2, fun pos cv hc => ?_⟩
  · rw [e, hp] at h1
    cases h1
  · obtain ⟨c, e1, e2⟩ := h3 pos cv hc
    exact ⟨c, e1, k _ _ (fun e => codeO_lst e2 (by rw [e]; exact hp)) e2⟩
/-! ### what is heard -/
/-- the answer told: a new tuple of hs -/
def Told (Q : VK) (H : Hp) (hs : List V) : Prop := ∀ H' t, Same H H' → H t = none → H' t = some (.tup hs) → Q (.ref t) H'
theorem Told.same {Q : VK} {H H1 : Hp} {hs : List V} (h : Told Q H hs) (s : Same H H1) : Told Q H1 hs := fun H' t s2 n e => h H' t (s.trans s2) (s.free n) e
/-- the wish of the def that hears: one of both errors -/
def EH (K : PySem.W.Frag) (Q : VK) : XK := fun cls d H => ∃ (dd : Addr) (v : V), d = some dd ∧ H dd = some (.xd [("part", v)]) ∧ ((cls = .ref (He.ga K "BadKind") ∧ Told Q H [.str "kind", v]) ∨ (cls = .ref (He.ga K "BadNumber") ∧ Told Q H [.str "number", v]))
theorem eh_kind {Q : VK} {H : Hp} {v : V} (h : Told Q H [.str "kind", v]) : Rz (EH K Q) (He.ga K "BadKind") [("part", v)] H := fun H' d s _ e => ⟨d, v, rfl, e, .inl ⟨rfl, h.same s⟩⟩
theorem eh_num {Q : VK} {H : Hp} {v : V} (h : Told Q H [.str "number", v]) : Rz (EH K Q) (He.ga K "BadNumber") [("part", v)] H := fun H' d s _ e => ⟨d, v, rfl, e, .inr ⟨rfl, h.same s⟩⟩
/-- the def that hears, where it is sure that something is raised -/
def TTh (K : PySem.W.Frag) : (XK → Hp → VK → Prop) → Hp → VK → Prop := fun tl H Q => ∀ N : VK, tl (EH K Q) H N
theorem takes_len {X : Cx} {W : WX} (tk : Takes X W) : Takes X (fun cls d σ H => σ.length = X.N.length → W cls d σ H) := fun u s' x => by
  obtain ⟨a, B, sI, pins, σ, H, cls, d, h1, I, h2, h3, h4, h5, h6, h7, h8⟩ := x
  exact tk u s' ⟨a, B, sI, pins, σ, H, cls, d, h1, I, h2, h3, h4, h5, h6, h7, h8 I.len⟩
theorem sc_law_heard : FnScope ["_law_ask", "_law_caught", "error"] ["_law_ask"] (defScope s_law_heard) := ⟨rfl, rfl, rfl, by decide +kernel, rfl, by decide +kernel, by decide +kernel⟩
theorem heard_givesV {X : Cx} {g : Addr} {cdg : Value} (hK : K = X.K) (hmg : mg = X.mg) (Tx : Txt K mg) : GivesV X ["_law_ask", "_law_caught", "error"] "_law_heard" (defScope s_law_heard) g cdg (defBody s_law_heard) "_law_ask" (TTh K) := by
  obtain ⟨prog0, w0, K0, mg0, base0, A0, N0, s00, H00, env0, outer0, stack0, ex0, fn0, calm0, pn0, xe0⟩ := X
  have hK' : K = K0 := hK
  have hmg' : mg = mg0 := hmg
  subst hK' hmg'
  intro fA Ph s H Q tl act hPh h
  refine ⟨_, (pss_cons (ps_set (i := 1) sc_law_heard.nd rfl (Or.inl rfl) pe_non)
        (pss_cons (ps_try_hold (i := 2) (c := .ref (He.ga K "SewError")) (tb := fun W D σ H => ∃ Ech : XK, (∀ cls d σ' H', σ'.length = 3 → Ech cls d H' → W cls d σ' H') ∧ σ[0]? = some (some (.ref fA)) ∧ Ph H ∧ tl Ech H fun _ H' => D.nx σ H') rfl rfl rfl sc_law_heard.nd rfl rfl ⟨rfl, by decide, .inl Tx.g_SewError⟩ takes_no (fun W pn xe tk _ => by
        refine pss_one ⟨fun pins s' σ H' D I h' => ?_⟩
        obtain ⟨Ech, hW, h1, h2, h3⟩ := h'
        exact (ps_expr (act _ pn xe Ech _ _ (takes_len tk) fun cls d σ' H' e hl => hW cls d σ' H' hl e)).run pins s' σ H' D I ⟨h1, h2, h3⟩) (fun a oe cls d pn hz hf => pss_one (ps_set (i := 1) sc_law_heard.nd rfl (Or.inl rfl) (pv 2))))
        (pss_cons (ps_if (pt_val (pe_callB call_isV (by rfl) Tx.n_isinstance (by decide +kernel) (pa_cons (pv 1) (pa_cons (pe_glob (v := .ref (He.ga K "BadKind")) (by rfl) Tx.g_BadKind rfl) pa_nil)))) (pss_one (ps_ret (pe_tup (pa_cons pe_str (pa_cons (pe_ef (pv 1) rfl) pa_nil))))) pss_nil)
        (pss_cons (ps_if (pt_val (pe_callB call_isV (by rfl) Tx.n_isinstance (by decide +kernel) (pa_cons (pv 1) (pa_cons (pe_glob (v := .ref (He.ga K "BadNumber")) (by rfl) Tx.g_BadNumber rfl) pa_nil)))) (pss_one (ps_ret (pe_tup (pa_cons pe_str (pa_cons (pe_ef (pv 1) rfl) pa_nil))))) pss_nil) pss_never)))), ?_⟩
  refine ⟨EH K Q, fun cls d σ' H' hl e => ?_, rfl, hPh, h _⟩
  obtain ⟨dd, v, rfl, hd, e⟩ := e
  match σ', hl with
  | [x0, x1, x2], _ =>
    rcases e with ⟨rfl, ht⟩ | ⟨rfl, ht⟩
    · refine ⟨true, Tx.ex_BadKind, fun _ a na => ?_, fun z => Bool.noConfusion z⟩
      have sa : Same H' (upd H' a (exv a (He.ga K "BadKind") (some dd))) := same_new na
      have hx : ExcAt (upd H' a (exv a (He.ga K "BadKind") (some dd))) a (He.ga K "BadKind") (some [("part", v)]) := .caught dd _ upd_same (sa _ _ hd)
      refine ⟨_, rfl, ?_⟩
      refine ⟨_, rfl, a, _, _, _, _, true, rfl, hx, Tx.er_BadKind.exc, .own _, (Tx.ki_BadKind.own ("BadKind", true) (by simp)), _, rfl, iteT ?_⟩
      exact ⟨_, rfl, a, _, _, v, rfl, hx, Tx.er_BadKind.xf, Tx.er_BadKind.no "part" (by simp), rfl, le_line (n := 2) (by decide), fun t nt => ht _ t (sa.trans (same_new nt)) (sa.free nt) upd_same⟩
    · refine ⟨true, Tx.ex_BadNumber, fun _ a na => ?_, fun z => Bool.noConfusion z⟩
      have sa : Same H' (upd H' a (exv a (He.ga K "BadNumber") (some dd))) := same_new na
      have hx : ExcAt (upd H' a (exv a (He.ga K "BadNumber") (some dd))) a (He.ga K "BadNumber") (some [("part", v)]) := .caught dd _ upd_same (sa _ _ hd)
      refine ⟨_, rfl, ?_⟩
      refine ⟨_, rfl, a, _, _, _, _, false, rfl, hx, Tx.er_BadNumber.exc, .own _, (Tx.ki_BadNumber.own ("BadKind", false) (by simp)), _, rfl, iteF ?_⟩
      refine ⟨_, rfl, a, _, _, _, _, true, rfl, hx, Tx.er_BadNumber.exc, .own _, (Tx.ki_BadNumber.own ("BadNumber", true) (by simp)), _, rfl, iteT ?_⟩
      exact ⟨_, rfl, a, _, _, v, rfl, hx, Tx.er_BadNumber.xf, Tx.er_BadNumber.no "part" (by simp), rfl, le_line (n := 2) (by decide), fun t nt => ht _ t (sa.trans (same_new nt)) (sa.free nt) upd_same⟩
theorem heard_gives {X : Cx} {g : Addr} {cdg : Value} {qA : Str} (hK : K = X.K) (hmg : mg = X.mg) (Tx : Txt K mg) : GivesTo X ["_law_ask", "_law_caught", "error"] "_law_heard" (defScope s_law_heard) g cdg (defBody s_law_heard) "_law_ask" qA (TTh K) :=
  fun f c' s H Q tl act hc h => heard_givesV hK hmg Tx f (fun HZ => HZ c' = some (CodeO c' qA)) s H Q tl act hc h

end
end K47

namespace K47
open PySem PySem.Spec PyProof.Rows L2 Vf LamX
section
variable {hh : Heap} {P : Program} {w : World} {K : PySem.W.Frag} {mg : Str → Option Value} {base : Heap}
/-! ### what is told of two vectors -/
def dv (p : Int × Int) : PyData := .tuple [.int p.1, .int p.2]
theorem dp_v {H : Hp} {a : Addr} {p : Int × Int} (h : Tp H a p) : Dp K H (.ref a) (dv p) := .tup (SqT.of h) (.cons (.int _) (.cons (.int _) .nil))
theorem sh_v (p : Int × Int) : SeqAt.shaped (dv p) = true := by
  unfold SeqAt.shaped dv
  simp [PyData.canLay0, PyData.canLayAll0, PyData.depth, PyData.depthAll]
theorem eqv_vv (p q : Int × Int) : PyData.eqv (dv p) (dv q) = decide (p = q) := by
  obtain ⟨a, b⟩ := p
  obtain ⟨c, d⟩ := q
  have e : PyData.eqv (dv (a, b)) (dv (c, d)) = ((a == c) && ((b == d) && true)) := by simp only [dv, PyData.eqv, PyData.eqvAll]
  rw [e]
  by_cases h1 : a = c <;> by_cases h2 : b = d <;> simp [h1, h2]
theorem neF (x : V) : (!decide (x = x)) = false := by simp
theorem eqT (x : V) : decide (x = x) = true := by simp
theorem neV {p q : Int × Int} (h : p = q) : (!PyData.eqv (dv p) (dv q)) = false := by rw [eqv_vv, decide_eq_true h]; rfl
theorem eqV {p q : Int × Int} (h : p = q) : PyData.eqv (dv p) (dv q) = true := by rw [eqv_vv, decide_eq_true h]
theorem kt_grid {z : Str} {t : Int} (h : KT z t) : isGrid (.str z) = true := by
  rcases h with ⟨rfl, rfl⟩ | ⟨rfl, rfl⟩ <;> decide +kernel
theorem good_sq {z : Str} {v : V} {p : Int × Int} {H : Hp} {Q : VK} {E : XK} (g : isGrid (.str z) = true) (hv : VecAt H v p) (hs : Sm 400 p) (q : ∀ H', Same H H' → Q (.int (lenF z p)) H') : sp_square_of K [.str z, v] H Q E :=
  ⟨.str z, v, .str, true, rfl, True.intro, hv.v, fun e => absurd g (by rw [e] <;> decide), fun _ => ⟨fun e => Bool.noConfusion e, fun _ => ⟨z, p, rfl, hv, hs, q⟩⟩⟩
theorem good_fl {z : Str} {v : V} {p : Int × Int} {H : Hp} {Q : VK} {E : XK} (g : isGrid (.str z) = true) (hv : VecAt H v p) (q : ∀ H' t, Same H H' → H t = none → Tp H' t (flipF z p) → Q (.ref t) H') : sp_flipped K [.str z, v] H Q E :=
  ⟨.str z, v, .str, true, rfl, True.intro, hv.v, fun e => absurd g (by rw [e] <;> decide), fun _ => ⟨fun e => Bool.noConfusion e, fun _ => ⟨z, p, rfl, hv, q⟩⟩⟩
theorem good_ti {z : Str} {v u : V} {p p2 : Int × Int} {H : Hp} {Q : VK} {E : XK} (g : isGrid (.str z) = true) (hv : VecAt H v p) (hu : VecAt H u p2) (hs : Sm 400 p) (hs2 : Sm 400 p2) (q : ∀ H' t, Same H H' → H t = none → Tp H' t (bothF z p p2) → Q (.ref t) H') : sp_times K [.str z, v, u] H Q E :=
  ⟨.str z, v, u, .str, true, true, rfl, True.intro, hv.v, hu.v, fun e => absurd g (by rw [e] <;> decide), fun _ => ⟨fun e => Bool.noConfusion e, fun _ => ⟨fun e => Bool.noConfusion e, fun _ => ⟨z, p, p2, rfl, hv, hu, hs, hs2, q⟩⟩⟩⟩
theorem good_pr {z : Str} {v u : V} {p p2 : Int × Int} {H : Hp} {Q : VK} {E : XK} (g : isGrid (.str z) = true) (hv : VecAt H v p) (hu : VecAt H u p2) (hs : Sm 390 p) (hs2 : Sm 390 p2) (q : ∀ H', Same H H' → Q (.int (prodF z p p2)) H') : sp_product K [.str z, v, u] H Q E :=
  ⟨.str z, v, u, .str, true, true, rfl, True.intro, hv.v, hu.v, fun e => absurd g (by rw [e] <;> decide), fun _ => ⟨fun e => Bool.noConfusion e, fun _ => ⟨fun e => Bool.noConfusion e, fun _ => ⟨z, p, p2, rfl, hv, hu, hs, hs2, q⟩⟩⟩⟩
theorem good_tu {z : Str} {v : V} {p p2 : Int × Int} {m : Int} {H : Hp} {Q : VK} {E : XK} (g : isGrid (.str z) = true) (hv : VecAt H v p) (hm : (spunL z p)[(m % fullOf z).toNat]? = some p2) (q : ∀ H' t, Same H H' → H t = none → Tp H' t p2 → Q (.ref t) H') : sp_turned K [.str z, v, .int m] H Q E :=
  ⟨.str z, v, .int m, .str, .int, true, rfl, True.intro, hv.v, True.intro, fun e => absurd g (by rw [e] <;> decide), fun _ => ⟨fun e => Bool.noConfusion e, fun _ => ⟨fun e => Bool.noConfusion e, fun _ => ⟨z, p, m, p2, rfl, hv, rfl, hm, q⟩⟩⟩⟩
def dueF (t : Int) (p q : Int × Int) : Int := if t = 4 then 2 * ((wideF t p).1 * (wideF t q).1 + (wideF t p).2 * (wideF t q).2) else ((wideF t p).1 * (wideF t q).1 + 3 * (wideF t p).2 * (wideF t q).2) / 2
theorem due_prod {z : Str} {t : Int} (h : KT z t) (p q : Int × Int) : dueF t p q = prodF z p q := by
  rcases h with ⟨rfl, rfl⟩ | ⟨rfl, rfl⟩
  · exact (prod_two p q).symm
  · exact (prod_three p q).symm
def sp_law_two_right (K : PySem.W.Frag) : Sp := fun vs H Q _ => ∃ (z : Str) (t : Int) (a a2 : Addr) (p p2 : Int × Int), vs = [.str z, .int t, .ref a, .ref a2] ∧ KT z t ∧ Tp H a p ∧ Tp H a2 p2 ∧ Sm 70 p ∧ Sm 70 p2 ∧ ∀ H', Same H H' → Q (.bl true) H'
theorem sc_law_two_right : FnScope ["_law_kind", "_law_turn", "_law_one", "_law_other", "_law_x", "_law_y", "_law_u", "_law_v", "_law_due", "_law_whole"] ["_law_kind", "_law_turn", "_law_one", "_law_other"] (defScope s_law_two_right) := ⟨rfl, rfl, rfl, by decide +kernel, rfl, by decide +kernel, by decide +kernel⟩
theorem ok_law_two_right {f : Addr} {fd : FuncData} (F : FunD K "_law_two_right" "_law_two_right" (defArgs s_law_two_right) (defBody s_law_two_right) (defScope s_law_two_right) [] [] f fd) (Tx : Txt K mg) (h_law_wide : Has P w K mg base "_law_wide" 1 ["_law_turn", "_law_vector_here"] (sp_law_wide K)) (h_square_of : HasX P w K mg base "square_of" 5 ["kind", "vector"] (sp_square_of K)) (h_law_norm : Has P w K mg base "_law_norm" 2 ["_law_turn", "_law_vector_here"] (sp_law_norm K)) (h_product : HasX P w K mg base "product" 5 ["kind", "one", "other"] (sp_product K)) (h_times : HasX P w K mg base "times" 5 ["kind", "one", "other"] (sp_times K)) (h_law_times : Has P w K mg base "_law_times" 2 ["_law_turn", "_law_one", "_law_other"] (sp_law_times K)) (h_law_mirror : Has P w K mg base "_law_mirror" 2 ["_law_turn", "_law_vector_here"] (sp_law_mirror K)) (h_square_of_kw : HasKX P w K mg base "square_of" 5 ["kind", "vector"] ["vector", "kind"] gk10 (sp_square_of K)) (h_product_kw : HasKX P w K mg base "product" 5 ["kind", "one", "other"] ["other", "one", "kind"] gk210 (sp_product K)) (h_times_kw : HasKX P w K mg base "times" 5 ["kind", "one", "other"] ["kind", "one", "other"] gk012 (sp_times K)) (h_flipped_kw : HasKX P w K mg base "flipped" 5 ["kind", "vector"] ["kind", "vector"] gk01 (sp_flipped K)) : FnOk P w K mg base CX0 6 f fd ["_law_kind", "_law_turn", "_law_one", "_law_other"] (sp_law_two_right K) := by
  obtain ⟨f_law_wide, fd_law_wide, G_law_wide, g_law_wide, k_law_wide, b_law_wide⟩ := h_law_wide
  obtain ⟨f_square_of, fd_square_of, G_square_of, g_square_of, k_square_of, b_square_of⟩ := h_square_of
  obtain ⟨f_law_norm, fd_law_norm, G_law_norm, g_law_norm, k_law_norm, b_law_norm⟩ := h_law_norm
  obtain ⟨f_product, fd_product, G_product, g_product, k_product, b_product⟩ := h_product
  obtain ⟨f_times, fd_times, G_times, g_times, k_times, b_times⟩ := h_times
  obtain ⟨f_law_times, fd_law_times, G_law_times, g_law_times, k_law_times, b_law_times⟩ := h_law_times
  obtain ⟨f_law_mirror, fd_law_mirror, G_law_mirror, g_law_mirror, k_law_mirror, b_law_mirror⟩ := h_law_mirror
  obtain ⟨f_square_of_kw, fd_square_of_kw, gg_square_of_kw, G_square_of_kw, g_square_of_kw, k_square_of_kw, b_square_of_kw⟩ := h_square_of_kw
  obtain ⟨f_product_kw, fd_product_kw, gg_product_kw, G_product_kw, g_product_kw, k_product_kw, b_product_kw⟩ := h_product_kw
  obtain ⟨f_times_kw, fd_times_kw, gg_times_kw, G_times_kw, g_times_kw, k_times_kw, b_times_kw⟩ := h_times_kw
  obtain ⟨f_flipped_kw, fd_flipped_kw, gg_flipped_kw, G_flipped_kw, g_flipped_kw, k_flipped_kw, b_flipped_kw⟩ := h_flipped_kw
  refine FunD.ok F sc_law_two_right (fun vs H Q E h => ?_) (fun cdv A outer s H vs Q E hr h => ?_)
  · obtain ⟨z, t, a, a2, p, p2, rfl, _⟩ := h
    rfl
  · obtain ⟨z, t, a, a2, p, p2, rfl, kt, ha, ha2, hs, hs2, q⟩ := h
    have g := kt_grid kt
    refine ⟨_, PSs.nox (pss_cons (ps_asg (pe_tup (pa_cons (pe_call G_law_wide (hr.mono (by decide)) (by rfl) g_law_wide k_law_wide b_law_wide .nil pass0 (pa_cons (pv 1) (pa_cons (pv 2) pa_nil))) (pa_cons (pe_call G_law_wide (hr.mono (by decide)) (by rfl) g_law_wide k_law_wide b_law_wide .nil pass0 (pa_cons (pv 1) (pa_cons (pv 3) pa_nil))) pa_nil))) (pg_tup (by rfl) (pgs_cons (pg_tup (by rfl) (pgs_cons (pg_name (i := 4) sc_law_two_right.nd rfl (Or.inl rfl)) (pgs_cons (pg_name (i := 5) sc_law_two_right.nd rfl (Or.inl rfl)) pgs_nil))) (pgs_cons (pg_tup (by rfl) (pgs_cons (pg_name (i := 6) sc_law_two_right.nd rfl (Or.inl rfl)) (pgs_cons (pg_name (i := 7) sc_law_two_right.nd rfl (Or.inl rfl)) pgs_nil))) pgs_nil))))
        (C8.pss_cut (ps_set (i := 8) sc_law_two_right.nd rfl (Or.inl rfl) (pe_ifExp (pt_cmpR op_eq (pv 1) pe_int (nomark _)) (pe_op op_mulW pe_int (pe_op op_add (pe_op op_mulW (pv 4) (pv 6)) (pe_op op_mulW (pv 5) (pv 7)))) (pe_op op_fdiv (pe_op op_add (pe_op op_mulW (pv 4) (pv 6)) (pe_op op_mulW (pe_op op_mulW pe_int (pv 5)) (pv 7))) pe_int)))
        (pss_cons (ps_if (PW.pt (pw_or (pt_cmpR op_ne (pe_call G_square_of (hr.mono (by decide)) (by rfl) g_square_of k_square_of b_square_of .nil passN (pa_cons (pv 0) (pa_cons (pv 2) pa_nil))) (pe_call G_law_norm (hr.mono (by decide)) (by rfl) g_law_norm k_law_norm b_law_norm .nil pass0 (pa_cons (pv 1) (pa_cons (pv 2) pa_nil))) (nomark _)) (pw_or1 (pt_cmpR op_ne (pe_callK0 G_square_of_kw (hr.mono (by decide)) (by rfl) g_square_of_kw k_square_of_kw b_square_of_kw passN (pk_cons (pe_callTy call_list_of (by rfl) Tx.n_list (by decide +kernel) (pa_cons (pv 3) pa_nil)) (pk_cons (pv 0) pk_nil))) (pe_call G_law_norm (hr.mono (by decide)) (by rfl) g_law_norm k_law_norm b_law_norm .nil pass0 (pa_cons (pv 1) (pa_cons (pv 3) pa_nil))) (nomark _))))) (pss_one (ps_ret pe_bl)) pss_nil)
        (pss_cons (ps_if (PW.pt (pw_or (pt_cmpR op_ne (pe_call G_product (hr.mono (by decide)) (by rfl) g_product k_product b_product .nil passN (pa_cons (pv 0) (pa_cons (pv 2) (pa_cons (pv 3) pa_nil)))) (pv 8) (nomark _)) (pw_or1 (pt_cmpR op_ne (pe_callK0 G_product_kw (hr.mono (by decide)) (by rfl) g_product_kw k_product_kw b_product_kw passN (pk_cons (pe_callTy call_list_of (by rfl) Tx.n_list (by decide +kernel) (pa_cons (pv 2) pa_nil)) (pk_cons (pv 3) (pk_cons (pv 0) pk_nil)))) (pv 8) (nomark _))))) (pss_one (ps_ret pe_bl)) pss_nil)
        (pss_cons (ps_if (PW.pt (pw_or (pt_cmpR (op_neD hr.units) (pe_call G_times (hr.mono (by decide)) (by rfl) g_times k_times b_times .nil passN (pa_cons (pv 0) (pa_cons (pv 2) (pa_cons (pv 3) pa_nil)))) (pe_call G_law_times (hr.mono (by decide)) (by rfl) g_law_times k_law_times b_law_times .nil pass0 (pa_cons (pv 1) (pa_cons (pv 2) (pa_cons (pv 3) pa_nil)))) (nomark _)) (pw_or1 (pt_cmpR (op_neD hr.units) (pe_callK0 G_times_kw (hr.mono (by decide)) (by rfl) g_times_kw k_times_kw b_times_kw passN (pk_cons (pv 0) (pk_cons (pe_callTy call_list_of (by rfl) Tx.n_list (by decide +kernel) (pa_cons (pv 3) pa_nil)) (pk_cons (pv 2) pk_nil)))) (pe_call G_law_times (hr.mono (by decide)) (by rfl) g_law_times k_law_times b_law_times .nil pass0 (pa_cons (pv 1) (pa_cons (pv 2) (pa_cons (pv 3) pa_nil)))) (nomark _))))) (pss_one (ps_ret pe_bl)) pss_nil)
        (pss_cons (ps_set (i := 9) sc_law_two_right.nd rfl (Or.inl rfl) (pe_call G_square_of (hr.mono (by decide)) (by rfl) g_square_of k_square_of b_square_of .nil passN (pa_cons (pv 0) (pa_cons (pe_call G_times (hr.mono (by decide)) (by rfl) g_times k_times b_times .nil passN (pa_cons (pv 0) (pa_cons (pv 2) (pa_cons (pv 3) pa_nil)))) pa_nil))))
        (pss_one (ps_ret (pe_and (pe_cmpR op_eq (pv 9) (pe_op op_mulW (pe_call G_square_of (hr.mono (by decide)) (by rfl) g_square_of k_square_of b_square_of .nil passN (pa_cons (pv 0) (pa_cons (pv 2) pa_nil))) (pe_call G_square_of (hr.mono (by decide)) (by rfl) g_square_of k_square_of b_square_of .nil passN (pa_cons (pv 0) (pa_cons (pv 3) pa_nil)))) (nomark _)) (pe_one (pe_cmpR (op_eqD hr.units) (pe_callK0 G_flipped_kw (hr.mono (by decide)) (by rfl) g_flipped_kw k_flipped_kw b_flipped_kw passN (pk_cons (pv 0) (pk_cons (pe_callTy call_list_of (by rfl) Tx.n_list (by decide +kernel) (pa_cons (pv 2) pa_nil)) pk_nil))) (pe_call G_law_mirror (hr.mono (by decide)) (by rfl) g_law_mirror k_law_mirror b_law_mirror .nil pass0 (pa_cons (pv 1) (pa_cons (pv 2) pa_nil))) (nomark _)))))))))))), ?_⟩
    refine ⟨_, rfl, _, rfl, t, a, p, rfl, ha, hs.le (by decide), fun H1 r1 s1 e1 => ?_⟩
    refine ⟨_, rfl, _, rfl, t, a2, p2, rfl, s1 _ _ ha2, hs2.le (by decide), fun H2 r2 s2 e2 => ?_⟩
    replace e1 := s2 _ _ e1
    refine ⟨le_line (n := 2) (by decide), fun T nT => ?_⟩
    have sT := same_new (o := .tup [.ref r1, .ref r2]) nT
    refine ⟨_, _, rfl, SqT.of upd_same, rfl, _, _, rfl, _, _, rfl, SqT.of (sT _ _ e1), rfl, _, _, rfl, _, _, rfl, rfl, _, _, rfl, _, _, rfl, SqT.of (sT _ _ e2), rfl, _, _, rfl, _, _, rfl, rfl, rfl, ?_⟩
    have s3 := (s1.trans s2).trans sT
    have a3 := s3 _ _ ha
    have b3 := s3 _ _ ha2
    clear e1 e2
    revert s3 a3 b3
    generalize upd H2 T (.tup [.ref r1, .ref r2]) = H3
    intro s3 a3 b3
    have ws := wide_sm (t := t) hs
    have ws2 := wide_sm (t := t) hs2
    have hdue := due_prod kt p p2
    unfold dueF at hdue
    have hnorm := norm_len kt
    have htim := tim_both kt
    have hmir := mir_flip kt
    generalize wideF t p = w at *
    generalize wideF t p2 = u at *
    refine ⟨fun σ H' => H' = H3 ∧ σ = [some (.str z), some (.int t), some (.ref a), some (.ref a2), some (.int w.1), some (.int w.2), some (.int u.1), some (.int u.2), some (.int (prodF z p p2)), none], ?_, ?_⟩
    · refine ⟨_, rfl, rfl, _, rfl, ?_⟩
      rw [dec_int]
      have h11 : CMulW w.1 u.1 := ws.1.cm ws2.1
      have h22 : CMulW w.2 u.2 := ws.2.cm ws2.2
      have h3 : CMulW (3 * w.2) u.2 := (wi3 ws.2).cm ws2.2
      have hD : CMulW 3 w.2 := Wi.cm (m := 2) (by unfold Wi; decide) ws.2
      have h2 : CMulW 2 (w.1 * u.1 + w.2 * u.2) := Wi.cm (m := 2) (n := 150) (by unfold Wi; decide) (((ws.1.mul ws2.1).add (ws.2.mul ws2.2)).le (by decide))
      rw [← hdue]
      by_cases e : t = 4
      · rw [eq4 e, if_pos e]
        exact iteT ⟨_, rfl, _, rfl, _, _, rfl, rfl, h11, _, rfl, _, rfl, _, _, rfl, rfl, h22, _, _, rfl, rfl, _, _, rfl, rfl, h2, rfl, rfl⟩
      · rw [ne4 e, if_neg e]
        exact iteF ⟨_, rfl, _, rfl, _, _, rfl, rfl, h11, _, rfl, _, _, rfl, rfl, hD, _, rfl, _, _, rfl, rfl, h3, _, _, rfl, rfl, _, _, rfl, rfl, ⟨by decide, by decide⟩, rfl, rfl⟩
    · rintro σ H' ⟨rfl, rfl⟩
      clear hdue ws ws2
      -- the squares
      refine ⟨_, rfl, _, rfl, _, _, .str, true, rfl, True.intro, (VecAt.tup a3).v, (fun e => absurd g (by rw [e] <;> decide)), fun _ => ⟨(fun e => Bool.noConfusion e), fun _ => ⟨z, _, rfl, (VecAt.tup a3), (hs.le (by decide)), fun H4 s4 => ?_⟩⟩⟩
      refine ⟨_, rfl, _, rfl, t, a, p, rfl, s4 _ _ a3, hs.le (by decide), fun H5 s5 => ?_⟩
      rw [hnorm]
      refine ⟨rfl, _, rfl, ?_⟩
      rw [neF]
      have s45 := s4.trans s5
      refine iteF ⟨_, rfl, a2, _, rfl, .inr (SqT.of (s45 _ _ b3)), fun l nl => ?_⟩
      have sl := same_new (o := .lst [.int p2.1, .int p2.2]) nl
      refine ⟨_, rfl, rfl, rfl, _, _, .str, true, rfl, True.intro, (VecAt.lst upd_same).v, (fun e => absurd g (by rw [e] <;> decide)), fun _ => ⟨(fun e => Bool.noConfusion e), fun _ => ⟨z, _, rfl, (VecAt.lst upd_same), (hs2.le (by decide)), fun H6 s6 => ?_⟩⟩⟩
      refine ⟨_, rfl, _, rfl, t, a2, p2, rfl, s6 _ _ (sl _ _ (s45 _ _ b3)), hs2.le (by decide), fun H7 s7 => ?_⟩
      rw [hnorm]
      refine ⟨rfl, _, rfl, ?_⟩
      rw [neF]
      have c1 := (((s45.trans sl).trans s6).trans s7)
      have a7 := c1 _ _ a3
      have b7 := c1 _ _ b3
      have k7 := s3.trans c1
      clear c1 s45 sl s4 s5 s6 s7 a3 b3 s3 nl
      -- the products
      refine iteF ⟨_, rfl, _, rfl, _, rfl, _, _, _, .str, true, true, rfl, True.intro, (VecAt.tup a7).v, (VecAt.tup b7).v, (fun e => absurd g (by rw [e] <;> decide)), fun _ => ⟨(fun e => Bool.noConfusion e), fun _ => ⟨(fun e => Bool.noConfusion e), fun _ => ⟨z, _, _, rfl, (VecAt.tup a7), (VecAt.tup b7), (hs.le (by decide)), (hs2.le (by decide)), fun H8 s8 => ?_⟩⟩⟩⟩
      refine ⟨_, rfl, rfl, _, rfl, ?_⟩
      rw [neF]
      refine iteF ⟨_, rfl, a, _, rfl, .inr (SqT.of (s8 _ _ a7)), fun l nl => ?_⟩
      have sl := same_new (o := .lst [.int p.1, .int p.2]) nl
      refine ⟨_, rfl, _, rfl, rfl, rfl, _, _, _, .str, true, true, rfl, True.intro, (VecAt.tup (sl _ _ (s8 _ _ b7))).v, (VecAt.lst upd_same).v, (fun e => absurd g (by rw [e] <;> decide)), fun _ => ⟨(fun e => Bool.noConfusion e), fun _ => ⟨(fun e => Bool.noConfusion e), fun _ => ⟨z, _, _, rfl, (VecAt.tup (sl _ _ (s8 _ _ b7))), (VecAt.lst upd_same), (hs2.le (by decide)), (hs.le (by decide)), fun H9 s9 => ?_⟩⟩⟩⟩
      rw [prod_comm z p2 p]
      refine ⟨_, rfl, rfl, _, rfl, ?_⟩
      rw [neF]
      have c1 := ((s8.trans sl).trans s9)
      have a9 := c1 _ _ a7
      have b9 := c1 _ _ b7
      have k9 := k7.trans c1
      clear c1 sl s8 s9 a7 b7 k7 nl
      -- one times the other
      refine iteF ⟨_, rfl, _, rfl, _, rfl, _, _, _, .str, true, true, rfl, True.intro, (VecAt.tup a9).v, (VecAt.tup b9).v, (fun e => absurd g (by rw [e] <;> decide)), fun _ => ⟨(fun e => Bool.noConfusion e), fun _ => ⟨(fun e => Bool.noConfusion e), fun _ => ⟨z, _, _, rfl, (VecAt.tup a9), (VecAt.tup b9), (hs.le (by decide)), (hs2.le (by decide)), fun HA ra sA nA eA => ?_⟩⟩⟩⟩
      refine ⟨_, rfl, _, rfl, _, rfl, t, a, a2, p, p2, rfl, sA _ _ a9, sA _ _ b9, hs.le (by decide), hs2.le (by decide), fun HB rb sB nB eB => ?_⟩
      refine ⟨dv _, dv _, dp_v (sB _ _ eA), dp_v eB, sh_v _, sh_v _, _, rfl, ?_⟩
      rw [neV (htim p p2).symm]
      have c1 := sA.trans sB
      have aB := c1 _ _ a9
      have bB := c1 _ _ b9
      refine iteF ⟨_, rfl, _, rfl, a2, _, rfl, .inr (SqT.of bB), fun l nl => ?_⟩
      have sl := same_new (o := .lst [.int p2.1, .int p2.2]) nl
      refine ⟨_, rfl, rfl, rfl, _, _, _, .str, true, true, rfl, True.intro, (VecAt.lst upd_same).v, (VecAt.tup (sl _ _ aB)).v, (fun e => absurd g (by rw [e] <;> decide)), fun _ => ⟨(fun e => Bool.noConfusion e), fun _ => ⟨(fun e => Bool.noConfusion e), fun _ => ⟨z, _, _, rfl, (VecAt.lst upd_same), (VecAt.tup (sl _ _ aB)), (hs2.le (by decide)), (hs.le (by decide)), fun HC rc sC nC eC => ?_⟩⟩⟩⟩
      have c2 := (c1.trans sl).trans sC
      refine ⟨_, rfl, _, rfl, _, rfl, t, a, a2, p, p2, rfl, c2 _ _ a9, c2 _ _ b9, hs.le (by decide), hs2.le (by decide), fun HD rd sD nD eD => ?_⟩
      refine ⟨dv _, dv _, dp_v (sD _ _ eC), dp_v eD, sh_v _, sh_v _, _, rfl, ?_⟩
      rw [neV ((both_comm z p2 p).trans (htim p p2).symm)]
      have c3 := c2.trans sD
      have aD := c3 _ _ a9
      have bD := c3 _ _ b9
      have kD := k9.trans c3
      clear c1 c2 c3 a9 b9 k9 eA eB eC eD sA sB sC sD sl nl aB bB nA nB nC nD
      -- the square of the product
      refine iteF ⟨_, rfl, _, rfl, _, rfl, _, rfl, _, _, _, .str, true, true, rfl, True.intro, (VecAt.tup aD).v, (VecAt.tup bD).v, (fun e => absurd g (by rw [e] <;> decide)), fun _ => ⟨(fun e => Bool.noConfusion e), fun _ => ⟨(fun e => Bool.noConfusion e), fun _ => ⟨z, _, _, rfl, (VecAt.tup aD), (VecAt.tup bD), (hs.le (by decide)), (hs2.le (by decide)), fun HE re sE nE eE => ?_⟩⟩⟩⟩
      have sB : Sm 400 (bothF z p p2) := by
        rw [← htim p p2]
        exact (tim_sm hs hs2).le (by decide)
      refine ⟨_, _, .str, true, rfl, True.intro, (VecAt.tup eE).v, (fun e => absurd g (by rw [e] <;> decide)), fun _ => ⟨(fun e => Bool.noConfusion e), fun _ => ⟨z, _, rfl, (VecAt.tup eE), sB, fun HF sF => ?_⟩⟩⟩
      have c1 := sE.trans sF
      have aF := c1 _ _ aD
      have bF := c1 _ _ bD
      refine ⟨_, rfl, _, rfl, _, rfl, _, _, .str, true, rfl, True.intro, (VecAt.tup aF).v, (fun e => absurd g (by rw [e] <;> decide)), fun _ => ⟨(fun e => Bool.noConfusion e), fun _ => ⟨z, _, rfl, (VecAt.tup aF), (hs.le (by decide)), fun HG sG => ?_⟩⟩⟩
      refine ⟨_, rfl, _, rfl, _, _, .str, true, rfl, True.intro, (VecAt.tup (sG _ _ bF)).v, (fun e => absurd g (by rw [e] <;> decide)), fun _ => ⟨(fun e => Bool.noConfusion e), fun _ => ⟨z, _, rfl, (VecAt.tup (sG _ _ bF)), (hs2.le (by decide)), fun HI sI => ?_⟩⟩⟩
      refine ⟨_, _, rfl, rfl, (lenF_wi hs).cm (lenF_wi hs2), rfl, ?_⟩
      rw [len_both, eqT]
      have c2 := (c1.trans sG).trans sI
      have aI := c2 _ _ aD
      refine ⟨_, rfl, iteT ⟨_, rfl, _, rfl, a, _, rfl, .inr (SqT.of aI), fun l nl => ?_⟩⟩
      have sl := same_new (o := .lst [.int p.1, .int p.2]) nl
      refine ⟨rfl, rfl, _, _, .str, true, rfl, True.intro, (VecAt.lst upd_same).v, (fun e => absurd g (by rw [e] <;> decide)), fun _ => ⟨(fun e => Bool.noConfusion e), fun _ => ⟨z, _, rfl, (VecAt.lst upd_same), fun HJ rj sJ nJ eJ => ?_⟩⟩⟩
      have c3 := (c2.trans sl).trans sJ
      refine ⟨_, rfl, _, rfl, t, a, p, rfl, c3 _ _ aD, hs.le (by decide), fun HK rk sK nK eK => ?_⟩
      refine ⟨dv _, dv _, dp_v (sK _ _ eJ), dp_v eK, sh_v _, sh_v _, ?_⟩
      rw [eqV (hmir p).symm]
      exact q _ (kD.trans (c3.trans sK))
theorem has_law_two_right (Tx : Txt K mg) (c : He.SaysX fa fn [] tf ex w hh K) (X : K.In hh) (GG : hh.Ns mainGlobals mg) (h_law_wide : Has P w K mg base "_law_wide" 1 ["_law_turn", "_law_vector_here"] (sp_law_wide K)) (h_square_of : HasX P w K mg base "square_of" 5 ["kind", "vector"] (sp_square_of K)) (h_law_norm : Has P w K mg base "_law_norm" 2 ["_law_turn", "_law_vector_here"] (sp_law_norm K)) (h_product : HasX P w K mg base "product" 5 ["kind", "one", "other"] (sp_product K)) (h_times : HasX P w K mg base "times" 5 ["kind", "one", "other"] (sp_times K)) (h_law_times : Has P w K mg base "_law_times" 2 ["_law_turn", "_law_one", "_law_other"] (sp_law_times K)) (h_law_mirror : Has P w K mg base "_law_mirror" 2 ["_law_turn", "_law_vector_here"] (sp_law_mirror K)) (h_square_of_kw : HasKX P w K mg base "square_of" 5 ["kind", "vector"] ["vector", "kind"] gk10 (sp_square_of K)) (h_product_kw : HasKX P w K mg base "product" 5 ["kind", "one", "other"] ["other", "one", "kind"] gk210 (sp_product K)) (h_times_kw : HasKX P w K mg base "times" 5 ["kind", "one", "other"] ["kind", "one", "other"] gk012 (sp_times K)) (h_flipped_kw : HasKX P w K mg base "flipped" 5 ["kind", "vector"] ["kind", "vector"] gk01 (sp_flipped K)) : Has P w K mg base "_law_two_right" 6 ["_law_kind", "_law_turn", "_law_one", "_law_other"] (sp_law_two_right K) := by
  obtain ⟨fd, F⟩ := c.t.d.def_ 34 (d := d_law_two_right) rfl
  exact ⟨_, fd, ok_law_two_right F Tx h_law_wide h_square_of h_law_norm h_product h_times h_law_times h_law_mirror h_square_of_kw h_product_kw h_times_kw h_flipped_kw, He.glo_ok X GG (c.t.d.fact 35 (f := .glo "_law_two_right") rfl), F.kp, F.bindsN fun _ _ _ _ _ _ us hl => match us, hl with | [_, _, _, _], _ => rfl⟩
/-! ### turns -/
theorem step4 (a b : Int) : timF 4 (a, b) (0, 1) = (-b, a) := by
  rw [tim_both (z := "square") (.inl ⟨rfl, rfl⟩)]
  unfold bothF
  rw [if_pos rfl]
  refine Prod.ext ?_ ?_ <;> dsimp only <;> omega
theorem step3 (a b : Int) : timF 3 (a, b) (0, 1) = (-b, a + b) := by
  rw [tim_both (z := "triangle") (.inr ⟨rfl, rfl⟩)]
  unfold bothF
  rw [if_neg (by decide)]
  refine Prod.ext ?_ ?_ <;> dsimp only <;> omega
theorem full_sq : fullOf "square" = 4 := rfl
theorem full_tr : fullOf "triangle" = 6 := rfl
theorem spun_tur {z : Str} {t : Int} (h : KT z t) (p : Int × Int) (m : Nat) (hm : m < (fullOf z).toNat) : (spunL z p)[m]? = some (turF t p m) := by
  obtain ⟨a, b⟩ := p
  rcases h with ⟨rfl, rfl⟩ | ⟨rfl, rfl⟩
  · have hm : m < 4 := hm
    have e : spunL "square" (a, b) = [(a, b), (-b, a), (-a, -b), (b, -a)] := rfl
    rw [e]
    match m, hm with
    | 0, _ => rfl
    | 1, _ => simp [turF, step4]
    | 2, _ => simp [turF, step4]
    | 3, _ => simp [turF, step4]
  · have hm : m < 6 := hm
    have e : spunL "triangle" (a, b) = [(a, b), (-b, a + b), (-a - b, a), (-a, -b), (b, -a - b), (a + b, -a)] := rfl
    rw [e]
    match m, hm with
    | 0, _ => rfl
    | 1, _ => simp [turF, step3]
    | 2, _ => simp [turF, step3]; omega
    | 3, _ => simp [turF, step3]; omega
    | 4, _ => simp [turF, step3]; omega
    | 5, _ => simp [turF, step3]; omega
theorem spun_back {z : Str} {t : Int} (h : KT z t) {p q : Int × Int} {m : Nat} (hq : (spunL z p)[m]? = some q) : (spunL z (flipF z q))[m]? = some (flipF z p) := by
  obtain ⟨a, b⟩ := p
  rcases h with ⟨rfl, rfl⟩ | ⟨rfl, rfl⟩
  · have e : spunL "square" (a, b) = [(a, b), (-b, a), (-a, -b), (b, -a)] := rfl
    have f : ∀ c d : Int, flipF "square" (c, d) = (c, -d) := fun _ _ => rfl
    have g : ∀ c d : Int, spunL "square" (c, d) = [(c, d), (-d, c), (-c, -d), (d, -c)] := fun _ _ => rfl
    rw [e] at hq
    match m, hq with
    | 0, hq => cases hq; rw [f, g]; rfl
    | 1, hq => cases hq; rw [f, f, g]; simp
    | 2, hq => cases hq; rw [f, f, g]; simp
    | 3, hq => cases hq; rw [f, f, g]; simp
    | (j + 4), hq => cases hq
  · have f : ∀ c d : Int, flipF "triangle" (c, d) = (c + d, -d) := fun _ _ => rfl
    have g : ∀ c d : Int, spunL "triangle" (c, d) = [(c, d), (-d, c + d), (-c - d, c), (-c, -d), (d, -c - d), (c + d, -c)] := fun _ _ => rfl
    rw [g] at hq
    match m, hq with
    | 0, hq => cases hq; rw [f, g]; rfl
    | 1, hq => cases hq; rw [f, f, g]; simp; omega
    | 2, hq => cases hq; rw [f, f, g]; simp; omega
    | 3, hq => cases hq; rw [f, f, g]; simp; omega
    | 4, hq => cases hq; rw [f, f, g]; simp; omega
    | 5, hq => cases hq; rw [f, f, g]; simp; omega
    | (j + 6), hq => cases hq
theorem spun0 (z : Str) (p : Int × Int) : (spunL z p)[0]? = some p := by
  unfold spunL
  split <;> rfl
theorem full_kt {z : Str} {t : Int} (h : KT z t) : (if t = 4 then (4 : Int) else 6) = fullOf z := by
  rcases h with ⟨rfl, rfl⟩ | ⟨rfl, rfl⟩ <;> rfl
theorem full_le (z : Str) : fullOf z ≤ 6 := by
  unfold fullOf
  split <;> decide
def sp_law_turns_right (K : PySem.W.Frag) : Sp := fun vs H Q _ => ∃ (z : Str) (t : Int) (a : Addr) (p : Int × Int) (m : Int), vs = [.str z, .int t, .ref a, .int m] ∧ KT z t ∧ Tp H a p ∧ Sm 70 p ∧ ∀ H', Same H H' → Q (.bl true) H'
theorem sc_law_turns_right : FnScope ["_law_kind", "_law_turn", "_law_vector_here", "_law_many", "_law_full", "_law_back"] ["_law_kind", "_law_turn", "_law_vector_here", "_law_many"] (defScope s_law_turns_right) := ⟨rfl, rfl, rfl, by decide +kernel, rfl, by decide +kernel, by decide +kernel⟩
theorem ok_law_turns_right {f : Addr} {fd : FuncData} (F : FunD K "_law_turns_right" "_law_turns_right" (defArgs s_law_turns_right) (defBody s_law_turns_right) (defScope s_law_turns_right) [] [] f fd) (Tx : Txt K mg) (h_turned : HasX P w K mg base "turned" 5 ["kind", "vector", "many"] (sp_turned K)) (h_law_turned : Has P w K mg base "_law_turned" 3 ["_law_turn", "_law_vector_here", "_law_many"] (sp_law_turned K)) (h_flipped : HasX P w K mg base "flipped" 5 ["kind", "vector"] (sp_flipped K)) (h_turned_kw : HasKX P w K mg base "turned" 5 ["kind", "vector", "many"] ["many", "vector", "kind"] gk210 (sp_turned K)) : FnOk P w K mg base CX0 6 f fd ["_law_kind", "_law_turn", "_law_vector_here", "_law_many"] (sp_law_turns_right K) := by
  obtain ⟨f_turned, fd_turned, G_turned, g_turned, k_turned, b_turned⟩ := h_turned
  obtain ⟨f_law_turned, fd_law_turned, G_law_turned, g_law_turned, k_law_turned, b_law_turned⟩ := h_law_turned
  obtain ⟨f_flipped, fd_flipped, G_flipped, g_flipped, k_flipped, b_flipped⟩ := h_flipped
  obtain ⟨f_turned_kw, fd_turned_kw, gg_turned_kw, G_turned_kw, g_turned_kw, k_turned_kw, b_turned_kw⟩ := h_turned_kw
  refine FunD.ok F sc_law_turns_right (fun vs H Q E h => ?_) (fun cdv A outer s H vs Q E hr h => ?_)
  · obtain ⟨z, t, a, p, m, rfl, _⟩ := h
    rfl
  · obtain ⟨z, t, a, p, m, rfl, kt, ha, hs, q⟩ := h
    have g := kt_grid kt
    have fp := full_pos z
    have fl := full_le z
    have inR : ∀ i : Int, 0 ≤ i % fullOf z ∧ i % fullOf z ≤ 6 ∧ (spunL z p)[(i % fullOf z).toNat]? = some (turF t p (i % fullOf z).toNat) := fun i => by
      have h0 := Int.emod_nonneg i (b := fullOf z) (by omega)
      have h1 := Int.emod_lt_of_pos i fp
      exact ⟨h0, by omega, spun_tur kt p _ (by omega)⟩
    refine ⟨_, PSs.nox (C8.pss_cut (ps_set (i := 4) sc_law_turns_right.nd rfl (Or.inl rfl) (pe_ifExp (pt_cmpR op_eq (pv 1) pe_int (nomark _)) pe_int pe_int))
        (pss_cons (ps_if (pt_cmpR (op_neD hr.units) (pe_call G_turned (hr.mono (by decide)) (by rfl) g_turned k_turned b_turned .nil passN (pa_cons (pv 0) (pa_cons (pv 2) (pa_cons (pv 3) pa_nil)))) (pe_call G_law_turned (hr.mono (by decide)) (by rfl) g_law_turned k_law_turned b_law_turned .nil pass0 (pa_cons (pv 1) (pa_cons (pv 2) (pa_cons (pe_op op_mod (pe_callTy call_int1 (by rfl) Tx.n_int (by decide +kernel) (pa_cons (pv 3) pa_nil)) (pv 4)) pa_nil)))) (nomark _)) (pss_one (ps_ret pe_bl)) pss_nil)
        (pss_cons (ps_if (pt_cmpR (op_neD hr.units) (pe_callK0 G_turned_kw (hr.mono (by decide)) (by rfl) g_turned_kw k_turned_kw b_turned_kw passN (pk_cons (pe_un un_neg (pv 3)) (pk_cons (pe_callTy call_list_of (by rfl) Tx.n_list (by decide +kernel) (pa_cons (pv 2) pa_nil)) (pk_cons (pv 0) pk_nil)))) (pe_call G_law_turned (hr.mono (by decide)) (by rfl) g_law_turned k_law_turned b_law_turned .nil pass0 (pa_cons (pv 1) (pa_cons (pv 2) (pa_cons (pe_op op_mod (pe_callTy call_int1 (by rfl) Tx.n_int (by decide +kernel) (pa_cons (pe_un un_neg (pv 3)) pa_nil)) (pv 4)) pa_nil)))) (nomark _)) (pss_one (ps_ret pe_bl)) pss_nil)
        (pss_cons (ps_set (i := 5) sc_law_turns_right.nd rfl (Or.inl rfl) (pe_call G_turned (hr.mono (by decide)) (by rfl) g_turned k_turned b_turned .nil passN (pa_cons (pv 0) (pa_cons (pe_call G_flipped (hr.mono (by decide)) (by rfl) g_flipped k_flipped b_flipped .nil passN (pa_cons (pv 0) (pa_cons (pe_call G_turned (hr.mono (by decide)) (by rfl) g_turned k_turned b_turned .nil passN (pa_cons (pv 0) (pa_cons (pv 2) (pa_cons (pv 3) pa_nil)))) pa_nil))) (pa_cons (pv 3) pa_nil)))))
        (pss_one (ps_ret (pe_and (pe_cmpR (op_eqD hr.units) (pv 5) (pe_call G_flipped (hr.mono (by decide)) (by rfl) g_flipped k_flipped b_flipped .nil passN (pa_cons (pv 0) (pa_cons (pv 2) pa_nil))) (nomark _)) (pe_and (pe_cmpR (op_eqD hr.units) (pe_call G_turned (hr.mono (by decide)) (by rfl) g_turned k_turned b_turned .nil passN (pa_cons (pv 0) (pa_cons (pv 2) (pa_cons (pv 4) pa_nil)))) (pv 2) (nomark _)) (pe_one (pe_cmpR (op_eqD hr.units) (pe_call G_turned (hr.mono (by decide)) (by rfl) g_turned k_turned b_turned .nil passN (pa_cons (pv 0) (pa_cons (pv 2) (pa_cons pe_int pa_nil)))) (pe_callTy call_tuple_of (by rfl) Tx.n_tuple (by decide +kernel) (pa_cons (pv 2) pa_nil)) (nomark _))))))))))), ?_⟩
    refine ⟨fun σ H' => H' = H ∧ ∃ b, σ = [some (.str z), some (.int t), some (.ref a), some (.int m), some (.int (fullOf z)), b], ?_, ?_⟩
    · refine ⟨_, rfl, rfl, _, rfl, ?_⟩
      rw [dec_int, ← full_kt kt]
      by_cases e : t = 4
      · rw [eq4 e, if_pos e]
        exact iteT ⟨rfl, _, rfl⟩
      · rw [ne4 e, if_neg e]
        exact iteF ⟨rfl, _, rfl⟩
    · rintro σ H' ⟨rfl, b, rfl⟩
      obtain ⟨m0, m6, mq⟩ := inR m
      refine ⟨_, rfl, _, rfl, _, rfl, _, _, _, .str, .int, true, rfl, True.intro, (VecAt.tup ha).v, True.intro, (fun e => absurd g (by rw [e] <;> decide)), fun _ => ⟨(fun e => Bool.noConfusion e), fun _ => ⟨(fun e => Bool.noConfusion e), fun _ => ⟨z, _, _, _, rfl, (VecAt.tup ha), rfl, mq, fun H1 r1 s1 n1 e1 => ?_⟩⟩⟩⟩
      refine ⟨_, rfl, _, rfl, _, rfl, .inl ⟨_, rfl, _, rfl, _, _, rfl, rfl, fp, t, _, a, p, rfl, s1 _ _ ha, hs.le (by decide), m0, m6, fun H2 r2 s2 e2 => ?_⟩⟩
      refine ⟨dv _, dv _, dp_v (s2 _ _ e1), dp_v e2, sh_v _, sh_v _, _, rfl, ?_⟩
      rw [neV rfl]
      have c1 := s1.trans s2
      have a1 := c1 _ _ ha
      obtain ⟨k0, k6, kq⟩ := inR (-m)
      refine iteF ⟨_, rfl, _, rfl, ?_⟩
      refine ⟨_, rfl, a, _, rfl, .inr (SqT.of a1), fun l nl => ?_⟩
      have sl := same_new (o := .lst [.int p.1, .int p.2]) nl
      refine ⟨_, rfl, rfl, rfl, _, _, _, .str, .int, true, rfl, True.intro, (VecAt.lst upd_same).v, True.intro, (fun e => absurd g (by rw [e] <;> decide)), fun _ => ⟨(fun e => Bool.noConfusion e), fun _ => ⟨(fun e => Bool.noConfusion e), fun _ => ⟨z, _, _, _, rfl, (VecAt.lst upd_same), rfl, kq, fun H3 r3 s3 n3 e3 => ?_⟩⟩⟩⟩
      have c3 := (c1.trans sl).trans s3
      refine ⟨_, rfl, _, rfl, _, rfl, _, rfl, .inl ⟨_, rfl, _, rfl, _, _, rfl, rfl, fp, t, _, a, p, rfl, c3 _ _ ha, hs.le (by decide), k0, k6, fun H4 r4 s4 e4 => ?_⟩⟩
      refine ⟨dv _, dv _, dp_v (s4 _ _ e3), dp_v e4, sh_v _, sh_v _, _, rfl, ?_⟩
      rw [neV rfl]
      have c4 := c3.trans s4
      have a4 := c4 _ _ ha
      -- back
      refine iteF ⟨_, rfl, _, rfl, _, rfl, _, rfl, _, rfl, _, _, _, .str, .int, true, rfl, True.intro, (VecAt.tup a4).v, True.intro, (fun e => absurd g (by rw [e] <;> decide)), fun _ => ⟨(fun e => Bool.noConfusion e), fun _ => ⟨(fun e => Bool.noConfusion e), fun _ => ⟨z, _, _, _, rfl, (VecAt.tup a4), rfl, mq, fun H5 r5 s5 n5 e5 => ?_⟩⟩⟩⟩
      refine ⟨_, _, .str, true, rfl, True.intro, (VecAt.tup e5).v, (fun e => absurd g (by rw [e] <;> decide)), fun _ => ⟨(fun e => Bool.noConfusion e), fun _ => ⟨z, _, rfl, (VecAt.tup e5), fun H6 r6 s6 n6 e6 => ?_⟩⟩⟩
      refine ⟨_, rfl, _, _, _, .str, .int, true, rfl, True.intro, (VecAt.tup e6).v, True.intro, (fun e => absurd g (by rw [e] <;> decide)), fun _ => ⟨(fun e => Bool.noConfusion e), fun _ => ⟨(fun e => Bool.noConfusion e), fun _ => ⟨z, _, _, _, rfl, (VecAt.tup e6), rfl, (spun_back kt mq), fun H7 r7 s7 n7 e7 => ?_⟩⟩⟩⟩
      have c7 := ((c4.trans s5).trans s6).trans s7
      have a7 := c7 _ _ ha
      refine ⟨_, rfl, _, rfl, _, rfl, _, _, .str, true, rfl, True.intro, (VecAt.tup a7).v, (fun e => absurd g (by rw [e] <;> decide)), fun _ => ⟨(fun e => Bool.noConfusion e), fun _ => ⟨z, _, rfl, (VecAt.tup a7), fun H8 r8 s8 n8 e8 => ?_⟩⟩⟩
      refine ⟨dv _, dv _, dp_v (s8 _ _ e7), dp_v e8, sh_v _, sh_v _, ?_⟩
      rw [eqV rfl]
      have c8 := c7.trans s8
      have a8 := c8 _ _ ha
      have z1 : (spunL z p)[(fullOf z % fullOf z).toNat]? = some p := by
        rw [Int.emod_self]
        exact spun0 z p
      have z2 : (spunL z p)[((0 : Int) % fullOf z).toNat]? = some p := by
        rw [Int.zero_emod]
        exact spun0 z p
      refine ⟨_, rfl, iteT ⟨_, rfl, _, rfl, _, rfl, _, _, _, .str, .int, true, rfl, True.intro, (VecAt.tup a8).v, True.intro, (fun e => absurd g (by rw [e] <;> decide)), fun _ => ⟨(fun e => Bool.noConfusion e), fun _ => ⟨(fun e => Bool.noConfusion e), fun _ => ⟨z, _, _, _, rfl, (VecAt.tup a8), rfl, z1, fun H9 r9 s9 n9 e9 => ?_⟩⟩⟩⟩⟩
      have c9 := c8.trans s9
      have a9 := c9 _ _ ha
      refine ⟨_, rfl, dv _, dv _, dp_v e9, dp_v a9, sh_v _, sh_v _, ?_⟩
      rw [eqV rfl]
      refine ⟨_, rfl, iteT ⟨_, rfl, _, rfl, _, _, _, .str, .int, true, rfl, True.intro, (VecAt.tup a9).v, True.intro, (fun e => absurd g (by rw [e] <;> decide)), fun _ => ⟨(fun e => Bool.noConfusion e), fun _ => ⟨(fun e => Bool.noConfusion e), fun _ => ⟨z, _, _, _, rfl, (VecAt.tup a9), rfl, z2, fun HA rA sA nA eA => ?_⟩⟩⟩⟩⟩
      have cA := c9.trans sA
      refine ⟨_, rfl, a, _, rfl, .inr ⟨SqT.of (cA _ _ ha), ?_⟩⟩
      refine ⟨dv _, dv _, dp_v eA, dp_v (cA _ _ ha), sh_v _, sh_v _, ?_⟩
      rw [eqV rfl]
      exact q _ cA
theorem has_law_turns_right (Tx : Txt K mg) (c : He.SaysX fa fn [] tf ex w hh K) (X : K.In hh) (GG : hh.Ns mainGlobals mg) (h_turned : HasX P w K mg base "turned" 5 ["kind", "vector", "many"] (sp_turned K)) (h_law_turned : Has P w K mg base "_law_turned" 3 ["_law_turn", "_law_vector_here", "_law_many"] (sp_law_turned K)) (h_flipped : HasX P w K mg base "flipped" 5 ["kind", "vector"] (sp_flipped K)) (h_turned_kw : HasKX P w K mg base "turned" 5 ["kind", "vector", "many"] ["many", "vector", "kind"] gk210 (sp_turned K)) : Has P w K mg base "_law_turns_right" 6 ["_law_kind", "_law_turn", "_law_vector_here", "_law_many"] (sp_law_turns_right K) := by
  obtain ⟨fd, F⟩ := c.t.d.def_ 35 (d := d_law_turns_right) rfl
  exact ⟨_, fd, ok_law_turns_right F Tx h_turned h_law_turned h_flipped h_turned_kw, He.glo_ok X GG (c.t.d.fact 36 (f := .glo "_law_turns_right") rfl), F.kp, F.bindsN fun _ _ _ _ _ _ us hl => match us, hl with | [_, _, _, _], _ => rfl⟩

end
end K47

namespace K47
open PySem PySem.Spec PyProof.Rows L2 Vf LamX
section
variable {hh : Heap} {P : Program} {w : World} {K : PySem.W.Frag} {mg : Str → Option Value} {base : Heap}
/-! ### quotients -/
def od : Option (Int × Int) → PyData
  | none => .none
  | some p => dv p
theorem ResV.dp {H0 H : Hp} {v : V} {o : Option (Int × Int)} (h : ResV H0 H v o) : Dp K H v (od o) := by
  cases o with
  | none =>
    cases (show v = .non from h)
    exact .non
  | some p =>
    obtain ⟨t, rfl, _, e⟩ := h
    exact dp_v e
theorem ResV.same {H0 H H' : Hp} {v : V} {o : Option (Int × Int)} (h : ResV H0 H v o) (s : Same H H') : ResV H0 H' v o := by
  cases o with
  | none => exact h
  | some p =>
    obtain ⟨t, e, n, f⟩ := h
    exact ⟨t, e, n, s _ _ f⟩
theorem sh_od (o : Option (Int × Int)) : SeqAt.shaped (od o) = true := by
  cases o with
  | none => rfl
  | some p => exact sh_v p
theorem neO {o u : Option (Int × Int)} (h : o = u) : (!PyData.eqv (od o) (od u)) = false := by
  subst h
  cases o with
  | none => rfl
  | some p => exact neV rfl
theorem dp2 {H : Hp} {t : Addr} {x y : Str} (h : H t = some (.tup [.str x, .str y])) : Dp K H (.ref t) (.tuple [.str x, .str y]) := .tup (SqT.of h) (.cons (.str _) (.cons (.str _) .nil))
theorem sh_ss {x y : Str} (h : PyData.strOk x = true) (h2 : PyData.strOk y = true) : SeqAt.shaped (.tuple [.str x, .str y]) = true := by
  unfold SeqAt.shaped
  simp [PyData.canLay0, PyData.canLayAll0, PyData.depth, PyData.depthAll, h, h2]
theorem eqv_ss (x y : Str) : PyData.eqv (.tuple [.str x, .str y]) (.tuple [.str x, .str y]) = true := by
  have e : PyData.eqv (.tuple [.str x, .str y]) (.tuple [.str x, .str y]) = ((x == x) && ((y == y) && true)) := by simp only [PyData.eqv, PyData.eqvAll]
  rw [e]
  simp
theorem zl {z : Str} {p : Int × Int} (e : p = (0, 0)) : lenF z p = 0 := by
  rw [e]
  exact len_at0 z
def sp_law_quotients_right (K : PySem.W.Frag) : Sp := fun vs H Q _ => ∃ (z : Str) (t : Int) (a a2 : Addr) (p p2 : Int × Int), vs = [.str z, .int t, .ref a, .ref a2] ∧ KT z t ∧ Tp H a p ∧ Tp H a2 p2 ∧ Sm 70 p ∧ Sm 70 p2 ∧ LamX.Tabs (TT0 K) H ∧ ∀ H', ExtN H H' → LamX.Tabs (TT0 K) H' → Q (.bl true) H'
theorem sc_law_quotients_right : FnScope ["_law_kind", "_law_turn", "_law_one", "_law_other"] ["_law_kind", "_law_turn", "_law_one", "_law_other"] (defScope s_law_quotients_right) := ⟨rfl, rfl, rfl, by decide +kernel, rfl, by decide +kernel, by decide +kernel⟩
theorem ok_law_quotients_right {fd : FuncData} (F : FunD K "_law_quotients_right" "_law_quotients_right" (defArgs s_law_quotients_right) (defBody s_law_quotients_right) (defScope s_law_quotients_right) [] [] (He.fAd K ("_law_quotients_right", none)) fd) (Tx : Txt K mg) (tb : LamX.TabB base mg (He.codeOf K ("_law_quotients_right", none)) (tabT K "_law_quotients_right")) (h_heard : HasH K mg) (h_quotient : HasX P w K mg base "quotient" 5 ["kind", "one", "other"] (sp_quotient K)) (h_law_quotient : Has P w K mg base "_law_quotient" 3 ["_law_turn", "_law_one", "_law_other"] (sp_law_quotient K)) (h_times : HasX P w K mg base "times" 5 ["kind", "one", "other"] (sp_times K)) (h_quotient_kw : HasKX P w K mg base "quotient" 5 ["kind", "one", "other"] ["one", "other", "kind"] gk201 (sp_quotient K)) : FnOk P w K mg base CX0 8 (He.fAd K ("_law_quotients_right", none)) fd ["_law_kind", "_law_turn", "_law_one", "_law_other"] (sp_law_quotients_right K) := by
  obtain ⟨gH, ocH, odH, dVH, kVH, docH, pmH, anH, cdvH, ctH, oslH, g_heard, k_heard, lk_heard, hc_heard, b_heard⟩ := h_heard
  obtain ⟨f_quotient, fd_quotient, G_quotient, g_quotient, k_quotient, b_quotient⟩ := h_quotient
  obtain ⟨f_law_quotient, fd_law_quotient, G_law_quotient, g_law_quotient, k_law_quotient, b_law_quotient⟩ := h_law_quotient
  obtain ⟨f_times, fd_times, G_times, g_times, k_times, b_times⟩ := h_times
  obtain ⟨f_quotient_kw, fd_quotient_kw, gg_quotient_kw, G_quotient_kw, g_quotient_kw, k_quotient_kw, b_quotient_kw⟩ := h_quotient_kw
  refine okC F sc_law_quotients_right (fun vs H Q E h => ?_) (fun A outer s H vs Q E hr h => ?_)
  · obtain ⟨z, t, a, a2, p, p2, rfl, _⟩ := h
    rfl
  · obtain ⟨z, t, a, a2, p, p2, rfl, kt, ha, ha2, hs, hs2, ht, q⟩ := h
    have g := kt_grid kt
    refine ⟨_, PSs.nox (pss_cons (ps_if (pt_cmpR (op_eqD hr.units) (pv 3) (pe_tup (pa_cons pe_int (pa_cons pe_int pa_nil))) (nomark _)) (pss_one (ps_ret (pe_cmpR (op_eqD hr.units) (pe_lamcall (T := TT0 K) (TT := TTh K) (k := 5) (by rfl) g_heard k_heard lk_heard hc_heard b_heard sc_law_heard rfl (.inl rfl) (heard_gives rfl rfl Tx) tb rfl (mem_law_quotients_right K) (hu_law_quotients_right Tx) (hr.mono (by decide)) (LamX.lamS_by (sc := defScope s_law_quotients_right) (by decide +kernel)) rfl (fun _ _ _ _ _ => rfl) (fun A outer s H E f c hr => (pe_call G_quotient (hr.mono (by decide)) (by rfl) g_quotient k_quotient b_quotient .nil (passE rfl rfl rfl rfl) (pa_cons (pv 0) (pa_cons (pv 2) (pa_cons (pv 3) pa_nil)))))) (pe_tup (pa_cons pe_str (pa_cons pe_str pa_nil))) (nomark _)))) pss_nil)
        (pss_cons (ps_if (pt_cmpR (op_neD hr.units) (pe_call G_quotient (hr.mono (by decide)) (by rfl) g_quotient k_quotient b_quotient .nil passN (pa_cons (pv 0) (pa_cons (pv 2) (pa_cons (pv 3) pa_nil)))) (pe_call G_law_quotient (hr.mono (by decide)) (by rfl) g_law_quotient k_law_quotient b_law_quotient .nil pass0 (pa_cons (pv 1) (pa_cons (pv 2) (pa_cons (pv 3) pa_nil)))) (nomark _)) (pss_one (ps_ret pe_bl)) pss_nil)
        (pss_one (ps_ret (pe_cmpR (op_eqD hr.units) (pe_callK0 G_quotient_kw (hr.mono (by decide)) (by rfl) g_quotient_kw k_quotient_kw b_quotient_kw passN (pk_cons (pe_callTy call_list_of (by rfl) Tx.n_list (by decide +kernel) (pa_cons (pe_call G_times (hr.mono (by decide)) (by rfl) g_times k_times b_times .nil passN (pa_cons (pv 0) (pa_cons (pv 2) (pa_cons (pv 3) pa_nil)))) pa_nil)) (pk_cons (pe_callTy call_list_of (by rfl) Tx.n_list (by decide +kernel) (pa_cons (pv 3) pa_nil)) (pk_cons (pv 0) pk_nil)))) (pv 2) (nomark _)))))), ?_⟩
    refine ⟨_, rfl, le_line (n := 2) (by decide), fun o no => ?_⟩
    have so := same_new (o := .tup [.int 0, .int 0]) no
    refine ⟨dv p2, dv (0, 0), dp_v (so _ _ ha2), dp_v upd_same, sh_v _, sh_v _, _, rfl, ?_⟩
    rw [eqv_vv]
    by_cases e0 : p2 = (0, 0)
    · rw [decide_eq_true e0]
      refine iteT ⟨tabs_same ht so, fun A eA uA N => ?_⟩
      have eo := (ExtN.of so).trans eA
      have la : Tp A a p := eo _ _ ha fun _ z => nomatch z
      have lb : Tp A a2 p2 := eo _ _ ha2 fun _ z => nomatch z
      refine ⟨_, rfl, _, rfl, _, rfl, _, _, _, .str, true, true, rfl, True.intro, (VecAt.tup la).v, (VecAt.tup lb).v, (fun e => absurd g (by rw [e] <;> decide)), fun _ => ⟨(fun e => Bool.noConfusion e), fun _ => ⟨(fun e => Bool.noConfusion e), fun _ => ⟨z, _, _, rfl, (VecAt.tup la), (VecAt.tup lb), (hs.le (by decide)), (hs2.le (by decide)), (fun _ => eh_num fun B r s1 o1 w1 => ?_), (fun ne => absurd (zl e0) ne)⟩⟩⟩⟩
      refine ⟨le_line (n := 2) (by decide), fun c nc => ?_⟩
      have sc := same_new (o := .tup [.str "number", .str "other"]) nc
      refine ⟨_, _, dp2 (sc _ _ w1), dp2 upd_same, sh_ss (by decide +kernel) (by decide +kernel), sh_ss (by decide +kernel) (by decide +kernel), ?_⟩
      rw [eqv_ss]
      have e1 := (eo.trans (ExtN.of (s1.trans sc)))
      exact q _ e1 (tabs_same uA (s1.trans sc))
    · rw [decide_eq_false e0]
      have l0 : lenF z p2 ≠ 0 := fun e => e0 (len_zero e)
      have n0 : 0 < normF t p2 := by
        rw [norm_len kt]
        have := lenF_nn z p2
        omega
      have nw : Wi 300 (normF t p2) := by
        rw [norm_len kt]
        exact (lenF_wi hs2).le (by decide)
      refine iteF ⟨_, rfl, _, rfl, _, rfl, _, _, _, .str, true, true, rfl, True.intro, (VecAt.tup (so _ _ ha)).v, (VecAt.tup (so _ _ ha2)).v, (fun e => absurd g (by rw [e] <;> decide)), fun _ => ⟨(fun e => Bool.noConfusion e), fun _ => ⟨(fun e => Bool.noConfusion e), fun _ => ⟨z, _, _, rfl, (VecAt.tup (so _ _ ha)), (VecAt.tup (so _ _ ha2)), (hs.le (by decide)), (hs2.le (by decide)), (fun e => absurd e l0), (fun _ H1 r1 s1 e1 => ?_)⟩⟩⟩⟩
      have c1 := so.trans s1
      refine ⟨_, rfl, _, rfl, _, rfl, t, a, a2, p, p2, rfl, c1 _ _ ha, c1 _ _ ha2, hs.le (by decide), hs2.le (by decide), n0, nw, fun H2 r2 s2 e2 => ?_⟩
      refine ⟨od _, od _, (e1.same s2).dp, e2.dp, sh_od _, sh_od _, _, rfl, ?_⟩
      rw [neO (lq_quo kt p p2).symm]
      have c2 := c1.trans s2
      refine iteF ⟨_, rfl, _, rfl, _, rfl, _, _, _, .str, true, true, rfl, True.intro, (VecAt.tup (c2 _ _ ha)).v, (VecAt.tup (c2 _ _ ha2)).v, (fun e => absurd g (by rw [e] <;> decide)), fun _ => ⟨(fun e => Bool.noConfusion e), fun _ => ⟨(fun e => Bool.noConfusion e), fun _ => ⟨z, _, _, rfl, (VecAt.tup (c2 _ _ ha)), (VecAt.tup (c2 _ _ ha2)), (hs.le (by decide)), (hs2.le (by decide)), fun H3 r3 s3 n3 e3 => ?_⟩⟩⟩⟩
      refine ⟨r3, _, rfl, .inr (SqT.of e3), fun l nl => ?_⟩
      have sl := same_new (o := .lst [.int (bothF z p p2).1, .int (bothF z p p2).2]) nl
      have c3 := (c2.trans s3).trans sl
      refine ⟨_, rfl, a2, _, rfl, .inr (SqT.of (c3 _ _ ha2)), fun l2 nl2 => ?_⟩
      have sl2 := same_new (o := .lst [.int p2.1, .int p2.2]) nl2
      have sB : Sm 390 (bothF z p p2) := by
        rw [← tim_both kt p p2]
        exact (tim_sm hs hs2).le (by decide)
      have eL : upd (upd H3 l (.lst [.int (bothF z p p2).1, .int (bothF z p p2).2])) l2 (.lst [.int p2.1, .int p2.2]) l = some (.lst [.int (bothF z p p2).1, .int (bothF z p p2).2]) := sl2 _ _ upd_same
      refine ⟨_, rfl, rfl, rfl, _, _, _, .str, true, true, rfl, True.intro, (VecAt.lst eL).v, (VecAt.lst upd_same).v, (fun e => absurd g (by rw [e] <;> decide)), fun _ => ⟨(fun e => Bool.noConfusion e), fun _ => ⟨(fun e => Bool.noConfusion e), fun _ => ⟨z, _, _, rfl, (VecAt.lst eL), (VecAt.lst upd_same), sB, (hs2.le (by decide)), (fun e => absurd e l0), (fun _ H4 r4 s4 e4 => ?_)⟩⟩⟩⟩
      rw [quo_back l0] at e4
      have c4 := (c3.trans sl2).trans s4
      refine ⟨_, rfl, od (some p), dv p, e4.dp, dp_v (c4 _ _ ha), sh_od _, sh_v _, ?_⟩
      rw [show od (some p) = dv p from rfl, eqV rfl]
      exact q _ (ExtN.of c4) (tabs_same ht c4)
theorem has_law_quotients_right (Tx : Txt K mg) (c : He.SaysX fa fn [] tf ex w hh K) (X : K.In hh) (GG : hh.Ns mainGlobals mg) (tb : LamX.TabB base mg (He.codeOf K ("_law_quotients_right", none)) (tabT K "_law_quotients_right")) (h_heard : HasH K mg) (h_quotient : HasX P w K mg base "quotient" 5 ["kind", "one", "other"] (sp_quotient K)) (h_law_quotient : Has P w K mg base "_law_quotient" 3 ["_law_turn", "_law_one", "_law_other"] (sp_law_quotient K)) (h_times : HasX P w K mg base "times" 5 ["kind", "one", "other"] (sp_times K)) (h_quotient_kw : HasKX P w K mg base "quotient" 5 ["kind", "one", "other"] ["one", "other", "kind"] gk201 (sp_quotient K)) : Has P w K mg base "_law_quotients_right" 8 ["_law_kind", "_law_turn", "_law_one", "_law_other"] (sp_law_quotients_right K) := by
  obtain ⟨fd, F⟩ := c.t.d.def_ 36 (d := d_law_quotients_right) rfl
  exact ⟨_, fd, ok_law_quotients_right F Tx tb h_heard h_quotient h_law_quotient h_times h_quotient_kw, He.glo_ok X GG (c.t.d.fact 37 (f := .glo "_law_quotients_right") rfl), F.kp, F.bindsN fun _ _ _ _ _ _ us hl => match us, hl with | [_, _, _, _], _ => rfl⟩

end
end K47

namespace K47
open PySem PySem.Spec PyProof.Rows L2 Vf LamX
section
variable {hh : Heap} {P : Program} {w : World} {K : PySem.W.Frag} {mg : Str → Option Value} {base : Heap}
/-! ### what is refused -/
theorem Box.ext {H H' : Hp} {a : Addr} {xs : List V} (h : Box H a xs) (e : ExtN H H') : Box H' a xs := h.elim (fun h => .inl (e _ _ h fun _ z => nomatch z)) fun h => .inr (e _ _ h fun _ z => nomatch z)
/-- an odd value: no ref, a list or tuple of none, or a dict; not the pen -/
def OddP (p : Addr) (H : Hp) (v : V) : Prop := flatS v = true ∨ ∃ a, v = .ref a ∧ a ≠ p ∧ ((∃ xs, Box H a xs ∧ xs.length ≤ 100 ∧ (∀ x ∈ xs, flatS x = true) ∧ (xs.all isI && decide (xs.length = 2)) = false) ∨ ∃ kvs, H a = some (.dK kvs))
theorem flat_kd {v : V} (h : flatS v = true) : ∃ k : Kd, (∀ K H, KdV K H v k) ∧ k.seq = false := by
  cases v with
  | int i => exact ⟨.int, fun _ _ => True.intro, rfl⟩
  | str z => exact ⟨.str, fun _ _ => True.intro, rfl⟩
  | bl b => exact ⟨.bool, fun _ _ => True.intro, rfl⟩
  | non => exact ⟨.none, fun _ _ => True.intro, rfl⟩
  | _ => cases h
theorem OddP.kd {p : Addr} {H : Hp} {v : V} (h : OddP p H v) : ∃ k, KdV K H v k := by
  rcases h with h | ⟨a, rfl, _, ⟨xs, hb, _⟩ | ⟨kvs, e⟩⟩
  · obtain ⟨k, hk, _⟩ := flat_kd h
    exact ⟨k, hk _ _⟩
  · rcases hb with e | e
    · exact ⟨.list, ⟨_, e⟩⟩
    · exact ⟨.tuple, .inl ⟨_, e⟩⟩
  · exact ⟨.dict, ⟨_, e⟩⟩
theorem OddP.vec {p : Addr} {H : Hp} {v : V} (h : OddP p H v) : VecV K H v false := by
  rcases h with h | ⟨a, rfl, _, ⟨xs, hb, hl, hx, e⟩ | ⟨kvs, e⟩⟩
  · obtain ⟨k, hk, hs⟩ := flat_kd h
    exact .inl ⟨k, hk _ _, hs, rfl⟩
  · refine .inr ⟨a, xs, rfl, hb, hl, fun x hm => ?_, e.symm⟩
    obtain ⟨k, hk, _⟩ := flat_kd (hx x hm)
    exact ⟨k, fun H' => hk _ _⟩
  · exact .inl ⟨.dict, ⟨_, e⟩, rfl, rfl⟩
theorem OddP.kp {p : Addr} {H H' : Hp} {v : V} (h : OddP p H v) (k : Kp p H H') : OddP p H' v := by
  rcases h with h | ⟨a, e, n, ⟨xs, hb, r⟩ | ⟨kvs, f⟩⟩
  · exact .inl h
  · exact .inr ⟨a, e, n, .inl ⟨xs, hb.elim (fun h => .inl (k _ _ n h)) (fun h => .inr (k _ _ n h)), r⟩⟩
  · exact .inr ⟨a, e, n, .inr ⟨kvs, k _ _ n f⟩⟩
theorem OddP.ext {p : Addr} {H H' : Hp} {v : V} (h : OddP p H v) (k : ExtN H H') : OddP p H' v := by
  rcases h with h | ⟨a, e, n, ⟨xs, hb, r⟩ | ⟨kvs, f⟩⟩
  · exact .inl h
  · exact .inr ⟨a, e, n, .inl ⟨xs, hb.ext k, r⟩⟩
  · exact .inr ⟨a, e, n, .inr ⟨kvs, k _ _ f fun _ z => nomatch z⟩⟩
theorem OddP.same {p : Addr} {H H' : Hp} {v : V} (h : OddP p H v) (s : Same H H') : OddP p H' v := h.ext (ExtN.of s)
theorem penExt {H H' : Hp} {p c : Addr} {b : Nat} (h : PenAt H p c b) (e : ExtN H H') : PenAt H' p c b := by
  obtain ⟨ns, n, g, h1, h2, h3, h4⟩ := h
  exact ⟨ns, n, g, e _ _ h1 (fun _ z => nomatch z), e _ _ h2 (fun _ z => nomatch z), h3, h4⟩
theorem tp_kp {H H' : Hp} {p c a : Addr} {b : Nat} {v : Int × Int} (h : Tp H a v) (hp : PenAt H p c b) (k : Kp p H H') : Tp H' a v := by
  obtain ⟨ns, n, g, h1, _⟩ := hp
  exact k _ _ (fun z => by rw [z] at h; cases h1.symm.trans h) h
def sp_law_refused_right (K : PySem.W.Frag) : Sp := fun vs H Q _ => ∃ (p c a : Addr) (b : Nat) (z : Str) (v : Int × Int), vs = [.ref p, .str z, .ref a] ∧ isGrid (.str z) = true ∧ Tp H a v ∧ Sm 70 v ∧ PenAt H p c (b + 10) ∧ LamX.Tabs (TT0 K) H ∧ ∀ H', Q (.bl true) H'

end
end K47

namespace K47
open PySem PySem.Spec PyProof.Rows L2 Vf LamX
section
variable {hh : Heap} {P : Program} {w : World} {K : PySem.W.Frag} {mg : Str → Option Value} {base : Heap}
/-! ### the rows of what is refused -/
def rowTup (st : Stmt) : List Expr := match st with
  | .Assign _ (.List [.Tuple es _ _] _) _ => es
  | .Expr (.Call _ [.Tuple es _ _] _ _) _ => es
  | _ => []
def rowLam (i : Nat) : Expr := (rowTup ((defBody s_law_refused_right).getD (3 + i) (.Pass ⟨0, 0, 0, 0⟩))).getD 0 (.Name "x" ⟨0, 0, 0, 0⟩)
def lamP (e : Expr) : Arguments := match e with
  | .Lambda p _ _ _ => p
  | _ => ⟨[], [], none, [], [], none, []⟩
def lamB (e : Expr) : Expr := match e with
  | .Lambda _ b _ _ => b
  | _ => e
def lamC (e : Expr) : Scope := match e with
  | .Lambda _ _ sc _ => sc
  | _ => ⟨.function, [], false, false, []⟩
abbrev XR (P : Program) (w : World) (K : PySem.W.Frag) (mg : Str → Option Value) (base : Heap) (A : Around) (outer : List Env) (s : Shared) (H : Hp) (E : XK) : Cx :=
  (cxOf CX0 P w K mg base ["_law_pen_here", "_law_kind", "_law_vector_here", "_law_odd", "_law_bad", "_law_many", "_law_square", "_law_rows", "_law_ask", "_law_due"] "_law_refused_right" (defScope s_law_refused_right) (He.fAd K ("_law_refused_right", none)) (.ref (He.codeOf K ("_law_refused_right", none))) A outer s H E).nox
/-- one row: its lambda, its word; what is heard of the lambda while the slots are σ0 -/
def Row (K : PySem.W.Frag) (X : Cx) (σ0 : L2.St) (H0 : Hp) (ws : Str × Str) (H : Hp) (t : Addr) : Prop := ∃ (f d : Addr) (D : LamD X 5), H t = some (.tup [.ref f, .ref d]) ∧ LamAt X 5 H f D ∧ H d = some (.tup [.str ws.1, .str ws.2]) ∧
  ∀ (C : VK) (H' : Hp), ExtN H0 H' → Told C H' [.str ws.1, .str ws.2] → ∀ N : VK, D.t (EH K C) σ0 H' N
theorem Row.ext {X : Cx} {σ0 : L2.St} {H0 H H' : Hp} {ws : Str × Str} {t : Addr} (h : Row K X σ0 H0 ws H t) (e : ExtN H H') : Row K X σ0 H0 ws H' t := by
  obtain ⟨f, d, D, h1, h2, h3, h4⟩ := h
  exact ⟨f, d, D, e _ _ h1 (fun _ z => nomatch z), h2.ext e, e _ _ h3 (fun _ z => nomatch z), h4⟩
theorem codeO_lst2 {H : Hp} {c L : Addr} {q : Str} {xs : List V} (h : H c = some (CodeO c q)) (hL : H L = some (.lst xs)) : c ≠ L := fun z => by
  rw [z] at h
  exact codeO_lst h hL
theorem Row.mut {X : Cx} {σ0 : L2.St} {H0 H : Hp} {ws : Str × Str} {t L : Addr} {xs : List V} {o : HO} (h : Row K X σ0 H0 ws H t) (hL : H L = some (.lst xs)) : Row K X σ0 H0 ws (upd H L o) t := by
  obtain ⟨f, d, D, h1, ⟨c', h2, h2'⟩, h3, h4⟩ := h
  refine ⟨f, d, D, ?_, ⟨c', ?_, ?_⟩, ?_, h4⟩
  · rw [upd_ne fun z => by rw [z, hL] at h1; cases h1]
    exact h1
  · rw [upd_ne fun z => by rw [z, hL] at h2; unfold LamO at h2; cases h2]
    exact h2
  · rw [upd_ne (codeO_lst2 h2' hL)]
    exact h2'
  · rw [upd_ne fun z => by rw [z, hL] at h3; cases h3]
    exact h3
structure RowsAt (K : PySem.W.Frag) (X : Cx) (σ0 : L2.St) (H0 H : Hp) (L : Addr) (ts : List Addr) : Prop where
  ext : ExtN H0 H
  tabs : LamX.Tabs (TT0 K) H
  lst : H L = some (.lst (ts.map V.ref))
  new : ∀ u, H0 L = some u → (∀ ps, u ≠ .tbl ps) → False
  rows : ∀ t ∈ ts, ∃ ws : Str × Str, PyData.strOk ws.1 = true ∧ PyData.strOk ws.2 = true ∧ Row K X σ0 H0 ws H t
theorem tabs_mut {T : List (Addr × Str)} {H : Hp} {L : Addr} {xs : List V} {o : HO} (t : LamX.Tabs T H) (hL : H L = some (.lst xs)) : LamX.Tabs T (upd H L o) := fun z hz => by
  obtain ⟨ps, h1, h2, h3⟩ := t z hz
  refine ⟨ps, ?_, h2, fun pos cv hc => ?_⟩
  · rw [upd_ne fun e => by rw [e, hL] at h1; cases h1]
    exact h1
  · obtain ⟨c, e1, e2⟩ := h3 pos cv hc
    refine ⟨c, e1, ?_⟩
    rw [upd_ne (codeO_lst2 e2 hL)]
    exact e2
theorem extN_mut {H0 H : Hp} {L : Addr} {o : HO} (e : ExtN H0 H) (n : ∀ u, H0 L = some u → (∀ ps, u ≠ .tbl ps) → False) : ExtN H0 (upd H L o) := fun b u h k => by
  have z : b ≠ L := fun z => n u (by rw [← z]; exact h) k
  rw [upd_ne z]
  exact e b u h k
theorem rows_lst {X : Cx} {σ0 : L2.St} {H0 H H1 : Hp} {L d t : Addr} {ts : List Addr} {o o' : HO} (R : RowsAt K X σ0 H0 H L ts) (e : ExtN H H1) (nd : H1 d = none) (nt : upd H1 d o t = none) : upd (upd H1 d o) t o' L = some (.lst (ts.map V.ref)) := by
  have h1 := e _ _ R.lst fun _ z => nomatch z
  exact same_new nt _ _ (same_new nd _ _ h1)
theorem rows_step {X : Cx} {σ0 : L2.St} {H0 H H1 : Hp} {L d t f : Addr} {ts : List Addr} {ws : Str × Str} {k : Nat} {xs : List V} (R : RowsAt K X σ0 H0 H L ts) (hn : ts.length = k) (e : ExtN H H1) (u : LamX.Tabs (TT0 K) H1) (D : LamD X 5) (hl : LamAt X 5 H1 f D) (o1 : PyData.strOk ws.1 = true) (o2 : PyData.strOk ws.2 = true)
    (hp : ∀ (C : VK) (H' : Hp), ExtN H0 H' → Told C H' [.str ws.1, .str ws.2] → ∀ N : VK, D.t (EH K C) σ0 H' N) (nd : H1 d = none) (nt : upd H1 d (.tup [.str ws.1, .str ws.2]) t = none) (hx : xs = ts.map V.ref) :
    ∃ us : List Addr, RowsAt K X σ0 H0 (upd (upd (upd H1 d (.tup [.str ws.1, .str ws.2])) t (.tup [.ref f, .ref d])) L (.lst (xs ++ [.ref t]))) L us ∧ us.length = k + 1 := by
  have sd := same_new (o := .tup [.str ws.1, .str ws.2]) nd
  have st := same_new (o := .tup [.ref f, .ref d]) nt
  have s := sd.trans st
  have hL := rows_lst (o' := .tup [.ref f, .ref d]) R e nd nt
  have e2 := e.trans (ExtN.of s)
  refine ⟨ts ++ [t], ⟨extN_mut (R.ext.trans e2) R.new, tabs_mut (tabs_same u s) hL, by rw [upd_same, hx, List.map_append] <;> rfl, R.new, fun t' ht' => ?_⟩, by rw [List.length_append, hn] <;> rfl⟩
  rcases List.mem_append.mp ht' with z | z
  · obtain ⟨ws', p1, p2, r⟩ := R.rows t' z
    exact ⟨ws', p1, p2, (r.ext e2).mut hL⟩
  · have e3 : t' = t := by simpa using z
    subst e3
    refine ⟨ws, o1, o2, Row.mut ?_ hL⟩
    exact ⟨f, d, D, upd_same, (hl.same sd).same st, st _ _ upd_same, hp⟩

end
end K47

namespace K47
open PySem PySem.Spec PyProof.Rows L2 Vf LamX
section
variable {hh : Heap} {P : Program} {w : World} {K : PySem.W.Frag} {mg : Str → Option Value} {base : Heap}
theorem rows_same {X : Cx} {σ0 : L2.St} {H0 H H' : Hp} {L : Addr} {ts : List Addr} (R : RowsAt K X σ0 H0 H L ts) (s : Same H H') : RowsAt K X σ0 H0 H' L ts :=
  ⟨R.ext.trans (ExtN.of s), tabs_same R.tabs s, s _ _ R.lst, R.new, fun t ht => by
    obtain ⟨ws, p1, p2, r⟩ := R.rows t ht
    exact ⟨ws, p1, p2, r.ext (ExtN.of s)⟩⟩
theorem sc_law_refused_right : FnScope ["_law_pen_here", "_law_kind", "_law_vector_here", "_law_odd", "_law_bad", "_law_many", "_law_square", "_law_rows", "_law_ask", "_law_due"] ["_law_pen_here", "_law_kind", "_law_vector_here"] (defScope s_law_refused_right) := ⟨rfl, rfl, rfl, by decide +kernel, rfl, by decide +kernel, by decide +kernel⟩
theorem ok_law_refused_right {fd : FuncData} (F : FunD K "_law_refused_right" "_law_refused_right" (defArgs s_law_refused_right) (defBody s_law_refused_right) (defScope s_law_refused_right) [] [] (He.fAd K ("_law_refused_right", none)) fd) (Tx : Txt K mg) (tb : LamX.TabB base mg (He.codeOf K ("_law_refused_right", none)) (tabT K "_law_refused_right")) (h_heard : HasH K mg) (h_law_pick : Has P w K mg base "_law_pick" 2 ["_law_pen_here", "_law_some"] (sp_law_pick K)) (h_square_of : HasX P w K mg base "square_of" 5 ["kind", "vector"] (sp_square_of K)) (h_product : HasX P w K mg base "product" 5 ["kind", "one", "other"] (sp_product K)) (h_turned : HasX P w K mg base "turned" 5 ["kind", "vector", "many"] (sp_turned K)) (h_flipped : HasX P w K mg base "flipped" 5 ["kind", "vector"] (sp_flipped K)) (h_times : HasX P w K mg base "times" 5 ["kind", "one", "other"] (sp_times K)) (h_quotient : HasX P w K mg base "quotient" 5 ["kind", "one", "other"] (sp_quotient K)) (h_vectors_of : HasX P w K mg base "vectors_of" 4 ["kind", "square"] (sp_vectors_of K))  : FnOk P w K mg base CX0 8 (He.fAd K ("_law_refused_right", none)) fd ["_law_pen_here", "_law_kind", "_law_vector_here"] (sp_law_refused_right K) := by
  obtain ⟨gH, ocH, odH, dVH, kVH, docH, pmH, anH, cdvH, ctH, oslH, g_heard, k_heard, lk_heard, hc_heard, b_heard⟩ := h_heard
  obtain ⟨f_law_pick, fd_law_pick, G_law_pick, g_law_pick, k_law_pick, b_law_pick⟩ := h_law_pick
  obtain ⟨f_square_of, fd_square_of, G_square_of, g_square_of, k_square_of, b_square_of⟩ := h_square_of
  obtain ⟨f_product, fd_product, G_product, g_product, k_product, b_product⟩ := h_product
  obtain ⟨f_turned, fd_turned, G_turned, g_turned, k_turned, b_turned⟩ := h_turned
  obtain ⟨f_flipped, fd_flipped, G_flipped, g_flipped, k_flipped, b_flipped⟩ := h_flipped
  obtain ⟨f_times, fd_times, G_times, g_times, k_times, b_times⟩ := h_times
  obtain ⟨f_quotient, fd_quotient, G_quotient, g_quotient, k_quotient, b_quotient⟩ := h_quotient
  obtain ⟨f_vectors_of, fd_vectors_of, G_vectors_of, g_vectors_of, k_vectors_of, b_vectors_of⟩ := h_vectors_of
  refine okC F sc_law_refused_right (fun vs H Q E h => ?_) (fun A outer s H vs Q E hr h => ?_)
  · obtain ⟨p, c, a, b, z, v, rfl, _⟩ := h
    rfl
  · obtain ⟨p, c, a, b, z, v, rfl, g, ha, hs, hp, ht, q⟩ := h
    refine ⟨_, PSs.nox (pss_cons (ps_set (i := 3) sc_law_refused_right.nd rfl (Or.inr rfl) (pe_call G_law_pick (hr.mono (by decide)) (by rfl) g_law_pick k_law_pick b_law_pick .nil pass0 (pa_cons (pv 0) (pa_cons (pe_lst (pa_cons pe_non (pa_cons pe_int (pa_cons pe_str (pa_cons (pe_tup (pa_cons pe_int pa_nil)) (pa_cons (pe_tup (pa_cons pe_int (pa_cons pe_int (pa_cons pe_int pa_nil)))) (pa_cons (pe_lst (pa_cons pe_int (pa_cons pe_bl pa_nil))) (pa_cons (pe_lst (pa_cons pe_non (pa_cons pe_int pa_nil))) (pa_cons pe_dnewK pa_nil))))))))) pa_nil))))
        (pss_cons (ps_asg (pe_tup (pa_cons (pe_call G_law_pick (hr.mono (by decide)) (by rfl) g_law_pick k_law_pick b_law_pick .nil pass0 (pa_cons (pv 0) (pa_cons (pe_lst (pa_cons pe_str (pa_cons pe_non (pa_cons pe_int (pa_cons pe_str (pa_cons (pe_lst (pa_cons pe_str pa_nil)) pa_nil)))))) pa_nil))) (pa_cons (pe_call G_law_pick (hr.mono (by decide)) (by rfl) g_law_pick k_law_pick b_law_pick .nil pass0 (pa_cons (pv 0) (pa_cons (pe_lst (pa_cons pe_non (pa_cons pe_bl (pa_cons pe_str (pa_cons (pe_tup (pa_cons pe_int pa_nil)) pa_nil))))) pa_nil))) pa_nil))) (pg_tup (by rfl) (pgs_cons (pg_name (i := 4) sc_law_refused_right.nd rfl (Or.inr rfl)) (pgs_cons (pg_name (i := 5) sc_law_refused_right.nd rfl (Or.inr rfl)) pgs_nil))))
        (pss_cons (ps_set (i := 6) sc_law_refused_right.nd rfl (Or.inr rfl) (pe_call G_law_pick (hr.mono (by decide)) (by rfl) g_law_pick k_law_pick b_law_pick .nil pass0 (pa_cons (pv 0) (pa_cons (pe_lst (pa_cons pe_int (pa_cons (pe_un un_neg pe_int) (pa_cons pe_int (pa_cons pe_non (pa_cons pe_bl (pa_cons pe_str pa_nil))))))) pa_nil))))
        (pss_cons (ps_set (i := 7) sc_law_refused_right.nd rfl (Or.inl rfl) (pe_lst (pa_cons (pe_tup (pa_cons (pe_lam (T := TT0 K) tb rfl (mem_law_refused_right K) (hu_law_refused_right Tx) (LamX.lamS_by (sc := defScope s_law_refused_right) (by decide +kernel)) rfl) (pa_cons (pe_tup (pa_cons pe_str (pa_cons pe_str pa_nil))) pa_nil))) pa_nil)))
        (pss_cons (ps_expr (pe_bm PySem.F.plainAttrs_list PySem.F.slot_list_append PySem.F.type_list_append mt_append (pv 7) (pa_cons (pe_tup (pa_cons (pe_lam (T := TT0 K) tb rfl (mem_law_refused_right K) (hu_law_refused_right Tx) (LamX.lamS_by (sc := defScope s_law_refused_right) (by decide +kernel)) rfl) (pa_cons (pe_tup (pa_cons pe_str (pa_cons pe_str pa_nil))) pa_nil))) pa_nil)))
        (pss_cons (ps_expr (pe_bm PySem.F.plainAttrs_list PySem.F.slot_list_append PySem.F.type_list_append mt_append (pv 7) (pa_cons (pe_tup (pa_cons (pe_lam (T := TT0 K) tb rfl (mem_law_refused_right K) (hu_law_refused_right Tx) (LamX.lamS_by (sc := defScope s_law_refused_right) (by decide +kernel)) rfl) (pa_cons (pe_tup (pa_cons pe_str (pa_cons pe_str pa_nil))) pa_nil))) pa_nil)))
        (pss_cons (ps_expr (pe_bm PySem.F.plainAttrs_list PySem.F.slot_list_append PySem.F.type_list_append mt_append (pv 7) (pa_cons (pe_tup (pa_cons (pe_lam (T := TT0 K) tb rfl (mem_law_refused_right K) (hu_law_refused_right Tx) (LamX.lamS_by (sc := defScope s_law_refused_right) (by decide +kernel)) rfl) (pa_cons (pe_tup (pa_cons pe_str (pa_cons pe_str pa_nil))) pa_nil))) pa_nil)))
        (pss_cons (ps_expr (pe_bm PySem.F.plainAttrs_list PySem.F.slot_list_append PySem.F.type_list_append mt_append (pv 7) (pa_cons (pe_tup (pa_cons (pe_lam (T := TT0 K) tb rfl (mem_law_refused_right K) (hu_law_refused_right Tx) (LamX.lamS_by (sc := defScope s_law_refused_right) (by decide +kernel)) rfl) (pa_cons (pe_tup (pa_cons pe_str (pa_cons pe_str pa_nil))) pa_nil))) pa_nil)))
        (pss_cons (ps_expr (pe_bm PySem.F.plainAttrs_list PySem.F.slot_list_append PySem.F.type_list_append mt_append (pv 7) (pa_cons (pe_tup (pa_cons (pe_lam (T := TT0 K) tb rfl (mem_law_refused_right K) (hu_law_refused_right Tx) (LamX.lamS_by (sc := defScope s_law_refused_right) (by decide +kernel)) rfl) (pa_cons (pe_tup (pa_cons pe_str (pa_cons pe_str pa_nil))) pa_nil))) pa_nil)))
        (pss_cons (ps_expr (pe_bm PySem.F.plainAttrs_list PySem.F.slot_list_append PySem.F.type_list_append mt_append (pv 7) (pa_cons (pe_tup (pa_cons (pe_lam (T := TT0 K) tb rfl (mem_law_refused_right K) (hu_law_refused_right Tx) (LamX.lamS_by (sc := defScope s_law_refused_right) (by decide +kernel)) rfl) (pa_cons (pe_tup (pa_cons pe_str (pa_cons pe_str pa_nil))) pa_nil))) pa_nil)))
        (pss_cons (ps_expr (pe_bm PySem.F.plainAttrs_list PySem.F.slot_list_append PySem.F.type_list_append mt_append (pv 7) (pa_cons (pe_tup (pa_cons (pe_lam (T := TT0 K) tb rfl (mem_law_refused_right K) (hu_law_refused_right Tx) (LamX.lamS_by (sc := defScope s_law_refused_right) (by decide +kernel)) rfl) (pa_cons (pe_tup (pa_cons pe_str (pa_cons pe_str pa_nil))) pa_nil))) pa_nil)))
        (pss_cons (ps_expr (pe_bm PySem.F.plainAttrs_list PySem.F.slot_list_append PySem.F.type_list_append mt_append (pv 7) (pa_cons (pe_tup (pa_cons (pe_lam (T := TT0 K) tb rfl (mem_law_refused_right K) (hu_law_refused_right Tx) (LamX.lamS_by (sc := defScope s_law_refused_right) (by decide +kernel)) rfl) (pa_cons (pe_tup (pa_cons pe_str (pa_cons pe_str pa_nil))) pa_nil))) pa_nil)))
        (pss_cons (ps_expr (pe_bm PySem.F.plainAttrs_list PySem.F.slot_list_append PySem.F.type_list_append mt_append (pv 7) (pa_cons (pe_tup (pa_cons (pe_lam (T := TT0 K) tb rfl (mem_law_refused_right K) (hu_law_refused_right Tx) (LamX.lamS_by (sc := defScope s_law_refused_right) (by decide +kernel)) rfl) (pa_cons (pe_tup (pa_cons pe_str (pa_cons pe_str pa_nil))) pa_nil))) pa_nil)))
        (pss_cons (ps_expr (pe_bm PySem.F.plainAttrs_list PySem.F.slot_list_append PySem.F.type_list_append mt_append (pv 7) (pa_cons (pe_tup (pa_cons (pe_lam (T := TT0 K) tb rfl (mem_law_refused_right K) (hu_law_refused_right Tx) (LamX.lamS_by (sc := defScope s_law_refused_right) (by decide +kernel)) rfl) (pa_cons (pe_tup (pa_cons pe_str (pa_cons pe_str pa_nil))) pa_nil))) pa_nil)))
        (pss_cons (ps_expr (pe_bm PySem.F.plainAttrs_list PySem.F.slot_list_append PySem.F.type_list_append mt_append (pv 7) (pa_cons (pe_tup (pa_cons (pe_lam (T := TT0 K) tb rfl (mem_law_refused_right K) (hu_law_refused_right Tx) (LamX.lamS_by (sc := defScope s_law_refused_right) (by decide +kernel)) rfl) (pa_cons (pe_tup (pa_cons pe_str (pa_cons pe_str pa_nil))) pa_nil))) pa_nil)))
        (pss_cons (ps_expr (pe_bm PySem.F.plainAttrs_list PySem.F.slot_list_append PySem.F.type_list_append mt_append (pv 7) (pa_cons (pe_tup (pa_cons (pe_lam (T := TT0 K) tb rfl (mem_law_refused_right K) (hu_law_refused_right Tx) (LamX.lamS_by (sc := defScope s_law_refused_right) (by decide +kernel)) rfl) (pa_cons (pe_tup (pa_cons pe_str (pa_cons pe_str pa_nil))) pa_nil))) pa_nil)))
        (pss_cons (ps_expr (pe_bm PySem.F.plainAttrs_list PySem.F.slot_list_append PySem.F.type_list_append mt_append (pv 7) (pa_cons (pe_tup (pa_cons (pe_lam (T := TT0 K) tb rfl (mem_law_refused_right K) (hu_law_refused_right Tx) (LamX.lamS_by (sc := defScope s_law_refused_right) (by decide +kernel)) rfl) (pa_cons (pe_tup (pa_cons pe_str (pa_cons pe_str pa_nil))) pa_nil))) pa_nil)))
        (pss_cons (ps_expr (pe_bm PySem.F.plainAttrs_list PySem.F.slot_list_append PySem.F.type_list_append mt_append (pv 7) (pa_cons (pe_tup (pa_cons (pe_lam (T := TT0 K) tb rfl (mem_law_refused_right K) (hu_law_refused_right Tx) (LamX.lamS_by (sc := defScope s_law_refused_right) (by decide +kernel)) rfl) (pa_cons (pe_tup (pa_cons pe_str (pa_cons pe_str pa_nil))) pa_nil))) pa_nil)))
        (pss_cons (ps_expr (pe_bm PySem.F.plainAttrs_list PySem.F.slot_list_append PySem.F.type_list_append mt_append (pv 7) (pa_cons (pe_tup (pa_cons (pe_lam (T := TT0 K) tb rfl (mem_law_refused_right K) (hu_law_refused_right Tx) (LamX.lamS_by (sc := defScope s_law_refused_right) (by decide +kernel)) rfl) (pa_cons (pe_tup (pa_cons pe_str (pa_cons pe_str pa_nil))) pa_nil))) pa_nil)))
        (pss_cons (ps_expr (pe_bm PySem.F.plainAttrs_list PySem.F.slot_list_append PySem.F.type_list_append mt_append (pv 7) (pa_cons (pe_tup (pa_cons (pe_lam (T := TT0 K) tb rfl (mem_law_refused_right K) (hu_law_refused_right Tx) (LamX.lamS_by (sc := defScope s_law_refused_right) (by decide +kernel)) rfl) (pa_cons (pe_tup (pa_cons pe_str (pa_cons pe_str pa_nil))) pa_nil))) pa_nil)))
        (pss_cons (ps_expr (pe_bm PySem.F.plainAttrs_list PySem.F.slot_list_append PySem.F.type_list_append mt_append (pv 7) (pa_cons (pe_tup (pa_cons (pe_lam (T := TT0 K) tb rfl (mem_law_refused_right K) (hu_law_refused_right Tx) (LamX.lamS_by (sc := defScope s_law_refused_right) (by decide +kernel)) rfl) (pa_cons (pe_tup (pa_cons pe_str (pa_cons pe_str pa_nil))) pa_nil))) pa_nil)))
        (pss_cons (ps_expr (pe_bm PySem.F.plainAttrs_list PySem.F.slot_list_append PySem.F.type_list_append mt_append (pv 7) (pa_cons (pe_tup (pa_cons (pe_lam (T := TT0 K) tb rfl (mem_law_refused_right K) (hu_law_refused_right Tx) (LamX.lamS_by (sc := defScope s_law_refused_right) (by decide +kernel)) rfl) (pa_cons (pe_tup (pa_cons pe_str (pa_cons pe_str pa_nil))) pa_nil))) pa_nil)))
        (pss_one (ps_ret (pe_cmpR (op_eqNil hr.units0) (pe_lcM (own := [("_law_ask", 8), ("_law_due", 9)]) (g := _) (tt := fun σ0 => tTest (tOp (rNeD K) (tLamV (XR P w K mg base A outer s H E) 5 σ0 (TTh K) (tVar 8)) (tVar 9))) (te := tVar 9) rfl sc_law_refused_right.nd (pi_list (pv 7)) (blkOk_by (own := [("_law_ask", 8), ("_law_due", 9)]) (N := ["_law_pen_here", "_law_kind", "_law_vector_here", "_law_odd", "_law_bad", "_law_many", "_law_square", "_law_rows", "_law_ask", "_law_due"]) (sc := defScope s_law_refused_right) (by decide +kernel)) (fun _ _ _ _ _ _ => (pg_tupK (K := K) (n := 2) rfl rfl (pgs_cons (pg_name (i := 8) sc_law_refused_right.nd rfl (Or.inl rfl)) (pgs_cons (pg_name (i := 9) sc_law_refused_right.nd rfl (Or.inl rfl)) pgs_nil)))) (fun _ _ _ _ _ _ _ _ I3 hfp => (pts_one (pt_cmpR (op_neDK (K := K) rfl hr.units) (pe_lamV (k := 5) (TT := TTh K) I3 hfp (by rfl) g_heard k_heard lk_heard hc_heard b_heard sc_law_heard rfl (.inl rfl) (heard_givesV rfl rfl Tx) (hr.mono (by decide)) (pv 8)) (pv 9) (nomark _)))) (fun _ _ _ _ _ _ => (pv 9))) (pe_lst pa_nil) (nomark _)))))))))))))))))))))))))), ?_⟩
    refine ⟨_, rfl, le_line (n := 1) (by decide), fun a1 na1 => ?_⟩
    have pa1 : a1 ≠ p := (hp.new na1).1
    have sx : Same H (upd H a1 (.tup [.int 1])) := same_new na1
    replace hp := hp.same sx
    replace ht := tabs_same ht sx
    replace ha := sx _ _ ha
    have fa1 : (upd H a1 (.tup [.int 1])) a1 = some (.tup [.int 1]) := upd_same
    clear sx
    revert hp ht ha fa1
    generalize upd H a1 (.tup [.int 1]) = G1
    intro hp ht ha fa1
    refine ⟨le_line (n := 3) (by decide), fun a2 na2 => ?_⟩
    have pa2 : a2 ≠ p := (hp.new na2).1
    have sx : Same G1 (upd G1 a2 (.tup [.int 1, .int 2, .int 3])) := same_new na2
    replace hp := hp.same sx
    replace ht := tabs_same ht sx
    replace ha := sx _ _ ha
    replace fa1 := sx _ _ fa1
    have fa2 : (upd G1 a2 (.tup [.int 1, .int 2, .int 3])) a2 = some (.tup [.int 1, .int 2, .int 3]) := upd_same
    clear sx
    revert hp ht ha fa1 fa2
    generalize upd G1 a2 (.tup [.int 1, .int 2, .int 3]) = G2
    intro hp ht ha fa1 fa2
    refine ⟨le_line (n := 2) (by decide), fun a3 na3 => ?_⟩
    have pa3 : a3 ≠ p := (hp.new na3).1
    have sx : Same G2 (upd G2 a3 (.lst [.int 1, .bl true])) := same_new na3
    replace hp := hp.same sx
    replace ht := tabs_same ht sx
    replace ha := sx _ _ ha
    replace fa1 := sx _ _ fa1
    replace fa2 := sx _ _ fa2
    have fa3 : (upd G2 a3 (.lst [.int 1, .bl true])) a3 = some (.lst [.int 1, .bl true]) := upd_same
    clear sx
    revert hp ht ha fa1 fa2 fa3
    generalize upd G2 a3 (.lst [.int 1, .bl true]) = G3
    intro hp ht ha fa1 fa2 fa3
    refine ⟨le_line (n := 2) (by decide), fun a4 na4 => ?_⟩
    have pa4 : a4 ≠ p := (hp.new na4).1
    have sx : Same G3 (upd G3 a4 (.lst [.non, .int 2])) := same_new na4
    replace hp := hp.same sx
    replace ht := tabs_same ht sx
    replace ha := sx _ _ ha
    replace fa1 := sx _ _ fa1
    replace fa2 := sx _ _ fa2
    replace fa3 := sx _ _ fa3
    have fa4 : (upd G3 a4 (.lst [.non, .int 2])) a4 = some (.lst [.non, .int 2]) := upd_same
    clear sx
    revert hp ht ha fa1 fa2 fa3 fa4
    generalize upd G3 a4 (.lst [.non, .int 2]) = G4
    intro hp ht ha fa1 fa2 fa3 fa4
    refine fun a5 na5 => ?_
    have pa5 : a5 ≠ p := (hp.new na5).1
    have sx : Same G4 (upd G4 a5 (.dK [])) := same_new na5
    replace hp := hp.same sx
    replace ht := tabs_same ht sx
    replace ha := sx _ _ ha
    replace fa1 := sx _ _ fa1
    replace fa2 := sx _ _ fa2
    replace fa3 := sx _ _ fa3
    replace fa4 := sx _ _ fa4
    have fa5 : (upd G4 a5 (.dK [])) a5 = some (.dK []) := upd_same
    clear sx
    revert hp ht ha fa1 fa2 fa3 fa4 fa5
    generalize upd G4 a5 (.dK []) = G5
    intro hp ht ha fa1 fa2 fa3 fa4 fa5
    refine ⟨le_line (n := 8) (by decide), fun l1 nl1 => ?_⟩
    have pl1 : l1 ≠ p := (hp.new nl1).1
    have sx : Same G5 (upd G5 l1 (.lst [.non, .int 5, .str "1 2", .ref a1, .ref a2, .ref a3, .ref a4, .ref a5])) := same_new nl1
    replace hp := hp.same sx
    replace ht := tabs_same ht sx
    replace ha := sx _ _ ha
    replace fa1 := sx _ _ fa1
    replace fa2 := sx _ _ fa2
    replace fa3 := sx _ _ fa3
    replace fa4 := sx _ _ fa4
    replace fa5 := sx _ _ fa5
    have fl1 : (upd G5 l1 (.lst [.non, .int 5, .str "1 2", .ref a1, .ref a2, .ref a3, .ref a4, .ref a5])) l1 = some (.lst [.non, .int 5, .str "1 2", .ref a1, .ref a2, .ref a3, .ref a4, .ref a5]) := upd_same
    clear sx
    revert hp ht ha fa1 fa2 fa3 fa4 fa5 fl1
    generalize upd G5 l1 (.lst [.non, .int 5, .str "1 2", .ref a1, .ref a2, .ref a3, .ref a4, .ref a5]) = G6
    intro hp ht ha fa1 fa2 fa3 fa4 fa5 fl1
    refine ⟨p, c, l1, b + 9, _, rfl, hp, fl1, pl1, List.cons_ne_nil _ _, (show 8 ≤ 1000 by decide), fun J od hod hq kq => ?_⟩
    have wod : OddP p G6 od ∧ True := by
      simp only [List.mem_cons, List.not_mem_nil, or_false] at hod
      rcases hod with rfl | rfl | rfl | rfl | rfl | rfl | rfl | rfl
      · exact ⟨.inl rfl, True.intro⟩
      · exact ⟨.inl rfl, True.intro⟩
      · exact ⟨.inl (by decide +kernel), True.intro⟩
      · exact ⟨.inr ⟨a1, rfl, pa1, .inl ⟨_, .inr fa1, by decide, by simp [flatS], by decide⟩⟩, True.intro⟩
      · exact ⟨.inr ⟨a2, rfl, pa2, .inl ⟨_, .inr fa2, by decide, by simp [flatS], by decide⟩⟩, True.intro⟩
      · exact ⟨.inr ⟨a3, rfl, pa3, .inl ⟨_, .inl fa3, by decide, by simp [flatS], by decide⟩⟩, True.intro⟩
      · exact ⟨.inr ⟨a4, rfl, pa4, .inl ⟨_, .inl fa4, by decide, by simp [flatS], by decide⟩⟩, True.intro⟩
      · exact ⟨.inr ⟨a5, rfl, pa5, .inr ⟨_, fa5⟩⟩, True.intro⟩
    obtain ⟨wod, eod⟩ := wod
    obtain ⟨ps, hps⟩ := hp.at
    replace ht := tabs_kp ht hps kq
    replace ha := tp_kp ha hp kq
    clear fa1
    clear fa2
    clear fa3
    clear fa4
    clear fa5
    clear fl1
    replace wod := wod.kp kq
    replace hp := hq
    clear hod hps kq
    revert ht ha wod hp
    generalize J = J7
    intro ht ha wod hp
    refine ⟨_, rfl, le_line (n := 1) (by decide), fun a6 na6 => ?_⟩
    have pa6 : a6 ≠ p := (hp.new na6).1
    have sx : Same J7 (upd J7 a6 (.lst [.str "square"])) := same_new na6
    replace ht := tabs_same ht sx
    replace ha := sx _ _ ha
    replace wod := wod.same sx
    replace hp := hp.same sx
    have fa6 : (upd J7 a6 (.lst [.str "square"])) a6 = some (.lst [.str "square"]) := upd_same
    clear sx
    revert ht ha wod hp fa6
    generalize upd J7 a6 (.lst [.str "square"]) = G8
    intro ht ha wod hp fa6
    refine ⟨le_line (n := 5) (by decide), fun l2 nl2 => ?_⟩
    have pl2 : l2 ≠ p := (hp.new nl2).1
    have sx : Same G8 (upd G8 l2 (.lst [.str "cube", .non, .int 4, .str "Square", .ref a6])) := same_new nl2
    replace ht := tabs_same ht sx
    replace ha := sx _ _ ha
    replace wod := wod.same sx
    replace hp := hp.same sx
    replace fa6 := sx _ _ fa6
    have fl2 : (upd G8 l2 (.lst [.str "cube", .non, .int 4, .str "Square", .ref a6])) l2 = some (.lst [.str "cube", .non, .int 4, .str "Square", .ref a6]) := upd_same
    clear sx
    revert ht ha wod hp fa6 fl2
    generalize upd G8 l2 (.lst [.str "cube", .non, .int 4, .str "Square", .ref a6]) = G9
    intro ht ha wod hp fa6 fl2
    refine ⟨p, c, l2, b + 8, _, rfl, hp, fl2, pl2, List.cons_ne_nil _ _, (show 5 ≤ 1000 by decide), fun J bd hbd hq kq => ?_⟩
    have wbd : OddP p G9 bd ∧ isGrid bd = false := by
      simp only [List.mem_cons, List.not_mem_nil, or_false] at hbd
      rcases hbd with rfl | rfl | rfl | rfl | rfl
      · exact ⟨ .inl (by decide +kernel), by decide +kernel⟩
      · exact ⟨.inl rfl, rfl⟩
      · exact ⟨.inl rfl, rfl⟩
      · exact ⟨ .inl (by decide +kernel), by decide +kernel⟩
      · exact ⟨.inr ⟨a6, rfl, pa6, .inl ⟨_, .inl fa6, by decide, by simp [flatS]; decide +kernel, by decide⟩⟩, rfl⟩
    obtain ⟨wbd, ebd⟩ := wbd
    obtain ⟨ps, hps⟩ := hp.at
    replace ht := tabs_kp ht hps kq
    replace ha := tp_kp ha hp kq
    clear fa6
    clear fl2
    replace wod := wod.kp kq
    replace wbd := wbd.kp kq
    replace hp := hq
    clear hbd hps kq
    revert ht ha wod wbd hp
    generalize J = J10
    intro ht ha wod wbd hp
    refine ⟨_, rfl, le_line (n := 1) (by decide), fun a7 na7 => ?_⟩
    have pa7 : a7 ≠ p := (hp.new na7).1
    have sx : Same J10 (upd J10 a7 (.tup [.int 1])) := same_new na7
    replace ht := tabs_same ht sx
    replace ha := sx _ _ ha
    replace wod := wod.same sx
    replace wbd := wbd.same sx
    replace hp := hp.same sx
    have fa7 : (upd J10 a7 (.tup [.int 1])) a7 = some (.tup [.int 1]) := upd_same
    clear sx
    revert ht ha wod wbd hp fa7
    generalize upd J10 a7 (.tup [.int 1]) = G11
    intro ht ha wod wbd hp fa7
    refine ⟨le_line (n := 4) (by decide), fun l3 nl3 => ?_⟩
    have pl3 : l3 ≠ p := (hp.new nl3).1
    have sx : Same G11 (upd G11 l3 (.lst [.non, .bl true, .str "1", .ref a7])) := same_new nl3
    replace ht := tabs_same ht sx
    replace ha := sx _ _ ha
    replace wod := wod.same sx
    replace wbd := wbd.same sx
    replace hp := hp.same sx
    replace fa7 := sx _ _ fa7
    have fl3 : (upd G11 l3 (.lst [.non, .bl true, .str "1", .ref a7])) l3 = some (.lst [.non, .bl true, .str "1", .ref a7]) := upd_same
    clear sx
    revert ht ha wod wbd hp fa7 fl3
    generalize upd G11 l3 (.lst [.non, .bl true, .str "1", .ref a7]) = G12
    intro ht ha wod wbd hp fa7 fl3
    refine ⟨p, c, l3, b + 7, _, rfl, hp, fl3, pl3, List.cons_ne_nil _ _, (show 4 ≤ 1000 by decide), fun J mn hmn hq kq => ?_⟩
    have wmn : OddP p G12 mn ∧ isI mn = false := by
      simp only [List.mem_cons, List.not_mem_nil, or_false] at hmn
      rcases hmn with rfl | rfl | rfl | rfl
      · exact ⟨.inl rfl, rfl⟩
      · exact ⟨.inl rfl, rfl⟩
      · exact ⟨ .inl (by decide +kernel), rfl⟩
      · exact ⟨.inr ⟨a7, rfl, pa7, .inl ⟨_, .inr fa7, by decide, by simp [flatS], by decide⟩⟩, rfl⟩
    obtain ⟨wmn, emn⟩ := wmn
    obtain ⟨ps, hps⟩ := hp.at
    replace ht := tabs_kp ht hps kq
    replace ha := tp_kp ha hp kq
    clear fa7
    clear fl3
    replace wod := wod.kp kq
    replace wbd := wbd.kp kq
    replace wmn := wmn.kp kq
    replace hp := hq
    clear hmn hps kq
    revert ht ha wod wbd wmn hp
    generalize J = J13
    intro ht ha wod wbd wmn hp
    refine ⟨le_line (n := 2) (by decide), fun T nT => ?_⟩
    have pT : T ≠ p := (hp.new nT).1
    have sx : Same J13 (upd J13 T (.tup [bd, mn])) := same_new nT
    replace ht := tabs_same ht sx
    replace ha := sx _ _ ha
    replace wod := wod.same sx
    replace wbd := wbd.same sx
    replace wmn := wmn.same sx
    replace hp := hp.same sx
    have fT : (upd J13 T (.tup [bd, mn])) T = some (.tup [bd, mn]) := upd_same
    clear sx
    revert ht ha wod wbd wmn hp fT
    generalize upd J13 T (.tup [bd, mn]) = G14
    intro ht ha wod wbd wmn hp fT
    refine ⟨_, _, rfl, SqT.of fT, rfl, _, _, rfl, _, _, rfl, rfl, ?_⟩
    refine ⟨_, rfl, _, rfl, le_line (n := 6) (by decide), fun l4 nl4 => ?_⟩
    have pl4 : l4 ≠ p := (hp.new nl4).1
    have sx : Same G14 (upd G14 l4 (.lst [.int 0, .int (-1), .int 401, .non, .bl true, .str "5"])) := same_new nl4
    replace ht := tabs_same ht sx
    replace ha := sx _ _ ha
    replace wod := wod.same sx
    replace wbd := wbd.same sx
    replace wmn := wmn.same sx
    replace hp := hp.same sx
    replace fT := sx _ _ fT
    have fl4 : (upd G14 l4 (.lst [.int 0, .int (-1), .int 401, .non, .bl true, .str "5"])) l4 = some (.lst [.int 0, .int (-1), .int 401, .non, .bl true, .str "5"]) := upd_same
    clear sx
    revert ht ha wod wbd wmn hp fT fl4
    generalize upd G14 l4 (.lst [.int 0, .int (-1), .int 401, .non, .bl true, .str "5"]) = G15
    intro ht ha wod wbd wmn hp fT fl4
    refine ⟨p, c, l4, b + 6, _, rfl, hp, fl4, pl4, List.cons_ne_nil _ _, (show 6 ≤ 1000 by decide), fun J sq hsq hq kq => ?_⟩
    have wsq : OddP p G15 sq ∧ bnd sq (.int 1) (.int 400) = false := by
      simp only [List.mem_cons, List.not_mem_nil, or_false] at hsq
      rcases hsq with rfl | rfl | rfl | rfl | rfl | rfl
      · exact ⟨.inl rfl, by decide +kernel⟩
      · exact ⟨.inl rfl, by decide +kernel⟩
      · exact ⟨.inl rfl, by decide +kernel⟩
      · exact ⟨.inl rfl, rfl⟩
      · exact ⟨.inl rfl, rfl⟩
      · exact ⟨ .inl (by decide +kernel), rfl⟩
    obtain ⟨wsq, esq⟩ := wsq
    obtain ⟨ps, hps⟩ := hp.at
    replace ht := tabs_kp ht hps kq
    replace ha := tp_kp ha hp kq
    clear fT
    clear fl4
    replace wod := wod.kp kq
    replace wbd := wbd.kp kq
    replace wmn := wmn.kp kq
    replace wsq := wsq.kp kq
    replace hp := hq
    clear hsq hps kq
    revert ht ha wod wbd wmn wsq hp
    generalize J = J16
    intro ht ha wod wbd wmn wsq hp
    have KB : ∀ H', ExtN J16 H' → ∃ k, KdV K H' bd k := fun H' e => (wbd.ext e).kd
    have KM : ∀ H', ExtN J16 H' → ∃ k, KdV K H' mn k := fun H' e => (wmn.ext e).kd
    have KS : ∀ H', ExtN J16 H' → ∃ k, KdV K H' sq k := fun H' e => (wsq.ext e).kd
    have VO : ∀ H', ExtN J16 H' → VecV K H' od false := fun H' e => (wod.ext e).vec
    have VA : ∀ H', ExtN J16 H' → VecAt H' (.ref a) v := fun H' e => VecAt.tup (e _ _ ha fun _ z => nomatch z)
    have NG : ∀ {Z : Prop}, isGrid (.str z) = false → Z := fun h => absurd g (by rw [h]; decide)
    have NB : ∀ {Z : Prop}, isGrid bd = true → Z := fun h => absurd h (by rw [ebd]; decide)
    have sv : Sm 390 v := hs.le (by decide)
    clear hp wod wbd wmn wsq
    refine ⟨ht, fun f0 c0 A0 e0 u0 m0 hf0 hc0 => ⟨le_line (n := 2) (by decide), fun d0 nd0 => ⟨le_line (n := 2) (by decide), fun t0 nt0 => ⟨le_line (n := 1) (by decide), fun L nL => ?_⟩⟩⟩⟩
    obtain ⟨σ0, hσ⟩ : ∃ σ0 : L2.St, σ0 = [some (.ref p), some (.str z), some (.ref a), some od, some bd, some mn, some sq, some (.ref L), none, none] := ⟨_, rfl⟩
    have P0 : ∃ D : LamD (XR P w K mg base A outer s H E) 5, D.params = lamP (rowLam 0) ∧ D.body = lamB (rowLam 0) ∧ D.scope = lamC (rowLam 0) ∧ ∀ (C : VK) (H' : Hp), ExtN J16 H' → Told C H' [.str "kind", .str "kind"] → ∀ N : VK, D.t (EH K C) σ0 H' N := by
      refine ⟨⟨lamP (rowLam 0), lamB (rowLam 0), lamC (rowLam 0), fun E1 => _, LamX.lamS_by (sc := defScope s_law_refused_right) (by decide +kernel), fun _ _ _ _ _ => rfl, fun A1 outer1 s1 H1 E1 f1 c1 hr => (pe_call G_square_of (hr.mono (by decide)) (by rfl) g_square_of k_square_of b_square_of .nil (passE rfl rfl rfl rfl) (pa_cons (pv 4) (pa_cons (pv 3) pa_nil)))⟩, rfl, rfl, rfl, fun C H' e w N => ?_⟩
      subst hσ
      obtain ⟨kb, hb⟩ := KB H' e
      exact ⟨_, rfl, _, rfl, bd, od, kb, false, rfl, hb, (VO H' e), (fun _ => (eh_kind w)), (fun h => NB h)⟩
    obtain ⟨D0, P0⟩ := P0
    obtain ⟨pp, pb, pc, P0⟩ := P0
    have l0 : LamAt (XR P w K mg base A outer s H E) 5 A0 f0 D0 := by
      refine ⟨c0, ?_, hc0⟩
      rw [pp, pb, pc]
      exact hf0
    clear pp pb pc hf0 hc0
    have R : ∃ us : List Addr, RowsAt K (XR P w K mg base A outer s H E) σ0 J16 (upd (upd (upd A0 d0 (.tup [.str "kind", .str "kind"])) t0 (.tup [.ref f0, .ref d0])) L (.lst [.ref t0])) L us ∧ us.length = 1 := by
      have sd := same_new (o := .tup [.str "kind", .str "kind"]) nd0
      have st := same_new (o := .tup [.ref f0, .ref d0]) nt0
      have sL := same_new (o := .lst [.ref t0]) nL
      have ss := (sd.trans st).trans sL
      have nL0 : ∀ u, J16 L = some u → (∀ ps, u ≠ .tbl ps) → False := fun u h k => by
        have h2 := (sd.trans st) _ _ (e0 _ _ h k)
        rw [nL] at h2
        cases h2
      refine ⟨[t0], ⟨e0.trans (ExtN.of ss), tabs_same u0 ss, upd_same, nL0, fun t ht => ?_⟩, rfl⟩
      have et : t = t0 := by simpa using ht
      subst et
      exact ⟨("kind", "kind"), by decide +kernel, by decide +kernel, f0, d0, D0, sL _ _ upd_same, (l0.same sd).same (st.trans sL), sL _ _ (st _ _ upd_same), P0⟩
    obtain ⟨us0, R, hn⟩ := R
    revert R
    generalize upd (upd (upd A0 d0 (.tup [.str "kind", .str "kind"])) t0 (.tup [.ref f0, .ref d0])) L (.lst [.ref t0]) = B0
    intro R
    refine ⟨_, rfl, .inl ⟨rfl, _, SqL.of R.lst⟩, R.tabs, fun f1 c1 A1 e1 u1 m1 hf1 hc1 => ⟨le_line (n := 2) (by decide), fun d1 nd1 => ⟨le_line (n := 2) (by decide), fun t1 nt1 => ⟨L, _, _, rfl, rfl, rows_lst R e1 nd1 nt1, small_line (by rw [List.length_map]; omega), ?_⟩⟩⟩⟩
    have P1 : ∃ D : LamD (XR P w K mg base A outer s H E) 5, D.params = lamP (rowLam 1) ∧ D.body = lamB (rowLam 1) ∧ D.scope = lamC (rowLam 1) ∧ ∀ (C : VK) (H' : Hp), ExtN J16 H' → Told C H' [.str "number", .str "vector"] → ∀ N : VK, D.t (EH K C) σ0 H' N := by
      refine ⟨⟨lamP (rowLam 1), lamB (rowLam 1), lamC (rowLam 1), fun E1 => _, LamX.lamS_by (sc := defScope s_law_refused_right) (by decide +kernel), fun _ _ _ _ _ => rfl, fun A1 outer1 s1 H1 E1 f1 c1 hr => (pe_call G_square_of (hr.mono (by decide)) (by rfl) g_square_of k_square_of b_square_of .nil (passE rfl rfl rfl rfl) (pa_cons (pv 1) (pa_cons (pv 3) pa_nil)))⟩, rfl, rfl, rfl, fun C H' e w N => ?_⟩
      subst hσ
      exact ⟨_, rfl, _, rfl, _, od, .str, false, rfl, True.intro, (VO H' e), (fun h => NG h), (fun _ => ⟨fun _ => (eh_num w), (fun h => Bool.noConfusion h)⟩)⟩
    obtain ⟨D1, P1⟩ := P1
    obtain ⟨pp, pb, pc, P1⟩ := P1
    have l1 : LamAt (XR P w K mg base A outer s H E) 5 A1 f1 D1 := by
      refine ⟨c1, ?_, hc1⟩
      rw [pp, pb, pc]
      exact hf1
    clear pp pb pc hf1 hc1
    replace R := rows_step (ws := ("number", "vector")) R hn e1 u1 D1 l1 (by decide +kernel) (by decide +kernel) P1 nd1 nt1 rfl
    obtain ⟨us1, R, hn⟩ := R
    clear nd1 nt1 e1 u1 m1 l1 P1
    revert R
    generalize upd (upd (upd A1 d1 (.tup [.str "number", .str "vector"])) t1 (.tup [.ref f1, .ref d1])) L (.lst (us0.map V.ref ++ [.ref t1])) = B1
    intro R
    refine ⟨_, rfl, .inl ⟨rfl, _, SqL.of R.lst⟩, R.tabs, fun f2 c2 A2 e2 u2 m2 hf2 hc2 => ⟨le_line (n := 2) (by decide), fun d2 nd2 => ⟨le_line (n := 2) (by decide), fun t2 nt2 => ⟨L, _, _, rfl, rfl, rows_lst R e2 nd2 nt2, small_line (by rw [List.length_map]; omega), ?_⟩⟩⟩⟩
    have P2 : ∃ D : LamD (XR P w K mg base A outer s H E) 5, D.params = lamP (rowLam 2) ∧ D.body = lamB (rowLam 2) ∧ D.scope = lamC (rowLam 2) ∧ ∀ (C : VK) (H' : Hp), ExtN J16 H' → Told C H' [.str "kind", .str "kind"] → ∀ N : VK, D.t (EH K C) σ0 H' N := by
      refine ⟨⟨lamP (rowLam 2), lamB (rowLam 2), lamC (rowLam 2), fun E1 => _, LamX.lamS_by (sc := defScope s_law_refused_right) (by decide +kernel), fun _ _ _ _ _ => rfl, fun A1 outer1 s1 H1 E1 f1 c1 hr => (pe_call G_product (hr.mono (by decide)) (by rfl) g_product k_product b_product .nil (passE rfl rfl rfl rfl) (pa_cons (pv 4) (pa_cons (pv 3) (pa_cons (pv 3) pa_nil))))⟩, rfl, rfl, rfl, fun C H' e w N => ?_⟩
      subst hσ
      obtain ⟨kb, hb⟩ := KB H' e
      exact ⟨_, rfl, _, rfl, _, rfl, bd, od, od, kb, false, false, rfl, hb, (VO H' e), (VO H' e), (fun _ => (eh_kind w)), (fun h => NB h)⟩
    obtain ⟨D2, P2⟩ := P2
    obtain ⟨pp, pb, pc, P2⟩ := P2
    have l2 : LamAt (XR P w K mg base A outer s H E) 5 A2 f2 D2 := by
      refine ⟨c2, ?_, hc2⟩
      rw [pp, pb, pc]
      exact hf2
    clear pp pb pc hf2 hc2
    replace R := rows_step (ws := ("kind", "kind")) R hn e2 u2 D2 l2 (by decide +kernel) (by decide +kernel) P2 nd2 nt2 rfl
    obtain ⟨us2, R, hn⟩ := R
    clear nd2 nt2 e2 u2 m2 l2 P2
    revert R
    generalize upd (upd (upd A2 d2 (.tup [.str "kind", .str "kind"])) t2 (.tup [.ref f2, .ref d2])) L (.lst (us1.map V.ref ++ [.ref t2])) = B2
    intro R
    refine ⟨_, rfl, .inl ⟨rfl, _, SqL.of R.lst⟩, R.tabs, fun f3 c3 A3 e3 u3 m3 hf3 hc3 => ⟨le_line (n := 2) (by decide), fun d3 nd3 => ⟨le_line (n := 2) (by decide), fun t3 nt3 => ⟨L, _, _, rfl, rfl, rows_lst R e3 nd3 nt3, small_line (by rw [List.length_map]; omega), ?_⟩⟩⟩⟩
    have P3 : ∃ D : LamD (XR P w K mg base A outer s H E) 5, D.params = lamP (rowLam 3) ∧ D.body = lamB (rowLam 3) ∧ D.scope = lamC (rowLam 3) ∧ ∀ (C : VK) (H' : Hp), ExtN J16 H' → Told C H' [.str "number", .str "one"] → ∀ N : VK, D.t (EH K C) σ0 H' N := by
      refine ⟨⟨lamP (rowLam 3), lamB (rowLam 3), lamC (rowLam 3), fun E1 => _, LamX.lamS_by (sc := defScope s_law_refused_right) (by decide +kernel), fun _ _ _ _ _ => rfl, fun A1 outer1 s1 H1 E1 f1 c1 hr => (pe_call G_product (hr.mono (by decide)) (by rfl) g_product k_product b_product .nil (passE rfl rfl rfl rfl) (pa_cons (pv 1) (pa_cons (pv 3) (pa_cons (pv 3) pa_nil))))⟩, rfl, rfl, rfl, fun C H' e w N => ?_⟩
      subst hσ
      exact ⟨_, rfl, _, rfl, _, rfl, _, od, od, .str, false, false, rfl, True.intro, (VO H' e), (VO H' e), (fun h => NG h), (fun _ => ⟨fun _ => (eh_num w), (fun h => Bool.noConfusion h)⟩)⟩
    obtain ⟨D3, P3⟩ := P3
    obtain ⟨pp, pb, pc, P3⟩ := P3
    have l3 : LamAt (XR P w K mg base A outer s H E) 5 A3 f3 D3 := by
      refine ⟨c3, ?_, hc3⟩
      rw [pp, pb, pc]
      exact hf3
    clear pp pb pc hf3 hc3
    replace R := rows_step (ws := ("number", "one")) R hn e3 u3 D3 l3 (by decide +kernel) (by decide +kernel) P3 nd3 nt3 rfl
    obtain ⟨us3, R, hn⟩ := R
    clear nd3 nt3 e3 u3 m3 l3 P3
    revert R
    generalize upd (upd (upd A3 d3 (.tup [.str "number", .str "one"])) t3 (.tup [.ref f3, .ref d3])) L (.lst (us2.map V.ref ++ [.ref t3])) = B3
    intro R
    refine ⟨_, rfl, .inl ⟨rfl, _, SqL.of R.lst⟩, R.tabs, fun f4 c4 A4 e4 u4 m4 hf4 hc4 => ⟨le_line (n := 2) (by decide), fun d4 nd4 => ⟨le_line (n := 2) (by decide), fun t4 nt4 => ⟨L, _, _, rfl, rfl, rows_lst R e4 nd4 nt4, small_line (by rw [List.length_map]; omega), ?_⟩⟩⟩⟩
    have P4 : ∃ D : LamD (XR P w K mg base A outer s H E) 5, D.params = lamP (rowLam 4) ∧ D.body = lamB (rowLam 4) ∧ D.scope = lamC (rowLam 4) ∧ ∀ (C : VK) (H' : Hp), ExtN J16 H' → Told C H' [.str "number", .str "other"] → ∀ N : VK, D.t (EH K C) σ0 H' N := by
      refine ⟨⟨lamP (rowLam 4), lamB (rowLam 4), lamC (rowLam 4), fun E1 => _, LamX.lamS_by (sc := defScope s_law_refused_right) (by decide +kernel), fun _ _ _ _ _ => rfl, fun A1 outer1 s1 H1 E1 f1 c1 hr => (pe_call G_product (hr.mono (by decide)) (by rfl) g_product k_product b_product .nil (passE rfl rfl rfl rfl) (pa_cons (pv 1) (pa_cons (pv 2) (pa_cons (pv 3) pa_nil))))⟩, rfl, rfl, rfl, fun C H' e w N => ?_⟩
      subst hσ
      exact ⟨_, rfl, _, rfl, _, rfl, _, _, od, .str, true, false, rfl, True.intro, (VA H' e).v, (VO H' e), (fun h => NG h), (fun _ => ⟨(fun h => Bool.noConfusion h), fun _ => ⟨fun _ => (eh_num w), (fun h => Bool.noConfusion h)⟩⟩)⟩
    obtain ⟨D4, P4⟩ := P4
    obtain ⟨pp, pb, pc, P4⟩ := P4
    have l4 : LamAt (XR P w K mg base A outer s H E) 5 A4 f4 D4 := by
      refine ⟨c4, ?_, hc4⟩
      rw [pp, pb, pc]
      exact hf4
    clear pp pb pc hf4 hc4
    replace R := rows_step (ws := ("number", "other")) R hn e4 u4 D4 l4 (by decide +kernel) (by decide +kernel) P4 nd4 nt4 rfl
    obtain ⟨us4, R, hn⟩ := R
    clear nd4 nt4 e4 u4 m4 l4 P4
    revert R
    generalize upd (upd (upd A4 d4 (.tup [.str "number", .str "other"])) t4 (.tup [.ref f4, .ref d4])) L (.lst (us3.map V.ref ++ [.ref t4])) = B4
    intro R
    refine ⟨_, rfl, .inl ⟨rfl, _, SqL.of R.lst⟩, R.tabs, fun f5 c5 A5 e5 u5 m5 hf5 hc5 => ⟨le_line (n := 2) (by decide), fun d5 nd5 => ⟨le_line (n := 2) (by decide), fun t5 nt5 => ⟨L, _, _, rfl, rfl, rows_lst R e5 nd5 nt5, small_line (by rw [List.length_map]; omega), ?_⟩⟩⟩⟩
    have P5 : ∃ D : LamD (XR P w K mg base A outer s H E) 5, D.params = lamP (rowLam 5) ∧ D.body = lamB (rowLam 5) ∧ D.scope = lamC (rowLam 5) ∧ ∀ (C : VK) (H' : Hp), ExtN J16 H' → Told C H' [.str "kind", .str "kind"] → ∀ N : VK, D.t (EH K C) σ0 H' N := by
      refine ⟨⟨lamP (rowLam 5), lamB (rowLam 5), lamC (rowLam 5), fun E1 => _, LamX.lamS_by (sc := defScope s_law_refused_right) (by decide +kernel), fun _ _ _ _ _ => rfl, fun A1 outer1 s1 H1 E1 f1 c1 hr => (pe_call G_turned (hr.mono (by decide)) (by rfl) g_turned k_turned b_turned .nil (passE rfl rfl rfl rfl) (pa_cons (pv 4) (pa_cons (pv 3) (pa_cons (pv 5) pa_nil))))⟩, rfl, rfl, rfl, fun C H' e w N => ?_⟩
      subst hσ
      obtain ⟨kb, hb⟩ := KB H' e
      obtain ⟨km, hm⟩ := KM H' e
      exact ⟨_, rfl, _, rfl, _, rfl, bd, od, mn, kb, km, false, rfl, hb, (VO H' e), hm, (fun _ => (eh_kind w)), (fun h => NB h)⟩
    obtain ⟨D5, P5⟩ := P5
    obtain ⟨pp, pb, pc, P5⟩ := P5
    have l5 : LamAt (XR P w K mg base A outer s H E) 5 A5 f5 D5 := by
      refine ⟨c5, ?_, hc5⟩
      rw [pp, pb, pc]
      exact hf5
    clear pp pb pc hf5 hc5
    replace R := rows_step (ws := ("kind", "kind")) R hn e5 u5 D5 l5 (by decide +kernel) (by decide +kernel) P5 nd5 nt5 rfl
    obtain ⟨us5, R, hn⟩ := R
    clear nd5 nt5 e5 u5 m5 l5 P5
    revert R
    generalize upd (upd (upd A5 d5 (.tup [.str "kind", .str "kind"])) t5 (.tup [.ref f5, .ref d5])) L (.lst (us4.map V.ref ++ [.ref t5])) = B5
    intro R
    refine ⟨_, rfl, .inl ⟨rfl, _, SqL.of R.lst⟩, R.tabs, fun f6 c6 A6 e6 u6 m6 hf6 hc6 => ⟨le_line (n := 2) (by decide), fun d6 nd6 => ⟨le_line (n := 2) (by decide), fun t6 nt6 => ⟨L, _, _, rfl, rfl, rows_lst R e6 nd6 nt6, small_line (by rw [List.length_map]; omega), ?_⟩⟩⟩⟩
    have P6 : ∃ D : LamD (XR P w K mg base A outer s H E) 5, D.params = lamP (rowLam 6) ∧ D.body = lamB (rowLam 6) ∧ D.scope = lamC (rowLam 6) ∧ ∀ (C : VK) (H' : Hp), ExtN J16 H' → Told C H' [.str "number", .str "vector"] → ∀ N : VK, D.t (EH K C) σ0 H' N := by
      refine ⟨⟨lamP (rowLam 6), lamB (rowLam 6), lamC (rowLam 6), fun E1 => _, LamX.lamS_by (sc := defScope s_law_refused_right) (by decide +kernel), fun _ _ _ _ _ => rfl, fun A1 outer1 s1 H1 E1 f1 c1 hr => (pe_call G_turned (hr.mono (by decide)) (by rfl) g_turned k_turned b_turned .nil (passE rfl rfl rfl rfl) (pa_cons (pv 1) (pa_cons (pv 3) (pa_cons (pv 5) pa_nil))))⟩, rfl, rfl, rfl, fun C H' e w N => ?_⟩
      subst hσ
      obtain ⟨km, hm⟩ := KM H' e
      exact ⟨_, rfl, _, rfl, _, rfl, _, od, mn, .str, km, false, rfl, True.intro, (VO H' e), hm, (fun h => NG h), (fun _ => ⟨fun _ => (eh_num w), (fun h => Bool.noConfusion h)⟩)⟩
    obtain ⟨D6, P6⟩ := P6
    obtain ⟨pp, pb, pc, P6⟩ := P6
    have l6 : LamAt (XR P w K mg base A outer s H E) 5 A6 f6 D6 := by
      refine ⟨c6, ?_, hc6⟩
      rw [pp, pb, pc]
      exact hf6
    clear pp pb pc hf6 hc6
    replace R := rows_step (ws := ("number", "vector")) R hn e6 u6 D6 l6 (by decide +kernel) (by decide +kernel) P6 nd6 nt6 rfl
    obtain ⟨us6, R, hn⟩ := R
    clear nd6 nt6 e6 u6 m6 l6 P6
    revert R
    generalize upd (upd (upd A6 d6 (.tup [.str "number", .str "vector"])) t6 (.tup [.ref f6, .ref d6])) L (.lst (us5.map V.ref ++ [.ref t6])) = B6
    intro R
    refine ⟨_, rfl, .inl ⟨rfl, _, SqL.of R.lst⟩, R.tabs, fun f7 c7 A7 e7 u7 m7 hf7 hc7 => ⟨le_line (n := 2) (by decide), fun d7 nd7 => ⟨le_line (n := 2) (by decide), fun t7 nt7 => ⟨L, _, _, rfl, rfl, rows_lst R e7 nd7 nt7, small_line (by rw [List.length_map]; omega), ?_⟩⟩⟩⟩
    have P7 : ∃ D : LamD (XR P w K mg base A outer s H E) 5, D.params = lamP (rowLam 7) ∧ D.body = lamB (rowLam 7) ∧ D.scope = lamC (rowLam 7) ∧ ∀ (C : VK) (H' : Hp), ExtN J16 H' → Told C H' [.str "number", .str "many"] → ∀ N : VK, D.t (EH K C) σ0 H' N := by
      refine ⟨⟨lamP (rowLam 7), lamB (rowLam 7), lamC (rowLam 7), fun E1 => _, LamX.lamS_by (sc := defScope s_law_refused_right) (by decide +kernel), fun _ _ _ _ _ => rfl, fun A1 outer1 s1 H1 E1 f1 c1 hr => (pe_call G_turned (hr.mono (by decide)) (by rfl) g_turned k_turned b_turned .nil (passE rfl rfl rfl rfl) (pa_cons (pv 1) (pa_cons (pv 2) (pa_cons (pv 5) pa_nil))))⟩, rfl, rfl, rfl, fun C H' e w N => ?_⟩
      subst hσ
      obtain ⟨km, hm⟩ := KM H' e
      exact ⟨_, rfl, _, rfl, _, rfl, _, _, mn, .str, km, true, rfl, True.intro, (VA H' e).v, hm, (fun h => NG h), (fun _ => ⟨(fun h => Bool.noConfusion h), fun _ => ⟨fun _ => (eh_num w), fun h => absurd h (by rw [emn]; decide)⟩⟩)⟩
    obtain ⟨D7, P7⟩ := P7
    obtain ⟨pp, pb, pc, P7⟩ := P7
    have l7 : LamAt (XR P w K mg base A outer s H E) 5 A7 f7 D7 := by
      refine ⟨c7, ?_, hc7⟩
      rw [pp, pb, pc]
      exact hf7
    clear pp pb pc hf7 hc7
    replace R := rows_step (ws := ("number", "many")) R hn e7 u7 D7 l7 (by decide +kernel) (by decide +kernel) P7 nd7 nt7 rfl
    obtain ⟨us7, R, hn⟩ := R
    clear nd7 nt7 e7 u7 m7 l7 P7
    revert R
    generalize upd (upd (upd A7 d7 (.tup [.str "number", .str "many"])) t7 (.tup [.ref f7, .ref d7])) L (.lst (us6.map V.ref ++ [.ref t7])) = B7
    intro R
    refine ⟨_, rfl, .inl ⟨rfl, _, SqL.of R.lst⟩, R.tabs, fun f8 c8 A8 e8 u8 m8 hf8 hc8 => ⟨le_line (n := 2) (by decide), fun d8 nd8 => ⟨le_line (n := 2) (by decide), fun t8 nt8 => ⟨L, _, _, rfl, rfl, rows_lst R e8 nd8 nt8, small_line (by rw [List.length_map]; omega), ?_⟩⟩⟩⟩
    have P8 : ∃ D : LamD (XR P w K mg base A outer s H E) 5, D.params = lamP (rowLam 8) ∧ D.body = lamB (rowLam 8) ∧ D.scope = lamC (rowLam 8) ∧ ∀ (C : VK) (H' : Hp), ExtN J16 H' → Told C H' [.str "kind", .str "kind"] → ∀ N : VK, D.t (EH K C) σ0 H' N := by
      refine ⟨⟨lamP (rowLam 8), lamB (rowLam 8), lamC (rowLam 8), fun E1 => _, LamX.lamS_by (sc := defScope s_law_refused_right) (by decide +kernel), fun _ _ _ _ _ => rfl, fun A1 outer1 s1 H1 E1 f1 c1 hr => (pe_call G_flipped (hr.mono (by decide)) (by rfl) g_flipped k_flipped b_flipped .nil (passE rfl rfl rfl rfl) (pa_cons (pv 4) (pa_cons (pv 3) pa_nil)))⟩, rfl, rfl, rfl, fun C H' e w N => ?_⟩
      subst hσ
      obtain ⟨kb, hb⟩ := KB H' e
      exact ⟨_, rfl, _, rfl, bd, od, kb, false, rfl, hb, (VO H' e), (fun _ => (eh_kind w)), (fun h => NB h)⟩
    obtain ⟨D8, P8⟩ := P8
    obtain ⟨pp, pb, pc, P8⟩ := P8
    have l8 : LamAt (XR P w K mg base A outer s H E) 5 A8 f8 D8 := by
      refine ⟨c8, ?_, hc8⟩
      rw [pp, pb, pc]
      exact hf8
    clear pp pb pc hf8 hc8
    replace R := rows_step (ws := ("kind", "kind")) R hn e8 u8 D8 l8 (by decide +kernel) (by decide +kernel) P8 nd8 nt8 rfl
    obtain ⟨us8, R, hn⟩ := R
    clear nd8 nt8 e8 u8 m8 l8 P8
    revert R
    generalize upd (upd (upd A8 d8 (.tup [.str "kind", .str "kind"])) t8 (.tup [.ref f8, .ref d8])) L (.lst (us7.map V.ref ++ [.ref t8])) = B8
    intro R
    refine ⟨_, rfl, .inl ⟨rfl, _, SqL.of R.lst⟩, R.tabs, fun f9 c9 A9 e9 u9 m9 hf9 hc9 => ⟨le_line (n := 2) (by decide), fun d9 nd9 => ⟨le_line (n := 2) (by decide), fun t9 nt9 => ⟨L, _, _, rfl, rfl, rows_lst R e9 nd9 nt9, small_line (by rw [List.length_map]; omega), ?_⟩⟩⟩⟩
    have P9 : ∃ D : LamD (XR P w K mg base A outer s H E) 5, D.params = lamP (rowLam 9) ∧ D.body = lamB (rowLam 9) ∧ D.scope = lamC (rowLam 9) ∧ ∀ (C : VK) (H' : Hp), ExtN J16 H' → Told C H' [.str "number", .str "vector"] → ∀ N : VK, D.t (EH K C) σ0 H' N := by
      refine ⟨⟨lamP (rowLam 9), lamB (rowLam 9), lamC (rowLam 9), fun E1 => _, LamX.lamS_by (sc := defScope s_law_refused_right) (by decide +kernel), fun _ _ _ _ _ => rfl, fun A1 outer1 s1 H1 E1 f1 c1 hr => (pe_call G_flipped (hr.mono (by decide)) (by rfl) g_flipped k_flipped b_flipped .nil (passE rfl rfl rfl rfl) (pa_cons (pv 1) (pa_cons (pv 3) pa_nil)))⟩, rfl, rfl, rfl, fun C H' e w N => ?_⟩
      subst hσ
      exact ⟨_, rfl, _, rfl, _, od, .str, false, rfl, True.intro, (VO H' e), (fun h => NG h), (fun _ => ⟨fun _ => (eh_num w), (fun h => Bool.noConfusion h)⟩)⟩
    obtain ⟨D9, P9⟩ := P9
    obtain ⟨pp, pb, pc, P9⟩ := P9
    have l9 : LamAt (XR P w K mg base A outer s H E) 5 A9 f9 D9 := by
      refine ⟨c9, ?_, hc9⟩
      rw [pp, pb, pc]
      exact hf9
    clear pp pb pc hf9 hc9
    replace R := rows_step (ws := ("number", "vector")) R hn e9 u9 D9 l9 (by decide +kernel) (by decide +kernel) P9 nd9 nt9 rfl
    obtain ⟨us9, R, hn⟩ := R
    clear nd9 nt9 e9 u9 m9 l9 P9
    revert R
    generalize upd (upd (upd A9 d9 (.tup [.str "number", .str "vector"])) t9 (.tup [.ref f9, .ref d9])) L (.lst (us8.map V.ref ++ [.ref t9])) = B9
    intro R
    refine ⟨_, rfl, .inl ⟨rfl, _, SqL.of R.lst⟩, R.tabs, fun f10 c10 A10 e10 u10 m10 hf10 hc10 => ⟨le_line (n := 2) (by decide), fun d10 nd10 => ⟨le_line (n := 2) (by decide), fun t10 nt10 => ⟨L, _, _, rfl, rfl, rows_lst R e10 nd10 nt10, small_line (by rw [List.length_map]; omega), ?_⟩⟩⟩⟩
    have P10 : ∃ D : LamD (XR P w K mg base A outer s H E) 5, D.params = lamP (rowLam 10) ∧ D.body = lamB (rowLam 10) ∧ D.scope = lamC (rowLam 10) ∧ ∀ (C : VK) (H' : Hp), ExtN J16 H' → Told C H' [.str "kind", .str "kind"] → ∀ N : VK, D.t (EH K C) σ0 H' N := by
      refine ⟨⟨lamP (rowLam 10), lamB (rowLam 10), lamC (rowLam 10), fun E1 => _, LamX.lamS_by (sc := defScope s_law_refused_right) (by decide +kernel), fun _ _ _ _ _ => rfl, fun A1 outer1 s1 H1 E1 f1 c1 hr => (pe_call G_times (hr.mono (by decide)) (by rfl) g_times k_times b_times .nil (passE rfl rfl rfl rfl) (pa_cons (pv 4) (pa_cons (pv 3) (pa_cons (pv 3) pa_nil))))⟩, rfl, rfl, rfl, fun C H' e w N => ?_⟩
      subst hσ
      obtain ⟨kb, hb⟩ := KB H' e
      exact ⟨_, rfl, _, rfl, _, rfl, bd, od, od, kb, false, false, rfl, hb, (VO H' e), (VO H' e), (fun _ => (eh_kind w)), (fun h => NB h)⟩
    obtain ⟨D10, P10⟩ := P10
    obtain ⟨pp, pb, pc, P10⟩ := P10
    have l10 : LamAt (XR P w K mg base A outer s H E) 5 A10 f10 D10 := by
      refine ⟨c10, ?_, hc10⟩
      rw [pp, pb, pc]
      exact hf10
    clear pp pb pc hf10 hc10
    replace R := rows_step (ws := ("kind", "kind")) R hn e10 u10 D10 l10 (by decide +kernel) (by decide +kernel) P10 nd10 nt10 rfl
    obtain ⟨us10, R, hn⟩ := R
    clear nd10 nt10 e10 u10 m10 l10 P10
    revert R
    generalize upd (upd (upd A10 d10 (.tup [.str "kind", .str "kind"])) t10 (.tup [.ref f10, .ref d10])) L (.lst (us9.map V.ref ++ [.ref t10])) = B10
    intro R
    refine ⟨_, rfl, .inl ⟨rfl, _, SqL.of R.lst⟩, R.tabs, fun f11 c11 A11 e11 u11 m11 hf11 hc11 => ⟨le_line (n := 2) (by decide), fun d11 nd11 => ⟨le_line (n := 2) (by decide), fun t11 nt11 => ⟨L, _, _, rfl, rfl, rows_lst R e11 nd11 nt11, small_line (by rw [List.length_map]; omega), ?_⟩⟩⟩⟩
    have P11 : ∃ D : LamD (XR P w K mg base A outer s H E) 5, D.params = lamP (rowLam 11) ∧ D.body = lamB (rowLam 11) ∧ D.scope = lamC (rowLam 11) ∧ ∀ (C : VK) (H' : Hp), ExtN J16 H' → Told C H' [.str "number", .str "one"] → ∀ N : VK, D.t (EH K C) σ0 H' N := by
      refine ⟨⟨lamP (rowLam 11), lamB (rowLam 11), lamC (rowLam 11), fun E1 => _, LamX.lamS_by (sc := defScope s_law_refused_right) (by decide +kernel), fun _ _ _ _ _ => rfl, fun A1 outer1 s1 H1 E1 f1 c1 hr => (pe_call G_times (hr.mono (by decide)) (by rfl) g_times k_times b_times .nil (passE rfl rfl rfl rfl) (pa_cons (pv 1) (pa_cons (pv 3) (pa_cons (pv 3) pa_nil))))⟩, rfl, rfl, rfl, fun C H' e w N => ?_⟩
      subst hσ
      exact ⟨_, rfl, _, rfl, _, rfl, _, od, od, .str, false, false, rfl, True.intro, (VO H' e), (VO H' e), (fun h => NG h), (fun _ => ⟨fun _ => (eh_num w), (fun h => Bool.noConfusion h)⟩)⟩
    obtain ⟨D11, P11⟩ := P11
    obtain ⟨pp, pb, pc, P11⟩ := P11
    have l11 : LamAt (XR P w K mg base A outer s H E) 5 A11 f11 D11 := by
      refine ⟨c11, ?_, hc11⟩
      rw [pp, pb, pc]
      exact hf11
    clear pp pb pc hf11 hc11
    replace R := rows_step (ws := ("number", "one")) R hn e11 u11 D11 l11 (by decide +kernel) (by decide +kernel) P11 nd11 nt11 rfl
    obtain ⟨us11, R, hn⟩ := R
    clear nd11 nt11 e11 u11 m11 l11 P11
    revert R
    generalize upd (upd (upd A11 d11 (.tup [.str "number", .str "one"])) t11 (.tup [.ref f11, .ref d11])) L (.lst (us10.map V.ref ++ [.ref t11])) = B11
    intro R
    refine ⟨_, rfl, .inl ⟨rfl, _, SqL.of R.lst⟩, R.tabs, fun f12 c12 A12 e12 u12 m12 hf12 hc12 => ⟨le_line (n := 2) (by decide), fun d12 nd12 => ⟨le_line (n := 2) (by decide), fun t12 nt12 => ⟨L, _, _, rfl, rfl, rows_lst R e12 nd12 nt12, small_line (by rw [List.length_map]; omega), ?_⟩⟩⟩⟩
    have P12 : ∃ D : LamD (XR P w K mg base A outer s H E) 5, D.params = lamP (rowLam 12) ∧ D.body = lamB (rowLam 12) ∧ D.scope = lamC (rowLam 12) ∧ ∀ (C : VK) (H' : Hp), ExtN J16 H' → Told C H' [.str "number", .str "other"] → ∀ N : VK, D.t (EH K C) σ0 H' N := by
      refine ⟨⟨lamP (rowLam 12), lamB (rowLam 12), lamC (rowLam 12), fun E1 => _, LamX.lamS_by (sc := defScope s_law_refused_right) (by decide +kernel), fun _ _ _ _ _ => rfl, fun A1 outer1 s1 H1 E1 f1 c1 hr => (pe_call G_times (hr.mono (by decide)) (by rfl) g_times k_times b_times .nil (passE rfl rfl rfl rfl) (pa_cons (pv 1) (pa_cons (pv 2) (pa_cons (pv 3) pa_nil))))⟩, rfl, rfl, rfl, fun C H' e w N => ?_⟩
      subst hσ
      exact ⟨_, rfl, _, rfl, _, rfl, _, _, od, .str, true, false, rfl, True.intro, (VA H' e).v, (VO H' e), (fun h => NG h), (fun _ => ⟨(fun h => Bool.noConfusion h), fun _ => ⟨fun _ => (eh_num w), (fun h => Bool.noConfusion h)⟩⟩)⟩
    obtain ⟨D12, P12⟩ := P12
    obtain ⟨pp, pb, pc, P12⟩ := P12
    have l12 : LamAt (XR P w K mg base A outer s H E) 5 A12 f12 D12 := by
      refine ⟨c12, ?_, hc12⟩
      rw [pp, pb, pc]
      exact hf12
    clear pp pb pc hf12 hc12
    replace R := rows_step (ws := ("number", "other")) R hn e12 u12 D12 l12 (by decide +kernel) (by decide +kernel) P12 nd12 nt12 rfl
    obtain ⟨us12, R, hn⟩ := R
    clear nd12 nt12 e12 u12 m12 l12 P12
    revert R
    generalize upd (upd (upd A12 d12 (.tup [.str "number", .str "other"])) t12 (.tup [.ref f12, .ref d12])) L (.lst (us11.map V.ref ++ [.ref t12])) = B12
    intro R
    refine ⟨_, rfl, .inl ⟨rfl, _, SqL.of R.lst⟩, R.tabs, fun f13 c13 A13 e13 u13 m13 hf13 hc13 => ⟨le_line (n := 2) (by decide), fun d13 nd13 => ⟨le_line (n := 2) (by decide), fun t13 nt13 => ⟨L, _, _, rfl, rfl, rows_lst R e13 nd13 nt13, small_line (by rw [List.length_map]; omega), ?_⟩⟩⟩⟩
    have P13 : ∃ D : LamD (XR P w K mg base A outer s H E) 5, D.params = lamP (rowLam 13) ∧ D.body = lamB (rowLam 13) ∧ D.scope = lamC (rowLam 13) ∧ ∀ (C : VK) (H' : Hp), ExtN J16 H' → Told C H' [.str "kind", .str "kind"] → ∀ N : VK, D.t (EH K C) σ0 H' N := by
      refine ⟨⟨lamP (rowLam 13), lamB (rowLam 13), lamC (rowLam 13), fun E1 => _, LamX.lamS_by (sc := defScope s_law_refused_right) (by decide +kernel), fun _ _ _ _ _ => rfl, fun A1 outer1 s1 H1 E1 f1 c1 hr => (pe_call G_quotient (hr.mono (by decide)) (by rfl) g_quotient k_quotient b_quotient .nil (passE rfl rfl rfl rfl) (pa_cons (pv 4) (pa_cons (pv 3) (pa_cons (pe_tup (pa_cons pe_int (pa_cons pe_int pa_nil))) pa_nil))))⟩, rfl, rfl, rfl, fun C H' e w N => ?_⟩
      subst hσ
      obtain ⟨kb, hb⟩ := KB H' e
      refine ⟨_, rfl, _, rfl, le_line (n := 2) (by decide), fun o no => ?_⟩
      have so := same_new (o := (.tup [.int 0, .int 0])) no
      have vz : VecAt (upd H' o (.tup [.int 0, .int 0])) (.ref o) (0, 0) := VecAt.tup upd_same
      replace hb := hb.same so
      exact ⟨bd, od, _, kb, false, true, rfl, hb, ((VO H' e).same so), vz.v, (fun _ => (eh_kind (w.same so))), (fun h => NB h)⟩
    obtain ⟨D13, P13⟩ := P13
    obtain ⟨pp, pb, pc, P13⟩ := P13
    have l13 : LamAt (XR P w K mg base A outer s H E) 5 A13 f13 D13 := by
      refine ⟨c13, ?_, hc13⟩
      rw [pp, pb, pc]
      exact hf13
    clear pp pb pc hf13 hc13
    replace R := rows_step (ws := ("kind", "kind")) R hn e13 u13 D13 l13 (by decide +kernel) (by decide +kernel) P13 nd13 nt13 rfl
    obtain ⟨us13, R, hn⟩ := R
    clear nd13 nt13 e13 u13 m13 l13 P13
    revert R
    generalize upd (upd (upd A13 d13 (.tup [.str "kind", .str "kind"])) t13 (.tup [.ref f13, .ref d13])) L (.lst (us12.map V.ref ++ [.ref t13])) = B13
    intro R
    refine ⟨_, rfl, .inl ⟨rfl, _, SqL.of R.lst⟩, R.tabs, fun f14 c14 A14 e14 u14 m14 hf14 hc14 => ⟨le_line (n := 2) (by decide), fun d14 nd14 => ⟨le_line (n := 2) (by decide), fun t14 nt14 => ⟨L, _, _, rfl, rfl, rows_lst R e14 nd14 nt14, small_line (by rw [List.length_map]; omega), ?_⟩⟩⟩⟩
    have P14 : ∃ D : LamD (XR P w K mg base A outer s H E) 5, D.params = lamP (rowLam 14) ∧ D.body = lamB (rowLam 14) ∧ D.scope = lamC (rowLam 14) ∧ ∀ (C : VK) (H' : Hp), ExtN J16 H' → Told C H' [.str "number", .str "one"] → ∀ N : VK, D.t (EH K C) σ0 H' N := by
      refine ⟨⟨lamP (rowLam 14), lamB (rowLam 14), lamC (rowLam 14), fun E1 => _, LamX.lamS_by (sc := defScope s_law_refused_right) (by decide +kernel), fun _ _ _ _ _ => rfl, fun A1 outer1 s1 H1 E1 f1 c1 hr => (pe_call G_quotient (hr.mono (by decide)) (by rfl) g_quotient k_quotient b_quotient .nil (passE rfl rfl rfl rfl) (pa_cons (pv 1) (pa_cons (pv 3) (pa_cons (pe_tup (pa_cons pe_int (pa_cons pe_int pa_nil))) pa_nil))))⟩, rfl, rfl, rfl, fun C H' e w N => ?_⟩
      subst hσ
      refine ⟨_, rfl, _, rfl, le_line (n := 2) (by decide), fun o no => ?_⟩
      have so := same_new (o := (.tup [.int 0, .int 0])) no
      have vz : VecAt (upd H' o (.tup [.int 0, .int 0])) (.ref o) (0, 0) := VecAt.tup upd_same
      exact ⟨_, od, _, .str, false, true, rfl, True.intro, ((VO H' e).same so), vz.v, (fun h => NG h), (fun _ => ⟨fun _ => (eh_num (w.same so)), (fun h => Bool.noConfusion h)⟩)⟩
    obtain ⟨D14, P14⟩ := P14
    obtain ⟨pp, pb, pc, P14⟩ := P14
    have l14 : LamAt (XR P w K mg base A outer s H E) 5 A14 f14 D14 := by
      refine ⟨c14, ?_, hc14⟩
      rw [pp, pb, pc]
      exact hf14
    clear pp pb pc hf14 hc14
    replace R := rows_step (ws := ("number", "one")) R hn e14 u14 D14 l14 (by decide +kernel) (by decide +kernel) P14 nd14 nt14 rfl
    obtain ⟨us14, R, hn⟩ := R
    clear nd14 nt14 e14 u14 m14 l14 P14
    revert R
    generalize upd (upd (upd A14 d14 (.tup [.str "number", .str "one"])) t14 (.tup [.ref f14, .ref d14])) L (.lst (us13.map V.ref ++ [.ref t14])) = B14
    intro R
    refine ⟨_, rfl, .inl ⟨rfl, _, SqL.of R.lst⟩, R.tabs, fun f15 c15 A15 e15 u15 m15 hf15 hc15 => ⟨le_line (n := 2) (by decide), fun d15 nd15 => ⟨le_line (n := 2) (by decide), fun t15 nt15 => ⟨L, _, _, rfl, rfl, rows_lst R e15 nd15 nt15, small_line (by rw [List.length_map]; omega), ?_⟩⟩⟩⟩
    have P15 : ∃ D : LamD (XR P w K mg base A outer s H E) 5, D.params = lamP (rowLam 15) ∧ D.body = lamB (rowLam 15) ∧ D.scope = lamC (rowLam 15) ∧ ∀ (C : VK) (H' : Hp), ExtN J16 H' → Told C H' [.str "number", .str "other"] → ∀ N : VK, D.t (EH K C) σ0 H' N := by
      refine ⟨⟨lamP (rowLam 15), lamB (rowLam 15), lamC (rowLam 15), fun E1 => _, LamX.lamS_by (sc := defScope s_law_refused_right) (by decide +kernel), fun _ _ _ _ _ => rfl, fun A1 outer1 s1 H1 E1 f1 c1 hr => (pe_call G_quotient (hr.mono (by decide)) (by rfl) g_quotient k_quotient b_quotient .nil (passE rfl rfl rfl rfl) (pa_cons (pv 1) (pa_cons (pv 2) (pa_cons (pv 3) pa_nil))))⟩, rfl, rfl, rfl, fun C H' e w N => ?_⟩
      subst hσ
      exact ⟨_, rfl, _, rfl, _, rfl, _, _, od, .str, true, false, rfl, True.intro, (VA H' e).v, (VO H' e), (fun h => NG h), (fun _ => ⟨(fun h => Bool.noConfusion h), fun _ => ⟨fun _ => (eh_num w), (fun h => Bool.noConfusion h)⟩⟩)⟩
    obtain ⟨D15, P15⟩ := P15
    obtain ⟨pp, pb, pc, P15⟩ := P15
    have l15 : LamAt (XR P w K mg base A outer s H E) 5 A15 f15 D15 := by
      refine ⟨c15, ?_, hc15⟩
      rw [pp, pb, pc]
      exact hf15
    clear pp pb pc hf15 hc15
    replace R := rows_step (ws := ("number", "other")) R hn e15 u15 D15 l15 (by decide +kernel) (by decide +kernel) P15 nd15 nt15 rfl
    obtain ⟨us15, R, hn⟩ := R
    clear nd15 nt15 e15 u15 m15 l15 P15
    revert R
    generalize upd (upd (upd A15 d15 (.tup [.str "number", .str "other"])) t15 (.tup [.ref f15, .ref d15])) L (.lst (us14.map V.ref ++ [.ref t15])) = B15
    intro R
    refine ⟨_, rfl, .inl ⟨rfl, _, SqL.of R.lst⟩, R.tabs, fun f16 c16 A16 e16 u16 m16 hf16 hc16 => ⟨le_line (n := 2) (by decide), fun d16 nd16 => ⟨le_line (n := 2) (by decide), fun t16 nt16 => ⟨L, _, _, rfl, rfl, rows_lst R e16 nd16 nt16, small_line (by rw [List.length_map]; omega), ?_⟩⟩⟩⟩
    have P16 : ∃ D : LamD (XR P w K mg base A outer s H E) 5, D.params = lamP (rowLam 16) ∧ D.body = lamB (rowLam 16) ∧ D.scope = lamC (rowLam 16) ∧ ∀ (C : VK) (H' : Hp), ExtN J16 H' → Told C H' [.str "number", .str "other"] → ∀ N : VK, D.t (EH K C) σ0 H' N := by
      refine ⟨⟨lamP (rowLam 16), lamB (rowLam 16), lamC (rowLam 16), fun E1 => _, LamX.lamS_by (sc := defScope s_law_refused_right) (by decide +kernel), fun _ _ _ _ _ => rfl, fun A1 outer1 s1 H1 E1 f1 c1 hr => (pe_call G_quotient (hr.mono (by decide)) (by rfl) g_quotient k_quotient b_quotient .nil (passE rfl rfl rfl rfl) (pa_cons (pv 1) (pa_cons (pv 2) (pa_cons (pe_lst (pa_cons pe_int (pa_cons pe_int pa_nil))) pa_nil))))⟩, rfl, rfl, rfl, fun C H' e w N => ?_⟩
      subst hσ
      refine ⟨_, rfl, _, rfl, le_line (n := 2) (by decide), fun o no => ?_⟩
      have so := same_new (o := (.lst [.int 0, .int 0])) no
      have vz : VecAt (upd H' o (.lst [.int 0, .int 0])) (.ref o) (0, 0) := VecAt.lst upd_same
      exact ⟨_, _, _, .str, true, true, rfl, True.intro, (((VA H' e).same so).v), vz.v, (fun h => NG h), (fun _ => ⟨(fun h => Bool.noConfusion h), fun _ => ⟨(fun h => Bool.noConfusion h), fun _ => ⟨z, v, (0, 0), rfl, (VA H' e).same so, vz, sv, ⟨by unfold Wi; decide, by unfold Wi; decide⟩, fun _ => (eh_num (w.same so)), fun ne => absurd (len_at0 z) ne⟩⟩⟩)⟩
    obtain ⟨D16, P16⟩ := P16
    obtain ⟨pp, pb, pc, P16⟩ := P16
    have l16 : LamAt (XR P w K mg base A outer s H E) 5 A16 f16 D16 := by
      refine ⟨c16, ?_, hc16⟩
      rw [pp, pb, pc]
      exact hf16
    clear pp pb pc hf16 hc16
    replace R := rows_step (ws := ("number", "other")) R hn e16 u16 D16 l16 (by decide +kernel) (by decide +kernel) P16 nd16 nt16 rfl
    obtain ⟨us16, R, hn⟩ := R
    clear nd16 nt16 e16 u16 m16 l16 P16
    revert R
    generalize upd (upd (upd A16 d16 (.tup [.str "number", .str "other"])) t16 (.tup [.ref f16, .ref d16])) L (.lst (us15.map V.ref ++ [.ref t16])) = B16
    intro R
    refine ⟨_, rfl, .inl ⟨rfl, _, SqL.of R.lst⟩, R.tabs, fun f17 c17 A17 e17 u17 m17 hf17 hc17 => ⟨le_line (n := 2) (by decide), fun d17 nd17 => ⟨le_line (n := 2) (by decide), fun t17 nt17 => ⟨L, _, _, rfl, rfl, rows_lst R e17 nd17 nt17, small_line (by rw [List.length_map]; omega), ?_⟩⟩⟩⟩
    have P17 : ∃ D : LamD (XR P w K mg base A outer s H E) 5, D.params = lamP (rowLam 17) ∧ D.body = lamB (rowLam 17) ∧ D.scope = lamC (rowLam 17) ∧ ∀ (C : VK) (H' : Hp), ExtN J16 H' → Told C H' [.str "kind", .str "kind"] → ∀ N : VK, D.t (EH K C) σ0 H' N := by
      refine ⟨⟨lamP (rowLam 17), lamB (rowLam 17), lamC (rowLam 17), fun E1 => _, LamX.lamS_by (sc := defScope s_law_refused_right) (by decide +kernel), fun _ _ _ _ _ => rfl, fun A1 outer1 s1 H1 E1 f1 c1 hr => (pe_call G_vectors_of (hr.mono (by decide)) (by rfl) g_vectors_of k_vectors_of b_vectors_of .nil (passE rfl rfl rfl rfl) (pa_cons (pv 4) (pa_cons (pv 6) pa_nil)))⟩, rfl, rfl, rfl, fun C H' e w N => ?_⟩
      subst hσ
      obtain ⟨kb, hb⟩ := KB H' e
      obtain ⟨ks, hk⟩ := KS H' e
      exact ⟨_, rfl, _, rfl, bd, sq, kb, ks, rfl, hb, hk, (fun _ => (eh_kind w)), (fun h => NB h)⟩
    obtain ⟨D17, P17⟩ := P17
    obtain ⟨pp, pb, pc, P17⟩ := P17
    have l17 : LamAt (XR P w K mg base A outer s H E) 5 A17 f17 D17 := by
      refine ⟨c17, ?_, hc17⟩
      rw [pp, pb, pc]
      exact hf17
    clear pp pb pc hf17 hc17
    replace R := rows_step (ws := ("kind", "kind")) R hn e17 u17 D17 l17 (by decide +kernel) (by decide +kernel) P17 nd17 nt17 rfl
    obtain ⟨us17, R, hn⟩ := R
    clear nd17 nt17 e17 u17 m17 l17 P17
    revert R
    generalize upd (upd (upd A17 d17 (.tup [.str "kind", .str "kind"])) t17 (.tup [.ref f17, .ref d17])) L (.lst (us16.map V.ref ++ [.ref t17])) = B17
    intro R
    refine ⟨_, rfl, .inl ⟨rfl, _, SqL.of R.lst⟩, R.tabs, fun f18 c18 A18 e18 u18 m18 hf18 hc18 => ⟨le_line (n := 2) (by decide), fun d18 nd18 => ⟨le_line (n := 2) (by decide), fun t18 nt18 => ⟨L, _, _, rfl, rfl, rows_lst R e18 nd18 nt18, small_line (by rw [List.length_map]; omega), ?_⟩⟩⟩⟩
    have P18 : ∃ D : LamD (XR P w K mg base A outer s H E) 5, D.params = lamP (rowLam 18) ∧ D.body = lamB (rowLam 18) ∧ D.scope = lamC (rowLam 18) ∧ ∀ (C : VK) (H' : Hp), ExtN J16 H' → Told C H' [.str "number", .str "square"] → ∀ N : VK, D.t (EH K C) σ0 H' N := by
      refine ⟨⟨lamP (rowLam 18), lamB (rowLam 18), lamC (rowLam 18), fun E1 => _, LamX.lamS_by (sc := defScope s_law_refused_right) (by decide +kernel), fun _ _ _ _ _ => rfl, fun A1 outer1 s1 H1 E1 f1 c1 hr => (pe_call G_vectors_of (hr.mono (by decide)) (by rfl) g_vectors_of k_vectors_of b_vectors_of .nil (passE rfl rfl rfl rfl) (pa_cons (pv 1) (pa_cons (pv 6) pa_nil)))⟩, rfl, rfl, rfl, fun C H' e w N => ?_⟩
      subst hσ
      obtain ⟨ks, hk⟩ := KS H' e
      exact ⟨_, rfl, _, rfl, _, sq, .str, ks, rfl, True.intro, hk, (fun h => NG h), (fun _ => ⟨fun _ => (eh_num w), fun h => absurd h (by rw [esq]; decide)⟩)⟩
    obtain ⟨D18, P18⟩ := P18
    obtain ⟨pp, pb, pc, P18⟩ := P18
    have l18 : LamAt (XR P w K mg base A outer s H E) 5 A18 f18 D18 := by
      refine ⟨c18, ?_, hc18⟩
      rw [pp, pb, pc]
      exact hf18
    clear pp pb pc hf18 hc18
    replace R := rows_step (ws := ("number", "square")) R hn e18 u18 D18 l18 (by decide +kernel) (by decide +kernel) P18 nd18 nt18 rfl
    obtain ⟨us18, R, hn⟩ := R
    clear nd18 nt18 e18 u18 m18 l18 P18
    revert R
    generalize upd (upd (upd A18 d18 (.tup [.str "number", .str "square"])) t18 (.tup [.ref f18, .ref d18])) L (.lst (us17.map V.ref ++ [.ref t18])) = B18
    intro R
    subst hσ
    refine ⟨_, rfl, L, rfl, ⟨_, SqL.of R.lst⟩, fun D nD => ?_⟩
    refine lc_it (walk_list (K := K) (a := L) (xs := us18.map V.ref)) (fun i H2 => RowsAt K (XR P w K mg base A outer s H E) [some (.ref p), some (.str z), some (.ref a), some od, some bd, some mn, some sq, some (.ref L), none, none] J16 H2 L us18 ∧ H2 D = some (.lst [])) ⟨?_, upd_same⟩ (fun i H2 _ p => SqL.of p.1.lst) (fun i x H2 H3 hi p y => ?_) (fun H2 p => ?_)
    · exact rows_same R (same_new nD)
    · obtain ⟨rfl, hx⟩ := y
      obtain ⟨R2, hD⟩ := p
      rw [List.getElem?_map] at hx
      obtain ⟨t, ht2, rfl⟩ := Option.map_eq_some_iff.mp hx
      obtain ⟨ws, o1, o2, f, d, D2, w1, w2, w3, w4⟩ := R2.rows t (List.mem_of_getElem? ht2)
      refine ⟨t, _, rfl, SqT.of w1, rfl, _, _, rfl, _, _, rfl, rfl, rfl, ?_⟩
      refine ⟨_, rfl, f, D2, rfl, w2, fun N => w4 _ _ R2.ext (fun B r s1 n1 e1 => ?_) N⟩
      refine ⟨_, rfl, _, _, dp2 e1, dp2 (s1 _ _ w3), sh_ss o1 o2, sh_ss o1 o2, _, rfl, ?_⟩
      rw [eqv_ss]
      exact iteF ⟨rows_same R2 s1, s1 _ _ hD⟩
    · obtain ⟨R2, hD⟩ := p
      refine ⟨Nat.zero_le _, fun o no => ?_⟩
      exact ⟨D, o, [], rfl, rfl, SqL.of (same_new no _ _ hD), SqL.of upd_same, q _⟩
theorem has_law_refused_right (Tx : Txt K mg) (c : He.SaysX fa fn [] tf ex w hh K) (X : K.In hh) (GG : hh.Ns mainGlobals mg) (tb : LamX.TabB base mg (He.codeOf K ("_law_refused_right", none)) (tabT K "_law_refused_right")) (h_heard : HasH K mg) (h_law_pick : Has P w K mg base "_law_pick" 2 ["_law_pen_here", "_law_some"] (sp_law_pick K)) (h_square_of : HasX P w K mg base "square_of" 5 ["kind", "vector"] (sp_square_of K)) (h_product : HasX P w K mg base "product" 5 ["kind", "one", "other"] (sp_product K)) (h_turned : HasX P w K mg base "turned" 5 ["kind", "vector", "many"] (sp_turned K)) (h_flipped : HasX P w K mg base "flipped" 5 ["kind", "vector"] (sp_flipped K)) (h_times : HasX P w K mg base "times" 5 ["kind", "one", "other"] (sp_times K)) (h_quotient : HasX P w K mg base "quotient" 5 ["kind", "one", "other"] (sp_quotient K)) (h_vectors_of : HasX P w K mg base "vectors_of" 4 ["kind", "square"] (sp_vectors_of K))  : Has P w K mg base "_law_refused_right" 8 ["_law_pen_here", "_law_kind", "_law_vector_here"] (sp_law_refused_right K) := by
  obtain ⟨fd, F⟩ := c.t.d.def_ 39 (d := d_law_refused_right) rfl
  exact ⟨_, fd, ok_law_refused_right F Tx tb h_heard h_law_pick h_square_of h_product h_turned h_flipped h_times h_quotient h_vectors_of, He.glo_ok X GG (c.t.d.fact 40 (f := .glo "_law_refused_right") rfl), F.kp, F.bindsN fun _ _ _ _ _ _ us hl => match us, hl with | [_, _, _], _ => rfl⟩

end
end K47

namespace K47
open PySem PySem.Spec PyProof.Rows L2 Vf LamX
section
variable {hh : Heap} {P : Program} {w : World} {K : PySem.W.Frag} {mg : Str → Option Value} {base : Heap}
/-! ### rows of vectors compared -/
theorem dpAll_v {H : Hp} : ∀ {us : List Addr} {ps : List (Int × Int)}, Pairs H us ps → DpAll K H (us.map V.ref) (ps.map dv)
  | [], [], _ => .nil
  | [], p :: ps, h => by have := h.len; simp at this
  | u :: us, [], h => by have := h.len; simp at this
  | u :: us, p :: ps, h => .cons (dp_v (h.at_ 0 u p rfl rfl)) (dpAll_v ⟨by have := h.len; simpa using this, fun i t q h1 h2 => h.at_ (i + 1) t q h1 h2⟩)
theorem canLay_vs : ∀ ps : List (Int × Int), PyData.canLayAll0 (ps.map dv) = true
  | [] => by simp only [List.map_nil, PyData.canLayAll0]
  | p :: ps => by
    simp only [List.map_cons, PyData.canLayAll0, Bool.and_eq_true]
    exact ⟨by simp only [dv, PyData.canLay0, PyData.canLayAll0, Bool.and_true], canLay_vs ps⟩
theorem depth_vs : ∀ ps : List (Int × Int), PyData.depthAll (ps.map dv) ≤ 3
  | [] => by simp [PyData.depthAll]
  | p :: ps => by
    have := depth_vs ps
    have h : PyData.depth (dv p) ≤ 3 := by simp [dv, PyData.depth, PyData.depthAll]
    simp only [List.map_cons, PyData.depthAll]
    omega
theorem sh_vs (ps : List (Int × Int)) : SeqAt.shaped (.tuple (ps.map dv)) = true := by
  unfold SeqAt.shaped
  have h1 := depth_vs ps
  have h2 : PyData.canLay0 (.tuple (ps.map dv)) = true := by simp only [PyData.canLay0]; exact canLay_vs ps
  rw [h2, Bool.true_and]
  refine decide_eq_true ?_
  simp only [PyData.depth]
  omega
theorem eqv_vs (ps : List (Int × Int)) : PyData.eqv (.tuple (ps.map dv)) (.tuple (ps.map dv)) = true := by
  have h : PyData.eqvAll (ps.map dv) (ps.map dv) = true := by
    induction ps with
    | nil => simp only [List.map_nil, PyData.eqvAll]
    | cons p ps ih =>
      simp only [List.map_cons, PyData.eqvAll, ih, Bool.and_true]
      exact eqV rfl
  simp only [PyData.eqv]
  exact h
theorem last_sq : (vecsF "square" 400).getLast? = some (20, 0) := by decide +kernel
theorem last_tr : (vecsF "triangle" 400).getLast? = some (20, 0) := by decide +kernel
theorem last_v {z : Str} {t : Int} (h : KT z t) : (vecsF z 400).getLast? = some (20, 0) := by
  rcases h with ⟨rfl, rfl⟩ | ⟨rfl, rfl⟩
  · exact last_sq
  · exact last_tr
theorem last_at {α : Type} {xs : List α} {x : α} (h : xs[xs.length - 1]? = some x) : atI xs (-1) = some x := by
  have hl : 0 < xs.length := by
    rcases xs with _ | ⟨a, r⟩
    · simp at h
    · simp
  unfold atI ixN
  rw [if_neg (by decide), if_pos (by omega), Option.bind_some, show ((-1 : Int) + (xs.length : Nat)).toNat = xs.length - 1 by omega]
  exact h
theorem Pairs.last {H : Hp} {us : List Addr} {ps : List (Int × Int)} {p : Int × Int} (h : Pairs H us ps) (e : ps.getLast? = some p) : ∃ t, (us.map V.ref)[(us.map V.ref).length - 1]? = some (.ref t) ∧ Tp H t p := by
  rw [List.getLast?_eq_getElem?] at e
  obtain ⟨hlt, _⟩ := List.getElem?_eq_some_iff.mp e
  have hu : ps.length - 1 < us.length := by rw [h.len]; exact hlt
  refine ⟨us[ps.length - 1], ?_, h.at_ _ _ _ (List.getElem?_eq_getElem hu) e⟩
  rw [List.length_map, h.len, List.getElem?_map, List.getElem?_eq_getElem hu]
  rfl
theorem one_turn {z : Str} {t : Int} (h : KT z t) (d : Int) : (spunL z (1, 0))[((d * 12 + 1) % fullOf z).toNat]? = some (0, 1) := by
  rcases h with ⟨rfl, rfl⟩ | ⟨rfl, rfl⟩
  · rw [full_sq, show (d * 12 + 1) % 4 = 1 by omega]
    decide +kernel
  · rw [full_tr, show (d * 12 + 1) % 6 = 1 by omega]
    decide +kernel
theorem bnd_ok {n : Int} (h1 : 1 ≤ n) (h2 : n ≤ 400) : bnd (.int n) (.int 1) (.int 400) = true := by simp [bnd, lo1, hi1, h1, h2]
def sp_law (K : PySem.W.Frag) : Sp := fun vs H Q _ => ∃ (a : Addr) (ns : List Int), vs = [.ref a] ∧ SqL K H a (ns.map V.int) ∧ ns.length ≤ 63 ∧ LamX.Tabs (TT0 K) H ∧ ∀ H', Q (.bl true) H'
/-- between the loops -/
def Mid (K : PySem.W.Frag) (a p c : Addr) (z : Str) (t : Int) (n : Nat) (σ : L2.St) (H : Hp) : Prop := ∃ (o : Addr) (v : Int × Int) (l1 l2 l3 : Option V) (b : Nat), n ≤ b ∧ σ = [some (.ref a), some (.ref p), some (.int t), some (.str z), some (.ref o), l1, l2, l3] ∧ Tp H o v ∧ Sm 70 v ∧ PenAt H p c b ∧ LamX.Tabs (TT0 K) H
theorem sc_law : FnScope ["_law_script", "_law_pen_here", "_law_turn", "_law_kind", "_law_one", "_law_lap", "_law_other", "_law_square"] ["_law_script"] (defScope s_law) := ⟨rfl, rfl, rfl, by decide +kernel, rfl, by decide +kernel, by decide +kernel⟩
theorem ok_law {f : Addr} {fd : FuncData} (F : FunD K "law" "law" (defArgs s_law) (defBody s_law) (defScope s_law) [] [] f fd) (Tx : Txt K mg) (h_law_pen : Has P w K mg base "_law_pen" 1 ["_law_script"] (sp_law_pen K)) (h_law_pick : Has P w K mg base "_law_pick" 2 ["_law_pen_here", "_law_some"] (sp_law_pick K)) (h_law_vector : Has P w K mg base "_law_vector" 3 ["_law_pen_here"] (sp_law_vector K)) (h_law_two_right : Has P w K mg base "_law_two_right" 6 ["_law_kind", "_law_turn", "_law_one", "_law_other"] (sp_law_two_right K)) (h_law_quotients_right : Has P w K mg base "_law_quotients_right" 8 ["_law_kind", "_law_turn", "_law_one", "_law_other"] (sp_law_quotients_right K)) (h_law_turns_right : Has P w K mg base "_law_turns_right" 6 ["_law_kind", "_law_turn", "_law_vector_here", "_law_many"] (sp_law_turns_right K)) (h_law_draw : Has P w K mg base "_law_draw" 1 ["_law_pen_here", "_law_many"] sp_law_draw) (h_vectors_of : HasX P w K mg base "vectors_of" 4 ["kind", "square"] (sp_vectors_of K)) (h_law_all : Has P w K mg base "_law_all" 3 ["_law_turn", "_law_square"] (sp_law_all K)) (h_turned : HasX P w K mg base "turned" 5 ["kind", "vector", "many"] (sp_turned K)) (h_law_refused_right : Has P w K mg base "_law_refused_right" 8 ["_law_pen_here", "_law_kind", "_law_vector_here"] (sp_law_refused_right K)) (h_vectors_of_kw : HasKX P w K mg base "vectors_of" 4 ["kind", "square"] ["square", "kind"] gk10 (sp_vectors_of K)) : FnOk P w K mg base CX0 9 f fd ["_law_script"] (sp_law K) := by
  obtain ⟨f_law_pen, fd_law_pen, G_law_pen, g_law_pen, k_law_pen, b_law_pen⟩ := h_law_pen
  obtain ⟨f_law_pick, fd_law_pick, G_law_pick, g_law_pick, k_law_pick, b_law_pick⟩ := h_law_pick
  obtain ⟨f_law_vector, fd_law_vector, G_law_vector, g_law_vector, k_law_vector, b_law_vector⟩ := h_law_vector
  obtain ⟨f_law_two_right, fd_law_two_right, G_law_two_right, g_law_two_right, k_law_two_right, b_law_two_right⟩ := h_law_two_right
  obtain ⟨f_law_quotients_right, fd_law_quotients_right, G_law_quotients_right, g_law_quotients_right, k_law_quotients_right, b_law_quotients_right⟩ := h_law_quotients_right
  obtain ⟨f_law_turns_right, fd_law_turns_right, G_law_turns_right, g_law_turns_right, k_law_turns_right, b_law_turns_right⟩ := h_law_turns_right
  obtain ⟨f_law_draw, fd_law_draw, G_law_draw, g_law_draw, k_law_draw, b_law_draw⟩ := h_law_draw
  obtain ⟨f_vectors_of, fd_vectors_of, G_vectors_of, g_vectors_of, k_vectors_of, b_vectors_of⟩ := h_vectors_of
  obtain ⟨f_law_all, fd_law_all, G_law_all, g_law_all, k_law_all, b_law_all⟩ := h_law_all
  obtain ⟨f_turned, fd_turned, G_turned, g_turned, k_turned, b_turned⟩ := h_turned
  obtain ⟨f_law_refused_right, fd_law_refused_right, G_law_refused_right, g_law_refused_right, k_law_refused_right, b_law_refused_right⟩ := h_law_refused_right
  obtain ⟨f_vectors_of_kw, fd_vectors_of_kw, gg_vectors_of_kw, G_vectors_of_kw, g_vectors_of_kw, k_vectors_of_kw, b_vectors_of_kw⟩ := h_vectors_of_kw
  refine FunD.ok F sc_law (fun vs H Q E h => ?_) (fun cdv A outer s H vs Q E hr h => ?_)
  · obtain ⟨a, ns, rfl, _⟩ := h
    rfl
  · obtain ⟨a, ns, rfl, ha, hl, ht, q⟩ := h
    refine ⟨_, PSs.nox (pss_cons (ps_set (i := 1) sc_law.nd rfl (Or.inl rfl) (pe_call G_law_pen (hr.mono (by decide)) (by rfl) g_law_pen k_law_pen b_law_pen .nil pass0 (pa_cons (pv 0) pa_nil)))
        (pss_cons (ps_set (i := 2) sc_law.nd rfl (Or.inl rfl) (pe_call G_law_pick (hr.mono (by decide)) (by rfl) g_law_pick k_law_pick b_law_pick .nil pass0 (pa_cons (pv 1) (pa_cons (pe_lst (pa_cons pe_int (pa_cons pe_int pa_nil))) pa_nil))))
        (C8.pss_cut (ps_par (i := 3) (j := 4) (by rfl) sc_law.nd rfl rfl (by decide) rfl rfl (pa_cons (pe_ifExp (pt_cmpR op_eq (pv 2) pe_int (nomark _)) pe_str pe_str) (pa_cons (pe_tup (pa_cons pe_int (pa_cons pe_int pa_nil))) pa_nil)) (by rfl))
        (C8.pss_cut (ps_for PassesOwn.never rfl (pi_range1 (by rfl) Tx.n_range (pa_cons pe_int pa_nil)) (pg_name (i := 5) sc_law.nd rfl (Or.inl rfl)) (pss_cons (ps_par (i := 4) (j := 6) (by rfl) sc_law.nd rfl rfl (by decide) rfl rfl (pa_cons (pe_call G_law_vector (hr.mono (by decide)) (by rfl) g_law_vector k_law_vector b_law_vector .nil pass0 (pa_cons (pv 1) pa_nil)) (pa_cons (pe_call G_law_vector (hr.mono (by decide)) (by rfl) g_law_vector k_law_vector b_law_vector .nil pass0 (pa_cons (pv 1) pa_nil)) pa_nil)) (by rfl))
        (pss_cons (ps_if (PW.pt (pw_or (pt_not (pt_val (pe_call G_law_two_right (hr.mono (by decide)) (by rfl) g_law_two_right k_law_two_right b_law_two_right .nil pass0 (pa_cons (pv 3) (pa_cons (pv 2) (pa_cons (pv 4) (pa_cons (pv 6) pa_nil))))))) (pw_or1 (pt_not (pt_val (pe_call G_law_quotients_right (hr.mono (by decide)) (by rfl) g_law_quotients_right k_law_quotients_right b_law_quotients_right .nil pass0 (pa_cons (pv 3) (pa_cons (pv 2) (pa_cons (pv 4) (pa_cons (pv 6) pa_nil)))))))))) (pss_one (ps_ret pe_bl)) pss_nil)
        (pss_one (ps_if (pt_not (pt_val (pe_call G_law_turns_right (hr.mono (by decide)) (by rfl) g_law_turns_right k_law_turns_right b_law_turns_right .nil pass0 (pa_cons (pv 3) (pa_cons (pv 2) (pa_cons (pv 4) (pa_cons (pe_call G_law_draw (hr.mono (by decide)) (by rfl) g_law_draw k_law_draw b_law_draw .nil pass0 (pa_cons (pv 1) (pa_cons pe_int pa_nil))) pa_nil))))))) (pss_one (ps_ret pe_bl)) pss_nil)))))
        (C8.pss_cut (ps_for PassesOwn.never rfl (pi_range1 (by rfl) Tx.n_range (pa_cons pe_int pa_nil)) (pg_name (i := 5) sc_law.nd rfl (Or.inl rfl)) (pss_cons (ps_set (i := 7) sc_law.nd rfl (Or.inl rfl) (pe_op op_add pe_int (pe_call G_law_draw (hr.mono (by decide)) (by rfl) g_law_draw k_law_draw b_law_draw .nil pass0 (pa_cons (pv 1) (pa_cons (pe_call G_law_pick (hr.mono (by decide)) (by rfl) g_law_pick k_law_pick b_law_pick .nil pass0 (pa_cons (pv 1) (pa_cons (pe_lst (pa_cons pe_int (pa_cons pe_int pa_nil))) pa_nil))) pa_nil)))))
        (pss_one (ps_if (pt_cmpR (op_neD hr.units) (pe_call G_vectors_of (hr.mono (by decide)) (by rfl) g_vectors_of k_vectors_of b_vectors_of .nil passN (pa_cons (pv 3) (pa_cons (pv 7) pa_nil))) (pe_call G_law_all (hr.mono (by decide)) (by rfl) g_law_all k_law_all b_law_all .nil pass0 (pa_cons (pv 2) (pa_cons (pv 7) pa_nil))) (nomark _)) (pss_one (ps_ret pe_bl)) pss_nil))))
        (pss_cons (ps_if (PW.pt (pw_or (pt_cmpR (op_neD hr.units) (pe_ix ix_tup (pe_callK0 G_vectors_of_kw (hr.mono (by decide)) (by rfl) g_vectors_of_kw k_vectors_of_kw b_vectors_of_kw passN (pk_cons pe_int (pk_cons (pv 3) pk_nil))) (pe_un un_neg pe_int) (fun _ _ => rfl)) (pe_tup (pa_cons pe_int (pa_cons pe_int pa_nil))) (nomark _)) (pw_or1 (pt_cmpR (op_neD hr.units) (pe_call G_turned (hr.mono (by decide)) (by rfl) g_turned k_turned b_turned .nil passN (pa_cons (pv 3) (pa_cons (pe_tup (pa_cons pe_int (pa_cons pe_int pa_nil))) (pa_cons (pe_op op_add (pe_op op_mulW (pe_call G_law_draw (hr.mono (by decide)) (by rfl) g_law_draw k_law_draw b_law_draw .nil pass0 (pa_cons (pv 1) (pa_cons (pe_op op_pow pe_int pe_int) pa_nil))) pe_int) pe_int) pa_nil)))) (pe_tup (pa_cons pe_int (pa_cons pe_int pa_nil))) (nomark _))))) (pss_one (ps_ret pe_bl)) pss_nil)
        (pss_one (ps_ret (pe_call G_law_refused_right (hr.mono (by decide)) (by rfl) g_law_refused_right k_law_refused_right b_law_refused_right .nil pass0 (pa_cons (pv 1) (pa_cons (pv 3) (pa_cons (pv 4) pa_nil)))))))))))), ?_⟩
    refine ⟨_, rfl, a, ns, rfl, ha, hl, fun H1 p c s1 np nc hp => ?_⟩
    replace ht := tabs_same ht s1
    refine ⟨_, rfl, le_line (n := 2) (by decide), fun l nl => ?_⟩
    have sl := same_new (o := .lst [.int 4, .int 3]) nl
    have hp1 := hp.same sl
    obtain ⟨ps, hps⟩ := hp1.at
    refine ⟨p, c, l, 899999, _, rfl, hp1, upd_same, (hp.new nl).1, List.cons_ne_nil _ _, (show 2 ≤ 1000 by decide), fun H2 x hx hp2 k2 => ?_⟩
    replace ht := tabs_kp (tabs_same ht sl) hps k2
    obtain ⟨z, t, kt, rfl⟩ : ∃ (z : Str) (t : Int), KT z t ∧ x = .int t := by
      simp only [List.mem_cons, List.not_mem_nil, or_false] at hx
      rcases hx with rfl | rfl
      · exact ⟨"square", 4, .inl ⟨rfl, rfl⟩, rfl⟩
      · exact ⟨"triangle", 3, .inr ⟨rfl, rfl⟩, rfl⟩
    clear hx hps k2 hp hp1 sl nl
    refine ⟨Mid K a p c z t 899990, ?_, fun σ H3 m => ?_⟩
    · have fin : ∀ o no, Mid K a p c z t 899990 [some (.ref a), some (.ref p), some (.int t), some (.str z), some (.ref o), none, none, none] (upd H2 o (.tup [.int 1, .int 0])) := fun o no =>
        ⟨o, (1, 0), none, none, none, 899999, by omega, rfl, upd_same, ⟨by unfold Wi; decide, by unfold Wi; decide⟩, hp2.same (same_new no), tabs_same ht (same_new no)⟩
      refine ⟨_, rfl, rfl, _, rfl, ?_⟩
      rw [dec_int]
      rcases kt with ⟨rfl, rfl⟩ | ⟨rfl, rfl⟩
      · exact iteT ⟨le_line (n := 2) (by decide), fun o no => ⟨_, _, rfl, fin o no⟩⟩
      · exact iteF ⟨le_line (n := 2) (by decide), fun o no => ⟨_, _, rfl, fin o no⟩⟩
    clear hp2 ht
    have g := kt_grid kt
    obtain ⟨o, v, l1, l2, l3, b, hb, rfl, ho, hs, hp3, ht3⟩ := m
    -- the first loop
    refine ⟨Mid K a p c z t 899900, ⟨_, rfl, by decide, by decide, ?_⟩, fun σ H4 m => ?_⟩
    · refine for_it (walk_range (lo := 0) (n := 3)) (fun i σ H4 => Mid K a p c z t (899990 - 20 * i) σ H4) ⟨o, v, l1, l2, l3, b, by omega, rfl, ho, hs, hp3, ht3⟩ (fun i σ H _ _ => True.intro) (fun i x σ H4 H5 hi m y => ?_) (fun σ H4 m => ?_)
      · obtain ⟨rfl, rfl⟩ := y
        obtain ⟨o, v, l1, l2, l3, b, hb, rfl, ho, hs, hp, ht⟩ := m
        obtain ⟨ps, hps⟩ := hp.at
        refine ⟨_, rfl, p, c, b - 4, rfl, hp.less (by omega), fun H6 o1 v1 w1 hp6 k6 e1 => ?_⟩
        replace ht := tabs_kp ht hps k6
        obtain ⟨ps6, hps6⟩ := hp6.at
        refine ⟨_, rfl, p, c, b - 8, rfl, hp6.less (by omega), fun H7 o2 v2 w2 hp7 k7 e2 => ?_⟩
        replace ht := tabs_kp ht hps6 k7
        replace e1 := tp_kp e1 hp6 k7
        refine ⟨_, _, rfl, ?_⟩
        refine ⟨_, rfl, _, rfl, _, rfl, _, rfl, z, t, o1, o2, v1, v2, rfl, kt, e1, e2, w1, w2, fun H8 s8 => ?_⟩
        refine ⟨_, rfl, iteF ?_⟩
        refine ⟨_, rfl, _, rfl, _, rfl, _, rfl, z, t, o1, o2, v1, v2, rfl, kt, s8 _ _ e1, s8 _ _ e2, w1, w2, tabs_same ht s8, fun H9 s9 t9 => ?_⟩
        have e19 := s9 _ _ (s8 _ _ e1) fun _ z => nomatch z
        have hp9 := penExt (hp7.same s8) s9
        obtain ⟨ps9, hps9⟩ := hp9.at
        refine ⟨_, rfl, iteF ?_⟩
        refine ⟨_, rfl, _, rfl, _, rfl, _, rfl, p, c, 9, b - 9, rfl, hp9.less (by omega), by decide, by decide, fun HA d hpA kA d0 d1 => ?_⟩
        refine ⟨z, t, o1, v1, d, rfl, kt, tp_kp e19 hp9 kA, w1, fun HB sB => ?_⟩
        refine ⟨_, rfl, iteF ?_⟩
        exact ⟨o1, v1, _, _, _, b - 9, by omega, rfl, sB _ _ (tp_kp e19 hp9 kA), w1, hpA.same sB, tabs_same (tabs_kp t9 hps9 kA) sB⟩
      · obtain ⟨o, v, l1, l2, l3, b, hb, r⟩ := m
        exact ⟨o, v, l1, l2, l3, b, by omega, r⟩
    clear ho hs hp3 ht3 hb
    obtain ⟨o, v, l1, l2, l3, b, hb, rfl, ho, hs, hp3, ht3⟩ := m
    -- the second loop
    refine ⟨Mid K a p c z t 899800, ⟨_, rfl, by decide, by decide, ?_⟩, fun σ H5 m => ?_⟩
    · refine for_it (walk_range (lo := 0) (n := 4)) (fun i σ H4 => Mid K a p c z t (899900 - 10 * i) σ H4) ⟨o, v, l1, l2, l3, b, by omega, rfl, ho, hs, hp3, ht3⟩ (fun i σ H _ _ => True.intro) (fun i x σ H4 H5 hi m y => ?_) (fun σ H4 m => ?_)
      · obtain ⟨rfl, rfl⟩ := y
        obtain ⟨o, v, l1, l2, l3, b, hb, rfl, ho, hs, hp, ht⟩ := m
        refine ⟨_, rfl, _, rfl, le_line (n := 2) (by decide), fun l nl => ?_⟩
        have sl := same_new (o := .lst [.int 400, .int 60]) nl
        have hp1 := hp.same sl
        obtain ⟨ps, hps⟩ := hp1.at
        refine ⟨p, c, l, b - 1, _, rfl, hp1.less (by omega), upd_same, (hp.new nl).1, List.cons_ne_nil _ _, (show 2 ≤ 1000 by decide), fun H6 x hx hp6 k6 => ?_⟩
        obtain ⟨n, rfl, n0, n1⟩ : ∃ n : Int, x = .int n ∧ 0 < n ∧ n ≤ 400 := by
          simp only [List.mem_cons, List.not_mem_nil, or_false] at hx
          rcases hx with rfl | rfl
          · exact ⟨400, rfl, by decide, by decide⟩
          · exact ⟨60, rfl, by decide, by decide⟩
        replace ht := tabs_kp (tabs_same ht sl) hps k6
        replace ho := tp_kp (sl _ _ ho) hp1 k6
        obtain ⟨ps6, hps6⟩ := hp6.at
        refine ⟨p, c, n, b - 2, rfl, hp6.less (by omega), n0, Int.lt_of_le_of_lt n1 (by decide), fun H7 d hp7 k7 d0 d1 => ?_⟩
        replace ht := tabs_kp ht hps6 k7
        replace ho := tp_kp ho hp6 k7
        refine ⟨_, _, rfl, rfl, ?_⟩
        refine ⟨_, rfl, _, rfl, _, _, .str, .int, rfl, True.intro, True.intro, (fun e => absurd g (by rw [e] <;> decide)), fun _ => ⟨fun e => Bool.noConfusion ((bnd_ok (show 1 ≤ 1 + d by omega) (by omega)).symm.trans e), fun _ => ⟨z, _, rfl, rfl, fun H8 r us s8 n8 e8 q8 => ?_⟩⟩⟩
        refine ⟨_, rfl, _, rfl, t, _, rfl, fun H9 r2 us2 s9 e9 q9 => ?_⟩
        rw [all_vecs kt] at q9
        refine ⟨.tuple ((vecsF z (1 + d)).map dv), .tuple ((vecsF z (1 + d)).map dv), .tup (SqT.of (s9 _ _ e8)) (dpAll_v (q8.same s9)), .tup (SqT.of e9) (dpAll_v q9), sh_vs _, sh_vs _, _, rfl, ?_⟩
        rw [eqv_vs]
        have s79 := s8.trans s9
        exact iteF ⟨o, v, _, _, _, b - 2, by omega, rfl, s79 _ _ ho, hs, hp7.same s79, tabs_same ht s79⟩
      · obtain ⟨o, v, l1, l2, l3, b, hb, r⟩ := m
        exact ⟨o, v, l1, l2, l3, b, by omega, r⟩
    clear ho hs hp3 ht3 hb
    obtain ⟨o, v, l1, l2, l3, b, hb, rfl, ho, hs, hp, ht⟩ := m
    refine ⟨_, rfl, rfl, rfl, _, _, .str, .int, rfl, True.intro, True.intro, (fun e => absurd g (by rw [e] <;> decide)), fun _ => ⟨fun e => Bool.noConfusion ((bnd_ok (by decide) (by decide)).symm.trans e), fun _ => ⟨z, _, rfl, rfl, fun H6 r us s6 n6 e6 q6 => ?_⟩⟩⟩
    obtain ⟨tl, g1, g2⟩ := q6.last (last_v kt)
    refine ⟨_, rfl, r, _, _, _, rfl, rfl, SqT.of e6, last_at g1, le_line (n := 2) (by decide), fun c1 nc1 => ?_⟩
    have sc1 := same_new (o := .tup [.int 20, .int 0]) nc1
    refine ⟨dv (20, 0), dv (20, 0), dp_v (sc1 _ _ g2), dp_v upd_same, sh_v _, sh_v _, _, rfl, ?_⟩
    rw [neV rfl]
    have s7 := s6.trans sc1
    have hp7 := hp.same s7
    have ho7 := s7 _ _ ho
    have ht7 := tabs_same ht s7
    clear hp ho ht
    refine iteF ⟨_, rfl, le_line (n := 2) (by decide), fun c2 nc2 => ?_⟩
    have sc2 := same_new (o := .tup [.int 1, .int 0]) nc2
    have hp8 := hp7.same sc2
    obtain ⟨ps, hps⟩ := hp8.at
    have e8 : Tp (upd (upd H6 c1 (.tup [.int 20, .int 0])) c2 (.tup [.int 1, .int 0])) c2 (1, 0) := upd_same
    refine ⟨_, rfl, _, _, rfl, rfl, ⟨by decide, by decide, by decide⟩, p, c, _, b - 1, rfl, hp8.less (by omega), by decide, by decide, fun H9 d hp9 k9 d0 d1 => ?_⟩
    have d2 : d < 1000000000 := d1
    have wd : Wi 30 d := show d.natAbs < 2 ^ 30 by omega
    refine ⟨_, _, rfl, rfl, wd.cm (n := 4) (by unfold Wi; decide), _, _, rfl, rfl, _, _, _, .str, .int, true, rfl, True.intro, (VecAt.tup (tp_kp e8 hp8 k9)).v, True.intro, (fun e => absurd g (by rw [e] <;> decide)), fun _ => ⟨(fun e => Bool.noConfusion e), fun _ => ⟨(fun e => Bool.noConfusion e), fun _ => ⟨z, _, _, _, rfl, (VecAt.tup (tp_kp e8 hp8 k9)), rfl, (one_turn kt d), fun HA ra sA nA eA => ?_⟩⟩⟩⟩
    refine ⟨le_line (n := 2) (by decide), fun c3 nc3 => ?_⟩
    have sc3 := same_new (o := .tup [.int 0, .int 1]) nc3
    refine ⟨dv (0, 1), dv (0, 1), dp_v (sc3 _ _ eA), dp_v upd_same, sh_v _, sh_v _, _, rfl, ?_⟩
    rw [neV rfl]
    have sz := sA.trans sc3
    exact iteF ⟨_, rfl, _, rfl, _, rfl, p, c, o, b - 11, z, v, rfl, g, sz _ _ (tp_kp (sc2 _ _ ho7) hp8 k9), hs, (hp9.same sz).less (by omega), tabs_same (tabs_kp (tabs_same ht7 sc2) hps k9) sz, fun H' => q H'⟩

end
end K47

namespace K47
open PySem PySem.Spec PyProof.Rows L2 Vf LamX
abbrev lawLevel : Nat := 9
abbrev spLaw (K : PySem.W.Frag) : Sp := fun vs H Q E => sp_law K vs H Q E
def csT (K : PySem.W.Frag) : List (Addr × Addr) := tf.map (He.cT K)
theorem facts {P : Program} {w : World} {K : PySem.W.Frag} {h : Heap} {mg : Str → Option Value} {f : Addr} (X : K.In h) (G : h.Ns mainGlobals mg) (hfa : mg ("law" : Str) = some (.ref f)) (c : He.SaysX fa fn [] tf ex w h K) :
    ∃ fd : FuncData, (∀ (s : Shared) (v : Value), BindsTo s fd ⟨[v], []⟩ [("_law_script", v)]) ∧ ∀ base : Heap, K.In base → base.Ns mainGlobals mg → (∀ p ∈ csT K, LamX.TabB base mg p.1 p.2) → FnOk P w K mg base CX0 lawLevel f fd ["_law_script"] (spLaw K) := by
  have Tx := txt_of X G c
  obtain ⟨fd, F⟩ := c.t.d.def_ 40 (d := d_law) rfl
  have e := hfa.symm.trans (He.glo_ok X G (c.t.d.fact 41 (f := .glo "law") rfl))
  cases e
  refine ⟨fd, fun s v => FunD.bindsA (ps := ["_law_script"]) F (fun _ _ _ _ _ _ us hl => match us, hl with | [_], _ => rfl) s [v] rfl, fun base _ _ tbs => ?_⟩
  have h_heard := has_heard c X G
  have tb_law_quotients_right : LamX.TabB base mg (He.codeOf K ("_law_quotients_right", none)) (tabT K "_law_quotients_right") := tbs _ (List.mem_map_of_mem (f := He.cT K) (show (("_law_quotients_right", none) : He.Defn) ∈ tf by simp [tf]))
  have tb_law_refused_right : LamX.TabB base mg (He.codeOf K ("_law_refused_right", none)) (tabT K "_law_refused_right") := tbs _ (List.mem_map_of_mem (f := He.cT K) (show (("_law_refused_right", none) : He.Defn) ∈ tf by simp [tf]))
  have h_law_pen := has_law_pen (P := P) (w := w) (base := base) Tx c X G 
  have h_law_draw := has_law_draw (P := P) (w := w) (base := base) Tx c X G 
  have h_law_pick := has_law_pick (P := P) (w := w) (base := base) Tx c X G h_law_draw
  have h_law_number := has_law_number (P := P) (w := w) (base := base) Tx c X G h_law_draw
  have h_law_vector := has_law_vector (P := P) (w := w) (base := base) Tx c X G h_law_number
  have h_law_wide := has_law_wide (P := P) (w := w) (base := base) Tx c X G 
  have h_is_grid := has_is_grid (P := P) (w := w) (base := base) Tx c X G 
  have h_BadKind_init := has_BadKind_init (P := P) (w := w) (base := base) Tx c X G 
  have h_need_kind := has_need_kind (P := P) (w := w) (base := base) Tx c X G h_is_grid h_BadKind_init
  have h_is_listed := has_is_listed (P := P) (w := w) (base := base) Tx c X G 
  have h_is_integer := has_is_integer (P := P) (w := w) (base := base) Tx c X G 
  have h_is_row := has_is_row (P := P) (w := w) (base := base) Tx c X G h_is_listed h_is_integer
  have h_is_vector := has_is_vector (P := P) (w := w) (base := base) Tx c X G h_is_row
  have h_BadNumber_init := has_BadNumber_init (P := P) (w := w) (base := base) Tx c X G 
  have h_need_vector := has_need_vector (P := P) (w := w) (base := base) Tx c X G h_is_vector h_BadNumber_init
  have h_length_of := has_length_of (P := P) (w := w) (base := base) Tx c X G 
  have h_square_of := has_square_of (P := P) (w := w) (base := base) Tx c X G h_need_kind h_need_vector h_length_of
  have h_square_of_kw := has_square_of_kw (P := P) (w := w) (base := base) Tx c X G h_need_kind h_need_vector h_length_of
  have h_law_norm := has_law_norm (P := P) (w := w) (base := base) Tx c X G h_law_wide
  have h_product := has_product (P := P) (w := w) (base := base) Tx c X G h_need_kind h_need_vector h_length_of
  have h_product_kw := has_product_kw (P := P) (w := w) (base := base) Tx c X G h_need_kind h_need_vector h_length_of
  have h_both := has_both (P := P) (w := w) (base := base) Tx c X G 
  have h_times := has_times (P := P) (w := w) (base := base) Tx c X G h_need_kind h_need_vector h_both
  have h_times_kw := has_times_kw (P := P) (w := w) (base := base) Tx c X G h_need_kind h_need_vector h_both
  have h_law_narrow := has_law_narrow (P := P) (w := w) (base := base) Tx c X G 
  have h_law_times := has_law_times (P := P) (w := w) (base := base) Tx c X G h_law_wide h_law_narrow
  have h_law_mirror := has_law_mirror (P := P) (w := w) (base := base) Tx c X G h_law_wide h_law_narrow
  have h_flip := has_flip (P := P) (w := w) (base := base) Tx c X G 
  have h_flipped := has_flipped (P := P) (w := w) (base := base) Tx c X G h_need_kind h_need_vector h_flip
  have h_flipped_kw := has_flipped_kw (P := P) (w := w) (base := base) Tx c X G h_need_kind h_need_vector h_flip
  have h_law_two_right := has_law_two_right (P := P) (w := w) (base := base) Tx c X G h_law_wide h_square_of h_law_norm h_product h_times h_law_times h_law_mirror h_square_of_kw h_product_kw h_times_kw h_flipped_kw
  have h_quotient := has_quotient (P := P) (w := w) (base := base) Tx c X G h_need_kind h_need_vector h_length_of h_BadNumber_init h_both h_flip
  have h_quotient_kw := has_quotient_kw (P := P) (w := w) (base := base) Tx c X G h_need_kind h_need_vector h_length_of h_BadNumber_init h_both h_flip
  have h_law_quotient := has_law_quotient (P := P) (w := w) (base := base) Tx c X G h_law_times h_law_mirror h_law_norm
  have h_law_quotients_right := has_law_quotients_right (P := P) (w := w) (base := base) Tx c X G tb_law_quotients_right h_heard h_quotient h_law_quotient h_times h_quotient_kw
  have h_spun := has_spun (P := P) (w := w) (base := base) Tx c X G 
  have h_full_of := has_full_of (P := P) (w := w) (base := base) Tx c X G h_need_kind
  have h_turned := has_turned (P := P) (w := w) (base := base) Tx c X G h_need_kind h_need_vector h_is_integer h_BadNumber_init h_spun h_full_of
  have h_turned_kw := has_turned_kw (P := P) (w := w) (base := base) Tx c X G h_need_kind h_need_vector h_is_integer h_BadNumber_init h_spun h_full_of
  have h_law_turned := has_law_turned (P := P) (w := w) (base := base) Tx c X G h_law_times
  have h_law_turns_right := has_law_turns_right (P := P) (w := w) (base := base) Tx c X G h_turned h_law_turned h_flipped h_turned_kw
  have h_is_within := has_is_within (P := P) (w := w) (base := base) Tx c X G h_is_integer
  have h_vectors_of := has_vectors_of (P := P) (w := w) (base := base) Tx c X G h_need_kind h_is_within h_BadNumber_init h_length_of
  have h_vectors_of_kw := has_vectors_of_kw (P := P) (w := w) (base := base) Tx c X G h_need_kind h_is_within h_BadNumber_init h_length_of
  have h_law_all := has_law_all (P := P) (w := w) (base := base) Tx c X G h_law_norm
  have h_law_refused_right := has_law_refused_right (P := P) (w := w) (base := base) Tx c X G tb_law_refused_right h_heard h_law_pick h_square_of h_product h_turned h_flipped h_times h_quotient h_vectors_of
  exact ok_law F Tx h_law_pen h_law_pick h_law_vector h_law_two_right h_law_quotients_right h_law_turns_right h_law_draw h_vectors_of h_law_all h_turned h_law_refused_right h_vectors_of_kw
end K47
open PySem PySem.W PySem.Calls PyProof.Rows
theorem PySem.Challenge.cw_rimsewn_k47_vectors_as_numbers_of_the_gr_holds : PySem.Challenge.rw_rimsewn_k47_vectors_as_numbers_of_the_gr.Holds := by
  w_on; o_law
  refine HandSHeadRun.head_any (r := OpenLaw.row PySem.Challenge.rw_rimsewn_k47_vectors_as_numbers_of_the_gr) (q := view (OpenLaw.row PySem.Challenge.rw_rimsewn_k47_vectors_as_numbers_of_the_gr).prog [49]) (H := K47.hk) (ob := K47.ob) (M := 4000) (loose := K47.loose) (d := HandSHeadRun.topDef (OpenLaw.row PySem.Challenge.rw_rimsewn_k47_vectors_as_numbers_of_the_gr).prog 49) (kwd := []) K47.ob_eq
    (by kernel_rfl) (fun s => by kernel_rfl) K47.run (by kernel_rfl) (by kernel_rfl) (by kernel_rfl) (by rfl) (by first | assumption | decide +kernel) (by decide +kernel) ⟨rfl, rfl, rfl, rfl, rfl, by decide +kernel⟩ ?hw ?hc
  case hw => w_witness2
  case hc =>
    refine LamX.walk_ofTsE (l := PySem.Challenge.rw_rimsewn_k47_vectors_as_numbers_of_the_gr) (n := 63) (k := K47.lawLevel) (x := "_law_script") (CX := fun _ => L2.CX0) rfl (by decide) (by kernel_rfl) ⟨rfl, by decide, by decide⟩ ?F (fun _ _ _ _ _ z => z)
    intro w mg fa h Y G hmg0
    obtain ⟨K, KX, c⟩ := Y
    have hmg : mg ("law" : PySem.Str) = some (.ref fa) := by
      have e : (HandSHeadRun.topDef (OpenLaw.row PySem.Challenge.rw_rimsewn_k47_vectors_as_numbers_of_the_gr).prog 49).name = ("law" : PySem.Str) := by kernel_rfl
      rw [← e]
      exact hmg0
    obtain ⟨fd, hb, hF⟩ := K47.facts (P := (PySem.Challenge.rw_rimsewn_k47_vectors_as_numbers_of_the_gr).prog) (w := w) KX G hmg c
    refine ⟨K, KX, fd, K47.csT K, K47.spLaw K, fun p hp => ?_, fun p hp => ?_, fun p hp => ?_, hb, fun H a ns hl _ hT hS => ⟨a, ns, rfl, hS, hl, ?_, fun _ => rfl⟩, hF⟩
    · obtain ⟨d, hd, rfl⟩ := List.mem_map.mp hp
      exact c.empty d hd
    · obtain ⟨d, hd, rfl⟩ := List.mem_map.mp hp
      exact c.out d hd
    · obtain ⟨d, hd, rfl⟩ := List.mem_map.mp hp
      exact PySem.W.codeHd_of_K KX (c.hd d hd)
    · intro q hq
      simp only [K47.TT0, List.mem_cons, List.not_mem_nil, or_false] at hq
      rcases hq with rfl | rfl
      · exact LamX.TabS.nil (hT (He.cT K (("_law_quotients_right", none) : He.Defn)) (List.mem_map_of_mem (f := He.cT K) (show (("_law_quotients_right", none) : He.Defn) ∈ K47.tf by simp [K47.tf])))
      · exact LamX.TabS.nil (hT (He.cT K (("_law_refused_right", none) : He.Defn)) (List.mem_map_of_mem (f := He.cT K) (show (("_law_refused_right", none) : He.Defn) ∈ K47.tf by simp [K47.tf])))
