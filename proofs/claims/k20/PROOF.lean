import PyProof.Rows.All
import Wide.All
import OpenK.AllK
import Wide.FinOn
import HandS.ForMost
import HandS.Flow
import HandS.IsInst
import HandS.Style
import HandS.TupAny
import HandS.TupMul
import HandS.TupLe
import HandS.Zip
import HandS.FStr
import HandS.Wide
import KE.SortData
import KE.DataMinMax
import HandS.Deep
import HandS.TupSets
import HandS.Walk
import HandS.Codes
import PySem.Challenge.RW_whatrims_k20_kinds_and_words
set_option Elab.async false
set_option linter.all false
set_option maxRecDepth 100000
namespace Ka
open PySem L2

abbrev MSet := Addr → Prop
def keyD : Key → PyData
  | .inl i => .int i
  | .inr x => .str x
def keyT (k : List Key) : PyData := .tuple (k.map keyD)

mutual
/-- the value v stands for the data d in the heap H, no object of it among M -/
inductive Rep (M : MSet) (H : Hp) : V → PyData → Prop
  | non : Rep M H .non .none
  | bl (b : Bool) : Rep M H (.bl b) (.bool b)
  | int (i : Int) : Rep M H (.int i) (.int i)
  | str (x : Str) : Rep M H (.str x) (.str x)
  | lst {a : Addr} {xs : List V} {ds : List PyData} : ¬ M a → H a = some (.lst xs) → RepL M H xs ds → Rep M H (.ref a) (.list ds)
  | tup {a : Addr} {xs : List V} {ds : List PyData} : ¬ M a → H a = some (.tup xs) → RepL M H xs ds → Rep M H (.ref a) (.tuple ds)
  | dT {a : Addr} {ks : List (List Key × V)} {kvs : List (List Key × PyData)} {kv : List (PyData × PyData)} : ¬ M a → H a = some (.dT ks) → ks.map (·.1) = kvs.map (·.1) → RepL M H (ks.map (·.2)) (kvs.map (·.2)) → kv = (kvs.map fun p => (keyT p.1, p.2)) → Rep M H (.ref a) (.dict kv)
  | dK {a : Addr} {ks : List (Key × V)} {kvs : List (Key × PyData)} {kv : List (PyData × PyData)} : ¬ M a → H a = some (.dK ks) → ks.map (·.1) = kvs.map (·.1) → RepL M H (ks.map (·.2)) (kvs.map (·.2)) → kv = (PyData.none, PyData.none) :: (kvs.map fun p => (keyD p.1, p.2)) → Rep M H (.ref a) (.dict kv)
inductive RepL (M : MSet) (H : Hp) : List V → List PyData → Prop
  | nil : RepL M H [] []
  | cons {v : V} {vs : List V} {d : PyData} {ds : List PyData} : Rep M H v d → RepL M H vs ds → RepL M H (v :: vs) (d :: ds)
end

/-- from M, H to M', H': what is not in M stays; what comes into M is new -/
structure Step (M : MSet) (H : Hp) (M' : MSet) (H' : Hp) : Prop where
  ext : ∀ a o, H a = some o → ¬ M a → H' a = some o
  mx : ∀ a, M' a → M a ∨ H a = none
theorem Step.refl (M : MSet) (H : Hp) : Step M H M H := ⟨fun _ _ h _ => h, fun _ h => .inl h⟩
theorem Step.nin {M M' : MSet} {H H' : Hp} (s : Step M H M' H') {a : Addr} {o : HO} (h : H a = some o) (n : ¬ M a) : ¬ M' a := fun z => by
  rcases s.mx a z with q | q
  · exact n q
  · rw [h] at q; cases q
theorem Step.trans {M M' M'' : MSet} {H H' H'' : Hp} (s : Step M H M' H') (t : Step M' H' M'' H'') : Step M H M'' H'' := by
  refine ⟨fun a o h n => t.ext a o (s.ext a o h n) (s.nin h n), fun a h => ?_⟩
  rcases t.mx a h with q | q
  · exact s.mx a q
  · by_cases hm : M a
    · exact .inl hm
    · right
      cases e : H a with
      | none => rfl
      | some o => rw [s.ext a o e hm] at q; cases q
mutual
theorem Rep.step {M M' : MSet} {H H' : Hp} (s : Step M H M' H') : ∀ {v : V} {d : PyData}, Rep M H v d → Rep M' H' v d
  | _, _, .non => .non
  | _, _, .bl b => .bl b
  | _, _, .int i => .int i
  | _, _, .str x => .str x
  | _, _, .lst n h r => .lst (s.nin h n) (s.ext _ _ h n) (RepL.step s r)
  | _, _, .tup n h r => .tup (s.nin h n) (s.ext _ _ h n) (RepL.step s r)
  | _, _, .dT n h q r e => .dT (s.nin h n) (s.ext _ _ h n) q (RepL.step s r) e
  | _, _, .dK n h q r e => .dK (s.nin h n) (s.ext _ _ h n) q (RepL.step s r) e
theorem RepL.step {M M' : MSet} {H H' : Hp} (s : Step M H M' H') : ∀ {vs : List V} {ds : List PyData}, RepL M H vs ds → RepL M' H' vs ds
  | _, _, .nil => .nil
  | _, _, .cons a b => .cons (Rep.step s a) (RepL.step s b)
end
theorem Step.anti {M M' : MSet} {H : Hp} (h : ∀ a, M' a → M a) : Step M H M' H := ⟨fun _ _ e _ => e, fun a m => .inl (h a m)⟩
theorem Step.upd {M : MSet} {H : Hp} {p : Addr} {o : HO} (h : H p = none) : Step M H M (upd H p o) := ⟨fun a u e _ => by rw [upd_ne (ne_of_none e h)]; exact e, fun _ m => .inl m⟩
theorem RepL.length {M : MSet} {H : Hp} : ∀ {vs : List V} {ds : List PyData}, RepL M H vs ds → vs.length = ds.length
  | _, _, .nil => rfl
  | _, _, .cons _ b => congrArg (· + 1) b.length
theorem RepL.get {M : MSet} {H : Hp} : ∀ {vs : List V} {ds : List PyData} {i : Nat} {v : V}, RepL M H vs ds → vs[i]? = some v → ∃ d, ds[i]? = some d ∧ Rep M H v d
  | _, _, _, _, .nil, e => by simp at e
  | _, _, 0, _, .cons a _, e => by simp at e; subst e; exact ⟨_, rfl, a⟩
  | _, _, i + 1, v, .cons _ b, e => by
    obtain ⟨d, h1, h2⟩ := RepL.get (i := i) (v := v) b (by simpa using e)
    exact ⟨d, by simpa using h1, h2⟩
theorem RepL.getD {M : MSet} {H : Hp} : ∀ {vs : List V} {ds : List PyData} {i : Nat} {d : PyData}, RepL M H vs ds → ds[i]? = some d → ∃ v, vs[i]? = some v ∧ Rep M H v d
  | _, _, _, _, .nil, e => by simp at e
  | _, _, 0, _, .cons a _, e => by simp at e; subst e; exact ⟨_, rfl, a⟩
  | _, _, i + 1, v, .cons _ b, e => by
    obtain ⟨d, h1, h2⟩ := RepL.getD (i := i) b (by simpa using e)
    exact ⟨d, by simpa using h1, h2⟩
theorem RepL.append {M : MSet} {H : Hp} : ∀ {vs ws : List V} {ds es : List PyData}, RepL M H vs ds → RepL M H ws es → RepL M H (vs ++ ws) (ds ++ es)
  | _, _, _, _, .nil, s => s
  | _, _, _, _, .cons a b, s => .cons a (RepL.append b s)
theorem RepL.take {M : MSet} {H : Hp} : ∀ {vs : List V} {ds : List PyData} (n : Nat), RepL M H vs ds → RepL M H (vs.take n) (ds.take n)
  | _, _, 0, _ => .nil
  | _, _, _ + 1, .nil => .nil
  | _, _, n + 1, .cons a b => .cons a (RepL.take n b)
theorem RepL.drop {M : MSet} {H : Hp} : ∀ {vs : List V} {ds : List PyData} (n : Nat), RepL M H vs ds → RepL M H (vs.drop n) (ds.drop n)
  | _, _, 0, r => r
  | _, _, _ + 1, .nil => .nil
  | _, _, n + 1, .cons _ b => RepL.drop n b
theorem RepL.set {M : MSet} {H : Hp} {v : V} {d : PyData} (h : Rep M H v d) : ∀ {vs : List V} {ds : List PyData} (n : Nat), RepL M H vs ds → RepL M H (vs.set n v) (ds.set n d)
  | _, _, _, .nil => .nil
  | _, _, 0, .cons _ b => .cons h b
  | _, _, n + 1, .cons a b => .cons a (RepL.set h n b)
theorem RepL.reverse {M : MSet} {H : Hp} : ∀ {vs : List V} {ds : List PyData}, RepL M H vs ds → RepL M H vs.reverse ds.reverse
  | _, _, .nil => .nil
  | _, _, .cons a b => by rw [List.reverse_cons, List.reverse_cons]; exact (RepL.reverse b).append (.cons a .nil)

/-! no dict within -/
mutual
def flatD : PyData → Bool
  | .list ds => flatDs ds
  | .tuple ds => flatDs ds
  | .dict _ => false
  | _ => true
def flatDs : List PyData → Bool
  | [] => true
  | d :: r => flatD d && flatDs r
end
mutual
theorem Rep.dp {K : PySem.W.Frag} {M : MSet} {H : Hp} : ∀ {v : V} {d : PyData}, Rep M H v d → flatD d = true → Dp K H v d
  | _, _, .non, _ => .non
  | _, _, .bl b, _ => .bl b
  | _, _, .int i, _ => .int i
  | _, _, .str x, _ => .str x
  | _, _, .lst n h r, f => .lst (.inl (.inl h)) (RepL.dp r f)
  | _, _, .tup n h r, f => .tup (.inl (.inl h)) (RepL.dp r f)
  | _, _, .dT n h q r e, f => by cases f
  | _, _, .dK n h q r e, f => by cases f
theorem RepL.dp {K : PySem.W.Frag} {M : MSet} {H : Hp} : ∀ {vs : List V} {ds : List PyData}, RepL M H vs ds → flatDs ds = true → DpAll K H vs ds
  | _, _, .nil, _ => .nil
  | _, _, .cons a b, f => by
    have f' : (flatD _ && flatDs _) = true := f
    rw [Bool.and_eq_true] at f'
    exact .cons (Rep.dp a f'.1) (RepL.dp b f'.2)
end

/-- what a def is in: the sources that may change (S), what holds of them, what is not the def's (M0), the heap at its entry -/
structure Cxt where
  S : MSet
  J : Hp → Prop
  M0 : MSet
  H0 : Hp
  jst : ∀ H H', J H → (∀ a o, H a = some o → S a → H' a = some o) → J H'
  jdom : ∀ H, J H → ∀ a, S a → H a ≠ none
  sm : ∀ a, S a → M0 a

inductive Sl where
  | un
  | val (v : V)
  | dat (d : PyData)
  | own (ds : List PyData)
  | ownT (kvs : List (List Key × PyData))
  | ownK (kvs : List (Key × PyData))
def Sl.isOwn : Sl → Bool
  | .own _ => true
  | .ownT _ => true
  | .ownK _ => true
  | _ => false
def zipK {κ : Type} (kvs : List (κ × PyData)) (vs : List V) : List (κ × V) := (kvs.map (·.1)).zip vs
def SlotOk (M M0 : MSet) (H : Hp) : Sl → Option V → Prop
  | .un, _ => True
  | .val v, o => o = some v
  | .dat d, o => ∃ v, o = some v ∧ Rep M H v d
  | .own ds, o => ∃ p vs, o = some (.ref p) ∧ M p ∧ ¬ M0 p ∧ H p = some (.lst vs) ∧ RepL M H vs ds
  | .ownT kvs, o => ∃ p ks, o = some (.ref p) ∧ M p ∧ ¬ M0 p ∧ H p = some (.dT ks) ∧ ks.map (·.1) = kvs.map (·.1) ∧ RepL M H (ks.map (·.2)) (kvs.map (·.2))
  | .ownK kvs, o => ∃ p ks, o = some (.ref p) ∧ M p ∧ ¬ M0 p ∧ H p = some (.dK ks) ∧ ks.map (·.1) = kvs.map (·.1) ∧ RepL M H (ks.map (·.2)) (kvs.map (·.2))
structure At (C : Cxt) (M : MSet) (ρ : List Sl) (σ : L2.St) (H : Hp) : Prop where
  len : σ.length = ρ.length
  slots : ∀ (i : Nat) s, ρ[i]? = some s → ∃ o, σ[i]? = some o ∧ SlotOk M C.M0 H s o
  uniq : ∀ (i j : Nat) s t p, ρ[i]? = some s → ρ[j]? = some t → s.isOwn = true → t.isOwn = true → σ[i]? = some (some (.ref p)) → σ[j]? = some (some (.ref p)) → i = j
  sub : ∀ a, C.M0 a → M a
  new : ∀ a, M a → C.M0 a ∨ C.H0 a = none
  dom : ∀ a, M a → H a ≠ none
  frame : ∀ a o, C.H0 a = some o → ¬ C.S a → H a = some o
  j : C.J H
/-- all but the sources is as it was -/
def Ext (C : Cxt) (H H' : Hp) : Prop := ∀ a o, H a = some o → ¬ C.S a → H' a = some o
theorem Ext.refl {C : Cxt} (H : Hp) : Ext C H H := fun _ _ h _ => h
theorem Ext.trans {C : Cxt} {H H1 H2 : Hp} (a : Ext C H H1) (b : Ext C H1 H2) : Ext C H H2 := fun x o h n => b x o (a x o h n) n
theorem Ext.upd {C : Cxt} {H : Hp} {p : Addr} {o : HO} (h : H p = none) : Ext C H (upd H p o) := fun a u e _ => by rw [upd_ne (ne_of_none e h)]; exact e
section
variable {C : Cxt} {M M' : MSet} {ρ : List Sl} {σ : L2.St} {H H' : Hp}
theorem At.ms (A : At C M ρ σ H) {a : Addr} (h : C.S a) : M a := A.sub a (C.sm a h)
theorem At.step (A : At C M ρ σ H) (e : Ext C H H') : Step M H M H' := ⟨fun a o h n => e a o h fun z => n (A.ms z), fun _ m => .inl m⟩
theorem SlotOk.ext (A : At C M ρ σ H) (e : Ext C H H') : ∀ {s : Sl} {o : Option V}, SlotOk M C.M0 H s o → SlotOk M C.M0 H' s o
  | .un, _, _ => trivial
  | .val _, _, h => h
  | .dat d, o, ⟨v, h1, h2⟩ => ⟨v, h1, h2.step (A.step e)⟩
  | .own ds, o, ⟨p, vs, h1, h2, h3, h4, h5⟩ => ⟨p, vs, h1, h2, h3, e p _ h4 fun z => h3 (C.sm p z), h5.step (A.step e)⟩
  | .ownT ds, o, ⟨p, vs, h1, h2, h3, h4, h5, h6⟩ => ⟨p, vs, h1, h2, h3, e p _ h4 fun z => h3 (C.sm p z), h5, h6.step (A.step e)⟩
  | .ownK ds, o, ⟨p, vs, h1, h2, h3, h4, h5, h6⟩ => ⟨p, vs, h1, h2, h3, e p _ h4 fun z => h3 (C.sm p z), h5, h6.step (A.step e)⟩
theorem At.ext (A : At C M ρ σ H) (e : Ext C H H') (j : C.J H') : At C M ρ σ H' where
  len := A.len
  slots := fun i s h => let ⟨o, h1, h2⟩ := A.slots i s h; ⟨o, h1, h2.ext A e⟩
  uniq := A.uniq
  sub := A.sub
  new := A.new
  dom := fun a m => by
    by_cases hs : C.S a
    · exact C.jdom H' j a hs
    · cases q : H a with
      | none => exact absurd q (A.dom a m)
      | some o => rw [e a o q hs]; exact fun z => nomatch z
  frame := fun a o h n => e a o (A.frame a o h n) n
  j := j
theorem At.jupd (A : At C M ρ σ H) {p : Addr} {o : HO} (h : H p = none) : C.J (upd H p o) := C.jst H _ A.j fun a u e _ => by rw [upd_ne (ne_of_none e h)]; exact e
theorem jupd {C : Cxt} {H : Hp} (j : C.J H) {p : Addr} {o : HO} (h : H p = none) : C.J (upd H p o) := C.jst H _ j fun a u e _ => by rw [upd_ne (ne_of_none e h)]; exact e
theorem At.nM (A : At C M ρ σ H) {p : Addr} (h : H p = none) : ¬ M p := fun z => A.dom p z h
end
end Ka

namespace Ka
open PySem L2

/-! ### expressions: what they come to -/
def EP (C : Cxt) (te : TE) (ρ : List Sl) (R : MSet → Hp → V → Prop) : Prop := ∀ (M : MSet) (σ : L2.St) (H : Hp) (Q : VK), At C M ρ σ H → (∀ v H', Ext C H H' → C.J H' → R M H' v → Q v H') → te σ H Q
/-- data; a list that is the def's own may be it -/
def RepW (C : Cxt) (M : MSet) (H : Hp) (v : V) (d : PyData) : Prop := Rep M H v d ∨ ∃ p vs ds, v = .ref p ∧ d = .list ds ∧ M p ∧ ¬ C.M0 p ∧ H p = some (.lst vs) ∧ RepL M H vs ds
def EX (C : Cxt) (te : TE) (ρ : List Sl) (d : PyData) : Prop := EP C te ρ fun M H v => Rep M H v d
def EW (C : Cxt) (te : TE) (ρ : List Sl) (d : PyData) : Prop := EP C te ρ fun M H v => RepW C M H v d
def ES (C : Cxt) (te : TE) (ρ : List Sl) (S : PyData → Prop) : Prop := EP C te ρ fun M H v => ∃ d, S d ∧ Rep M H v d
def EA (C : Cxt) (ta : TA) (ρ : List Sl) (ds : List PyData) : Prop := ∀ (M : MSet) (σ : L2.St) (H : Hp) (Q : List V → Hp → Prop), At C M ρ σ H → (∀ vs H', Ext C H H' → C.J H' → RepL M H' vs ds → Q vs H') → ta σ H Q
def ET (C : Cxt) (tt : TT) (ρ : List Sl) (b : Bool) : Prop := ∀ (M : MSet) (σ : L2.St) (H : Hp) (Q : Bool → Hp → Prop), At C M ρ σ H → (∀ H', Ext C H H' → C.J H' → Q b H') → tt σ H Q
section
variable {C : Cxt} {M M' : MSet} {ρ : List Sl} {σ : L2.St} {H H' : Hp} {ta tb te tc : TE} {d e f : PyData} {v : V}
theorem Rep.ext (A : At C M ρ σ H) (e : Ext C H H') (r : Rep M H v d) : Rep M H' v d := r.step (A.step e)
theorem RepL.ext (A : At C M ρ σ H) (e : Ext C H H') {vs : List V} {ds : List PyData} (r : RepL M H vs ds) : RepL M H' vs ds := r.step (A.step e)
theorem RepW.ext (A : At C M ρ σ H) (e : Ext C H H') : RepW C M H v d → RepW C M H' v d
  | .inl r => .inl (r.ext A e)
  | .inr ⟨p, vs, ds, h1, h2, h3, h4, h5, h6⟩ => .inr ⟨p, vs, ds, h1, h2, h3, h4, e p _ h5 fun z => h4 (C.sm p z), h6.ext A e⟩
theorem RepW.list {ds : List PyData} : RepW C M H v (.list ds) → ∃ p vs, v = .ref p ∧ H p = some (.lst vs) ∧ RepL M H vs ds
  | .inl (.lst _ h r) => ⟨_, _, rfl, h, r⟩
  | .inr ⟨p, vs, es, h1, h2, _, _, h5, h6⟩ => by cases h2; exact ⟨p, vs, h1, h5, h6⟩
theorem RepW.dp {K : PySem.W.Frag} (h : RepW C M H v d) (f : flatD d = true) : Dp K H v d := by
  rcases h with h | ⟨p, vs, ds, rfl, rfl, _, _, h, r⟩
  · exact h.dp f
  · exact .lst (.inl (.inl h)) (r.dp f)
theorem Rep.tuple {ds : List PyData} : Rep M H v (.tuple ds) → ∃ p vs, v = .ref p ∧ ¬ M p ∧ H p = some (.tup vs) ∧ RepL M H vs ds
  | .tup n h r => ⟨_, _, rfl, n, h, r⟩
theorem Rep.int_of {i : Int} : Rep M H v (.int i) → v = .int i
  | .int _ => rfl
theorem Rep.bl_of {b : Bool} : Rep M H v (.bool b) → v = .bl b
  | .bl _ => rfl
theorem Rep.str_of {x : Str} : Rep M H v (.str x) → v = .str x
  | .str _ => rfl
theorem EX.w (h : EX C te ρ d) : EW C te ρ d := fun M σ H Q A k => h M σ H Q A fun v H' e j r => k v H' e j (.inl r)
theorem EX.s {S : PyData → Prop} (h : EX C te ρ d) (s : S d) : ES C te ρ S := fun M σ H Q A k => h M σ H Q A fun v H' e j r => k v H' e j ⟨d, s, r⟩
theorem EX.is (h : EX C te ρ d) (q : d = e) : EX C te ρ e := q ▸ h
theorem ET.is {t : TT} {a b : Bool} (h : ET C t ρ a) (q : a = b) : ET C t ρ b := q ▸ h

theorem ex_var {i : Nat} (h : ρ[i]? = some (.dat d)) : EX C (tVar i) ρ d := fun M σ H Q A k => by
  obtain ⟨o, h1, v, h2, h3⟩ := A.slots i _ h
  exact ⟨v, by rw [h1, h2], k v H (Ext.refl H) A.j h3⟩
theorem ew_var {i : Nat} {ds : List PyData} (h : ρ[i]? = some (.own ds)) : EW C (tVar i) ρ (.list ds) := fun M σ H Q A k => by
  obtain ⟨o, h1, p, vs, h2, h3, h4, h5, h6⟩ := A.slots i _ h
  exact ⟨.ref p, by rw [h1, h2], k _ H (Ext.refl H) A.j (.inr ⟨p, vs, ds, rfl, rfl, h3, h4, h5, h6⟩)⟩
theorem ex_int {i : Int} : EX C (tC (.int i)) ρ (.int i) := fun M σ H Q A k => k _ H (Ext.refl H) A.j (.int i)
theorem ex_bl {b : Bool} : EX C (tC (.bl b)) ρ (.bool b) := fun M σ H Q A k => k _ H (Ext.refl H) A.j (.bl b)
theorem ex_non : EX C (tC .non) ρ .none := fun M σ H Q A k => k _ H (Ext.refl H) A.j .non
theorem ex_str {x : Str} : EX C (tC (.str x)) ρ (.str x) := fun M σ H Q A k => k _ H (Ext.refl H) A.j (.str x)

/-- two operands, by values -/
theorem ep_op {R1 R2' R : MSet → Hp → V → Prop} {r : R2} (ha : EP C ta ρ R1) (hb : EP C tb ρ R2') (mono : ∀ (M : MSet) (σ : L2.St) (H H' : Hp) v, At C M ρ σ H → Ext C H H' → R1 M H v → R1 M H' v)
    (hr : ∀ (M : MSet) (σ : L2.St) (H : Hp) (x y : V) (Q : VK), At C M ρ σ H → R1 M H x → R2' M H y → (∀ v H', Ext C H H' → C.J H' → R M H' v → Q v H') → r x y H Q) : EP C (tOp r ta tb) ρ R := fun M σ H Q A k =>
  ha M σ H _ A fun x H1 e1 j1 r1 => hb M σ H1 _ (A.ext e1 j1) fun y H2 e2 j2 r2 =>
    hr M σ H2 x y Q ((A.ext e1 j1).ext e2 j2) (mono M σ H1 H2 x (A.ext e1 j1) e2 r1) r2 fun v H' e3 j3 r3 => k v H' ((e1.trans e2).trans e3) j3 r3
theorem ex_op {r : R2} (ha : EX C ta ρ d) (hb : EX C tb ρ e) (hr : ∀ (M : MSet) (σ : L2.St) (H : Hp) (x y : V) (Q : VK), At C M ρ σ H → Rep M H x d → Rep M H y e → (∀ v H', Ext C H H' → C.J H' → Rep M H' v f → Q v H') → r x y H Q) : EX C (tOp r ta tb) ρ f :=
  ep_op ha hb (fun M σ H H' v A e r => r.ext A e) hr
theorem ew_op {r : R2} (ha : EW C ta ρ d) (hb : EW C tb ρ e) (hr : ∀ (M : MSet) (σ : L2.St) (H : Hp) (x y : V) (Q : VK), At C M ρ σ H → RepW C M H x d → RepW C M H y e → (∀ v H', Ext C H H' → C.J H' → Rep M H' v f → Q v H') → r x y H Q) : EX C (tOp r ta tb) ρ f :=
  ep_op ha hb (fun M σ H H' v A e r => r.ext A e) hr
theorem ex_I0 {g : Int → Int → V} {i j : Int} (ha : EX C ta ρ (.int i)) (hb : EX C tb ρ (.int j)) (h : ∀ M H, Rep M H (g i j) d) : EX C (tOp (rI0 g) ta tb) ρ d :=
  ex_op ha hb fun M σ H x y Q A rx ry k => ⟨i, j, rx.int_of, ry.int_of, k _ H (Ext.refl H) A.j (h M H)⟩
theorem ex_I {c : Int → Int → Prop} {g : Int → Int → V} {i j : Int} (ha : EX C ta ρ (.int i)) (hb : EX C tb ρ (.int j)) (hc : c i j) (h : ∀ M H, Rep M H (g i j) d) : EX C (tOp (rI c g) ta tb) ρ d :=
  ex_op ha hb fun M σ H x y Q A rx ry k => ⟨i, j, rx.int_of, ry.int_of, hc, k _ H (Ext.refl H) A.j (h M H)⟩
theorem ex_add {i j : Int} (ha : EX C ta ρ (.int i)) (hb : EX C tb ρ (.int j)) : EX C (tOp (rI0 fun i j => .int (i + j)) ta tb) ρ (.int (i + j)) := ex_I0 ha hb fun _ _ => .int _
theorem ex_sub {i j : Int} (ha : EX C ta ρ (.int i)) (hb : EX C tb ρ (.int j)) : EX C (tOp (rI0 fun i j => .int (i - j)) ta tb) ρ (.int (i - j)) := ex_I0 ha hb fun _ _ => .int _
theorem ex_mul {c : Int → Int → Prop} {i j : Int} (ha : EX C ta ρ (.int i)) (hb : EX C tb ρ (.int j)) (hc : c i j) : EX C (tOp (rI c fun i j => .int (i * j)) ta tb) ρ (.int (i * j)) := ex_I ha hb hc fun _ _ => .int _
theorem ex_mod {c : Int → Int → Prop} {i j : Int} (ha : EX C ta ρ (.int i)) (hb : EX C tb ρ (.int j)) (hc : c i j) : EX C (tOp (rI c fun i j => .int (i % j)) ta tb) ρ (.int (i % j)) := ex_I ha hb hc fun _ _ => .int _
theorem ex_fdiv {c : Int → Int → Prop} {i j : Int} (ha : EX C ta ρ (.int i)) (hb : EX C tb ρ (.int j)) (hc : c i j) : EX C (tOp (rI c fun i j => .int (i / j)) ta tb) ρ (.int (i / j)) := ex_I ha hb hc fun _ _ => .int _
theorem ex_lt {i j : Int} (ha : EX C ta ρ (.int i)) (hb : EX C tb ρ (.int j)) : EX C (tOp (rI0 fun i j => .bl (decide (i < j))) ta tb) ρ (.bool (decide (i < j))) := ex_I0 ha hb fun _ _ => .bl _
theorem ex_le {i j : Int} (ha : EX C ta ρ (.int i)) (hb : EX C tb ρ (.int j)) : EX C (tOp (rI0 fun i j => .bl (decide (i ≤ j))) ta tb) ρ (.bool (decide (i ≤ j))) := ex_I0 ha hb fun _ _ => .bl _
theorem ex_gt {i j : Int} (ha : EX C ta ρ (.int i)) (hb : EX C tb ρ (.int j)) : EX C (tOp (rI0 fun i j => .bl (decide (j < i))) ta tb) ρ (.bool (decide (j < i))) := ex_I0 ha hb fun _ _ => .bl _
theorem ex_ge {i j : Int} (ha : EX C ta ρ (.int i)) (hb : EX C tb ρ (.int j)) : EX C (tOp (rI0 fun i j => .bl (decide (j ≤ i))) ta tb) ρ (.bool (decide (j ≤ i))) := ex_I0 ha hb fun _ _ => .bl _
theorem ex_neg {i : Int} (ha : EX C ta ρ (.int i)) : EX C (tUn (rU fun i => .int (-i)) ta) ρ (.int (-i)) := fun M σ H Q A k => ha M σ H _ A fun v H1 e j r => ⟨i, r.int_of, k _ H1 e j (.int _)⟩
/-- == of data -/
theorem ex_eqD {K : PySem.W.Frag} (ha : EW C ta ρ d) (hb : EW C tb ρ e) (fd : flatD d = true) (fe : flatD e = true) (sd : SeqAt.shaped d = true) (se : SeqAt.shaped e = true) : EX C (tOp (rEqD K) ta tb) ρ (.bool (PyData.eqv d e)) :=
  ew_op ha hb fun M σ H x y Q A rx ry k => ⟨d, e, rx.dp fd, ry.dp fe, sd, se, k _ H (Ext.refl H) A.j (.bl _)⟩
theorem ex_neD {K : PySem.W.Frag} (ha : EW C ta ρ d) (hb : EW C tb ρ e) (fd : flatD d = true) (fe : flatD e = true) (sd : SeqAt.shaped d = true) (se : SeqAt.shaped e = true) : EX C (tOp (rNeD K) ta tb) ρ (.bool (!PyData.eqv d e)) :=
  ew_op ha hb fun M σ H x y Q A rx ry k => ⟨d, e, rx.dp fd, ry.dp fe, sd, se, k _ H (Ext.refl H) A.j (.bl _)⟩
theorem ex_inD {K : PySem.W.Frag} {ds : List PyData} (ha : EX C ta ρ d) (hb : EW C tb ρ (.list ds)) (fd : flatD d = true) (fe : flatDs ds = true) (sd : SeqAt.shaped d = true) (se : SeqAt.shaped (.list ds) = true) : EX C (tOp (rInD K) ta tb) ρ (.bool (ds.any fun z => PyData.eqv z d)) :=
  ew_op ha.w hb fun M σ H x y Q A rx ry k => ⟨d, ds, rx.dp fd, ry.dp fe, sd, se, k _ H (Ext.refl H) A.j (.bl _)⟩
theorem ex_notInD {K : PySem.W.Frag} {ds : List PyData} (ha : EX C ta ρ d) (hb : EW C tb ρ (.list ds)) (fd : flatD d = true) (fe : flatDs ds = true) (sd : SeqAt.shaped d = true) (se : SeqAt.shaped (.list ds) = true) : EX C (tOp (rNotInD K) ta tb) ρ (.bool (!ds.any fun z => PyData.eqv z d)) :=
  ew_op ha.w hb fun M σ H x y Q A rx ry k => ⟨d, ds, rx.dp fd, ry.dp fe, sd, se, k _ H (Ext.refl H) A.j (.bl _)⟩
def isNone : PyData → Bool
  | .none => true
  | _ => false
theorem Rep.isn (r : Rep M H v d) : decide (v = .non) = isNone d := by
  cases r <;> rfl
theorem ex_isN (ha : EX C ta ρ d) : EX C (tOp (fun x y H Q => y = .non ∧ Q (.bl (decide (x = .non))) H) ta (tC .non)) ρ (.bool (isNone d)) := fun M σ H Q A k => ha M σ H _ A fun v H1 e j r => ⟨rfl, k _ H1 e j (by rw [r.isn]; exact .bl _)⟩
theorem ex_notN (ha : EX C ta ρ d) : EX C (tOp (fun x y H Q => y = .non ∧ Q (.bl (!decide (x = .non))) H) ta (tC .non)) ρ (.bool (!isNone d)) := fun M σ H Q A k => ha M σ H _ A fun v H1 e j r => ⟨rfl, k _ H1 e j (by rw [r.isn]; exact .bl _)⟩
theorem ex_isNt (ha : EX C ta ρ d) : EX C (tIsN ta) ρ (.bool (isNone d)) := fun M σ H Q A k => ha M σ H _ A fun v H1 e j r => k _ H1 e j (by rw [r.isn]; exact .bl _)
theorem ex_notNt (ha : EX C ta ρ d) : EX C (tNotN ta) ρ (.bool (!isNone d)) := fun M σ H Q A k => ha M σ H _ A fun v H1 e j r => k _ H1 e j (by rw [r.isn]; exact .bl _)

/-! ### tests -/
theorem et_test {b : Bool} (h : EX C te ρ (.bool b)) : ET C (tTest te) ρ b := fun M σ H Q A k => h M σ H _ A fun v H1 e j r => ⟨b, r.bl_of, k H1 e j⟩
theorem et_B {b : Bool} (h : EX C te ρ (.bool b)) : ET C (tB te) ρ b := fun M σ H Q A k => h M σ H _ A fun v H1 e j r => ⟨b, r.bl_of, k H1 e j⟩
theorem et_and {t u : TT} {a b : Bool} (h1 : ET C t ρ a) (h2 : a = true → ET C u ρ b) : ET C (tAnd t u) ρ (a && b) := fun M σ H Q A k => h1 M σ H _ A fun H1 e j => by
  cases a with
  | true => exact h2 rfl M σ H1 Q (A.ext e j) fun H2 e2 j2 => k H2 (e.trans e2) j2
  | false => exact k H1 e j
theorem et_or {t u : TT} {a b : Bool} (h1 : ET C t ρ a) (h2 : a = false → ET C u ρ b) : ET C (tOr t u) ρ (a || b) := fun M σ H Q A k => h1 M σ H _ A fun H1 e j => by
  cases a with
  | true => exact k H1 e j
  | false => exact h2 rfl M σ H1 Q (A.ext e j) fun H2 e2 j2 => k H2 (e.trans e2) j2
theorem et_not {t : TT} {a : Bool} (h1 : ET C t ρ a) : ET C (tNot t) ρ (!a) := fun M σ H Q A k => h1 M σ H _ A fun H1 e j => k H1 e j
theorem ex_andV {a b : Bool} (h1 : EX C ta ρ (.bool a)) (h2 : a = true → EX C tb ρ (.bool b)) : EX C (tAndV ta tb) ρ (.bool (a && b)) := fun M σ H Q A k => h1 M σ H _ A fun v H1 e j r => ⟨a, r.bl_of, by
  cases a with
  | true => exact h2 rfl M σ H1 Q (A.ext e j) fun v H2 e2 j2 r2 => k v H2 (e.trans e2) j2 r2
  | false => exact k _ H1 e j (.bl _)⟩
theorem ex_orV {a b : Bool} (h1 : EX C ta ρ (.bool a)) (h2 : a = false → EX C tb ρ (.bool b)) : EX C (tOrV ta tb) ρ (.bool (a || b)) := fun M σ H Q A k => h1 M σ H _ A fun v H1 e j r => ⟨a, r.bl_of, by
  cases a with
  | true => exact k _ H1 e j (.bl _)
  | false => exact h2 rfl M σ H1 Q (A.ext e j) fun v H2 e2 j2 r2 => k v H2 (e.trans e2) j2 r2⟩
theorem ex_notV {a : Bool} (h1 : EX C ta ρ (.bool a)) : EX C (tNotV ta) ρ (.bool (!a)) := fun M σ H Q A k => h1 M σ H _ A fun v H1 e j r => ⟨a, r.bl_of, k _ H1 e j (.bl _)⟩
theorem ep_if {t : TT} {b : Bool} {R : MSet → Hp → V → Prop} (h : ET C t ρ b) (h1 : b = true → EP C ta ρ R) (h2 : b = false → EP C tb ρ R) : EP C (tIf t ta tb) ρ R := fun M σ H Q A k => h M σ H _ A fun H1 e j => by
  cases b with
  | true => exact h1 rfl M σ H1 Q (A.ext e j) fun v H2 e2 j2 r2 => k v H2 (e.trans e2) j2 r2
  | false => exact h2 rfl M σ H1 Q (A.ext e j) fun v H2 e2 j2 r2 => k v H2 (e.trans e2) j2 r2
theorem ex_if {t : TT} {b : Bool} (h : ET C t ρ b) (h1 : b = true → EX C ta ρ d) (h2 : b = false → EX C tb ρ d) : EX C (tIf t ta tb) ρ d := ep_if h h1 h2

/-! ### displays -/
theorem ea_nil : EA C tNil ρ [] := fun M σ H Q A k => k [] H (Ext.refl H) A.j .nil
theorem ea_cons {t : TA} {ds : List PyData} (h : EX C te ρ d) (h2 : EA C t ρ ds) : EA C (tCons te t) ρ (d :: ds) := fun M σ H Q A k =>
  h M σ H _ A fun v H1 e1 j1 r1 => h2 M σ H1 _ (A.ext e1 j1) fun vs H2 e2 j2 r2 => k (v :: vs) H2 (e1.trans e2) j2 (.cons (r1.ext (A.ext e1 j1) e2) r2)
theorem new_tup {Q : VK} {xs : List V} {ds : List PyData} (A : At C M ρ σ H) (e : Ext C H H') (j : C.J H') (r : RepL M H' xs ds) (k : ∀ v H2, Ext C H H2 → C.J H2 → Rep M H2 v (.tuple ds) → Q v H2) : ∀ p, H' p = none → Q (.ref p) (upd H' p (.tup xs)) := fun p hp =>
  k _ _ (e.trans (Ext.upd hp)) (jupd j hp) (.tup ((A.ext e j).nM hp) upd_same (r.step (Step.upd hp)))
theorem new_lst {Q : VK} {xs : List V} {ds : List PyData} (A : At C M ρ σ H) (e : Ext C H H') (j : C.J H') (r : RepL M H' xs ds) (k : ∀ v H2, Ext C H H2 → C.J H2 → Rep M H2 v (.list ds) → Q v H2) : ∀ p, H' p = none → Q (.ref p) (upd H' p (.lst xs)) := fun p hp =>
  k _ _ (e.trans (Ext.upd hp)) (jupd j hp) (.lst ((A.ext e j).nM hp) upd_same (r.step (Step.upd hp)))
theorem ex_tup {t : TA} {ds : List PyData} (h : EA C t ρ ds) (hz : ds.length ≤ 16777216) : EX C (tTup t) ρ (.tuple ds) := fun M σ H Q A k =>
  h M σ H _ A fun vs H1 e j r => ⟨by rw [r.length, sizeLine_eq]; exact hz, new_tup A e j r k⟩
theorem ex_lst {t : TA} {ds : List PyData} (h : EA C t ρ ds) (hz : ds.length ≤ 16777216) : EX C (tLst t) ρ (.list ds) := fun M σ H Q A k =>
  h M σ H _ A fun vs H1 e j r => ⟨by rw [r.length, sizeLine_eq]; exact hz, new_lst A e j r k⟩

/-! ### items, slices, sums of sequences -/
theorem atI_len {α β : Type} {xs : List α} {ys : List β} {i : Int} {y : β} (hl : xs.length = ys.length) (h : atI ys i = some y) : ∃ j : Nat, ys[j]? = some y ∧ ∀ x, xs[j]? = some x → atI xs i = some x := by
  unfold atI at h ⊢
  rw [hl]
  cases q : ixN ys.length i with
  | none => rw [q] at h; cases h
  | some j =>
    rw [q] at h
    exact ⟨j, h, fun x e => e⟩
theorem RepL.atI {vs : List V} {ds : List PyData} {i : Int} (r : RepL M H vs ds) (h : L2.atI ds i = some d) : ∃ v, L2.atI vs i = some v ∧ Rep M H v d := by
  obtain ⟨j, h1, h2⟩ := atI_len r.length h
  obtain ⟨v, h3, h4⟩ := r.getD h1
  exact ⟨v, h2 v h3, h4⟩
theorem ex_ixL {K : PySem.W.Frag} {ds : List PyData} {i : Int} (ha : EW C ta ρ (.list ds)) (hb : EX C tb ρ (.int i)) (h : L2.atI ds i = some d) : EX C (tOp (rIxL K) ta tb) ρ d :=
  ew_op ha hb.w fun M σ H x y Q A rx ry k => by
    obtain ⟨p, vs, rfl, hp, r⟩ := rx.list
    obtain ⟨v, h1, h2⟩ := r.atI h
    rcases ry with ry | ⟨_, _, _, _, h2, _⟩
    · exact ⟨p, vs, i, v, rfl, ry.int_of, .inl (.inl hp), h1, k v H (Ext.refl H) A.j h2⟩
    · cases h2
theorem ex_ixT {K : PySem.W.Frag} {ds : List PyData} {i : Int} (ha : EX C ta ρ (.tuple ds)) (hb : EX C tb ρ (.int i)) (h : L2.atI ds i = some d) : EX C (tOp (rIxT K) ta tb) ρ d :=
  ex_op ha hb fun M σ H x y Q A rx ry k => by
    obtain ⟨p, vs, rfl, _, hp, r⟩ := rx.tuple
    obtain ⟨v, h1, h2⟩ := r.atI h
    exact ⟨p, vs, i, v, rfl, ry.int_of, .inl (.inl hp), h1, k v H (Ext.refl H) A.j h2⟩
theorem ex_ixL' {K : PySem.W.Frag} {ds : List PyData} {i : Int} (ha : EW C ta ρ (.list ds)) (hb : EX C tb ρ (.int i)) (h : L2.atI ds i = some d) : EX C (tOp (rIx K) ta tb) ρ d :=
  ew_op ha hb.w fun M σ H x y Q A rx ry k => by
    obtain ⟨p, vs, rfl, hp, r⟩ := rx.list
    obtain ⟨v, h1, h2⟩ := r.atI h
    rcases ry with ry | ⟨_, _, _, _, h2, _⟩
    · exact .inl ⟨p, vs, i, v, rfl, ry.int_of, .inl (.inl hp), h1, k v H (Ext.refl H) A.j h2⟩
    · cases h2
theorem ex_ixT' {K : PySem.W.Frag} {ds : List PyData} {i : Int} (ha : EX C ta ρ (.tuple ds)) (hb : EX C tb ρ (.int i)) (h : L2.atI ds i = some d) : EX C (tOp (rIx K) ta tb) ρ d :=
  ex_op ha hb fun M σ H x y Q A rx ry k => by
    obtain ⟨p, vs, rfl, _, hp, r⟩ := rx.tuple
    obtain ⟨v, h1, h2⟩ := r.atI h
    exact .inr (.inl ⟨p, vs, i, v, rfl, ry.int_of, .inl (.inl hp), h1, k v H (Ext.refl H) A.j h2⟩)
theorem ex_cat {xs ys : List PyData} (ha : EW C ta ρ (.list xs)) (hb : EW C tb ρ (.list ys)) (hz : xs.length + ys.length ≤ 16777216) : EX C (tOp rCat ta tb) ρ (.list (xs ++ ys)) :=
  ew_op ha hb fun M σ H x y Q A rx ry k => by
    obtain ⟨p, vs, rfl, hp, r⟩ := rx.list
    obtain ⟨q, ws, rfl, hq, s⟩ := ry.list
    exact ⟨p, q, vs, ws, rfl, rfl, hp, hq, by rw [r.length, s.length, sizeLine_eq]; exact hz, new_lst A (Ext.refl H) A.j (r.append s) k⟩
theorem ex_catA {K : PySem.W.Frag} {xs ys : List PyData} (ha : EX C ta ρ (.tuple xs)) (hb : EX C tb ρ (.tuple ys)) (hz : xs.length + ys.length ≤ 16777216) : EX C (tOp (rCatA K) ta tb) ρ (.tuple (xs ++ ys)) :=
  ex_op ha hb fun M σ H x y Q A rx ry k => by
    obtain ⟨p, vs, rfl, n1, hp, r⟩ := rx.tuple
    obtain ⟨q, ws, rfl, n2, hq, s⟩ := ry.tuple
    refine ⟨p, q, vs, ws, rfl, rfl, .inl (.inl hp), .inl (.inl hq), by rw [r.length, s.length, sizeLine_eq]; exact hz, fun e => ?_, fun e1 e2 => ?_, fun _ _ => new_tup A (Ext.refl H) A.j (r.append s) k⟩
    · subst e
      cases r
      exact k _ H (Ext.refl H) A.j (.tup n2 hq s)
    · subst e2
      cases s
      exact k _ H (Ext.refl H) A.j (.tup n1 hp (by rw [List.append_nil]; exact r))
def cutD (ds : List PyData) (lo hi : Option Int) : List PyData := (ds.drop (HT.sIx ds.length 0 lo)).take (HT.sIx ds.length ds.length hi - HT.sIx ds.length 0 lo)
theorem RepL.cut {vs : List V} {ds : List PyData} (r : RepL M H vs ds) (lo hi : Option Int) : RepL M H (cutV vs lo hi) (cutD ds lo hi) := by
  unfold cutV cutD
  rw [r.length]
  exact (r.drop _).take _
def EO (C : Cxt) (to : TO) (ρ : List Sl) (o : Option Int) : Prop := ∀ (M : MSet) (σ : L2.St) (H : Hp) (Q : Option Int → Hp → Prop), At C M ρ σ H → (∀ H', Ext C H H' → C.J H' → Q o H') → to σ H Q
theorem eo_none : EO C tNoPart ρ none := fun M σ H Q A k => k H (Ext.refl H) A.j
theorem eo_some {i : Int} (h : EX C te ρ (.int i)) : EO C (tPart te) ρ (some i) := fun M σ H Q A k => h M σ H _ A fun v H1 e j r => ⟨i, r.int_of, k H1 e j⟩
theorem ep_sl {r : V → Option Int → Option Int → Hp → VK → Prop} {tl th : TO} {lo hi : Option Int} (ha : EW C te ρ d) (hl : EO C tl ρ lo) (hh : EO C th ρ hi)
    (hr : ∀ (M : MSet) (σ : L2.St) (H : Hp) (x : V) (Q : VK), At C M ρ σ H → RepW C M H x d → (∀ v H', Ext C H H' → C.J H' → Rep M H' v e → Q v H') → r x lo hi H Q) : EX C (tSl r te tl th) ρ e := fun M σ H Q A k =>
  ha M σ H _ A fun x H1 e1 j1 r1 => hl M σ H1 _ (A.ext e1 j1) fun H2 e2 j2 => hh M σ H2 _ ((A.ext e1 j1).ext e2 j2) fun H3 e3 j3 =>
    hr M σ H3 x Q (((A.ext e1 j1).ext e2 j2).ext e3 j3) ((r1.ext (A.ext e1 j1) e2).ext ((A.ext e1 j1).ext e2 j2) e3) fun v H' e4 j4 r4 => k v H' ((e1.trans (e2.trans e3)).trans e4) j4 r4
theorem ex_slL {K : PySem.W.Frag} {ds : List PyData} {tl th : TO} {lo hi : Option Int} (ha : EW C te ρ (.list ds)) (hl : EO C tl ρ lo) (hh : EO C th ρ hi) : EX C (tSl (rSlL K) te tl th) ρ (.list (cutD ds lo hi)) :=
  ep_sl ha hl hh fun M σ H x Q A rx k => by
    obtain ⟨p, vs, rfl, hp, r⟩ := rx.list
    exact ⟨p, vs, rfl, .inl (.inl hp), new_lst A (Ext.refl H) A.j (r.cut lo hi) k⟩
theorem ex_slA {K : PySem.W.Frag} {ds : List PyData} {tl th : TO} {lo hi : Option Int} (ha : EX C te ρ (.tuple ds)) (hl : EO C tl ρ lo) (hh : EO C th ρ hi) : EX C (tSl (rSlA K) te tl th) ρ (.tuple (cutD ds lo hi)) :=
  ep_sl ha.w hl hh fun M σ H x Q A rx k => by
    rcases rx with rx | ⟨_, _, _, _, h2, _⟩
    · obtain ⟨p, vs, rfl, n, hp, r⟩ := rx.tuple
      refine ⟨p, vs, rfl, .inl (.inl hp), fun q => ?_, fun _ => new_tup A (Ext.refl H) A.j (r.cut lo hi) k⟩
      have e : cutD ds lo hi = ds := by
        unfold cutD
        rw [r.length] at q
        rw [q.1, q.2, List.drop_zero, Nat.sub_zero, List.take_length]
      rw [e] at k
      exact k _ H (Ext.refl H) A.j (.tup n hp r)
    · cases h2
theorem ex_revL {K : PySem.W.Frag} {ds : List PyData} (ha : EW C te ρ (.list ds)) : EX C (tRevL K te) ρ (.list ds.reverse) := fun M σ H Q A k =>
  ha M σ H _ A fun x H1 e j rx => by
    obtain ⟨p, vs, rfl, hp, r⟩ := rx.list
    exact ⟨p, vs, rfl, .inl (.inl hp), new_lst A e j r.reverse k⟩
theorem ex_repT {K : PySem.W.Frag} {ds : List PyData} {i : Int} (ha : EX C ta ρ (.tuple ds)) (hb : EX C tb ρ (.int i)) (h : ds ≠ [] ∧ 2 ≤ i ∧ i ≤ 1000 ∧ ds.length ≤ 1000) : EX C (tOp (rRepT K) ta tb) ρ (.tuple (List.replicate i.toNat ds).flatten) :=
  ex_op ha hb fun M σ H x y Q A rx ry k => by
    obtain ⟨p, vs, rfl, n, hp, r⟩ := rx.tuple
    have rr : ∀ m, RepL M H (List.replicate m vs).flatten (List.replicate m ds).flatten := fun m => by
      induction m with
      | zero => exact .nil
      | succ m ih => rw [List.replicate_succ, List.replicate_succ, List.flatten_cons, List.flatten_cons]; exact r.append ih
    refine ⟨p, i, vs, rfl, ry.int_of, .inl (.inl hp), fun e => h.1 ?_, h.2.1, h.2.2.1, by rw [r.length]; exact h.2.2.2, new_tup A (Ext.refl H) A.j (rr _) k⟩
    subst e
    cases r
    rfl
/-! ### built-in functions -/
def EAW (C : Cxt) (ta : TA) (ρ : List Sl) (ds : List PyData) : Prop := ∀ (M : MSet) (σ : L2.St) (H : Hp) (Q : List V → Hp → Prop), At C M ρ σ H → (∀ vs H', Ext C H H' → C.J H' → Paired (RepW C M H') vs ds → Q vs H') → ta σ H Q
theorem ew_cb {r : List V → Hp → VK → Prop} (ha : EW C ta ρ d) (hr : ∀ (M : MSet) (σ : L2.St) (H : Hp) (x : V) (Q : VK), At C M ρ σ H → RepW C M H x d → (∀ v H', Ext C H H' → C.J H' → Rep M H' v e → Q v H') → r [x] H Q) : EX C (tCB r (tCons ta tNil)) ρ e := fun M σ H Q A k =>
  ha M σ H _ A fun x H1 e1 j1 r1 => hr M σ H1 x Q (A.ext e1 j1) r1 fun v H' e4 j4 r4 => k v H' (e1.trans e4) j4 r4
theorem ex_cb {r : List V → Hp → VK → Prop} (ha : EX C ta ρ d) (hr : ∀ (M : MSet) (σ : L2.St) (H : Hp) (x : V) (Q : VK), At C M ρ σ H → Rep M H x d → (∀ v H', Ext C H H' → C.J H' → Rep M H' v e → Q v H') → r [x] H Q) : EX C (tCB r (tCons ta tNil)) ρ e := fun M σ H Q A k =>
  ha M σ H _ A fun x H1 e1 j1 r1 => hr M σ H1 x Q (A.ext e1 j1) r1 fun v H' e4 j4 r4 => k v H' (e1.trans e4) j4 r4
abbrev rLen (K : PySem.W.Frag) : List V → Hp → VK → Prop := fun xs H Q => ∃ x n, xs = [x] ∧ LenV K x H n ∧ Q (.int n) H
theorem ex_lenL {K : PySem.W.Frag} {ds : List PyData} (ha : EW C ta ρ (.list ds)) : EX C (tCB (rLen K) (tCons ta tNil)) ρ (.int ds.length) :=
  ew_cb ha fun M σ H x Q A rx k => by
    obtain ⟨p, vs, rfl, hp, r⟩ := rx.list
    exact ⟨_, vs.length, rfl, .inl ⟨vs, .inl (.inl hp), rfl⟩, k _ H (Ext.refl H) A.j (by rw [r.length]; exact .int _)⟩
theorem ex_lenT {K : PySem.W.Frag} {ds : List PyData} (ha : EX C ta ρ (.tuple ds)) : EX C (tCB (rLen K) (tCons ta tNil)) ρ (.int ds.length) :=
  ex_cb ha fun M σ H x Q A rx k => by
    obtain ⟨p, vs, rfl, n, hp, r⟩ := rx.tuple
    exact ⟨_, vs.length, rfl, .inr ⟨vs, .inl (.inl hp), rfl⟩, k _ H (Ext.refl H) A.j (by rw [r.length]; exact .int _)⟩
abbrev rListOf (K : PySem.W.Frag) : List V → Hp → VK → Prop := fun xs H Q => ∃ p ys, xs = [.ref p] ∧ (SqL K H p ys ∨ SqT K H p ys) ∧ ∀ l, H l = none → Q (.ref l) (upd H l (.lst ys))
theorem ex_listT {K : PySem.W.Frag} {ds : List PyData} (ha : EX C ta ρ (.tuple ds)) : EX C (tCB (rListOf K) (tCons ta tNil)) ρ (.list ds) :=
  ex_cb ha fun M σ H x Q A rx k => by
    obtain ⟨p, vs, rfl, n, hp, r⟩ := rx.tuple
    exact ⟨p, vs, rfl, .inr (.inl (.inl hp)), new_lst A (Ext.refl H) A.j r k⟩
theorem ex_listL {K : PySem.W.Frag} {ds : List PyData} (ha : EW C ta ρ (.list ds)) : EX C (tCB (rListOf K) (tCons ta tNil)) ρ (.list ds) :=
  ew_cb ha fun M σ H x Q A rx k => by
    obtain ⟨p, vs, rfl, hp, r⟩ := rx.list
    exact ⟨p, vs, rfl, .inl (.inl (.inl hp)), new_lst A (Ext.refl H) A.j r k⟩
abbrev rTupleOf (K : PySem.W.Frag) : List V → Hp → VK → Prop := fun xs H Q => ∃ p ys, xs = [.ref p] ∧ ((SqL K H p ys ∧ ∀ l, H l = none → Q (.ref l) (upd H l (.tup ys))) ∨ (SqT K H p ys ∧ Q (.ref p) H))
theorem ex_tupleL {K : PySem.W.Frag} {ds : List PyData} (ha : EW C ta ρ (.list ds)) : EX C (tCB (rTupleOf K) (tCons ta tNil)) ρ (.tuple ds) :=
  ew_cb ha fun M σ H x Q A rx k => by
    obtain ⟨p, vs, rfl, hp, r⟩ := rx.list
    exact ⟨p, vs, rfl, .inl ⟨.inl (.inl hp), new_tup A (Ext.refl H) A.j r k⟩⟩
theorem ex_tupleT {K : PySem.W.Frag} {ds : List PyData} (ha : EX C ta ρ (.tuple ds)) : EX C (tCB (rTupleOf K) (tCons ta tNil)) ρ (.tuple ds) :=
  ex_cb ha fun M σ H x Q A rx k => by
    obtain ⟨p, vs, rfl, n, hp, r⟩ := rx.tuple
    exact ⟨p, vs, rfl, .inr ⟨.inl (.inl hp), k _ H (Ext.refl H) A.j (.tup n hp r)⟩⟩
theorem RepL.ints {vs : List V} : ∀ {ns : List Int}, RepL M H vs (ns.map .int) → vs = ns.map V.int := by
  induction vs with
  | nil => intro ns r; cases ns with | nil => rfl | cons _ _ => cases r
  | cons v vs ih =>
    intro ns r
    cases ns with
    | nil => cases r
    | cons n ns =>
      cases r with
      | cons a b => rw [List.map_cons, ← ih b, a.int_of]
theorem RepL.bls {vs : List V} : ∀ {ns : List Bool}, RepL M H vs (ns.map .bool) → vs = ns.map V.bl := by
  induction vs with
  | nil => intro ns r; cases ns with | nil => rfl | cons _ _ => cases r
  | cons v vs ih =>
    intro ns r
    cases ns with
    | nil => cases r
    | cons n ns =>
      cases r with
      | cons a b => rw [List.map_cons, ← ih b, a.bl_of]
theorem ex_sum {K : PySem.W.Frag} {ns : List Int} (ha : EW C ta ρ (.list (ns.map .int))) : EX C (tCB (rSum K) (tCons ta tNil)) ρ (.int ns.sum) :=
  ew_cb ha fun M σ H x Q A rx k => by
    obtain ⟨p, vs, rfl, hp, r⟩ := rx.list
    rw [r.ints] at hp
    exact ⟨p, ns, rfl, .inl (.inl hp), k _ H (Ext.refl H) A.j (.int _)⟩
theorem ex_all {K : PySem.W.Frag} {bs : List Bool} (ha : EW C ta ρ (.list (bs.map .bool))) : EX C (tCB (rAll K) (tCons ta tNil)) ρ (.bool (bs.all id)) :=
  ew_cb ha fun M σ H x Q A rx k => by
    obtain ⟨p, vs, rfl, hp, r⟩ := rx.list
    rw [r.bls] at hp
    exact ⟨p, bs, rfl, .inl (.inl hp), k _ H (Ext.refl H) A.j (.bl _)⟩
theorem ex_any {K : PySem.W.Frag} {bs : List Bool} (ha : EW C ta ρ (.list (bs.map .bool))) : EX C (tCB (rAny K) (tCons ta tNil)) ρ (.bool (bs.any id)) :=
  ew_cb ha fun M σ H x Q A rx k => by
    obtain ⟨p, vs, rfl, hp, r⟩ := rx.list
    rw [r.bls] at hp
    exact ⟨p, bs, rfl, .inl (.inl hp), k _ H (Ext.refl H) A.j (.bl _)⟩
end
end Ka

namespace Ka
open PySem L2

/-! ### statements -/
structure Out where
  nx : List Sl → Prop
  rt : PyData → Prop
  bk : List Sl → Prop := fun _ => False
  ct : List Sl → Prop := fun _ => False
structure Ret (C : Cxt) (v : V) (d : PyData) (H : Hp) : Prop where
  rep : Rep C.M0 H v d
  frame : ∀ a o, C.H0 a = some o → ¬ C.S a → H a = some o
  j : C.J H
def SX (C : Cxt) (t : TS) (ρ : List Sl) (P : Out) : Prop := ∀ (M : MSet) (σ : L2.St) (H : Hp) (D : Ends), At C M ρ σ H →
  (∀ M' ρ' σ' H', P.nx ρ' → At C M' ρ' σ' H' → Step M H M' H' → D.nx σ' H') → (∀ v H' d, P.rt d → Ret C v d H' → D.rt v H') →
  (∀ M' ρ' σ' H', P.bk ρ' → At C M' ρ' σ' H' → Step M H M' H' → D.bk σ' H') → (∀ M' ρ' σ' H', P.ct ρ' → At C M' ρ' σ' H' → Step M H M' H' → D.ct σ' H') → t D σ H
def GX (C : Cxt) (g : TG) (vs : List Nat) (d : PyData) (ρ ρ2 : List Sl) : Prop := ∀ (M : MSet) (σ : L2.St) (H : Hp) (v : V) (Q : L2.St → Hp → Prop), At C M ρ σ H → Rep M H v d → (∀ σ', At C M ρ2 σ' H → wipe σ' vs = wipe σ vs → Q σ' H) → g v σ H Q
def GXs (C : Cxt) (g : TGs) (vs : List Nat) (ds : List PyData) (ρ ρ2 : List Sl) : Prop := ∀ (M : MSet) (σ : L2.St) (H : Hp) (xs : List V) (Q : L2.St → Hp → Prop), At C M ρ σ H → RepL M H xs ds → (∀ σ', At C M ρ2 σ' H → wipe σ' vs = wipe σ vs → Q σ' H) → g xs σ H Q
/-- a new list -/
abbrev Mp (M : MSet) (p : Addr) : MSet := fun a => M a ∨ a = p
def EN (C : Cxt) (te : TE) (ρ : List Sl) (ds : List PyData) : Prop := ∀ (M : MSet) (σ : L2.St) (H : Hp) (Q : VK), At C M ρ σ H → (∀ p vs H', Ext C H H' → C.J H' → H p = none → H' p = some (.lst vs) → RepL (Mp M p) H' vs ds → Q (.ref p) H') → te σ H Q
section
variable {C : Cxt} {M M' : MSet} {ρ ρ' : List Sl} {σ : L2.St} {H H' : Hp} {ta tb te tc : TE} {d e f : PyData} {v : V} {P : Out} {t u : TS}
theorem Step.mp {p : Addr} (h : H p = none) (e : Ext C H H') (A : At C M ρ σ H) : Step M H (Mp M p) H' := ⟨fun a o q n => e a o q fun z => n (A.ms z), fun a m => by
  rcases m with m | m
  · exact .inl m
  · exact .inr (m ▸ h)⟩
theorem EN.x {ds : List PyData} (h : EN C te ρ ds) : EX C te ρ (.list ds) := fun M σ H Q A k => h M σ H Q A fun p vs H' e j hp hl r =>
  k _ H' e j (.lst (A.nM hp) hl (r.step (Step.anti fun a m => .inl m)))
theorem en_new {Q : VK} {xs : List V} {ds : List PyData} (A : At C M ρ σ H) (e : Ext C H H') (j : C.J H') (r : RepL M H' xs ds) (k : ∀ p vs H2, Ext C H H2 → C.J H2 → H p = none → H2 p = some (.lst vs) → RepL (Mp M p) H2 vs ds → Q (.ref p) H2) : ∀ p, H' p = none → Q (.ref p) (upd H' p (.lst xs)) := fun p hp => by
  have A' := A.ext e j
  have hp0 : H p = none := by
    cases q : H p with
    | none => rfl
    | some o =>
      by_cases hs : C.S p
      · exact absurd hp (C.jdom H' j p hs)
      · rw [e p o q hs] at hp; cases hp
  exact k p xs _ (e.trans (Ext.upd hp)) (jupd j hp) hp0 upd_same (r.step (Step.mp hp (Ext.upd (C := C) hp) A'))
theorem en_lst {t : TA} {ds : List PyData} (h : EA C t ρ ds) (hz : ds.length ≤ 16777216) : EN C (tLst t) ρ ds := fun M σ H Q A k =>
  h M σ H _ A fun vs H1 e j r => ⟨by rw [r.length, sizeLine_eq]; exact hz, en_new A e j r k⟩
theorem en_listL {K : PySem.W.Frag} {ds : List PyData} (ha : EW C ta ρ (.list ds)) : EN C (tCB (rListOf K) (tCons ta tNil)) ρ ds := fun M σ H Q A k =>
  ha M σ H _ A fun x H1 e j rx => by
    obtain ⟨p, vs, rfl, hp, r⟩ := rx.list
    exact ⟨p, vs, rfl, .inl (.inl (.inl hp)), en_new A e j r k⟩
theorem en_listT {K : PySem.W.Frag} {ds : List PyData} (ha : EX C ta ρ (.tuple ds)) : EN C (tCB (rListOf K) (tCons ta tNil)) ρ ds := fun M σ H Q A k =>
  ha M σ H _ A fun x H1 e j rx => by
    obtain ⟨p, vs, rfl, n, hp, r⟩ := rx.tuple
    exact ⟨p, vs, rfl, .inr (.inl (.inl hp)), en_new A e j r k⟩

/-! the slots -/
theorem getElem?_set_cases {α : Type} {l : List α} {i j : Nat} {x y : α} (h : (l.set i x)[j]? = some y) : (i = j ∧ y = x ∧ i < l.length) ∨ (i ≠ j ∧ l[j]? = some y) := by
  by_cases e : i = j
  · subst e
    by_cases hl : i < l.length
    · rw [List.getElem?_set_self hl] at h
      exact .inl ⟨rfl, (Option.some.inj h).symm, hl⟩
    · rw [List.getElem?_eq_none (by rw [List.length_set]; omega)] at h
      cases h
  · rw [List.getElem?_set_ne e] at h
    exact .inr ⟨e, h⟩
theorem At.set (A : At C M ρ σ H) {i : Nat} {s : Sl} {o : Option V} (hs : SlotOk M C.M0 H s o) (hn : s.isOwn = false) : At C M (ρ.set i s) (σ.set i o) H where
  len := by rw [List.length_set, List.length_set, A.len]
  slots := fun j t h => by
    rcases getElem?_set_cases h with ⟨rfl, rfl, hl⟩ | ⟨ne, h⟩
    · exact ⟨o, List.getElem?_set_self (by rw [A.len]; exact hl), hs⟩
    · obtain ⟨o', h1, h2⟩ := A.slots j t h
      exact ⟨o', by rw [List.getElem?_set_ne ne]; exact h1, h2⟩
  uniq := fun a b s1 s2 p h1 h2 o1 o2 e1 e2 => by
    rcases getElem?_set_cases h1 with ⟨rfl, rfl, _⟩ | ⟨n1, h1⟩
    · rw [hn] at o1; cases o1
    · rcases getElem?_set_cases h2 with ⟨rfl, rfl, _⟩ | ⟨n2, h2⟩
      · rw [hn] at o2; cases o2
      · rw [List.getElem?_set_ne n1] at e1
        rw [List.getElem?_set_ne n2] at e2
        exact A.uniq a b s1 s2 p h1 h2 o1 o2 e1 e2
  sub := A.sub
  new := A.new
  dom := A.dom
  frame := A.frame
  j := A.j
/-- a new object of one's own comes into slot i -/
theorem At.own (A : At C M ρ σ H) {i : Nat} {s : Sl} {p : Addr} (e : Ext C H H') (j : C.J H') (hp : H p = none) (hq : H' p ≠ none) (hs : SlotOk (Mp M p) C.M0 H' s (some (.ref p))) : At C (Mp M p) (ρ.set i s) (σ.set i (some (.ref p))) H' := by
  have st : Step M H (Mp M p) H' := Step.mp hp e A
  have A' := A.ext e j
  have old : ∀ {t : Sl} {o : Option V}, SlotOk M C.M0 H t o → SlotOk (Mp M p) C.M0 H' t o := fun {t o} h => by
    cases t with
    | un => trivial
    | val w => exact h
    | dat d => obtain ⟨v, h1, h2⟩ := h; exact ⟨v, h1, h2.step st⟩
    | own ds => obtain ⟨q, vs, h1, h2, h3, h4, h5⟩ := h; exact ⟨q, vs, h1, .inl h2, h3, e q _ h4 fun z => h3 (C.sm q z), h5.step st⟩
    | ownT ds => obtain ⟨q, vs, h1, h2, h3, h4, h5, h6⟩ := h; exact ⟨q, vs, h1, .inl h2, h3, e q _ h4 fun z => h3 (C.sm q z), h5, h6.step st⟩
    | ownK ds => obtain ⟨q, vs, h1, h2, h3, h4, h5, h6⟩ := h; exact ⟨q, vs, h1, .inl h2, h3, e q _ h4 fun z => h3 (C.sm q z), h5, h6.step st⟩
  have mine : ∀ {k : Nat} {t : Sl}, ρ[k]? = some t → t.isOwn = true → σ[k]? ≠ some (some (.ref p)) := fun {k t} h1 o1 h2 => by
    obtain ⟨o, h3, h4⟩ := A.slots k t h1
    rw [h2] at h3
    cases h3
    cases t with
    | un => cases o1
    | val w => cases o1
    | dat d => cases o1
    | own ds => obtain ⟨q, vs, h1, h2, h3, h4, h5⟩ := h4; cases h1; rw [hp] at h4; cases h4
    | ownT ds => obtain ⟨q, vs, h1, h2, h3, h4, h5, h6⟩ := h4; cases h1; rw [hp] at h4; cases h4
    | ownK ds => obtain ⟨q, vs, h1, h2, h3, h4, h5, h6⟩ := h4; cases h1; rw [hp] at h4; cases h4
  refine ⟨by rw [List.length_set, List.length_set, A.len], fun k t h => ?_, fun a b s1 s2 q h1 h2 o1 o2 e1 e2 => ?_, fun a h => .inl (A.sub a h), fun a h => ?_, fun a h => ?_, A'.frame, j⟩
  · rcases getElem?_set_cases h with ⟨rfl, rfl, hl⟩ | ⟨ne, h⟩
    · exact ⟨_, List.getElem?_set_self (by rw [A.len]; exact hl), hs⟩
    · obtain ⟨o', h1, h2⟩ := A.slots k t h
      exact ⟨o', by rw [List.getElem?_set_ne ne]; exact h1, old h2⟩
  · rcases getElem?_set_cases h1 with ⟨rfl, rfl, hl⟩ | ⟨n1, g1⟩
    · rcases getElem?_set_cases h2 with ⟨rfl, rfl, _⟩ | ⟨n2, g2⟩
      · rfl
      · rw [List.getElem?_set_self (by rw [A.len]; exact hl)] at e1
        cases e1
        rw [List.getElem?_set_ne n2] at e2
        exact absurd e2 (mine g2 o2)
    · rcases getElem?_set_cases h2 with ⟨rfl, rfl, hl⟩ | ⟨n2, g2⟩
      · rw [List.getElem?_set_self (by rw [A.len]; exact hl)] at e2
        cases e2
        rw [List.getElem?_set_ne n1] at e1
        exact absurd e1 (mine g1 o1)
      · rw [List.getElem?_set_ne n1] at e1
        rw [List.getElem?_set_ne n2] at e2
        exact A.uniq a b s1 s2 q g1 g2 o1 o2 e1 e2
  · rcases h with h | h
    · exact A.new a h
    · subst h
      right
      cases q : C.H0 a with
      | none => rfl
      | some o =>
        by_cases hs : C.S a
        · exact absurd hp (A.dom a (A.ms hs))
        · rw [A.frame a o q hs] at hp; cases hp
  · rcases h with h | h
    · exact A'.dom a h
    · subst h; exact hq
/-- one's own object is changed -/
theorem At.write (A : At C M ρ σ H) {i : Nat} {s s' : Sl} {p : Addr} {o' : HO} (hi : ρ[i]? = some s) (ho : s.isOwn = true) (hσ : σ[i]? = some (some (.ref p))) (hM : M p) (h0 : ¬ C.M0 p) (hs : SlotOk M C.M0 (upd H p o') s' (some (.ref p))) (ho' : s'.isOwn = true) :
    At C M (ρ.set i s') σ (upd H p o') ∧ Step M H M (upd H p o') := by
  have st : Step M H M (upd H p o') := ⟨fun a o q n => by rw [upd_ne (show a ≠ p from fun z => n (z.symm ▸ hM))]; exact q, fun a m => .inl m⟩
  have hS : ¬ C.S p := fun z => h0 (C.sm p z)
  have hil : i < ρ.length := (List.getElem?_eq_some_iff.mp hi).1
  have old : ∀ {k : Nat} {t : Sl} {o : Option V}, k ≠ i → ρ[k]? = some t → σ[k]? = some o → SlotOk M C.M0 H t o → SlotOk M C.M0 (upd H p o') t o := fun {k t o} nk hk hv h => by
    have nq : ∀ q, t.isOwn = true → o = some (.ref q) → q ≠ p := fun q ot eo z => by
      subst z
      subst eo
      exact nk (A.uniq k i t s q hk hi ot ho hv hσ)
    cases t with
    | un => trivial
    | val w => exact h
    | dat d => obtain ⟨v, h1, h2⟩ := h; exact ⟨v, h1, h2.step st⟩
    | own ds => obtain ⟨q, vs, h1, h2, h3, h4, h5⟩ := h; exact ⟨q, vs, h1, h2, h3, by rw [upd_ne (nq q rfl h1)]; exact h4, h5.step st⟩
    | ownT ds => obtain ⟨q, vs, h1, h2, h3, h4, h5, h6⟩ := h; exact ⟨q, vs, h1, h2, h3, by rw [upd_ne (nq q rfl h1)]; exact h4, h5, h6.step st⟩
    | ownK ds => obtain ⟨q, vs, h1, h2, h3, h4, h5, h6⟩ := h; exact ⟨q, vs, h1, h2, h3, by rw [upd_ne (nq q rfl h1)]; exact h4, h5, h6.step st⟩
  refine ⟨⟨by rw [List.length_set, A.len], fun k t h => ?_, fun a b s1 s2 q h1 h2 o1 o2 e1 e2 => ?_, A.sub, A.new, fun a h => ?_, fun a o h n => ?_, ?_⟩, st⟩
  · rcases getElem?_set_cases h with ⟨rfl, rfl, hl⟩ | ⟨ne, h⟩
    · exact ⟨_, hσ, hs⟩
    · obtain ⟨o, h1, h2⟩ := A.slots k t h
      exact ⟨o, h1, old ne.symm h h1 h2⟩
  · have own_at : ∀ {k : Nat} {t : Sl}, (ρ.set i s')[k]? = some t → t.isOwn = true → ∃ t', ρ[k]? = some t' ∧ t'.isOwn = true := fun {k t} h ot => by
      rcases getElem?_set_cases h with ⟨rfl, rfl, hl⟩ | ⟨ne, h⟩
      · exact ⟨s, hi, ho⟩
      · exact ⟨t, h, ot⟩
    obtain ⟨t1, g1, u1⟩ := own_at h1 o1
    obtain ⟨t2, g2, u2⟩ := own_at h2 o2
    exact A.uniq a b t1 t2 q g1 g2 u1 u2 e1 e2
  · by_cases e : a = p
    · rw [e, upd_same]; exact fun z => nomatch z
    · rw [upd_ne e]; exact A.dom a h
  · have ne : a ≠ p := fun z => by
      subst z
      rcases A.new a hM with q | q
      · exact h0 q
      · rw [q] at h; cases h
    rw [upd_ne ne]
    exact A.frame a o h n
  · exact C.jst H _ A.j fun a o q n => by rw [upd_ne (show a ≠ p from fun z => hS (z ▸ n))]; exact q
/-- less is known -/
def Sl.le : Sl → Sl → Prop
  | .un, _ => True
  | a, b => a = b
theorem At.forget (A : At C M ρ σ H) (hl : ρ'.length = ρ.length) (h : ∀ (i : Nat) s, ρ'[i]? = some s → s = .un ∨ ρ[i]? = some s) : At C M ρ' σ H where
  len := by rw [hl, A.len]
  slots := fun i s e => by
    rcases h i s e with q | q
    · subst q
      have hi : i < σ.length := by rw [A.len, ← hl]; exact (List.getElem?_eq_some_iff.mp e).1
      exact ⟨σ[i], List.getElem?_eq_getElem hi, trivial⟩
    · exact A.slots i s q
  uniq := fun a b s1 s2 p h1 h2 o1 o2 e1 e2 => by
    rcases h a s1 h1 with q | q
    · subst q; cases o1
    · rcases h b s2 h2 with r | r
      · subst r; cases o2
      · exact A.uniq a b s1 s2 p q r o1 o2 e1 e2
  sub := A.sub
  new := A.new
  dom := A.dom
  frame := A.frame
  j := A.j
theorem At.un (A : At C M ρ σ H) (i : Nat) : At C M (ρ.set i .un) σ H := A.forget (by rw [List.length_set]) fun k s h => by
  rcases getElem?_set_cases h with ⟨rfl, rfl, hl⟩ | ⟨ne, h⟩
  · exact .inl rfl
  · exact .inr h
/-- what is one's own is not to be changed any more -/
theorem At.freeze (A : At C M ρ σ H) {i : Nat} {ds : List PyData} (hi : ρ[i]? = some (.own ds)) : ∃ M', At C M' (ρ.set i (.dat (.list ds))) σ H ∧ Step M H M' H := by
  obtain ⟨o, h1, p, vs, rfl, h2, h3, h4, h5⟩ := A.slots i _ hi
  have hil : i < ρ.length := (List.getElem?_eq_some_iff.mp hi).1
  have st : Step M H (fun a => M a ∧ a ≠ p) H := Step.anti fun a m => m.1
  refine ⟨fun a => M a ∧ a ≠ p, ⟨by rw [List.length_set, A.len], fun k t h => ?_, fun a b s1 s2 q g1 g2 o1 o2 e1 e2 => ?_, fun a m => ⟨A.sub a m, fun z => h3 (z ▸ m)⟩, fun a m => A.new a m.1, fun a m => A.dom a m.1, A.frame, A.j⟩, st⟩
  · rcases getElem?_set_cases h with ⟨rfl, rfl, hl⟩ | ⟨ne, h⟩
    · exact ⟨_, h1, .ref p, rfl, .lst (fun z => z.2 rfl) h4 (h5.step st)⟩
    · obtain ⟨o, g1, g2⟩ := A.slots k t h
      refine ⟨o, g1, ?_⟩
      have nq : ∀ q, t.isOwn = true → o = some (.ref q) → q ≠ p := fun q ot eo z => by
        subst z
        subst eo
        exact ne (A.uniq i k _ t q hi h rfl ot h1 g1)
      cases t with
      | un => trivial
      | val w => exact g2
      | dat d => obtain ⟨v, h1, h2⟩ := g2; exact ⟨v, h1, h2.step st⟩
      | own ds => obtain ⟨q, vs, h1, h2, h3, h4, h5⟩ := g2; exact ⟨q, vs, h1, ⟨h2, nq q rfl h1⟩, h3, h4, h5.step st⟩
      | ownT ds => obtain ⟨q, vs, h1, h2, h3, h4, h5, h6⟩ := g2; exact ⟨q, vs, h1, ⟨h2, nq q rfl h1⟩, h3, h4, h5, h6.step st⟩
      | ownK ds => obtain ⟨q, vs, h1, h2, h3, h4, h5, h6⟩ := g2; exact ⟨q, vs, h1, ⟨h2, nq q rfl h1⟩, h3, h4, h5, h6.step st⟩
  · rcases getElem?_set_cases g1 with ⟨rfl, rfl, _⟩ | ⟨n1, g1⟩
    · cases o1
    · rcases getElem?_set_cases g2 with ⟨rfl, rfl, _⟩ | ⟨n2, g2⟩
      · cases o2
      · exact A.uniq a b s1 s2 q g1 g2 o1 o2 e1 e2

/-! targets -/
theorem wipe_set {σ : L2.St} {i : Nat} {x : Option V} : ∀ {vs : List Nat}, i ∈ vs → wipe (σ.set i x) vs = wipe σ vs
  | [], h => by cases h
  | v :: vs, h => by
    unfold wipe
    by_cases e : i ∈ vs
    · rw [wipe_set e]
    · have ev : v = i := by
        rcases List.mem_cons.mp h with q | q
        · exact q.symm
        · exact absurd q e
      subst ev
      have out : ∀ (ws : List Nat) (τ : L2.St), v ∉ ws → wipe (τ.set v x) ws = (wipe τ ws).set v x := by
        intro ws τ hw
        induction ws with
        | nil => rfl
        | cons w ws ih =>
          unfold wipe
          rw [ih fun z => hw (List.mem_cons_of_mem _ z), List.set_comm]
          intro z
          exact hw (z ▸ List.mem_cons_self)
      rw [out vs σ e, List.set_set]
theorem gx_name {i : Nat} {vs : List Nat} (hi : i ∈ vs) : GX C (gName i) vs d ρ (ρ.set i (.dat d)) := fun M σ H v Q A r k =>
  k _ (A.set (s := .dat d) ⟨v, rfl, r⟩ rfl) (wipe_set hi)
theorem gxs_nil {vs : List Nat} : GXs C gNil vs [] ρ ρ := fun M σ H xs Q A r k => by
  cases r
  exact ⟨rfl, k σ A rfl⟩
theorem gxs_cons {vs : List Nat} {g : TG} {gs : TGs} {ds : List PyData} {ρ1 ρ2 : List Sl} (h1 : GX C g vs d ρ ρ1) (h2 : GXs C gs vs ds ρ1 ρ2) : GXs C (gCons g gs) vs (d :: ds) ρ ρ2 := fun M σ H xs Q A r k => by
  cases r with
  | cons a b => exact ⟨_, _, rfl, h1 M σ H _ _ A a fun σ1 A1 e1 => h2 M σ1 H _ _ A1 b fun σ2 A2 e2 => k σ2 A2 (e2.trans e1)⟩
theorem gx_tup {K : PySem.W.Frag} {n : Nat} {vs : List Nat} {gs : TGs} {ds : List PyData} {ρ2 : List Sl} (hn : ds.length = n) (h : GXs C gs vs ds ρ ρ2) : GX C (gTup K n gs) vs (.tuple ds) ρ ρ2 := fun M σ H v Q A r k => by
  obtain ⟨p, xs, rfl, _, hp, r⟩ := r.tuple
  exact ⟨p, xs, rfl, .inl (.inl hp), by rw [r.length]; exact hn, h M σ H xs _ A r k⟩

/-! rules -/
theorem SX.mono {P' : Out} (h : SX C t ρ P) (h1 : ∀ ρ', P.nx ρ' → P'.nx ρ') (h2 : ∀ d, P.rt d → P'.rt d) (h3 : ∀ ρ', P.bk ρ' → P'.bk ρ') (h4 : ∀ ρ', P.ct ρ' → P'.ct ρ') : SX C t ρ P' := fun M σ H D A k1 k2 k3 k4 =>
  h M σ H D A (fun M' ρ' σ' H' q => k1 M' ρ' σ' H' (h1 ρ' q)) (fun v H' d q => k2 v H' d (h2 d q)) (fun M' ρ' σ' H' q => k3 M' ρ' σ' H' (h3 ρ' q)) (fun M' ρ' σ' H' q => k4 M' ρ' σ' H' (h4 ρ' q))
theorem SX.nx {N : List Sl → Prop} (h : SX C t ρ { P with nx := N }) (h1 : ∀ ρ', N ρ' → P.nx ρ') : SX C t ρ P := h.mono h1 (fun _ q => q) (fun _ q => q) fun _ q => q
theorem sx_forget (ρ' : List Sl) (hl : ρ'.length = ρ.length) (h : ∀ (i : Nat) s, ρ'[i]? = some s → s = .un ∨ ρ[i]? = some s) (k : SX C t ρ' P) : SX C t ρ P := fun M σ H D A => k M σ H D (A.forget hl h)
theorem sx_un (i : Nat) (k : SX C t (ρ.set i .un) P) : SX C t ρ P := fun M σ H D A => k M σ H D (A.un i)
theorem sx_freeze {i : Nat} {ds : List PyData} (hi : ρ[i]? = some (.own ds)) (k : SX C t (ρ.set i (.dat (.list ds))) P) : SX C t ρ P := fun M σ H D A k1 k2 k3 k4 => by
  obtain ⟨M', A', st⟩ := A.freeze hi
  exact k M' σ H D A' (fun M'' ρ' σ' H' q B s => k1 M'' ρ' σ' H' q B (st.trans s)) k2 (fun M'' ρ' σ' H' q B s => k3 M'' ρ' σ' H' q B (st.trans s)) (fun M'' ρ' σ' H' q B s => k4 M'' ρ' σ' H' q B (st.trans s))
theorem sx_nil (h : P.nx ρ) : SX C tNext ρ P := fun M σ H D A k1 k2 k3 k4 => k1 M ρ σ H h A (Step.refl M H)
theorem sx_seqN (N : List Sl → Prop) (h1 : SX C t ρ { P with nx := N }) (h2 : ∀ ρ', N ρ' → SX C u ρ' P) : SX C (tSeq t u) ρ P := fun M σ H D A k1 k2 k3 k4 =>
  h1 M σ H { D with nx := u D } A (fun M' ρ' σ' H' q B s => h2 ρ' q M' σ' H' D B (fun M'' ρ'' σ'' H'' q B' s' => k1 M'' ρ'' σ'' H'' q B' (s.trans s')) k2 (fun M'' ρ'' σ'' H'' q B' s' => k3 M'' ρ'' σ'' H'' q B' (s.trans s'))
    (fun M'' ρ'' σ'' H'' q B' s' => k4 M'' ρ'' σ'' H'' q B' (s.trans s'))) k2 k3 k4
theorem sx_seq (ρ1 : List Sl) (h1 : SX C t ρ { P with nx := fun ρ' => ρ' = ρ1 }) (h2 : SX C u ρ1 P) : SX C (tSeq t u) ρ P := sx_seqN _ h1 fun _ e => e ▸ h2
theorem sx_break (h : P.bk ρ) : SX C tBreak ρ P := fun M σ H D A k1 k2 k3 k4 => k3 M ρ σ H h A (Step.refl M H)
theorem sx_cont (h : P.ct ρ) : SX C tCont ρ P := fun M σ H D A k1 k2 k3 k4 => k4 M ρ σ H h A (Step.refl M H)
theorem At.stepE (A : At C M ρ σ H) (e : Ext C H H') : Step M H M H' := A.step e
theorem sx_asg {g : TG} {vs : List Nat} {ρ2 : List Sl} (he : EX C te ρ d) (hg : GX C g vs d ρ ρ2) (h : P.nx ρ2) : SX C (tAsg te g) ρ P := fun M σ H D A k1 k2 k3 k4 =>
  he M σ H _ A fun v H1 e j r => hg M σ H1 v _ (A.ext e j) r fun σ' B _ => k1 M ρ2 σ' H1 h B (A.step e)
/-- the value unknown but for S -/
theorem sx_asgS {S : PyData → Prop} {i : Nat} (he : ES C te ρ S) (h : ∀ d, S d → P.nx (ρ.set i (.dat d))) : SX C (tAsg te (gName i)) ρ P := fun M σ H D A k1 k2 k3 k4 =>
  he M σ H _ A fun v H1 e j ⟨d, s, r⟩ => k1 M _ _ H1 (h d s) ((A.ext e j).set (s := .dat d) ⟨v, rfl, r⟩ rfl) (A.step e)
theorem sx_own {i : Nat} {ds : List PyData} (he : EN C te ρ ds) (h : P.nx (ρ.set i (.own ds))) : SX C (tAsg te (gName i)) ρ P := fun M σ H D A k1 k2 k3 k4 =>
  he M σ H _ A fun p vs H1 e j hp hl r => k1 (Mp M p) _ _ H1 h (A.own e j hp (by rw [hl]; exact fun z => nomatch z) ⟨p, vs, rfl, .inr rfl, fun z => A.nM hp (A.sub p z), hl, r⟩) (Step.mp hp e A)
theorem sx_ownT {i : Nat} (h : P.nx (ρ.set i (.ownT []))) : SX C (tAsg tDNewT (gName i)) ρ P := fun M σ H D A k1 k2 k3 k4 => fun p hp =>
  k1 (Mp M p) _ _ _ h (A.own (Ext.upd hp) (A.jupd hp) hp (by rw [upd_same]; exact fun z => nomatch z) ⟨p, [], rfl, .inr rfl, fun z => A.nM hp (A.sub p z), upd_same, rfl, .nil⟩) (Step.mp hp (Ext.upd (C := C) hp) A)
theorem sx_ownK {i : Nat} (h : P.nx (ρ.set i (.ownK []))) : SX C (tAsg tDNewK (gName i)) ρ P := fun M σ H D A k1 k2 k3 k4 => fun p hp =>
  k1 (Mp M p) _ _ _ h (A.own (Ext.upd hp) (A.jupd hp) hp (by rw [upd_same]; exact fun z => nomatch z) ⟨p, [], rfl, .inr rfl, fun z => A.nM hp (A.sub p z), upd_same, rfl, .nil⟩) (Step.mp hp (Ext.upd (C := C) hp) A)
theorem sx_expr (he : EX C te ρ d) (h : P.nx ρ) : SX C (tDrop te) ρ P := fun M σ H D A k1 k2 k3 k4 => he M σ H _ A fun v H1 e j r => k1 M ρ σ H1 h (A.ext e j) (A.step e)
theorem At.ret (A : At C M ρ σ H) (r : RepW C M H v d) : Ret C v d H := by
  refine ⟨?_, A.frame, A.j⟩
  rcases r with r | ⟨p, vs, ds, rfl, rfl, h3, h4, h5, h6⟩
  · exact r.step (Step.anti A.sub)
  · exact .lst h4 h5 (h6.step (Step.anti A.sub))
theorem sx_ret (he : EW C te ρ d) (h : P.rt d) : SX C (tRet te) ρ P := fun M σ H D A k1 k2 k3 k4 => he M σ H _ A fun v H1 e j r => k2 v H1 d h ((A.ext e j).ret r)
theorem sx_retS {S : PyData → Prop} (he : ES C te ρ S) (h : ∀ d, S d → P.rt d) : SX C (tRet te) ρ P := fun M σ H D A k1 k2 k3 k4 => he M σ H _ A fun v H1 e j ⟨d, s, r⟩ => k2 v H1 d (h d s) ((A.ext e j).ret (.inl r))
theorem sx_retT {i : Nat} {kvs : List (List Key × PyData)} (hi : ρ[i]? = some (.ownT kvs)) (h : P.rt (.dict (kvs.map fun p => (keyT p.1, p.2)))) : SX C (tRet (tVar i)) ρ P := fun M σ H D A k1 k2 k3 k4 => by
  obtain ⟨o, h1, p, ks, rfl, h2, h3, h4, h5, h6⟩ := A.slots i _ hi
  exact ⟨.ref p, h1, k2 _ H _ h ⟨.dT h3 h4 h5 (h6.step (Step.anti A.sub)) rfl, A.frame, A.j⟩⟩
theorem sx_retK {i : Nat} {kvs : List (Key × PyData)} (hi : ρ[i]? = some (.ownK kvs)) (h : P.rt (.dict ((.none, .none) :: (kvs.map fun p => (keyD p.1, p.2))))) : SX C (tRet (tVar i)) ρ P := fun M σ H D A k1 k2 k3 k4 => by
  obtain ⟨o, h1, p, ks, rfl, h2, h3, h4, h5, h6⟩ := A.slots i _ hi
  exact ⟨.ref p, h1, k2 _ H _ h ⟨.dK h3 h4 h5 (h6.step (Step.anti A.sub)) rfl, A.frame, A.j⟩⟩
theorem sx_retN (h : P.rt .none) : SX C tRetN ρ P := fun M σ H D A k1 k2 k3 k4 => k2 .non H .none h (A.ret (.inl .non))
theorem sx_if {c : TT} {b : Bool} (hc : ET C c ρ b) (h1 : b = true → SX C t ρ P) (h2 : b = false → SX C u ρ P) : SX C (tIfS c t u) ρ P := fun M σ H D A k1 k2 k3 k4 => hc M σ H _ A fun H1 e j => by
  have go : ∀ {w : TS}, SX C w ρ P → w D σ H1 := fun {w} hw => hw M σ H1 D (A.ext e j) (fun M' ρ' σ' H' q B s => k1 M' ρ' σ' H' q B ((A.step e).trans s)) k2 (fun M' ρ' σ' H' q B s => k3 M' ρ' σ' H' q B ((A.step e).trans s)) (fun M' ρ' σ' H' q B s => k4 M' ρ' σ' H' q B ((A.step e).trans s))
  cases b with
  | true => exact go (h1 rfl)
  | false => exact go (h2 rfl)
theorem sx_aug {i : Nat} {g : Int → Int → Int} {a b : Int} (hi : ρ[i]? = some (.dat (.int a))) (he : EX C te ρ (.int b)) (h : P.nx (ρ.set i (.dat (.int (g a b))))) : SX C (tAug i te (ipI g)) ρ P := fun M σ H D A k1 k2 k3 k4 => by
  obtain ⟨o, h1, v, rfl, h2⟩ := A.slots i _ hi
  exact ⟨v, h1, he M σ H _ A fun y H1 e j r => ⟨a, b, h2.int_of, r.int_of, k1 M _ _ H1 h ((A.ext e j).set (s := .dat (.int (g a b))) ⟨_, rfl, .int _⟩ rfl) (A.step e)⟩⟩
theorem sx_par {i j : Nat} {d1 d2 : PyData} {ta : TA} (he : EA C ta ρ [d1, d2]) (h : P.nx ((ρ.set i (.dat d1)).set j (.dat d2))) : SX C (tPar i j ta) ρ P := fun M σ H D A k1 k2 k3 k4 =>
  he M σ H _ A fun vs H1 e j r => by
    cases r with
    | cons a b =>
      cases b with
      | cons b c =>
        cases c
        exact ⟨_, _, rfl, k1 M _ _ H1 h (((A.ext e j).set (s := .dat d1) ⟨_, rfl, a⟩ rfl).set (s := .dat d2) ⟨_, rfl, b⟩ rfl) (A.step e)⟩
/-- x.append(e) -/
theorem sx_app {K : PySem.W.Frag} {i : Nat} {ds : List PyData} (hi : ρ[i]? = some (.own ds)) (he : EX C te ρ d) (hz : ds.length < 16777216) (h : P.nx (ρ.set i (.own (ds ++ [d])))) : SX C (tDrop (tBM K "list" rAppend (tVar i) (tCons te tNil))) ρ P := fun M σ H D A k1 k2 k3 k4 => by
  obtain ⟨o, h1, p, vs, rfl, h2, h3, h4, h5⟩ := A.slots i _ hi
  refine ⟨.ref p, h1, .inl ⟨rfl, vs, .inl (.inl h4)⟩, he M σ H _ A fun v H1 e j r => ?_⟩
  have A' := A.ext e j
  have h4' : H1 p = some (.lst vs) := e p _ h4 fun z => h3 (C.sm p z)
  have h5' := h5.ext A e
  refine ⟨p, vs, v, rfl, rfl, h4', by rw [h5.length, sizeLine_eq]; exact hz, ?_⟩
  have st : Step M H1 M (upd H1 p (.lst (vs ++ [v]))) := ⟨fun a o q n => by rw [upd_ne (show a ≠ p from fun z => n (z.symm ▸ h2))]; exact q, fun a m => .inl m⟩
  obtain ⟨B, s⟩ := A'.write (s' := .own (ds ++ [d])) (o' := .lst (vs ++ [v])) hi rfl h1 h2 h3 ⟨p, _, rfl, h2, h3, upd_same, (h5'.append (.cons r .nil)).step st⟩ rfl
  exact k1 M _ σ _ h B ((A.step e).trans s)
end
end Ka

namespace Ka
open PySem L2

/-! ### dicts -/
def lookD {κ : Type} [DecidableEq κ] (kvs : List (κ × PyData)) (k : κ) : Option PyData := (kvs.find? fun kv => decide (kv.1 = k)).map (·.2)
def putD {κ : Type} [DecidableEq κ] : List (κ × PyData) → κ → PyData → List (κ × PyData)
  | [], k, v => [(k, v)]
  | p :: r, k, v => if p.1 = k then (k, v) :: r else p :: putD r k v
abbrev encT (kvs : List (List Key × PyData)) : PyData := .dict (kvs.map fun p => (keyT p.1, p.2))
abbrev encK (kvs : List (Key × PyData)) : PyData := .dict ((.none, .none) :: kvs.map fun p => (keyD p.1, p.2))
theorem keyD_inj : ∀ {a b : Key}, keyD a = keyD b → a = b
  | .inl _, .inl _, h => by injection h with h; rw [h]
  | .inr _, .inr _, h => by injection h with h; rw [h]
  | .inl _, .inr _, h => by cases h
  | .inr _, .inl _, h => by cases h
theorem keyDs_inj : ∀ {a b : List Key}, a.map keyD = b.map keyD → a = b
  | [], [], _ => rfl
  | [], _ :: _, h => by cases h
  | _ :: _, [], h => by cases h
  | x :: a, y :: b, h => by
    rw [List.map_cons, List.map_cons] at h
    injection h with h1 h2
    rw [keyD_inj h1, keyDs_inj h2]
theorem keyT_inj {a b : List Key} (h : keyT a = keyT b) : a = b := by
  injection h with h
  exact keyDs_inj h
theorem encT_inj : ∀ {a b : List (List Key × PyData)}, (a.map fun p => (keyT p.1, p.2)) = (b.map fun p => (keyT p.1, p.2)) → a = b
  | [], [], _ => rfl
  | [], _ :: _, h => by cases h
  | _ :: _, [], h => by cases h
  | (k, x) :: a, (l, y) :: b, h => by
    rw [List.map_cons, List.map_cons] at h
    injection h with h1 h2
    injection h1 with h3 h4
    have h3' : keyT k = keyT l := h3
    have h4' : x = y := h4
    rw [keyT_inj h3', h4', encT_inj h2]
theorem encK_inj : ∀ {a b : List (Key × PyData)}, (a.map fun p => (keyD p.1, p.2)) = (b.map fun p => (keyD p.1, p.2)) → a = b
  | [], [], _ => rfl
  | [], _ :: _, h => by cases h
  | _ :: _, [], h => by cases h
  | (k, x) :: a, (l, y) :: b, h => by
    rw [List.map_cons, List.map_cons] at h
    injection h with h1 h2
    injection h1 with h3 h4
    have h3' : keyD k = keyD l := h3
    have h4' : x = y := h4
    rw [keyD_inj h3', h4', encK_inj h2]
section
variable {M : MSet} {H : Hp} {κ : Type} [DecidableEq κ]
theorem look_some : ∀ {ks : List (κ × V)} {kvs : List (κ × PyData)} {k : κ} {d : PyData}, ks.map (·.1) = kvs.map (·.1) → RepL M H (ks.map (·.2)) (kvs.map (·.2)) → lookD kvs k = some d → ∃ v, valV ks k = some v ∧ Rep M H v d
  | [], [], k, d, _, _, h => by cases h
  | [], _ :: _, k, d, h, _, _ => by cases h
  | _ :: _, [], k, d, h, _, _ => by cases h
  | p :: ks, q :: kvs, k, d, h1, h2, h => by
    rw [List.map_cons, List.map_cons] at h1 h2
    injection h1 with e1 e2
    cases h2 with
    | cons r1 r2 =>
      unfold lookD at h
      rw [List.find?_cons] at h
      by_cases e : q.1 = k
      · rw [decide_eq_true e] at h
        injection h with h
        exact ⟨p.2, valV_pos (e1.trans e), h ▸ r1⟩
      · rw [decide_eq_false e] at h
        obtain ⟨v, g1, g2⟩ := look_some (k := k) e2 r2 h
        exact ⟨v, by rw [valV_neg (fun z => e (e1.symm.trans z))]; exact g1, g2⟩
theorem look_none : ∀ {ks : List (κ × V)} {kvs : List (κ × PyData)} {k : κ}, ks.map (·.1) = kvs.map (·.1) → lookD kvs k = none → valV ks k = none
  | [], [], k, _, _ => rfl
  | [], _ :: _, k, h, _ => by cases h
  | _ :: _, [], k, h, _ => by cases h
  | p :: ks, q :: kvs, k, h1, h => by
    rw [List.map_cons, List.map_cons] at h1
    injection h1 with e1 e2
    unfold lookD at h
    rw [List.find?_cons] at h
    by_cases e : q.1 = k
    · rw [decide_eq_true e] at h; cases h
    · rw [decide_eq_false e] at h
      rw [valV_neg (fun z => e (e1.symm.trans z))]
      exact look_none e2 h
theorem look_iso {ks : List (κ × V)} {kvs : List (κ × PyData)} {k : κ} (h1 : ks.map (·.1) = kvs.map (·.1)) (h2 : RepL M H (ks.map (·.2)) (kvs.map (·.2))) : (valV ks k).isSome = (lookD kvs k).isSome := by
  cases e : lookD kvs k with
  | none => rw [look_none h1 e]; rfl
  | some d =>
    obtain ⟨v, g, _⟩ := look_some h1 h2 e
    rw [g]; rfl
theorem putK_cons_pos {p : κ × V} {r : List (κ × V)} {k : κ} {v : V} (hn : ((p :: r).map (·.1)).Nodup) (e : p.1 = k) : putK (p :: r) k v = (k, v) :: r := by
  unfold putK
  rw [if_pos (by simp [e]), List.map_cons, if_pos e]
  have : r.map (fun kv => if kv.1 = k then (kv.1, v) else kv) = r := by
    rw [List.map_cons, List.nodup_cons] at hn
    conv => rhs; rw [← List.map_id r]
    refine List.map_congr_left fun x hx => ?_
    rw [if_neg]
    · rfl
    · intro z
      exact hn.1 (List.mem_map.mpr ⟨x, hx, z.trans e.symm⟩)
  rw [this, e]
theorem putK_cons_neg {p : κ × V} {r : List (κ × V)} {k : κ} {v : V} (e : ¬ p.1 = k) : putK (p :: r) k v = p :: putK r k v := by
  unfold putK
  by_cases h : (r.any fun kv => decide (kv.1 = k)) = true
  · rw [if_pos h, if_pos (by rw [List.any_cons, h, Bool.or_true]), List.map_cons, if_neg e]
  · rw [if_neg h, if_neg (by rw [List.any_cons, decide_eq_false e, Bool.false_or]; exact h), List.cons_append]
theorem putD_keys : ∀ {kvs : List (κ × PyData)} {k : κ} {d : PyData}, (putD kvs k d).map (·.1) = if k ∈ kvs.map (·.1) then kvs.map (·.1) else kvs.map (·.1) ++ [k]
  | [], k, d => by simp [putD]
  | p :: r, k, d => by
    unfold putD
    by_cases e : p.1 = k
    · simp [e]
    · rw [if_neg e, List.map_cons, putD_keys (kvs := r)]
      have e' : ¬ k = p.1 := fun z => e z.symm
      by_cases h : k ∈ r.map (·.1) <;> simp [h, e'] <;> simp_all
theorem nodup_putD {kvs : List (κ × PyData)} {k : κ} {d : PyData} (h : (kvs.map (·.1)).Nodup) : ((putD kvs k d).map (·.1)).Nodup := by
  rw [putD_keys]
  split
  · exact h
  · rename_i hn
    rw [List.nodup_append]
    exact ⟨h, by simp, fun a ha b hb => by rw [List.mem_singleton.mp hb]; exact fun z => hn (z ▸ ha)⟩
theorem put_rep : ∀ {ks : List (κ × V)} {kvs : List (κ × PyData)} {k : κ} {v : V} {d : PyData}, (kvs.map (·.1)).Nodup → ks.map (·.1) = kvs.map (·.1) → RepL M H (ks.map (·.2)) (kvs.map (·.2)) → Rep M H v d →
    (putK ks k v).map (·.1) = (putD kvs k d).map (·.1) ∧ RepL M H ((putK ks k v).map (·.2)) ((putD kvs k d).map (·.2))
  | [], [], k, v, d, _, _, _, r => ⟨rfl, .cons r .nil⟩
  | [], _ :: _, k, v, d, _, h, _, _ => by cases h
  | _ :: _, [], k, v, d, _, h, _, _ => by cases h
  | p :: ks, q :: kvs, k, v, d, hn, h1, h2, r => by
    have hn' := hn
    rw [List.map_cons, List.nodup_cons] at hn'
    have h1' := h1
    rw [List.map_cons, List.map_cons] at h1 h2
    injection h1 with e1 e2
    cases h2 with
    | cons r1 r2 =>
      unfold putD
      by_cases e : q.1 = k
      · rw [if_pos e, putK_cons_pos (by rw [h1']; exact hn) (e1.trans e)]
        exact ⟨by rw [List.map_cons, List.map_cons, e2], .cons r r2⟩
      · rw [if_neg e, putK_cons_neg (fun z => e (e1.symm.trans z))]
        obtain ⟨g1, g2⟩ := put_rep (k := k) hn'.2 e2 r2 r
        exact ⟨by rw [List.map_cons, List.map_cons, g1, e1], .cons r1 g2⟩
theorem putD_len {kvs : List (κ × PyData)} {k : κ} {d : PyData} : (putD kvs k d).length ≤ kvs.length + 1 := by
  induction kvs with
  | nil => exact Nat.le_refl _
  | cons p r ih =>
    unfold putD
    split
    · simp
    · simpa using ih
theorem lookD_put_same {kvs : List (κ × PyData)} {k : κ} {d : PyData} : lookD (putD kvs k d) k = some d := by
  induction kvs with
  | nil => simp [putD, lookD]
  | cons p r ih =>
    unfold putD
    split
    · simp [lookD]
    · rename_i e
      unfold lookD at ih ⊢
      rw [List.find?_cons, decide_eq_false e]
      exact ih
theorem lookD_put_ne {kvs : List (κ × PyData)} {k l : κ} {d : PyData} (h : l ≠ k) : lookD (putD kvs k d) l = lookD kvs l := by
  induction kvs with
  | nil => simp [putD, lookD, h.symm]
  | cons p r ih =>
    unfold putD
    split
    · rename_i e
      unfold lookD
      rw [List.find?_cons, List.find?_cons, decide_eq_false (fun z => h (z.symm)), decide_eq_false (fun z => h (z.symm.trans e))]
    · unfold lookD at ih ⊢
      rw [List.find?_cons, List.find?_cons]
      cases decide (p.1 = l)
      · exact ih
      · rfl
end
theorem keyV : ∀ {M : MSet} {H : Hp} {k : Key} {v : V}, Rep M H v (keyD k) → v = kV k
  | _, _, .inl _, _, .int _ => rfl
  | _, _, .inr _, _, .str _ => rfl
theorem keyVs {M : MSet} {H : Hp} : ∀ {k : List Key} {vs : List V}, RepL M H vs (k.map keyD) → vs = k.map kV
  | [], _, .nil => rfl
  | _ :: _, _, .cons a b => by rw [List.map_cons, ← keyVs b, keyV a]
def EDT (C : Cxt) (te : TE) (ρ : List Sl) (kvs : List (List Key × PyData)) : Prop := EP C te ρ fun M H v => ∃ p ks, v = .ref p ∧ ¬ C.S p ∧ H p = some (.dT ks) ∧ ks.map (·.1) = kvs.map (·.1) ∧ RepL M H (ks.map (·.2)) (kvs.map (·.2))
def EDK (C : Cxt) (te : TE) (ρ : List Sl) (kvs : List (Key × PyData)) : Prop := EP C te ρ fun M H v => ∃ p ks, v = .ref p ∧ ¬ C.S p ∧ H p = some (.dK ks) ∧ ks.map (·.1) = kvs.map (·.1) ∧ RepL M H (ks.map (·.2)) (kvs.map (·.2))
section
variable {C : Cxt} {M M' : MSet} {ρ ρ' : List Sl} {σ : L2.St} {H H' : Hp} {ta tb te tc td ty tv : TE} {d e f : PyData} {v : V} {P : Out} {t u : TS}
theorem edt_var {i : Nat} {kvs} (h : ρ[i]? = some (.ownT kvs)) : EDT C (tVar i) ρ kvs := fun M σ H Q A k => by
  obtain ⟨o, h1, p, ks, rfl, h2, h3, h4, h5, h6⟩ := A.slots i _ h
  exact ⟨.ref p, h1, k _ H (Ext.refl H) A.j ⟨p, ks, rfl, fun z => h3 (C.sm p z), h4, h5, h6⟩⟩
theorem edk_var {i : Nat} {kvs} (h : ρ[i]? = some (.ownK kvs)) : EDK C (tVar i) ρ kvs := fun M σ H Q A k => by
  obtain ⟨o, h1, p, ks, rfl, h2, h3, h4, h5, h6⟩ := A.slots i _ h
  exact ⟨.ref p, h1, k _ H (Ext.refl H) A.j ⟨p, ks, rfl, fun z => h3 (C.sm p z), h4, h5, h6⟩⟩
theorem EX.dt {kvs} (h : EX C te ρ (encT kvs)) : EDT C te ρ kvs := fun M σ H Q A k => h M σ H Q A fun v H' e j r => k v H' e j (by
  generalize q : encT kvs = z at r
  cases r <;> first | (cases q; done) | skip
  case dT a ks kvs' kv n h1 h2 h3 h4 =>
    injection q with q
    rw [h4] at q
    cases encT_inj q
    exact ⟨a, ks, rfl, fun z => n (A.ms z), h1, h2, h3⟩
  case dK a ks kvs' kv n h1 h2 h3 h4 =>
    injection q with q
    rw [h4] at q
    cases kvs with
    | nil => cases q
    | cons p r =>
      rw [List.map_cons] at q
      injection q with q1 q2
      injection q1 with q3 q4
      cases q3)
theorem EX.dk {kvs} (h : EX C te ρ (encK kvs)) : EDK C te ρ kvs := fun M σ H Q A k => h M σ H Q A fun v H' e j r => k v H' e j (by
  generalize q : encK kvs = z at r
  cases r <;> first | (cases q; done) | skip
  case dT a ks kvs' kv n h1 h2 h3 h4 =>
    injection q with q
    rw [h4] at q
    cases kvs' with
    | nil => cases q
    | cons p r =>
      rw [List.map_cons] at q
      injection q with q1 q2
      injection q1 with q3 q4
      cases q3
  case dK a ks kvs' kv n h1 h2 h3 h4 =>
    injection q with q
    rw [h4] at q
    injection q with q1 q2
    cases encK_inj q2
    exact ⟨a, ks, rfl, fun z => n (A.ms z), h1, h2, h3⟩)
theorem ex_dgetT {kvs} {k : List Key} (hd : EDT C td ρ kvs) (hy : EX C ty ρ (keyT k)) (hk : lookD kvs k = some d) : EX C (tDGet td ty) ρ d := fun M σ H Q A q =>
  hd M σ H _ A fun x H1 e1 j1 ⟨p, ks, ex, ns, h1, h2, h3⟩ => hy M σ H1 _ (A.ext e1 j1) fun y H2 e2 j2 r2 => by
    obtain ⟨b, vs, rfl, _, hb, rb⟩ := r2.tuple
    rw [keyVs rb] at hb
    obtain ⟨v, g1, g2⟩ := look_some h2 (h3.ext (A.ext e1 j1) e2) hk
    exact ⟨p, v, ex, by rw [← g1]; exact DGet.t (e2 p _ h1 ns) hb, q v H2 (e1.trans e2) j2 g2⟩
theorem ex_dgetK {kvs} {k : Key} (hd : EDK C td ρ kvs) (hy : EX C ty ρ (keyD k)) (hk : lookD kvs k = some d) : EX C (tDGet td ty) ρ d := fun M σ H Q A q =>
  hd M σ H _ A fun x H1 e1 j1 ⟨p, ks, ex, ns, h1, h2, h3⟩ => hy M σ H1 _ (A.ext e1 j1) fun y H2 e2 j2 r2 => by
    obtain ⟨v, g1, g2⟩ := look_some h2 (h3.ext (A.ext e1 j1) e2) hk
    exact ⟨p, v, ex, by rw [← g1, keyV r2]; exact DGet.k (e2 p _ h1 ns), q v H2 (e1.trans e2) j2 g2⟩
theorem ex_dinT {kvs} {k : List Key} (hy : EX C ty ρ (keyT k)) (hd : EDT C td ρ kvs) : EX C (tDIn ty td) ρ (.bool (lookD kvs k).isSome) := fun M σ H Q A q =>
  hy M σ H _ A fun y H1 e1 j1 r1 => hd M σ H1 _ (A.ext e1 j1) fun x H2 e2 j2 ⟨p, ks, ex, ns, h1, h2, h3⟩ => by
    obtain ⟨b, vs, rfl, _, hb, rb⟩ := (r1.ext (A.ext e1 j1) e2).tuple
    rw [keyVs rb] at hb
    exact ⟨p, _, ex, DGet.t h1 hb, by rw [look_iso h2 h3]; exact q _ H2 (e1.trans e2) j2 (.bl _)⟩
theorem ex_dnotinT {kvs} {k : List Key} (hy : EX C ty ρ (keyT k)) (hd : EDT C td ρ kvs) : EX C (tDNotIn ty td) ρ (.bool (!(lookD kvs k).isSome)) := fun M σ H Q A q =>
  hy M σ H _ A fun y H1 e1 j1 r1 => hd M σ H1 _ (A.ext e1 j1) fun x H2 e2 j2 ⟨p, ks, ex, ns, h1, h2, h3⟩ => by
    obtain ⟨b, vs, rfl, _, hb, rb⟩ := (r1.ext (A.ext e1 j1) e2).tuple
    rw [keyVs rb] at hb
    exact ⟨p, _, ex, DGet.t h1 hb, by rw [look_iso h2 h3]; exact q _ H2 (e1.trans e2) j2 (.bl _)⟩
theorem ex_dinK {kvs} {k : Key} (hy : EX C ty ρ (keyD k)) (hd : EDK C td ρ kvs) : EX C (tDIn ty td) ρ (.bool (lookD kvs k).isSome) := fun M σ H Q A q =>
  hy M σ H _ A fun y H1 e1 j1 r1 => hd M σ H1 _ (A.ext e1 j1) fun x H2 e2 j2 ⟨p, ks, ex, ns, h1, h2, h3⟩ => by
    have ey := keyV r1
    subst ey
    exact ⟨p, _, ex, DGet.k h1, by rw [look_iso h2 h3]; exact q _ H2 (e1.trans e2) j2 (.bl _)⟩
theorem ex_dnotinK {kvs} {k : Key} (hy : EX C ty ρ (keyD k)) (hd : EDK C td ρ kvs) : EX C (tDNotIn ty td) ρ (.bool (!(lookD kvs k).isSome)) := fun M σ H Q A q =>
  hy M σ H _ A fun y H1 e1 j1 r1 => hd M σ H1 _ (A.ext e1 j1) fun x H2 e2 j2 ⟨p, ks, ex, ns, h1, h2, h3⟩ => by
    have ey := keyV r1
    subst ey
    exact ⟨p, _, ex, DGet.k h1, by rw [look_iso h2 h3]; exact q _ H2 (e1.trans e2) j2 (.bl _)⟩
theorem sx_putT {i : Nat} {kvs} {k : List Key} (hi : ρ[i]? = some (.ownT kvs)) (hv : EX C tv ρ d) (hy : EX C ty ρ (keyT k)) (hn : (kvs.map (·.1)).Nodup) (hz : kvs.length < 16777216) (h : P.nx (ρ.set i (.ownT (putD kvs k d)))) : SX C (sDPut (tVar i) ty tv) ρ P := fun M σ H D A k1 k2 k3 k4 =>
  hv M σ H _ A fun v H1 e1 j1 r1 => by
    obtain ⟨o, h1, p, ks, rfl, h2, h3, h4, h5, h6⟩ := A.slots i _ hi
    have A1 := A.ext e1 j1
    refine ⟨.ref p, h1, hy M σ H1 _ A1 fun y H2 e2 j2 r2 => ?_⟩
    have A2 := A1.ext e2 j2
    have h4' : H2 p = some (.dT ks) := (e1.trans e2) p _ h4 fun z => h3 (C.sm p z)
    obtain ⟨b, vs, rfl, _, hb, rb⟩ := r2.tuple
    rw [keyVs rb] at hb
    have hl : ks.length = kvs.length := by have := congrArg List.length h5; simpa using this
    refine ⟨p, _, rfl, DPut.t h4' hb (by rw [hl, sizeLine_eq]; exact hz), ?_⟩
    have st : Step M H2 M (upd H2 p (.dT (putK ks k v))) := ⟨fun a o q n => by rw [upd_ne (show a ≠ p from fun z => n (z.symm ▸ h2))]; exact q, fun a m => .inl m⟩
    obtain ⟨g1, g2⟩ := put_rep (k := k) hn h5 (h6.ext A (e1.trans e2)) (r1.ext A1 e2)
    obtain ⟨B, s⟩ := A2.write (s' := .ownT (putD kvs k d)) (o' := .dT (putK ks k v)) hi rfl h1 h2 h3 ⟨p, _, rfl, h2, h3, upd_same, g1, g2.step st⟩ rfl
    exact k1 M _ σ _ h B ((A.step (e1.trans e2)).trans s)
theorem sx_putK {i : Nat} {kvs} {k : Key} (hi : ρ[i]? = some (.ownK kvs)) (hv : EX C tv ρ d) (hy : EX C ty ρ (keyD k)) (hn : (kvs.map (·.1)).Nodup) (hz : kvs.length < 16777216) (h : P.nx (ρ.set i (.ownK (putD kvs k d)))) : SX C (sDPut (tVar i) ty tv) ρ P := fun M σ H D A k1 k2 k3 k4 =>
  hv M σ H _ A fun v H1 e1 j1 r1 => by
    obtain ⟨o, h1, p, ks, rfl, h2, h3, h4, h5, h6⟩ := A.slots i _ hi
    have A1 := A.ext e1 j1
    refine ⟨.ref p, h1, hy M σ H1 _ A1 fun y H2 e2 j2 r2 => ?_⟩
    have A2 := A1.ext e2 j2
    have h4' : H2 p = some (.dK ks) := (e1.trans e2) p _ h4 fun z => h3 (C.sm p z)
    have hl : ks.length = kvs.length := by have := congrArg List.length h5; simpa using this
    refine ⟨p, _, rfl, by rw [keyV r2]; exact DPut.k h4' (by rw [hl, sizeLine_eq]; exact hz), ?_⟩
    have st : Step M H2 M (upd H2 p (.dK (putK ks k v))) := ⟨fun a o q n => by rw [upd_ne (show a ≠ p from fun z => n (z.symm ▸ h2))]; exact q, fun a m => .inl m⟩
    obtain ⟨g1, g2⟩ := put_rep (k := k) hn h5 (h6.ext A (e1.trans e2)) (r1.ext A1 e2)
    obtain ⟨B, s⟩ := A2.write (s' := .ownK (putD kvs k d)) (o' := .dK (putK ks k v)) hi rfl h1 h2 h3 ⟨p, _, rfl, h2, h3, upd_same, g1, g2.step st⟩ rfl
    exact k1 M _ σ _ h B ((A.step (e1.trans e2)).trans s)
end
end Ka

namespace Ka
open PySem L2

/-- nothing is changed -/
def ExtA (H H' : Hp) : Prop := ∀ a o, H a = some o → H' a = some o
theorem ExtA.c {C : Cxt} {H H' : Hp} (h : ExtA H H') : Ext C H H' := fun a o e _ => h a o e
theorem ExtA.refl (H : Hp) : ExtA H H := fun _ _ e => e
theorem ExtA.j {C : Cxt} {H H' : Hp} (h : ExtA H H') (j : C.J H) : C.J H' := C.jst H H' j fun a o e _ => h a o e
theorem ExtA.upd {H : Hp} {p : Addr} {o : HO} (h : H p = none) : ExtA H (upd H p o) := fun a u e => by rw [upd_ne (ne_of_none e h)]; exact e
/-- what is walked: these data, one after another -/
def IT (C : Cxt) (wi : TI) (ρ : List Sl) (xs : List PyData) : Prop := ∀ (M : MSet) (σ : L2.St) (H : Hp) (R : It → Hp → Prop), At C M ρ σ H →
  (∀ (J : It) (H1 : Hp) (G : Hp → Prop) (Y : Nat → Hp → V → Hp → Prop), Ext C H H1 → C.J H1 → Walk J xs.length G Y → (∀ M' H', Step M H1 M' H' → G H') →
    (∀ (i : Nat) x H2 H3 M' d, Step M H1 M' H2 → (∀ a, M' a → H2 a ≠ none) → xs[i]? = some d → Y i H2 x H3 → ExtA H2 H3 ∧ Rep M' H3 x d) → R J H1) → wi σ H R
section
variable {C : Cxt} {M M' : MSet} {ρ ρ' : List Sl} {σ : L2.St} {H H' : Hp} {ta tb te tc tl : TE} {d e f : PyData} {v : V} {P : Out} {t u tb' : TS} {wi : TI} {xs : List PyData}
theorem it_list {K : PySem.W.Frag} (h : EX C tl ρ (.list xs)) : IT C (iList K tl) ρ xs := fun M σ H R A k => h M σ H _ A fun v H1 e j r => by
  cases r with
  | lst n hl rl =>
    rename_i a vs
    have lift : ∀ M' H', Step M H1 M' H' → SqL K H' a vs := fun M' H' s => .inl (.inl (s.ext a _ hl n))
    refine ⟨a, rfl, ⟨vs, .inl (.inl hl)⟩, k (Itl K a) H1 (fun H => SqL K H a vs) (YAt vs) e j (by have w := walk_list (K := K) (a := a) (xs := vs); rw [rl.length] at w; exact w) lift fun i x H2 H3 M' d s _ hd y => ?_⟩
    obtain ⟨rfl, q⟩ := y
    obtain ⟨v, g1, g2⟩ := rl.getD hd
    rw [g1] at q
    cases q
    exact ⟨ExtA.refl _, g2.step s⟩
theorem it_tup {K : PySem.W.Frag} (h : EX C tl ρ (.tuple xs)) : IT C (iTup K tl) ρ xs := fun M σ H R A k => h M σ H _ A fun v H1 e j r => by
  cases r with
  | tup n hl rl =>
    rename_i a vs
    have lift : ∀ M' H', Step M H1 M' H' → SqT K H' a vs := fun M' H' s => .inl (.inl (s.ext a _ hl n))
    refine ⟨a, rfl, ⟨vs, .inl (.inl hl)⟩, k (Itt K a) H1 (fun H => SqT K H a vs) (YAt vs) e j (by have w := walk_tup (K := K) (a := a) (xs := vs); rw [rl.length] at w; exact w) lift fun i x H2 H3 M' d s _ hd y => ?_⟩
    obtain ⟨rfl, q⟩ := y
    obtain ⟨v, g1, g2⟩ := rl.getD hd
    rw [g1] at q
    cases q
    exact ⟨ExtA.refl _, g2.step s⟩
/-- range(n) -/
theorem it_rng1 {ta : TA} {n : Int} (h : EA C ta ρ [.int n]) (hn : n < 4611686018427387904 ∧ -4611686018427387904 ≤ n) : IT C (iRng1 ta) ρ ((List.range n.toNat).map fun i => .int (i : Nat)) := fun M σ H R A k => h M σ H _ A fun vs H1 e j r => by
  cases r with
  | cons a b =>
    cases b
    cases a
    refine ⟨n, rfl, by omega, by omega, k (Itr 0 n.toNat) H1 (fun _ => True) (YFn fun i => .int (0 + i)) e j (by have w := walk_range (lo := 0) (n := n.toNat); rw [List.length_map, List.length_range]; exact w) (fun _ _ _ => trivial) fun i x H2 H3 M' d s _ hd y => ?_⟩
    obtain ⟨rfl, rfl⟩ := y
    rw [List.getElem?_map] at hd
    by_cases hi : i < n.toNat
    · rw [List.getElem?_range hi] at hd
      cases hd
      refine ⟨ExtA.refl _, ?_⟩
      show Rep M' _ (V.int (0 + (i : Int))) (.int (i : Nat))
      rw [Int.zero_add]
      exact .int _
    · rw [List.getElem?_eq_none (by rw [List.length_range]; omega)] at hd
      cases hd
theorem it_rng2 {ta : TA} {lo n : Int} (h : EA C ta ρ [.int lo, .int n]) (hn : n < 4611686018427387904 ∧ -4611686018427387904 ≤ n ∧ lo < 4611686018427387904 ∧ -4611686018427387904 ≤ lo) : IT C (iRng2 ta) ρ ((List.range (n - lo).toNat).map fun i => .int (lo + (i : Nat))) := fun M σ H R A k => h M σ H _ A fun vs H1 e j r => by
  cases r with
  | cons a b =>
    cases b with
    | cons b c =>
      cases c
      cases a
      cases b
      refine ⟨lo, n, rfl, ⟨by omega, by omega, by omega, by omega⟩, k (Itr lo (n - lo).toNat) H1 (fun _ => True) (YFn fun i => .int (lo + i)) e j (by have w := walk_range (lo := lo) (n := (n - lo).toNat); rw [List.length_map, List.length_range]; exact w) (fun _ _ _ => trivial) fun i x H2 H3 M' d s _ hd y => ?_⟩
      obtain ⟨rfl, rfl⟩ := y
      rw [List.getElem?_map] at hd
      by_cases hi : i < (n - lo).toNat
      · rw [List.getElem?_range hi] at hd
        cases hd
        exact ⟨ExtA.refl _, .int _⟩
      · rw [List.getElem?_eq_none (by rw [List.length_range]; omega)] at hd
        cases hd
/-- enumerate(list) -/
theorem it_enumL {K : PySem.W.Frag} {ta : TA} (h : EA C ta ρ [.list xs]) : IT C (iEnum K ta) ρ (xs.zipIdx.map fun p => .tuple [.int (p.2 : Nat), p.1]) := fun M σ H R A k => h M σ H _ A fun vs H1 e j r => by
  cases r with
  | cons r b =>
    cases b
    cases r with
    | lst n hl rl =>
      rename_i a vs
      have lift : ∀ M' H', Step M H1 M' H' → SqL K H' a vs := fun M' H' s => .inl (.inl (s.ext a _ hl n))
      refine ⟨a, vs, rfl, .inl (.inl hl), k (Ite K a) H1 (fun H => SqL K H a vs) _ e j (by have w := walk_enum (K := K) (a := a) (xs := vs); rw [List.length_map, List.length_zipIdx, ← rl.length]; exact w) lift fun i x H2 H3 M' d s hm hd y => ?_⟩
      obtain ⟨T, x1, x2, rfl, nT, rfl, f1, f2⟩ := y
      rw [List.getElem?_map, List.getElem?_zipIdx] at hd
      cases hx : xs[i]? with
      | none => rw [hx] at hd; cases hd
      | some z =>
        rw [hx] at hd
        simp only [Option.map_some, Nat.zero_add] at hd
        cases hd
        obtain ⟨v, g1, g2⟩ := rl.getD hx
        have f2' : vs[i]? = some x2 := f2
        have f1' : some (V.int (i : Nat)) = some x1 := f1
        rw [g1] at f2'
        cases f2'
        cases f1'
        exact ⟨ExtA.upd nT, .tup (fun z => hm T z nT) upd_same (.cons (.int _) (.cons ((g2.step s).step (Step.upd nT)) .nil))⟩

/-- weaker knowledge -/
def Le : List Sl → List Sl → Prop
  | [], [] => True
  | a :: l, b :: m => (a = .un ∨ a = b) ∧ Le l m
  | _, _ => False
theorem Le.refl : ∀ l : List Sl, Le l l
  | [] => trivial
  | _ :: l => ⟨.inr rfl, Le.refl l⟩
theorem Le.len : ∀ {l m : List Sl}, Le l m → l.length = m.length
  | [], [], _ => rfl
  | _ :: _, _ :: _, h => congrArg (· + 1) (Le.len h.2)
  | [], _ :: _, h => h.elim
  | _ :: _, [], h => h.elim
theorem Le.get : ∀ {l m : List Sl}, Le l m → ∀ (i : Nat) s, l[i]? = some s → s = .un ∨ m[i]? = some s
  | [], [], _, i, s, h => by simp at h
  | a :: l, b :: m, h, 0, s, e => by
    simp only [List.getElem?_cons_zero, Option.some.injEq] at e ⊢
    rcases h.1 with q | q
    · exact .inl (e ▸ q)
    · exact .inr (q ▸ e)
  | a :: l, b :: m, h, i + 1, s, e => by
    simp only [List.getElem?_cons_succ] at e ⊢
    exact Le.get h.2 i s e
  | [], _ :: _, h, _, _, _ => h.elim
  | _ :: _, [], h, _, _, _ => h.elim
theorem At.le (A : At C M ρ σ H) (h : Le ρ' ρ) : At C M ρ' σ H := A.forget h.len h.get
/-- at an end it is enough to know less -/
def Out.less (P : Out) : Out := { nx := fun ρ => ∃ ρ', Le ρ' ρ ∧ P.nx ρ', rt := P.rt, bk := fun ρ => ∃ ρ', Le ρ' ρ ∧ P.bk ρ', ct := fun ρ => ∃ ρ', Le ρ' ρ ∧ P.ct ρ' }
theorem SX.less (h : SX C t ρ P.less) : SX C t ρ P := fun M σ H D A k1 k2 k3 k4 =>
  h M σ H D A (fun M' ρ' σ' H' ⟨ρ2, l, q⟩ B s => k1 M' ρ2 σ' H' q (B.le l) s) k2 (fun M' ρ' σ' H' ⟨ρ2, l, q⟩ B s => k3 M' ρ2 σ' H' q (B.le l) s) (fun M' ρ' σ' H' ⟨ρ2, l, q⟩ B s => k4 M' ρ2 σ' H' q (B.le l) s)
theorem sx_le (l : Le ρ' ρ) (h : SX C t ρ' P) : SX C t ρ P := fun M σ H D A => h M σ H D (A.le l)
/-- t, behind which less is known -/
theorem sx_seqL (ρ1 : List Sl) (h1 : SX C t ρ { P with nx := fun ρ' => Le ρ1 ρ' }) (h2 : SX C u ρ1 P) : SX C (tSeq t u) ρ P := sx_seqN _ h1 fun _ l => sx_le l h2
/-- a for: I by the turn -/
theorem sx_for {g : TG} {vs : List Nat} (hw : IT C wi ρ xs) (I : Nat → List Sl → Prop) (h0 : ∃ ρ0, Le ρ0 ρ ∧ I 0 ρ0)
    (hs : ∀ (k : Nat) (x : PyData) (ρ' : List Sl), xs[k]? = some x → I k ρ' → ∃ ρ2, GX C g vs x ρ' ρ2 ∧ SX C tb' ρ2 { nx := fun ρ => ∃ ρ', Le ρ' ρ ∧ I (k + 1) ρ', rt := P.rt, bk := P.nx, ct := fun ρ => ∃ ρ', Le ρ' ρ ∧ I (k + 1) ρ' })
    (hd : ∀ ρ', I xs.length ρ' → P.nx ρ') : SX C (tFor wi g tb') ρ P := fun M σ H D A k1 k2 k3 k4 =>
  hw M σ H _ A fun J H1 G Y e j w hG hY => by
    obtain ⟨ρ0, l0, i0⟩ := h0
    refine for_it w (D := D) (fun k σ' H' => ∃ M' ρ', I k ρ' ∧ At C M' ρ' σ' H' ∧ Step M H1 M' H') ⟨M, ρ0, i0, (A.ext e j).le l0, Step.refl M H1⟩ (fun i σ' H' _ ⟨M', ρ', _, _, s⟩ => hG M' H' s) (fun i x σ' H2 H3 hi ⟨M', ρ', hI, B, s⟩ y => ?_) (fun σ' H' ⟨M', ρ', hI, B, s⟩ => k1 M' ρ' σ' H' (hd ρ' hI) B ((A.step e).trans s))
    have hx : xs[i]? = some xs[i] := List.getElem?_eq_getElem hi
    obtain ⟨ex, r⟩ := hY i x H2 H3 M' _ s B.dom hx y
    obtain ⟨ρ2, hg, hb⟩ := hs i _ ρ' hx hI
    have B3 := B.ext ex.c (ex.j B.j)
    have s3 : Step M H1 M' H3 := s.trans (B.step ex.c)
    refine hg M' σ' H3 x _ B3 r fun σ2 B4 _ => ?_
    refine hb M' σ2 H3 _ B4 (fun M'' ρ'' σ'' H'' ⟨ρ5, l5, q⟩ B5 s5 => ⟨M'', ρ5, q, B5.le l5, s3.trans s5⟩) k2 (fun M'' ρ'' σ'' H'' q B5 s5 => k1 M'' ρ'' σ'' H'' q B5 ((A.step e).trans (s3.trans s5))) (fun M'' ρ'' σ'' H'' ⟨ρ5, l5, q⟩ B5 s5 => ⟨M'', ρ5, q, B5.le l5, s3.trans s5⟩)
/-- a while: I by a measure -/
theorem sx_while {c : TT} (I : Nat → List Sl → Prop) (m0 : Nat) (h0 : ∃ ρ0, Le ρ0 ρ ∧ I m0 ρ0)
    (hs : ∀ (m : Nat) (ρ' : List Sl), I m ρ' → ∃ b, ET C c ρ' b ∧ (b = true → SX C tb' ρ' { nx := fun ρ => ∃ m', m' < m ∧ ∃ ρ', Le ρ' ρ ∧ I m' ρ', rt := P.rt, bk := P.nx, ct := fun ρ => ∃ m', m' < m ∧ ∃ ρ', Le ρ' ρ ∧ I m' ρ' }) ∧ (b = false → P.nx ρ')) : SX C (tWhile c tb') ρ P := fun M σ H D A k1 k2 k3 k4 => by
  obtain ⟨ρ0, l0, i0⟩ := h0
  refine ⟨fun m σ' H' => ∃ M' ρ', I m ρ' ∧ At C M' ρ' σ' H' ∧ Step M H M' H', ⟨m0, M, ρ0, i0, A.le l0, Step.refl M H⟩, fun m σ' H' ⟨M', ρ', hI, B, s⟩ => ?_⟩
  obtain ⟨b, hc, ht, hf⟩ := hs m ρ' hI
  refine hc M' σ' H' _ B fun H1 e j => ?_
  have s1 : Step M H M' H1 := s.trans (B.step e)
  cases b with
  | false => exact k1 M' ρ' σ' H1 (hf rfl) (B.ext e j) s1
  | true =>
    refine ⟨fun σ2 H2 => ∃ m', m' < m ∧ ∃ M2 ρ2, I m' ρ2 ∧ At C M2 ρ2 σ2 H2 ∧ Step M H M2 H2, fun σ2 H2 ⟨m', l, w⟩ => ⟨m', l, w⟩, ?_⟩
    exact ht rfl M' σ' H1 _ (B.ext e j) (fun M2 ρ2 σ2 H2 ⟨m', l, ρ3, l3, q⟩ B2 s2 => ⟨m', l, M2, ρ3, q, B2.le l3, s1.trans s2⟩) k2 (fun M2 ρ2 σ2 H2 q B2 s2 => k1 M2 ρ2 σ2 H2 q B2 (s1.trans s2)) (fun M2 ρ2 σ2 H2 ⟨m', l, ρ3, l3, q⟩ B2 s2 => ⟨m', l, M2, ρ3, q, B2.le l3, s1.trans s2⟩)

/-! ### comprehensions -/
def wipeR (ρ : List Sl) : List Nat → List Sl
  | [] => ρ
  | v :: vs => (wipeR ρ vs).set v .un
theorem At.wipe (A : At C M ρ σ H) : ∀ vs : List Nat, At C M (wipeR ρ vs) (wipe σ vs) H
  | [] => A
  | v :: vs => (At.wipe A vs).set (s := .un) trivial rfl
/-- one more of one's own -/
theorem At.more (A : At C M ρ σ H) {p : Addr} (e : Ext C H H') (j : C.J H') (hp : H p = none) (hq : H' p ≠ none) : At C (Mp M p) ρ σ H' := by
  have h := A.own (i := ρ.length) (s := .un) e j hp hq trivial
  rw [List.set_eq_of_length_le (Nat.le_refl _), List.set_eq_of_length_le (by rw [A.len]; exact Nat.le_refl _)] at h
  exact h
theorem wipe_out {v : Nat} {x : Option V} : ∀ (ws : List Nat) (τ : L2.St), v ∉ ws → L2.wipe (τ.set v x) ws = (L2.wipe τ ws).set v x
  | [], _, _ => rfl
  | w :: ws, τ, hw => by
    unfold L2.wipe
    rw [wipe_out ws τ fun z => hw (List.mem_cons_of_mem _ z), List.set_comm]
    intro z
    exact hw (z ▸ List.mem_cons_self)
theorem wipe_idem : ∀ (vs : List Nat) (σ : L2.St), L2.wipe (L2.wipe σ vs) vs = L2.wipe σ vs
  | [], _ => rfl
  | v :: vs, σ => by
    show (L2.wipe ((L2.wipe σ vs).set v none) vs).set v none = (L2.wipe σ vs).set v none
    by_cases e : v ∈ vs
    · rw [wipe_set e, wipe_idem vs σ]
    · rw [wipe_out vs _ e, wipe_idem vs σ, List.set_set]
/-- a list comprehension: of the walked data those that pass, turned -/
theorem en_lc {α : Type} {g : TG} {tt : TT} {vs : List Nat} {ys : List α} (enc : α → PyData) (p : α → Bool) (f : α → PyData) (hw : IT C wi ρ (ys.map enc)) (hz : ys.length ≤ 16777215)
    (ht : ∀ (i : Nat) (y : α), ys[i]? = some y → ∃ ρ2, GX C g vs (enc y) (wipeR ρ vs) ρ2 ∧ ET C tt ρ2 (p y) ∧ (p y = true → EX C te ρ2 (f y))) : EN C (tLc wi g tt te vs) ρ ((ys.filter p).map f) := fun M σ H Q A k =>
  hw M σ H _ A fun J H1 G Y e j w hG hY => fun D hD => by
    have A1 := A.ext e j
    have hp0 : H D = none := by
      cases q : H D with
      | none => rfl
      | some o =>
        by_cases hs : C.S D
        · exact absurd hD (C.jdom H1 j D hs)
        · rw [e D o q hs] at hD; cases hD
    have nS : ¬ C.S D := fun z => C.jdom H1 j D z hD
    have hl : (ys.map enc).length = ys.length := List.length_map _
    refine lc_it w (fun i H' => Ext C H1 H' ∧ C.J H' ∧ ∃ acc, H' D = some (.lst acc) ∧ RepL (Mp M D) H' acc (((ys.take i).filter p).map f)) ⟨Ext.upd hD, jupd j hD, [], upd_same, .nil⟩ (fun i H' _ ⟨e', _, _⟩ => hG M H' (A1.step e')) (fun i x H2 H3 hi ⟨e2, j2, acc, ha, hr⟩ y => ?_) fun H' ⟨e', j', acc, ha, hr⟩ => ?_
    · have hi' : i < ys.length := by rw [← hl]; exact hi
      have hy : ys[i]? = some ys[i] := List.getElem?_eq_getElem hi'
      have hx : (ys.map enc)[i]? = some (enc ys[i]) := by rw [List.getElem?_map, hy]; rfl
      have B2 : At C (Mp M D) ρ σ H2 := A1.more e2 j2 hD (by rw [ha]; exact fun z => nomatch z)
      have s2 : Step M H1 (Mp M D) H2 := Step.mp hD e2 A1
      obtain ⟨ex, r⟩ := hY i x H2 H3 (Mp M D) _ s2 B2.dom hx y
      have B3 := B2.ext ex.c (ex.j j2)
      obtain ⟨ρ2, hg, htt, hte⟩ := ht i _ hy
      have acc_ok : acc.length < 16777216 := by
        rw [hr.length, List.length_map]
        have := List.length_filter_le p (ys.take i)
        rw [List.length_take] at this
        omega
      have tk : (ys.take (i + 1)).filter p = if p ys[i] = true then (ys.take i).filter p ++ [ys[i]] else (ys.take i).filter p := by
        rw [List.take_succ_eq_append_getElem hi', List.filter_append, List.filter_cons]
        split <;> simp
      refine hg (Mp M D) (L2.wipe σ vs) H3 x _ (B3.wipe vs) r fun σ2 B4 hw2 => ⟨hw2.trans (wipe_idem vs σ), ?_⟩
      refine htt (Mp M D) σ2 H3 _ B4 fun H4 e4 j4 => ?_
      have e24 : Ext C H2 H4 := ex.c.trans e4
      cases hpy : p ys[i] with
      | true =>
        refine hte hpy (Mp M D) σ2 H4 _ (B4.ext e4 j4) fun v H5 e5 j5 r5 => ?_
        have e25 := e24.trans e5
        have ha5 : H5 D = some (.lst acc) := e25 D _ ha nS
        refine ⟨acc, ha5, by rw [sizeLine_eq]; exact acc_ok, fun a o q n => ?_, ?_, acc ++ [v], upd_same, ?_⟩
        · rw [upd_ne (ne_of_none q hD)]
          exact e25 a o (e2 a o q n) n
        · exact C.jst H5 _ j5 fun a o q n => by rw [upd_ne (show a ≠ D from fun z => nS (z ▸ n))]; exact q
        · have st : Step (Mp M D) H5 (Mp M D) (upd H5 D (.lst (acc ++ [v]))) := ⟨fun a o q n => by rw [upd_ne (show a ≠ D from fun z => n (.inr z))]; exact q, fun a m => .inl m⟩
          rw [tk, if_pos hpy, List.map_append]
          exact ((hr.step (B2.step e25)).append (.cons r5 .nil)).step st
      | false =>
        refine ⟨e2.trans e24, j4, acc, e24 D _ ha nS, ?_⟩
        rw [tk, if_neg (by rw [hpy]; decide)]
        exact hr.step (B2.step e24)
    · rw [hl, List.take_length] at hr
      exact k D acc H' (e.trans e') j' hp0 ha hr
/-- without a test -/
theorem et_yes : ET C tYes ρ true := fun M σ H Q A k => k H (Ext.refl H) A.j
theorem en_lc1 {α : Type} {g : TG} {vs : List Nat} {ys : List α} (enc : α → PyData) (f : α → PyData) (hw : IT C wi ρ (ys.map enc)) (hz : ys.length ≤ 16777215)
    (ht : ∀ (i : Nat) (y : α), ys[i]? = some y → ∃ ρ2, GX C g vs (enc y) (wipeR ρ vs) ρ2 ∧ EX C te ρ2 (f y)) : EN C (tLc wi g tYes te vs) ρ (ys.map f) := by
  have h := en_lc (te := te) (tt := tYes) (vs := vs) enc (fun _ => true) f hw hz fun i y hy => by
    obtain ⟨ρ2, h1, h2⟩ := ht i y hy
    exact ⟨ρ2, h1, et_yes, fun _ => h2⟩
  rw [List.filter_eq_self.mpr (fun _ _ => rfl)] at h
  exact h
end
end Ka

namespace Ka
open PySem L2

/-! ### defs that only tell -/
def spT {α : Type} (args : α → List PyData) (Pre : α → Prop) (f : α → PyData) : Sp := fun vs H Q _ => ∃ (M : MSet) (x : α), (∀ a, M a → H a ≠ none) ∧ RepL M H vs (args x) ∧ Pre x ∧ ∀ v H', ExtA H H' → Rep M H' v (f x) → Q v H'
def pureC (M : MSet) (H : Hp) : Cxt := { S := fun _ => False, J := fun _ => True, M0 := M, H0 := H, jst := fun _ _ _ _ => trivial, jdom := fun _ _ _ h => h.elim, sm := fun _ h => h.elim }
section
variable {C : Cxt} {M M' : MSet} {ρ ρ' : List Sl} {σ : L2.St} {H H' : Hp} {ta tb te tc tl : TE} {d e f : PyData} {v : V} {P : Out} {t : TA}
theorem ex_call {α : Type} {args : α → List PyData} {Pre : α → Prop} {f : α → PyData} {E : XK} (x : α) (h : EA C t ρ (args x)) (hp : Pre x) : EX C (tCall (spT args Pre f) [] E t) ρ (f x) := fun M σ H Q A k =>
  h M σ H _ A fun vs H1 e j r => ⟨M, x, (A.ext e j).dom, by rw [List.append_nil]; exact r, hp, fun v H2 e2 r2 => k v H2 (e.trans e2.c) (e2.j j) r2⟩
theorem At.begin {N ps : List Str} {vs : List V} {ds : List PyData} (C : Cxt) (hl : vs.length = ps.length) (hN : ps.length ≤ N.length) (r : RepL C.M0 C.H0 vs ds) (dom : ∀ a, C.M0 a → C.H0 a ≠ none) (j : C.J C.H0) :
    At C C.M0 (ds.map Sl.dat ++ List.replicate (N.length - ps.length) .un) (start N vs) C.H0 where
  len := by unfold L2.start; simp [← r.length, hl]
  slots := fun i s h => by
    unfold L2.start
    by_cases hi : i < ds.length
    · rw [List.getElem?_append_left (by rw [List.length_map]; exact hi), List.getElem?_map, List.getElem?_eq_getElem hi] at h
      cases h
      obtain ⟨v, g1, g2⟩ := r.getD (List.getElem?_eq_getElem hi)
      refine ⟨some v, ?_, v, rfl, g2⟩
      rw [List.getElem?_append_left (by rw [List.length_map, r.length]; exact hi), List.getElem?_map, g1]
      rfl
    · rw [List.getElem?_append_right (by rw [List.length_map]; omega)] at h
      have e : s = .un := by
        have := List.mem_of_getElem? h
        exact List.eq_of_mem_replicate this
      subst e
      have hlt : i - (ds.map Sl.dat).length < N.length - ps.length := by
        have := (List.getElem?_eq_some_iff.mp h).1
        rw [List.length_replicate] at this
        exact this
      rw [List.length_map] at hlt
      have hr := r.length
      exact ⟨none, by rw [List.getElem?_append_right (by rw [List.length_map]; omega), List.length_map, List.getElem?_replicate, if_pos (by omega)], trivial⟩
  uniq := fun i j s t p h1 h2 o1 => by
    have hm := List.mem_of_getElem? h1
    rw [List.mem_append] at hm
    rcases hm with hm | hm
    · obtain ⟨d, _, rfl⟩ := List.mem_map.mp hm
      cases o1
    · rw [List.eq_of_mem_replicate hm] at o1; cases o1
  sub := fun _ h => h
  new := fun _ h => .inl h
  dom := dom
  frame := fun _ _ h _ => h
  j := j
variable {P : Program} {w : World} {K : PySem.W.Frag} {mg : Str → Option Value} {base : Heap}
/-- a def that only tells: its body as a term of rules, and what it comes to -/
theorem okT {α : Type} {args : α → List PyData} {Pre : α → Prop} {g : α → PyData} {x qual : Str} {st : Stmt} {fa : Addr} {fd : FuncData} {N ps : List Str} {k : Nat} (F : Fun K x qual st fa fd) (S : FnScope N ps (defScope st)) (hl : ∀ x, (args x).length = ps.length) (hN : ps.length ≤ N.length)
    (hbody : ∀ (cdv : Value) (A : Around) (outer : List Env) (s : Shared) (H : Hp) (E : XK), Room k (A.deeper (PyProof.Rows.envOfC qual (defScope st) s.heap.objs.size fa cdv)) →
      ∃ t, PSs (cxOf CX0 P w K mg base N qual (defScope st) fa cdv A outer s H E).nox (defBody st) t ∧ ∀ (C : Cxt) (x : α), Pre x → SX C t ((args x).map Sl.dat ++ List.replicate (N.length - ps.length) .un) { nx := fun _ => g x = .none, rt := fun d => d = g x }) :
    FnOk P w K mg base CX0 (k + 1) fa fd ps (spT args Pre g) := by
  refine F.ok S (fun vs H Q E h => ?_) (fun cdv A outer s H vs Q E hr h => ?_)
  · obtain ⟨M, x, _, r, _⟩ := h
    rw [r.length, hl]
  · obtain ⟨M, x, hd, r, hp, q⟩ := h
    obtain ⟨t, ht, hx⟩ := hbody cdv A outer s H E hr
    refine ⟨t, ht, hx (pureC M H) x hp M _ H _ (At.begin (pureC M H) (by rw [r.length, hl]) hN r hd trivial) (fun M' ρ' σ' H' e B s => ?_) (fun v H' d e R => ?_) (fun _ _ _ _ z => z.elim) fun _ _ _ _ z => z.elim⟩
    · exact q .non H' (fun a o h => B.frame a o h fun z => z) (by rw [e]; exact .non)
    · subst e
      exact q v H' (fun a o h => R.frame a o h fun z => z) R.rep
end

/-! ### the law's source of numbers -/
def srcK (c : Addr) (l m t : Int) : List (Key × V) := [(.inr "cells", .ref c), (.inr "left", .int l), (.inr "mixed", .int m), (.inr "turn", .int t)]
def SrcAt (H : Hp) (s c : Addr) : Prop := ∃ (cs : List Int) (l m t : Int), H s = some (.dK (srcK c l m t)) ∧ H c = some (.lst (cs.map V.int))
theorem srcSt {s c : Addr} {H H' : Hp} (h : SrcAt H s c) (k : ∀ a o, H a = some o → (a = s ∨ a = c) → H' a = some o) : SrcAt H' s c := by
  obtain ⟨cs, l, m, t, e1, e2⟩ := h
  exact ⟨cs, l, m, t, k s _ e1 (.inl rfl), k c _ e2 (.inr rfl)⟩
theorem srcDom {s c a : Addr} {H : Hp} (h : SrcAt H s c) (z : a = s ∨ a = c) : H a ≠ none := by
  obtain ⟨cs, l, m, t, e1, e2⟩ := h
  rcases z with rfl | rfl
  · rw [e1]; exact fun z => nomatch z
  · rw [e2]; exact fun z => nomatch z
structure IsSrc (C : Cxt) (s c : Addr) : Prop where
  hS : ∀ a, C.S a ↔ (a = s ∨ a = c)
  hJ : ∀ H, C.J H ↔ SrcAt H s c
def srcC (s c : Addr) (M : MSet) (H : Hp) (h1 : M s) (h2 : M c) : Cxt := { S := fun a => a = s ∨ a = c, J := fun H => SrcAt H s c, M0 := M, H0 := H, jst := fun H H' h k => srcSt h k, jdom := fun H h a z => srcDom h z, sm := fun a z => by rcases z with rfl | rfl <;> assumption }
theorem isSrc (s c : Addr) (M : MSet) (H : Hp) (h1 : M s) (h2 : M c) : IsSrc (srcC s c M H h1 h2) s c := ⟨fun _ => Iff.rfl, fun _ => Iff.rfl⟩
def ExtS (s c : Addr) (H H' : Hp) : Prop := ∀ a o, H a = some o → a ≠ s → a ≠ c → H' a = some o
/-- a def that draws -/
def spS {α : Type} (args : α → List PyData) (Pre : α → Prop) (R : α → PyData → Prop) : Sp := fun vs H Q _ => ∃ (M : MSet) (s c : Addr) (x : α) (rest : List V), vs = .ref s :: rest ∧ M s ∧ M c ∧ (∀ a, M a → H a ≠ none) ∧ SrcAt H s c ∧ RepL M H rest (args x) ∧ Pre x ∧
  ∀ v H' d, ExtS s c H H' → SrcAt H' s c → R x d → Rep M H' v d → Q v H'
section
variable {C : Cxt} {M M' : MSet} {ρ ρ' : List Sl} {σ : L2.St} {H H' : Hp} {ta tb te tc tl : TE} {d e f : PyData} {v : V} {P : Out} {t : TA}
theorem es_call {α : Type} {args : α → List PyData} {Pre : α → Prop} {R : α → PyData → Prop} {E : XK} {i : Nat} {s c : Addr} (I : IsSrc C s c) (hi : ρ[i]? = some (.val (.ref s))) (x : α) (h : EA C t ρ (args x)) (hp : Pre x) : ES C (tCall (spS args Pre R) [] E (tCons (tVar i) t)) ρ (R x) := fun M σ H Q A k => by
  obtain ⟨o, h1, h2⟩ := A.slots i _ hi
  cases h2
  refine ⟨.ref s, h1, h M σ H _ A fun vs H1 e j r => ?_⟩
  have A1 := A.ext e j
  refine ⟨M, s, c, x, vs, by rw [List.append_nil], A.ms ((I.hS s).mpr (.inl rfl)), A.ms ((I.hS c).mpr (.inr rfl)), A1.dom, (I.hJ H1).mp j, r, hp, fun v H2 d e2 j2 hd r2 => k v H2 (e.trans fun a o q n => ?_) ((I.hJ H2).mpr j2) ⟨d, hd, r2⟩⟩
  exact e2 a o q (fun z => n ((I.hS a).mpr (.inl z))) fun z => n ((I.hS a).mpr (.inr z))
theorem es_call0 {Pre : Unit → Prop} {R : Unit → PyData → Prop} {E : XK} {i : Nat} {s c : Addr} (I : IsSrc C s c) (hi : ρ[i]? = some (.val (.ref s))) (hp : Pre ()) : ES C (tCall (spS (fun _ => []) Pre R) [] E (tCons (tVar i) tNil)) ρ (R ()) := es_call I hi () ea_nil hp
theorem At.startS {N ps : List Str} {vs : List V} {ds : List PyData} {s : Addr} (C : Cxt) (hl : vs.length + 1 = ps.length) (hN : ps.length ≤ N.length) (r : RepL C.M0 C.H0 vs ds) (dom : ∀ a, C.M0 a → C.H0 a ≠ none) (j : C.J C.H0) :
    At C C.M0 (Sl.val (.ref s) :: (ds.map Sl.dat ++ List.replicate (N.length - ps.length) .un)) (start N (.ref s :: vs)) C.H0 := by
  have h := At.begin (N := N.tail) (ps := ps.tail) C (vs := vs) (by rw [List.length_tail]; omega) (by rw [List.length_tail, List.length_tail]; omega) r dom j
  have e : N.tail.length - ps.tail.length = N.length - ps.length := by rw [List.length_tail, List.length_tail]; omega
  have e2 : N.tail.length - vs.length = N.length - (vs.length + 1) := by rw [List.length_tail]; omega
  rw [e] at h
  have e3 : start N (.ref s :: vs) = some (.ref s) :: start N.tail vs := by
    unfold L2.start
    rw [List.map_cons, List.cons_append, e2]
    rfl
  rw [e3]
  refine ⟨by simp [h.len], fun i t q => ?_, fun a b t1 t2 p q1 q2 o1 o2 e1 e2 => ?_, h.sub, h.new, h.dom, h.frame, h.j⟩
  · cases i with
    | zero => cases q; exact ⟨_, rfl, rfl⟩
    | succ i => exact h.slots i t q
  · cases a with
    | zero => cases q1; cases o1
    | succ a =>
      cases b with
      | zero => cases q2; cases o2
      | succ b => rw [h.uniq a b t1 t2 p q1 q2 o1 o2 e1 e2]
variable {P : Program} {w : World} {K : PySem.W.Frag} {mg : Str → Option Value} {base : Heap}
theorem okS {α : Type} {args : α → List PyData} {Pre : α → Prop} {R : α → PyData → Prop} {x qual : Str} {st : Stmt} {fa : Addr} {fd : FuncData} {N ps : List Str} {k : Nat} (F : Fun K x qual st fa fd) (S : FnScope N ps (defScope st)) (hl : ∀ x, (args x).length + 1 = ps.length) (hN : ps.length ≤ N.length)
    (hbody : ∀ (cdv : Value) (A : Around) (outer : List Env) (s : Shared) (H : Hp) (E : XK), Room k (A.deeper (PyProof.Rows.envOfC qual (defScope st) s.heap.objs.size fa cdv)) →
      ∃ t, PSs (cxOf CX0 P w K mg base N qual (defScope st) fa cdv A outer s H E).nox (defBody st) t ∧ ∀ (C : Cxt) (s c : Addr) (x : α), IsSrc C s c → Pre x → SX C t (Sl.val (.ref s) :: ((args x).map Sl.dat ++ List.replicate (N.length - ps.length) .un)) { nx := fun _ => R x .none, rt := R x }) :
    FnOk P w K mg base CX0 (k + 1) fa fd ps (spS args Pre R) := by
  refine F.ok S (fun vs H Q E h => ?_) (fun cdv A outer s H vs Q E hr h => ?_)
  · obtain ⟨M, s, c, x, rest, rfl, _, _, _, _, r, _⟩ := h
    rw [List.length_cons, r.length, hl]
  · obtain ⟨M, s1, c, x, rest, rfl, m1, m2, hd, src, r, hp, q⟩ := h
    obtain ⟨t, ht, hx⟩ := hbody cdv A outer s H E hr
    refine ⟨t, ht, hx (srcC s1 c M H m1 m2) s1 c x (isSrc ..) hp M _ H _ (At.startS (srcC s1 c M H m1 m2) (by rw [r.length, hl]) hN r hd src) (fun M' ρ' σ' H' e B s => ?_) (fun v H' d e R => ?_) (fun _ _ _ _ z => z.elim) fun _ _ _ _ z => z.elim⟩
    · exact q .non H' .none (fun a o h n1 n2 => B.frame a o h fun z => z.elim n1 n2) B.j e .non
    · exact q v H' d (fun a o h n1 n2 => R.frame a o h fun z => z.elim n1 n2) R.j e R.rep
end
end Ka

set_option maxHeartbeats 2000000
namespace Ka
open PySem PySem.Spec PyProof.Rows L2
/-! ### a tuple once over is itself -/
theorem mul_one_meets (l : Addr) (items : Array Value) (n : Nat) (dd : Option Addr) (sl : Array (Option Value)) (x : Int) (u : Tok) (c0 : (decide (x < -(2 ^ 63)) || decide (x ≥ 2 ^ 63)) = false) (c1 : (items.isEmpty || x == 1) = true) :
    Meets (Builtin.«tuple.__mul__» ⟨[.ref l, .int x u], []⟩) (fun _ R s => s.heap.get? l = some { cls := .type "tuple", dict := dd, data := .seq items n, slots := sl } ∧ R (.ok (.ret (Value.ref l))) s) :=
  .of_wp fun prog w A R s h => by
    obtain ⟨h1, h2, h3, h4, h5⟩ := s
    obtain ⟨hl, h⟩ := h
    have f1 := AutoSeq1.idx_int
    wp_walk using wpAny_loadPart' hl
    repeat (first
      | (refine wpAny_ite_false (decide_eq_false (by rw [c0] ; exact Bool.false_ne_true)) ?_ ; wp_walk using wpAny_loadPart' hl)
      | (refine wpAny_ite_true (decide_eq_true (by rw [c1])) ?_ ; wp_walk using wpAny_loadPart' hl))
    exact ⟨_, rfl, h⟩
def rOneT (K : PySem.W.Frag) : R2 := fun x y H Q => ∃ l xs, x = .ref l ∧ y = .int 1 ∧ SqT K H l xs ∧ Q (.ref l) H
theorem op_oneT {X : Cx} : OpR X (binaryOp .Mult) (rOneT X.K) := by
  intro pins s σ H x y v u Q I rx ry h
  obtain ⟨l, xs, rfl, rfl, hT, q⟩ := h
  cases rx
  obtain ⟨t, rfl⟩ := ry
  obtain ⟨its, r, ⟨⟨cls, dd, data, sl⟩, ho, hc, n, hd⟩, hs⟩ := I.tuple hT
  simp only at hc hd
  subst hc
  subst hd
  exact wpAny_binaryOp_repeat_ref (T := "tuple") (U := "int") (by decide) ⟨_, ho, rfl⟩ (fun s' => typeIs_int s' 1 t) noFill_tuple_mul F.fills_int_mul F.slot_int_rmul repeat_tuple F.slot_int_index.lookup (call_meets F.slot_int_rmul (typeIs_int s 1 t) F.entry_int_rmul (F.args_int_rmul_2 _ _) (int_rmul_tuple 1 t l its.toArray n dd sl)
      ⟨ho, rfl, ⟨_, ho, rfl⟩, call_meets F.slot_tuple_mul ⟨_, ho, rfl⟩ F.entry_tuple_mul (F.args_tuple_mul_2 _ _) (mul_one_meets l its.toArray n dd sl 1 t (by decide) (by simp)) ⟨ho, .ref l, H, I, rfl, q⟩⟩)
end Ka

namespace Ka
open PySem L2

/-! ### operators whatever the operands are -/
abbrev rAddAny (K : PySem.W.Frag) : R2 := fun x y H Q => rI0 (fun i j => V.int (i + j)) x y H Q ∨ (rCat x y H Q ∨ (rCatA K x y H Q ∨ (∃ i j, x = .str i ∧ y = .str j ∧ i.length + j.length ≤ sizeLine ∧ Q (.str (i ++ j)) H)))
theorem op_addAny {X : Cx} : OpR X (binaryOp .Add) (rAddAny X.K) := op_add.or (op_cat.or (op_catA.or op_add_str))
abbrev rMulAny (K : PySem.W.Frag) : R2 := fun x y H Q => rI CMul (fun i j => V.int (i * j)) x y H Q ∨ (rRep x y H Q ∨ (rRepT K x y H Q ∨ rOneT K x y H Q))
theorem op_mulAny {X : Cx} : OpR X (binaryOp .Mult) (rMulAny X.K) := op_mul.or (op_rep.or (op_repT.or op_oneT))
abbrev rSlAny (K : PySem.W.Frag) : V → Option Int → Option Int → Hp → VK → Prop := fun x lo hi H Q => rSlL K x lo hi H Q ∨ rSlA K x lo hi H Q
theorem sl_any {X : Cx} : SlR X (rSlAny X.K) := sl_list.or sl_tupA
section
variable {C : Cxt} {M M' : MSet} {ρ ρ' : List Sl} {σ : L2.St} {H H' : Hp} {ta tb te tc tl : TE} {d e f : PyData} {v : V} {K : PySem.W.Frag}
theorem ex_addI {i j : Int} (ha : EX C ta ρ (.int i)) (hb : EX C tb ρ (.int j)) : EX C (tOp (rAddAny K) ta tb) ρ (.int (i + j)) :=
  ex_op ha hb fun M σ H x y Q A rx ry k => .inl ⟨i, j, rx.int_of, ry.int_of, k _ H (Ext.refl H) A.j (.int _)⟩
theorem en_cat {xs ys : List PyData} (ha : EW C ta ρ (.list xs)) (hb : EW C tb ρ (.list ys)) (hz : xs.length + ys.length ≤ 16777216) : EN C (tOp (rAddAny K) ta tb) ρ (xs ++ ys) := fun M σ H Q A k =>
  ha M σ H _ A fun x H1 e1 j1 r1 => hb M σ H1 _ (A.ext e1 j1) fun y H2 e2 j2 r2 => by
    obtain ⟨p, vs, rfl, hp, r⟩ := (r1.ext (A.ext e1 j1) e2).list
    obtain ⟨q, ws, rfl, hq, s⟩ := r2.list
    exact .inr (.inl ⟨p, q, vs, ws, rfl, rfl, hp, hq, by rw [r.length, s.length, sizeLine_eq]; exact hz, en_new A (e1.trans e2) j2 (r.append s) k⟩)
theorem ex_addT {xs ys : List PyData} (ha : EX C ta ρ (.tuple xs)) (hb : EX C tb ρ (.tuple ys)) (hz : xs.length + ys.length ≤ 16777216) : EX C (tOp (rAddAny K) ta tb) ρ (.tuple (xs ++ ys)) :=
  ex_op ha hb fun M σ H x y Q A rx ry k => by
    obtain ⟨p, vs, rfl, n1, hp, r⟩ := rx.tuple
    obtain ⟨q, ws, rfl, n2, hq, s⟩ := ry.tuple
    refine .inr (.inr (.inl ⟨p, q, vs, ws, rfl, rfl, .inl (.inl hp), .inl (.inl hq), by rw [r.length, s.length, sizeLine_eq]; exact hz, fun e => ?_, fun e1 e2 => ?_, fun _ _ => new_tup A (Ext.refl H) A.j (r.append s) k⟩))
    · subst e
      cases r
      exact k _ H (Ext.refl H) A.j (.tup n2 hq s)
    · subst e2
      cases s
      exact k _ H (Ext.refl H) A.j (.tup n1 hp (by rw [List.append_nil]; exact r))
theorem ex_addS {x y : Str} (ha : EX C ta ρ (.str x)) (hb : EX C tb ρ (.str y)) (hz : x.length + y.length ≤ 16777216) : EX C (tOp (rAddAny K) ta tb) ρ (.str (x ++ y)) :=
  ex_op ha hb fun M σ H u w Q A rx ry k => .inr (.inr (.inr ⟨x, y, rx.str_of, ry.str_of, by rw [sizeLine_eq]; exact hz, k _ H (Ext.refl H) A.j (.str _)⟩))
theorem ex_mulI {i j : Int} (ha : EX C ta ρ (.int i)) (hb : EX C tb ρ (.int j)) (hc : CMul i j) : EX C (tOp (rMulAny K) ta tb) ρ (.int (i * j)) :=
  ex_op ha hb fun M σ H x y Q A rx ry k => .inl ⟨i, j, rx.int_of, ry.int_of, hc, k _ H (Ext.refl H) A.j (.int _)⟩
theorem RepL.rep {vs : List V} {ds : List PyData} (r : RepL M H vs ds) : ∀ m, RepL M H (List.replicate m vs).flatten (List.replicate m ds).flatten := fun m => by
  induction m with
  | zero => exact .nil
  | succ m ih => rw [List.replicate_succ, List.replicate_succ, List.flatten_cons, List.flatten_cons]; exact r.append ih
theorem ex_mulT {ds : List PyData} {i : Int} (ha : EX C ta ρ (.tuple ds)) (hb : EX C tb ρ (.int i)) (h : ds ≠ [] ∧ 2 ≤ i ∧ i ≤ 1000 ∧ ds.length ≤ 1000) : EX C (tOp (rMulAny K) ta tb) ρ (.tuple (List.replicate i.toNat ds).flatten) :=
  ex_op ha hb fun M σ H x y Q A rx ry k => by
    obtain ⟨p, vs, rfl, n, hp, r⟩ := rx.tuple
    refine .inr (.inr (.inl ⟨p, i, vs, rfl, ry.int_of, .inl (.inl hp), fun e => h.1 ?_, h.2.1, h.2.2.1, by rw [r.length]; exact h.2.2.2, new_tup A (Ext.refl H) A.j (r.rep _) k⟩))
    subst e
    cases r
    rfl
theorem ex_mulT1 {ds : List PyData} (ha : EX C ta ρ (.tuple ds)) (hb : EX C tb ρ (.int 1)) : EX C (tOp (rMulAny K) ta tb) ρ (.tuple ds) :=
  ex_op ha hb fun M σ H x y Q A rx ry k => by
    obtain ⟨p, vs, rfl, n, hp, r⟩ := rx.tuple
    exact .inr (.inr (.inr ⟨p, vs, rfl, ry.int_of, .inl (.inl hp), k _ H (Ext.refl H) A.j (.tup n hp r)⟩))
theorem en_mul {ds : List PyData} {i : Int} (ha : EW C ta ρ (.list ds)) (hb : EX C tb ρ (.int i)) (h : -(2 ^ 63) ≤ i ∧ i < 2 ^ 63 ∧ ds.length * i.toNat ≤ 16777216) : EN C (tOp (rMulAny K) ta tb) ρ (List.replicate i.toNat ds).flatten := fun M σ H Q A k =>
  ha M σ H _ A fun x H1 e1 j1 r1 => hb M σ H1 _ (A.ext e1 j1) fun y H2 e2 j2 r2 => by
    obtain ⟨p, vs, rfl, hp, r⟩ := (r1.ext (A.ext e1 j1) e2).list
    exact .inr (.inl ⟨p, i, vs, rfl, r2.int_of, hp, h.1, h.2.1, by rw [r.length, sizeLine_eq]; exact h.2.2, en_new A (e1.trans e2) j2 (r.rep _) k⟩)
theorem en_sl {ds : List PyData} {tl th : TO} {lo hi : Option Int} (ha : EW C te ρ (.list ds)) (hl : EO C tl ρ lo) (hh : EO C th ρ hi) : EN C (tSl (rSlAny K) te tl th) ρ (cutD ds lo hi) := fun M σ H Q A k =>
  ha M σ H _ A fun x H1 e1 j1 r1 => hl M σ H1 _ (A.ext e1 j1) fun H2 e2 j2 => hh M σ H2 _ ((A.ext e1 j1).ext e2 j2) fun H3 e3 j3 => by
    obtain ⟨p, vs, rfl, hp, r⟩ := ((r1.ext (A.ext e1 j1) e2).ext ((A.ext e1 j1).ext e2 j2) e3).list
    exact .inl ⟨p, vs, rfl, .inl (.inl hp), en_new A (e1.trans (e2.trans e3)) j3 (r.cut lo hi) k⟩
theorem ex_slT {ds : List PyData} {tl th : TO} {lo hi : Option Int} (ha : EX C te ρ (.tuple ds)) (hl : EO C tl ρ lo) (hh : EO C th ρ hi) : EX C (tSl (rSlAny K) te tl th) ρ (.tuple (cutD ds lo hi)) :=
  ep_sl ha.w hl hh fun M σ H x Q A rx k => by
    rcases rx with rx | ⟨_, _, _, _, h2, _⟩
    · obtain ⟨p, vs, rfl, n, hp, r⟩ := rx.tuple
      refine .inr ⟨p, vs, rfl, .inl (.inl hp), fun q => ?_, fun _ => new_tup A (Ext.refl H) A.j (r.cut lo hi) k⟩
      have e : cutD ds lo hi = ds := by
        unfold cutD
        rw [r.length] at q
        rw [q.1, q.2, List.drop_zero, Nat.sub_zero, List.take_length]
      rw [e] at k
      exact k _ H (Ext.refl H) A.j (.tup n hp r)
    · cases h2
theorem cutD_map {α : Type} (f : α → PyData) (xs : List α) (lo hi : Option Int) : cutD (xs.map f) lo hi = ((xs.drop (HT.sIx xs.length 0 lo)).take (HT.sIx xs.length xs.length hi - HT.sIx xs.length 0 lo)).map f := by
  unfold cutD
  rw [List.length_map, ← List.map_drop, ← List.map_take]
theorem cut_from {α : Type} (f : α → PyData) (xs : List α) (k : Nat) (h : k ≤ xs.length) : cutD (xs.map f) (some (k : Int)) none = (xs.drop k).map f := by
  rw [cutD_map, HT.sIx_nat, HT.sIx_none, Nat.min_eq_left h, List.take_of_length_le (by rw [List.length_drop]; exact Nat.le_refl _)]
theorem cut_to {α : Type} (f : α → PyData) (xs : List α) (k : Nat) (h : k ≤ xs.length) : cutD (xs.map f) none (some (k : Int)) = (xs.take k).map f := by
  rw [cutD_map, HT.sIx_nat, HT.sIx_none, Nat.min_eq_left h]
  simp
theorem ex_abs {i : Int} (ha : EX C ta ρ (.int i)) : EX C (tCB (fun xs H Q => ∃ i, xs = [V.int i] ∧ Q (.int (if i < 0 then -i else i)) H) (tCons ta tNil)) ρ (.int (if i < 0 then -i else i)) :=
  ex_cb ha fun M σ H x Q A rx k => ⟨i, by rw [rx.int_of], k _ H (Ext.refl H) A.j (.int _)⟩
theorem ex_int1 {i : Int} (ha : EX C ta ρ (.int i)) : EX C (tCB (fun xs H Q => (∃ i, xs = [V.int i] ∧ Q (.int i) H) ∨ ∃ k, xs = [V.bl k] ∧ Q (.int (if k then 1 else 0)) H) (tCons ta tNil)) ρ (.int i) :=
  ex_cb ha fun M σ H x Q A rx k => .inl ⟨i, by rw [rx.int_of], k _ H (Ext.refl H) A.j (.int _)⟩
end

/-! ### min and sorted of data -/
def rMinD (K : PySem.W.Frag) : List V → Hp → VK → Prop := fun vs H Q => ∃ (a : Addr) (xs : List V) (d : PyData) (ds : List PyData), vs = [.ref a] ∧ SqL K H a xs ∧ DpAll K H xs (d :: ds) ∧ flatDs (d :: ds) = true ∧ PySem.W.AlikeAll (d :: ds) ∧ PyData.depthAll (d :: ds) ≤ 60 ∧
  ∀ (i : Nat) x, xs[i]? = some x → (d :: ds)[i]? = some (PySem.W.minD d ds) → Q x H
theorem min_ok {X : Cx} (hc : X.calm = true) (hu : X.A.units + 64 < cLine) : CallR X (.builtin "min") (rMinD X.K) := by
  intro pins s σ H vs us Q I r h
  obtain ⟨a, xs, d, ds, rfl, hs, hd, hf, hal, hdep, q⟩ := h
  obtain ⟨its, rv, hl, _⟩ := I.list hs
  rw [Vals.ref1 r]
  obtain ⟨as, hr⟩ := Dp.readsAll I (d :: ds) xs its hd rv
  refine PySem.W.min_list_data (I.ok.hd hc) hl.isList (by simpa using hr) hal (by omega) fun i v h' tk bs e1 r1 kp => ?_
  have e1' : its[i]? = some v := by simpa using e1
  have hlt : i < xs.length := by rw [rv.length]; exact (List.getElem?_eq_some_iff.mp e1').1
  have ex : xs[i]? = some xs[i] := List.getElem?_eq_getElem hlt
  obtain ⟨u, e2, r2⟩ := rv.get ex
  rw [e1'] at e2
  cases e2
  have hdl : ∀ {vs : List V} {es : List PyData} {j : Nat} {z : V}, DpAll X.K H vs es → vs[j]? = some z → ∃ e, es[j]? = some e ∧ Dp X.K H z e := by
    intro vs
    induction vs with
    | nil => intro es j z _ e; simp at e
    | cons v vs ih =>
      intro es j z h e
      cases h with
      | cons h1 h2 =>
        cases j with
        | zero => simp at e; subst e; exact ⟨_, rfl, h1⟩
        | succ j =>
          obtain ⟨e', g1, g2⟩ := ih h2 (by simpa using e)
          exact ⟨e', by simpa using g1, g2⟩
  obtain ⟨e, g1, g2⟩ := hdl hd ex
  obtain ⟨as2, g3⟩ := Dp.reads I e _ _ g2 r2
  have g4 := Reads.unique (PySem.W.reads_keeps kp g3) _ _ r1
  rw [g4.1] at g1
  exact ⟨xs[i], H, I.kept kp, r2, q i _ ex g1⟩

def sortD (ds : List PyData) : List PyData := ds.mergeSort (PySem.W.dataLe false id)
def rSortD (K : PySem.W.Frag) : List V → Hp → VK → Prop := fun vs H Q => ∃ (a : Addr) (xs : List V) (ds : List PyData), vs = [.ref a] ∧ SqL K H a xs ∧ DpAll K H xs ds ∧ PySem.W.AllAlike ds ∧ PySem.W.Sortable ds ∧ (∀ d ∈ ds, d.depth ≤ 60) ∧
  ∀ p, H p = none → Q (.ref p) (upd H p (.lst (((xs.zip ds).mergeSort (PySem.W.dataLe false Prod.snd)).map Prod.fst)))
theorem dpAll_len {K : PySem.W.Frag} {H : Hp} : ∀ {vs : List V} {ds : List PyData}, DpAll K H vs ds → vs.length = ds.length
  | _, _, .nil => rfl
  | _, _, .cons _ b => congrArg (· + 1) (dpAll_len b)
theorem eachIs_zip {X : Cx} {pins : List (Addr × Obj)} {σ : L2.St} {H : Hp} {s : Shared} (I : Inv X pins σ H s) : ∀ {xs : List V} {ds : List PyData} {its : List Value}, DpAll X.K H xs ds → Vals xs its →
    PySem.W.EachIs (fun (v : Value) (b : V × PyData) => RelV b.1 v) its (xs.zip ds) ∧ PySem.W.EachIs (fun (v : Value) (b : V × PyData) => ∃ as, Reads s.heap v b.2 as) its (xs.zip ds)
  | _, _, _, .nil, .nil => ⟨.nil, .nil⟩
  | _, _, _, .cons h1 h2, .cons r1 r2 => by
    obtain ⟨a, b⟩ := eachIs_zip I h2 r2
    exact ⟨.cons r1 a, .cons (Dp.reads I _ _ _ h1 r1) b⟩
theorem eachIs_vals : ∀ {out : List Value} {zs : List (V × PyData)}, PySem.W.EachIs (fun (v : Value) (b : V × PyData) => RelV b.1 v) out zs → Vals (zs.map Prod.fst) out
  | _, _, .nil => .nil
  | _, _, .cons a b => .cons a (eachIs_vals b)
theorem zip_snd {α β : Type} : ∀ {xs : List α} {ds : List β}, xs.length = ds.length → (xs.zip ds).map Prod.snd = ds
  | [], [], _ => rfl
  | [], _ :: _, h => by cases h
  | _ :: _, [], h => by cases h
  | _ :: xs, _ :: ds, h => by
    rw [List.zip_cons_cons, List.map_cons, zip_snd (by simpa using h)]
open PySem.W PyProof.Rows in
theorem sorted_ok {X : Cx} (hu : X.A.units + 64 < cLine) : CallR X (.builtin "sorted") (rSortD X.K) := by
  intro pins s σ H vs us Q I r h
  obtain ⟨a, xs, ds, rfl, hs, hd, hal, hso, hdep, q⟩ := h
  obtain ⟨its, rv, hl, hz⟩ := I.list hs
  rw [Vals.ref1 r]
  obtain ⟨e1, e2⟩ := eachIs_zip I hd rv
  have hsnd := zip_snd (dpAll_len hd)
  refine PySem.W.sorted_data (bs := xs.zip ds) (enc := Prod.snd) hl.isList e1 e2 (by rw [hsnd]; exact hal) (by rw [hsnd]; exact hso) (by rw [List.length_zip, ← dpAll_len hd, Nat.min_self]; exact hz) (fun b hb => ?_) fun out ho eo => ?_
  · have hm : b.2 ∈ ds := by rw [← hsnd]; exact List.mem_map.mpr ⟨b, hb, rfl⟩
    have := hdep _ hm
    omega
  · obtain ⟨c, hc⟩ := sortedAll_at s.heap its out.toArray
    have kp : ∀ b o, s.heap.get? b = some o → (sortedAll s.heap its out.toArray).get? b = some o := fun _ _ => sortedAll_old
    have hp : H (s.heap.objs.size + 1) = none := I.hok.fresh (Nat.le_succ _)
    have hv := eachIs_vals eo
    have hz' : (((xs.zip ds).mergeSort (PySem.W.dataLe false Prod.snd)).map Prod.fst).length ≤ sizeLine := by
      rw [hv.length, ho, List.length_zip, ← dpAll_len hd, Nat.min_self]
      exact hz
    exact ⟨.ref (s.heap.objs.size + 1), _, I.laid (o := .lst (((xs.zip ds).mergeSort (PySem.W.dataLe false Prod.snd)).map Prod.fst)) (t' := s.toks) kp (Nat.le_succ _) ⟨hz', out, c, hv, hc⟩, rfl, q _ hp⟩
theorem RepL.unzip {M : MSet} {H : Hp} : ∀ {zs : List (V × PyData)}, (∀ z ∈ zs, Rep M H z.1 z.2) → RepL M H (zs.map Prod.fst) (zs.map Prod.snd)
  | [], _ => .nil
  | z :: zs, h => .cons (h z List.mem_cons_self) (RepL.unzip fun y hy => h y (List.mem_cons_of_mem _ hy))
theorem RepL.zip {M : MSet} {H : Hp} : ∀ {vs : List V} {ds : List PyData}, RepL M H vs ds → ∀ z ∈ vs.zip ds, Rep M H z.1 z.2
  | _, _, .nil, z, h => by cases h
  | _, _, .cons a b, z, h => by
    rw [List.zip_cons_cons] at h
    rcases List.mem_cons.mp h with rfl | h
    · exact a
    · exact RepL.zip b z h
section
variable {C : Cxt} {M M' : MSet} {ρ ρ' : List Sl} {σ : L2.St} {H H' : Hp} {ta tb te tc tl : TE} {d e f : PyData} {v : V} {K : PySem.W.Frag}
theorem en_sorted {ds : List PyData} (ha : EW C ta ρ (.list ds)) (hf : flatDs ds = true) (hal : PySem.W.AllAlike ds) (hso : PySem.W.Sortable ds) (hdep : ∀ d ∈ ds, d.depth ≤ 60) : EN C (tCB (rSortD K) (tCons ta tNil)) ρ (sortD ds) := fun M σ H Q A k =>
  ha M σ H _ A fun x H1 e j rx => by
    obtain ⟨p, vs, rfl, hp, r⟩ := rx.list
    refine ⟨p, vs, ds, rfl, .inl (.inl hp), r.dp hf, hal, hso, hdep, en_new A e j ?_ k⟩
    have h1 := RepL.unzip (M := M) (H := H1) (zs := (vs.zip ds).mergeSort (PySem.W.dataLe false Prod.snd)) fun z hz => r.zip z ((List.mergeSort_perm _ _).mem_iff.mp hz)
    have h2 : ((vs.zip ds).mergeSort (PySem.W.dataLe false Prod.snd)).map Prod.snd = sortD ds := by
      have h3 := PySem.W.sort_maps (r := PySem.W.dataLe false (Prod.snd : V × PyData → PyData)) (s := PySem.W.dataLe false id) Prod.snd (l := vs.zip ds) (fun _ _ _ _ => rfl)
      rw [zip_snd r.length] at h3
      exact h3
    rw [h2] at h1
    exact h1
theorem ex_min {d : PyData} {ds : List PyData} (ha : EW C ta ρ (.list (d :: ds))) (hf : flatDs (d :: ds) = true) (hal : PySem.W.AlikeAll (d :: ds)) (hdep : PyData.depthAll (d :: ds) ≤ 60) (hm : PySem.W.minD d ds ∈ d :: ds) : EX C (tCB (rMinD K) (tCons ta tNil)) ρ (PySem.W.minD d ds) := fun M σ H Q A k =>
  ha M σ H _ A fun x H1 e j rx => by
    obtain ⟨p, vs, rfl, hp, r⟩ := rx.list
    refine ⟨p, vs, d, ds, rfl, .inl (.inl hp), r.dp hf, hf, hal, hdep, fun i x h1 h2 => ?_⟩
    obtain ⟨d', g1, g2⟩ := r.get h1
    rw [h2] at g1
    cases g1
    exact k x H1 e j g2
end
end Ka

namespace Ka
open PySem L2

/-! ### the source's dict -/
theorem k_cl : ¬ (Sum.inr ("cells" : Str) : Key) = Sum.inr ("left" : Str) := by decide +kernel
theorem k_cm : ¬ (Sum.inr ("cells" : Str) : Key) = Sum.inr ("mixed" : Str) := by decide +kernel
theorem k_ct : ¬ (Sum.inr ("cells" : Str) : Key) = Sum.inr ("turn" : Str) := by decide +kernel
theorem k_lm : ¬ (Sum.inr ("left" : Str) : Key) = Sum.inr ("mixed" : Str) := by decide +kernel
theorem k_lt : ¬ (Sum.inr ("left" : Str) : Key) = Sum.inr ("turn" : Str) := by decide +kernel
theorem k_mt : ¬ (Sum.inr ("mixed" : Str) : Key) = Sum.inr ("turn" : Str) := by decide +kernel
theorem k_ml : ¬ (Sum.inr ("mixed" : Str) : Key) = Sum.inr ("left" : Str) := by decide +kernel
theorem k_tl : ¬ (Sum.inr ("turn" : Str) : Key) = Sum.inr ("left" : Str) := by decide +kernel
section
variable {c : Addr} {l m t x : Int}
theorem src_cells : valV (srcK c l m t) (Sum.inr ("cells" : Str)) = some (.ref c) := valV_pos rfl
theorem src_left : valV (srcK c l m t) (Sum.inr ("left" : Str)) = some (.int l) := (valV_neg k_cl).trans (valV_pos rfl)
theorem src_mixed : valV (srcK c l m t) (Sum.inr ("mixed" : Str)) = some (.int m) := (valV_neg k_cm).trans ((valV_neg k_lm).trans (valV_pos rfl))
theorem src_turn : valV (srcK c l m t) (Sum.inr ("turn" : Str)) = some (.int t) := (valV_neg k_ct).trans ((valV_neg k_lt).trans ((valV_neg k_mt).trans (valV_pos rfl)))
theorem put_left : putK (srcK c l m t) (Sum.inr ("left" : Str)) (.int x) = srcK c x m t := by
  unfold srcK
  rw [putK_cons_neg k_cl, putK_cons_pos (show (List.map (fun x : Key × V => x.1) [(Sum.inr ("left" : Str), V.int l), (Sum.inr ("mixed" : Str), V.int m), (Sum.inr ("turn" : Str), V.int t)]).Nodup from (by decide +kernel : ([Sum.inr ("left" : Str), Sum.inr ("mixed" : Str), Sum.inr ("turn" : Str)] : List Key).Nodup)) rfl]
theorem put_turn : putK (srcK c l m t) (Sum.inr ("turn" : Str)) (.int x) = srcK c l m x := by
  unfold srcK
  rw [putK_cons_neg k_ct, putK_cons_neg k_lt, putK_cons_neg k_mt, putK_cons_pos (show (List.map (fun x : Key × V => x.1) [(Sum.inr ("turn" : Str), V.int t)]).Nodup from (by decide +kernel : ([Sum.inr ("turn" : Str)] : List Key).Nodup)) rfl]
end
/-- at the source alone the heap has changed -/
theorem ExtS.refl {s c : Addr} (H : Hp) : ExtS s c H H := fun _ _ h _ _ => h
theorem ExtS.s {s c : Addr} {H H' : Hp} {o : HO} (e : ExtS s c H H') : ExtS s c H (upd H' s o) := fun a u h n1 n2 => by rw [upd_ne n1]; exact e a u h n1 n2
theorem ExtS.c {s c : Addr} {H H' : Hp} {o : HO} (e : ExtS s c H H') : ExtS s c H (upd H' c o) := fun a u h n1 n2 => by rw [upd_ne n2]; exact e a u h n1 n2
/-- what a pick gives -/
def pickR (n : Int) (d : PyData) : Prop := ∃ r : Int, d = .int r ∧ 0 ≤ r ∧ (r < n ∨ r = 0)
abbrev spPick : Sp := spS (fun n : Int => [.int n]) (fun n => n < 1073741824) pickR

/-! ### a display with written keys -/
inductive EPairs (C : Cxt) (ρ : List Sl) : List (TE × TE) → List (Key × PyData) → Prop
  | nil : EPairs C ρ [] []
  | cons {tk tv : TE} {trs : List (TE × TE)} {k : Key} {d : PyData} {kds : List (Key × PyData)} : EX C tk ρ (keyD k) → EX C tv ρ d → EPairs C ρ trs kds → EPairs C ρ ((tk, tv) :: trs) ((k, d) :: kds)
section
variable {C : Cxt} {M M' : MSet} {ρ ρ' : List Sl} {σ : L2.St} {H H' : Hp} {d e f : PyData} {v : V}
theorem pairs_run : ∀ {trs : List (TE × TE)} {kds : List (Key × PyData)}, EPairs C ρ trs kds → ∀ (M : MSet) (σ : L2.St) (H : Hp) (Q : List (V × V) → Hp → Prop), At C M ρ σ H →
    (∀ (ks : List (Key × V)) H', Ext C H H' → C.J H' → ks.map (·.1) = kds.map (·.1) → RepL M H' (ks.map (·.2)) (kds.map (·.2)) → Q (ks.map fun kv => (kV kv.1, kv.2)) H') → tPairs trs σ H Q
  | _, _, .nil, M, σ, H, Q, A, k => k [] H (Ext.refl H) A.j rfl .nil
  | _, _, .cons h1 h2 h3, M, σ, H, Q, A, k => h1 M σ H _ A fun x H1 e1 j1 r1 => h2 M σ H1 _ (A.ext e1 j1) fun y H2 e2 j2 r2 =>
    pairs_run h3 M σ H2 _ ((A.ext e1 j1).ext e2 j2) fun ks H3 e3 j3 g1 g2 => by
      have A2 := (A.ext e1 j1).ext e2 j2
      have q := k ((_, y) :: ks) H3 (e1.trans (e2.trans e3)) j3 (by rw [List.map_cons, List.map_cons, g1]) (.cons (r2.ext A2 e3) g2)
      rw [List.map_cons] at q
      rw [keyV r1]
      exact q
theorem mergeK_nodup : ∀ (ks : List (Key × V)) (acc : List (Key × V)), ((acc ++ ks).map (·.1)).Nodup → mergeK acc ks = acc ++ ks
  | [], acc, _ => by simp [mergeK]
  | p :: ks, acc, h => by
    have e : putK acc p.1 p.2 = acc ++ [p] := by
      refine putK_new _ ?_
      cases q : valV acc p.1 with
      | none => rfl
      | some v =>
        exfalso
        have hm := valV_in q
        rw [List.map_append, List.nodup_append] at h
        exact h.2.2 p.1 hm p.1 (List.mem_map.mpr ⟨p, List.mem_cons_self, rfl⟩) rfl
    show mergeK (putK acc p.1 p.2) ks = _
    rw [e, mergeK_nodup ks (acc ++ [p]) (by rw [List.append_assoc]; exact h), List.append_assoc]
    rfl
theorem ex_disp {trs : List (TE × TE)} {kds : List (Key × PyData)} (h : EPairs C ρ trs kds) (hn : (kds.map (·.1)).Nodup) (hz : kds.length ≤ 15) : EX C (tDisp trs) ρ (encK kds) := fun M σ H Q A k => fun p hp => by
  have A1 : At C (Mp M p) ρ σ (upd H p (.dK [])) := A.more (Ext.upd hp) (A.jupd hp) hp (by rw [upd_same]; exact fun z => nomatch z)
  have nS : ¬ C.S p := fun z => C.jdom H A.j p z hp
  refine pairs_run h (Mp M p) σ _ _ A1 fun ks H2 e j g1 g2 => ?_
  have hl : ks.length = kds.length := by have := congrArg List.length g1; simpa using this
  refine ⟨e p _ upd_same nS, ks, rfl, by rw [hl]; exact hz, ?_⟩
  rw [mergeK_nodup ks [] (by rw [List.nil_append, g1]; exact hn), List.nil_append]
  have st : Step (Mp M p) H2 M (upd H2 p (.dK ks)) := ⟨fun a o q n => by rw [upd_ne (show a ≠ p from fun z => n (.inr z))]; exact q, fun a m => .inl (.inl m)⟩
  refine k _ _ (fun a o q n => ?_) (C.jst H2 _ j fun a o q n => ?_) (.dK (A.nM hp) upd_same g1 (g2.step st) rfl)
  · rw [upd_ne (ne_of_none q hp)]
    exact e a o (by rw [upd_ne (ne_of_none q hp)]; exact q) n
  · rw [upd_ne (show a ≠ p from fun z => nS (z ▸ n))]; exact q
/-- a list of the caller's, that stands -/
theorem it_held {K : PySem.W.Frag} {i : Nat} {a : Addr} {xs : List V} {ds : List PyData} (hi : ρ[i]? = some (.val (.ref a))) (hx : ∀ (M : MSet) (σ : L2.St) (H : Hp), At C M ρ σ H → (∀ H', Step M H M H' → SqL K H' a xs) ∧ ∀ M' H', Step M H M' H' → SqL K H' a xs) (hl : xs.length = ds.length) (hr : ∀ M H, RepL M H xs ds) : IT C (iList K (tVar i)) ρ ds := fun M σ H R A k => by
  obtain ⟨o, h1, h2⟩ := A.slots i _ hi
  cases h2
  refine ⟨.ref a, h1, a, rfl, ⟨xs, (hx M σ H A).1 H (Step.refl M H)⟩, k (Itl K a) H (fun H => SqL K H a xs) (YAt xs) (Ext.refl H) A.j (by have w := walk_list (K := K) (a := a) (xs := xs); rw [hl] at w; exact w) (fun M' H' s => (hx M σ H A).2 M' H' s) fun i x H2 H3 M' d s _ hd y => ?_⟩
  obtain ⟨rfl, q⟩ := y
  obtain ⟨v, g1, g2⟩ := (hr M' _).getD hd
  rw [g1] at q
  cases q
  exact ⟨ExtA.refl _, g2⟩
end
end Ka

namespace Ka
open PySem L2
/-! ### t[::-1] of a tuple -/
theorem places_rev (n : Nat) : Builtin.Slice.slicePlaces ((n : Int) - 1) (-1) (-1) = n := by
  unfold Builtin.Slice.slicePlaces
  rw [if_neg (by decide)]
  by_cases h : (n : Int) - 1 > -1
  · rw [if_pos h]
    have e : (n : Int) - 1 - -1 - 1 = (n : Int) - 1 := by omega
    rw [e, show (-(-1) : Int) = 1 by decide, Int.ediv_one]
    omega
  · rw [if_neg h]
    omega
theorem pick_rev (items : Array Value) : (List.range items.size).filterMap (fun (m : Nat) => items[(((items.size : Int) - 1) + (m : Int) * (-1)).toNat]?) = items.toList.reverse := by
  apply List.ext_getElem?
  intro i
  have key : ∀ k, k ≤ items.size → (List.range k).filterMap (fun (m : Nat) => items[(((items.size : Int) - 1) + (m : Int) * (-1)).toNat]?) = items.toList.reverse.take k := by
    intro k
    induction k with
    | zero => intro _; rfl
    | succ k ih =>
      intro hk
      have hk' : k < items.toList.reverse.length := by rw [List.length_reverse, Array.length_toList]; omega
      rw [List.range_succ, List.filterMap_append, ih (by omega), List.take_succ_eq_append_getElem hk']
      have e : (((items.size : Int) - 1) + (k : Int) * (-1)).toNat = items.size - 1 - k := by omega
      congr 1
      rw [List.filterMap_cons, e]
      have hlt : items.size - 1 - k < items.size := by omega
      rw [Array.getElem?_eq_getElem hlt]
      simp [List.getElem_reverse]
  rw [key items.size (Nat.le_refl _), List.take_of_length_le (by rw [List.length_reverse, Array.length_toList]; exact Nat.le_refl _)]
section
variable {prog : Program} {w : World} {A : Around} {E : Value → Shared → Prop} {s : Shared}
theorem applied_rev {sl : Addr} {vl vu vs : Value} {n : Nat} {Q : Int × Int × Nat → Shared → Prop} (hs : s.heap.IsSliceOf sl vl vu vs) (pl : IsPart vl none) (pu : IsPart vu none) (ps : IsPart vs (some (-1)))
    (h : Q ((n : Int) - 1, -1, n) s) : wpAny (model prog w) A (Builtin.Slice.sliceApplied (.ref sl) (pure (n : Int))) Q E s := by
  obtain ⟨o1, o2, o3, o4⟩ := id hs
  unfold Builtin.Slice.sliceApplied
  unfold Builtin.Slice.sliceFields
  refine wpAny_bind (wpAny_bind (wpAny_field o2 o4 (x := vl) rfl (wpAny_bind (wpAny_field o2 o4 (x := vu) rfl (wpAny_bind (wpAny_field o2 o4 (x := vs) rfl (wpAny_pure ?_)))))))
  refine wpAny_bind (HT.slicePart_ ps ?_)
  show wpAny _ _ (if ((-1 : Int) == 0) = true then _ else _) _ _ s
  rw [if_neg (by decide : ¬ ((-1 : Int) == 0) = true)]
  refine wpAny_bind (HT.slicePart_ pl (wpAny_bind (HT.slicePart_ pu (wpAny_bind (wpAny_pure ?_)))))
  show wpAny _ _ (pure ((n : Int) - 1, (-1 : Int), Builtin.Slice.slicePlaces ((n : Int) - 1) (-1) (-1))) _ _ s
  rw [places_rev]
  exact wpAny_pure h
theorem item_rev {t sl : Addr} {items : Array Value} {vl vu vs : Value} {Q : Value → Shared → Prop} (hT : PyProof.Rows.IsTup s.heap t items) (hs : s.heap.IsSliceOf sl vl vu vs) (pl : IsPart vl none) (pu : IsPart vu none) (ps : IsPart vs (some (-1)))
    (h : Q (.ref s.heap.objs.size) { s with heap := s.heap.push { cls := .type "tuple", data := .seq items.toList.reverse.toArray } }) (hz : items.size ≤ sizeLine) : wpAny (model prog w) A (getItem (.ref t) (.ref sl)) Q E s := by
  have hok : sizeOk (.seq items.toList.reverse.toArray) := by
    show items.toList.reverse.toArray.size ≤ sizeLine
    rw [List.size_toArray, List.length_reverse, Array.length_toList]
    exact hz
  obtain ⟨o1, o2, o3, o4⟩ := id hs
  have hTy : s.TypeIs (.ref sl) "slice" := ⟨o1, o2, o3⟩
  unfold getItem
  try with_reducible refine wpAny_holding ?_
  first | refine wpAny_bind (wpAny_pure ?_) | skip
  refine wpAny_bind (wpAny_sequenceKey hT.typeIs (by decide) ?_)
  refine wpAny_bind (wpAny_callSpecial?_slot (name := Str.ofString "__getitem__") hT.typeIs PyProof.Rows.slot_tuple_getitem (wpAny_call_entry PyProof.Rows.slot_tuple_getitem hT.typeIs PyProof.Rows.entry_tuple_getitem ?_ (PyProof.Rows.args_tuple_getitem _ _)))
  show wpAny _ _ (Builtin.Tuple.tupleItemsOf (.ref t) >>= _) _ _ s
  refine wpAny_bind (PyProof.Rows.tupleItemsOf_ hT ?_)
  refine wpAny_bind (wpAny_typeOf hTy ?_)
  rw [if_pos (by decide : _)]
  refine wpAny_bind (applied_rev hs pl pu ps ?_)
  have hno : ¬ ((((items.size : Int) - 1) == 0 && (-1 : Int) == 1 && items.size == items.size) = true) := by
    simp
  show wpAny _ _ (if ((((items.size : Int) - 1) == 0 && (-1 : Int) == 1 && items.size == items.size)) = true then _ else _) _ _ s
  rw [if_neg hno, pick_rev]
  first
    | (exact wpAny_bind (m := Builtin.Tuple.tupleExact _) (wpAny_newObj_type (wpAny_pure ⟨_, rfl, wpAny_pure h⟩) hok))
    | (exact wpAny_bind (m := Builtin.Tuple.tupleExact _) (wpAny_newObj_type (wpAny_bind (wpAny_pure (wpAny_pure ⟨_, rfl, wpAny_pure h⟩))) hok))
    | (exact wpAny_bind (wpAny_bind (m := Builtin.Tuple.tupleExact _) (wpAny_newObj_type (wpAny_pure (wpAny_pure ⟨_, rfl, wpAny_pure h⟩)) hok)))
    | (exact wpAny_bind (wpAny_bind (m := Builtin.Tuple.tupleExact _) (wpAny_newObj_type (wpAny_pure ⟨_, rfl, wpAny_pure h⟩) hok)))
end
/-- list or tuple, gone backwards -/
def tRevA (K : PySem.W.Frag) (te : TE) : TE := fun σ H Q => te σ H fun x H1 => ∃ a xs, x = .ref a ∧ SqT K H1 a xs ∧ ∀ p, H1 p = none → Q (.ref p) (upd H1 p (.tup xs.reverse))
section
variable {X : Cx}
theorem pe_revT {e : Expr} {te : TE} {k : Nat} {p1 p2 p3 pos : Pos} (he : PE X e te) : PE X (.Subscript e (.Slice none none (some (.UnaryOp .USub (.Constant (.int 1) k p1) p2)) p3) pos) (tRevA X.K te) := by
  refine ⟨fun pins s σ H Q I h => PyProof.Rows.Subscript_ (thn (he.run pins s σ H _ I h) fun v s1 ⟨x, H1, I1, r1, q1⟩ => ?_)⟩
  obtain ⟨a, xs, rfl, hx, q⟩ := q1
  cases r1
  have hst : PO X (some (.UnaryOp .USub (.Constant (.int 1) k p1) p2)) (tPart (tUn (rU fun i => .int (-i)) (tC (.int 1)))) := po_some (pe_un un_neg pe_int)
  refine PySem.wpAny_Slice (thn (po_none.run pins s1 σ H1 (fun o H2 => o = none ∧ H2 = H1) I1 ⟨rfl, rfl⟩) fun vl s2 ⟨l, H2, I2, pl, el, e2⟩ => ?_)
  subst el
  subst e2
  refine thn (po_none.run pins s2 σ H2 (fun o H3 => o = none ∧ H3 = H2) I2 ⟨rfl, rfl⟩) fun vu s3 ⟨u, H3, I3, pu, eu, e3⟩ => ?_
  subst eu
  subst e3
  refine thn (hst.run pins s3 σ H3 (fun o H4 => o = some (-1) ∧ H4 = H3) I3 ⟨1, rfl, -1, rfl, rfl, rfl⟩) fun vs s4 ⟨o, H4, I4, ps, eo, e4⟩ => ?_
  subst eo
  subst e4
  have I5 : Inv X pins σ H4 { s4 with heap := s4.heap.push { cls := .type "slice", data := .fields #[vl, vu, vs] } } := I4.kept (t' := s4.toks) (fun b ob q => Heap.get?_push_of_some _ q)
  obtain ⟨its, r, ht, hz⟩ := I5.tuple hx
  have hl := r.length
  show wpAny (model X.prog X.w) X.A (PyProof.Rows.subscriptTail e (.Slice none none (some (.UnaryOp .USub (.Constant (.int 1) k p1) p2)) p3) (.ref a) (.ref s4.heap.objs.size)) (L2.EP X pins σ Q) X.xe _
  refine PyProof.Rows.tail_any (ops := [.ref a, .ref s4.heap.objs.size]) ht.typeIs (PyProof.Rows.slot_tuple_getitem.lookup) ?_ (by with_unfolding_all rfl)
  refine item_rev ht (Heap.IsSliceOf.new _ vl vu vs) pl pu ps ?_ (by rw [List.size_toArray, ← hl]; exact hz)
  refine ⟨.ref _, _, I5.laid (t' := s4.toks) (o := .tup xs.reverse) (fun b ob q => Heap.get?_push_of_some _ q) (Nat.le_refl _) ?_, rfl, q _ (I5.hok.fresh (Nat.le_refl _))⟩
  exact ⟨by rw [List.length_reverse]; exact hz, _, r.reverse, PyProof.Rows.IsTup.new _ _⟩
end
theorem ex_revT {C : Cxt} {ρ : List Sl} {te : TE} {K : PySem.W.Frag} {ds : List PyData} (ha : EX C te ρ (.tuple ds)) : EX C (tRevA K te) ρ (.tuple ds.reverse) := fun M σ H Q A k =>
  ha M σ H _ A fun x H1 e j rx => by
    obtain ⟨p, vs, rfl, _, hp, r⟩ := rx.tuple
    exact ⟨p, vs, rfl, .inl (.inl hp), new_tup A e j r.reverse k⟩
end Ka

namespace Ka
open PySem L2
/-! ### small things -/
theorem Room.units64 {k : Nat} {A : Around} (hr : Room k A) : A.units + 64 < cLine := by have := hr.un; omega
theorem Room.units65 {k : Nat} {A : Around} (hr : Room k A) : A.units + 65 < cLine := by have := hr.un; omega
theorem Room.units1 {k : Nat} {A : Around} (hr : Room k A) : A.units + 1 < cLine := by have := hr.un; omega
/-- built-ins that the text does not hide -/
structure NoGl (mg : Str → Option Value) : Prop where
  len : mg "len" = none
  int : mg "int" = none
  range : mg "range" = none
  abs : mg "abs" = none
  min : mg "min" = none
  max : mg "max" = none
  sum : mg "sum" = none
  sorted : mg "sorted" = none
  tuple : mg "tuple" = none
  list : mg "list" = none
  all : mg "all" = none
  any : mg "any" = none
  enumerate : mg "enumerate" = none
  zip : mg "zip" = none
  isinstance : mg "isinstance" = none
  set : mg "set" = none
  str : mg "str" = none
/-- the def st stands under its name -/
def DefAt (K : PySem.W.Frag) (mg : Str → Option Value) (x : Str) (st : Stmt) : Prop := ∃ (fa : Addr) (fd : FuncData), Fun K x x st fa fd ∧ mg x = some (.ref fa)
abbrev CalK (P : Program) (w : World) (K : PySem.W.Frag) (mg : Str → Option Value) (base : Heap) (k : Nat) (x : Str) (sp : Sp) : Prop := C8.Cal P w K mg base k x sp []
section
variable {P : Program} {w : World} {K : PySem.W.Frag} {mg : Str → Option Value} {base : Heap}
theorem calT {α : Type} {args : α → List PyData} {Pre : α → Prop} {g : α → PyData} {x : Str} {st : Stmt} {N ps : List Str} {k : Nat} (D : DefAt K mg x st) (S : FnScope N ps (defScope st))
    (hb : ∀ (kV doc pm : Value) (an : Option Addr) (cdv ct : Value) (us : List Value), us.length = ps.length → bindArgs (PySem.W.fnOf x x (defArgs st) (defBody st) (defScope st) .none kV doc pm an cdv ct) ⟨us, []⟩ = pure (ps.zip us)) (hl : ∀ x, (args x).length = ps.length) (hN : ps.length ≤ N.length)
    (hbody : ∀ (fa : Addr) (cdv : Value) (A : Around) (outer : List Env) (s : Shared) (H : Hp) (E : XK), Room k (A.deeper (PyProof.Rows.envOfC x (defScope st) s.heap.objs.size fa cdv)) →
      ∃ t, PSs (cxOf CX0 P w K mg base N x (defScope st) fa cdv A outer s H E).nox (defBody st) t ∧ ∀ (C : Cxt) (x : α), Pre x → SX C t ((args x).map Sl.dat ++ List.replicate (N.length - ps.length) .un) { nx := fun _ => g x = .none, rt := fun d => d = g x }) :
    CalK P w K mg base (k + 1) x (spT args Pre g) := by
  obtain ⟨fa, fd, F, hm⟩ := D
  exact ⟨fa, fd, ps, [], okT F S hl hN (hbody fa), hm, F.kp, F.binds hb, .nil⟩
theorem calS {α : Type} {args : α → List PyData} {Pre : α → Prop} {R : α → PyData → Prop} {x : Str} {st : Stmt} {N ps : List Str} {k : Nat} (D : DefAt K mg x st) (S : FnScope N ps (defScope st))
    (hb : ∀ (kV doc pm : Value) (an : Option Addr) (cdv ct : Value) (us : List Value), us.length = ps.length → bindArgs (PySem.W.fnOf x x (defArgs st) (defBody st) (defScope st) .none kV doc pm an cdv ct) ⟨us, []⟩ = pure (ps.zip us)) (hl : ∀ x, (args x).length + 1 = ps.length) (hN : ps.length ≤ N.length)
    (hbody : ∀ (fa : Addr) (cdv : Value) (A : Around) (outer : List Env) (s : Shared) (H : Hp) (E : XK), Room k (A.deeper (PyProof.Rows.envOfC x (defScope st) s.heap.objs.size fa cdv)) →
      ∃ t, PSs (cxOf CX0 P w K mg base N x (defScope st) fa cdv A outer s H E).nox (defBody st) t ∧ ∀ (C : Cxt) (s c : Addr) (x : α), IsSrc C s c → Pre x → SX C t (Sl.val (.ref s) :: ((args x).map Sl.dat ++ List.replicate (N.length - ps.length) .un)) { nx := fun _ => R x .none, rt := R x }) :
    CalK P w K mg base (k + 1) x (spS args Pre R) := by
  obtain ⟨fa, fd, F, hm⟩ := D
  exact ⟨fa, fd, ps, [], okS F S hl hN (hbody fa), hm, F.kp, F.binds hb, .nil⟩
end
theorem cmulL {i j : Int} (h : -1000000000000 < i ∧ i < 1000000000000) : CMul i j := .inl ⟨by omega, by omega⟩
theorem cmulR {i j : Int} (h : -1000000000000 < j ∧ j < 1000000000000) : CMul i j := .inr ⟨by omega, by omega⟩
theorem eqv_int (a b : Int) : PyData.eqv (.int a) (.int b) = decide (a = b) := by
  show (a == b) = decide (a = b)
  rw [Bool.beq_eq_decide_eq]
theorem eqv_bool (a b : Bool) : PyData.eqv (.bool a) (.bool b) = (a == b) := by
  cases a <;> cases b <;> rfl
theorem eqv_str (a b : Str) : PyData.eqv (.str a) (.str b) = decide (a = b) := by
  show (a == b) = decide (a = b)
  rw [Bool.beq_eq_decide_eq]
/-- tuples of ints -/
abbrev encW (ns : List Int) : PyData := .tuple (ns.map .int)
mutual
theorem eqv_self : ∀ d : PyData, flatD d = true → PyData.eqv d d = true
  | .none, _ => rfl
  | .bool _, _ => by simp [PyData.eqv]
  | .int _, _ => by simp [PyData.eqv]
  | .str _, _ => by simp [PyData.eqv]
  | .list ds, h => eqvs_self ds h
  | .tuple ds, h => eqvs_self ds h
  | .dict _, h => by cases h
theorem eqvs_self : ∀ ds : List PyData, flatDs ds = true → PyData.eqvAll ds ds = true
  | [], _ => rfl
  | d :: ds, h => by
    have h' : (flatD d && flatDs ds) = true := h
    rw [Bool.and_eq_true] at h'
    show (PyData.eqv d d && PyData.eqvAll ds ds) = true
    rw [eqv_self d h'.1, eqvs_self ds h'.2]
    rfl
end
theorem flat_ints : ∀ ns : List Int, flatDs (ns.map .int) = true
  | [] => rfl
  | _ :: ns => flat_ints ns
theorem shaped_ints (ns : List Int) : SeqAt.shaped (encW ns) = true := by
  have h1 : ∀ ns : List Int, PyData.canLayAll0 (ns.map .int) = true := fun ns => by
    induction ns with
    | nil => rfl
    | cons n ns ih => simpa [PyData.canLayAll0, PyData.canLay0] using ih
  have h2 : ∀ ns : List Int, PyData.depthAll (ns.map .int) ≤ 1 := fun ns => by
    induction ns with
    | nil => simp [PyData.depthAll]
    | cons n ns ih =>
      simp only [List.map_cons, PyData.depthAll, PyData.depth]
      omega
  unfold SeqAt.shaped
  rw [Bool.and_eq_true]
  refine ⟨h1 ns, decide_eq_true ?_⟩
  have := h2 ns
  simp only [PyData.depth]
  omega
end Ka

namespace Ka
open PySem L2
/-! ### what is drawn: known but for what holds of it -/
def EI (C : Cxt) (te : TE) (ρ : List Sl) (S : Int → Prop) : Prop := ES C te ρ fun d => ∃ i, d = .int i ∧ S i
def EAS (C : Cxt) (ta : TA) (ρ : List Sl) (S : List PyData → Prop) : Prop := ∀ (M : MSet) (σ : L2.St) (H : Hp) (Q : List V → Hp → Prop), At C M ρ σ H → (∀ vs ds H', Ext C H H' → C.J H' → S ds → RepL M H' vs ds → Q vs H') → ta σ H Q
def ITS (C : Cxt) (wi : TI) (ρ : List Sl) (X : List PyData → Prop) : Prop := ∀ (M : MSet) (σ : L2.St) (H : Hp) (R : It → Hp → Prop), At C M ρ σ H →
  (∀ (xs : List PyData) (J : It) (H1 : Hp) (G : Hp → Prop) (Y : Nat → Hp → V → Hp → Prop), X xs → Ext C H H1 → C.J H1 → Walk J xs.length G Y → (∀ M' H', Step M H1 M' H' → G H') →
    (∀ (i : Nat) x H2 H3 M' d, Step M H1 M' H2 → (∀ a, M' a → H2 a ≠ none) → xs[i]? = some d → Y i H2 x H3 → ExtA H2 H3 ∧ Rep M' H3 x d) → R J H1) → wi σ H R
def ENS (C : Cxt) (te : TE) (ρ : List Sl) (S : List PyData → Prop) : Prop := ∀ (M : MSet) (σ : L2.St) (H : Hp) (Q : VK), At C M ρ σ H → (∀ p vs ds H', S ds → Ext C H H' → C.J H' → H p = none → H' p = some (.lst vs) → RepL (Mp M p) H' vs ds → Q (.ref p) H') → te σ H Q
/-- a test that may come out both ways -/
def ETS (C : Cxt) (tt : TT) (ρ : List Sl) (S : Bool → Prop) : Prop := ∀ (M : MSet) (σ : L2.St) (H : Hp) (Q : Bool → Hp → Prop), At C M ρ σ H → (∀ b H', S b → Ext C H H' → C.J H' → Q b H') → tt σ H Q
section
variable {C : Cxt} {M M' : MSet} {ρ ρ' : List Sl} {σ : L2.St} {H H' : Hp} {ta tb te tc tl : TE} {d e f : PyData} {v : V} {P : Out} {t u tb' : TS} {wi : TI}
theorem EX.i {i : Int} (h : EX C te ρ (.int i)) : EI C te ρ fun j => j = i := h.s ⟨i, rfl, rfl⟩
theorem ES.mono {S T : PyData → Prop} (h : ES C te ρ S) (k : ∀ d, S d → T d) : ES C te ρ T := fun M σ H Q A q => h M σ H Q A fun v H' e j ⟨d, s, r⟩ => q v H' e j ⟨d, k d s, r⟩
theorem EI.mono {S T : Int → Prop} (h : EI C te ρ S) (k : ∀ i, S i → T i) : EI C te ρ T := ES.mono h fun _ ⟨i, e, s⟩ => ⟨i, e, k i s⟩
theorem ES.i {S : PyData → Prop} {T : Int → Prop} (h : ES C te ρ S) (k : ∀ d, S d → ∃ i, d = .int i ∧ T i) : EI C te ρ T := ES.mono h k
theorem es_op {r : R2} {S1 S2 S : PyData → Prop} (ha : ES C ta ρ S1) (hb : ES C tb ρ S2) (hr : ∀ (M : MSet) (σ : L2.St) (H : Hp) (x y : V) (d e : PyData) (Q : VK), S1 d → S2 e → At C M ρ σ H → Rep M H x d → Rep M H y e → (∀ v H' f, Ext C H H' → C.J H' → S f → Rep M H' v f → Q v H') → r x y H Q) : ES C (tOp r ta tb) ρ S := fun M σ H Q A k =>
  ha M σ H _ A fun x H1 e1 j1 ⟨d, s1, r1⟩ => hb M σ H1 _ (A.ext e1 j1) fun y H2 e2 j2 ⟨e, s2, r2⟩ =>
    hr M σ H2 x y d e Q s1 s2 ((A.ext e1 j1).ext e2 j2) (r1.ext (A.ext e1 j1) e2) r2 fun v H' f e3 j3 s3 r3 => k v H' ((e1.trans e2).trans e3) j3 ⟨f, s3, r3⟩
theorem ei_I0 {g : Int → Int → Int} {S1 S2 : Int → Prop} (ha : EI C ta ρ S1) (hb : EI C tb ρ S2) : EI C (tOp (rI0 fun i j => .int (g i j)) ta tb) ρ fun k => ∃ i j, S1 i ∧ S2 j ∧ k = g i j :=
  es_op ha hb fun M σ H x y d e Q ⟨i, ei, s1⟩ ⟨j, ej, s2⟩ A rx ry k => by
    subst ei
    subst ej
    exact ⟨i, j, rx.int_of, ry.int_of, k _ H _ (Ext.refl H) A.j ⟨_, rfl, i, j, s1, s2, rfl⟩ (.int _)⟩
theorem ei_add {K : PySem.W.Frag} {S1 S2 : Int → Prop} (ha : EI C ta ρ S1) (hb : EI C tb ρ S2) : EI C (tOp (rAddAny K) ta tb) ρ fun k => ∃ i j, S1 i ∧ S2 j ∧ k = i + j :=
  es_op ha hb fun M σ H x y d e Q ⟨i, ei, s1⟩ ⟨j, ej, s2⟩ A rx ry k => by
    subst ei
    subst ej
    exact .inl ⟨i, j, rx.int_of, ry.int_of, k _ H _ (Ext.refl H) A.j ⟨_, rfl, i, j, s1, s2, rfl⟩ (.int _)⟩
theorem eas_nil : EAS C tNil ρ fun ds => ds = [] := fun M σ H Q A k => k [] [] H (Ext.refl H) A.j rfl .nil
theorem eas_cons {t : TA} {S : PyData → Prop} {T : List PyData → Prop} (h : ES C te ρ S) (h2 : EAS C t ρ T) : EAS C (tCons te t) ρ fun ds => ∃ d r, ds = d :: r ∧ S d ∧ T r := fun M σ H Q A k =>
  h M σ H _ A fun v H1 e1 j1 ⟨d, s, r1⟩ => h2 M σ H1 _ (A.ext e1 j1) fun vs ds H2 e2 j2 s2 r2 => k (v :: vs) (d :: ds) H2 (e1.trans e2) j2 ⟨d, ds, rfl, s, s2⟩ (.cons (r1.ext (A.ext e1 j1) e2) r2)
theorem es_callS {α : Type} {args : α → List PyData} {Pre : α → Prop} {R : α → PyData → Prop} {T : List PyData → Prop} {R' : PyData → Prop} {t : TA} {E : XK} {i : Nat} {s c : Addr} (I : IsSrc C s c) (hi : ρ[i]? = some (.val (.ref s))) (h : EAS C t ρ T) (hp : ∀ ds, T ds → ∃ x, ds = args x ∧ Pre x ∧ ∀ d, R x d → R' d) :
    ES C (tCall (spS args Pre R) [] E (tCons (tVar i) t)) ρ R' := fun M σ H Q A k => by
  obtain ⟨o, h1, h2⟩ := A.slots i _ hi
  cases h2
  refine ⟨.ref s, h1, h M σ H _ A fun vs ds H1 e j sd r => ?_⟩
  obtain ⟨x, rfl, hx, hR⟩ := hp ds sd
  have A1 := A.ext e j
  refine ⟨M, s, c, x, vs, by rw [List.append_nil], A.ms ((I.hS s).mpr (.inl rfl)), A.ms ((I.hS c).mpr (.inr rfl)), A1.dom, (I.hJ H1).mp j, r, hx, fun v H2 d e2 j2 hd r2 => k v H2 (e.trans fun a o q n => ?_) ((I.hJ H2).mpr j2) ⟨d, hR d hd, r2⟩⟩
  exact e2 a o q (fun z => n ((I.hS a).mpr (.inl z))) fun z => n ((I.hS a).mpr (.inr z))
theorem its_rng1 {ta : TA} {S : Int → Prop} (h : EAS C ta ρ fun ds => ∃ n, ds = [.int n] ∧ S n) (hn : ∀ n, S n → n < 4611686018427387904 ∧ -4611686018427387904 ≤ n) : ITS C (iRng1 ta) ρ fun xs => ∃ n : Int, S n ∧ xs = (List.range n.toNat).map fun i => .int (i : Nat) := fun M σ H R A k =>
  h M σ H _ A fun vs ds H1 e j ⟨n, en, sn⟩ r => by
    subst en
    have w := it_rng1 (C := C) (ρ := ρ) (ta := fun _ H Q => Q vs H) (n := n) (fun M2 σ2 H2 Q2 A2 k2 => k2 vs H2 (Ext.refl H2) A2.j (by
      cases r with
      | cons a b => cases b; cases a; exact .cons (.int _) .nil)) (hn n sn)
    exact w M σ H1 R (A.ext e j) fun J H2 G Y e2 j2 => k _ J H2 G Y ⟨n, sn, rfl⟩ (e.trans e2) j2
/-- a comprehension of drawn things -/
theorem ens_lc {g : TG} {vs : List Nat} {X : List PyData → Prop} {Pe : PyData → Prop} (hw : ITS C wi ρ X) (hX : ∀ xs, X xs → xs.length ≤ 16777215)
    (ht : ∀ xs x, X xs → x ∈ xs → ∃ ρ2, GX C g vs x (wipeR ρ vs) ρ2 ∧ ES C te ρ2 Pe) : ENS C (tLc wi g tYes te vs) ρ fun ds => ∃ xs, X xs ∧ ds.length = xs.length ∧ ∀ d ∈ ds, Pe d := fun M σ H Q A k =>
  hw M σ H _ A fun xs J H1 G Y hxs e j w hG hY => fun D hD => by
    have A1 := A.ext e j
    have nS : ¬ C.S D := fun z => C.jdom H1 j D z hD
    have hp0 : H D = none := by
      cases q : H D with
      | none => rfl
      | some o => rw [e D o q nS] at hD; cases hD
    refine lc_it w (fun i H' => Ext C H1 H' ∧ C.J H' ∧ ∃ acc ds, H' D = some (.lst acc) ∧ RepL (Mp M D) H' acc ds ∧ ds.length = i ∧ ∀ d ∈ ds, Pe d) ⟨Ext.upd hD, jupd j hD, [], [], upd_same, .nil, rfl, fun _ h => by cases h⟩ (fun i H' _ ⟨e', _, _⟩ => hG M H' (A1.step e')) (fun i x H2 H3 hi ⟨e2, j2, acc, ds, ha, hr, hlen, hall⟩ y => ?_) fun H' ⟨e', j', acc, ds, ha, hr, hlen, hall⟩ => ?_
    · have hy : xs[i]? = some xs[i] := List.getElem?_eq_getElem hi
      have B2 : At C (Mp M D) ρ σ H2 := A1.more e2 j2 hD (by rw [ha]; exact fun z => nomatch z)
      have s2 : Step M H1 (Mp M D) H2 := Step.mp hD e2 A1
      obtain ⟨ex, r⟩ := hY i x H2 H3 (Mp M D) _ s2 B2.dom hy y
      have B3 := B2.ext ex.c (ex.j j2)
      obtain ⟨ρ2, hg, hte⟩ := ht xs _ hxs (List.getElem_mem hi)
      refine hg (Mp M D) (L2.wipe σ vs) H3 x _ (B3.wipe vs) r fun σ2 B4 hw2 => ⟨hw2.trans (wipe_idem vs σ), ?_⟩
      refine et_yes (C := C) (Mp M D) σ2 H3 _ B4 fun H4 e4 j4 => ?_
      refine hte (Mp M D) σ2 H4 _ (B4.ext e4 j4) fun v H5 e5 j5 ⟨d, hd, r5⟩ => ?_
      have e25 : Ext C H2 H5 := ex.c.trans (e4.trans e5)
      have ha5 : H5 D = some (.lst acc) := e25 D _ ha nS
      have := hX xs hxs
      refine ⟨acc, ha5, by rw [sizeLine_eq, hr.length]; omega, fun a o q n => ?_, ?_, acc ++ [v], ds ++ [d], upd_same, ?_, by simp [hlen], ?_⟩
      · rw [upd_ne (ne_of_none q hD)]
        exact e25 a o (e2 a o q n) n
      · exact C.jst H5 _ j5 fun a o q n => by rw [upd_ne (show a ≠ D from fun z => nS (z ▸ n))]; exact q
      · have st : Step (Mp M D) H5 (Mp M D) (upd H5 D (.lst (acc ++ [v]))) := ⟨fun a o q n => by rw [upd_ne (show a ≠ D from fun z => n (.inr z))]; exact q, fun a m => .inl m⟩
        exact ((hr.step (B2.step e25)).append (.cons r5 .nil)).step st
      · intro z hz
        rw [List.mem_append] at hz
        rcases hz with hz | hz
        · exact hall z hz
        · rw [List.mem_singleton.mp hz]; exact hd
    · exact k D acc ds H' ⟨xs, hxs, hlen, hall⟩ (e.trans e') j' hp0 ha hr
theorem ENS.s {S : List PyData → Prop} (h : ENS C te ρ S) : ES C te ρ fun d => ∃ ds, d = .list ds ∧ S ds := fun M σ H Q A k => h M σ H Q A fun p vs ds H' s e j hp hl r =>
  k _ H' e j ⟨_, ⟨ds, rfl, s⟩, .lst (A.nM hp) hl (r.step (Step.anti fun a m => .inl m))⟩
theorem es_tupleL {K : PySem.W.Frag} {S : List PyData → Prop} (h : ENS C te ρ S) : ES C (tCB (rTupleOf K) (tCons te tNil)) ρ fun d => ∃ ds, d = .tuple ds ∧ S ds := fun M σ H Q A k =>
  h M σ H _ A fun p vs ds H1 s e j hp hl r => ⟨p, vs, rfl, .inl ⟨.inl (.inl hl), fun q hq => by
    have A1 := A.ext e j
    have r1 : RepL M H1 vs ds := r.step (Step.anti fun a m => .inl m)
    exact k _ _ (e.trans (Ext.upd hq)) (jupd j hq) ⟨_, ⟨ds, rfl, s⟩, .tup (A1.nM hq) upd_same (r1.step (Step.upd hq))⟩⟩⟩
theorem sx_ifS {c : TT} {S : Bool → Prop} (hc : ETS C c ρ S) (h1 : S true → SX C t ρ P) (h2 : S false → SX C u ρ P) : SX C (tIfS c t u) ρ P := fun M σ H D A k1 k2 k3 k4 => hc M σ H _ A fun b H1 s e j => by
  have go : ∀ {w : TS}, SX C w ρ P → w D σ H1 := fun {w} hw => hw M σ H1 D (A.ext e j) (fun M' ρ' σ' H' q B s => k1 M' ρ' σ' H' q B ((A.step e).trans s)) k2 (fun M' ρ' σ' H' q B s => k3 M' ρ' σ' H' q B ((A.step e).trans s)) (fun M' ρ' σ' H' q B s => k4 M' ρ' σ' H' q B ((A.step e).trans s))
  cases b with
  | true => exact go (h1 s)
  | false => exact go (h2 s)
theorem ets_test {S : Bool → Prop} (h : ES C te ρ fun d => ∃ b, d = .bool b ∧ S b) : ETS C (tTest te) ρ S := fun M σ H Q A k => h M σ H _ A fun v H1 e j ⟨d, ⟨b, eb, s⟩, r⟩ => by
  subst eb
  exact ⟨b, r.bl_of, k b H1 s e j⟩
theorem es_eqI {K : PySem.W.Frag} {S1 S2 : Int → Prop} (ha : EI C ta ρ S1) (hb : EI C tb ρ S2) : ES C (tOp (rEqD K) ta tb) ρ fun d => ∃ b, d = .bool b ∧ ∃ i j, S1 i ∧ S2 j ∧ b = decide (i = j) :=
  es_op ha hb fun M σ H x y d e Q ⟨i, ei, s1⟩ ⟨j, ej, s2⟩ A rx ry k => by
    subst ei
    subst ej
    exact ⟨_, _, rx.dp rfl, ry.dp rfl, rfl, rfl, k _ H _ (Ext.refl H) A.j ⟨_, rfl, i, j, s1, s2, eqv_int i j⟩ (.bl _)⟩
theorem es_if {t : TT} {S : Bool → Prop} {T : PyData → Prop} (h : ETS C t ρ S) (h1 : ES C ta ρ T) (h2 : ES C tb ρ T) : ES C (tIf t ta tb) ρ T := fun M σ H Q A k => h M σ H _ A fun b H1 s e j => by
  cases b with
  | true => exact h1 M σ H1 Q (A.ext e j) fun v H2 e2 j2 r2 => k v H2 (e.trans e2) j2 r2
  | false => exact h2 M σ H1 Q (A.ext e j) fun v H2 e2 j2 r2 => k v H2 (e.trans e2) j2 r2
theorem sx_parS {i j : Nat} {ta : TA} {T : List PyData → Prop} (he : EAS C ta ρ T) (h2 : ∀ ds, T ds → ds.length = 2) (h : ∀ d1 d2, T [d1, d2] → P.nx ((ρ.set i (.dat d1)).set j (.dat d2))) : SX C (tPar i j ta) ρ P := fun M σ H D A k1 k2 k3 k4 =>
  he M σ H _ A fun vs ds H1 e jj s r => by
    have hl := h2 ds s
    match ds, r, hl with
    | [d1, d2], .cons a (.cons b .nil), _ => exact ⟨_, _, rfl, k1 M _ _ H1 (h d1 d2 s) (((A.ext e jj).set (s := .dat d1) ⟨_, rfl, a⟩ rfl).set (s := .dat d2) ⟨_, rfl, b⟩ rfl) (A.step e)⟩
end

/-! ### the least of words -/
def minW : List (List Int) → List Int
  | [] => []
  | w :: ws => ws.foldl (fun a y => if y < a then y else a) w
theorem minW_mem : ∀ {w : List Int} {ws : List (List Int)}, minW (w :: ws) ∈ w :: ws
  | w, [] => List.mem_cons_self
  | w, y :: ws => by
    have h := minW_mem (w := if y < w then y else w) (ws := ws)
    show ws.foldl _ (if y < w then y else w) ∈ w :: y :: ws
    have h' : ws.foldl (fun a y => if y < a then y else a) (if y < w then y else w) ∈ (if y < w then y else w) :: ws := h
    rcases List.mem_cons.mp h' with e | e
    · rw [e]
      split <;> simp
    · exact List.mem_cons_of_mem _ (List.mem_cons_of_mem _ e)
theorem dataLt_W (a b : List Int) : PySem.W.dataLt (encW a) (encW b) = decide (a < b) := by
  rw [PySem.W.dataLt_tuple]
  exact PySem.W.dataLt_ints a b
theorem minD_W : ∀ (w : List Int) (ws : List (List Int)), PySem.W.minD (encW w) (ws.map encW) = encW (minW (w :: ws))
  | w, [] => rfl
  | w, y :: ws => by
    have e : (if PySem.W.dataLt (encW y) (encW w) = true then encW y else encW w) = encW (if y < w then y else w) := by
      rw [dataLt_W]
      by_cases h : y < w
      · rw [if_pos (decide_eq_true h), if_pos h]
      · rw [if_neg (by rw [decide_eq_false h]; decide), if_neg h]
    show (ws.map encW).foldl _ (if PySem.W.dataLt (encW y) (encW w) = true then encW y else encW w) = _
    rw [e]
    exact minD_W _ ws
theorem alike_ints : ∀ a b : List Int, PySem.W.alikeAll (a.map .int) (b.map .int) = true
  | [], _ => by simp [PySem.W.alikeAll]
  | _ :: _, [] => by simp [PySem.W.alikeAll]
  | x :: a, y :: b => by
    simp only [List.map_cons, PySem.W.alikeAll, PySem.W.alike, Bool.true_and]
    exact alike_ints a b
theorem alike_W (a b : List Int) : PySem.W.alike (encW a) (encW b) = true := by
  simp only [encW, PySem.W.alike]
  exact alike_ints a b
theorem depth_ints : ∀ ns : List Int, PyData.depthAll (ns.map .int) = 0
  | [] => rfl
  | n :: ns => by simp only [List.map_cons, PyData.depthAll, PyData.depth, depth_ints ns]; rfl
theorem depth_W (a : List Int) : (encW a).depth = 1 := by
  simp only [encW, PyData.depth, depth_ints]
theorem depths_W : ∀ ws : List (List Int), PyData.depthAll (ws.map encW) ≤ 1
  | [] => by simp [PyData.depthAll]
  | w :: ws => by
    have := depths_W ws
    simp only [List.map_cons, PyData.depthAll, depth_W]
    omega
theorem flat_W : ∀ ws : List (List Int), flatDs (ws.map encW) = true
  | [] => rfl
  | w :: ws => by
    show (flatDs (w.map .int) && flatDs (ws.map encW)) = true
    rw [flat_ints, flat_W ws]
    rfl
theorem ex_minW {C : Cxt} {ρ : List Sl} {ta : TE} {K : PySem.W.Frag} {ws : List (List Int)} (hne : ws ≠ []) (ha : EW C ta ρ (.list (ws.map encW))) : EX C (tCB (rMinD K) (tCons ta tNil)) ρ (encW (minW ws)) := by
  cases ws with
  | nil => exact absurd rfl hne
  | cons w ws =>
    have h := ex_min (K := K) (d := encW w) (ds := ws.map encW) ha (flat_W (w :: ws)) ⟨fun x hx y hy => ?_, fun x hx => ?_⟩ (by have := depths_W (w :: ws); simp only [List.map_cons] at this; omega) ?_
    · rw [minD_W] at h
      exact h
    · have hx' : x ∈ (w :: ws).map encW := hx
      have hy' : y ∈ (w :: ws).map encW := hy
      obtain ⟨a, _, rfl⟩ := List.mem_map.mp hx'
      obtain ⟨b, _, rfl⟩ := List.mem_map.mp hy'
      exact alike_W a b
    · have hx' : x ∈ (w :: ws).map encW := hx
      obtain ⟨a, _, rfl⟩ := List.mem_map.mp hx'
      exact fun z => nomatch z
    · rw [minD_W]
      exact List.mem_map.mpr ⟨_, minW_mem, rfl⟩
/-- the least is the same if the words are -/
theorem minW_le : ∀ (ws : List (List Int)) (w : List Int), ∀ y ∈ w :: ws, ¬ y < minW (w :: ws)
  | [], w, y, hy => by
    rw [List.mem_singleton.mp hy]
    exact List.lt_irrefl _
  | z :: ws, w, y, hy => by
    have h := minW_le ws (if z < w then z else w)
    have e : minW (w :: z :: ws) = minW ((if z < w then z else w) :: ws) := rfl
    rw [e]
    rcases List.mem_cons.mp hy with rfl | hy
    · have h0 := h _ List.mem_cons_self
      by_cases hz : z < y
      · rw [if_pos hz] at h0 ⊢
        exact fun q => h0 (List.lt_trans hz q)
      · rw [if_neg hz] at h0 ⊢
        exact h0
    · rcases List.mem_cons.mp hy with rfl | hy
      · have h0 := h _ List.mem_cons_self
        by_cases hz : y < w
        · rw [if_pos hz] at h0 ⊢
          exact h0
        · rw [if_neg hz] at h0 ⊢
          intro q
          exact h0 (List.lt_of_le_of_lt (List.not_lt.mp hz) q)
      · exact h y (List.mem_cons_of_mem _ hy)
theorem minW_same {a b : List (List Int)} (ha : a ≠ []) (hb : b ≠ []) (h : ∀ x, x ∈ a ↔ x ∈ b) : minW a = minW b := by
  cases a with
  | nil => exact absurd rfl ha
  | cons x a =>
    cases b with
    | nil => exact absurd rfl hb
    | cons y b =>
      have h1 := minW_le a x _ ((h _).mpr minW_mem)
      have h2 := minW_le b y _ ((h _).mp minW_mem)
      exact List.le_antisymm (List.not_lt.mp h1) (List.not_lt.mp h2)
end Ka

namespace Ka
open PySem L2
/-! ### the rules at a written part that is told (within a comprehension's block too) -/
section
variable {X : Cx} (K : PySem.W.Frag)
theorem kAdd (h : X.K = K := by rfl) : OpR X (binaryOp .Add) (rAddAny K) := h ▸ op_addAny
theorem kMul (h : X.K = K := by rfl) : OpR X (binaryOp .Mult) (rMulAny K) := h ▸ op_mulAny
theorem kSl (h : X.K = K := by rfl) : SlR X (rSlAny K) := h ▸ sl_any
theorem kIx (h : X.K = K := by rfl) : IxR X (rIx K) := h ▸ ix_seq
theorem kEq {k : Nat} (hr : Room k X.A) (h : X.K = K := by rfl) : OpR X (compareOp .Eq) (rEqD K) := h ▸ op_eqD (Room.units64 hr)
theorem kNe {k : Nat} (hr : Room k X.A) (h : X.K = K := by rfl) : OpR X (compareOp .NotEq) (rNeD K) := h ▸ op_neD (Room.units64 hr)
theorem kIn {k : Nat} (hr : Room k X.A) (h : X.K = K := by rfl) : OpR X (compareOp .In) (rInD K) := h ▸ op_inD (Room.units65 hr)
theorem kNotIn {k : Nat} (hr : Room k X.A) (h : X.K = K := by rfl) : OpR X (compareOp .NotIn) (rNotInD K) := h ▸ op_notInD (Room.units65 hr)
theorem kLen (h : X.K = K := by rfl) : CallR X (.builtin "len") (rLen K) := h ▸ call_len
theorem kTuple (h : X.K = K := by rfl) : CallR X (.type "tuple") (rTupleOf K) := h ▸ call_tuple_of
theorem kList (h : X.K = K := by rfl) : CallR X (.type "list") (rListOf K) := h ▸ call_list_of
theorem kMin {k : Nat} (hr : Room k X.A) (hc : X.calm = true := by rfl) (h : X.K = K := by rfl) : CallR X (.builtin "min") (rMinD K) := h ▸ min_ok hc (Room.units64 hr)
theorem kSorted {k : Nat} (hr : Room k X.A) (h : X.K = K := by rfl) : CallR X (.builtin "sorted") (rSortD K) := h ▸ sorted_ok (Room.units64 hr)
theorem kSum (hc : X.calm = true := by rfl) (h : X.K = K := by rfl) : CallR X (.builtin "sum") (rSum K) := h ▸ cr_sum hc
theorem kAll (hc : X.calm = true := by rfl) (h : X.K = K := by rfl) : CallR X (.builtin "all") (rAll K) := h ▸ cr_all hc
theorem kAny (hc : X.calm = true := by rfl) (h : X.K = K := by rfl) : CallR X (.builtin "any") (rAny K) := h ▸ cr_any hc
theorem kiList {tg l : Expr} {tl : TE} (hl : PE X l tl) (h : X.K = K := by rfl) : PI X tg l (iList K tl) := h ▸ pi_list hl
theorem kiTup {tg l : Expr} {tl : TE} (hl : PE X l tl) (h : X.K = K := by rfl) : PI X tg l (iTup K tl) := h ▸ pi_tup hl
theorem kgTup {es : List Expr} {k : Nat} {t : TGs} {n : Nat} {pos : Pos} (hc : X.calm = true) (h : PGs X es t) (hn : (assignEach es X.env).length = n := by rfl) (hst : (assignEach es X.env).findIdx? (·.1) = none := by rfl) (hK : X.K = K := by rfl) : PG X (.Tuple es k pos) (gTup K n t) := hK ▸ pg_tup hc h hn hst
theorem keRevL {e : Expr} {te : TE} {k : Nat} {p1 p2 p3 pos : Pos} (he : PE X e te) (hK : X.K = K := by rfl) : PE X (.Subscript e (.Slice none none (some (.UnaryOp .USub (.Constant (.int 1) k p1) p2)) p3) pos) (tRevL K te) := hK ▸ pe_revL he
theorem keRevT {e : Expr} {te : TE} {k : Nat} {p1 p2 p3 pos : Pos} (he : PE X e te) (hK : X.K = K := by rfl) : PE X (.Subscript e (.Slice none none (some (.UnaryOp .USub (.Constant (.int 1) k p1) p2)) p3) pos) (tRevA K te) := hK ▸ pe_revT he
end
end Ka

namespace Ka
open PySem L2
theorem rep_dk {M : MSet} {H : Hp} {v : V} {kvs : List (Key × PyData)} (r : Rep M H v (encK kvs)) : ∃ p ks, v = .ref p ∧ ¬ M p ∧ H p = some (.dK ks) ∧ ks.map (·.1) = kvs.map (·.1) ∧ RepL M H (ks.map (·.2)) (kvs.map (·.2)) := by
  generalize q : encK kvs = z at r
  cases r <;> first | (cases q; done) | skip
  case dT a ks kvs' kv n h1 h2 h3 h4 =>
    injection q with q
    rw [h4] at q
    cases kvs' with
    | nil => cases q
    | cons p r =>
      rw [List.map_cons] at q
      injection q with q1 q2
      injection q1 with q3 q4
      cases q3
  case dK a ks kvs' kv n h1 h2 h3 h4 =>
    injection q with q
    rw [h4] at q
    injection q with q1 q2
    cases encK_inj q2
    exact ⟨a, ks, rfl, n, h1, h2, h3⟩
/-- what the source is made of -/
abbrev srcD (cs : List Int) (m : Int) : PyData := encK [(.inr "cells", .list (cs.map .int)), (.inr "left", .int 1), (.inr "mixed", .int m), (.inr "turn", .int 0)]
theorem src_of {M : MSet} {H : Hp} {v : V} {cs : List Int} {m : Int} (r : Rep M H v (srcD cs m)) : ∃ s c, v = .ref s ∧ SrcAt H s c := by
  obtain ⟨p, ks, rfl, _, h1, h2, h3⟩ := rep_dk r
  match ks, h2, h3 with
  | [(k1, v1), (k2, v2), (k3, v3), (k4, v4)], h2, .cons r1 (.cons r2 (.cons r3 (.cons r4 .nil))) =>
    simp only [List.map_cons, List.map_nil, List.cons.injEq] at h2
    obtain ⟨rfl, rfl, rfl, rfl, _⟩ := h2
    have e2 := r2.int_of
    have e3 := r3.int_of
    have e4 := r4.int_of
    dsimp only at e2 e3 e4
    subst e2
    subst e3
    subst e4
    generalize hq : PyData.list (cs.map .int) = z at r1
    cases r1 <;> first | (cases hq; done) | skip
    rename_i c vs ds n hl rl
    injection hq with hq
    subst hq
    rw [rl.ints] at hl
    exact ⟨p, c, rfl, cs, 1, m, 0, h1, hl⟩
def spOpen (K : PySem.W.Frag) : Sp := fun vs H Q _ => ∃ (a : Addr) (ns : List Int), vs = [.ref a] ∧ SqL K H a (ns.map V.int) ∧ ns.length ≤ 63 ∧ ∀ s c H', ExtA H H' → SrcAt H' s c → Q (.ref s) H'
theorem sq_ext {K : PySem.W.Frag} {H H' : Hp} {a : Addr} {xs : List V} (e : ∀ o, H a = some o → H' a = some o) (h : SqL K H a xs) : SqL K H' a xs := by
  rcases h with (h | ⟨o, h⟩) | h
  · exact .inl (.inl (e _ h))
  · exact .inl (.inr ⟨o, e _ h⟩)
  · exact .inr h
theorem held_ok {K : PySem.W.Frag} {H : Hp} {a : Addr} {xs : List V} (h : SqL K H a xs) {ρ : List Sl} {M : MSet} {σ : L2.St} {H1 : Hp} (A : At (pureC (fun _ => False) H) M ρ σ H1) : (∀ H', Step M H1 M H' → SqL K H' a xs) ∧ ∀ M' H', Step M H1 M' H' → SqL K H' a xs := by
  have main : ∀ M' H', Step M H1 M' H' → SqL K H' a xs := fun M' H' s => sq_ext (fun o q => s.ext a o (A.frame a o q fun z => z) fun z => by
    rcases A.new a z with w | w
    · exact w
    · rw [w] at q; cases q) h
  exact ⟨fun H' s => main M H' s, main⟩
end Ka

namespace Ka
open PySem L2
section
variable {C : Cxt} {M M' : MSet} {ρ ρ' : List Sl} {σ : L2.St} {H H' : Hp} {ta tb te tc tl : TE} {d e f : PyData} {v : V} {P : Out} {t u tb' : TS} {wi : TI} {K : PySem.W.Frag}
theorem es_mulW {w : List Int} {S : Int → Prop} (ha : EX C ta ρ (encW w)) (hb : EI C tb ρ S) (hS : ∀ k, S k → 1 ≤ k ∧ k ≤ 100) (hw : w ≠ [] ∧ w.length ≤ 1000) : ES C (tOp (rMulAny K) ta tb) ρ fun d => ∃ w' : List Int, d = encW w' ∧ w' ≠ [] ∧ w'.length ≤ 100 * w.length :=
  es_op (ha.s rfl) hb fun M σ H x y d e Q e1 ⟨k, e2, s2⟩ A rx ry q => by
    subst e1
    subst e2
    obtain ⟨p, vs, rfl, n, hp, r⟩ := rx.tuple
    obtain ⟨h1, h2⟩ := hS k s2
    have hl := r.length
    rw [List.length_map] at hl
    by_cases hk : k = 1
    · subst hk
      exact .inr (.inr (.inr ⟨p, vs, rfl, ry.int_of, .inl (.inl hp), q _ H (encW w) (Ext.refl H) A.j ⟨w, rfl, hw.1, by omega⟩ (.tup n hp r)⟩))
    · have hflat : ∀ m : Nat, (List.replicate m (w.map PyData.int)).flatten = ((List.replicate m w).flatten).map .int := fun m => by
        induction m with
        | zero => rfl
        | succ m ih => rw [List.replicate_succ, List.replicate_succ, List.flatten_cons, List.flatten_cons, List.map_append, ih]
      have hlen : ∀ m : Nat, (List.replicate m w).flatten.length = m * w.length := fun m => by
        induction m with
        | zero => simp
        | succ m ih => rw [List.replicate_succ, List.flatten_cons, List.length_append, ih, Nat.succ_mul]; omega
      have rr := r.rep k.toNat
      rw [hflat] at rr
      have hpos : 0 < w.length := List.length_pos_iff.mpr hw.1
      refine .inr (.inr (.inl ⟨p, k, vs, rfl, ry.int_of, .inl (.inl hp), fun z => ?_, by omega, by omega, by omega, new_tup A (Ext.refl H) A.j rr fun v H2 e2 j2 r2 => q v H2 _ e2 j2 ⟨(List.replicate k.toNat w).flatten, rfl, fun z => ?_, ?_⟩ r2⟩))
      · rw [z] at hl
        simp at hl
        omega
      · have := hlen k.toNat
        rw [z] at this
        have h3 : 1 ≤ k.toNat := by omega
        have h4 : 1 * w.length ≤ k.toNat * w.length := Nat.mul_le_mul_right _ h3
        have h5 : (0 : Nat) = k.toNat * w.length := by simpa using this
        omega
      · rw [hlen]
        exact Nat.mul_le_mul_right _ (by omega)
end
/-- the rest of a law, behind its source -/
theorem law_rest {t : TS} {n : Nat} {a s c : Addr} {H : Hp} {D : Ends} (src : SrcAt H s c) (hx : ∀ C : Cxt, IsSrc C s c → SX C t (.un :: .val (.ref s) :: List.replicate n .un) { nx := fun _ => False, rt := fun d => d = .bool true }) (q : ∀ H', D.rt (.bl true) H') :
    t D (some (V.ref a) :: some (.ref s) :: List.replicate n none) H := by
  have C0 := srcC s c (fun x => x = s ∨ x = c) H (.inl rfl) (.inr rfl)
  refine hx (srcC s c (fun x => x = s ∨ x = c) H (.inl rfl) (.inr rfl)) (isSrc ..) (fun x => x = s ∨ x = c) _ H D ⟨by simp, fun i z h => ?_, fun i j y z p h1 h2 o1 => ?_, fun _ h => h, fun _ h => .inl h, fun x h => srcDom src h, fun _ _ h _ => h, src⟩ (fun _ _ _ _ z => z.elim) (fun v H' d e R => ?_) (fun _ _ _ _ z => z.elim) fun _ _ _ _ z => z.elim
  · match i, h with
    | 0, h => cases h; exact ⟨_, rfl, trivial⟩
    | 1, h => cases h; exact ⟨_, rfl, rfl⟩
    | i + 2, h =>
      simp only [List.getElem?_cons_succ] at h ⊢
      have e : z = .un := List.eq_of_mem_replicate (List.mem_of_getElem? h)
      subst e
      have hi : i < n := by
        have := (List.getElem?_eq_some_iff.mp h).1
        rw [List.length_replicate] at this
        exact this
      exact ⟨none, by rw [List.getElem?_replicate, if_pos hi], trivial⟩
  · match i, h1 with
    | 0, h => cases h; cases o1
    | 1, h => cases h; cases o1
    | i + 2, h =>
      simp only [List.getElem?_cons_succ] at h
      rw [List.eq_of_mem_replicate (List.mem_of_getElem? h)] at o1
      cases o1
  · subst e
    rw [R.rep.bl_of]
    exact q H'
def spLaw (K : PySem.W.Frag) : Sp := fun vs H Q _ => ∃ (a : Addr) (ns : List Int), vs = [.ref a] ∧ SqL K H a (ns.map V.int) ∧ ns.length ≤ 63 ∧ ∀ H', Q (.bl true) H'
theorem flatW1 (a : List Int) : flatD (encW a) = true := flat_ints a
theorem et_neW {C : Cxt} {ρ : List Sl} {ta tb : TE} {K : PySem.W.Frag} {w : List Int} (ha : EW C ta ρ (encW w)) (hb : EW C tb ρ (encW w)) : ET C (tTest (tOp (rNeD K) ta tb)) ρ false := by
  have h := et_test (ex_neD (K := K) ha hb (flatW1 w) (flatW1 w) (shaped_ints w) (shaped_ints w))
  rw [eqv_self _ (flatW1 w)] at h
  exact h
theorem law_open {K : PySem.W.Frag} {tb : TS} {n : Nat} {a : Addr} {ns : List Int} {H : Hp} {D : Ends} {E : XK} (hS : SqL K H a (ns.map V.int)) (hlen : ns.length ≤ 63) (q : ∀ H', D.rt (.bl true) H')
    (hx : ∀ (C : Cxt) (s c : Addr), IsSrc C s c → SX C tb (.un :: .val (.ref s) :: List.replicate n .un) { nx := fun _ => False, rt := fun d => d = .bool true }) :
    tSeq (tAsg (tCall (spOpen K) [] E (tCons (tVar 0) tNil)) (gName 1)) tb D (some (V.ref a) :: none :: List.replicate n none) H :=
  ⟨_, rfl, a, ns, rfl, hS, hlen, fun s c H1 e1 src => law_rest (t := tb) src (fun C I => hx C s c I) q⟩
theorem atI_of {α : Type} {xs : List α} {i : Int} {j : Nat} {x : α} (e : i = (j : Int)) (h : xs[j]? = some x) : atI xs i = some x := by
  subst e
  exact atI_nat h
end Ka

namespace Ka
open PySem L2 C8
/-! ### What the top has written -/
theorem defAt_of {K : PySem.W.Frag} {h : Heap} {mg : Str → Option Value} {x : Str} {st : Stmt} {f : Addr} {od an : Option Addr} {sl : Array (Option Value)} {oc kV dc pm cd ct : Value} (X : K.In h) (G : h.Ns mainGlobals mg)
    (a : PySem.W.nsIn K mainGlobals x = some (some (.ref f))) (l : K.lookup f = some ⟨oc, od, .func (PySem.W.fnOf x x (defArgs st) (defBody st) (defScope st) .none kV dc pm an cd ct), sl⟩) (c : PySem.W.codeIn K cd x = true) (k : PySem.W.keepIn K (.ref f) = true) : DefAt K mg x st :=
  ⟨f, _, fun_mk (st := st) l c k, PySem.W.mg_of X G a⟩
theorem noGl_of {K : PySem.W.Frag} {h : Heap} {mg : Str → Option Value} (X : K.In h) (G : h.Ns mainGlobals mg)
    (z1 : PySem.W.nsIn K mainGlobals "len" = some none) (z2 : PySem.W.nsIn K mainGlobals "int" = some none) (z3 : PySem.W.nsIn K mainGlobals "range" = some none) (z4 : PySem.W.nsIn K mainGlobals "abs" = some none)
    (z5 : PySem.W.nsIn K mainGlobals "min" = some none) (z6 : PySem.W.nsIn K mainGlobals "max" = some none) (z7 : PySem.W.nsIn K mainGlobals "sum" = some none) (z8 : PySem.W.nsIn K mainGlobals "sorted" = some none)
    (z9 : PySem.W.nsIn K mainGlobals "tuple" = some none) (y1 : PySem.W.nsIn K mainGlobals "list" = some none) (y2 : PySem.W.nsIn K mainGlobals "all" = some none) (y3 : PySem.W.nsIn K mainGlobals "any" = some none)
    (y4 : PySem.W.nsIn K mainGlobals "enumerate" = some none) (y5 : PySem.W.nsIn K mainGlobals "zip" = some none) (y6 : PySem.W.nsIn K mainGlobals "isinstance" = some none) (y7 : PySem.W.nsIn K mainGlobals "set" = some none) (y8 : PySem.W.nsIn K mainGlobals "str" = some none) : NoGl mg :=
  ⟨PySem.W.mg_none_of X G z1, PySem.W.mg_none_of X G z2, PySem.W.mg_none_of X G z3, PySem.W.mg_none_of X G z4, PySem.W.mg_none_of X G z5, PySem.W.mg_none_of X G z6, PySem.W.mg_none_of X G z7, PySem.W.mg_none_of X G z8, PySem.W.mg_none_of X G z9,
   PySem.W.mg_none_of X G y1, PySem.W.mg_none_of X G y2, PySem.W.mg_none_of X G y3, PySem.W.mg_none_of X G y4, PySem.W.mg_none_of X G y5, PySem.W.mg_none_of X G y6, PySem.W.mg_none_of X G y7, PySem.W.mg_none_of X G y8⟩
theorem walkLaw {k : Nat} (hk : Room k callerA) {l : PySem.W.OpenLaw} {q : Program} {loose : List Str} {XP : (Str → Option Value) → Heap → Prop} {YP : World → Heap → Prop} {d : DefRec} {K : Params → PySem.W.Frag} (hn : l.most = some 63) (hdf : d.params.defaults = [])
    (hY : ∀ (w : World) (h : Heap), YP w h → (K w.params).In h)
    (F : ∀ (w : World) (mg : Str → Option Value) (fa : Addr) (h : Heap), (K w.params).In h → h.Ns mainGlobals mg → mg d.name = some (.ref fa) →
      ∃ fd : FuncData, (∀ (s : Shared) (u : Value), BindsTo s fd ⟨[u], []⟩ [("_law_script", u)]) ∧ ∀ base : Heap, (K w.params).In base → base.Ns mainGlobals mg → FnOk l.prog w (K w.params) mg base L2.CX0 k fa fd ["_law_script"] (spLaw (K w.params))) :
    PySem.W.WalkO q loose XP YP l.row.toRowW d [] (fun f vs => PySem.call f vs) :=
  L2.walk_of (n := 63) (k := k) (x := "_law_script") (CX := fun _ => L2.CX0) (sp := fun w => spLaw (K w.params)) hn (by decide) hdf hk hY F (fun _ _ a ns hl _ hS => ⟨a, ns, rfl, hS, by simpa using hl, fun _ => rfl⟩) fun _ _ _ _ _ z => z
end Ka

namespace Wx
open PySem L2 Ka C8
def topS (i : Nat) : Stmt := PySem.Challenge.pw_whatrims_k20_kinds_and_words.main.body.getD i (.Pass ⟨0, 0, 0, 0⟩)
def bendF (p q : Int) : Int := 2 * p + 2 * q - p * q
def floorF (p q : Int) : Str := if bendF p q = 0 then "flat" else if 0 < bendF p q then "ball" else "wide"
def ballF (p q : Int) : PyData := if 0 < bendF p q then .tuple [.int (4 * q / bendF p q), .int (4 * q / bendF p q * p / 2), .int (4 * q / bendF p q * p / q)] else .none
theorem s_fb : ¬ ("flat" : Str) = "ball" := by decide +kernel
theorem s_wb : ¬ ("wide" : Str) = "ball" := by decide +kernel
theorem floor_ball (p q : Int) : floorF p q = "ball" ↔ 0 < bendF p q := by
  unfold floorF
  by_cases h : bendF p q = 0
  · rw [if_pos h]
    exact ⟨fun z => absurd z s_fb, fun z => by omega⟩
  · rw [if_neg h]
    by_cases h2 : 0 < bendF p q
    · rw [if_pos h2]
      exact ⟨fun _ => h2, fun _ => rfl⟩
    · rw [if_neg h2]
      exact ⟨fun z => absurd z s_wb, fun z => absurd z h2⟩
theorem floor_sh (p q : Int) : SeqAt.shaped (.str (floorF p q)) = true := by
  unfold floorF
  split
  · decide +kernel
  · split
    · decide +kernel
    · decide +kernel
def pqOk (x : Int × Int) : Prop := 0 ≤ x.1 ∧ x.1 ≤ 100 ∧ 0 ≤ x.2 ∧ x.2 ≤ 100
abbrev spBend : Sp := spT (fun x : Int × Int => [.int x.1, .int x.2]) pqOk (fun x => .int (bendF x.1 x.2))
abbrev spBend2 : Sp := spT (fun x : Int × Int => [.int x.1, .int x.2]) pqOk (fun x => .int (2 * (x.1 + x.2) - x.1 * x.2))
abbrev spFloor : Sp := spT (fun x : Int × Int => [.int x.1, .int x.2]) pqOk (fun x => .str (floorF x.1 x.2))
abbrev spBall : Sp := spT (fun x : Int × Int => [.int x.1, .int x.2]) (fun x => pqOk x ∧ 0 < x.2) (fun x => ballF x.1 x.2)
def rotW (w : List Int) (k : Nat) : List Int := w.drop k ++ w.take k
def rotsW (w : List Int) : List (List Int) := (List.range w.length).map (rotW w)
theorem rotsW_ne {w : List Int} (h : w ≠ []) : rotsW w ≠ [] := fun z => by
  have := congrArg List.length z
  unfold rotsW at this
  rw [List.length_map, List.length_range] at this
  exact h (List.eq_nil_of_length_eq_zero this)
abbrev spTurned : Sp := spT (fun x : List Int × Nat => [encW x.1, .int x.2]) (fun x => x.2 ≤ x.1.length ∧ x.1.length ≤ 1000) (fun x => encW (rotW x.1 x.2))
abbrev spLeast : Sp := spT (fun w : List Int => [encW w]) (fun w => w ≠ [] ∧ w.length ≤ 1000) (fun w => encW (minW (rotsW w)))
abbrev spBack : Sp := spT (fun w : List Int => [encW w]) (fun _ => True) (fun w => encW w.reverse)
abbrev spTurns : Sp := spT (fun w : List Int => [encW w]) (fun w => w.length ≤ 1000) (fun w => .list ((rotsW w).map encW))
theorem ints_of {Pq : Int → Prop} : ∀ {ds : List PyData}, (∀ d ∈ ds, ∃ i, d = .int i ∧ Pq i) → ∃ ns : List Int, ds = ns.map .int
  | [], _ => ⟨[], rfl⟩
  | d :: ds, h => by
    obtain ⟨i, rfl, _⟩ := h d List.mem_cons_self
    obtain ⟨ns, rfl⟩ := ints_of (ds := ds) fun e he => h e (List.mem_cons_of_mem _ he)
    exact ⟨i :: ns, rfl⟩
abbrev spAny : Sp := spS (fun x : Int × Int => [.int x.1, .int x.2]) (fun x => 0 ≤ x.1 ∧ x.1 ≤ 100 ∧ 0 ≤ x.2 ∧ x.2 ≤ 100) (fun x d => ∃ w : List Int, d = encW w ∧ 3 ≤ w.length ∧ w.length ≤ 100)
theorem nums_ok : ∀ i < 10, ∀ j < 10, 0 < 3 + ((j : Nat) : Int) ∧ (0 < bendF (3 + ((i : Nat) : Int)) (3 + (j : Int)) → 4 * (3 + (j : Int)) / bendF (3 + (i : Int)) (3 + (j : Int)) - 4 * (3 + (j : Int)) / bendF (3 + (i : Int)) (3 + (j : Int)) * (3 + (i : Int)) / 2 + 4 * (3 + (j : Int)) / bendF (3 + (i : Int)) (3 + (j : Int)) * (3 + (i : Int)) / (3 + (j : Int)) = 2) ∧
    (0 < bendF (3 + ((i : Nat) : Int)) (3 + (j : Int)) → 4 * (3 + (j : Int)) / bendF (3 + (i : Int)) (3 + (j : Int)) * (3 + (i : Int)) = 2 * (4 * (3 + (j : Int)) / bendF (3 + (i : Int)) (3 + (j : Int)) * (3 + (i : Int)) / 2)) ∧
    (0 < bendF (3 + ((i : Nat) : Int)) (3 + (j : Int)) → 4 * (3 + (j : Int)) / bendF (3 + (i : Int)) (3 + (j : Int)) * (3 + (i : Int)) / (3 + (j : Int)) * (3 + (j : Int)) = 2 * (4 * (3 + (j : Int)) / bendF (3 + (i : Int)) (3 + (j : Int)) * (3 + (i : Int)) / 2)) := by decide +kernel
theorem mem_rots {w x : List Int} (hw : w ≠ []) : x ∈ rotsW w ↔ ∃ a b, w = a ++ b ∧ x = b ++ a := by
  unfold rotsW
  rw [List.mem_map]
  constructor
  · rintro ⟨k, _, rfl⟩
    exact ⟨w.take k, w.drop k, (List.take_append_drop k w).symm, rfl⟩
  · rintro ⟨a, b, rfl, rfl⟩
    by_cases hb : b = []
    · subst hb
      refine ⟨0, List.mem_range.mpr (by rw [List.append_nil] at *; exact List.length_pos_iff.mpr hw), ?_⟩
      unfold rotW
      simp
    · refine ⟨a.length, List.mem_range.mpr (by rw [List.length_append]; have := List.length_pos_iff.mpr hb; omega), ?_⟩
      unfold rotW
      simp
theorem rots_rot {w : List Int} {k : Nat} (hk : k < w.length) (x : List Int) : x ∈ rotsW (rotW w k) ↔ x ∈ rotsW w := by
  have hw : w ≠ [] := fun z => by rw [z] at hk; simp at hk
  have hr : rotW w k ≠ [] := fun z => by
    have := congrArg List.length z
    unfold rotW at this
    rw [List.length_append, List.length_drop, List.length_take] at this
    simp at this
    omega
  have key : ∀ {u v y : List Int}, (∃ a b, u = a ++ b ∧ v = b ++ a) → (∃ a b, v = a ++ b ∧ y = b ++ a) → ∃ a b, u = a ++ b ∧ y = b ++ a := by
    rintro u v y ⟨a, b, rfl, rfl⟩ ⟨c, d, h, rfl⟩
    rcases List.append_eq_append_iff.mp h with ⟨e, h1, h2⟩ | ⟨e, h1, h2⟩
    · subst h1
      subst h2
      exact ⟨e, d ++ b, by simp, by simp⟩
    · subst h1
      subst h2
      exact ⟨a ++ c, e, by simp, by simp⟩
  have e1 : ∃ a b, w = a ++ b ∧ rotW w k = b ++ a := ⟨w.take k, w.drop k, (List.take_append_drop k w).symm, rfl⟩
  have e2 : ∃ a b, rotW w k = a ++ b ∧ w = b ++ a := ⟨w.drop k, w.take k, rfl, (List.take_append_drop k w).symm⟩
  rw [mem_rots hr, mem_rots hw]
  exact ⟨fun h => key e1 h, fun h => key e2 h⟩
theorem rev_tuple (w : List Int) : PyData.tuple ((List.range w.length).map fun i => PyData.int (w.getD (w.length - 1 - i) 0)) = encW w.reverse := by
  congr 1
  apply List.ext_getElem?
  intro i
  rw [List.getElem?_map, List.getElem?_map]
  by_cases h : i < w.length
  · rw [List.getElem?_range h, List.getElem?_reverse h, List.getElem?_eq_getElem (by omega : w.length - 1 - i < w.length)]
    simp only [Option.map_some, Option.some.injEq, PyData.int.injEq]
    rw [List.getD_eq_getElem?_getD, List.getElem?_eq_getElem (by omega : w.length - 1 - i < w.length)]
    rfl
  · rw [List.getElem?_eq_none (by rw [List.length_range]; omega), List.getElem?_eq_none (by rw [List.length_reverse]; omega)]
    rfl
section
variable {P : Program} {w : World} {K : PySem.W.Frag} {mg : Str → Option Value} {base : Heap}
set_option maxHeartbeats 4000000
abbrev s_bend : Stmt := topS 1
abbrev s_floor_of : Stmt := topS 2
abbrev s_ball_counts : Stmt := topS 3
abbrev s_turned_word : Stmt := topS 4
abbrev s_least_turn : Stmt := topS 5
abbrev s_back_word : Stmt := topS 6
abbrev s__law_open_cells : Stmt := topS 8
abbrev s__law_pick : Stmt := topS 9
abbrev s__law_turned_words : Stmt := topS 10
abbrev s__law_bend : Stmt := topS 11
abbrev s__law_any_word : Stmt := topS 12
abbrev s_law : Stmt := topS 13
theorem sc_bend : FnScope ["p", "q"] ["p", "q"] (defScope s_bend) := ⟨rfl, rfl, rfl, by decide +kernel, rfl, by decide +kernel, by decide +kernel⟩
theorem ok_bend (D : DefAt K mg "bend" s_bend) (Z : NoGl mg)  : CalK P w K mg base 1 "bend" spBend := by
  refine calT D sc_bend (fun _ _ _ _ _ _ us hl => match us, hl with | [_, _], _ => rfl) (fun _ => rfl) (by decide) (fun fa cdv A outer s H E hr => ?_)
  have nd := sc_bend.nd
  refine ⟨_, (pss_one (ps_ret (pe_op op_sub (pe_op (kAdd K) (pe_op (kMul K) pe_int (pv 0)) (pe_op (kMul K) pe_int (pv 1))) (pe_op (kMul K) (pv 0) (pv 1))))), fun C x hx => ?_⟩
  obtain ⟨p, q⟩ := x
  obtain ⟨h1, h2, h3, h4⟩ := hx
  exact sx_ret (ex_sub (ex_addI (ex_mulI ex_int (ex_var rfl) (cmulL (by decide))) (ex_mulI ex_int (ex_var rfl) (cmulL (by decide)))) (ex_mulI (ex_var rfl) (ex_var rfl) (cmulL (by omega)))).w rfl
theorem sc_floor_of : FnScope ["p", "q"] ["p", "q"] (defScope s_floor_of) := ⟨rfl, rfl, rfl, by decide +kernel, rfl, by decide +kernel, by decide +kernel⟩
theorem ok_floor_of (D : DefAt K mg "floor_of" s_floor_of) (Z : NoGl mg) (G_bend : CalK P w K mg base 1 "bend" spBend) : CalK P w K mg base 2 "floor_of" spFloor := by
  refine calT D sc_floor_of (fun _ _ _ _ _ _ us hl => match us, hl with | [_, _], _ => rfl) (fun _ => rfl) (by decide) (fun fa cdv A outer s H E hr => ?_)
  have nd := sc_floor_of.nd
  refine ⟨_, (pss_cons (ps_if (pt_cmpR (kEq K hr) (pe_c G_bend hr (by decide) (by rfl) (pa_cons (pv 0) (pa_cons (pv 1) pa_nil))) pe_int (nomark _)) (pss_one (ps_ret pe_str)) pss_nil)
      (pss_one (ps_ret (pe_ifExp (pt_cmpR op_gt (pe_c G_bend hr (by decide) (by rfl) (pa_cons (pv 0) (pa_cons (pv 1) pa_nil))) pe_int (nomark _)) pe_str pe_str)))), fun C x hx => ?_⟩
  obtain ⟨p, q⟩ := x
  refine sx_seqN (fun ρ' => bendF p q ≠ 0 ∧ ρ' = [.dat (.int p), .dat (.int q)]) (sx_if (et_test (ex_eqD (ex_call (args := fun x : Int × Int => [.int x.1, .int x.2]) (p, q) (ea_cons (ex_var rfl) (ea_cons (ex_var rfl) ea_nil)) hx).w ex_int.w rfl rfl rfl rfl)) (fun h => ?_) fun h => ?_) fun ρ' e => ?_
  · rw [eqv_int] at h
    exact sx_ret ex_str.w (by show _ = PyData.str (floorF p q); unfold floorF; rw [if_pos (of_decide_eq_true h)])
  · rw [eqv_int] at h
    exact sx_nil ⟨of_decide_eq_false h, rfl⟩
  · obtain ⟨h, rfl⟩ := e
    refine sx_ret (d := .str (floorF p q)) (ex_if (et_test (ex_gt (ex_call (args := fun x : Int × Int => [.int x.1, .int x.2]) (p, q) (ea_cons (ex_var rfl) (ea_cons (ex_var rfl) ea_nil)) hx) ex_int)) (fun h2 => ex_str.is ?_) (fun h2 => ex_str.is ?_)).w rfl
    · unfold floorF
      rw [if_neg h, if_pos (of_decide_eq_true h2)]
    · unfold floorF
      rw [if_neg h, if_neg (of_decide_eq_false h2)]
theorem sc_ball_counts : FnScope ["p", "q", "tiles"] ["p", "q"] (defScope s_ball_counts) := ⟨rfl, rfl, rfl, by decide +kernel, rfl, by decide +kernel, by decide +kernel⟩
theorem ok_ball_counts (D : DefAt K mg "ball_counts" s_ball_counts) (Z : NoGl mg) (G_bend : CalK P w K mg base 1 "bend" spBend) (G_floor_of : CalK P w K mg base 2 "floor_of" spFloor) : CalK P w K mg base 3 "ball_counts" spBall := by
  refine calT D sc_ball_counts (fun _ _ _ _ _ _ us hl => match us, hl with | [_, _], _ => rfl) (fun _ => rfl) (by decide) (fun fa cdv A outer s H E hr => ?_)
  have nd := sc_ball_counts.nd
  refine ⟨_, (pss_cons (ps_if (pt_cmpR (kNe K hr) (pe_c G_floor_of hr (by decide) (by rfl) (pa_cons (pv 0) (pa_cons (pv 1) pa_nil))) pe_str (nomark _)) (pss_one (ps_ret pe_non)) pss_nil)
      (pss_cons (ps_set (i := 2) nd rfl (by first | exact Or.inl rfl | exact Or.inr rfl) (pe_op op_fdiv (pe_op (kMul K) pe_int (pv 1)) (pe_c G_bend hr (by decide) (by rfl) (pa_cons (pv 0) (pa_cons (pv 1) pa_nil)))))
      (pss_one (ps_ret (pe_tup (pa_cons (pv 2) (pa_cons (pe_op op_fdiv (pe_op (kMul K) (pv 2) (pv 0)) pe_int) (pa_cons (pe_op op_fdiv (pe_op (kMul K) (pv 2) (pv 0)) (pv 1)) pa_nil)))))))), fun C x hx => ?_⟩
  obtain ⟨p, q⟩ := x
  obtain ⟨hx, hq⟩ := hx
  refine sx_seqN (fun ρ' => 0 < bendF p q ∧ ρ' = [.dat (.int p), .dat (.int q), .un]) (sx_if (et_test (ex_neD (ex_call (args := fun x : Int × Int => [.int x.1, .int x.2]) (p, q) (ea_cons (ex_var rfl) (ea_cons (ex_var rfl) ea_nil)) hx).w ex_str.w rfl rfl (floor_sh p q) (by decide +kernel))) (fun h => ?_) fun h => ?_) fun ρ' e => ?_
  · rw [eqv_str] at h
    have h' : ¬ 0 < bendF p q := fun z => by
      rw [decide_eq_true ((floor_ball p q).mpr z)] at h
      cases h
    exact sx_ret ex_non.w (by show _ = ballF p q; unfold ballF; rw [if_neg h'])
  · rw [eqv_str] at h
    have h' : floorF p q = "ball" := Classical.byContradiction fun z => by
      rw [decide_eq_false z] at h
      cases h
    exact sx_nil ⟨(floor_ball p q).mp h', rfl⟩
  · obtain ⟨hb, rfl⟩ := e
    have h12 : -1000000000000 < q ∧ q < 1000000000000 := by have := hx.2.2; show _ ∧ _; have h3 : 0 ≤ q := hx.2.2.1; have h4 : q ≤ 100 := hx.2.2.2; omega
    have hb2 : bendF p q < 1073741824 := by
      have h1 : 0 ≤ p := hx.1
      have h2 : p ≤ 100 := hx.2.1
      have h3 : 0 ≤ q := hx.2.2.1
      have h4 : q ≤ 100 := hx.2.2.2
      have h5 : 0 ≤ p * q := Int.mul_nonneg h1 h3
      unfold bendF
      omega
    have hp : p < 1000000000000 ∧ -1000000000000 < p := by have h1 : 0 ≤ p := hx.1; have h2 : p ≤ 100 := hx.2.1; omega
    refine sx_seq _ (sx_asg (vs := [2]) (ex_fdiv (ex_mulI ex_int (ex_var rfl) (cmulL (by decide))) (ex_call (args := fun x : Int × Int => [.int x.1, .int x.2]) (p, q) (ea_cons (ex_var rfl) (ea_cons (ex_var rfl) ea_nil)) hx) ⟨hb, hb2⟩) (gx_name (by decide)) rfl) ?_
    refine sx_ret (ex_tup (ea_cons (ex_var rfl) (ea_cons (ex_fdiv (ex_mulI (ex_var rfl) (ex_var rfl) (cmulR ⟨hp.2, hp.1⟩)) ex_int ⟨by decide, by decide⟩) (ea_cons (ex_fdiv (ex_mulI (ex_var rfl) (ex_var rfl) (cmulR ⟨hp.2, hp.1⟩)) (ex_var rfl) ⟨hq, by have h4 : q ≤ 100 := hx.2.2.2; omega⟩) ea_nil))) (by simp)).w ?_
    show _ = ballF p q
    unfold ballF
    rw [if_pos hb]
theorem sc_turned_word : FnScope ["word", "k"] ["word", "k"] (defScope s_turned_word) := ⟨rfl, rfl, rfl, by decide +kernel, rfl, by decide +kernel, by decide +kernel⟩
theorem ok_turned_word (D : DefAt K mg "turned_word" s_turned_word) (Z : NoGl mg)  : CalK P w K mg base 1 "turned_word" spTurned := by
  refine calT D sc_turned_word (fun _ _ _ _ _ _ us hl => match us, hl with | [_, _], _ => rfl) (fun _ => rfl) (by decide) (fun fa cdv A outer s H E hr => ?_)
  have nd := sc_turned_word.nd
  refine ⟨_, (pss_one (ps_ret (pe_op (kAdd K) (pe_slice (kSl K) (pv 0) (po_some (pv 1)) po_none) (pe_slice (kSl K) (pv 0) po_none (po_some (pv 1)))))), fun C x hx => ?_⟩
  obtain ⟨w, k⟩ := x
  obtain ⟨h1, h2⟩ := hx
  have h1' : k ≤ w.length := h1
  have h2' : w.length ≤ 1000 := h2
  refine sx_ret (d := encW (rotW w k)) (ex_addT ((ex_slT (ex_var (d := encW w) rfl) (eo_some (ex_var rfl)) eo_none).is (congrArg PyData.tuple (cut_from PyData.int w k h1'))) ((ex_slT (ex_var (d := encW w) rfl) eo_none (eo_some (ex_var rfl))).is (congrArg PyData.tuple (cut_to PyData.int w k h1'))) ?_ |>.is ?_).w rfl
  · rw [List.length_map, List.length_map, List.length_drop, List.length_take]
    omega
  · unfold rotW encW
    rw [List.map_append]
theorem sc_least_turn : FnScope ["word", "k"] ["word"] (defScope s_least_turn) := ⟨rfl, rfl, rfl, by decide +kernel, rfl, by decide +kernel, by decide +kernel⟩
theorem ok_least_turn (D : DefAt K mg "least_turn" s_least_turn) (Z : NoGl mg) (G_turned_word : CalK P w K mg base 1 "turned_word" spTurned) : CalK P w K mg base 2 "least_turn" spLeast := by
  refine calT D sc_least_turn (fun _ _ _ _ _ _ us hl => match us, hl with | [_], _ => rfl) (fun _ => rfl) (by decide) (fun fa cdv A outer s H E hr => ?_)
  have nd := sc_least_turn.nd
  refine ⟨_, (pss_one (ps_ret (pe_callB (kMin K hr) (by rfl) Z.min (by decide +kernel) (pa_cons (pe_lc (own := [("k", 1)]) rfl nd (pi_range1 (by rfl) Z.range (pa_cons (pe_callB (kLen K) (by rfl) Z.len PySem.boot_len (pa_cons (pv 0) pa_nil)) pa_nil)) (blkOk_by (N := ["word", "k"]) (sc := defScope s_least_turn) (by decide +kernel)) (fun _ _ _ _ _ => (pg_name (i := 1) nd rfl (by first | exact Or.inl rfl | exact Or.inr rfl))) (fun _ _ _ _ _ => pts_nil) (fun _ _ _ _ _ => (pe_c G_turned_word hr (by decide) (by rfl) (pa_cons (pv 0) (pa_cons (pv 1) pa_nil))))) pa_nil)))), fun C x hx => ?_⟩
  obtain ⟨hx0, hx1⟩ := hx
  refine sx_ret (ex_minW (ws := rotsW x) ?_ (((en_lc1 (vs := [1]) (ys := List.range x.length) (fun i => .int (i : Nat)) (fun i => encW (rotW x i)) (it_rng1 (n := (x.length : Int)) (ea_cons (ex_lenT (ds := x.map .int) (ex_var rfl)) ea_nil |> fun h => by rw [List.length_map] at h; exact h) ⟨by omega, by omega⟩ |> fun h => by rw [Int.toNat_natCast] at h; exact h) (by rw [List.length_range]; omega) ?_).x).is ?_).w).w rfl
  · exact rotsW_ne hx0
  · intro i y hy
    have hi : y < x.length := List.mem_range.mp (List.mem_of_getElem? hy)
    exact ⟨_, gx_name (by decide), ex_call (args := fun x : List Int × Nat => [encW x.1, .int x.2]) (x, y) (ea_cons (ex_var rfl) (ea_cons (ex_var rfl) ea_nil)) ⟨by show y ≤ x.length; omega, hx1⟩⟩
  · unfold rotsW
    rw [List.map_map]
    rfl
theorem sc_back_word : FnScope ["word"] ["word"] (defScope s_back_word) := ⟨rfl, rfl, rfl, by decide +kernel, rfl, by decide +kernel, by decide +kernel⟩
theorem ok_back_word (D : DefAt K mg "back_word" s_back_word) (Z : NoGl mg)  : CalK P w K mg base 1 "back_word" spBack := by
  refine calT D sc_back_word (fun _ _ _ _ _ _ us hl => match us, hl with | [_], _ => rfl) (fun _ => rfl) (by decide) (fun fa cdv A outer s H E hr => ?_)
  have nd := sc_back_word.nd
  refine ⟨_, (pss_one (ps_ret (keRevT K (pv 0)))), fun C x hx => ?_⟩
  exact sx_ret ((ex_revT (ex_var (d := encW x) rfl)).is (by rw [← List.map_reverse])).w rfl
theorem sc__law_open_cells : FnScope ["_law_script", "_law_stirred", "_law_cell", "_law_cells"] ["_law_script"] (defScope s__law_open_cells) := ⟨rfl, rfl, rfl, by decide +kernel, rfl, by decide +kernel, by decide +kernel⟩
theorem ok__law_open_cells (D : DefAt K mg "_law_open_cells" s__law_open_cells) (Z : NoGl mg) : CalK P w K mg base 1 "_law_open_cells" (spOpen K) := by
  obtain ⟨fa, fd, F, hm⟩ := D
  refine ⟨fa, fd, ["_law_script"], [], ?_, hm, F.kp, F.binds (fun _ _ _ _ _ _ us hl => match us, hl with | [_], _ => rfl), .nil⟩
  refine F.ok sc__law_open_cells (fun vs H Q E h => ?_) (fun cdv A outer s H vs Q E hr h => ?_)
  · obtain ⟨a, ns, rfl, _⟩ := h
    rfl
  · obtain ⟨a, ns, rfl, hS, hlen, q⟩ := h
    have nd := sc__law_open_cells.nd
    have go : ∃ t, PSs (cxOf L2.CX0 P w K mg base ["_law_script", "_law_stirred", "_law_cell", "_law_cells"] "_law_open_cells" (defScope s__law_open_cells) fa cdv A outer s H E).nox (defBody s__law_open_cells) t ∧ SX (pureC (fun _ => False) H) t [.val (.ref a), .un, .un, .un] { nx := fun _ => False, rt := fun d => ∃ cs m, d = srcD cs m } := by
      refine ⟨_, (pss_cons (ps_set (i := 1) nd rfl (by first | exact Or.inl rfl | exact Or.inr rfl) pe_int)
      (pss_cons (ps_for PassesOwn.never rfl (kiList K (pv 0)) (pg_name (i := 2) nd rfl (by first | exact Or.inl rfl | exact Or.inr rfl)) (pss_one (ps_set (i := 1) nd rfl (by first | exact Or.inl rfl | exact Or.inr rfl) (pe_op op_mod (pe_callTy call_int1 (by rfl) Z.int (by decide +kernel) (pa_cons (pe_op (kAdd K) (pe_op (kAdd K) (pe_op (kMul K) (pv 1) pe_int) (pe_op (kMul K) (pv 2) pe_int)) pe_int) pa_nil)) pe_int))))
      (pss_cons (ps_setLc (i := 3) (own := [("_law_cell", 2)]) rfl nd rfl rfl (sw_true rfl rfl rfl (by decide +kernel)) (kiList K (pv 0)) (blkOk_by (N := ["_law_script", "_law_stirred", "_law_cell", "_law_cells"]) (sc := defScope s__law_open_cells) (by decide +kernel)) (fun _ _ _ _ _ => (pg_name (i := 2) nd rfl (by first | exact Or.inl rfl | exact Or.inr rfl))) (fun _ _ _ _ _ => pts_nil) (fun _ _ _ _ _ => (pe_callB call_abs (by rfl) Z.abs (by decide +kernel) (pa_cons (pv 2) pa_nil))))
      (pss_one (ps_ret (pe_disp (pps_cons pe_str (keRevL K (pv 3)) (pps_cons pe_str pe_int (pps_cons pe_str (pv 1) (pps_cons pe_str pe_int pps_nil)))) rfl rfl (by decide) (by decide))))))), ?_⟩
      have hit : ∀ ρ : List Sl, ρ[0]? = some (.val (.ref a)) → IT (pureC (fun _ => False) H) (iList K (tVar 0)) ρ (ns.map .int) := fun ρ h0 => it_held (xs := ns.map V.int) h0 (fun M σ H1 A => held_ok hS A) (by rw [List.length_map, List.length_map]) fun M H1 => by
        clear hS hlen h0
        induction ns with
        | nil => exact .nil
        | cons n ns ih => exact .cons (.int n) ih
      refine sx_seq _ (sx_asg (vs := [1]) ex_int (gx_name (by decide)) rfl) ?_
      refine sx_seqN (fun ρ' => ∃ m : Int, ρ' = [.val (.ref a), .dat (.int m), .un, .un]) (sx_for (vs := [2]) (hit _ rfl) (fun k ρ' => ∃ m : Int, ρ' = [.val (.ref a), .dat (.int m), .un, .un]) ⟨_, Le.refl _, 11, rfl⟩ ?_ (fun ρ' h => h)) ?_
      · rintro k x ρ' hx ⟨m, rfl⟩
        obtain ⟨n, _, rfl⟩ := List.mem_map.mp (List.mem_of_getElem? hx)
        refine ⟨_, gx_name (by decide), sx_asg (vs := [1]) (ex_mod (ex_int1 (ex_addI (ex_addI (ex_mulI (ex_var rfl) ex_int (cmulR (by decide))) (ex_mulI (ex_var rfl) ex_int (cmulR (by decide)))) ex_int)) ex_int (by show (0 : Int) < 2147483629; decide)) (gx_name (by decide)) ?_⟩
        exact ⟨[.val (.ref a), .dat (.int ((m * 69069 + n * 31 + 5) % 2147483629)), .un, .un], ⟨.inr rfl, .inr rfl, .inl rfl, .inr rfl, trivial⟩, _, rfl⟩
      · rintro ρ' ⟨m, rfl⟩
        refine sx_seq _ (sx_asg (vs := [3]) (en_lc1 (vs := [2]) (ys := ns) .int (fun n => .int (if n < 0 then -n else n)) (hit _ rfl) (by omega) (fun i y hy => ⟨_, gx_name (by decide), ex_abs (ex_var rfl)⟩)).x (gx_name (by decide)) rfl) ?_
        refine sx_ret (ex_disp (kds := [(.inr "cells", .list (ns.map fun n => PyData.int (if n < 0 then -n else n)).reverse), (.inr "left", .int 1), (.inr "mixed", .int m), (.inr "turn", .int 0)]) (.cons ex_str (ex_revL (EX.w (ex_var rfl))) (.cons ex_str ex_int (.cons ex_str (ex_var rfl) (.cons ex_str ex_int .nil)))) (show ([Sum.inr ("cells" : Str), Sum.inr ("left" : Str), Sum.inr ("mixed" : Str), Sum.inr ("turn" : Str)] : List Key).Nodup by decide +kernel) (by simp)).w ⟨(ns.map fun n => if n < 0 then -n else n).reverse, m, ?_⟩
        rw [← List.map_reverse, ← List.map_reverse]
        unfold srcD
        rw [List.map_map]
        rfl
    obtain ⟨t, ht, hx⟩ := go
    have A0 := At.startS (ps := ["_law_script"]) (N := ["_law_script", "_law_stirred", "_law_cell", "_law_cells"]) (vs := []) (ds := []) (s := a) (pureC (fun _ => False) H) rfl (by decide) .nil (fun _ z => z.elim) trivial
    refine ⟨t, ht, hx _ _ _ _ A0 (fun _ _ _ _ z => z.elim) (fun v H' d e R => ?_) (fun _ _ _ _ z => z.elim) fun _ _ _ _ z => z.elim⟩
    obtain ⟨cs, m, rfl⟩ := e
    obtain ⟨s2, c2, rfl, hsrc⟩ := src_of R.rep
    exact q s2 c2 H' (fun b o z => R.frame b o z fun y => y) hsrc

theorem sc__law_pick : FnScope ["_law_source", "_law_most", "_law_cells", "_law_others", "_law_lap", "_law_stirred"] ["_law_source", "_law_most"] (defScope s__law_pick) := ⟨rfl, rfl, rfl, by decide +kernel, rfl, by decide +kernel, by decide +kernel⟩
theorem ok__law_pick (D : DefAt K mg "_law_pick" s__law_pick) (Z : NoGl mg) : CalK P w K mg base 1 "_law_pick" spPick := by
  obtain ⟨fa, fd, F, hm⟩ := D
  refine ⟨fa, fd, ["_law_source", "_law_most"], [], ?_, hm, F.kp, F.binds (fun _ _ _ _ _ _ us hl => match us, hl with | [_, _], _ => rfl), .nil⟩
  refine F.ok sc__law_pick (fun vs H Q E h => ?_) (fun cdv A outer s H vs Q E hr h => ?_)
  · obtain ⟨M, s, c, n, rest, rfl, _, _, _, _, r, _⟩ := h
    rw [List.length_cons, r.length]
    rfl
  · obtain ⟨M, s1, c, n, rest, rfl, m1, m2, hd, ⟨cs, l, m, t, hs, hc⟩, r, hn, q⟩ := h
    have er : rest = [V.int n] := by
      cases r with
      | cons a b => cases b; cases a; rfl
    subst er
    have nd := sc__law_pick.nd
    have hn' : n < 1073741824 := hn
    refine ⟨_, (pss_cons (ps_if (pt_cmpR op_lt (pv 1) pe_int (nomark _)) (pss_one (ps_ret pe_int)) pss_nil)
      (pss_cons (ps_set (i := 2) nd rfl (by first | exact Or.inl rfl | exact Or.inr rfl) (pe_dget (Room.units1 hr) (pv 0) pe_str (fun _ _ => rfl)))
      (C8.pss_cut (ps_while PassesOwn.never (PW.pt (pw_and (pt_cmpR op_lt (pe_dget (Room.units1 hr) (pv 0) pe_str (fun _ _ => rfl)) pe_int (nomark _)) (pw_and1 (pt_cmpR op_gt (pe_callB (kLen K) (by rfl) Z.len PySem.boot_len (pa_cons (pv 2) pa_nil)) pe_int (nomark _))))) (pss_one (ps_dput (Room.units1 hr) (pv 0) pe_str (pe_bm0 PySem.F.plainAttrs_list PySem.F.slot_list_pop PySem.F.type_list_pop mt_pop (pv 2)) rfl)))
      (pss_cons (ps_set (i := 3) nd rfl (by first | exact Or.inl rfl | exact Or.inr rfl) (pe_dget (Room.units1 hr) (pv 0) pe_str (fun _ _ => rfl)))
      (pss_cons (ps_if (pt_cmpR op_gt (pv 3) pe_int (nomark _)) (pss_cons (ps_dput (Room.units1 hr) (pv 0) pe_str (pe_op op_fdiv (pv 3) (pv 1)) rfl)
      (pss_one (ps_ret (pe_op op_mod (pe_callTy call_int1 (by rfl) Z.int (by decide +kernel) (pa_cons (pv 3) pa_nil)) (pv 1))))) pss_nil)
      (pss_cons (ps_dput (Room.units1 hr) (pv 0) pe_str (pe_op op_add (pe_dget (Room.units1 hr) (pv 0) pe_str (fun _ _ => rfl)) pe_int) rfl)
      (pss_cons (ps_set (i := 4) nd rfl (by first | exact Or.inl rfl | exact Or.inr rfl) (pe_dget (Room.units1 hr) (pv 0) pe_str (fun _ _ => rfl)))
      (pss_cons (ps_set (i := 5) nd rfl (by first | exact Or.inl rfl | exact Or.inr rfl) (pe_op op_mod (pe_callTy call_int1 (by rfl) Z.int (by decide +kernel) (pa_cons (pe_op op_add (pe_dget (Room.units1 hr) (pv 0) pe_str (fun _ _ => rfl)) (pe_op op_mul (pv 4) pe_int)) pa_nil)) pe_int))
      (pss_cons (ps_set (i := 5) nd rfl (by first | exact Or.inl rfl | exact Or.inr rfl) (pe_op op_mod (pe_callTy call_int1 (by rfl) Z.int (by decide +kernel) (pa_cons (pe_op op_add (pe_op op_mul (pv 5) (pv 5)) (pe_op op_mul (pv 4) pe_int)) pa_nil)) pe_int))
      (pss_one (ps_ret (pe_op op_mod (pe_callTy call_int1 (by rfl) Z.int (by decide +kernel) (pa_cons (pe_op op_fdiv (pv 5) pe_int) pa_nil)) (pv 1))))))))))))), ?_⟩
    refine ⟨_, rfl, n, 2, rfl, rfl, _, rfl, ite2 (fun h => ?_) fun h => ?_⟩
    · exact q _ H (.int 0) (ExtS.refl H) ⟨cs, l, m, t, hs, hc⟩ ⟨0, rfl, by decide, .inr rfl⟩ (.int 0)
    · have hn2 : 2 ≤ n := by
        have : ¬ n < 2 := fun z => h (decide_eq_true z)
        omega
      have ne : c ≠ s1 := fun z => by rw [z, hs] at hc; cases hc
      refine ⟨_, rfl, s1, _, rfl, src_cells ▸ DGet.k (k := Sum.inr ("cells" : Str)) hs, ?_⟩
      refine ⟨fun σ' H' => ∃ (cs : List Int) (l : Int), σ' = [some (.ref s1), some (.int n), some (.ref c), none, none, none] ∧ ExtS s1 c H H' ∧ H' s1 = some (.dK (srcK c l m t)) ∧ H' c = some (.lst (cs.map V.int)), ?_, ?_⟩
      · refine ⟨fun mm σ H' => ∃ (cs : List Int) (l : Int), σ = [some (.ref s1), some (.int n), some (.ref c), none, none, none] ∧ ExtS s1 c H H' ∧ H' s1 = some (.dK (srcK c l m t)) ∧ H' c = some (.lst (cs.map V.int)) ∧ mm = cs.length,
          ⟨_, cs, l, rfl, ExtS.refl H, hs, hc, rfl⟩, ?_⟩
        clear hs hc l cs
        rintro mm σ H1 ⟨cs, l, rfl, e1, hs, hc, rfl⟩
        refine ⟨_, rfl, s1, _, rfl, src_left ▸ DGet.k (k := Sum.inr ("left" : Str)) hs, l, 2, rfl, rfl, _, rfl, ?_⟩
        by_cases hl : l < 2
        · rw [decide_eq_true hl]
          refine iteT ?_
          refine ⟨_, rfl, _, cs.length, rfl, .inl ⟨_, .inl (.inl hc), (List.length_map _).symm⟩, (cs.length : Int), 0, rfl, rfl, _, rfl, ?_⟩
          cases cs with
          | cons x cs' =>
            refine ite2 (fun _ => ?_) (fun z => absurd (decide_eq_true (by rw [List.length_cons]; omega)) z)
            refine ⟨fun σ' H' => ∃ (cs2 : List Int) (l2 : Int), σ' = [some (.ref s1), some (.int n), some (.ref c), none, none, none] ∧ ExtS s1 c H H' ∧ H' s1 = some (.dK (srcK c l2 m t)) ∧ H' c = some (.lst (cs2.map V.int)) ∧ cs2.length < (x :: cs').length, fun σ' H' ⟨cs2, l2, a1, a2, a3, a4, a5⟩ => ⟨cs2.length, a5, cs2, l2, a1, a2, a3, a4, rfl⟩, ?_⟩
            have hlast : ((x :: cs').map V.int)[((x :: cs').map V.int).length - 1]? = some (.int ((x :: cs').getLast (by simp))) := by
              rw [List.getElem?_map, List.length_map, ← List.getLast?_eq_getElem?, List.getLast?_eq_some_getLast (by simp)]
              rfl
            refine ⟨_, rfl, .inl ⟨rfl, _, .inl (.inl hc)⟩, c, _, _, rfl, rfl, hc, hlast, ?_⟩
            have hs' : (upd H1 c (.lst ((x :: cs').map V.int).dropLast)) s1 = some (.dK (srcK c l m t)) := by rw [upd_ne ne.symm]; exact hs
            refine ⟨_, rfl, s1, _, rfl, DPut.k (k := Sum.inr ("left" : Str)) hs' (by show 4 < sizeLine; decide), ?_⟩
            rw [put_left]
            refine ⟨(x :: cs').dropLast, _, rfl, e1.c.s, upd_same, ?_, by simp⟩
            rw [upd_ne ne, upd_same, List.map_dropLast]
          | nil =>
            exact ite2 (fun z => absurd (of_decide_eq_true z) (by simp)) (fun _ => ⟨_, l, rfl, e1, hs, hc⟩)
        · rw [decide_eq_false hl]
          refine iteF ?_
          refine iteF ?_
          exact ⟨cs, l, rfl, e1, hs, hc⟩
      · clear hs hc l cs
        rintro σ' H1 ⟨cs, l, rfl, e1, hs, hc⟩
        refine ⟨_, rfl, s1, _, rfl, src_left ▸ DGet.k (k := Sum.inr ("left" : Str)) hs, ?_⟩
        refine ⟨_, rfl, l, 1, rfl, rfl, _, rfl, ite2 (fun h1 => ?_) fun h1 => ?_⟩
        · refine ⟨_, rfl, _, rfl, l, n, rfl, rfl, ⟨by omega, hn'⟩, _, rfl, s1, _, rfl, DPut.k (k := Sum.inr ("left" : Str)) hs (by show 4 < sizeLine; decide), ?_⟩
          rw [put_left]
          refine ⟨_, rfl, .inl ⟨l, rfl, _, rfl, l, n, rfl, rfl, by omega, ?_⟩⟩
          have hc' : (upd H1 s1 (.dK (srcK c (l / n) m t))) c = some (.lst (cs.map V.int)) := by rw [upd_ne ne]; exact hc
          exact q _ _ _ e1.s ⟨cs, _, m, t, upd_same, hc'⟩ ⟨l % n, rfl, Int.emod_nonneg _ (by omega), .inl (Int.emod_lt_of_pos _ (by omega))⟩ (.int _)
        · refine ⟨_, rfl, s1, _, rfl, src_turn ▸ DGet.k (k := Sum.inr ("turn" : Str)) hs, t, 1, rfl, rfl, _, rfl, s1, _, rfl, DPut.k (k := Sum.inr ("turn" : Str)) hs (by show 4 < sizeLine; decide), ?_⟩
          rw [put_turn]
          have hs2 : (upd H1 s1 (.dK (srcK c l m (t + 1)))) s1 = some (.dK (srcK c l m (t + 1))) := upd_same
          have hc2 : (upd H1 s1 (.dK (srcK c l m (t + 1)))) c = some (.lst (cs.map V.int)) := by rw [upd_ne ne]; exact hc
          refine ⟨_, rfl, s1, _, rfl, src_turn ▸ DGet.k (k := Sum.inr ("turn" : Str)) hs2, ?_⟩
          refine ⟨_, rfl, s1, _, rfl, src_mixed ▸ DGet.k (k := Sum.inr ("mixed" : Str)) hs2, _, rfl, t + 1, 104729, rfl, rfl, .inr ⟨by decide, by decide⟩, m, (t + 1) * 104729, rfl, rfl, .inl ⟨_, rfl, _, 998244353, rfl, rfl, (by show (0 : Int) < 998244353; decide), ?_⟩⟩
          have b1 := Int.emod_nonneg (m + (t + 1) * 104729) (by decide : (998244353 : Int) ≠ 0)
          have b2 := Int.emod_lt_of_pos (m + (t + 1) * 104729) (by decide : (0 : Int) < 998244353)
          refine ⟨_, rfl, _, rfl, _, _, rfl, rfl, .inl ⟨by omega, by omega⟩, _, rfl, t + 1, 17, rfl, rfl, .inr ⟨by decide, by decide⟩, _, _, rfl, rfl, .inl ⟨_, rfl, _, 2147483647, rfl, rfl, (by show (0 : Int) < 2147483647; decide), ?_⟩⟩
          refine ⟨_, rfl, _, 16, rfl, rfl, ⟨by decide, by decide⟩, .inl ⟨_, rfl, _, rfl, _, n, rfl, rfl, by omega, ?_⟩⟩
          exact q _ _ _ e1.s ⟨cs, l, m, _, hs2, hc2⟩ ⟨_, rfl, Int.emod_nonneg _ (by omega), .inl (Int.emod_lt_of_pos _ (by omega))⟩ (.int _)

theorem sc__law_turned_words : FnScope ["_law_word", "_law_k"] ["_law_word"] (defScope s__law_turned_words) := ⟨rfl, rfl, rfl, by decide +kernel, rfl, by decide +kernel, by decide +kernel⟩
theorem ok__law_turned_words (D : DefAt K mg "_law_turned_words" s__law_turned_words) (Z : NoGl mg)  : CalK P w K mg base 1 "_law_turned_words" spTurns := by
  refine calT D sc__law_turned_words (fun _ _ _ _ _ _ us hl => match us, hl with | [_], _ => rfl) (fun _ => rfl) (by decide) (fun fa cdv A outer s H E hr => ?_)
  have nd := sc__law_turned_words.nd
  refine ⟨_, (pss_one (ps_ret (pe_lc (own := [("_law_k", 1)]) rfl nd (pi_range1 (by rfl) Z.range (pa_cons (pe_callB (kLen K) (by rfl) Z.len PySem.boot_len (pa_cons (pv 0) pa_nil)) pa_nil)) (blkOk_by (N := ["_law_word", "_law_k"]) (sc := defScope s__law_turned_words) (by decide +kernel)) (fun _ _ _ _ _ => (pg_name (i := 1) nd rfl (by first | exact Or.inl rfl | exact Or.inr rfl))) (fun _ _ _ _ _ => pts_nil) (fun _ _ _ _ _ => (pe_op (kAdd K) (pe_slice (kSl K) (pv 0) (po_some (pv 1)) po_none) (pe_slice (kSl K) (pv 0) po_none (po_some (pv 1)))))))), fun C x hx => ?_⟩
  have hx1 : x.length ≤ 1000 := hx
  refine sx_ret (((en_lc1 (vs := [1]) (ys := List.range x.length) (fun i => .int (i : Nat)) (fun i => encW (rotW x i)) (it_rng1 (n := (x.length : Int)) (ea_cons (ex_lenT (ds := x.map .int) (ex_var rfl)) ea_nil |> fun h => by rw [List.length_map] at h; exact h) ⟨by omega, by omega⟩ |> fun h => by rw [Int.toNat_natCast] at h; exact h) (by rw [List.length_range]; omega) ?_).x).is ?_).w rfl
  · intro i y hy
    have hi : y < x.length := List.mem_range.mp (List.mem_of_getElem? hy)
    refine ⟨_, gx_name (by decide), (ex_addT ((ex_slT (ex_var (d := encW x) rfl) (eo_some (ex_var rfl)) eo_none).is (congrArg PyData.tuple (cut_from PyData.int x y (by omega)))) ((ex_slT (ex_var (d := encW x) rfl) eo_none (eo_some (ex_var rfl))).is (congrArg PyData.tuple (cut_to PyData.int x y (by omega)))) ?_).is ?_⟩
    · rw [List.length_map, List.length_map, List.length_drop, List.length_take]
      omega
    · unfold rotW encW
      rw [List.map_append]
  · unfold rotsW
    rw [List.map_map]
    rfl
theorem sc__law_bend : FnScope ["_law_p", "_law_q"] ["_law_p", "_law_q"] (defScope s__law_bend) := ⟨rfl, rfl, rfl, by decide +kernel, rfl, by decide +kernel, by decide +kernel⟩
theorem ok__law_bend (D : DefAt K mg "_law_bend" s__law_bend) (Z : NoGl mg)  : CalK P w K mg base 1 "_law_bend" spBend2 := by
  refine calT D sc__law_bend (fun _ _ _ _ _ _ us hl => match us, hl with | [_, _], _ => rfl) (fun _ => rfl) (by decide) (fun fa cdv A outer s H E hr => ?_)
  have nd := sc__law_bend.nd
  refine ⟨_, (pss_one (ps_ret (pe_op op_sub (pe_op (kMul K) pe_int (pe_op (kAdd K) (pv 0) (pv 1))) (pe_op (kMul K) (pv 0) (pv 1))))), fun C x hx => ?_⟩
  obtain ⟨p, q⟩ := x
  obtain ⟨h1, h2, h3, h4⟩ := hx
  exact sx_ret (ex_sub (ex_mulI ex_int (ex_addI (ex_var rfl) (ex_var rfl)) (cmulL (by decide))) (ex_mulI (ex_var rfl) (ex_var rfl) (cmulL (by omega)))).w rfl
theorem sc__law_any_word : FnScope ["_law_source", "_law_q", "_law_most", "_law_lap"] ["_law_source", "_law_q", "_law_most"] (defScope s__law_any_word) := ⟨rfl, rfl, rfl, by decide +kernel, rfl, by decide +kernel, by decide +kernel⟩
theorem ok__law_any_word (D : DefAt K mg "_law_any_word" s__law_any_word) (Z : NoGl mg) (G__law_pick : CalK P w K mg base 1 "_law_pick" spPick) : CalK P w K mg base 2 "_law_any_word" spAny := by
  refine calS D sc__law_any_word (fun _ _ _ _ _ _ us hl => match us, hl with | [_, _, _], _ => rfl) (fun _ => rfl) (by decide) (fun fa cdv A outer s H E hr => ?_)
  have nd := sc__law_any_word.nd
  refine ⟨_, (pss_one (ps_ret (pe_callTy (kTuple K) (by rfl) Z.tuple (by decide +kernel) (pa_cons (pe_lc (own := [("_law_lap", 3)]) rfl nd (pi_range1 (by rfl) Z.range (pa_cons (pe_op (kAdd K) pe_int (pe_c G__law_pick hr (by decide) (by rfl) (pa_cons (pv 0) (pa_cons (pe_op op_sub (pv 2) pe_int) pa_nil)))) pa_nil)) (blkOk_by (N := ["_law_source", "_law_q", "_law_most", "_law_lap"]) (sc := defScope s__law_any_word) (by decide +kernel)) (fun _ _ _ _ _ => (pg_name (i := 3) nd rfl (by first | exact Or.inl rfl | exact Or.inr rfl))) (fun _ _ _ _ _ => pts_nil) (fun _ _ _ _ _ => (pe_op (kAdd K) pe_int (pe_c G__law_pick hr (by decide) (by rfl) (pa_cons (pv 0) (pa_cons (pe_op op_sub (pv 1) pe_int) pa_nil)))))) pa_nil)))), fun C s1 c x I hx => ?_⟩
  obtain ⟨q, m⟩ := x
  obtain ⟨h1, h2, h3, h4⟩ := hx
  have hq : q - 1 < 1073741824 := by have : q ≤ 100 := h2; omega
  have hm : m - 2 < 1073741824 := by have : m ≤ 100 := h4; omega
  have hp : ∀ {ρ : List Sl} {te : TE} {i : Nat} {n : Int}, ρ[i]? = some (.val (.ref s1)) → EX C te ρ (.int n) → n < 1073741824 → EI C (tCall spPick [] C8.E0 (tCons (tVar i) (tCons te tNil))) ρ fun r => 0 ≤ r ∧ (r < n ∨ r = 0) := fun hi he hn =>
    (es_call (args := fun n : Int => [.int n]) I hi _ (ea_cons he ea_nil) hn).i fun d ⟨r, e, a, b⟩ => ⟨r, e, a, b⟩
  refine sx_retS (es_tupleL (ens_lc (vs := [3]) (Pe := fun d => ∃ i, d = .int i ∧ 1 ≤ i ∧ (i < q ∨ i = 1)) (its_rng1 (S := fun n => 3 ≤ n ∧ (n ≤ m ∨ n = 3)) ?_ ?_) ?_ ?_)) ?_
  · intro M σ H Q A k
    refine eas_cons (ei_add ex_int.i (hp rfl (ex_sub (ex_var rfl) ex_int) hm)) eas_nil M σ H Q A fun vs ds H' e j hs r => k vs ds H' e j ?_ r
    obtain ⟨d, r', rfl, ⟨i, rfl, i1, i2, e1, ⟨g1, g2⟩, rfl⟩, rfl⟩ := hs
    subst e1
    exact ⟨_, rfl, by omega, by omega⟩
  · intro n hn
    have : m ≤ 100 := h4
    omega
  · rintro xs ⟨n, hn, rfl⟩
    rw [List.length_map, List.length_range]
    have : m ≤ 100 := h4
    omega
  · rintro xs x ⟨n, hn, rfl⟩ hxm
    refine ⟨_, gx_name (by decide), (ei_add ex_int.i (hp rfl (ex_sub (ex_var rfl) ex_int) hq)).mono ?_⟩
    rintro d ⟨i, j, e1, ⟨g1, g2⟩, rfl⟩
    subst e1
    exact ⟨by omega, by omega⟩
  · rintro d ⟨ds, rfl, xs, ⟨n, hn, rfl⟩, hl, hall⟩
    obtain ⟨w, rfl⟩ := ints_of hall
    rw [List.length_map, List.length_map, List.length_range] at hl
    have : m ≤ 100 := h4
    exact ⟨w, rfl, by omega, by show w.length ≤ 100; omega⟩
theorem sc_law : FnScope ["_law_script", "_law_source", "_law_p", "_law_q", "_law_bend_here", "_law_told", "_law_lap", "_law_word", "_law_turns", "_law_k", "_law_j"] ["_law_script"] (defScope s_law) := ⟨rfl, rfl, rfl, by decide +kernel, rfl, by decide +kernel, by decide +kernel⟩
theorem ok_law {fa : Addr} {fd : FuncData} (F : L2.Fun K "law" "law" s_law fa fd) (Z : NoGl mg) (G_ball_counts : CalK P w K mg base 3 "ball_counts" spBall) (G_back_word : CalK P w K mg base 1 "back_word" spBack) (G_least_turn : CalK P w K mg base 2 "least_turn" spLeast) (G_turned_word : CalK P w K mg base 1 "turned_word" spTurned) (G__law_pick : CalK P w K mg base 1 "_law_pick" spPick) (G__law_turned_words : CalK P w K mg base 1 "_law_turned_words" spTurns) (G__law_any_word : CalK P w K mg base 2 "_law_any_word" spAny) (G_floor_of : CalK P w K mg base 2 "floor_of" spFloor) (G__law_bend : CalK P w K mg base 1 "_law_bend" spBend2) (G__law_open_cells : CalK P w K mg base 1 "_law_open_cells" (spOpen K)) : FnOk P w K mg base L2.CX0 4 fa fd ["_law_script"] (spLaw K) := by
  refine F.ok sc_law (fun vs H Q E h => ?_) (fun cdv A outer s H vs Q E hr h => ?_)
  · obtain ⟨a, ns, rfl, _⟩ := h
    rfl
  · obtain ⟨a, ns, rfl, hS, hlen, q⟩ := h
    have nd := sc_law.nd
    refine ⟨_, (pss_cons (ps_set (i := 1) nd rfl (by first | exact Or.inl rfl | exact Or.inr rfl) (pe_c G__law_open_cells hr (by decide) (by rfl) (pa_cons (pv 0) pa_nil)))
      (pss_cons (ps_for PassesOwn.never rfl (pi_range2 (by rfl) Z.range (pa_cons pe_int (pa_cons pe_int pa_nil))) (pg_name (i := 2) nd rfl (by first | exact Or.inl rfl | exact Or.inr rfl)) (pss_one (ps_for PassesOwn.never rfl (pi_range2 (by rfl) Z.range (pa_cons pe_int (pa_cons pe_int pa_nil))) (pg_name (i := 3) nd rfl (by first | exact Or.inl rfl | exact Or.inr rfl)) (pss_cons (ps_set (i := 4) nd rfl (by first | exact Or.inl rfl | exact Or.inr rfl) (pe_c G__law_bend hr (by decide) (by rfl) (pa_cons (pv 2) (pa_cons (pv 3) pa_nil))))
      (pss_cons (ps_if (pt_cmpR (kNe K hr) (pe_c G_floor_of hr (by decide) (by rfl) (pa_cons (pv 2) (pa_cons (pv 3) pa_nil))) (pe_ifExp (pt_cmpR op_gt (pv 4) pe_int (nomark _)) pe_str (pe_ifExp (pt_cmpR (kEq K hr) (pv 4) pe_int (nomark _)) pe_str pe_str)) (nomark _)) (pss_one (ps_ret pe_bl)) pss_nil)
      (pss_cons (ps_set (i := 5) nd rfl (by first | exact Or.inl rfl | exact Or.inr rfl) (pe_c G_ball_counts hr (by decide) (by rfl) (pa_cons (pv 2) (pa_cons (pv 3) pa_nil))))
      (pss_cons (ps_if (PW.pt (pw_or (pt_cmpR (kNe K hr) (pe_cmpR op_isN (pv 5) pe_non (nomark _)) (pe_cmpR op_le (pv 4) pe_int (nomark _)) (nomark _)) (pw_or1 (PW.pt (pw_and (pt_cmpR op_notN (pv 5) pe_non (nomark _)) (pw_and1 (pt_cmpR (kNe K hr) (pe_op (kAdd K) (pe_op op_sub (pe_ix (kIx K) (pv 5) pe_int (fun _ _ => rfl)) (pe_ix (kIx K) (pv 5) pe_int (fun _ _ => rfl))) (pe_ix (kIx K) (pv 5) pe_int (fun _ _ => rfl))) pe_int (nomark _)))))))) (pss_one (ps_ret pe_bl)) pss_nil)
      (pss_one (ps_if (PW.pt (pw_and (pt_cmpR op_notN (pv 5) pe_non (nomark _)) (pw_and1 (PW.pt (pw_or (pt_cmpR (kNe K hr) (pe_op (kMul K) (pe_ix (kIx K) (pv 5) pe_int (fun _ _ => rfl)) (pv 2)) (pe_op (kMul K) pe_int (pe_ix (kIx K) (pv 5) pe_int (fun _ _ => rfl))) (nomark _)) (pw_or1 (pt_cmpR (kNe K hr) (pe_op (kMul K) (pe_ix (kIx K) (pv 5) pe_int (fun _ _ => rfl)) (pv 3)) (pe_op (kMul K) pe_int (pe_ix (kIx K) (pv 5) pe_int (fun _ _ => rfl))) (nomark _)))))))) (pss_one (ps_ret pe_bl)) pss_nil)))))))))
      (pss_cons (ps_for PassesOwn.never rfl (pi_range1 (by rfl) Z.range (pa_cons pe_int pa_nil)) (pg_name (i := 6) nd rfl (by first | exact Or.inl rfl | exact Or.inr rfl)) (pss_cons (ps_set (i := 7) nd rfl (by first | exact Or.inl rfl | exact Or.inr rfl) (pe_c G__law_any_word hr (by decide) (by rfl) (pa_cons (pv 1) (pa_cons (pe_op (kAdd K) pe_int (pe_c G__law_pick hr (by decide) (by rfl) (pa_cons (pv 1) (pa_cons pe_int pa_nil)))) (pa_cons pe_int pa_nil)))))
      (pss_cons (ps_set (i := 7) nd rfl (by first | exact Or.inl rfl | exact Or.inr rfl) (pe_ifExp (pt_cmpR (kEq K hr) (pe_c G__law_pick hr (by decide) (by rfl) (pa_cons (pv 1) (pa_cons pe_int pa_nil))) pe_int (nomark _)) (pe_op (kMul K) (pe_slice (kSl K) (pv 7) po_none (po_some pe_int)) (pe_op (kAdd K) pe_int (pe_c G__law_pick hr (by decide) (by rfl) (pa_cons (pv 1) (pa_cons pe_int pa_nil))))) (pv 7)))
      (pss_cons (ps_par (i := 8) (j := 9) rfl nd rfl rfl (by decide) rfl rfl (pa_cons (pe_c G__law_turned_words hr (by decide) (by rfl) (pa_cons (pv 7) pa_nil)) (pa_cons (pe_c G__law_pick hr (by decide) (by rfl) (pa_cons (pv 1) (pa_cons (pe_callB (kLen K) (by rfl) Z.len PySem.boot_len (pa_cons (pv 7) pa_nil)) pa_nil))) pa_nil)) (by rfl))
      (pss_cons (ps_if (PW.pt (pw_or (pt_cmpR (kNe K hr) (pe_c G_turned_word hr (by decide) (by rfl) (pa_cons (pv 7) (pa_cons (pv 9) pa_nil))) (pe_ix (kIx K) (pv 8) (pv 9) (fun _ _ => rfl)) (nomark _)) (pw_or (pt_cmpR (kNe K hr) (pe_c G_least_turn hr (by decide) (by rfl) (pa_cons (pv 7) pa_nil)) (pe_callB (kMin K hr) (by rfl) Z.min (by decide +kernel) (pa_cons (pv 8) pa_nil)) (nomark _)) (pw_or1 (pt_cmpR (kNe K hr) (pe_c G_least_turn hr (by decide) (by rfl) (pa_cons (pe_ix (kIx K) (pv 8) (pv 9) (fun _ _ => rfl)) pa_nil)) (pe_callB (kMin K hr) (by rfl) Z.min (by decide +kernel) (pa_cons (pv 8) pa_nil)) (nomark _)))))) (pss_one (ps_ret pe_bl)) pss_nil)
      (pss_one (ps_if (pt_cmpR (kNe K hr) (pe_c G_back_word hr (by decide) (by rfl) (pa_cons (pv 7) pa_nil)) (pe_callTy (kTuple K) (by rfl) Z.tuple (by decide +kernel) (pa_cons (pe_lc (own := [("_law_j", 10)]) rfl nd (pi_range1 (by rfl) Z.range (pa_cons (pe_callB (kLen K) (by rfl) Z.len PySem.boot_len (pa_cons (pv 7) pa_nil)) pa_nil)) (blkOk_by (N := ["_law_script", "_law_source", "_law_p", "_law_q", "_law_bend_here", "_law_told", "_law_lap", "_law_word", "_law_turns", "_law_k", "_law_j"]) (sc := defScope s_law) (by decide +kernel)) (fun _ _ _ _ _ => (pg_name (i := 10) nd rfl (by first | exact Or.inl rfl | exact Or.inr rfl))) (fun _ _ _ _ _ => pts_nil) (fun _ _ _ _ _ => (pe_ix (kIx K) (pv 7) (pe_op op_sub (pe_op op_sub (pe_callB (kLen K) (by rfl) Z.len PySem.boot_len (pa_cons (pv 7) pa_nil)) pe_int) (pv 10)) (fun _ _ => rfl)))) pa_nil)) (nomark _)) (pss_one (ps_ret pe_bl)) pss_nil)))))))
      (pss_cons (ps_set (i := 5) nd rfl (by first | exact Or.inl rfl | exact Or.inr rfl) (pe_lst (pa_cons (pe_c G_ball_counts hr (by decide) (by rfl) (pa_cons pe_int (pa_cons pe_int pa_nil))) (pa_cons (pe_c G_ball_counts hr (by decide) (by rfl) (pa_cons pe_int (pa_cons pe_int pa_nil))) (pa_cons (pe_c G_ball_counts hr (by decide) (by rfl) (pa_cons pe_int (pa_cons pe_int pa_nil))) (pa_cons (pe_c G_ball_counts hr (by decide) (by rfl) (pa_cons pe_int (pa_cons pe_int pa_nil))) (pa_cons (pe_c G_ball_counts hr (by decide) (by rfl) (pa_cons pe_int (pa_cons pe_int pa_nil))) pa_nil)))))))
      (pss_one (ps_ret (pe_cmpR (kEq K hr) (pv 5) (pe_lst (pa_cons (pe_tup (pa_cons pe_int (pa_cons pe_int (pa_cons pe_int pa_nil)))) (pa_cons (pe_tup (pa_cons pe_int (pa_cons pe_int (pa_cons pe_int pa_nil)))) (pa_cons (pe_tup (pa_cons pe_int (pa_cons pe_int (pa_cons pe_int pa_nil)))) (pa_cons (pe_tup (pa_cons pe_int (pa_cons pe_int (pa_cons pe_int pa_nil)))) (pa_cons (pe_tup (pa_cons pe_int (pa_cons pe_int (pa_cons pe_int pa_nil)))) pa_nil)))))) (nomark _)))))))), ?_⟩
    refine law_open (n := 9) hS hlen q fun C s1 c1 I => ?_
    show SX C _ [.un, .val (.ref s1), .un, .un, .un, .un, .un, .un, .un, .un, .un] _
    have hp : ∀ {ρ : List Sl} {te : TE} {i : Nat} {n : Int}, ρ[i]? = some (.val (.ref s1)) → EX C te ρ (.int n) → n < 1073741824 → EI C (tCall spPick [] C8.E0 (tCons (tVar i) (tCons te tNil))) ρ fun r => 0 ≤ r ∧ (r < n ∨ r = 0) := fun hi he hn =>
      (es_call (args := fun n : Int => [.int n]) I hi _ (ea_cons he ea_nil) hn).i fun d ⟨r, e, a, b⟩ => ⟨r, e, a, b⟩
    -- the kinds
    refine sx_seqL [.un, .val (.ref s1), .un, .un, .un, .un, .un, .un, .un, .un, .un] (sx_for (vs := [2]) (it_rng2 (lo := 3) (n := 13) (ea_cons ex_int (ea_cons ex_int ea_nil)) ⟨by decide, by decide, by decide, by decide⟩) (fun _ ρ' => ρ' = [.un, .val (.ref s1), .un, .un, .un, .un, .un, .un, .un, .un, .un]) ⟨_, Le.refl _, rfl⟩ ?_ ?_) ?_
    · rintro k x ρ' hx rfl
      obtain ⟨i, hi, rfl⟩ := List.mem_map.mp (List.mem_of_getElem? hx)
      have hi' : i < 10 := List.mem_range.mp hi
      refine ⟨_, gx_name (by decide), (sx_for (vs := [3]) (it_rng2 (lo := 3) (n := 13) (ea_cons ex_int (ea_cons ex_int ea_nil)) ⟨by decide, by decide, by decide, by decide⟩) (fun _ ρ' => ρ' = [.un, .val (.ref s1), .dat (.int (3 + (i : Int))), .un, .un, .un, .un, .un, .un, .un, .un]) ⟨_, Le.refl _, rfl⟩ ?_ ?_)⟩
      rotate_left
      · rintro ρ2 rfl
        exact ⟨[.un, .val (.ref s1), .un, .un, .un, .un, .un, .un, .un, .un, .un], ⟨.inr rfl, .inr rfl, .inl rfl, .inr rfl, .inr rfl, .inr rfl, .inr rfl, .inr rfl, .inr rfl, .inr rfl, .inr rfl, trivial⟩, rfl⟩
      rintro k2 x2 ρ2 hx2 rfl
      obtain ⟨j, hj, rfl⟩ := List.mem_map.mp (List.mem_of_getElem? hx2)
      have hj' : j < 10 := List.mem_range.mp hj
      refine ⟨_, gx_name (by decide), ?_⟩
      have hpq : pqOk (3 + (i : Int), 3 + (j : Int)) := ⟨by show (0 : Int) ≤ 3 + (i : Int); omega, by show 3 + (i : Int) ≤ 100; omega, by show (0 : Int) ≤ 3 + (j : Int); omega, by show 3 + (j : Int) ≤ 100; omega⟩
      have hbend : 2 * ((3 + (i : Int)) + (3 + (j : Int))) - (3 + (i : Int)) * (3 + (j : Int)) = bendF (3 + (i : Int)) (3 + (j : Int)) := by
        unfold bendF
        omega
      have hnum := nums_ok i hi' j hj'
      generalize (3 + (i : Int)) = p at *
      generalize (3 + (j : Int)) = r at *
      have done : ∀ {P : Out} (z : Sl), (∀ ρ, Le [.un, .val (.ref s1), .dat (.int p), .un, .un, .un, .un, .un, .un, .un, .un] ρ → P.nx ρ) → P.nx [.un, .val (.ref s1), .dat (.int p), .dat (.int r), .dat (.int (bendF p r)), z, .un, .un, .un, .un, .un] := fun z h =>
        h _ ⟨.inr rfl, .inr rfl, .inr rfl, .inl rfl, .inl rfl, .inl rfl, .inr rfl, .inr rfl, .inr rfl, .inr rfl, .inr rfl, trivial⟩
      refine sx_seq _ (sx_asg (vs := [4]) ((ex_call (args := fun x : Int × Int => [.int x.1, .int x.2]) (p, r) (ea_cons (ex_var rfl) (ea_cons (ex_var rfl) ea_nil)) hpq).is (congrArg PyData.int hbend)) (gx_name (by decide)) rfl) ?_
      refine sx_seq [.un, .val (.ref s1), .dat (.int p), .dat (.int r), .dat (.int (bendF p r)), .un, .un, .un, .un, .un, .un] (sx_if (b := false) (et_test ((ex_neD (ex_call (args := fun x : Int × Int => [.int x.1, .int x.2]) (p, r) (ea_cons (ex_var rfl) (ea_cons (ex_var rfl) ea_nil)) hpq).w (EX.w (d := .str (floorF p r)) (ex_if (et_test (ex_gt (ex_var rfl) ex_int)) (fun h2 => ex_str.is ?_) (fun h2 => ex_if (et_test (ex_eqD (EX.w (ex_var rfl)) ex_int.w rfl rfl rfl rfl)) (fun h3 => ex_str.is ?_) (fun h3 => ex_str.is ?_)))) rfl rfl (floor_sh p r) (floor_sh p r)).is (by rw [eqv_self _ rfl]; rfl))) (fun h => nomatch h) (fun _ => sx_nil rfl)) ?_
      · unfold floorF
        have := of_decide_eq_true h2
        rw [if_neg (by omega), if_pos this]
      · rw [eqv_int] at h3
        unfold floorF
        rw [if_pos (of_decide_eq_true h3)]
      · rw [eqv_int] at h3
        unfold floorF
        rw [if_neg (of_decide_eq_false h3), if_neg (of_decide_eq_false h2)]
      have hr0 : 0 < r := by have := hpq.2.2; exact hnum.1
      by_cases hb : 0 < bendF p r
      · obtain ⟨_, n1, n2, n3⟩ := hnum
        have n1 := n1 hb
        have n2 := n2 hb
        have n3 := n3 hb
        refine sx_seq _ (sx_asg (vs := [5]) ((ex_call (args := fun x : Int × Int => [.int x.1, .int x.2]) (p, r) (ea_cons (ex_var rfl) (ea_cons (ex_var rfl) ea_nil)) ⟨hpq, hr0⟩).is (show ballF p r = .tuple [.int (4 * r / bendF p r), .int (4 * r / bendF p r * p / 2), .int (4 * r / bendF p r * p / r)] by unfold ballF; rw [if_pos hb])) (gx_name (by decide)) rfl) ?_
        generalize 4 * r / bendF p r = t0 at *
        generalize t0 * p / 2 = t1 at *
        generalize t0 * p / r = t2 at *
        have hr2 : r < 1000000000000 := by have h4 : r ≤ 100 := hpq.2.2.2; omega
        have hp2 : p < 1000000000000 := by have h4 : p ≤ 100 := hpq.2.1; omega
        have hp0 : 0 ≤ p := hpq.1
        refine sx_seq [.un, .val (.ref s1), .dat (.int p), .dat (.int r), .dat (.int (bendF p r)), .dat (.tuple [.int t0, .int t1, .int t2]), .un, .un, .un, .un, .un] (sx_if (b := false) ((et_or (et_test (ex_neD (EX.w (ex_isN (ex_var rfl))) (EX.w (ex_le (ex_var rfl) ex_int)) rfl rfl rfl rfl)) (fun _ => et_and (et_test (ex_notN (ex_var rfl))) fun _ => et_test (ex_neD (EX.w (ex_addI (ex_sub (ex_ixT' (ex_var rfl) ex_int rfl) (ex_ixT' (ex_var rfl) ex_int rfl)) (ex_ixT' (ex_var rfl) ex_int rfl))) ex_int.w rfl rfl rfl rfl))).is ?_) (fun h => nomatch h) (fun _ => sx_nil rfl)) ?_
        · rw [eqv_bool, eqv_int, n1, decide_eq_false (by omega : ¬ bendF p r ≤ 0)]
          rfl
        · refine sx_if (b := false) ((et_and (et_test (ex_notN (ex_var rfl))) fun _ => et_or (et_test (ex_neD (EX.w (ex_mulI (ex_ixT' (ex_var rfl) ex_int rfl) (ex_var rfl) (cmulR ⟨by omega, hp2⟩))) (EX.w (ex_mulI ex_int (ex_ixT' (ex_var rfl) ex_int rfl) (cmulL (by decide)))) rfl rfl rfl rfl)) fun _ => et_test (ex_neD (EX.w (ex_mulI (ex_ixT' (ex_var rfl) ex_int rfl) (ex_var rfl) (cmulR ⟨by omega, hr2⟩))) (EX.w (ex_mulI ex_int (ex_ixT' (ex_var rfl) ex_int rfl) (cmulL (by decide)))) rfl rfl rfl rfl)).is ?_) (fun h => nomatch h) (fun _ => sx_nil (done _ fun ρ l => ⟨_, l, rfl⟩))
          rw [eqv_int, eqv_int, n2, n3]
          simp
      · refine sx_seq _ (sx_asg (vs := [5]) ((ex_call (args := fun x : Int × Int => [.int x.1, .int x.2]) (p, r) (ea_cons (ex_var rfl) (ea_cons (ex_var rfl) ea_nil)) ⟨hpq, hr0⟩).is (show ballF p r = .none by unfold ballF; rw [if_neg hb])) (gx_name (by decide)) rfl) ?_
        refine sx_seq [.un, .val (.ref s1), .dat (.int p), .dat (.int r), .dat (.int (bendF p r)), .dat .none, .un, .un, .un, .un, .un] (sx_if (b := false) ((et_or (b := false) (et_test (ex_neD (EX.w (ex_isN (ex_var rfl))) (EX.w (ex_le (ex_var rfl) ex_int)) rfl rfl rfl rfl)) (fun _ => (et_and (b := false) (et_test (ex_notN (ex_var rfl))) fun h => by cases h).is rfl)).is ?_) (fun h => nomatch h) (fun _ => sx_nil rfl)) ?_
        · rw [eqv_bool, decide_eq_true (by omega : bendF p r ≤ 0)]
          rfl
        · exact sx_if (b := false) ((et_and (b := false) (et_test (ex_notN (ex_var rfl))) fun h => by cases h).is rfl) (fun h => nomatch h) (fun _ => sx_nil (done _ fun ρ l => ⟨_, l, rfl⟩))
    · rintro ρ2 rfl
      exact Le.refl _
    -- the words
    refine sx_seqL [.un, .val (.ref s1), .un, .un, .un, .un, .un, .un, .un, .un, .un] (sx_for (vs := [6]) (it_rng1 (n := 6) (ea_cons ex_int ea_nil) ⟨by decide, by decide⟩) (fun _ ρ' => ρ' = [.un, .val (.ref s1), .un, .un, .un, .un, .un, .un, .un, .un, .un]) ⟨_, Le.refl _, rfl⟩ ?_ ?_) ?_
    · rintro k x ρ' hx rfl
      refine ⟨_, gx_name (by decide), sx_un 6 ?_⟩
      have hpc : ∀ {ρ : List Sl} {i : Nat} {n : Int}, ρ[i]? = some (.val (.ref s1)) → n < 1073741824 → EI C (tCall spPick [] C8.E0 (tCons (tVar i) (tCons (tC (.int n)) tNil))) ρ fun r => 0 ≤ r ∧ (r < n ∨ r = 0) := fun hi hn => hp hi ex_int hn
      refine sx_seqN (fun ρ' => ∃ w : List Int, (3 ≤ w.length ∧ w.length ≤ 100) ∧ ρ' = [.un, .val (.ref s1), .un, .un, .un, .un, .un, .dat (encW w), .un, .un, .un]) (sx_asgS (es_callS (R' := fun d => ∃ w : List Int, d = encW w ∧ 3 ≤ w.length ∧ w.length ≤ 100) I rfl (eas_cons (ei_add ex_int.i (hpc rfl (by decide))) (eas_cons ex_int.i eas_nil)) ?_) ?_) ?_
      · rintro ds ⟨d1, r1, rfl, ⟨i1, rfl, i2, i3, h2, ⟨h3, h4⟩, rfl⟩, d2, r2, rfl, ⟨i4, rfl, h5⟩, rfl⟩
        refine ⟨(i2 + i3, i4), rfl, ⟨by show 0 ≤ i2 + i3; omega, by show i2 + i3 ≤ 100; omega, by show 0 ≤ i4; omega, by show i4 ≤ 100; omega⟩, fun d h => h⟩
      · rintro d ⟨w, rfl, h⟩
        exact ⟨w, h, rfl⟩
      rintro ρ' ⟨w, ⟨hw1, hw2⟩, rfl⟩
      refine sx_seqN (fun ρ' => ∃ w : List Int, (w ≠ [] ∧ w.length ≤ 1000) ∧ ρ' = [.un, .val (.ref s1), .un, .un, .un, .un, .un, .dat (encW w), .un, .un, .un]) (sx_asgS (S := fun d => ∃ w : List Int, d = encW w ∧ w ≠ [] ∧ w.length ≤ 1000) (es_if (ets_test (es_eqI (hpc rfl (by decide)) ex_int.i)) ((es_mulW (w := w.take 3) ((ex_slT (ex_var (d := encW w) rfl) eo_none (eo_some ex_int)).is (congrArg PyData.tuple (cut_to PyData.int w 3 (by omega)))) (ei_add ex_int.i (hpc rfl (by decide))) ?_ ?_).mono ?_) ((EX.s (ex_var rfl) ⟨w, rfl, fun z => ?_, by omega⟩))) ?_) ?_
      · rintro k ⟨i, j, h1, ⟨h2, h3⟩, rfl⟩
        omega
      · refine ⟨fun z => ?_, by rw [List.length_take]; omega⟩
        have := congrArg List.length z
        rw [List.length_take, List.length_nil] at this
        omega
      · rintro d ⟨w', rfl, h1, h2⟩
        rw [List.length_take] at h2
        exact ⟨w', rfl, h1, by omega⟩
      · rw [z] at hw1
        simp at hw1
      · rintro d ⟨w, rfl, h⟩
        exact ⟨w, h, rfl⟩
      rintro ρ' ⟨w, ⟨hw1, hw2⟩, rfl⟩
      refine sx_seqN (fun ρ' => ∃ k : Nat, k < w.length ∧ ρ' = [.un, .val (.ref s1), .un, .un, .un, .un, .un, .dat (encW w), .dat (.list ((rotsW w).map encW)), .dat (.int k), .un]) (sx_parS (eas_cons ((ex_call (args := fun w : List Int => [encW w]) w (ea_cons (ex_var rfl) ea_nil) hw2).s rfl) (eas_cons (hp rfl (ex_lenT (ds := w.map .int) (ex_var rfl)) (by rw [List.length_map]; omega)) eas_nil)) ?_ ?_) ?_
      · rintro ds ⟨d1, r1, rfl, h1, d2, r2, rfl, h2, rfl⟩
        rfl
      · rintro d1 d2 ⟨d3, r1, e1, h1, d4, r2, rfl, ⟨k, rfl, h3, h4⟩, rfl⟩
        injection e1 with e2 e3
        injection e3 with e4 e5
        subst e2
        subst e4
        rw [List.length_map] at h4
        have hpos : 0 < w.length := List.length_pos_iff.mpr hw1
        refine ⟨k.toNat, by omega, ?_⟩
        rw [Int.toNat_of_nonneg h3]
        rw [h1]
        rfl
      rintro ρ' ⟨k, hk, rfl⟩
      have hrk : (rotsW w)[k]? = some (rotW w k) := by
        unfold rotsW
        rw [List.getElem?_map, List.getElem?_range hk]
        rfl
      have hix : atI ((rotsW w).map encW) (k : Int) = some (encW (rotW w k)) := atI_nat (by rw [List.getElem?_map, hrk]; rfl)
      have hrl : (rotW w k).length = w.length := by
        unfold rotW
        rw [List.length_append, List.length_drop, List.length_take]
        omega
      have hrne : rotW w k ≠ [] := fun z => by
        rw [z] at hrl
        exact hw1 (List.eq_nil_of_length_eq_zero hrl.symm)
      have hne := rotsW_ne hw1
      refine sx_seq [.un, .val (.ref s1), .un, .un, .un, .un, .un, .dat (encW w), .dat (.list ((rotsW w).map encW)), .dat (.int k), .un] (sx_if (b := false || (false || false)) (et_or ?_ fun _ => et_or ?_ fun _ => ?_) (fun h => nomatch h) (fun _ => sx_nil rfl)) ?_
      · exact et_neW (EX.w (ex_call (args := fun x : List Int × Nat => [encW x.1, .int x.2]) (w, k) (ea_cons (ex_var rfl) (ea_cons (ex_var rfl) ea_nil)) ⟨Nat.le_of_lt hk, hw2⟩)) (EX.w (ex_ixL' (EX.w (ex_var rfl)) (ex_var rfl) hix))
      · exact et_neW (EX.w (ex_call (args := fun w : List Int => [encW w]) w (ea_cons (ex_var rfl) ea_nil) ⟨hw1, hw2⟩)) (EX.w (ex_minW hne (EX.w (ex_var rfl))))
      · have em : minW (rotsW (rotW w k)) = minW (rotsW w) := minW_same (rotsW_ne hrne) hne (rots_rot hk)
        exact et_neW (EX.w (EX.is (ex_call (args := fun w : List Int => [encW w]) (rotW w k) (ea_cons (ex_ixL' (EX.w (ex_var rfl)) (ex_var rfl) hix) ea_nil) ⟨hrne, by rw [hrl]; exact hw2⟩) (congrArg encW em))) (EX.w (ex_minW hne (EX.w (ex_var rfl))))
      refine sx_if (b := false) (et_neW (w := w.reverse) (EX.w (ex_call (args := fun w : List Int => [encW w]) w (ea_cons (ex_var rfl) ea_nil) trivial)) (EX.w (EX.is (ex_tupleL (EX.w (EN.x (en_lc1 (vs := [10]) (ys := List.range w.length) (fun i => .int (i : Nat)) (fun i => .int (w.getD (w.length - 1 - i) 0)) ?_ (by rw [List.length_range]; omega) ?_)))) (rev_tuple w)))) (fun h => nomatch h) (fun _ => sx_nil ⟨[.un, .val (.ref s1), .un, .un, .un, .un, .un, .un, .un, .un, .un], ⟨.inr rfl, .inr rfl, .inr rfl, .inr rfl, .inr rfl, .inr rfl, .inr rfl, .inl rfl, .inl rfl, .inl rfl, .inr rfl, trivial⟩, rfl⟩)
      · have h1 := it_rng1 (C := C) (ρ := [.un, .val (.ref s1), .un, .un, .un, .un, .un, .dat (encW w), .dat (.list ((rotsW w).map encW)), .dat (.int k), .un]) (n := (w.length : Int)) (ta := tCons (tCB (Ka.rLen K) (tCons (tVar 7) tNil)) tNil) (by
          have h := ea_cons (ex_lenT (C := C) (K := K) (ρ := [.un, .val (.ref s1), .un, .un, .un, .un, .un, .dat (encW w), .dat (.list ((rotsW w).map encW)), .dat (.int k), .un]) (ta := tVar 7) (ds := w.map .int) (ex_var rfl)) ea_nil
          rw [List.length_map] at h
          exact h) ⟨by omega, by omega⟩
        rw [Int.toNat_natCast] at h1
        exact h1
      intro i y hy
      have hi : y < w.length := List.mem_range.mp (List.mem_of_getElem? hy)
      refine ⟨_, gx_name (by decide), ex_ixT' (ds := w.map .int) (ex_var rfl) (ex_sub (ex_sub (ex_lenT (ds := w.map .int) (ex_var rfl)) ex_int) (ex_var rfl)) (atI_of (j := w.length - 1 - y) (by rw [List.length_map]; omega) ?_)⟩
      have hlt : w.length - 1 - y < w.length := by omega
      rw [List.getElem?_map, List.getElem?_eq_getElem hlt, List.getD_eq_getElem?_getD, List.getElem?_eq_getElem hlt]
      rfl
    · rintro ρ2 rfl
      exact Le.refl _
    -- the five balls
    have hb : ∀ {ρ : List Sl} (p q : Int), (0 ≤ p ∧ p ≤ 100 ∧ 0 ≤ q ∧ q ≤ 100) ∧ 0 < q → EX C (tCall spBall [] C8.E0 (tCons (tC (.int p)) (tCons (tC (.int q)) tNil))) ρ (ballF p q) := fun p q h => ex_call (args := fun x : Int × Int => [.int x.1, .int x.2]) (p, q) (ea_cons ex_int (ea_cons ex_int ea_nil)) h
    refine sx_seq _ (sx_asg (vs := [5]) (ex_lst (ea_cons (hb 3 3 (by decide)) (ea_cons (hb 4 3 (by decide)) (ea_cons (hb 3 4 (by decide)) (ea_cons (hb 5 3 (by decide)) (ea_cons (hb 3 5 (by decide)) ea_nil))))) (by simp)) (gx_name (by decide)) rfl) ?_
    have ex3 : ∀ {ρ : List Sl} (a b c : Int), EX C (tTup (tCons (tC (.int a)) (tCons (tC (.int b)) (tCons (tC (.int c)) tNil)))) ρ (.tuple [.int a, .int b, .int c]) := fun a b c => ex_tup (ea_cons ex_int (ea_cons ex_int (ea_cons ex_int ea_nil))) (by simp)
    exact sx_ret (EX.w (EX.is (ex_eqD (EX.w (ex_var rfl)) (EX.w (ex_lst (ea_cons (ex3 _ _ _) (ea_cons (ex3 _ _ _) (ea_cons (ex3 _ _ _) (ea_cons (ex3 _ _ _) (ea_cons (ex3 _ _ _) ea_nil))))) (by simp))) (by decide +kernel) (by decide +kernel) (by decide +kernel) (by decide +kernel)) (congrArg PyData.bool (by decide +kernel : _ = true)))) rfl

end
theorem all_mk {l : PySem.W.OpenLaw} {w : World} {K : PySem.W.Frag} {h : Heap} {mg : Str → Option Value} {fa f4 : Addr} {od4 an4 : Option Addr} {sl4 : Array (Option Value)} {oc4 kV4 dc4 pm4 cd4 ct4 : Value} (X : K.In h) (G : h.Ns mainGlobals mg) (hfa : mg "law" = some (.ref fa)) (Z : NoGl mg) (D_bend : DefAt K mg "bend" s_bend) (D_floor_of : DefAt K mg "floor_of" s_floor_of) (D_ball_counts : DefAt K mg "ball_counts" s_ball_counts) (D_turned_word : DefAt K mg "turned_word" s_turned_word) (D_least_turn : DefAt K mg "least_turn" s_least_turn) (D_back_word : DefAt K mg "back_word" s_back_word) (D__law_open_cells : DefAt K mg "_law_open_cells" s__law_open_cells) (D__law_pick : DefAt K mg "_law_pick" s__law_pick) (D__law_turned_words : DefAt K mg "_law_turned_words" s__law_turned_words) (D__law_bend : DefAt K mg "_law_bend" s__law_bend) (D__law_any_word : DefAt K mg "_law_any_word" s__law_any_word) (a4 : PySem.W.nsIn K mainGlobals "law" = some (some (.ref f4))) (l4 : K.lookup f4 = some ⟨oc4, od4, .func (PySem.W.fnOf "law" "law" (defArgs s_law) (defBody s_law) (defScope s_law) .none kV4 dc4 pm4 an4 cd4 ct4), sl4⟩) (c4 : PySem.W.codeIn K cd4 "law" = true) (k4 : PySem.W.keepIn K (.ref f4) = true) :
    ∃ fd : FuncData, (∀ (s : Shared) (v : Value), BindsTo s fd ⟨[v], []⟩ [("_law_script", v)]) ∧ ∀ base : Heap, K.In base → base.Ns mainGlobals mg → FnOk l.prog w K mg base L2.CX0 4 fa fd ["_law_script"] (spLaw K) := by
  have e := hfa.symm.trans (PySem.W.mg_of X G a4)
  cases e
  refine ⟨PySem.W.fnOf "law" "law" (defArgs s_law) (defBody s_law) (defScope s_law) .none kV4 dc4 pm4 an4 cd4 ct4, fun s v => .of_eq rfl, fun base _ _ => ?_⟩
  have G_bend := ok_bend (P := l.prog) (w := w) (base := base) D_bend Z 
  have G_floor_of := ok_floor_of (P := l.prog) (w := w) (base := base) D_floor_of Z G_bend
  have G_ball_counts := ok_ball_counts (P := l.prog) (w := w) (base := base) D_ball_counts Z G_bend G_floor_of
  have G_turned_word := ok_turned_word (P := l.prog) (w := w) (base := base) D_turned_word Z 
  have G_least_turn := ok_least_turn (P := l.prog) (w := w) (base := base) D_least_turn Z G_turned_word
  have G_back_word := ok_back_word (P := l.prog) (w := w) (base := base) D_back_word Z 
  have G__law_open_cells := ok__law_open_cells (P := l.prog) (w := w) (base := base) D__law_open_cells Z 
  have G__law_pick := ok__law_pick (P := l.prog) (w := w) (base := base) D__law_pick Z 
  have G__law_turned_words := ok__law_turned_words (P := l.prog) (w := w) (base := base) D__law_turned_words Z 
  have G__law_bend := ok__law_bend (P := l.prog) (w := w) (base := base) D__law_bend Z 
  have G__law_any_word := ok__law_any_word (P := l.prog) (w := w) (base := base) D__law_any_word Z G__law_pick
  exact ok_law (fun_mk (st := s_law) l4 c4 k4) Z G_ball_counts G_back_word G_least_turn G_turned_word G__law_pick G__law_turned_words G__law_any_word G_floor_of G__law_bend G__law_open_cells
end Wx
open PySem PySem.W PyProof.Rows
set_option maxRecDepth 100000 in
set_option maxHeartbeats 0 in
theorem PySem.Challenge.cw_whatrims_k20_kinds_and_words_holds : PySem.Challenge.rw_whatrims_k20_kinds_and_words.Holds := by
  w_on; o_law; k_head; (case hw => w_witness2)
  k_fill
  refine Ka.walkLaw (k := 4) ⟨rfl, by decide, by decide⟩ (l := PySem.Challenge.rw_whatrims_k20_kinds_and_words) rfl rfl (fun w h Y => PySem.W.kIn_of Y) ?F
  case F =>
    intro w mg fa h KX G hmg
    refine' Wx.all_mk KX G hmg (Ka.noGl_of KX G ?z0 ?z1 ?z2 ?z3 ?z4 ?z5 ?z6 ?z7 ?z8 ?z9 ?z10 ?z11 ?z12 ?z13 ?z14 ?z15 ?z16) (Ka.defAt_of KX G ?a0 ?l0 ?c0 ?k0) (Ka.defAt_of KX G ?a1 ?l1 ?c1 ?k1) (Ka.defAt_of KX G ?a2 ?l2 ?c2 ?k2) (Ka.defAt_of KX G ?a3 ?l3 ?c3 ?k3) (Ka.defAt_of KX G ?a4 ?l4 ?c4 ?k4) (Ka.defAt_of KX G ?a5 ?l5 ?c5 ?k5) (Ka.defAt_of KX G ?a6 ?l6 ?c6 ?k6) (Ka.defAt_of KX G ?a7 ?l7 ?c7 ?k7) (Ka.defAt_of KX G ?a8 ?l8 ?c8 ?k8) (Ka.defAt_of KX G ?a9 ?l9 ?c9 ?k9) (Ka.defAt_of KX G ?a10 ?l10 ?c10 ?k10) ?a ?l ?c ?k
    (case z0 => k_is)
    (case z1 => k_is)
    (case z2 => k_is)
    (case z3 => k_is)
    (case z4 => k_is)
    (case z5 => k_is)
    (case z6 => k_is)
    (case z7 => k_is)
    (case z8 => k_is)
    (case z9 => k_is)
    (case z10 => k_is)
    (case z11 => k_is)
    (case z12 => k_is)
    (case z13 => k_is)
    (case z14 => k_is)
    (case z15 => k_is)
    (case z16 => k_is)
    (case a0 => k_is); (case l0 => k_is); (case c0 => k_is); (case k0 => k_is)
    (case a1 => k_is); (case l1 => k_is); (case c1 => k_is); (case k1 => k_is)
    (case a2 => k_is); (case l2 => k_is); (case c2 => k_is); (case k2 => k_is)
    (case a3 => k_is); (case l3 => k_is); (case c3 => k_is); (case k3 => k_is)
    (case a4 => k_is); (case l4 => k_is); (case c4 => k_is); (case k4 => k_is)
    (case a5 => k_is); (case l5 => k_is); (case c5 => k_is); (case k5 => k_is)
    (case a6 => k_is); (case l6 => k_is); (case c6 => k_is); (case k6 => k_is)
    (case a7 => k_is); (case l7 => k_is); (case c7 => k_is); (case k7 => k_is)
    (case a8 => k_is); (case l8 => k_is); (case c8 => k_is); (case k8 => k_is)
    (case a9 => k_is); (case l9 => k_is); (case c9 => k_is); (case k9 => k_is)
    (case a10 => k_is); (case l10 => k_is); (case c10 => k_is); (case k10 => k_is)
    (case a => k_is); (case l => k_is); (case c => k_is); (case k => k_is)
#print axioms PySem.Challenge.cw_whatrims_k20_kinds_and_words_holds
