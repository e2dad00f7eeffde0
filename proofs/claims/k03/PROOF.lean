import PyProof.Rows.All
import Wide.All
import OpenK.AllK
import Wide.FinOn
import HandS.ForMost
import HandS.Walk
import HandS.Exc
import HandS.ExcOwn
import HandS.WordsExc
import HandS.IsInst
import HandS.Flow
import HandS.WideBits
import HandS.StrMore
import HandS.TupAny
import HandS.Deep
import HandS.TupLe
import HandS.SortInts
import HandS.Defaults
import HandS.HeadHook2
import KE.GoesEnum
import KE.GoesMore
import HandS.Zip
import HandS.Rev
import HandS.RevRange
import HandS.TupMul
import HandS.Style
import HandS.HeadEnd
import HandS.Ends
import HandS.Dict
import HandS.More
import HandS.SortRule
import HandS.TupSets
import PyProof.StrBlock2
import PySem.Challenge.RW_jumpcuts_k03_whole_partings
import HandS.Head0
import HandS.Head1
import HandS.Head2
import HandS.HeadHook1
set_option Elab.async false
set_option linter.all false
set_option maxRecDepth 100000
set_option autoImplicit false
namespace DL
open PySem L2

/-! ### data: values as trees -/
inductive D where
  | non | bl (b : Bool) | int (i : Int) | str (x : Str) | tup (xs : List D) | lst (xs : List D) | dct (kvs : List (Key × D)) | dctT (kvs : List (List Key × D)) | ref (a : Addr) | ty (n : String)

/-- a slot of a def: unknown; a value that nothing changes any more; a list or dict that this slot alone holds -/
inductive Slot where
  | un | sh (d : D) | own (d : D) | io (d : D)
/-- what a slot holds that it may change -/
def Slot.cont : Slot → Option D
  | .own d => some d
  | .io d => some d
  | _ => none
def Slot.put : Slot → D → Slot
  | .own _, d => .own d
  | .io _, d => .io d
  | s, _ => s
abbrev Env := List Slot
structure Ex where
  name : Str
  fs : List (Str × D)
/-- a value, an error (with the slots as they stand then), or no word -/
inductive R (α : Type) where
  | ok (a : α) | err (x : Ex) (r : Env) | stk
def R.bind {α β : Type} : R α → (α → R β) → R β
  | .ok a, g => g a
  | .err x r, _ => .err x r
  | .stk, _ => .stk
def R.ofO {α : Type} : Option α → R α
  | some a => .ok a
  | none => .stk
@[simp] def Sat {α : Type} (p : α → Prop) (q : Ex → Env → Prop) : R α → Prop
  | .ok a => p a
  | .err x r => q x r
  | .stk => False
theorem Sat.bind {α β : Type} {p : β → Prop} {q : Ex → Env → Prop} {r : R α} {g : α → R β} (h : Sat p q (r.bind g)) : Sat (fun a => Sat p q (g a)) q r := by
  cases r <;> exact h
theorem Sat.mono {α : Type} {p p' : α → Prop} {q q' : Ex → Env → Prop} {r : R α} (h : Sat p q r) (hp : ∀ a, p a → p' a) (hq : ∀ x e, q x e → q' x e) : Sat p' q' r := by
  cases r with
  | ok a => exact hp a h
  | err x e => exact hq x e h
  | stk => exact h
theorem Sat.imp {α : Type} {p p' : α → Prop} {q : Ex → Env → Prop} {r : R α} (h : Sat p q r) (hp : ∀ a, p a → p' a) : Sat p' q r := h.mono hp fun _ _ z => z
theorem Sat.ofO {α : Type} {p : α → Prop} {q : Ex → Env → Prop} {o : Option α} (h : Sat p q (R.ofO o)) : ∃ a, o = some a ∧ p a := by
  cases o with
  | none => exact h.elim
  | some a => exact ⟨a, rfl, h⟩

/-! ### how data stand in the abstract heap -/
def isT : HO → Bool
  | .tup _ => true
  | .frz _ u => isT u
  | _ => false
/-- a list of the written part -/
def WrL (K : PySem.W.Frag) (a : Addr) (xs : List V) : Prop :=
  ∃ (o : Obj) (its : Array Value) (n : Nat), K.lookup a = some o ∧ o.cls = .type "list" ∧ o.dict = none ∧ o.data = .seq its n ∧ its.size ≤ sizeLine ∧ Vals xs its.toList
/-- a tuple of the written part -/
def WrT (K : PySem.W.Frag) (a : Addr) (xs : List V) : Prop :=
  ∃ (o : Obj) (its : Array Value) (n : Nat), K.lookup a = some o ∧ o.cls = .type "tuple" ∧ o.data = .seq its n ∧ its.size ≤ sizeLine ∧ Vals xs its.toList
mutual
/-- the value v stands for d; no list or dict of it is one of A -/
def Rep (K : PySem.W.Frag) (H : Hp) (A : Addr → Prop) : D → V → Prop
  | .non, v => v = .non
  | .bl b, v => v = .bl b
  | .int i, v => v = .int i
  | .str x, v => v = .str x
  | .ref a, v => v = .ref a
  | .ty n, v => v = .ty n
  | .tup ds, v => ∃ a xs, v = .ref a ∧ (H a = some (.tup xs) ∨ WrT K a xs) ∧ RepL K H A ds xs
  | .lst ds, v => ∃ a xs, v = .ref a ∧ ((Rd H a (.lst xs) ∧ ¬ A a) ∨ WrL K a xs) ∧ RepL K H A ds xs
  | .dct kvs, v => ∃ a vs, v = .ref a ∧ H a = some (.dK vs) ∧ ¬ A a ∧ RepK K H A kvs vs
  | .dctT kvs, v => ∃ a vs, v = .ref a ∧ H a = some (.dT vs) ∧ ¬ A a ∧ RepM K H A kvs vs
def RepL (K : PySem.W.Frag) (H : Hp) (A : Addr → Prop) : List D → List V → Prop
  | [], vs => vs = []
  | d :: ds, vs => ∃ v r, vs = v :: r ∧ Rep K H A d v ∧ RepL K H A ds r
def RepK (K : PySem.W.Frag) (H : Hp) (A : Addr → Prop) : List (Key × D) → List (Key × V) → Prop
  | [], vs => vs = []
  | (k, d) :: ds, vs => ∃ v r, vs = (k, v) :: r ∧ Rep K H A d v ∧ RepK K H A ds r
def RepM (K : PySem.W.Frag) (H : Hp) (A : Addr → Prop) : List (List Key × D) → List (List Key × V) → Prop
  | [], vs => vs = []
  | (k, d) :: ds, vs => ∃ v r, vs = (k, v) :: r ∧ Rep K H A d v ∧ RepM K H A ds r
end
def AOk (A : Addr → Prop) (H : Hp) : Prop := ∀ a, A a → ∃ o, H a = some o ∧ isT o = false
/-- what is not A's stays, and does not become A''s -/
def Keep (A A' : Addr → Prop) (H H' : Hp) : Prop := ∀ b o, H b = some o → ¬ A b → H' b = some o ∧ ¬ A' b
theorem Keep.refl {A : Addr → Prop} {H : Hp} : Keep A A H H := fun _ _ h n => ⟨h, n⟩
theorem Keep.trans {A A' A'' : Addr → Prop} {H H' H'' : Hp} (a : Keep A A' H H') (b : Keep A' A'' H' H'') : Keep A A'' H H'' := fun c o h n => by
  obtain ⟨h1, n1⟩ := a c o h n
  exact b c o h1 n1
theorem Keep.of {A : Addr → Prop} {H H' : Hp} (s : Same H H') : Keep A A H H' := fun b o h n => ⟨s b o h, n⟩
section
variable {K : PySem.W.Frag} {H H' : Hp} {A A' : Addr → Prop}
theorem AOk.tup (a : AOk A H) {b : Addr} {o : HO} (h : H b = some o) (t : isT o = true) : ¬ A b := fun z => by
  obtain ⟨u, e, f⟩ := a b z
  rw [h] at e
  cases e
  rw [t] at f
  cases f
theorem AOk.fresh (a : AOk A H) {p : Addr} (h : H p = none) : ¬ A p := fun z => by
  obtain ⟨u, e, f⟩ := a p z
  rw [h] at e
  cases e
theorem tup_keep (k : Keep A A' H H') (a : AOk A H) {b : Addr} {xs : List V} (h : H b = some (.tup xs) ∨ WrT K b xs) : H' b = some (.tup xs) ∨ WrT K b xs := by
  rcases h with h | h
  · exact .inl (k _ _ h (a.tup h rfl)).1
  · exact .inr h
theorem tup_sq {b : Addr} {xs : List V} (h : H b = some (.tup xs) ∨ WrT K b xs) : SqT K H b xs := by
  rcases h with h | h
  · exact .inl (.inl h)
  · exact .inr h
theorem Rd.keep (k : Keep A A' H H') {b : Addr} {u : HO} (h : Rd H b u) (n : ¬ A b) : Rd H' b u ∧ ¬ A' b := by
  rcases h with h | ⟨o, h⟩
  · exact ⟨.inl (k _ _ h n).1, (k _ _ h n).2⟩
  · exact ⟨.inr ⟨o, (k _ _ h n).1⟩, (k _ _ h n).2⟩
mutual
theorem Rep.keep (k : Keep A A' H H') (a : AOk A H) : ∀ (d : D) (v : V), Rep K H A d v → Rep K H' A' d v
  | .non, _, h => h
  | .bl _, _, h => h
  | .int _, _, h => h
  | .str _, _, h => h
  | .ref _, _, h => h
  | .ty _, _, h => h
  | .tup ds, v, h => by
    unfold Rep at h ⊢
    obtain ⟨b, xs, e, hs, hr⟩ := h
    exact ⟨b, xs, e, tup_keep k a hs, RepL.keep k a ds xs hr⟩
  | .lst ds, v, h => by
    unfold Rep at h ⊢
    obtain ⟨b, xs, e, hs, hr⟩ := h
    refine ⟨b, xs, e, ?_, RepL.keep k a ds xs hr⟩
    rcases hs with ⟨h1, h2⟩ | hs
    · exact .inl (Rd.keep k h1 h2)
    · exact .inr hs
  | .dct ds, v, h => by
    unfold Rep at h ⊢
    obtain ⟨b, xs, e, hs, hn, hr⟩ := h
    exact ⟨b, xs, e, (k _ _ hs hn).1, (k _ _ hs hn).2, RepK.keep k a ds xs hr⟩
  | .dctT ds, v, h => by
    unfold Rep at h ⊢
    obtain ⟨b, xs, e, hs, hn, hr⟩ := h
    exact ⟨b, xs, e, (k _ _ hs hn).1, (k _ _ hs hn).2, RepM.keep k a ds xs hr⟩
theorem RepL.keep (k : Keep A A' H H') (a : AOk A H) : ∀ (ds : List D) (vs : List V), RepL K H A ds vs → RepL K H' A' ds vs
  | [], _, h => h
  | d :: ds, vs, h => by
    unfold RepL at h ⊢
    obtain ⟨v, r, e, h1, h2⟩ := h
    exact ⟨v, r, e, Rep.keep k a d v h1, RepL.keep k a ds r h2⟩
theorem RepK.keep (k : Keep A A' H H') (a : AOk A H) : ∀ (ds : List (Key × D)) (vs : List (Key × V)), RepK K H A ds vs → RepK K H' A' ds vs
  | [], _, h => h
  | (q, d) :: ds, vs, h => by
    unfold RepK at h ⊢
    obtain ⟨v, r, e, h1, h2⟩ := h
    exact ⟨v, r, e, Rep.keep k a d v h1, RepK.keep k a ds r h2⟩
theorem RepM.keep (k : Keep A A' H H') (a : AOk A H) : ∀ (ds : List (List Key × D)) (vs : List (List Key × V)), RepM K H A ds vs → RepM K H' A' ds vs
  | [], _, h => h
  | (q, d) :: ds, vs, h => by
    unfold RepM at h ⊢
    obtain ⟨v, r, e, h1, h2⟩ := h
    exact ⟨v, r, e, Rep.keep k a d v h1, RepM.keep k a ds r h2⟩
end
theorem Rep.same (s : Same H H') (a : AOk A H) {d : D} {v : V} (h : Rep K H A d v) : Rep K H' A d v := Rep.keep (Keep.of s) a d v h
theorem RepL.same (s : Same H H') (a : AOk A H) {d : List D} {v : List V} (h : RepL K H A d v) : RepL K H' A d v := RepL.keep (Keep.of s) a d v h
end
/-- the list or dict at a, a slot's own -/
def RepO (K : PySem.W.Frag) (H : Hp) (A : Addr → Prop) : D → Addr → Prop
  | .lst ds, a => ∃ xs, H a = some (.lst xs) ∧ RepL K H A ds xs
  | .dct kvs, a => ∃ vs, H a = some (.dK vs) ∧ RepK K H A kvs vs
  | .dctT kvs, a => ∃ vs, H a = some (.dT vs) ∧ RepM K H A kvs vs
  | _, _ => False
/-- a value that is only looked at: it may be a slot's own -/
def RepB (K : PySem.W.Frag) (H : Hp) (A : Addr → Prop) (d : D) (v : V) : Prop := Rep K H A d v ∨ ∃ a, v = .ref a ∧ RepO K H A d a
section
variable {K : PySem.W.Frag} {H H' : Hp} {A A' : Addr → Prop}
theorem RepO.same (s : Same H H') (a : AOk A H) {d : D} {b : Addr} (h : RepO K H A d b) : RepO K H' A d b := by
  cases d with
  | lst ds => obtain ⟨xs, e, r⟩ := h; exact ⟨xs, s _ _ e, RepL.keep (Keep.of s) a _ _ r⟩
  | dct ds => obtain ⟨xs, e, r⟩ := h; exact ⟨xs, s _ _ e, RepK.keep (Keep.of s) a _ _ r⟩
  | dctT ds => obtain ⟨xs, e, r⟩ := h; exact ⟨xs, s _ _ e, RepM.keep (Keep.of s) a _ _ r⟩
  | _ => exact h.elim
theorem RepB.same (s : Same H H') (a : AOk A H) {d : D} {v : V} (h : RepB K H A d v) : RepB K H' A d v := by
  rcases h with h | ⟨b, e, h⟩
  · exact .inl (h.same s a)
  · exact .inr ⟨b, e, RepO.same s a h⟩
theorem RepO.isT {d : D} {b : Addr} (h : RepO K H A d b) : ∃ o, H b = some o ∧ isT o = false := by
  cases d with
  | lst ds => obtain ⟨xs, e, r⟩ := h; exact ⟨_, e, rfl⟩
  | dct ds => obtain ⟨xs, e, r⟩ := h; exact ⟨_, e, rfl⟩
  | dctT ds => obtain ⟨xs, e, r⟩ := h; exact ⟨_, e, rfl⟩
  | _ => exact h.elim
theorem RepO.keepNe (k : Keep A A' H H') (a : AOk A H) {d : D} {b : Addr} (h : RepO K H A d b) (hb : H' b = H b) : RepO K H' A' d b := by
  cases d with
  | lst ds => obtain ⟨xs, e, r⟩ := h; exact ⟨xs, hb.trans e, RepL.keep k a _ _ r⟩
  | dct ds => obtain ⟨xs, e, r⟩ := h; exact ⟨xs, hb.trans e, RepK.keep k a _ _ r⟩
  | dctT ds => obtain ⟨xs, e, r⟩ := h; exact ⟨xs, hb.trans e, RepM.keep k a _ _ r⟩
  | _ => exact h.elim
end

/-! ### the slots -/
def Av (A0 : Addr → Prop) (os : List (Option Addr)) (a : Addr) : Prop := A0 a ∨ some a ∈ os
def SlotOk (K : PySem.W.Frag) (H : Hp) (A : Addr → Prop) (io : Addr → Prop) : Slot → Option V → Option Addr → Prop
  | .un, _, o => o = none
  | .sh d, v, o => o = none ∧ ∃ u, v = some u ∧ Rep K H A d u
  | .own d, v, o => ∃ a, o = some a ∧ v = some (.ref a) ∧ RepO K H A d a
  | .io d, v, o => ∃ a, o = some a ∧ v = some (.ref a) ∧ RepO K H A d a ∧ io a
theorem SlotOk.cont {K : PySem.W.Frag} {H : Hp} {A io : Addr → Prop} {s : Slot} {d : D} {v : Option V} {o : Option Addr} (q : SlotOk K H A io s v o) (e : s.cont = some d) : ∃ a, o = some a ∧ v = some (.ref a) ∧ RepO K H A d a ∧ ∀ H' A' d', RepO K H' A' d' a → SlotOk K H' A' io (s.put d') v o := by
  cases s with
  | own d0 =>
    cases e
    obtain ⟨a, e1, e2, h⟩ := q
    exact ⟨a, e1, e2, h, fun H' A' d' h' => ⟨a, e1, e2, h'⟩⟩
  | io d0 =>
    cases e
    obtain ⟨a, e1, e2, h, i⟩ := q
    exact ⟨a, e1, e2, h, fun H' A' d' h' => ⟨a, e1, e2, h', i⟩⟩
  | _ => cases e
/-- a def's frame: the lists and dicts of its callers' slots, the heap at the entry, what it may change of it -/
structure Fm where
  A0 : Addr → Prop
  H0 : Hp
  io : Addr → Prop
structure Rel (K : PySem.W.Frag) (F : Fm) (os : List (Option Addr)) (r : Env) (σ : St) (H : Hp) : Prop where
  lens : σ.length = r.length
  leno : os.length = r.length
  slot : ∀ (i : Nat) (s : Slot) (v : Option V) (o : Option Addr), r[i]? = some s → σ[i]? = some v → os[i]? = some o → SlotOk K H (Av F.A0 os) F.io s v o
  inj : ∀ (i j : Nat) (a : Addr), os[i]? = some (some a) → os[j]? = some (some a) → i = j
  out : ∀ (i : Nat) (a : Addr), os[i]? = some (some a) → ¬ F.A0 a
  aok : ∀ (a : Addr), F.A0 a → ∃ o, H a = some o ∧ isT o = false
  same : ∀ (b : Addr) (o : HO), F.H0 b = some o → ¬ F.io b → H b = some o
  new : ∀ (i : Nat) (a : Addr), os[i]? = some (some a) → F.H0 a = none ∨ F.io a
theorem getElem?_set_cases {α : Type} {l : List α} {i j : Nat} {x y : α} (h : (l.set i x)[j]? = some y) : (i = j ∧ y = x) ∨ (i ≠ j ∧ l[j]? = some y) := by
  by_cases e : i = j
  · subst e
    by_cases hl : i < l.length
    · rw [List.getElem?_set_self hl] at h
      exact .inl ⟨rfl, (Option.some.inj h).symm⟩
    · rw [List.getElem?_eq_none (by simpa using hl)] at h
      cases h
  · rw [List.getElem?_set_ne e] at h
    exact .inr ⟨e, h⟩
theorem mem_set_cases {os : List (Option Addr)} {i : Nat} {o : Option Addr} {a : Addr} (h : some a ∈ os.set i o) : some a ∈ os ∨ o = some a := by
  rcases List.mem_or_eq_of_mem_set h with h | h
  · exact .inl h
  · exact .inr h.symm
section
variable {K : PySem.W.Frag} {F : Fm} {os : List (Option Addr)} {r : Env} {σ : St} {H H' : Hp}
theorem Rel.get (R : Rel K F os r σ H) {i : Nat} {s : Slot} (e : r[i]? = some s) : ∃ v o, σ[i]? = some v ∧ os[i]? = some o ∧ SlotOk K H (Av F.A0 os) F.io s v o := by
  have hi : i < r.length := (List.getElem?_eq_some_iff.mp e).1
  have h1 : i < σ.length := by rw [R.lens]; exact hi
  have h2 : i < os.length := by rw [R.leno]; exact hi
  exact ⟨σ[i], os[i], List.getElem?_eq_getElem h1, List.getElem?_eq_getElem h2, R.slot i s _ _ e (List.getElem?_eq_getElem h1) (List.getElem?_eq_getElem h2)⟩
theorem Rel.own (R : Rel K F os r σ H) {i : Nat} {a : Addr} (e : os[i]? = some (some a)) : ∃ s d, r[i]? = some s ∧ s.cont = some d ∧ σ[i]? = some (some (.ref a)) ∧ RepO K H (Av F.A0 os) d a := by
  have hi : i < os.length := (List.getElem?_eq_some_iff.mp e).1
  have hr : i < r.length := by rw [← R.leno]; exact hi
  have er : r[i]? = some r[i] := List.getElem?_eq_getElem hr
  obtain ⟨v, o, e1, e2, s⟩ := R.get er
  rw [e] at e2
  cases e2
  cases q : r[i] with
  | un =>
    rw [q] at s
    have z : some a = (none : Option Addr) := s
    cases z
  | sh d =>
    rw [q] at s
    have z : some a = (none : Option Addr) := s.1
    cases z
  | own d =>
    rw [q] at s
    obtain ⟨a', e3, e4, s⟩ := s
    cases e3
    exact ⟨.own d, d, by rw [er, q], rfl, by rw [e1, e4], s⟩
  | io d =>
    rw [q] at s
    obtain ⟨a', e3, e4, s, _⟩ := s
    cases e3
    exact ⟨.io d, d, by rw [er, q], rfl, by rw [e1, e4], s⟩
theorem Rel.AOk (R : Rel K F os r σ H) : AOk (Av F.A0 os) H := fun a h => by
  rcases h with h | h
  · exact R.aok a h
  · obtain ⟨i, hi, e⟩ := List.getElem_of_mem h
    obtain ⟨_, d, _, _, _, s⟩ := R.own (i := i) (a := a) (by rw [List.getElem?_eq_getElem hi, e])
    exact s.isT
theorem Rel.same' (R : Rel K F os r σ H) (s : Same H H') : Rel K F os r σ H' := by
  have ak := R.AOk
  refine ⟨R.lens, R.leno, fun i sl v o e1 e2 e3 => ?_, R.inj, R.out, fun a h => ?_, fun b o e n => s _ _ (R.same b o e n), R.new⟩
  · have q := R.slot i sl v o e1 e2 e3
    cases sl with
    | un => exact q
    | sh d =>
      obtain ⟨q1, u, q2, q3⟩ := q
      exact ⟨q1, u, q2, q3.same s ak⟩
    | own d =>
      obtain ⟨a, q1, q2, q3⟩ := q
      exact ⟨a, q1, q2, RepO.same s ak q3⟩
    | io d =>
      obtain ⟨a, q1, q2, q3, q4⟩ := q
      exact ⟨a, q1, q2, RepO.same s ak q3, q4⟩
  · obtain ⟨o, h1, h2⟩ := R.aok a h
    exact ⟨o, s _ _ h1, h2⟩
theorem Rel.notIn (R : Rel K F os r σ H) {p : Addr} (h : H p = none) : ¬ Av F.A0 os p := R.AOk.fresh h
theorem SlotOk.keep {A A' io : Addr → Prop} (k : Keep A A' H H') (ak : DL.AOk A H) {sl : Slot} {v : Option V} {o : Option Addr} (q : SlotOk K H A io sl v o) (ho : ∀ a, o = some a → H' a = H a) : SlotOk K H' A' io sl v o := by
  cases sl with
  | un => exact q
  | sh d =>
    obtain ⟨q1, u, q2, q3⟩ := q
    exact ⟨q1, u, q2, Rep.keep k ak _ _ q3⟩
  | own d =>
    obtain ⟨a, q1, q2, q3⟩ := q
    exact ⟨a, q1, q2, RepO.keepNe k ak q3 (ho a q1)⟩
  | io d =>
    obtain ⟨a, q1, q2, q3, q4⟩ := q
    exact ⟨a, q1, q2, RepO.keepNe k ak q3 (ho a q1), q4⟩
/-- a slot takes a new value: shared -/
theorem Rel.setSh (R : Rel K F os r σ H) {i : Nat} {d : D} {v : V} (h : Rep K H (Av F.A0 os) d v) :
    Rel K F (os.set i none) (r.set i (.sh d)) (σ.set i (some v)) H ∧ Keep (Av F.A0 os) (Av F.A0 (os.set i none)) H H := by
  have ak := R.AOk
  have kp : Keep (Av F.A0 os) (Av F.A0 (os.set i none)) H H := fun b o e n => ⟨e, fun z => n (by
    rcases z with z | z
    · exact .inl z
    · rcases mem_set_cases z with z | z
      · exact .inr z
      · cases z)⟩
  refine ⟨⟨by simp [R.lens], by simp [R.leno], fun j sl w o e1 e2 e3 => ?_, fun j k a e1 e2 => ?_, fun j a e => ?_, R.aok, R.same, fun j a e => ?_⟩, kp⟩
  · rcases getElem?_set_cases e1 with ⟨e, z1⟩ | ⟨e, e1⟩
    · subst e
      subst z1
      rcases getElem?_set_cases e2 with ⟨_, z2⟩ | ⟨z, _⟩
      · rcases getElem?_set_cases e3 with ⟨_, z3⟩ | ⟨z, _⟩
        · exact ⟨z3, v, z2, Rep.keep kp ak d v h⟩
        · exact absurd rfl z
      · exact absurd rfl z
    · rw [List.getElem?_set_ne e] at e2 e3
      exact (R.slot j sl w o e1 e2 e3).keep kp ak fun _ _ => rfl
  · rcases getElem?_set_cases e1 with ⟨_, z⟩ | ⟨_, e1⟩
    · cases z
    · rcases getElem?_set_cases e2 with ⟨_, z⟩ | ⟨_, e2⟩
      · cases z
      · exact R.inj j k a e1 e2
  · rcases getElem?_set_cases e with ⟨_, z⟩ | ⟨_, e⟩
    · cases z
    · exact R.out j a e
  · rcases getElem?_set_cases e with ⟨_, z⟩ | ⟨_, e⟩
    · cases z
    · exact R.new j a e
def Ad (A : Addr → Prop) (p : Addr) (a : Addr) : Prop := A a ∨ a = p
/-- a slot takes a new list or dict, its own from now on -/
theorem Rel.setOwn (R : Rel K F os r σ H) {i : Nat} {d : D} {p : Addr} (s : Same H H') (n : H p = none) (h : RepO K H' (Ad (Av F.A0 os) p) d p) :
    Rel K F (os.set i (some p)) (r.set i (.own d)) (σ.set i (some (.ref p))) H' ∧ Keep (Av F.A0 os) (Av F.A0 (os.set i (some p))) H H' := by
  have ak := R.AOk
  have np := R.notIn n
  have nos : some p ∉ os := fun z => np (.inr z)
  have kp : Keep (Av F.A0 os) (Av F.A0 (os.set i (some p))) H H' := fun b o e nb => ⟨s b o e, fun z => nb (by
    rcases z with z | z
    · exact .inl z
    · rcases mem_set_cases z with z | z
      · exact .inr z
      · cases z
        rw [n] at e
        cases e)⟩
  obtain ⟨oT, hT, fT⟩ := h.isT
  have ak2 : DL.AOk (Ad (Av F.A0 os) p) H' := fun a z => by
    rcases z with z | z
    · obtain ⟨o, h1, h2⟩ := ak a z
      exact ⟨o, s _ _ h1, h2⟩
    · subst z
      exact ⟨oT, hT, fT⟩
  have kp2 : Keep (Ad (Av F.A0 os) p) (Av F.A0 (os.set i (some p))) H' H' := fun b o e nb => ⟨e, fun z => nb (by
    rcases z with z | z
    · exact .inl (.inl z)
    · rcases mem_set_cases z with z | z
      · exact .inl (.inr z)
      · cases z
        exact .inr rfl)⟩
  have ho : ∀ (j : Nat) (a : Addr), os[j]? = some (some a) → H' a = H a := fun j a e => by
    obtain ⟨_, _, _, _, _, q⟩ := R.own e
    obtain ⟨o, h1, _⟩ := q.isT
    rw [h1]
    exact s _ _ h1
  refine ⟨⟨by simp [R.lens], by simp [R.leno], fun j sl w o e1 e2 e3 => ?_, fun j k a e1 e2 => ?_, fun j a e => ?_, fun a z => ?_, fun b o e nb => s _ _ (R.same b o e nb), fun j a e => ?_⟩, kp⟩
  · rcases getElem?_set_cases e1 with ⟨e, z1⟩ | ⟨e, e1⟩
    · subst e
      subst z1
      rcases getElem?_set_cases e2 with ⟨_, z2⟩ | ⟨z, _⟩
      · rcases getElem?_set_cases e3 with ⟨_, z3⟩ | ⟨z, _⟩
        · exact ⟨p, z3, z2, RepO.keepNe kp2 ak2 h rfl⟩
        · exact absurd rfl z
      · exact absurd rfl z
    · rw [List.getElem?_set_ne e] at e2 e3
      exact (R.slot j sl w o e1 e2 e3).keep kp ak fun a z => ho j a (by rw [e3, z])
  · rcases getElem?_set_cases e1 with ⟨q1, z1⟩ | ⟨q1, e1⟩
    · rcases getElem?_set_cases e2 with ⟨q2, z2⟩ | ⟨q2, e2⟩
      · rw [← q1, ← q2]
      · cases z1
        exact absurd (List.mem_of_getElem? e2) nos
    · rcases getElem?_set_cases e2 with ⟨q2, z2⟩ | ⟨q2, e2⟩
      · cases z2
        exact absurd (List.mem_of_getElem? e1) nos
      · exact R.inj j k a e1 e2
  · rcases getElem?_set_cases e with ⟨_, z⟩ | ⟨_, e⟩
    · cases z
      exact fun z => np (.inl z)
    · exact R.out j a e
  · obtain ⟨o, h1, h2⟩ := R.aok a z
    exact ⟨o, s _ _ h1, h2⟩
  · rcases getElem?_set_cases e with ⟨_, z⟩ | ⟨_, e⟩
    · cases z
      by_cases hio : F.io p
      · exact .inr hio
      · cases q : F.H0 p with
        | none => exact .inl rfl
        | some o =>
          have := R.same p o q hio
          rw [n] at this
          cases this
    · exact R.new j a e
/-- a slot's own list or dict changes -/
theorem Rel.updOwn (R : Rel K F os r σ H) {i : Nat} {s : Slot} {d d' : D} {a : Addr} {o' : HO} (e : r[i]? = some s) (ec : s.cont = some d) (ea : σ[i]? = some (some (.ref a))) (h : RepO K (upd H a o') (Av F.A0 os) d' a) :
    Rel K F os (r.set i (s.put d')) σ (upd H a o') ∧ Keep (Av F.A0 os) (Av F.A0 os) H (upd H a o') := by
  have ak := R.AOk
  obtain ⟨v, o, e1, e2, q0⟩ := R.get e
  obtain ⟨a', z1, z2, q, qq⟩ := q0.cont ec
  subst z1
  rw [ea] at e1
  cases e1
  cases z2
  have inA : Av F.A0 os a := .inr (List.mem_of_getElem? e2)
  have kp : Keep (Av F.A0 os) (Av F.A0 os) H (upd H a o') := fun b u eb nb => ⟨by
    rw [upd_ne (fun z => nb (by rw [z]; exact inA))]
    exact eb, nb⟩
  refine ⟨⟨by simp [R.lens], by simp [R.leno], fun j sl w u e1 e2' e3 => ?_, R.inj, R.out, fun b z => ?_, fun b u eb nb => ?_, R.new⟩, kp⟩
  · rcases getElem?_set_cases e1 with ⟨ej, z1⟩ | ⟨ej, e1⟩
    · subst ej
      subst z1
      rw [e2] at e3
      cases e3
      rw [ea] at e2'
      cases e2'
      exact qq _ _ _ h
    · refine (R.slot j sl w u e1 e2' e3).keep kp ak fun b z => upd_ne fun zz => ej ?_
      subst z
      subst zz
      exact R.inj i j b e2 e3
  · obtain ⟨u, h1, h2⟩ := R.aok b z
    have hne : b ≠ a := fun zz => R.out i a e2 (by rw [← zz]; exact z)
    exact ⟨u, by rw [upd_ne hne]; exact h1, h2⟩
  · have hne : b ≠ a := fun zz => by
      subst zz
      rcases R.new i b e2 with h1 | h1
      · rw [h1] at eb
        cases eb
      · exact nb h1
    rw [upd_ne hne]
    exact R.same b u eb nb
/-- a slot's own list or dict becomes a value as others -/
theorem Rel.freeze (R : Rel K F os r σ H) {i : Nat} {d : D} (e : r[i]? = some (.own d)) :
    Rel K F (os.set i none) (r.set i (.sh d)) σ H ∧ Keep (Av F.A0 os) (Av F.A0 (os.set i none)) H H ∧ ∃ a, σ[i]? = some (some (.ref a)) ∧ Rep K H (Av F.A0 (os.set i none)) d (.ref a) := by
  have ak := R.AOk
  obtain ⟨v, o, e1, e2, a, z1, z2, q⟩ := R.get e
  subst z1
  subst z2
  have kp : Keep (Av F.A0 os) (Av F.A0 (os.set i none)) H H := fun b o e n => ⟨e, fun z => n (by
    rcases z with z | z
    · exact .inl z
    · rcases mem_set_cases z with z | z
      · exact .inr z
      · cases z)⟩
  have na : ¬ Av F.A0 (os.set i none) a := fun z => by
    rcases z with z | z
    · exact R.out i a e2 z
    · obtain ⟨j, hj, ej⟩ := List.getElem_of_mem z
      have ej' : (os.set i none)[j]? = some (some a) := by rw [List.getElem?_eq_getElem hj, ej]
      rcases getElem?_set_cases ej' with ⟨_, z⟩ | ⟨nij, z⟩
      · cases z
      · exact nij (R.inj i j a e2 z)
  have rep : Rep K H (Av F.A0 (os.set i none)) d (.ref a) := by
    cases d with
    | lst ds =>
      obtain ⟨xs, h1, h2⟩ := q
      unfold Rep
      exact ⟨a, xs, rfl, .inl ⟨.inl h1, na⟩, RepL.keep kp ak _ _ h2⟩
    | dct ds =>
      obtain ⟨xs, h1, h2⟩ := q
      unfold Rep
      exact ⟨a, xs, rfl, h1, na, RepK.keep kp ak _ _ h2⟩
    | dctT ds =>
      obtain ⟨xs, h1, h2⟩ := q
      unfold Rep
      exact ⟨a, xs, rfl, h1, na, RepM.keep kp ak _ _ h2⟩
    | _ => exact q.elim
  refine ⟨⟨by simp [R.lens], by simp [R.leno], fun j sl w u e3 e4 e5 => ?_, fun j k b e3 e4 => ?_, fun j b e3 => ?_, R.aok, R.same, fun j b e3 => ?_⟩, kp, a, e1, rep⟩
  · rcases getElem?_set_cases e3 with ⟨ej, z1⟩ | ⟨ej, e3⟩
    · subst ej
      subst z1
      rw [e1] at e4
      cases e4
      rcases getElem?_set_cases e5 with ⟨_, z3⟩ | ⟨z, _⟩
      · exact ⟨z3, _, rfl, rep⟩
      · exact absurd rfl z
    · rw [List.getElem?_set_ne ej] at e5
      exact (R.slot j sl w u e3 e4 e5).keep kp ak fun _ _ => rfl
  · rcases getElem?_set_cases e3 with ⟨_, z⟩ | ⟨_, e3⟩
    · cases z
    · rcases getElem?_set_cases e4 with ⟨_, z⟩ | ⟨_, e4⟩
      · cases z
      · exact R.inj j k b e3 e4
  · rcases getElem?_set_cases e3 with ⟨_, z⟩ | ⟨_, e3⟩
    · cases z
    · exact R.out j b e3
  · rcases getElem?_set_cases e3 with ⟨_, z⟩ | ⟨_, e3⟩
    · cases z
    · exact R.new j b e3
end
end DL

namespace DL
open PySem L2

/-! ### errors in the air, wishes -/
def XRep (K : PySem.W.Frag) (mg : Str → Option Value) (H : Hp) (x : Ex) (cls : Value) (dd : Option Addr) : Prop :=
  ∃ C, mg x.name = some (.ref C) ∧ cls = .ref C ∧ (x.fs = [] ∨ ∃ d vs, dd = some d ∧ H d = some (.xd vs) ∧ x.fs.map (·.1) = vs.map (·.1) ∧ ∀ (i : Nat) p q, x.fs[i]? = some p → vs[i]? = some q → Rep K H (fun _ => False) p.2 q.2)
def ErK (K : PySem.W.Frag) (mg : Str → Option Value) (W : WX) (F : Fm) (x : Ex) (r : Env) : Prop :=
  ∀ (os : List (Option Addr)) (σ : St) (cls : Value) (dd : Option Addr) (H : Hp), Rel K F os r σ H → XRep K mg H x cls dd → W cls dd σ H
abbrev Er (X : Cx) (W : WX) (F : Fm) (x : Ex) (r : Env) : Prop := ErK X.K X.mg W F x r
/-- a value that is only looked at; the slots stay -/
structure DB (X : Cx) (W : WX) (e : Expr) (f : Env → R D) : Prop where
  ex : ∃ t, PE X e t ∧ ∀ (F : Fm) (os : List (Option Addr)) (r : Env) (σ : St) (H : Hp) (Q : VK), Rel X.K F os r σ H →
    Sat (fun d => ∀ v H', Same H H' → RepB X.K H' (Av F.A0 os) d v → Q v H') (Er X W F) (f r) → t σ H Q
/-- a value; the slots stay -/
structure DP (X : Cx) (W : WX) (e : Expr) (f : Env → R D) : Prop where
  ex : ∃ t, PE X e t ∧ ∀ (F : Fm) (os : List (Option Addr)) (r : Env) (σ : St) (H : Hp) (Q : VK), Rel X.K F os r σ H →
    Sat (fun d => ∀ v H', Same H H' → Rep X.K H' (Av F.A0 os) d v → Q v H') (Er X W F) (f r) → t σ H Q
/-- a new list or dict; the slots stay -/
structure DF (X : Cx) (W : WX) (e : Expr) (f : Env → R D) : Prop where
  ex : ∃ t, PE X e t ∧ ∀ (F : Fm) (os : List (Option Addr)) (r : Env) (σ : St) (H : Hp) (Q : VK), Rel X.K F os r σ H →
    Sat (fun d => ∀ p H', Same H H' → H p = none → RepO X.K H' (Ad (Av F.A0 os) p) d p → Q (.ref p) H') (Er X W F) (f r) → t σ H Q
/-- a value; the lists that slots hold may change -/
structure DE (X : Cx) (W : WX) (e : Expr) (f : Env → R (D × Env)) : Prop where
  ex : ∃ t, PE X e t ∧ ∀ (F : Fm) (os : List (Option Addr)) (r : Env) (σ : St) (H : Hp) (Q : VK), Rel X.K F os r σ H →
    Sat (fun p => ∀ v H', Rel X.K F os p.2 σ H' → Keep (Av F.A0 os) (Av F.A0 os) H H' → Rep X.K H' (Av F.A0 os) p.1 v → Q v H') (Er X W F) (f r) → t σ H Q
/-- tests -/
structure DT (X : Cx) (W : WX) (e : Expr) (f : Env → R Bool) : Prop where
  ex : ∃ t, PT X e t ∧ ∀ (F : Fm) (os : List (Option Addr)) (r : Env) (σ : St) (H : Hp) (Q : Bool → Hp → Prop), Rel X.K F os r σ H →
    Sat (fun b => ∀ H', Same H H' → Q b H') (Er X W F) (f r) → t σ H Q
structure DTE (X : Cx) (W : WX) (e : Expr) (f : Env → R (Bool × Env)) : Prop where
  ex : ∃ t, PT X e t ∧ ∀ (F : Fm) (os : List (Option Addr)) (r : Env) (σ : St) (H : Hp) (Q : Bool → Hp → Prop), Rel X.K F os r σ H →
    Sat (fun p => ∀ H', Rel X.K F os p.2 σ H' → Keep (Av F.A0 os) (Av F.A0 os) H H' → Q p.1 H') (Er X W F) (f r) → t σ H Q
/-- arguments -/
structure DBs (X : Cx) (W : WX) (es : List Expr) (f : Env → R (List D)) : Prop where
  ex : ∃ t, PA X es t ∧ ∀ (F : Fm) (os : List (Option Addr)) (r : Env) (σ : St) (H : Hp) (Q : List V → Hp → Prop), Rel X.K F os r σ H →
    Sat (fun ds => ∀ vs H', Same H H' → Paired (RepB X.K H' (Av F.A0 os)) ds vs → Q vs H') (Er X W F) (f r) → t σ H Q
structure DPs (X : Cx) (W : WX) (es : List Expr) (f : Env → R (List D)) : Prop where
  ex : ∃ t, PA X es t ∧ ∀ (F : Fm) (os : List (Option Addr)) (r : Env) (σ : St) (H : Hp) (Q : List V → Hp → Prop), Rel X.K F os r σ H →
    Sat (fun ds => ∀ vs H', Same H H' → RepL X.K H' (Av F.A0 os) ds vs → Q vs H') (Er X W F) (f r) → t σ H Q
structure DEs (X : Cx) (W : WX) (es : List Expr) (f : Env → R (List D × Env)) : Prop where
  ex : ∃ t, PA X es t ∧ ∀ (F : Fm) (os : List (Option Addr)) (r : Env) (σ : St) (H : Hp) (Q : List V → Hp → Prop), Rel X.K F os r σ H →
    Sat (fun p => ∀ vs H', Rel X.K F os p.2 σ H' → Keep (Av F.A0 os) (Av F.A0 os) H H' → RepL X.K H' (Av F.A0 os) p.1 vs → Q vs H') (Er X W F) (f r) → t σ H Q
section
variable {X : Cx} {W : WX} {e a b c : Expr} {es : List Expr} {f fa fb fc : Env → R D}

theorem Same.of_eq {H : Hp} : Same H H := Same.refl H
theorem same_upd {H : Hp} {p : Addr} {o : HO} (n : H p = none) : Same H (upd H p o) := fun b u e => by rw [upd_ne (ne_of_none e n)]; exact e

theorem DP.toB (h : DP X W e f) : DB X W e f := by
  obtain ⟨t, pe, w⟩ := h
  exact ⟨t, pe, fun F os r σ H Q R S => w F os r σ H Q R (S.imp fun d q v H' s h => q v H' s (.inl h))⟩
theorem repO_rep {K : PySem.W.Frag} {H : Hp} {A A' : Addr → Prop} {d : D} {p : Addr} (h : RepO K H A d p) (k : Keep A A' H H) (ak : AOk A H) (n : ¬ A' p) : Rep K H A' d (.ref p) := by
  cases d with
  | lst ds =>
    obtain ⟨xs, h1, h2⟩ := h
    unfold Rep
    exact ⟨p, xs, rfl, .inl ⟨.inl h1, n⟩, RepL.keep k ak _ _ h2⟩
  | dct ds =>
    obtain ⟨xs, h1, h2⟩ := h
    unfold Rep
    exact ⟨p, xs, rfl, h1, n, RepK.keep k ak _ _ h2⟩
  | dctT ds =>
    obtain ⟨xs, h1, h2⟩ := h
    unfold Rep
    exact ⟨p, xs, rfl, h1, n, RepM.keep k ak _ _ h2⟩
  | _ => exact h.elim
theorem ad_keep {H : Hp} {A : Addr → Prop} {p : Addr} : Keep (Ad A p) A H H := fun b o e n => ⟨e, fun z => n (.inl z)⟩
theorem ad_ok {K : PySem.W.Frag} {H H' : Hp} {A : Addr → Prop} {d : D} {p : Addr} (ak : AOk A H) (s : Same H H') (h : RepO K H' (Ad A p) d p) : AOk (Ad A p) H' := fun b z => by
  rcases z with z | z
  · obtain ⟨o, h1, h2⟩ := ak b z
    exact ⟨o, s _ _ h1, h2⟩
  · subst z
    exact h.isT
theorem DF.toP (h : DF X W e f) : DP X W e f := by
  obtain ⟨t, pe, w⟩ := h
  refine ⟨t, pe, fun F os r σ H Q R S => w F os r σ H Q R (S.imp fun d q p H' s n h => q _ H' s ?_)⟩
  exact repO_rep h ad_keep (ad_ok R.AOk s h) (R.notIn n)
def withEnv {α : Type} (f : Env → R α) : Env → R (α × Env) := fun r => (f r).bind fun a => .ok (a, r)
theorem DP.toE (h : DP X W e f) : DE X W e (withEnv f) := by
  obtain ⟨t, pe, w⟩ := h
  exact ⟨t, pe, fun F os r σ H Q R S => w F os r σ H Q R (S.bind.imp fun d q v H' s h => q v H' (R.same' s) (Keep.of s) h)⟩
theorem DT.toE {g : Env → R Bool} (h : DT X W e g) : DTE X W e (withEnv g) := by
  obtain ⟨t, pe, w⟩ := h
  exact ⟨t, pe, fun F os r σ H Q R S => w F os r σ H Q R (S.bind.imp fun d q H' s => q H' (R.same' s) (Keep.of s))⟩
theorem DPs.toE {g : Env → R (List D)} (h : DPs X W es g) : DEs X W es (withEnv g) := by
  obtain ⟨t, pe, w⟩ := h
  exact ⟨t, pe, fun F os r σ H Q R S => w F os r σ H Q R (S.bind.imp fun d q v H' s h => q v H' (R.same' s) (Keep.of s) h)⟩

/-! ### names, constants -/
def gSh (i : Nat) : Env → R D := fun r => match r[i]? with
  | some (.sh d) => .ok d
  | _ => .stk
def gAny (i : Nat) : Env → R D := fun r => match r[i]? with
  | some (.sh d) => .ok d
  | some (.own d) => .ok d
  | some (.io d) => .ok d
  | _ => .stk
theorem d_var (i : Nat) {x : Str} {pos : Pos} (hN : X.N[i]? = some x := by rfl) (hv : Vis X.env.scope x := by first | exact Or.inl rfl | exact Or.inr (Or.inl rfl) | exact Or.inr (Or.inr rfl)) (hd : (x == ("__debug__" : Str)) = false := by decide)
    (hcd : (x == ("__classdict__" : Str)) = false := by decide) : DP X W (.Name x pos) (gSh i) := by
  refine ⟨_, pe_var (i := i) hN hv hd hcd, fun F os r σ H Q R S => ?_⟩
  unfold gSh at S
  cases e : r[i]? with
  | none => rw [e] at S; exact S.elim
  | some sl =>
    rw [e] at S
    cases sl with
    | sh d =>
      obtain ⟨v, o, e1, e2, z, u, e3, h⟩ := R.get e
      subst e3
      exact ⟨u, e1, S u H (Same.refl H) h⟩
    | _ => exact S.elim
theorem b_var (i : Nat) {x : Str} {pos : Pos} (hN : X.N[i]? = some x := by rfl) (hv : Vis X.env.scope x := by first | exact Or.inl rfl | exact Or.inr (Or.inl rfl) | exact Or.inr (Or.inr rfl)) (hd : (x == ("__debug__" : Str)) = false := by decide)
    (hcd : (x == ("__classdict__" : Str)) = false := by decide) : DB X W (.Name x pos) (gAny i) := by
  refine ⟨_, pe_var (i := i) hN hv hd hcd, fun F os r σ H Q R S => ?_⟩
  unfold gAny at S
  cases e : r[i]? with
  | none => rw [e] at S; exact S.elim
  | some sl =>
    rw [e] at S
    cases sl with
    | sh d =>
      obtain ⟨v, o, e1, e2, z, u, e3, h⟩ := R.get e
      subst e3
      exact ⟨u, e1, S u H (Same.refl H) (.inl h)⟩
    | own d =>
      obtain ⟨v, o, e1, e2, a, z, e3, h⟩ := R.get e
      subst e3
      exact ⟨_, e1, S _ H (Same.refl H) (.inr ⟨a, rfl, h⟩)⟩
    | io d =>
      obtain ⟨v, o, e1, e2, a, z, e3, h, _⟩ := R.get e
      subst e3
      exact ⟨_, e1, S _ H (Same.refl H) (.inr ⟨a, rfl, h⟩)⟩
    | un => exact S.elim
@[simp] def kc (d : D) : Env → R D := fun _ => .ok d
theorem d_int {i : Int} {j : Nat} {pos : Pos} : DP X W (.Constant (.int i) j pos) (kc (.int i)) := ⟨_, pe_int, fun F os r σ H Q R S => S _ H (Same.refl H) (by unfold Rep; rfl)⟩
theorem d_bl {i : Bool} {j : Nat} {pos : Pos} : DP X W (.Constant (.bool i) j pos) (kc (.bl i)) := ⟨_, pe_bl, fun F os r σ H Q R S => S _ H (Same.refl H) (by unfold Rep; rfl)⟩
theorem d_non {j : Nat} {pos : Pos} : DP X W (.Constant .none j pos) (kc .non) := ⟨_, pe_non, fun F os r σ H Q R S => S _ H (Same.refl H) (by unfold Rep; rfl)⟩
theorem d_str {i : Str} {j : Nat} {pos : Pos} : DP X W (.Constant (.str i) j pos) (kc (.str i)) := ⟨_, pe_str, fun F os r σ H Q R S => S _ H (Same.refl H) (by unfold Rep; rfl)⟩
/-- a module's constant -/
theorem d_glob {x : Str} {d : D} {v : V} {u : Value} {pos : Pos} (hg : Gl X x) (hm : X.mg x = some u) (r : RelV v u) (hd : ∀ H A, Rep X.K H A d v) (hdb : (x == ("__debug__" : Str)) = false := by decide) : DP X W (.Name x pos) (kc d) :=
  ⟨_, pe_glob hg hm r hdb, fun F os r σ H Q R S => S v H (Same.refl H) (hd _ _)⟩

/-! ### arguments -/
@[simp] def aNil : Env → R (List D) := fun _ => .ok []
@[simp] def aCons (f : Env → R D) (g : Env → R (List D)) : Env → R (List D) := fun r => (f r).bind fun d => (g r).bind fun ds => .ok (d :: ds)
@[simp] def aConsE (f : Env → R (D × Env)) (g : Env → R (List D × Env)) : Env → R (List D × Env) := fun r => (f r).bind fun p => (g p.2).bind fun q => .ok (p.1 :: q.1, q.2)
theorem b_nil : DBs X W [] aNil := ⟨_, pa_nil, fun F os r σ H Q R S => S [] H (Same.refl H) .nil⟩
theorem p_nil : DPs X W [] aNil := ⟨_, pa_nil, fun F os r σ H Q R S => S [] H (Same.refl H) (by unfold RepL; rfl)⟩
theorem b_cons {g : Env → R (List D)} (h : DB X W e f) (h2 : DBs X W es g) (hs : starEach (e :: es) X.env = (false, eval e X.env) :: starEach es X.env := by rfl) : DBs X W (e :: es) (aCons f g) := by
  obtain ⟨t, pe, w⟩ := h
  obtain ⟨u, pa, z⟩ := h2
  refine ⟨_, pa_cons pe pa hs, fun F os r σ H Q R S => ?_⟩
  refine w F os r σ H _ R (S.bind.imp fun d S v H1 s1 h1 => ?_)
  refine z F os r σ H1 _ (R.same' s1) (S.bind.imp fun ds S vs H2 s2 h2 => ?_)
  exact S _ H2 (s1.trans s2) (.cons (h1.same s2 (R.same' s1).AOk) h2)
theorem p_cons {g : Env → R (List D)} (h : DP X W e f) (h2 : DPs X W es g) (hs : starEach (e :: es) X.env = (false, eval e X.env) :: starEach es X.env := by rfl) : DPs X W (e :: es) (aCons f g) := by
  obtain ⟨t, pe, w⟩ := h
  obtain ⟨u, pa, z⟩ := h2
  refine ⟨_, pa_cons pe pa hs, fun F os r σ H Q R S => ?_⟩
  refine w F os r σ H _ R (S.bind.imp fun d S v H1 s1 h1 => ?_)
  refine z F os r σ H1 _ (R.same' s1) (S.bind.imp fun ds S vs H2 s2 h2 => ?_)
  exact S _ H2 (s1.trans s2) (by unfold RepL; exact ⟨v, vs, rfl, h1.same s2 (R.same' s1).AOk, h2⟩)
theorem e_cons {h : Env → R (D × Env)} {g : Env → R (List D × Env)} (h1 : DE X W e h) (h2 : DEs X W es g) (hs : starEach (e :: es) X.env = (false, eval e X.env) :: starEach es X.env := by rfl) : DEs X W (e :: es) (aConsE h g) := by
  obtain ⟨t, pe, w⟩ := h1
  obtain ⟨u, pa, z⟩ := h2
  refine ⟨_, pa_cons pe pa hs, fun F os r σ H Q R S => ?_⟩
  refine w F os r σ H _ R (S.bind.imp fun d S v H1 R1 k1 h1 => ?_)
  refine z F os _ σ H1 _ R1 (S.bind.imp fun ds S vs H2 R2 k2 h2 => ?_)
  exact S _ H2 R2 (k1.trans k2) (by unfold RepL; exact ⟨v, vs, rfl, Rep.keep k2 R1.AOk _ _ h1, h2⟩)

/-! ### an operation of two values, of several, of one -/
/-- r asks no more than the data say -/
def Op2 (X : Cx) (r : R2) (op : D → D → Option D) : Prop := ∀ (A : Addr → Prop) (H : Hp) (x y : D) (v w : V) (d : D) (Q : VK), AOk A H → op x y = some d → RepB X.K H A x v → RepB X.K H A y w →
  (∀ u H', Same H H' → Rep X.K H' A d u → Q u H') → r v w H Q
/-- .. with a new list -/
def Op2F (X : Cx) (r : R2) (op : D → D → Option D) : Prop := ∀ (A : Addr → Prop) (H : Hp) (x y : D) (v w : V) (d : D) (Q : VK), AOk A H → op x y = some d → RepB X.K H A x v → RepB X.K H A y w →
  (∀ p H', Same H H' → H p = none → RepO X.K H' (Ad A p) d p → Q (.ref p) H') → r v w H Q
@[simp] def bin (op : D → D → Option D) (fa fb : Env → R D) : Env → R D := fun r => (fa r).bind fun x => (fb r).bind fun y => R.ofO (op x y)
@[simp] def binE (op : D → D → Option D) (fa fb : Env → R (D × Env)) : Env → R (D × Env) := fun r => (fa r).bind fun x => (fb x.2).bind fun y => (R.ofO (op x.1 y.1)).bind fun d => .ok (d, y.2)
theorem d_bin {mk : Expr} {r : R2} {op : D → D → Option D} (m : ∀ {ta tb : TE}, PE X a ta → PE X b tb → PE X mk (tOp r ta tb)) (o : Op2 X r op) (ha : DB X W a fa) (hb : DB X W b fb) : DP X W mk (bin op fa fb) := by
  obtain ⟨ta, pa, wa⟩ := ha
  obtain ⟨tb, pb, wb⟩ := hb
  refine ⟨_, m pa pb, fun F os r σ H Q R S => ?_⟩
  refine wa F os r σ H _ R (S.bind.imp fun x S v H1 s1 h1 => ?_)
  refine wb F os r σ H1 _ (R.same' s1) (S.bind.imp fun y S w H2 s2 h2 => ?_)
  obtain ⟨d, ed, S⟩ := S.ofO
  have R2 := (R.same' s1).same' s2
  exact o _ H2 x y v w d Q R2.AOk ed (h1.same s2 (R.same' s1).AOk) h2 fun u H3 s3 h3 => S u H3 ((s1.trans s2).trans s3) h3
theorem d_binF {mk : Expr} {r : R2} {op : D → D → Option D} (m : ∀ {ta tb : TE}, PE X a ta → PE X b tb → PE X mk (tOp r ta tb)) (o : Op2F X r op) (ha : DB X W a fa) (hb : DB X W b fb) : DF X W mk (bin op fa fb) := by
  obtain ⟨ta, pa, wa⟩ := ha
  obtain ⟨tb, pb, wb⟩ := hb
  refine ⟨_, m pa pb, fun F os r σ H Q R S => ?_⟩
  refine wa F os r σ H _ R (S.bind.imp fun x S v H1 s1 h1 => ?_)
  refine wb F os r σ H1 _ (R.same' s1) (S.bind.imp fun y S w H2 s2 h2 => ?_)
  obtain ⟨d, ed, S⟩ := S.ofO
  have R2 := (R.same' s1).same' s2
  refine o _ H2 x y v w d Q R2.AOk ed (h1.same s2 (R.same' s1).AOk) h2 fun p H3 s3 n3 h3 => S p H3 ((s1.trans s2).trans s3) ?_ h3
  exact s1.free (s2.free n3)
theorem d_binE {mk : Expr} {r : R2} {op : D → D → Option D} {ga gb : Env → R (D × Env)} (m : ∀ {ta tb : TE}, PE X a ta → PE X b tb → PE X mk (tOp r ta tb)) (o : Op2 X r op) (ha : DE X W a ga) (hb : DE X W b gb) : DE X W mk (binE op ga gb) := by
  obtain ⟨ta, pa, wa⟩ := ha
  obtain ⟨tb, pb, wb⟩ := hb
  refine ⟨_, m pa pb, fun F os r σ H Q R S => ?_⟩
  refine wa F os r σ H _ R (S.bind.imp fun x S v H1 R1 k1 h1 => ?_)
  refine wb F os _ σ H1 _ R1 (S.bind.imp fun y S w H2 R2 k2 h2 => ?_)
  obtain ⟨d, ed, S⟩ := S.bind.ofO
  exact o _ H2 x.1 y.1 v w d Q R2.AOk ed (.inl (Rep.keep k2 R1.AOk _ _ h1)) (.inl h2) fun u H3 s3 h3 => S u H3 (R2.same' s3) ((k1.trans k2).trans (Keep.of s3)) h3
/-- n arguments -/
def OpN (X : Cx) (r : List V → Hp → VK → Prop) (op : List D → Option D) : Prop := ∀ (A : Addr → Prop) (H : Hp) (xs : List D) (vs : List V) (d : D) (Q : VK), AOk A H → op xs = some d → Paired (RepB X.K H A) xs vs →
  (∀ u H', Same H H' → Rep X.K H' A d u → Q u H') → r vs H Q
def OpNF (X : Cx) (r : List V → Hp → VK → Prop) (op : List D → Option D) : Prop := ∀ (A : Addr → Prop) (H : Hp) (xs : List D) (vs : List V) (d : D) (Q : VK), AOk A H → op xs = some d → Paired (RepB X.K H A) xs vs →
  (∀ p H', Same H H' → H p = none → RepO X.K H' (Ad A p) d p → Q (.ref p) H') → r vs H Q
theorem repL_b {K : PySem.W.Frag} {H : Hp} {A : Addr → Prop} : ∀ {ds : List D} {vs : List V}, RepL K H A ds vs → Paired (RepB K H A) ds vs
  | [], vs, h => by
    unfold RepL at h
    subst h
    exact .nil
  | d :: ds, vs, h => by
    unfold RepL at h
    obtain ⟨v, r, e, h1, h2⟩ := h
    subst e
    exact .cons (.inl h1) (repL_b h2)
@[simp] def appN (op : List D → Option D) (g : Env → R (List D)) : Env → R D := fun r => (g r).bind fun ds => R.ofO (op ds)
@[simp] def appNE (op : List D → Option D) (g : Env → R (List D × Env)) : Env → R (D × Env) := fun r => (g r).bind fun p => (R.ofO (op p.1)).bind fun d => .ok (d, p.2)
theorem d_app {mk : Expr} {r : List V → Hp → VK → Prop} {op : List D → Option D} {g : Env → R (List D)} (m : ∀ {ta : TA}, PA X es ta → PE X mk (tCB r ta)) (o : OpN X r op) (ha : DBs X W es g) : DP X W mk (appN op g) := by
  obtain ⟨ta, pa, wa⟩ := ha
  refine ⟨_, m pa, fun F os r σ H Q R S => ?_⟩
  refine wa F os r σ H _ R (S.bind.imp fun xs S vs H1 s1 h1 => ?_)
  obtain ⟨d, ed, S⟩ := S.ofO
  exact o _ H1 xs vs d Q (R.same' s1).AOk ed h1 fun u H3 s3 h3 => S u H3 (s1.trans s3) h3
theorem d_appF {mk : Expr} {r : List V → Hp → VK → Prop} {op : List D → Option D} {g : Env → R (List D)} (m : ∀ {ta : TA}, PA X es ta → PE X mk (tCB r ta)) (o : OpNF X r op) (ha : DBs X W es g) : DF X W mk (appN op g) := by
  obtain ⟨ta, pa, wa⟩ := ha
  refine ⟨_, m pa, fun F os r σ H Q R S => ?_⟩
  refine wa F os r σ H _ R (S.bind.imp fun xs S vs H1 s1 h1 => ?_)
  obtain ⟨d, ed, S⟩ := S.ofO
  exact o _ H1 xs vs d Q (R.same' s1).AOk ed h1 fun p H3 s3 n3 h3 => S p H3 (s1.trans s3) (s1.free n3) h3
theorem d_appE {mk : Expr} {r : List V → Hp → VK → Prop} {op : List D → Option D} {g : Env → R (List D × Env)} (m : ∀ {ta : TA}, PA X es ta → PE X mk (tCB r ta)) (o : OpN X r op) (ha : DEs X W es g) : DE X W mk (appNE op g) := by
  obtain ⟨ta, pa, wa⟩ := ha
  refine ⟨_, m pa, fun F os r σ H Q R S => ?_⟩
  refine wa F os r σ H _ R (S.bind.imp fun xs S vs H1 R1 k1 h1 => ?_)
  obtain ⟨d, ed, S⟩ := S.bind.ofO
  exact o _ H1 xs.1 vs d Q R1.AOk ed (repL_b h1) fun u H3 s3 h3 => S u H3 (R1.same' s3) (k1.trans (Keep.of s3)) h3

/-! ### tests -/
def asB : D → Option Bool
  | .bl b => some b
  | _ => none
@[simp] def tst (f : Env → R D) : Env → R Bool := fun r => (f r).bind fun d => R.ofO (asB d)
@[simp] def tstE (f : Env → R (D × Env)) : Env → R (Bool × Env) := fun r => (f r).bind fun p => (R.ofO (asB p.1)).bind fun b => .ok (b, p.2)
theorem asB_bl {K : PySem.W.Frag} {H : Hp} {A : Addr → Prop} {d : D} {v : V} {k : Bool} (e : asB d = some k) (h : RepB K H A d v) : v = .bl k := by
  cases d with
  | bl b =>
    cases e
    rcases h with h | ⟨a, _, h⟩
    · unfold Rep at h
      exact h
    · exact h.elim
  | _ => cases e
theorem bin_tst {K : PySem.W.Frag} {fa fb : Env → R D} {op : D → D → Option D} : True := trivial
/-- a comparison as a test -/
theorem t_cmp {op : CmpOp} {r : R2} {g : D → D → Option D} {pos : Pos} (ho : OpR X (compareOp op) r) (o : Op2 X r g) (ha : DB X W a fa) (hb : DB X W b fb) (hm : behindInMarks op b = false) : DT X W (.Compare a [op] [b] pos) (tst (bin g fa fb)) := by
  obtain ⟨ta, pa, wa⟩ := ha
  obtain ⟨tb, pb, wb⟩ := hb
  refine ⟨_, pt_cmpR ho pa pb hm, fun F os r σ H Q R S => ?_⟩
  have S := S.bind
  show ta σ H _
  refine wa F os r σ H _ R (S.bind.imp fun x S v H1 s1 h1 => ?_)
  refine wb F os r σ H1 _ (R.same' s1) (S.bind.imp fun y S w H2 s2 h2 => ?_)
  obtain ⟨d, ed, S⟩ := S.ofO
  obtain ⟨k, ek, S⟩ := S.ofO
  have R2 := (R.same' s1).same' s2
  exact o _ H2 x y v w d _ R2.AOk ed (h1.same s2 (R.same' s1).AOk) h2 fun u H3 s3 h3 => ⟨k, asB_bl ek (.inl h3), S H3 ((s1.trans s2).trans s3)⟩
theorem t_cmpE {op : CmpOp} {r : R2} {g : D → D → Option D} {pos : Pos} {ga gb : Env → R (D × Env)} (ho : OpR X (compareOp op) r) (o : Op2 X r g) (ha : DE X W a ga) (hb : DE X W b gb) (hm : behindInMarks op b = false) : DTE X W (.Compare a [op] [b] pos) (tstE (binE g ga gb)) := by
  obtain ⟨ta, pa, wa⟩ := ha
  obtain ⟨tb, pb, wb⟩ := hb
  refine ⟨_, pt_cmpR ho pa pb hm, fun F os r σ H Q R S => ?_⟩
  have S := S.bind
  show ta σ H _
  refine wa F os r σ H _ R (S.bind.imp fun x S v H1 R1 k1 h1 => ?_)
  refine wb F os _ σ H1 _ R1 (S.bind.imp fun y S w H2 R2 k2 h2 => ?_)
  obtain ⟨d, ed, S⟩ := S.bind.ofO
  obtain ⟨k, ek, S⟩ := S.bind.ofO
  exact o _ H2 x.1 y.1 v w d _ R2.AOk ed (.inl (Rep.keep k2 R1.AOk _ _ h1)) (.inl h2) fun u H3 s3 h3 => ⟨k, asB_bl ek (.inl h3), S H3 (R2.same' s3) ((k1.trans k2).trans (Keep.of s3))⟩
/-- truth -/
def truD : D → Option Bool
  | .non => some false
  | .bl b => some b
  | .int i => some (i != 0)
  | .str y => if y.length ≤ sizeLine then some ((y.length : Int) != 0) else none
  | .lst xs => some (!xs.isEmpty)
  | .tup xs => some (!xs.isEmpty)
  | .dct xs => some (!xs.isEmpty)
  | _ => none
theorem repL_empty {K : PySem.W.Frag} {H : Hp} {A : Addr → Prop} {ds : List D} {vs : List V} (h : RepL K H A ds vs) : ds.isEmpty = vs.isEmpty := by
  cases ds with
  | nil => unfold RepL at h; subst h; rfl
  | cons d ds => unfold RepL at h; obtain ⟨v, r, e, _, _⟩ := h; subst e; rfl
theorem repL_length {K : PySem.W.Frag} {H : Hp} {A : Addr → Prop} : ∀ {ds : List D} {vs : List V}, RepL K H A ds vs → vs.length = ds.length
  | [], vs, h => by unfold RepL at h; subst h; rfl
  | d :: ds, vs, h => by
    unfold RepL at h
    obtain ⟨v, r, e, _, h2⟩ := h
    subst e
    simp [repL_length h2]
theorem repK_empty {K : PySem.W.Frag} {H : Hp} {A : Addr → Prop} {ds : List (Key × D)} {vs : List (Key × V)} (h : RepK K H A ds vs) : ds.isEmpty = vs.isEmpty := by
  cases ds with
  | nil => unfold RepK at h; subst h; rfl
  | cons d ds => obtain ⟨k, d⟩ := d; unfold RepK at h; obtain ⟨v, r, e, _, _⟩ := h; subst e; rfl
/-- a list that may be read: where it stands, its values -/
theorem RepB.lst {K : PySem.W.Frag} {H : Hp} {A : Addr → Prop} {ds : List D} {v : V} (h : RepB K H A (.lst ds) v) : ∃ a xs, v = .ref a ∧ SqL K H a xs ∧ RepL K H A ds xs := by
  rcases h with h | ⟨a, e, xs, h1, h2⟩
  · unfold Rep at h
    obtain ⟨a, xs, e, h1, h2⟩ := h
    rcases h1 with ⟨h1, _⟩ | h1
    · exact ⟨a, xs, e, .inl h1, h2⟩
    · exact ⟨a, xs, e, .inr h1, h2⟩
  · exact ⟨a, xs, e, SqL.of h1, h2⟩
theorem RepB.tup {K : PySem.W.Frag} {H : Hp} {A : Addr → Prop} {ds : List D} {v : V} (h : RepB K H A (.tup ds) v) : ∃ a xs, v = .ref a ∧ SqT K H a xs ∧ RepL K H A ds xs := by
  rcases h with h | ⟨a, e, h⟩
  · unfold Rep at h
    obtain ⟨a, xs, e, h1, h2⟩ := h
    exact ⟨a, xs, e, tup_sq h1, h2⟩
  · exact h.elim
theorem RepB.dct {K : PySem.W.Frag} {H : Hp} {A : Addr → Prop} {ds : List (Key × D)} {v : V} (h : RepB K H A (.dct ds) v) : ∃ a xs, v = .ref a ∧ H a = some (.dK xs) ∧ RepK K H A ds xs := by
  rcases h with h | ⟨a, e, xs, h1, h2⟩
  · unfold Rep at h
    obtain ⟨a, xs, e, h1, h2, h3⟩ := h
    exact ⟨a, xs, e, h1, h3⟩
  · exact ⟨a, xs, e, h1, h2⟩
theorem RepB.int {K : PySem.W.Frag} {H : Hp} {A : Addr → Prop} {i : Int} {v : V} (h : RepB K H A (.int i) v) : v = .int i := by
  rcases h with h | ⟨a, e, h⟩
  · unfold Rep at h; exact h
  · exact h.elim
theorem RepB.str {K : PySem.W.Frag} {H : Hp} {A : Addr → Prop} {i : Str} {v : V} (h : RepB K H A (.str i) v) : v = .str i := by
  rcases h with h | ⟨a, e, h⟩
  · unfold Rep at h; exact h
  · exact h.elim
theorem RepB.bl {K : PySem.W.Frag} {H : Hp} {A : Addr → Prop} {i : Bool} {v : V} (h : RepB K H A (.bl i) v) : v = .bl i := by
  rcases h with h | ⟨a, e, h⟩
  · unfold Rep at h; exact h
  · exact h.elim
theorem RepB.non {K : PySem.W.Frag} {H : Hp} {A : Addr → Prop} {v : V} (h : RepB K H A .non v) : v = .non := by
  rcases h with h | ⟨a, e, h⟩
  · unfold Rep at h; exact h
  · exact h.elim
theorem tru_of {K : PySem.W.Frag} {H : Hp} {A : Addr → Prop} {d : D} {v : V} {k : Bool} (e : truD d = some k) (h : RepB K H A d v) : TruV K v H k := by
  cases d with
  | non => cases e; rw [h.non]; rfl
  | bl b => cases e; rw [h.bl]; rfl
  | int i => cases e; rw [h.int]; rfl
  | str y =>
    simp only [truD] at e
    split at e
    · rename_i hy
      cases e
      rw [h.str]
      exact ⟨hy, rfl⟩
    · cases e
  | lst xs =>
    cases e
    obtain ⟨a, ys, e1, h1, h2⟩ := h.lst
    subst e1
    exact .inl ⟨ys, h1, by rw [repL_empty h2]⟩
  | tup xs =>
    cases e
    obtain ⟨a, ys, e1, h1, h2⟩ := h.tup
    subst e1
    exact .inr (.inl ⟨ys, h1, by rw [repL_empty h2]⟩)
  | dct xs =>
    cases e
    obtain ⟨a, ys, e1, h1, h2⟩ := h.dct
    subst e1
    exact .inr (.inr ⟨ys, h1, by rw [repK_empty h2]⟩)
  | _ => cases e
@[simp] def tru (f : Env → R D) : Env → R Bool := fun r => (f r).bind fun d => R.ofO (truD d)
@[simp] def truE (f : Env → R (D × Env)) : Env → R (Bool × Env) := fun r => (f r).bind fun p => (R.ofO (truD p.1)).bind fun b => .ok (b, p.2)
theorem t_tru (ha : DB X W a fa) (he : ∀ whole, isTrue a X.env whole = (do let v ← whole; standAt a.pos; holding [v] (truthy v)) := by intro _; rfl) : DT X W a (tru fa) := by
  obtain ⟨ta, pa, wa⟩ := ha
  refine ⟨_, pt_truth pa he, fun F os r σ H Q R S => ?_⟩
  show ta σ H _
  refine wa F os r σ H _ R (S.bind.imp fun x S v H1 s1 h1 => ?_)
  obtain ⟨k, ek, S⟩ := S.ofO
  exact ⟨k, tru_of ek h1, S H1 s1⟩
theorem t_truE {ga : Env → R (D × Env)} (ha : DE X W a ga) (he : ∀ whole, isTrue a X.env whole = (do let v ← whole; standAt a.pos; holding [v] (truthy v)) := by intro _; rfl) : DTE X W a (truE ga) := by
  obtain ⟨ta, pa, wa⟩ := ha
  refine ⟨_, pt_truth pa he, fun F os r σ H Q R S => ?_⟩
  show ta σ H _
  refine wa F os r σ H _ R (S.bind.imp fun x S v H1 R1 k1 h1 => ?_)
  obtain ⟨k, ek, S⟩ := S.bind.ofO
  exact ⟨k, tru_of ek (.inl h1), S H1 R1 k1⟩
end
end DL

namespace DL
open PySem L2
section
variable {X : Cx}
theorem repL_append {K : PySem.W.Frag} {H : Hp} {A : Addr → Prop} : ∀ {ds es : List D} {vs ws : List V}, RepL K H A ds vs → RepL K H A es ws → RepL K H A (ds ++ es) (vs ++ ws)
  | [], es, vs, ws, h, h2 => by
    unfold RepL at h
    subst h
    exact h2
  | d :: ds, es, vs, ws, h, h2 => by
    unfold RepL at h
    obtain ⟨v, r, e, h1, h3⟩ := h
    subst e
    show RepL K H A (d :: (ds ++ es)) (v :: (r ++ ws))
    unfold RepL
    exact ⟨v, r ++ ws, rfl, h1, repL_append h3 h2⟩
theorem repL_get {K : PySem.W.Frag} {H : Hp} {A : Addr → Prop} : ∀ {ds : List D} {vs : List V} {i : Nat} {d : D}, RepL K H A ds vs → ds[i]? = some d → ∃ v, vs[i]? = some v ∧ Rep K H A d v
  | [], vs, i, d, h, e => by simp at e
  | d :: ds, vs, 0, d', h, e => by
    unfold RepL at h
    obtain ⟨v, r, e1, h1, h3⟩ := h
    subst e1
    simp at e
    subst e
    exact ⟨v, rfl, h1⟩
  | d :: ds, vs, i + 1, d', h, e => by
    unfold RepL at h
    obtain ⟨v, r, e1, h1, h3⟩ := h
    subst e1
    obtain ⟨u, h4, h5⟩ := repL_get (i := i) h3 (by simpa using e)
    exact ⟨u, by simpa using h4, h5⟩
theorem repL_take {K : PySem.W.Frag} {H : Hp} {A : Addr → Prop} : ∀ {ds : List D} {vs : List V} (n : Nat), RepL K H A ds vs → RepL K H A (ds.take n) (vs.take n)
  | ds, vs, 0, h => by simp only [List.take_zero]; unfold RepL; rfl
  | [], vs, n + 1, h => by
    unfold RepL at h
    subst h
    simp only [List.take_nil]
    unfold RepL; rfl
  | d :: ds, vs, n + 1, h => by
    unfold RepL at h
    obtain ⟨v, r, e1, h1, h3⟩ := h
    subst e1
    simp only [List.take_succ_cons]
    unfold RepL
    exact ⟨v, _, rfl, h1, repL_take n h3⟩
theorem repL_drop {K : PySem.W.Frag} {H : Hp} {A : Addr → Prop} : ∀ {ds : List D} {vs : List V} (n : Nat), RepL K H A ds vs → RepL K H A (ds.drop n) (vs.drop n)
  | ds, vs, 0, h => by simpa using h
  | [], vs, n + 1, h => by
    unfold RepL at h
    subst h
    simp only [List.drop_nil]
    unfold RepL; rfl
  | d :: ds, vs, n + 1, h => by
    unfold RepL at h
    obtain ⟨v, r, e1, h1, h3⟩ := h
    subst e1
    simp only [List.drop_succ_cons]
    exact repL_drop n h3
theorem repL_rev {K : PySem.W.Frag} {H : Hp} {A : Addr → Prop} : ∀ {ds : List D} {vs : List V}, RepL K H A ds vs → RepL K H A ds.reverse vs.reverse
  | [], vs, h => by
    unfold RepL at h
    subst h
    simp only [List.reverse_nil]
    unfold RepL; rfl
  | d :: ds, vs, h => by
    unfold RepL at h
    obtain ⟨v, r, e1, h1, h3⟩ := h
    subst e1
    simp only [List.reverse_cons]
    exact repL_append (repL_rev h3) (by unfold RepL; exact ⟨v, [], rfl, h1, by unfold RepL; rfl⟩)
/-- a new tuple, a new list -/
theorem rep_newtup {K : PySem.W.Frag} {H : Hp} {A : Addr → Prop} {ds : List D} {vs : List V} {p : Addr} (ak : AOk A H) (h : RepL K H A ds vs) (n : H p = none) : Rep K (upd H p (.tup vs)) A (.tup ds) (.ref p) := by
  unfold Rep
  exact ⟨p, vs, rfl, .inl upd_same, h.same (same_upd n) ak⟩
theorem repO_newlst {K : PySem.W.Frag} {H : Hp} {A : Addr → Prop} {ds : List D} {vs : List V} {p : Addr} (ak : AOk A H) (h : RepL K H A ds vs) (n : H p = none) : RepO K (upd H p (.lst vs)) (Ad A p) (.lst ds) p := by
  refine ⟨vs, upd_same, RepL.keep (A := A) (fun b o e nb => ⟨by rw [upd_ne (ne_of_none e n)]; exact e, fun z => ?_⟩) ak _ _ h⟩
  rcases z with z | z
  · exact nb z
  · rw [z, n] at e
    cases e

/-! ### + -/
@[simp] def addD : D → D → Option D
  | .int i, .int j => some (.int (i + j))
  | .str x, .str y => if x.length + y.length ≤ sizeLine then some (.str (x ++ y)) else none
  | .tup xs, .tup ys => if xs.length + ys.length ≤ sizeLine then some (.tup (xs ++ ys)) else none
  | _, _ => none
def rAddS : R2 := fun x y H Q => ∃ i j, x = .str i ∧ y = .str j ∧ i.length + j.length ≤ sizeLine ∧ Q (.str (i ++ j)) H
def rAdd3 (K : PySem.W.Frag) : R2 := fun x y H Q => rI0 (fun i j => .int (i + j)) x y H Q ∨ rAddS x y H Q ∨ rCatA K x y H Q
theorem op_add3 : OpR X (binaryOp .Add) (rAdd3 X.K) := op_add.or (OpR.or (r := rAddS) op_add_str op_catA)
theorem o_add : Op2 X (rAdd3 X.K) addD := by
  intro A H x y v w d Q ak e hx hy q
  cases x with
  | int i =>
    cases y with
    | int j => cases e; exact .inl ⟨i, j, hx.int, hy.int, q _ H (Same.refl H) (by unfold Rep; rfl)⟩
    | _ => cases e
  | str i =>
    cases y with
    | str j =>
      simp only [addD] at e
      split at e
      · rename_i hl
        cases e
        exact .inr (.inl ⟨i, j, hx.str, hy.str, hl, q _ H (Same.refl H) (by unfold Rep; rfl)⟩)
      · cases e
    | _ => cases e
  | tup i =>
    cases y with
    | tup j =>
      simp only [addD] at e
      split at e
      · rename_i hl
        cases e
        have hx0 := hx
        have hy0 := hy
        obtain ⟨a, xs, e1, h1, h2⟩ := hx.tup
        obtain ⟨b, ys, e2, h3, h4⟩ := hy.tup
        have l1 := repL_length h2
        have l2 := repL_length h4
        have rx : Rep X.K H A (.tup i) v := by
          rcases hx0 with z | ⟨_, _, z⟩
          · exact z
          · exact z.elim
        have ry : Rep X.K H A (.tup j) w := by
          rcases hy0 with z | ⟨_, _, z⟩
          · exact z
          · exact z.elim
        refine .inr (.inr ⟨a, b, xs, ys, e1, e2, h1, h3, by omega, fun z => ?_, fun z1 z2 => ?_, fun z1 z2 p n => ?_⟩)
        · subst z
          have : i = [] := List.eq_nil_of_length_eq_zero (by simpa using l1.symm)
          subst this
          exact q _ H (Same.refl H) (by rw [← e2]; exact ry)
        · subst z2
          have : j = [] := List.eq_nil_of_length_eq_zero (by simpa using l2.symm)
          subst this
          exact q _ H (Same.refl H) (by rw [List.append_nil, ← e1]; exact rx)
        · exact q _ _ (same_upd n) (rep_newtup ak (repL_append h2 h4) n)
      · cases e
    | _ => cases e
  | _ => cases e
/-- list + list -/
def catD : D → D → Option D
  | .lst xs, .lst ys => if xs.length + ys.length ≤ sizeLine then some (.lst (xs ++ ys)) else none
  | _, _ => none
def rCatL (K : PySem.W.Frag) : R2 := fun x y H Q => ∃ l b xs zs, x = .ref l ∧ y = .ref b ∧ SqL K H l xs ∧ SqL K H b zs ∧ xs.length + zs.length ≤ sizeLine ∧ ∀ p, H p = none → Q (.ref p) (upd H p (.lst (xs ++ zs)))
theorem op_catL : OpR X (binaryOp .Add) (rCatL X.K) := by
  intro pins s σ H x y v u Q I rx ry h
  obtain ⟨l, b, xs, zs, rfl, rfl, hH, hB, hz, q⟩ := h
  cases rx
  cases ry
  obtain ⟨its, r, ⟨⟨cls, dd, data, sl⟩, n, ho, hc, hdn, hd⟩, hl⟩ := I.list hH
  obtain ⟨its2, r2, ⟨⟨cls2, dd2, data2, sl2⟩, n2, ho2, hc2, hdn2, hd2⟩, hl2⟩ := I.list hB
  simp only at hc hd hc2 hd2
  subst hc hd hc2 hd2
  have e1 := r.length
  have e2 := r2.length
  have ea : its.toArray ++ its2.toArray = (its ++ its2).toArray := by simp
  refine PySem.concat_meets ⟨_, ho, rfl⟩ ⟨_, ho2, rfl⟩ PySem.noFill_list_add PySem.seq_list_add PySem.F.slot_list_add PySem.F.entry_list_add (PySem.F.args_list_add_2 _ _) (PyProof.Rows.list_addW l b its.toArray its2.toArray n n2 dd dd2 sl sl2 (by simp; omega)) ⟨ho, ho2, ?_⟩
  rw [ea]
  exact ⟨.ref _, _, I.lnew (t' := s.toks) (r.append r2) (by rw [List.length_append]; omega), rfl, q _ I.fresh⟩
theorem o_cat : Op2F X (rCatL X.K) catD := by
  intro A H x y v w d Q ak e hx hy q
  cases x with
  | lst i =>
    cases y with
    | lst j =>
      simp only [catD] at e
      split at e
      · rename_i hl
        cases e
        obtain ⟨a, xs, e1, h1, h2⟩ := hx.lst
        obtain ⟨b, ys, e2, h3, h4⟩ := hy.lst
        have l1 := repL_length h2
        have l2 := repL_length h4
        exact ⟨a, b, xs, ys, e1, e2, h1, h3, by omega, fun p n => q p _ (same_upd n) n (repO_newlst ak (repL_append h2 h4) n)⟩
      · cases e
    | _ => cases e
  | _ => cases e

/-! ### other arithmetic -/
theorem rep_int {K : PySem.W.Frag} {H : Hp} {A : Addr → Prop} {i : Int} : Rep K H A (.int i) (.int i) := by unfold Rep; rfl
theorem rep_bl {K : PySem.W.Frag} {H : Hp} {A : Addr → Prop} {i : Bool} : Rep K H A (.bl i) (.bl i) := by unfold Rep; rfl
theorem rep_str {K : PySem.W.Frag} {H : Hp} {A : Addr → Prop} {i : Str} : Rep K H A (.str i) (.str i) := by unfold Rep; rfl
theorem rep_non {K : PySem.W.Frag} {H : Hp} {A : Addr → Prop} : Rep K H A .non .non := by unfold Rep; rfl
def intOp (C : Int → Int → Bool) (g : Int → Int → Int) : D → D → Option D
  | .int i, .int j => if C i j then some (.int (g i j)) else none
  | _, _ => none
theorem o_int {P : Int → Int → Prop} {C : Int → Int → Bool} {g : Int → Int → Int} (h : ∀ i j, C i j = true → P i j) : Op2 X (rI P fun i j => .int (g i j)) (intOp C g) := by
  intro A H x y v w d Q ak e hx hy q
  cases x with
  | int i =>
    cases y with
    | int j =>
      simp only [intOp] at e
      split at e
      · rename_i hc
        cases e
        exact ⟨i, j, hx.int, hy.int, h i j hc, q _ H (Same.refl H) rep_int⟩
      · cases e
    | _ => cases e
  | _ => cases e
theorem o_int0 {g : Int → Int → Int} : Op2 X (rI0 fun i j => .int (g i j)) (intOp (fun _ _ => true) g) := by
  intro A H x y v w d Q ak e hx hy q
  cases x with
  | int i =>
    cases y with
    | int j =>
      cases e
      exact ⟨i, j, hx.int, hy.int, q _ H (Same.refl H) rep_int⟩
    | _ => cases e
  | _ => cases e
abbrev subD : D → D → Option D := intOp (fun _ _ => true) fun i j => i - j
theorem o_sub : Op2 X (rI0 fun i j => .int (i - j)) subD := o_int0
abbrev mulD : D → D → Option D := intOp (fun i j => decide (-(2 ^ 64) < i ∧ i < 2 ^ 64) || decide (-(2 ^ 64) < j ∧ j < 2 ^ 64)) fun i j => i * j
theorem o_mul : Op2 X (rI CMul fun i j => .int (i * j)) mulD := o_int fun i j h => by
  rcases Bool.or_eq_true_iff.mp h with h | h
  · exact .inl (of_decide_eq_true h)
  · exact .inr (of_decide_eq_true h)
abbrev fdivD : D → D → Option D := intOp (fun _ j => decide (0 < j ∧ j < 1073741824)) fun i j => i / j
theorem o_fdiv : Op2 X (rI CDiv fun i j => .int (i / j)) fdivD := o_int fun i j h => show 0 < j ∧ j < 1073741824 from of_decide_eq_true h
abbrev modD : D → D → Option D := intOp (fun _ j => decide (0 < j)) fun i j => i % j
theorem o_mod : Op2 X (rI (fun _ j => 0 < j) fun i j => .int (i % j)) modD := o_int fun i j h => of_decide_eq_true h
abbrev powD : D → D → Option D := intOp (fun i j => decide (0 ≤ j ∧ j ≤ 1000000 ∧ i.natAbs < 2 ^ 64)) fun i j => i ^ j.toNat
theorem o_pow : Op2 X (rI CPow fun i j => .int (i ^ j.toNat)) powD := o_int fun i j h => show 0 ≤ j ∧ j ≤ 1000000 ∧ i.natAbs < 2 ^ 64 from of_decide_eq_true h

/-! ### comparisons -/
mutual
def toPy : D → PyData
  | .non => .none
  | .bl b => .bool b
  | .int i => .int i
  | .str x => .str x
  | .tup xs => .tuple (toPyL xs)
  | .lst xs => .list (toPyL xs)
  | .dct _ => .dict []
  | .dctT _ => .dict []
  | .ref _ => .dict []
  | .ty _ => .dict []
def toPyL : List D → List PyData
  | [] => []
  | x :: xs => toPy x :: toPyL xs
end
mutual
theorem dp_of {K : PySem.W.Frag} {H : Hp} {A : Addr → Prop} : ∀ (d : D) (v : V), PyData.canLay0 (toPy d) = true → Rep K H A d v → Dp K H v (toPy d)
  | .non, v, _, h => by unfold Rep at h; subst h; exact .non
  | .bl b, v, _, h => by unfold Rep at h; subst h; exact .bl b
  | .int b, v, _, h => by unfold Rep at h; subst h; exact .int b
  | .str b, v, _, h => by unfold Rep at h; subst h; exact .str b
  | .tup ds, v, l, h => by
    unfold Rep at h
    obtain ⟨a, xs, e, h1, h2⟩ := h
    subst e
    exact .tup (tup_sq h1) (dp_ofL ds xs (by simpa [toPy, PyData.canLay0] using l) h2)
  | .lst ds, v, l, h => by
    unfold Rep at h
    obtain ⟨a, xs, e, h1, h2⟩ := h
    subst e
    refine .lst ?_ (dp_ofL ds xs (by simpa [toPy, PyData.canLay0] using l) h2)
    rcases h1 with ⟨h1, _⟩ | h1
    · exact .inl h1
    · exact .inr h1
  | .dct _, _, l, _ => by simp [toPy, PyData.canLay0] at l
  | .dctT _, _, l, _ => by simp [toPy, PyData.canLay0] at l
  | .ref _, _, l, _ => by simp [toPy, PyData.canLay0] at l
  | .ty _, _, l, _ => by simp [toPy, PyData.canLay0] at l
theorem dp_ofL {K : PySem.W.Frag} {H : Hp} {A : Addr → Prop} : ∀ (ds : List D) (vs : List V), PyData.canLayAll0 (toPyL ds) = true → RepL K H A ds vs → DpAll K H vs (toPyL ds)
  | [], vs, _, h => by unfold RepL at h; subst h; exact .nil
  | d :: ds, vs, l, h => by
    unfold RepL at h
    obtain ⟨v, r, e, h1, h2⟩ := h
    subst e
    have l' : PyData.canLay0 (toPy d) = true ∧ PyData.canLayAll0 (toPyL ds) = true := by simpa [toPyL, PyData.canLayAll0] using l
    exact .cons (dp_of d v l'.1 h1) (dp_ofL ds r l'.2 h2)
end
theorem dp_ofB {K : PySem.W.Frag} {H : Hp} {A : Addr → Prop} {d : D} {v : V} (l : PyData.canLay0 (toPy d) = true) (h : RepB K H A d v) : Dp K H v (toPy d) := by
  rcases h with h | ⟨a, e, h⟩
  · exact dp_of d v l h
  · subst e
    cases d with
    | lst ds =>
      obtain ⟨xs, h1, h2⟩ := h
      exact .lst (SqL.of h1) (dp_ofL ds xs (by simpa [toPy, PyData.canLay0] using l) h2)
    | dct ds => simp [toPy, PyData.canLay0] at l
    | dctT ds => simp [toPy, PyData.canLay0] at l
    | _ => exact h.elim
def shp (d : D) : Bool := SeqAt.shaped (toPy d)
/-- == of what Python compares by content -/
def eqPy (x y : D) : Bool := PyData.eqv (toPy x) (toPy y)
def eqD : D → D → Option D
  | .int i, .int j => some (.bl (decide (i = j)))
  | .str i, .str j => some (.bl (decide (i = j)))
  | x, y => if shp x && shp y then some (.bl (eqPy x y)) else none
def neD : D → D → Option D
  | .int i, .int j => some (.bl (!decide (i = j)))
  | .str i, .str j => some (.bl (!decide (i = j)))
  | x, y => if shp x && shp y then some (.bl (!eqPy x y)) else none
def rEq2 (K : PySem.W.Frag) : R2 := fun x y H Q => rEq x y H Q ∨ rEqD K x y H Q
def rNe2 (K : PySem.W.Frag) : R2 := fun x y H Q => rNe x y H Q ∨ rNeD K x y H Q
theorem op_eq2 (hu : X.A.units + 64 < cLine) : OpR X (compareOp .Eq) (rEq2 X.K) := op_eq.or (op_eqD hu)
theorem op_ne2 (hu : X.A.units + 64 < cLine) : OpR X (compareOp .NotEq) (rNe2 X.K) := op_ne.or (op_neD hu)
theorem eqD_gen {x y d : D} (e : eqD x y = some d) : (∃ i j, x = .int i ∧ y = .int j ∧ d = .bl (decide (i = j))) ∨ (∃ i j, x = .str i ∧ y = .str j ∧ d = .bl (decide (i = j))) ∨ (shp x = true ∧ shp y = true ∧ d = .bl (eqPy x y)) := by
  unfold eqD at e
  split at e
  · cases e; exact .inl ⟨_, _, rfl, rfl, rfl⟩
  · cases e; exact .inr (.inl ⟨_, _, rfl, rfl, rfl⟩)
  · split at e
    · rename_i hc
      cases e
      rw [Bool.and_eq_true] at hc
      exact .inr (.inr ⟨hc.1, hc.2, rfl⟩)
    · cases e
theorem neD_gen {x y d : D} (e : neD x y = some d) : (∃ i j, x = .int i ∧ y = .int j ∧ d = .bl (!decide (i = j))) ∨ (∃ i j, x = .str i ∧ y = .str j ∧ d = .bl (!decide (i = j))) ∨ (shp x = true ∧ shp y = true ∧ d = .bl (!eqPy x y)) := by
  unfold neD at e
  split at e
  · cases e; exact .inl ⟨_, _, rfl, rfl, rfl⟩
  · cases e; exact .inr (.inl ⟨_, _, rfl, rfl, rfl⟩)
  · split at e
    · rename_i hc
      cases e
      rw [Bool.and_eq_true] at hc
      exact .inr (.inr ⟨hc.1, hc.2, rfl⟩)
    · cases e
theorem o_eq : Op2 X (rEq2 X.K) eqD := by
  intro A H x y v w d Q ak e hx hy q
  rcases eqD_gen e with ⟨i, j, rfl, rfl, rfl⟩ | ⟨i, j, rfl, rfl, rfl⟩ | ⟨h1, h2, rfl⟩
  · refine .inl ⟨by rw [hx.int, hy.int]; rfl, ?_⟩
    rw [hx.int, hy.int, show decide (V.int i = V.int j) = decide (i = j) by simp]
    exact q _ H (Same.refl H) rep_bl
  · refine .inl ⟨by rw [hx.str, hy.str]; rfl, ?_⟩
    rw [hx.str, hy.str, show decide (V.str i = V.str j) = decide (i = j) by simp]
    exact q _ H (Same.refl H) rep_bl
  · exact .inr ⟨toPy x, toPy y, dp_ofB (SeqAt.canLay_of_shaped h1) hx, dp_ofB (SeqAt.canLay_of_shaped h2) hy, h1, h2, q _ H (Same.refl H) rep_bl⟩
theorem o_ne : Op2 X (rNe2 X.K) neD := by
  intro A H x y v w d Q ak e hx hy q
  rcases neD_gen e with ⟨i, j, rfl, rfl, rfl⟩ | ⟨i, j, rfl, rfl, rfl⟩ | ⟨h1, h2, rfl⟩
  · refine .inl ⟨by rw [hx.int, hy.int]; rfl, ?_⟩
    rw [hx.int, hy.int, show decide (V.int i = V.int j) = decide (i = j) by simp]
    exact q _ H (Same.refl H) rep_bl
  · refine .inl ⟨by rw [hx.str, hy.str]; rfl, ?_⟩
    rw [hx.str, hy.str, show decide (V.str i = V.str j) = decide (i = j) by simp]
    exact q _ H (Same.refl H) rep_bl
  · exact .inr ⟨toPy x, toPy y, dp_ofB (SeqAt.canLay_of_shaped h1) hx, dp_ofB (SeqAt.canLay_of_shaped h2) hy, h1, h2, q _ H (Same.refl H) rep_bl⟩
def cmpI (p : Int → Int → Bool) : D → D → Option D
  | .int i, .int j => some (.bl (p i j))
  | _, _ => none
theorem o_cmpI {p : Int → Int → Bool} : Op2 X (rI0 fun i j => .bl (p i j)) (cmpI p) := by
  intro A H x y v w d Q ak e hx hy q
  cases x with
  | int i =>
    cases y with
    | int j =>
      cases e
      exact ⟨i, j, hx.int, hy.int, q _ H (Same.refl H) rep_bl⟩
    | _ => cases e
  | _ => cases e
abbrev ltD := cmpI fun i j => decide (i < j)
abbrev leD := cmpI fun i j => decide (i ≤ j)
abbrev gtD := cmpI fun i j => decide (j < i)
abbrev geD := cmpI fun i j => decide (j ≤ i)
/-- x is None, x is not None -/
def isND : D → Bool
  | .non => true
  | _ => false
def isN2 : D → D → Option D
  | x, .non => some (.bl (isND x))
  | _, _ => none
def notN2 : D → D → Option D
  | x, .non => some (.bl (!isND x))
  | _, _ => none
theorem isND_of {K : PySem.W.Frag} {H : Hp} {A : Addr → Prop} {x : D} {v : V} (h : RepB K H A x v) : decide (v = .non) = isND x := by
  cases x with
  | non => rw [h.non]; rfl
  | bl b => rw [h.bl]; rfl
  | int b => rw [h.int]; rfl
  | str b => rw [h.str]; rfl
  | tup b => obtain ⟨a, xs, e, _⟩ := h.tup; rw [e]; rfl
  | lst b => obtain ⟨a, xs, e, _⟩ := h.lst; rw [e]; rfl
  | dct b => obtain ⟨a, xs, e, _⟩ := h.dct; rw [e]; rfl
  | dctT b =>
    rcases h with h | ⟨a, e, _⟩
    · unfold Rep at h
      obtain ⟨a, xs, e, _⟩ := h
      rw [e]; rfl
    · rw [e]; rfl
  | ref b =>
    rcases h with h | ⟨a, e, _⟩
    · unfold Rep at h
      rw [h]; rfl
    · rw [e]; rfl
  | ty b =>
    rcases h with h | ⟨a, e, h⟩
    · unfold Rep at h
      rw [h]; rfl
    · exact h.elim
theorem o_isN : Op2 X (fun x y H Q => y = .non ∧ Q (.bl (decide (x = .non))) H) isN2 := by
  intro A H x y v w d Q ak e hx hy q
  cases y with
  | non =>
    cases e
    refine ⟨hy.non, ?_⟩
    rw [isND_of hx]
    exact q _ H (Same.refl H) rep_bl
  | _ => cases e
theorem o_notN : Op2 X (fun x y H Q => y = .non ∧ Q (.bl (!decide (x = .non))) H) notN2 := by
  intro A H x y v w d Q ak e hx hy q
  cases y with
  | non =>
    cases e
    refine ⟨hy.non, ?_⟩
    rw [isND_of hx]
    exact q _ H (Same.refl H) rep_bl
  | _ => cases e

/-! ### in -/
/-- a text within a text; an item of a list or tuple of plain things -/
def flatD : D → Bool
  | .non => true | .bl _ => true | .int _ => true | .str _ => true
  | _ => false
def inStr (x y : Str) : Bool := !(Builtin.Str.occurrences y x 0 y.length 1).isEmpty
def inD : D → D → Option Bool
  | .str x, .str y => some (inStr x y)
  | x, .lst ys => if flatD x && ys.all flatD then some (ys.any fun y => eqPy y x) else if shp x && shp (.lst ys) then some (ys.any fun y => eqPy y x) else none
  | x, .tup ys => if flatD x && ys.all flatD then some (ys.any fun y => eqPy y x) else none
  | _, _ => none
def inB (n : Bool) (x y : D) : Option D := (inD x y).map fun b => .bl (if n then !b else b)
def rInS (n : Bool) : R2 := fun x y H Q => ∃ i j, x = .str i ∧ y = .str j ∧ Q (.bl (if n then !(inStr i j) else inStr i j)) H
def rIn3 (K : PySem.W.Frag) (n : Bool) : R2 := fun x y H Q => rInS n x y H Q ∨ rIn K n x y H Q ∨ (∃ d ds, Dp K H x d ∧ Dp K H y (.list ds) ∧ SeqAt.shaped d = true ∧ SeqAt.shaped (.list ds) = true ∧ Q (.bl (if n then !ds.any fun z => PyData.eqv z d else ds.any fun z => PyData.eqv z d)) H)
theorem op_in3 (hu : X.A.units + 65 < cLine) : OpR X (compareOp .In) (rIn3 X.K false) := OpR.or (r := rInS false) op_in_str (op_in_seq.or (op_inD hu))
theorem op_notIn3 (hu : X.A.units + 65 < cLine) : OpR X (compareOp .NotIn) (rIn3 X.K true) := OpR.or (r := rInS true) op_notIn_str (op_notIn_seq.or (op_notInD hu))
theorem flat_of {K : PySem.W.Frag} {H : Hp} {A : Addr → Prop} {x : D} {v : V} (f : flatD x = true) (h : RepB K H A x v) : flatV v = true := by
  cases x with
  | non => rw [h.non]; rfl
  | bl b => rw [h.bl]; rfl
  | int b => rw [h.int]; rfl
  | str b => rw [h.str]; rfl
  | _ => cases f
theorem eqV_of {K : PySem.W.Frag} {H : Hp} {A : Addr → Prop} {x y : D} {v w : V} (f : flatD x = true) (g : flatD y = true) (h : RepB K H A x v) (h2 : RepB K H A y w) : eqV v w = eqPy x y := by
  cases x with
  | non =>
    rw [h.non]
    cases y with
    | non => rw [h2.non]; simp [eqV, eqPy, toPy, PyData.eqv]
    | bl b => rw [h2.bl]; simp [eqV, eqPy, toPy, PyData.eqv]
    | int b => rw [h2.int]; simp [eqV, eqPy, toPy, PyData.eqv]
    | str b => rw [h2.str]; simp [eqV, eqPy, toPy, PyData.eqv]
    | _ => cases g
  | bl a =>
    rw [h.bl]
    cases y with
    | non => rw [h2.non]; simp [eqV, eqPy, toPy, PyData.eqv]
    | bl b => rw [h2.bl]; simp [eqV, eqPy, toPy, PyData.eqv]
    | int b => rw [h2.int]; simp [eqV, eqPy, toPy, PyData.eqv]
    | str b => rw [h2.str]; simp [eqV, eqPy, toPy, PyData.eqv]
    | _ => cases g
  | int a =>
    rw [h.int]
    cases y with
    | non => rw [h2.non]; simp [eqV, eqPy, toPy, PyData.eqv]
    | bl b => rw [h2.bl]; simp [eqV, eqPy, toPy, PyData.eqv]
    | int b => rw [h2.int]; simp [eqV, eqPy, toPy, PyData.eqv]
    | str b => rw [h2.str]; simp [eqV, eqPy, toPy, PyData.eqv]
    | _ => cases g
  | str a =>
    rw [h.str]
    cases y with
    | non => rw [h2.non]; simp [eqV, eqPy, toPy, PyData.eqv]
    | bl b => rw [h2.bl]; simp [eqV, eqPy, toPy, PyData.eqv]
    | int b => rw [h2.int]; simp [eqV, eqPy, toPy, PyData.eqv]
    | str b => rw [h2.str]; simp [eqV, eqPy, toPy, PyData.eqv]
    | _ => cases g
  | _ => cases f
theorem flats_of {K : PySem.W.Frag} {H : Hp} {A : Addr → Prop} : ∀ {ds : List D} {vs : List V}, ds.all flatD = true → RepL K H A ds vs → vs.all flatV = true
  | [], vs, f, h => by unfold RepL at h; subst h; rfl
  | d :: ds, vs, f, h => by
    unfold RepL at h
    obtain ⟨v, r, e, h1, h2⟩ := h
    subst e
    rw [List.all_cons, Bool.and_eq_true] at f ⊢
    exact ⟨flat_of f.1 (.inl h1), flats_of f.2 h2⟩
theorem inV_of {K : PySem.W.Frag} {H : Hp} {A : Addr → Prop} {x : D} {v : V} (f : flatD x = true) (h : RepB K H A x v) : ∀ {ds : List D} {vs : List V}, ds.all flatD = true → RepL K H A ds vs → inV v vs = ds.any fun y => eqPy y x
  | [], vs, g, h2 => by unfold RepL at h2; subst h2; rfl
  | d :: ds, vs, g, h2 => by
    unfold RepL at h2
    obtain ⟨w, r, e, h3, h4⟩ := h2
    subst e
    rw [List.all_cons, Bool.and_eq_true] at g
    have ih := inV_of f h g.2 h4
    show (eqV w v || inV v r) = _
    rw [List.any_cons, ih, eqV_of g.1 f (.inl h3) h]
theorem any_py (x : D) : ∀ ys : List D, (toPyL ys).any (fun z => PyData.eqv z (toPy x)) = ys.any fun y => eqPy y x
  | [] => rfl
  | y :: ys => by
    show (PyData.eqv (toPy y) (toPy x) || (toPyL ys).any _) = _
    rw [any_py x ys]
    rfl
theorem o_in {n : Bool} : Op2 X (rIn3 X.K n) (inB n) := by
  intro A H x y v w d Q ak e hx hy q
  unfold inB at e
  cases q' : inD x y with
  | none => rw [q'] at e; cases e
  | some b =>
    rw [q'] at e
    cases e
    unfold inD at q'
    split at q'
    · cases q'
      exact .inl ⟨_, _, hx.str, hy.str, q _ H (Same.refl H) rep_bl⟩
    · rename_i ys
      obtain ⟨a, xs, e1, h1, h2⟩ := hy.lst
      split at q'
      · rename_i hf
        cases q'
        rw [Bool.and_eq_true] at hf
        refine .inr (.inl ⟨a, xs, e1, .inl h1, flat_of hf.1 hx, flats_of hf.2 h2, ?_⟩)
        rw [inV_of hf.1 hx hf.2 h2]
        exact q _ H (Same.refl H) rep_bl
      · split at q'
        · rename_i hs
          cases q'
          rw [Bool.and_eq_true] at hs
          refine .inr (.inr ⟨toPy x, toPyL ys, dp_ofB (SeqAt.canLay_of_shaped hs.1) hx, ?_, hs.1, ?_, ?_⟩)
          · exact dp_ofB (SeqAt.canLay_of_shaped hs.2) hy
          · exact hs.2
          · rw [any_py]
            exact q _ H (Same.refl H) rep_bl
        · cases q'
    · rename_i ys
      obtain ⟨a, xs, e1, h1, h2⟩ := hy.tup
      split at q'
      · rename_i hf
        cases q'
        rw [Bool.and_eq_true] at hf
        refine .inr (.inl ⟨a, xs, e1, .inr h1, flat_of hf.1 hx, flats_of hf.2 h2, ?_⟩)
        rw [inV_of hf.1 hx hf.2 h2]
        exact q _ H (Same.refl H) rep_bl
      · cases q'
    · cases q'

/-! ### items, slices -/
def ixD : D → D → Option D
  | .lst xs, .int i => atI xs i
  | .tup xs, .int i => atI xs i
  | .str z, .int i => if z.length ≤ sizeLine then (atI z.cps.toList i).map fun c => .str ⟨#[c]⟩ else none
  | _, _ => none
theorem atI_rep {K : PySem.W.Frag} {H : Hp} {A : Addr → Prop} {ds : List D} {vs : List V} {i : Int} {d : D} (h : RepL K H A ds vs) (e : atI ds i = some d) : ∃ v, atI vs i = some v ∧ Rep K H A d v := by
  unfold atI at e ⊢
  rw [repL_length h]
  cases q : ixN ds.length i with
  | none => rw [q] at e; cases e
  | some j =>
    rw [q] at e
    exact repL_get h e
theorem o_ix : Op2 X (rIx X.K) ixD := by
  intro A H x y v w d Q ak e hx hy q
  cases y with
  | int i =>
    cases x with
    | lst xs =>
      obtain ⟨a, ys, e1, h1, h2⟩ := hx.lst
      obtain ⟨z, h3, h4⟩ := atI_rep h2 e
      exact .inl ⟨a, ys, i, z, e1, hy.int, h1, h3, q _ H (Same.refl H) h4⟩
    | tup xs =>
      obtain ⟨a, ys, e1, h1, h2⟩ := hx.tup
      obtain ⟨z, h3, h4⟩ := atI_rep h2 e
      exact .inr (.inl ⟨a, ys, i, z, e1, hy.int, h1, h3, q _ H (Same.refl H) h4⟩)
    | str z =>
      simp only [ixD] at e
      split at e
      · rename_i hz
        cases q' : atI z.cps.toList i with
        | none => rw [q'] at e; cases e
        | some c =>
          rw [q'] at e
          cases e
          exact .inr (.inr ⟨z, i, c, hx.str, hy.int, hz, q', q _ H (Same.refl H) rep_str⟩)
      · cases e
    | _ => cases e
  | _ => cases x <;> cases e
theorem d_ix {W : WX} {a b : Expr} {fa fb : Env → R D} {pos : Pos} (ha : DB X W a fa) (hb : DB X W b fb) (hs : PlainIx b := by exact fun _ _ => rfl) : DP X W (.Subscript a b pos) (bin ixD fa fb) := d_bin (fun pa pb => pe_ix ix_seq pa pb hs) o_ix ha hb
theorem e_ix {W : WX} {a b : Expr} {fa fb : Env → R (D × Env)} {pos : Pos} (ha : DE X W a fa) (hb : DE X W b fb) (hs : PlainIx b := by exact fun _ _ => rfl) : DE X W (.Subscript a b pos) (binE ixD fa fb) := d_binE (fun pa pb => pe_ix ix_seq pa pb hs) o_ix ha hb
/-- a part of a slice -/
structure DO (X : Cx) (W : WX) (e : Option Expr) (f : Env → R (Option Int)) : Prop where
  ex : ∃ t, PO X e t ∧ ∀ (F : Fm) (os : List (Option Addr)) (r : Env) (σ : St) (H : Hp) (Q : Option Int → Hp → Prop), Rel X.K F os r σ H →
    Sat (fun o => ∀ H', Same H H' → Q o H') (Er X W F) (f r) → t σ H Q
@[simp] def oNone : Env → R (Option Int) := fun _ => .ok none
def asI : D → Option Int
  | .int i => some i
  | _ => none
@[simp] def oSome (f : Env → R D) : Env → R (Option Int) := fun r => (f r).bind fun d => (R.ofO (asI d)).bind fun i => .ok (some i)
theorem do_none {W : WX} : DO X W none oNone := ⟨_, po_none, fun F os r σ H Q R S => S H (Same.refl H)⟩
theorem do_some {W : WX} {e : Expr} {f : Env → R D} (h : DB X W e f) : DO X W (some e) (oSome f) := by
  obtain ⟨t, pe, w⟩ := h
  refine ⟨_, po_some pe, fun F os r σ H Q R S => ?_⟩
  refine w F os r σ H _ R (S.bind.imp fun d S v H1 s1 h1 => ?_)
  obtain ⟨i, e, S⟩ := S.bind.ofO
  cases d with
  | int j =>
    cases e
    exact ⟨_, h1.int, S H1 s1⟩
  | _ => cases e
def cutL {α : Type} (xs : List α) (lo hi : Option Int) : List α := (xs.drop (HT.sIx xs.length 0 lo)).take (HT.sIx xs.length xs.length hi - HT.sIx xs.length 0 lo)
@[simp] def slD : D → Option Int → Option Int → Option D
  | .str z, lo, hi => if z.length ≤ sizeLine then some (.str (cutS z lo hi)) else none
  | .tup xs, lo, hi => some (.tup (cutL xs lo hi))
  | _, _, _ => none
@[simp] def slLD : D → Option Int → Option Int → Option D
  | .lst xs, lo, hi => some (.lst (cutL xs lo hi))
  | _, _, _ => none
def rSl2 (K : PySem.W.Frag) : V → Option Int → Option Int → Hp → VK → Prop := fun x lo hi H Q => rSlS x lo hi H Q ∨ rSlA K x lo hi H Q
theorem sl_2 : SlR X (rSl2 X.K) := sl_str.or sl_tupA
theorem repL_cut {K : PySem.W.Frag} {H : Hp} {A : Addr → Prop} {ds : List D} {vs : List V} {lo hi : Option Int} (h : RepL K H A ds vs) : RepL K H A (cutL ds lo hi) (cutV vs lo hi) := by
  unfold cutL cutV
  rw [repL_length h]
  exact repL_take _ (repL_drop _ h)
@[simp] def sl3 (op : D → Option Int → Option Int → Option D) (fa : Env → R D) (fl fh : Env → R (Option Int)) : Env → R D := fun r => (fa r).bind fun x => (fl r).bind fun l => (fh r).bind fun h => R.ofO (op x l h)
theorem d_sl {W : WX} {e : Expr} {lo hi : Option Expr} {fa : Env → R D} {fl fh : Env → R (Option Int)} {p2 pos : Pos} (he : DB X W e fa) (hl : DO X W lo fl) (hh : DO X W hi fh) : DP X W (.Subscript e (.Slice lo hi none p2) pos) (sl3 slD fa fl fh) := by
  obtain ⟨t, pe, w⟩ := he
  obtain ⟨tl, pl, wl⟩ := hl
  obtain ⟨th, ph, wh⟩ := hh
  refine ⟨_, pe_slice sl_2 pe pl ph, fun F os r σ H Q R S => ?_⟩
  refine w F os r σ H _ R (S.bind.imp fun d S v H1 s1 h1 => ?_)
  refine wl F os r σ H1 _ (R.same' s1) (S.bind.imp fun l S H2 s2 => ?_)
  refine wh F os r σ H2 _ ((R.same' s1).same' s2) (S.bind.imp fun h S H3 s3 => ?_)
  obtain ⟨d', e', S⟩ := S.ofO
  have R3 := ((R.same' s1).same' s2).same' s3
  have h3 := (h1.same s2 (R.same' s1).AOk).same s3 ((R.same' s1).same' s2).AOk
  have s13 := (s1.trans s2).trans s3
  cases d with
  | str z =>
    simp only [slD] at e'
    split at e'
    · rename_i hz
      cases e'
      exact .inl ⟨z, h3.str, hz, S _ H3 s13 rep_str⟩
    · cases e'
  | tup xs =>
    cases e'
    have h3' : Rep X.K H3 (Av F.A0 os) (.tup xs) v := by
      rcases h3 with z | ⟨_, _, z⟩
      · exact z
      · exact z.elim
    obtain ⟨a, ys, e1, h4, h5⟩ := h3.tup
    refine .inr ⟨a, ys, e1, h4, fun hw => ?_, fun hw p n => ?_⟩
    · refine S _ H3 s13 ?_
      have ll := repL_length h5
      rw [ll] at hw
      have ex : cutL xs l h = xs := by
        unfold cutL
        rw [hw.1, hw.2, List.drop_zero, Nat.sub_zero, List.take_length]
      rw [ex, ← e1]
      exact h3'
    · exact S _ _ (s13.trans (same_upd n)) (rep_newtup R3.AOk (repL_cut h5) n)
  | _ => cases e'
theorem d_slL {W : WX} {e : Expr} {lo hi : Option Expr} {fa : Env → R D} {fl fh : Env → R (Option Int)} {p2 pos : Pos} (he : DB X W e fa) (hl : DO X W lo fl) (hh : DO X W hi fh) : DF X W (.Subscript e (.Slice lo hi none p2) pos) (sl3 slLD fa fl fh) := by
  obtain ⟨t, pe, w⟩ := he
  obtain ⟨tl, pl, wl⟩ := hl
  obtain ⟨th, ph, wh⟩ := hh
  refine ⟨_, pe_slice sl_list pe pl ph, fun F os r σ H Q R S => ?_⟩
  refine w F os r σ H _ R (S.bind.imp fun d S v H1 s1 h1 => ?_)
  refine wl F os r σ H1 _ (R.same' s1) (S.bind.imp fun l S H2 s2 => ?_)
  refine wh F os r σ H2 _ ((R.same' s1).same' s2) (S.bind.imp fun h S H3 s3 => ?_)
  obtain ⟨d', e', S⟩ := S.ofO
  have R3 := ((R.same' s1).same' s2).same' s3
  have h3 := (h1.same s2 (R.same' s1).AOk).same s3 ((R.same' s1).same' s2).AOk
  have s13 := (s1.trans s2).trans s3
  cases d with
  | lst xs =>
    cases e'
    obtain ⟨a, ys, e1, h4, h5⟩ := h3.lst
    exact ⟨a, ys, e1, h4, fun p n => S p _ (s13.trans (same_upd n)) (s13.free n) (repO_newlst R3.AOk (repL_cut h5) n)⟩
  | _ => cases e'

/-! ### tuples and lists written out -/
def mkT (g : Env → R (List D)) : Env → R D := fun r => (g r).bind fun ds => if ds.length ≤ sizeLine then .ok (.tup ds) else .stk
def mkTE (g : Env → R (List D × Env)) : Env → R (D × Env) := fun r => (g r).bind fun p => if p.1.length ≤ sizeLine then .ok (.tup p.1, p.2) else .stk
def mkL (g : Env → R (List D)) : Env → R D := fun r => (g r).bind fun ds => if ds.length ≤ sizeLine then .ok (.lst ds) else .stk
theorem d_tup {W : WX} {es : List Expr} {g : Env → R (List D)} {k : Nat} {pos : Pos} (h : DPs X W es g) : DP X W (.Tuple es k pos) (mkT g) := by
  obtain ⟨t, pe, w⟩ := h
  refine ⟨_, pe_tup pe, fun F os r σ H Q R S => ?_⟩
  refine w F os r σ H _ R (S.bind.imp fun ds S vs H1 s1 h1 => ?_)
  by_cases hl : ds.length ≤ sizeLine
  · rw [if_pos hl] at S
    exact ⟨by rw [repL_length h1]; exact hl, fun p n => S _ _ (s1.trans (same_upd n)) (rep_newtup (R.same' s1).AOk h1 n)⟩
  · rw [if_neg hl] at S
    exact S.elim
theorem e_tup {W : WX} {es : List Expr} {g : Env → R (List D × Env)} {k : Nat} {pos : Pos} (h : DEs X W es g) : DE X W (.Tuple es k pos) (mkTE g) := by
  obtain ⟨t, pe, w⟩ := h
  refine ⟨_, pe_tup pe, fun F os r σ H Q R S => ?_⟩
  refine w F os r σ H _ R (S.bind.imp fun ds S vs H1 R1 k1 h1 => ?_)
  by_cases hl : ds.1.length ≤ sizeLine
  · rw [if_pos hl] at S
    exact ⟨by rw [repL_length h1]; exact hl, fun p n => S _ _ (R1.same' (same_upd n)) (k1.trans (Keep.of (same_upd n))) (rep_newtup R1.AOk h1 n)⟩
  · rw [if_neg hl] at S
    exact S.elim
theorem d_lst {W : WX} {es : List Expr} {g : Env → R (List D)} {pos : Pos} (h : DPs X W es g) : DF X W (.List es pos) (mkL g) := by
  obtain ⟨t, pe, w⟩ := h
  refine ⟨_, pe_lst pe, fun F os r σ H Q R S => ?_⟩
  refine w F os r σ H _ R (S.bind.imp fun ds S vs H1 s1 h1 => ?_)
  by_cases hl : ds.length ≤ sizeLine
  · rw [if_pos hl] at S
    exact ⟨by rw [repL_length h1]; exact hl, fun p n => S _ _ (s1.trans (same_upd n)) (s1.free n) (repO_newlst (R.same' s1).AOk h1 n)⟩
  · rw [if_neg hl] at S
    exact S.elim
end
end DL

namespace DL
open PySem L2
section
variable {X : Cx} {W : WX} {e a b c : Expr} {es rest : List Expr} {f fa fb fc : Env → R D} {pos : Pos}

/-! ### readings by the data alone -/
def cE (K : PySem.W.Frag) (mg : Str → Option Value) (W : WX) (f : Env → R (D × Env)) : TE := fun σ H Q => ∃ F os r, Rel K F os r σ H ∧
  Sat (fun p => ∀ v H', Rel K F os p.2 σ H' → Keep (Av F.A0 os) (Av F.A0 os) H H' → Rep K H' (Av F.A0 os) p.1 v → Q v H') (ErK K mg W F) (f r)
theorem DE.can {g : Env → R (D × Env)} (h : DE X W e g) : PE X e (cE X.K X.mg W g) := by
  obtain ⟨t, pe, w⟩ := h
  exact ⟨fun pins s σ H Q I ⟨F, os, r, R, S⟩ => pe.run pins s σ H Q I (w F os r σ H Q R S)⟩
def cT (K : PySem.W.Frag) (mg : Str → Option Value) (W : WX) (f : Env → R (Bool × Env)) : TT := fun σ H Q => ∃ F os r, Rel K F os r σ H ∧
  Sat (fun p => ∀ H', Rel K F os p.2 σ H' → Keep (Av F.A0 os) (Av F.A0 os) H H' → Q p.1 H') (ErK K mg W F) (f r)
theorem DTE.can {g : Env → R (Bool × Env)} (h : DTE X W e g) : PT X e (cT X.K X.mg W g) := by
  obtain ⟨t, pe, w⟩ := h
  exact ⟨fun pins s σ H Q I ⟨F, os, r, R, S⟩ => pe.run pins s σ H Q I (w F os r σ H Q R S)⟩

/-! ### not, and, or, if else: tests -/
def notB (g : Env → R Bool) : Env → R Bool := fun r => (g r).bind fun b => .ok (!b)
def andB (g h : Env → R Bool) : Env → R Bool := fun r => (g r).bind fun b => if b = true then h r else .ok false
def orB (g h : Env → R Bool) : Env → R Bool := fun r => (g r).bind fun b => if b = true then .ok true else h r
@[simp] def notBE (g : Env → R (Bool × Env)) : Env → R (Bool × Env) := fun r => (g r).bind fun b => .ok (!b.1, b.2)
@[simp] def andBE (g h : Env → R (Bool × Env)) : Env → R (Bool × Env) := fun r => (g r).bind fun b => if b.1 = true then h b.2 else .ok (false, b.2)
@[simp] def orBE (g h : Env → R (Bool × Env)) : Env → R (Bool × Env) := fun r => (g r).bind fun b => if b.1 = true then .ok (true, b.2) else h b.2
/-- and, or: a chain -/
structure DW (X : Cx) (W : WX) (e : Expr) (f : Env → R Bool) : Prop where
  ex : ∃ t, PW X e t ∧ ∀ (F : Fm) (os : List (Option Addr)) (r : Env) (σ : St) (H : Hp) (Q : Bool → Hp → Prop), Rel X.K F os r σ H →
    Sat (fun b => ∀ H', Same H H' → Q b H') (Er X W F) (f r) → t σ H Q
structure DWE (X : Cx) (W : WX) (e : Expr) (f : Env → R (Bool × Env)) : Prop where
  ex : ∃ t, PW X e t ∧ ∀ (F : Fm) (os : List (Option Addr)) (r : Env) (σ : St) (H : Hp) (Q : Bool → Hp → Prop), Rel X.K F os r σ H →
    Sat (fun p => ∀ H', Rel X.K F os p.2 σ H' → Keep (Av F.A0 os) (Av F.A0 os) H H' → Q p.1 H') (Er X W F) (f r) → t σ H Q
variable {ga gb : Env → R Bool} {gaE gbE : Env → R (Bool × Env)}
theorem t_not (h : DT X W a ga) : DT X W (.UnaryOp .Not a pos) (notB ga) := by
  obtain ⟨t, pe, w⟩ := h
  exact ⟨_, pt_not pe, fun F os r σ H Q R S => w F os r σ H _ R (S.bind.imp fun b S H' s => S H' s)⟩
theorem t_notE (h : DTE X W a gaE) : DTE X W (.UnaryOp .Not a pos) (notBE gaE) := by
  obtain ⟨t, pe, w⟩ := h
  exact ⟨_, pt_not pe, fun F os r σ H Q R S => w F os r σ H _ R (S.bind.imp fun b S H' R' k => S H' R' k)⟩
theorem w_and1 (h : DT X W a ga) : DW X W (.BoolOp .And [a] pos) ga := by
  obtain ⟨t, pe, w⟩ := h
  exact ⟨_, pw_and1 pe, w⟩
theorem w_or1 (h : DT X W a ga) : DW X W (.BoolOp .Or [a] pos) ga := by
  obtain ⟨t, pe, w⟩ := h
  exact ⟨_, pw_or1 pe, w⟩
theorem w_and1E (h : DTE X W a gaE) : DWE X W (.BoolOp .And [a] pos) gaE := by
  obtain ⟨t, pe, w⟩ := h
  exact ⟨_, pw_and1 pe, w⟩
theorem w_or1E (h : DTE X W a gaE) : DWE X W (.BoolOp .Or [a] pos) gaE := by
  obtain ⟨t, pe, w⟩ := h
  exact ⟨_, pw_or1 pe, w⟩
theorem w_and (h : DT X W a ga) (h2 : DW X W (.BoolOp .And (b :: rest) pos) gb) : DW X W (.BoolOp .And (a :: b :: rest) pos) (andB ga gb) := by
  obtain ⟨t, pe, w⟩ := h
  obtain ⟨u, pu, z⟩ := h2
  refine ⟨_, pw_and pe pu, fun F os r σ H Q R S => w F os r σ H _ R (S.bind.imp fun b S H' s => ?_)⟩
  by_cases hb : b = true
  · rw [if_pos hb] at S ⊢
    exact z F os r σ H' Q (R.same' s) (S.imp fun b q H2 s2 => q H2 (s.trans s2))
  · rw [if_neg hb] at S ⊢
    exact S H' s
theorem w_or (h : DT X W a ga) (h2 : DW X W (.BoolOp .Or (b :: rest) pos) gb) : DW X W (.BoolOp .Or (a :: b :: rest) pos) (orB ga gb) := by
  obtain ⟨t, pe, w⟩ := h
  obtain ⟨u, pu, z⟩ := h2
  refine ⟨_, pw_or pe pu, fun F os r σ H Q R S => w F os r σ H _ R (S.bind.imp fun b S H' s => ?_)⟩
  by_cases hb : b = true
  · rw [if_pos hb] at S ⊢
    exact S H' s
  · rw [if_neg hb] at S ⊢
    exact z F os r σ H' Q (R.same' s) (S.imp fun b q H2 s2 => q H2 (s.trans s2))
theorem w_andE (h : DTE X W a gaE) (h2 : DWE X W (.BoolOp .And (b :: rest) pos) gbE) : DWE X W (.BoolOp .And (a :: b :: rest) pos) (andBE gaE gbE) := by
  obtain ⟨t, pe, w⟩ := h
  obtain ⟨u, pu, z⟩ := h2
  refine ⟨_, pw_and pe pu, fun F os r σ H Q R S => w F os r σ H _ R (S.bind.imp fun b S H' R' k => ?_)⟩
  by_cases hb : b.1 = true
  · rw [if_pos hb] at S ⊢
    exact z F os b.2 σ H' Q R' (S.imp fun b q H2 R2 k2 => q H2 R2 (k.trans k2))
  · rw [if_neg hb] at S ⊢
    rw [Bool.not_eq_true] at hb
    exact S H' R' k
theorem w_orE (h : DTE X W a gaE) (h2 : DWE X W (.BoolOp .Or (b :: rest) pos) gbE) : DWE X W (.BoolOp .Or (a :: b :: rest) pos) (orBE gaE gbE) := by
  obtain ⟨t, pe, w⟩ := h
  obtain ⟨u, pu, z⟩ := h2
  refine ⟨_, pw_or pe pu, fun F os r σ H Q R S => w F os r σ H _ R (S.bind.imp fun b S H' R' k => ?_)⟩
  by_cases hb : b.1 = true
  · rw [if_pos hb] at S ⊢
    exact S H' R' k
  · rw [if_neg hb] at S ⊢
    exact z F os b.2 σ H' Q R' (S.imp fun b q H2 R2 k2 => q H2 R2 (k.trans k2))
theorem DW.t (h : DW X W e ga) : DT X W e ga := by
  obtain ⟨t, pe, w⟩ := h
  exact ⟨_, pe.pt, w⟩
theorem DWE.t (h : DWE X W e gaE) : DTE X W e gaE := by
  obtain ⟨t, pe, w⟩ := h
  exact ⟨_, pe.pt, w⟩

/-! ### the same as values -/
def notV (g : Env → R D) : Env → R D := fun r => (g r).bind fun d => (R.ofO (asB d)).bind fun b => .ok (.bl (!b))
def andV (g h : Env → R D) : Env → R D := fun r => (g r).bind fun d => (R.ofO (asB d)).bind fun b => if b = true then h r else .ok (.bl false)
def orV (g h : Env → R D) : Env → R D := fun r => (g r).bind fun d => (R.ofO (asB d)).bind fun b => if b = true then .ok (.bl true) else h r
def ifV (g : Env → R Bool) (h k : Env → R D) : Env → R D := fun r => (g r).bind fun b => if b = true then h r else k r
@[simp] def ifVE (g : Env → R (Bool × Env)) (h k : Env → R (D × Env)) : Env → R (D × Env) := fun r => (g r).bind fun b => if b.1 = true then h b.2 else k b.2
theorem d_not (h : DP X W a fa) : DP X W (.UnaryOp .Not a pos) (notV fa) := by
  obtain ⟨t, pe, w⟩ := h
  refine ⟨_, pe_not pe, fun F os r σ H Q R S => w F os r σ H _ R (S.bind.imp fun d S v H' s h => ?_)⟩
  obtain ⟨k, ek, S⟩ := S.bind.ofO
  exact ⟨k, asB_bl ek (.inl h), S _ H' s rep_bl⟩
theorem d_one {op : BoolOp} (h : DP X W a fa) : DP X W (.BoolOp op [a] pos) fa := by
  obtain ⟨t, pe, w⟩ := h
  exact ⟨_, pe_one pe, w⟩
theorem d_and (h : DP X W a fa) (h2 : DP X W (.BoolOp .And (b :: rest) pos) fb) : DP X W (.BoolOp .And (a :: b :: rest) pos) (andV fa fb) := by
  obtain ⟨t, pe, w⟩ := h
  obtain ⟨u, pu, z⟩ := h2
  refine ⟨_, pe_and pe pu, fun F os r σ H Q R S => w F os r σ H _ R (S.bind.imp fun d S v H' s h => ?_)⟩
  obtain ⟨k, ek, S⟩ := S.bind.ofO
  refine ⟨k, asB_bl ek (.inl h), ?_⟩
  by_cases hb : k = true
  · rw [if_pos hb] at S ⊢
    exact z F os r σ H' Q (R.same' s) (S.imp fun b q u H2 s2 => q u H2 (s.trans s2))
  · rw [if_neg hb] at S ⊢
    exact S _ H' s rep_bl
theorem d_or (h : DP X W a fa) (h2 : DP X W (.BoolOp .Or (b :: rest) pos) fb) : DP X W (.BoolOp .Or (a :: b :: rest) pos) (orV fa fb) := by
  obtain ⟨t, pe, w⟩ := h
  obtain ⟨u, pu, z⟩ := h2
  refine ⟨_, pe_or pe pu, fun F os r σ H Q R S => w F os r σ H _ R (S.bind.imp fun d S v H' s h => ?_)⟩
  obtain ⟨k, ek, S⟩ := S.bind.ofO
  refine ⟨k, asB_bl ek (.inl h), ?_⟩
  by_cases hb : k = true
  · rw [if_pos hb] at S ⊢
    exact S _ H' s rep_bl
  · rw [if_neg hb] at S ⊢
    exact z F os r σ H' Q (R.same' s) (S.imp fun b q u H2 s2 => q u H2 (s.trans s2))
theorem d_if (hc : DT X W c ga) (ha : DP X W a fa) (hb : DP X W b fb) : DP X W (.IfExp c a b pos) (ifV ga fa fb) := by
  obtain ⟨t, pe, w⟩ := hc
  obtain ⟨u, pu, z⟩ := ha
  obtain ⟨u2, pu2, z2⟩ := hb
  refine ⟨_, pe_ifExp pe pu pu2, fun F os r σ H Q R S => w F os r σ H _ R (S.bind.imp fun k S H' s => ?_)⟩
  by_cases hb : k = true
  · rw [if_pos hb] at S ⊢
    exact z F os r σ H' Q (R.same' s) (S.imp fun b q u H2 s2 => q u H2 (s.trans s2))
  · rw [if_neg hb] at S ⊢
    exact z2 F os r σ H' Q (R.same' s) (S.imp fun b q u H2 s2 => q u H2 (s.trans s2))
theorem e_if {ha' hb' : Env → R (D × Env)} (hc : DTE X W c gaE) (ha : DE X W a ha') (hb : DE X W b hb') : DE X W (.IfExp c a b pos) (ifVE gaE ha' hb') := by
  obtain ⟨t, pe, w⟩ := hc
  obtain ⟨u, pu, z⟩ := ha
  obtain ⟨u2, pu2, z2⟩ := hb
  refine ⟨_, pe_ifExp pe pu pu2, fun F os r σ H Q R S => w F os r σ H _ R (S.bind.imp fun k S H' R' kp => ?_)⟩
  by_cases hb : k.1 = true
  · rw [if_pos hb] at S ⊢
    exact z F os k.2 σ H' Q R' (S.imp fun b q u H2 R2 k2 => q u H2 R2 (kp.trans k2))
  · rw [if_neg hb] at S ⊢
    exact z2 F os k.2 σ H' Q R' (S.imp fun b q u H2 R2 k2 => q u H2 R2 (kp.trans k2))
/-- a op1 b op2 c -/
def chn (o1 o2 : D → D → Option D) (fa fb fc : Env → R D) : Env → R D := fun r => (fa r).bind fun x => (fb r).bind fun y => (R.ofO (o1 x y)).bind fun d => (R.ofO (asB d)).bind fun k =>
  if k = true then (fc r).bind fun z => R.ofO (o2 y z) else .ok (.bl false)
theorem chain_go {ta tb tc : TE} {r1 r2 : R2} {o1 o2 : D → D → Option D} (h1 : Op2 X r1 o1) (h2 : Op2 X r2 o2)
    (wa : ∀ (F : Fm) (os : List (Option Addr)) (r : Env) (σ : St) (H : Hp) (Q : VK), Rel X.K F os r σ H → Sat (fun d => ∀ v H', Same H H' → RepB X.K H' (Av F.A0 os) d v → Q v H') (Er X W F) (fa r) → ta σ H Q)
    (wb : ∀ (F : Fm) (os : List (Option Addr)) (r : Env) (σ : St) (H : Hp) (Q : VK), Rel X.K F os r σ H → Sat (fun d => ∀ v H', Same H H' → RepB X.K H' (Av F.A0 os) d v → Q v H') (Er X W F) (fb r) → tb σ H Q)
    (wc : ∀ (F : Fm) (os : List (Option Addr)) (r : Env) (σ : St) (H : Hp) (Q : VK), Rel X.K F os r σ H → Sat (fun d => ∀ v H', Same H H' → RepB X.K H' (Av F.A0 os) d v → Q v H') (Er X W F) (fc r) → tc σ H Q)
    {F : Fm} {os : List (Option Addr)} {r : Env} {σ : St} {H : Hp} {Q : VK} (R : Rel X.K F os r σ H) (S : Sat (fun d => ∀ v H', Same H H' → Rep X.K H' (Av F.A0 os) d v → Q v H') (Er X W F) (chn o1 o2 fa fb fc r)) :
    tChain r1 r2 ta tb tc σ H Q := by
  refine wa F os r σ H _ R (S.bind.imp fun x S v H1 s1 e1 => ?_)
  have R1 := R.same' s1
  refine wb F os r σ H1 _ R1 (S.bind.imp fun y S w H2 s2 e2 => ?_)
  have R2 := R1.same' s2
  obtain ⟨d, ed, S⟩ := S.bind.ofO
  obtain ⟨k, ek, S⟩ := S.bind.ofO
  refine h1 _ H2 x y v w d _ R2.AOk ed (e1.same s2 R1.AOk) e2 fun u H3 s3 e3 => ?_
  have R3 := R2.same' s3
  refine ⟨k, asB_bl ek (.inl e3), ?_⟩
  have s13 := (s1.trans s2).trans s3
  by_cases hb : k = true
  · rw [if_pos hb] at S ⊢
    refine wc F os r σ H3 _ R3 (S.bind.imp fun z S zv H4 s4 e4 => ?_)
    obtain ⟨d2, ed2, S⟩ := S.ofO
    exact h2 _ H4 y z w zv d2 Q (R3.same' s4).AOk ed2 ((e2.same s3 R2.AOk).same s4 R3.AOk) e4 fun u2 H5 s5 e5 => S u2 H5 ((s13.trans s4).trans s5) e5
  · rw [if_neg hb] at S ⊢
    exact S _ H3 s13 rep_bl
theorem d_chain {op op' : CmpOp} {r1 r2 : R2} {o1 o2 : D → D → Option D} (ho : OpR X (compareOp op) r1) (ho' : OpR X (compareOp op') r2) (h1 : Op2 X r1 o1) (h2 : Op2 X r2 o2) (ha : DB X W a fa) (hb : DB X W b fb) (hc : DB X W c fc)
    (hm : lastMarks [op, op'] [b, c] = false := by with_unfolding_all rfl) : DP X W (.Compare a [op, op'] [b, c] pos) (chn o1 o2 fa fb fc) := by
  obtain ⟨ta, pa, wa⟩ := ha
  obtain ⟨tb, pb, wb⟩ := hb
  obtain ⟨tc, pc, wc⟩ := hc
  exact ⟨_, pe_chain ho ho' pa pb pc hm, fun F os r σ H Q R S => chain_go h1 h2 wa wb wc R S⟩
theorem t_chain {op op' : CmpOp} {r1 r2 : R2} {o1 o2 : D → D → Option D} (ho : OpR X (compareOp op) r1) (ho' : OpR X (compareOp op') r2) (h1 : Op2 X r1 o1) (h2 : Op2 X r2 o2) (ha : DB X W a fa) (hb : DB X W b fb) (hc : DB X W c fc)
    (hm : lastMarks [op, op'] [b, c] = false := by with_unfolding_all rfl) : DT X W (.Compare a [op, op'] [b, c] pos) (tst (chn o1 o2 fa fb fc)) := by
  obtain ⟨ta, pa, wa⟩ := ha
  obtain ⟨tb, pb, wb⟩ := hb
  obtain ⟨tc, pc, wc⟩ := hc
  refine ⟨_, pt_chain ho ho' pa pb pc hm, fun F os r σ H Q R S => ?_⟩
  show tChain r1 r2 ta tb tc σ H _
  refine chain_go (W := W) h1 h2 wa wb wc R (S.bind.imp fun d S v H' s h => ?_)
  obtain ⟨k, ek, S⟩ := S.ofO
  exact ⟨k, asB_bl ek (.inl h), S H' s⟩
/-- a comparison as a value -/
theorem d_cmp {op : CmpOp} {r : R2} {g : D → D → Option D} (ho : OpR X (compareOp op) r) (o : Op2 X r g) (ha : DB X W a fa) (hb : DB X W b fb) (hm : behindInMarks op b = false) : DP X W (.Compare a [op] [b] pos) (bin g fa fb) :=
  d_bin (fun pa pb => pe_cmpR ho pa pb hm) o ha hb
theorem d_op {op : Operator} {r : R2} {g : D → D → Option D} (ho : OpR X (binaryOp op) r) (o : Op2 X r g) (ha : DB X W a fa) (hb : DB X W b fb) : DP X W (.BinOp a op b pos) (bin g fa fb) :=
  d_bin (fun pa pb => pe_op ho pa pb) o ha hb
theorem d_opF {op : Operator} {r : R2} {g : D → D → Option D} (ho : OpR X (binaryOp op) r) (o : Op2F X r g) (ha : DB X W a fa) (hb : DB X W b fb) : DF X W (.BinOp a op b pos) (bin g fa fb) :=
  d_binF (fun pa pb => pe_op ho pa pb) o ha hb
theorem e_op {op : Operator} {r : R2} {g : D → D → Option D} {ha' hb' : Env → R (D × Env)} (ho : OpR X (binaryOp op) r) (o : Op2 X r g) (ha : DE X W a ha') (hb : DE X W b hb') : DE X W (.BinOp a op b pos) (binE g ha' hb') :=
  d_binE (fun pa pb => pe_op ho pa pb) o ha hb

/-! ### built-in functions and types called -/
variable {g : Env → R (List D)} {x : Str} {id T : String} {p : Pos} {rr : List V → Hp → VK → Prop} {op : List D → Option D}
theorem d_callB (hc : CallR X (.builtin id) rr) (o : OpN X rr op) (hg : Gl X x) (hm : X.mg x = none) (hv : bootBuiltins x = some (.builtin id)) (ha : DBs X W (e :: es) g) (hn : x ≠ "__name__" := by decide) (hdb : (x == ("__debug__" : Str)) = false := by decide)
    (he : starEach (e :: es) X.env = (false, eval e X.env) :: starEach es X.env := by rfl) (hpl : (backTo pos (starEach es X.env)).any (·.1) = false := by rfl) : DP X W (.Call (.Name x p) (e :: es) [] pos) (appN op g) :=
  d_app (fun pa => pe_callB hc hg hm hv pa hn hdb he hpl) o ha
theorem d_callBF (hc : CallR X (.builtin id) rr) (o : OpNF X rr op) (hg : Gl X x) (hm : X.mg x = none) (hv : bootBuiltins x = some (.builtin id)) (ha : DBs X W (e :: es) g) (hn : x ≠ "__name__" := by decide) (hdb : (x == ("__debug__" : Str)) = false := by decide)
    (he : starEach (e :: es) X.env = (false, eval e X.env) :: starEach es X.env := by rfl) (hpl : (backTo pos (starEach es X.env)).any (·.1) = false := by rfl) : DF X W (.Call (.Name x p) (e :: es) [] pos) (appN op g) :=
  d_appF (fun pa => pe_callB hc hg hm hv pa hn hdb he hpl) o ha
theorem d_callT (hc : CallR X (.type T) rr) (o : OpN X rr op) (hg : Gl X x) (hm : X.mg x = none) (hv : bootBuiltins x = some (.type T)) (ha : DBs X W (e :: es) g) (hn : x ≠ "__name__" := by decide) (hdb : (x == ("__debug__" : Str)) = false := by decide)
    (he : starEach (e :: es) X.env = (false, eval e X.env) :: starEach es X.env := by rfl) (hpl : (backTo pos (starEach es X.env)).any (·.1) = false := by rfl) : DP X W (.Call (.Name x p) (e :: es) [] pos) (appN op g) :=
  d_app (fun pa => pe_callTy hc hg hm hv pa hn hdb he hpl) o ha
theorem d_callTF (hc : CallR X (.type T) rr) (o : OpNF X rr op) (hg : Gl X x) (hm : X.mg x = none) (hv : bootBuiltins x = some (.type T)) (ha : DBs X W (e :: es) g) (hn : x ≠ "__name__" := by decide) (hdb : (x == ("__debug__" : Str)) = false := by decide)
    (he : starEach (e :: es) X.env = (false, eval e X.env) :: starEach es X.env := by rfl) (hpl : (backTo pos (starEach es X.env)).any (·.1) = false := by rfl) : DF X W (.Call (.Name x p) (e :: es) [] pos) (appN op g) :=
  d_appF (fun pa => pe_callTy hc hg hm hv pa hn hdb he hpl) o ha
theorem e_callT {gE : Env → R (List D × Env)} (hc : CallR X (.type T) rr) (o : OpN X rr op) (hg : Gl X x) (hm : X.mg x = none) (hv : bootBuiltins x = some (.type T)) (ha : DEs X W (e :: es) gE) (hn : x ≠ "__name__" := by decide) (hdb : (x == ("__debug__" : Str)) = false := by decide)
    (he : starEach (e :: es) X.env = (false, eval e X.env) :: starEach es X.env := by rfl) (hpl : (backTo pos (starEach es X.env)).any (·.1) = false := by rfl) : DE X W (.Call (.Name x p) (e :: es) [] pos) (appNE op gE) :=
  d_appE (fun pa => pe_callTy hc hg hm hv pa hn hdb he hpl) o ha
/-- a built-in type's name as a value -/
theorem b_ty {n : String} (hg : Gl X x) (hm : X.mg x = none) (hv : bootBuiltins x = some (.type n)) (hn : x ≠ "__name__" := by decide) (hd : (x == ("__debug__" : Str)) = false := by decide) : DP X W (.Name x p) (kc (.ty n)) :=
  ⟨_, pe_bltn (v := .ty n) hg hm hv rfl hn hd, fun F os r σ H Q R S => S _ H (Same.refl H) (by unfold Rep; rfl)⟩
end
section
variable {X : Cx}
theorem rep1 {K : PySem.W.Frag} {H : Hp} {A : Addr → Prop} {x : D} {vs : List V} (h : Paired (RepB K H A) [x] vs) : ∃ v, vs = [v] ∧ RepB K H A x v := by
  cases h with
  | cons a b => cases b; exact ⟨_, rfl, a⟩
theorem rep2 {K : PySem.W.Frag} {H : Hp} {A : Addr → Prop} {x y : D} {vs : List V} (h : Paired (RepB K H A) [x, y] vs) : ∃ v w, vs = [v, w] ∧ RepB K H A x v ∧ RepB K H A y w := by
  cases h with
  | cons a b =>
    cases b with
    | cons c d => cases d; exact ⟨_, _, rfl, a, c⟩
def lenD : List D → Option D
  | [.str z] => if z.length ≤ sizeLine then some (.int z.length) else none
  | [.lst xs] => some (.int xs.length)
  | [.tup xs] => some (.int xs.length)
  | _ => none
def rLen3 (K : PySem.W.Frag) : List V → Hp → VK → Prop := fun xs H Q => ∃ x n, xs = [x] ∧ LenV K x H n ∧ Q (.int n) H
theorem call_len3 : CallR X (.builtin "len") (rLen3 X.K) := call_len
theorem o_len : OpN X (rLen3 X.K) lenD := by
  intro A H xs vs d Q ak e h q
  unfold lenD at e
  split at e
  · rename_i z
    obtain ⟨v, rfl, h1⟩ := rep1 h
    split at e
    · rename_i hz
      cases e
      exact ⟨v, z.length, rfl, by rw [h1.str]; exact ⟨hz, rfl⟩, q _ H (Same.refl H) rep_int⟩
    · cases e
  · rename_i ys
    obtain ⟨v, rfl, h1⟩ := rep1 h
    cases e
    obtain ⟨a, ws, rfl, h2, h3⟩ := h1.lst
    exact ⟨_, ys.length, rfl, .inl ⟨ws, h2, (repL_length h3).symm⟩, q _ H (Same.refl H) rep_int⟩
  · rename_i ys
    obtain ⟨v, rfl, h1⟩ := rep1 h
    cases e
    obtain ⟨a, ws, rfl, h2, h3⟩ := h1.tup
    exact ⟨_, ys.length, rfl, .inr ⟨ws, h2, (repL_length h3).symm⟩, q _ H (Same.refl H) rep_int⟩
  · cases e
def intD : List D → Option D
  | [.int i] => some (.int i)
  | [.bl b] => some (.int (if b then 1 else 0))
  | _ => none
def rInt1 : List V → Hp → VK → Prop := fun xs H Q => (∃ i, xs = [.int i] ∧ Q (.int i) H) ∨ ∃ k, xs = [.bl k] ∧ Q (.int (if k then 1 else 0)) H
theorem call_int3 : CallR X (.type "int") rInt1 := call_int1
theorem o_intc : OpN X rInt1 intD := by
  intro A H xs vs d Q ak e h q
  unfold intD at e
  split at e
  · rename_i i
    obtain ⟨v, rfl, h1⟩ := rep1 h
    cases e
    exact .inl ⟨i, by rw [h1.int], q _ H (Same.refl H) rep_int⟩
  · rename_i i
    obtain ⟨v, rfl, h1⟩ := rep1 h
    cases e
    exact .inr ⟨i, by rw [h1.bl], q _ H (Same.refl H) rep_int⟩
  · cases e
/-- tuple(list), tuple(tuple) -/
def tupC : List D → Option D
  | [.lst xs] => some (.tup xs)
  | [.tup xs] => some (.tup xs)
  | _ => none
def rTupC (K : PySem.W.Frag) : List V → Hp → VK → Prop := fun xs H Q => ∃ p ys, xs = [.ref p] ∧ ((SqL K H p ys ∧ ∀ l, H l = none → Q (.ref l) (upd H l (.tup ys))) ∨ (SqT K H p ys ∧ Q (.ref p) H))
theorem call_tup3 : CallR X (.type "tuple") (rTupC X.K) := call_tuple_of
theorem o_tupc : OpN X (rTupC X.K) tupC := by
  intro A H xs vs d Q ak e h q
  unfold tupC at e
  split at e
  · rename_i i
    obtain ⟨v, rfl, h1⟩ := rep1 h
    cases e
    obtain ⟨a, ws, rfl, h2, h3⟩ := h1.lst
    exact ⟨a, ws, rfl, .inl ⟨h2, fun l n => q _ _ (same_upd n) (rep_newtup ak h3 n)⟩⟩
  · rename_i i
    obtain ⟨v, rfl, h1⟩ := rep1 h
    cases e
    obtain ⟨a, ws, e1, h2, h3⟩ := h1.tup
    have rx : Rep X.K H A (.tup i) v := by
      rcases h1 with z | ⟨_, _, z⟩
      · exact z
      · exact z.elim
    subst e1
    exact ⟨a, ws, rfl, .inr ⟨h2, q _ H (Same.refl H) rx⟩⟩
  · cases e
def lstC : List D → Option D
  | [.lst xs] => some (.lst xs)
  | [.tup xs] => some (.lst xs)
  | _ => none
def rLstC (K : PySem.W.Frag) : List V → Hp → VK → Prop := fun xs H Q => ∃ p ys, xs = [.ref p] ∧ (SqL K H p ys ∨ SqT K H p ys) ∧ ∀ l, H l = none → Q (.ref l) (upd H l (.lst ys))
theorem call_lst3 : CallR X (.type "list") (rLstC X.K) := call_list_of
theorem o_lstc : OpNF X (rLstC X.K) lstC := by
  intro A H xs vs d Q ak e h q
  unfold lstC at e
  split at e
  · rename_i i
    obtain ⟨v, rfl, h1⟩ := rep1 h
    cases e
    obtain ⟨a, ws, rfl, h2, h3⟩ := h1.lst
    exact ⟨a, ws, rfl, .inl h2, fun l n => q _ _ (same_upd n) n (repO_newlst ak h3 n)⟩
  · rename_i i
    obtain ⟨v, rfl, h1⟩ := rep1 h
    cases e
    obtain ⟨a, ws, e1, h2, h3⟩ := h1.tup
    subst e1
    exact ⟨a, ws, rfl, .inr h2, fun l n => q _ _ (same_upd n) n (repO_newlst ak h3 n)⟩
  · cases e
/-- isinstance of a built-in type, of a tuple of such -/
def tyD : D → String
  | .non => "NoneType" | .bl _ => "bool" | .int _ => "int" | .str _ => "str" | .tup _ => "tuple" | .lst _ => "list" | .dct _ => "dict" | .dctT _ => "dict" | .ref _ => "" | .ty _ => ""
def isTy (x : D) (n : String) : Option Bool := if tyD x = "" then none else kitB (tyD x) n
def allN : List D → Option (List String)
  | [] => some []
  | .ty n :: r => (allN r).map fun l => n :: l
  | _ :: _ => none
def isAny (x : D) : List String → Option Bool
  | [] => some false
  | n :: r => match isTy x n with
    | some true => some true
    | some false => isAny x r
    | none => none
def isiD : List D → Option D
  | [x, .ty n] => (isTy x n).map .bl
  | [x, .tup ts] => if tyD x = "" then none else ((allN ts).bind (isAny x)).map .bl
  | _ => none
def rIsi3 (K : PySem.W.Frag) : List V → Hp → VK → Prop := fun xs H Q => rIsi K xs H Q ∨ rIsiT K xs H Q ∨ rIsiK K xs H Q
theorem call_isi3 : CallR X (.builtin "isinstance") (rIsi3 X.K) := call_isi.or (call_isiT.or call_isiK)
theorem tyx_of {K : PySem.W.Frag} {H : Hp} {A : Addr → Prop} {x : D} {v : V} (h : RepB K H A x v) (t : tyD x ≠ "") : TyX K H v (.type (tyD x)) := by
  cases x with
  | non => rw [h.non]; exact .base .non
  | bl b => rw [h.bl]; exact .base (.bl b)
  | int b => rw [h.int]; exact .base (.int b)
  | str b => rw [h.str]; exact .base (.str b)
  | tup b =>
    rcases h with h | ⟨a, e, h⟩
    · unfold Rep at h
      obtain ⟨a, xs, e, h1, h2⟩ := h
      subst e
      rcases h1 with h1 | ⟨o, its, n, h1, h3, _⟩
      · exact .base (.tup h1)
      · exact .kTuple h1 h3
    · exact h.elim
  | lst b =>
    rcases h with h | ⟨a, e, h⟩
    · unfold Rep at h
      obtain ⟨a, xs, e, h1, h2⟩ := h
      subst e
      rcases h1 with ⟨h1 | ⟨o, h1⟩, _⟩ | ⟨o, its, n, h1, h3, _⟩
      · exact .base (.lst h1)
      · exact .base (.frz h1)
      · exact .kList h1 h3
    · subst e
      obtain ⟨xs, h1, h2⟩ := h
      exact .base (.lst h1)
  | dct b => obtain ⟨a, xs, e, h1, _⟩ := h.dct; subst e; exact .base (.dK h1)
  | dctT b =>
    rcases h with h | ⟨a, e, h⟩
    · unfold Rep at h
      obtain ⟨a, xs, e, h1, h2, h3⟩ := h
      subst e
      exact .base (.dT h1)
    · subst e
      obtain ⟨xs, h1, h2⟩ := h
      exact .base (.dT h1)
  | ref b => exact absurd rfl t
  | ty b => exact absurd rfl t
theorem allN_ok {K : PySem.W.Frag} {H : Hp} {A : Addr → Prop} : ∀ {ts : List D} {cs : List V} {ns : List String}, allN ts = some ns → RepL K H A ts cs → Paired ClsV cs (ns.map Value.type)
  | [], cs, ns, e, h => by
    unfold RepL at h
    subst h
    cases e
    exact .nil
  | t :: ts, cs, ns, e, h => by
    unfold RepL at h
    obtain ⟨v, r, ev, h1, h2⟩ := h
    subst ev
    cases t with
    | ty n =>
      unfold Rep at h1
      subst h1
      unfold allN at e
      cases q : allN ts with
      | none => rw [q] at e; cases e
      | some l =>
        rw [q] at e
        cases e
        exact .cons (.ty n) (allN_ok q h2)
    | _ => cases e
theorem isTy_kit {x : D} {n : String} {k : Bool} (q : isTy x n = some k) : kitB (tyD x) n = some k ∧ tyD x ≠ "" := by
  unfold isTy at q
  split at q
  · cases q
  · rename_i h
    exact ⟨q, h⟩
theorem isAny_ok {K : PySem.W.Frag} {x : D} : ∀ {ns : List String} {b : Bool}, isAny x ns = some b → PySem.W.kitAny K (.type (tyD x)) (ns.map Value.type) = some b
  | [], b, e => by cases e; rfl
  | n :: ns, b, e => by
    unfold isAny at e
    cases q : isTy x n with
    | none => rw [q] at e; cases e
    | some k =>
      rw [q] at e
      obtain ⟨q2, _⟩ := isTy_kit q
      cases k with
      | true =>
        cases e
        exact kitAny_cons (kit_ty q2) (fun z => nomatch z) (fun _ => rfl)
      | false => exact kitAny_cons (kit_ty q2) (fun _ => isAny_ok e) (fun z => nomatch z)
theorem o_isi : OpN X (rIsi3 X.K) isiD := by
  intro A H xs vs d Q ak e h q
  unfold isiD at e
  split at e
  · rename_i x n
    obtain ⟨v, w, rfl, h1, h2⟩ := rep2 h
    cases q' : isTy x n with
    | none => rw [q'] at e; cases e
    | some k =>
      rw [q'] at e
      cases e
      obtain ⟨k1, k2⟩ := isTy_kit q'
      have ew : w = .ty n := by
        rcases h2 with z | ⟨_, _, z⟩
        · unfold Rep at z; exact z
        · exact z.elim
      subst ew
      exact .inl ⟨v, _, _, _, k, rfl, .ty n, tyx_of h1 k2, kit_ty k1, q _ H (Same.refl H) rep_bl⟩
  · rename_i x ts
    obtain ⟨v, w, rfl, h1, h2⟩ := rep2 h
    split at e
    · cases e
    · rename_i hn
      cases q1 : allN ts with
      | none => rw [q1] at e; cases e
      | some ns =>
        rw [q1] at e
        cases q2 : isAny x ns with
        | none => simp [q2] at e
        | some k =>
          simp [q2] at e
          subst e
          have hw : Rep X.K H A (.tup ts) w := by
            rcases h2 with z | ⟨_, _, z⟩
            · exact z
            · exact z.elim
          unfold Rep at hw
          obtain ⟨a, cs, ea, h3, h4⟩ := hw
          subst ea
          rcases h3 with h3 | ⟨o, its, n, h3, h5, h6, h7, h8⟩
          · exact .inr (.inl ⟨v, a, cs, _, _, k, rfl, h3, allN_ok q1 h4, tyx_of h1 hn, isAny_ok q2, q _ H (Same.refl H) rep_bl⟩)
          · obtain ⟨oc, od, dt, sl⟩ := o
            simp only at h5 h6
            subst h5 h6
            have e3 := ClsV.all (allN_ok q1 h4) h8
            have e4 : its = (ns.map Value.type).toArray := by rw [← e3]
            rw [e4] at h3
            exact .inr (.inr ⟨v, a, od, ns.map Value.type, n, sl, _, k, rfl, h3, tyx_of h1 hn, isAny_ok q2, q _ H (Same.refl H) rep_bl⟩)
  · cases e
end
end DL

namespace DL
open PySem L2

/-! ### what a def promises, by data -/
def SpF (K : PySem.W.Frag) (mg : Str → Option Value) (n : Nat) (F : List D → R D) : Sp := fun vs H Q E => vs.length = n ∧ ∃ (A : Addr → Prop) (ds : List D), AOk A H ∧ RepL K H A ds vs ∧
  Sat (fun d => ∀ v H', Same H H' → Rep K H' A d v → Q v H') (fun x _ => ∀ cls dd H', Same H H' → XRep K mg H' x cls dd → E cls dd H') (F ds)
def But (a : Addr) (H H' : Hp) : Prop := ∀ b o, H b = some o → b ≠ a → H' b = some o
/-- the first argument: a list of the caller's own that the def changes -/
def SpIO (K : PySem.W.Frag) (n : Nat) (F : List D → List D → R (D × List D)) : Sp := fun vs H Q _ => ∃ (A : Addr → Prop) (a : Addr) (xs rest : List V) (row ds : List D), vs = .ref a :: rest ∧ rest.length = n ∧ H a = some (.lst xs) ∧ A a ∧ AOk A H ∧ RepL K H A row xs ∧ RepL K H A ds rest ∧
  Sat (fun p => ∀ v H' xs', But a H H' → H' a = some (.lst xs') → RepL K H' A p.2 xs' → Rep K H' A p.1 v → Q v H') (fun _ _ => False) (F row ds)
def R.at {α : Type} (r : Env) : R α → R α
  | .ok a => .ok a
  | .err x _ => .err x r
  | .stk => .stk
def R.ne {α : Type} : R α → R α
  | .ok a => .ok a
  | .err _ _ => .stk
  | .stk => .stk
def callF (n : Nat) (F : List D → R D) (g : Env → R (List D)) : Env → R D := fun r => (g r).bind fun ds => if ds.length = n then R.at r (F ds) else .stk
def callFE (n : Nat) (F : List D → R D) (g : Env → R (List D × Env)) : Env → R (D × Env) := fun r => (g r).bind fun p => if p.1.length = n then (R.at p.2 (F p.1)).bind fun d => .ok (d, p.2) else .stk
/-- the list that a slot holds and may change -/
def ownL (r : Env) (i : Nat) : Option (Slot × List D) := match r[i]? with
  | some s => match s.cont with
    | some (.lst xs) => some (s, xs)
    | _ => none
  | none => none
theorem ownL_ok {r : Env} {i : Nat} {s : Slot} {xs : List D} (e : ownL r i = some (s, xs)) : r[i]? = some s ∧ s.cont = some (.lst xs) := by
  unfold ownL at e
  cases q : r[i]? with
  | none => rw [q] at e; cases e
  | some t =>
    rw [q] at e
    cases q2 : t.cont with
    | none => simp only [q2] at e; cases e
    | some d =>
      cases d with
      | lst ys => simp only [q2] at e; cases e; exact ⟨rfl, q2⟩
      | _ => simp only [q2] at e; cases e
def callIO (i : Nat) (n : Nat) (F : List D → List D → R (D × List D)) (g : Env → R (List D × Env)) : Env → R (D × Env) := fun r => (R.ofO (ownL r i)).bind fun _ => (g r).bind fun p => (R.ofO (ownL p.2 i)).bind fun s =>
  if p.1.length = n then (R.ne (F s.2 p.1)).bind fun q => .ok (q.1, p.2.set i (s.1.put (.lst q.2))) else .stk
section
variable {X : Cx} {W : WX} {e : Expr} {es : List Expr} {x : Str} {p pos : Pos} {k : Nat} {f : Addr} {fd : FuncData} {ps : List Str}
theorem d_call {g : Env → R (List D)} {n : Nat} {F : List D → R D} (G : FnOk X.prog X.w X.K X.mg X.base (L2.CX X.prog X.w) k f fd ps (SpF X.K X.mg n F)) (hr : Room k X.A) (hg : Gl X x) (hm : X.mg x = some (.ref f)) (hk : PySem.W.keepIn X.K (.ref f) = true) (hb : Binds X.K fd ps [])
    (tk : Takes X W) (ha : DPs X W (e :: es) g) (hdb : (x == ("__debug__" : Str)) = false := by decide) (he : starEach (e :: es) X.env = (false, eval e X.env) :: starEach es X.env := by rfl) (hpl : (backTo pos (starEach es X.env)).any (·.1) = false := by rfl) :
    DP X W (.Call (.Name x p) (e :: es) [] pos) (callF n F g) := by
  obtain ⟨ta, pa, wa⟩ := ha
  refine ⟨_, pe_callS (E := WE W) G hr hg hm hk hb (passAt tk) pa hdb he hpl, fun Fm os r σ H Q Rl S => ?_⟩
  refine wa Fm os r σ H _ Rl (S.bind.imp fun ds S vs H1 s1 h1 => ?_)
  have R1 := Rl.same' s1
  by_cases hl : ds.length = n
  · rw [if_pos hl] at S
    refine ⟨by rw [repL_length h1]; exact hl, _, ds, R1.AOk, h1, ?_⟩
    cases q : F ds with
    | ok d =>
      rw [q] at S
      exact fun v H' s h => S v H' (s1.trans s) h
    | err x r' =>
      rw [q] at S
      exact fun cls dd H' s h => S os σ cls dd H' (R1.same' s) h
    | stk =>
      rw [q] at S
      exact S.elim
  · rw [if_neg hl] at S
    exact S.elim
theorem e_call {g : Env → R (List D × Env)} {n : Nat} {F : List D → R D} (G : FnOk X.prog X.w X.K X.mg X.base (L2.CX X.prog X.w) k f fd ps (SpF X.K X.mg n F)) (hr : Room k X.A) (hg : Gl X x) (hm : X.mg x = some (.ref f)) (hk : PySem.W.keepIn X.K (.ref f) = true) (hb : Binds X.K fd ps [])
    (tk : Takes X W) (ha : DEs X W (e :: es) g) (hdb : (x == ("__debug__" : Str)) = false := by decide) (he : starEach (e :: es) X.env = (false, eval e X.env) :: starEach es X.env := by rfl) (hpl : (backTo pos (starEach es X.env)).any (·.1) = false := by rfl) :
    DE X W (.Call (.Name x p) (e :: es) [] pos) (callFE n F g) := by
  obtain ⟨ta, pa, wa⟩ := ha
  refine ⟨_, pe_callS (E := WE W) G hr hg hm hk hb (passAt tk) pa hdb he hpl, fun Fm os r σ H Q Rl S => ?_⟩
  refine wa Fm os r σ H _ Rl (S.bind.imp fun ds S vs H1 R1 k1 h1 => ?_)
  by_cases hl : ds.1.length = n
  · rw [if_pos hl] at S
    refine ⟨by rw [repL_length h1]; exact hl, _, ds.1, R1.AOk, h1, ?_⟩
    cases q : F ds.1 with
    | ok d =>
      rw [q] at S
      exact fun v H' s h => S v H' (R1.same' s) (k1.trans (Keep.of s)) h
    | err x r' =>
      rw [q] at S
      exact fun cls dd H' s h => S os σ cls dd H' (R1.same' s) h
    | stk =>
      rw [q] at S
      exact S.elim
  · rw [if_neg hl] at S
    exact S.elim
/-- an own list changed by a callee -/
theorem Rel.but {K : PySem.W.Frag} {F : Fm} {os : List (Option Addr)} {r : Env} {σ : St} {H H' : Hp} {i : Nat} {s : Slot} {d d' : D} {a : Addr} (R : Rel K F os r σ H) (e : r[i]? = some s) (ec : s.cont = some d) (ea : σ[i]? = some (some (.ref a))) (b : But a H H') (h : RepO K H' (Av F.A0 os) d' a) :
    Rel K F os (r.set i (s.put d')) σ H' ∧ Keep (Av F.A0 os) (Av F.A0 os) H H' := by
  have ak := R.AOk
  obtain ⟨v, o, e1, e2, q0⟩ := R.get e
  obtain ⟨a', z1, z2, q, qq⟩ := q0.cont ec
  subst z1
  rw [ea] at e1
  cases e1
  cases z2
  have inA : Av F.A0 os a := .inr (List.mem_of_getElem? e2)
  have kp : Keep (Av F.A0 os) (Av F.A0 os) H H' := fun c u ec nc => ⟨b c u ec fun z => nc (by rw [z]; exact inA), nc⟩
  refine ⟨⟨by simp [R.lens], by simp [R.leno], fun j sl w u e1 e2' e3 => ?_, R.inj, R.out, fun c z => ?_, fun c u ec nc => ?_, R.new⟩, kp⟩
  · rcases getElem?_set_cases e1 with ⟨ej, z1⟩ | ⟨ej, e1⟩
    · subst ej
      subst z1
      rw [e2] at e3
      cases e3
      rw [ea] at e2'
      cases e2'
      exact qq _ _ _ h
    · refine (R.slot j sl w u e1 e2' e3).keep kp ak fun c z => ?_
      subst z
      obtain ⟨_, _, _, _, _, q⟩ := R.own e3
      obtain ⟨o, h1, _⟩ := q.isT
      rw [h1]
      refine b c o h1 fun zz => ej ?_
      subst zz
      exact R.inj i j c e2 e3
  · obtain ⟨u, h1, h2⟩ := R.aok c z
    exact ⟨u, b c u h1 fun zz => R.out i a e2 (by rw [← zz]; exact z), h2⟩
  · refine b c u (R.same c u ec nc) fun zz => ?_
    subst zz
    rcases R.new i c e2 with h1 | h1
    · rw [h1] at ec
      cases ec
    · exact nc h1
theorem Rel.ownA {K : PySem.W.Frag} {F : Fm} {os : List (Option Addr)} {r : Env} {σ : St} {H : Hp} (R : Rel K F os r σ H) {i : Nat} {s : Slot} {d : D} (e : r[i]? = some s) (ec : s.cont = some d) : ∃ a, σ[i]? = some (some (.ref a)) ∧ Av F.A0 os a ∧ RepO K H (Av F.A0 os) d a := by
  obtain ⟨v, o, e1, e2, q0⟩ := R.get e
  obtain ⟨a, z1, z2, q, _⟩ := q0.cont ec
  subst z1
  subst z2
  exact ⟨a, e1, .inr (List.mem_of_getElem? e2), q⟩
theorem e_callIO {i : Nat} {y : Str} {py : Pos} {g : Env → R (List D × Env)} {n : Nat} {F : List D → List D → R (D × List D)} (G : FnOk X.prog X.w X.K X.mg X.base (L2.CX X.prog X.w) k f fd ps (SpIO X.K n F)) (hr : Room k X.A) (hg : Gl X x) (hm : X.mg x = some (.ref f)) (hk : PySem.W.keepIn X.K (.ref f) = true) (hb : Binds X.K fd ps [])
    (tk : Takes X W) (hN : X.N[i]? = some y) (hv : Vis X.env.scope y) (ha : DEs X W es g) (hd : (y == ("__debug__" : Str)) = false := by decide) (hcd : (y == ("__classdict__" : Str)) = false := by decide)
    (hdb : (x == ("__debug__" : Str)) = false := by decide) (he : starEach (.Name y py :: es) X.env = (false, eval (.Name y py) X.env) :: starEach es X.env := by rfl) (hpl : (backTo pos (starEach es X.env)).any (·.1) = false := by rfl) :
    DE X W (.Call (.Name x p) (.Name y py :: es) [] pos) (callIO i n F g) := by
  obtain ⟨ta, pa, wa⟩ := ha
  refine ⟨_, pe_callS (E := WE W) G hr hg hm hk hb (passAt tk) (pa_cons (pe_var (i := i) hN hv hd hcd) pa he) hdb he hpl, fun Fm os r σ H Q Rl S => ?_⟩
  obtain ⟨s0, e0, S⟩ := S.bind.ofO
  obtain ⟨e00, e01⟩ := ownL_ok (s := s0.1) (xs := s0.2) e0
  obtain ⟨a, e1, _, _⟩ := Rl.ownA e00 e01
  refine ⟨_, e1, wa Fm os r σ H _ Rl (S.bind.imp fun p S vs H1 R1 k1 h1 => ?_)⟩
  obtain ⟨s3, e3, S⟩ := S.bind.ofO
  obtain ⟨e30, e31⟩ := ownL_ok (s := s3.1) (xs := s3.2) e3
  obtain ⟨a', e4, inA, xs, hx, hxr⟩ := R1.ownA e30 e31
  rw [e1] at e4
  cases e4
  by_cases hl : p.1.length = n
  · rw [if_pos hl] at S
    refine ⟨_, a, xs, vs, s3.2, p.1, rfl, by rw [repL_length h1]; exact hl, hx, inA, R1.AOk, hxr, h1, ?_⟩
    cases q2 : F s3.2 p.1 with
    | ok w =>
      rw [q2] at S
      intro u H' xs' bt hx' hr' hu
      obtain ⟨R2, k2⟩ := Rel.but R1 e30 e31 e1 bt (d' := .lst w.2) ⟨xs', hx', hr'⟩
      exact S u H' R2 (k1.trans k2) hu
    | err x r' =>
      rw [q2] at S
      exact S.elim
    | stk =>
      rw [q2] at S
      exact S.elim
  · rw [if_neg hl] at S
    exact S.elim
end
/-! ### statements -/
/-- how a statement ends -/
inductive Fl where
  | nx (r : Env) | rt (d : D) (r : Env) | bk (r : Env) | ct (r : Env)
def SPost (K : PySem.W.Frag) (F : Fm) (os : List (Option Addr)) (H : Hp) (D : Ends) : Fl → Prop
  | .nx r => ∀ os' σ' H', Rel K F os' r σ' H' → Keep (Av F.A0 os) (Av F.A0 os') H H' → D.nx σ' H'
  | .bk r => ∀ os' σ' H', Rel K F os' r σ' H' → Keep (Av F.A0 os) (Av F.A0 os') H H' → D.bk σ' H'
  | .ct r => ∀ os' σ' H', Rel K F os' r σ' H' → Keep (Av F.A0 os) (Av F.A0 os') H H' → D.ct σ' H'
  | .rt d r => ∀ os' v σ' H', Rel K F os' r σ' H' → Rep K H' (Av F.A0 os') d v → D.rt v H'
structure DS (X : Cx) (W : WX) (st : Stmt) (f : Env → R Fl) : Prop where
  ex : ∃ t, PS X st t ∧ ∀ (F : Fm) (os : List (Option Addr)) (r : Env) (σ : St) (H : Hp) (D : Ends), Rel X.K F os r σ H → Sat (SPost X.K F os H D) (Er X W F) (f r) → t D σ H
structure DSs (X : Cx) (W : WX) (st : List Stmt) (f : Env → R Fl) : Prop where
  ex : ∃ t, PSs X st t ∧ ∀ (F : Fm) (os : List (Option Addr)) (r : Env) (σ : St) (H : Hp) (D : Ends), Rel X.K F os r σ H → Sat (SPost X.K F os H D) (Er X W F) (f r) → t D σ H
/-- only the slots of ks differ -/
def Off (ks : List Nat) (σ σ' : St) (os os' : List (Option Addr)) : Prop := σ'.length = σ.length ∧ ∀ i, i ∉ ks → σ'[i]? = σ[i]? ∧ os'[i]? = os[i]?
structure DG (X : Cx) (W : WX) (ks : List Nat) (tg : Expr) (g : D → Env → R Env) : Prop where
  ex : ∃ t, PG X tg t ∧ ∀ (F : Fm) (os : List (Option Addr)) (r : Env) (σ : St) (H : Hp) (v : V) (d : D) (Q : St → Hp → Prop), Rel X.K F os r σ H → Rep X.K H (Av F.A0 os) d v →
    Sat (fun r' => ∀ os' σ' H', Rel X.K F os' r' σ' H' → Keep (Av F.A0 os) (Av F.A0 os') H H' → Same H H' → Off ks σ σ' os os' → Q σ' H') (Er X W F) (g d r) → t v σ H Q
structure DGs (X : Cx) (W : WX) (ks : List Nat) (tg : List Expr) (g : List D → Env → R Env) : Prop where
  ex : ∃ t, PGs X tg t ∧ ∀ (F : Fm) (os : List (Option Addr)) (r : Env) (σ : St) (H : Hp) (vs : List V) (ds : List D) (Q : St → Hp → Prop), Rel X.K F os r σ H → RepL X.K H (Av F.A0 os) ds vs →
    Sat (fun r' => ∀ os' σ' H', Rel X.K F os' r' σ' H' → Keep (Av F.A0 os) (Av F.A0 os') H H' → Same H H' → Off ks σ σ' os os' → Q σ' H') (Er X W F) (g ds r) → t vs σ H Q
@[simp] def gSet (i : Nat) : D → Env → R Env := fun d r => .ok (r.set i (.sh d))
def gsNil : List D → Env → R Env := fun ds r => match ds with
  | [] => .ok r
  | _ => .stk
def gsCons (g : D → Env → R Env) (h : List D → Env → R Env) : List D → Env → R Env := fun ds r => match ds with
  | d :: r' => (g d r).bind fun r1 => h r' r1
  | [] => .stk
def gTupD (n : Nat) (g : List D → Env → R Env) : D → Env → R Env := fun d r => match d with
  | .tup ds => if ds.length = n then g ds r else .stk
  | _ => .stk
section
variable {X : Cx} {W : WX} {e : Expr} {pos pos' : Pos} {st : Stmt} {sts : List Stmt} {x : Str}
theorem SPost.from {K : PySem.W.Frag} {F : Fm} {os os1 : List (Option Addr)} {H H1 : Hp} {D : Ends} (k : Keep (Av F.A0 os) (Av F.A0 os1) H H1) : ∀ {fl : Fl}, SPost K F os H D fl → SPost K F os1 H1 D fl
  | .nx r, h => fun os' σ' H' R k2 => h os' σ' H' R (k.trans k2)
  | .bk r, h => fun os' σ' H' R k2 => h os' σ' H' R (k.trans k2)
  | .ct r, h => fun os' σ' H' R k2 => h os' σ' H' R (k.trans k2)
  | .rt d r, h => h
theorem g_name {i : Nat} (hN : X.N.Nodup) (hi : X.N[i]? = some x := by rfl) (hx : Loc X.env.scope x := by first | exact Or.inl rfl | exact Or.inr rfl) (hf : X.fn x = true ∨ X.env.scope.names.lookup x = some .local := by first | exact .inl rfl | exact .inr rfl) : DG X W [i] (.Name x pos) (gSet i) := by
  refine ⟨_, pg_name (i := i) hN hi hx hf, fun F os r σ H v d Q R h S => ?_⟩
  obtain ⟨R1, k1⟩ := R.setSh (i := i) h
  exact S _ _ _ R1 k1 (Same.refl H) ⟨by simp, fun j hj => ⟨List.getElem?_set_ne (fun z => hj (by simp [z])), List.getElem?_set_ne (fun z => hj (by simp [z]))⟩⟩
theorem gs_nil : DGs X W [] [] gsNil := by
  refine ⟨_, pgs_nil, fun F os r σ H vs ds Q R h S => ?_⟩
  cases ds with
  | nil =>
    unfold RepL at h
    exact ⟨h, S os σ H R Keep.refl (Same.refl H) ⟨rfl, fun _ _ => ⟨rfl, rfl⟩⟩⟩
  | cons d ds => exact S.elim
theorem Off.trans {a b : List Nat} {σ σ1 σ2 : St} {o o1 o2 : List (Option Addr)} (h : Off a σ σ1 o o1) (h2 : Off b σ1 σ2 o1 o2) : Off (a ++ b) σ σ2 o o2 := ⟨h2.1.trans h.1, fun i hi => by
  rw [List.mem_append, not_or] at hi
  exact ⟨(h2.2 i hi.2).1.trans (h.2 i hi.1).1, (h2.2 i hi.2).2.trans (h.2 i hi.1).2⟩⟩
theorem gs_cons {es : List Expr} {ka kb : List Nat} {g : D → Env → R Env} {h : List D → Env → R Env} (h1 : DG X W ka e g) (h2 : DGs X W kb es h) (hs : (assignEach (e :: es) X.env).map (·.2) = assign e X.env :: (assignEach es X.env).map (·.2) := by rfl) : DGs X W (ka ++ kb) (e :: es) (gsCons g h) := by
  obtain ⟨t, pe, w⟩ := h1
  obtain ⟨u, pu, z⟩ := h2
  refine ⟨_, pgs_cons pe pu hs, fun F os r σ H vs ds Q R h S => ?_⟩
  cases ds with
  | nil => exact S.elim
  | cons d ds =>
    unfold RepL at h
    obtain ⟨v, rs, e1, h3, h4⟩ := h
    refine ⟨v, rs, e1, w F os r σ H v d _ R h3 (S.bind.imp fun r1 S os1 σ1 H1 R1 k1 s1 o1 => ?_)⟩
    exact z F os1 r1 σ1 H1 rs ds Q R1 (RepL.keep k1 R.AOk _ _ h4) (S.imp fun r2 q os2 σ2 H2 R2 k2 s2 o2 => q os2 σ2 H2 R2 (k1.trans k2) (s1.trans s2) (o1.trans o2))
theorem g_tup {es : List Expr} {ks : List Nat} {k n : Nat} {h : List D → Env → R Env} (hc : X.calm = true) (h2 : DGs X W ks es h) (hn : (assignEach es X.env).length = n := by rfl) (hst : (assignEach es X.env).findIdx? (·.1) = none := by rfl) : DG X W ks (.Tuple es k pos) (gTupD n h) := by
  obtain ⟨u, pu, z⟩ := h2
  refine ⟨_, pg_tup hc pu hn hst, fun F os r σ H v d Q R h S => ?_⟩
  cases d with
  | tup ds =>
    simp only [gTupD] at S
    by_cases hl : ds.length = n
    · rw [if_pos hl] at S
      unfold Rep at h
      obtain ⟨a, xs, e1, h1, h2⟩ := h
      exact ⟨a, xs, e1, tup_sq h1, by rw [repL_length h2]; exact hl, z F os r σ H xs ds Q R h2 S⟩
    · rw [if_neg hl] at S
      exact S.elim
  | _ => exact S.elim

def seqS (f g : Env → R Fl) : Env → R Fl := fun r => (f r).bind fun fl => match fl with
  | .nx r1 => g r1
  | .rt d r1 => .ok (.rt d r1)
  | .bk r1 => .ok (.bk r1)
  | .ct r1 => .ok (.ct r1)
@[simp] def skipS : Env → R Fl := fun r => .ok (.nx r)
theorem s_nil : DSs X W [] skipS := ⟨_, pss_nil, fun F os r σ H D R S => S os σ H R Keep.refl⟩
theorem s_one {f : Env → R Fl} (h : DS X W st f) : DSs X W [st] f := by
  obtain ⟨t, p, w⟩ := h
  exact ⟨_, pss_one p, w⟩
theorem s_cons {f g : Env → R Fl} (h : DS X W st f) (h2 : DSs X W sts g) : DSs X W (st :: sts) (seqS f g) := by
  obtain ⟨t, p, w⟩ := h
  obtain ⟨u, q, z⟩ := h2
  refine ⟨_, pss_cons p q, fun F os r σ H D R S => w F os r σ H _ R (S.bind.imp fun fl S => ?_)⟩
  cases fl with
  | nx r1 => exact fun os1 σ1 H1 R1 k1 => z F os1 r1 σ1 H1 D R1 (S.imp fun fl q => q.from k1)
  | rt d r1 => exact S
  | bk r1 => exact S
  | ct r1 => exact S
theorem s_pass : DS X W (.Pass pos) skipS := ⟨_, ps_pass, fun F os r σ H D R S => S os σ H R Keep.refl⟩
@[simp] def brkS : Env → R Fl := fun r => .ok (.bk r)
@[simp] def cntS : Env → R Fl := fun r => .ok (.ct r)
theorem s_break : DS X W (.Break pos) brkS := ⟨_, ps_break, fun F os r σ H D R S => S os σ H R Keep.refl⟩
theorem s_continue : DS X W (.Continue pos) cntS := ⟨_, ps_continue, fun F os r σ H D R S => S os σ H R Keep.refl⟩
theorem s_doc {z : Str} {j : Nat} : DS X W (.Expr (.Constant (.str z) j pos) pos') skipS := ⟨_, ps_doc, fun F os r σ H D R S => S os σ H R Keep.refl⟩
/-- a statement that the data never reach -/
@[simp] def nvrS : Env → R Fl := fun _ => .stk
theorem s_never : DS X W st nvrS := ⟨_, ps_never, fun F os r σ H D R S => S.elim⟩
theorem ss_never : DSs X W sts nvrS := ⟨_, pss_never, fun F os r σ H D R S => S.elim⟩
def exprS (f : Env → R (D × Env)) : Env → R Fl := fun r => (f r).bind fun p => .ok (.nx p.2)
theorem s_expr {f : Env → R (D × Env)} (h : DE X W e f) (hs : swapsWith e none pos.line X.env = pure false := by rfl) : DS X W (.Expr e pos) (exprS f) := by
  obtain ⟨t, pe, w⟩ := h
  exact ⟨_, ps_expr pe hs, fun F os r σ H D R S => w F os r σ H _ R (S.bind.imp fun p S v H1 R1 k1 h1 => S os σ H1 R1 k1)⟩
def retS (f : Env → R (D × Env)) : Env → R Fl := fun r => (f r).bind fun p => .ok (.rt p.1 p.2)
theorem s_ret {f : Env → R (D × Env)} (h : DE X W e f) : DS X W (.Return (some e) pos) (retS f) := by
  obtain ⟨t, pe, w⟩ := h
  exact ⟨_, ps_ret pe, fun F os r σ H D R S => w F os r σ H _ R (S.bind.imp fun p S v H1 R1 k1 h1 => S os v σ H1 R1 h1)⟩
@[simp] def retN : Env → R Fl := fun r => .ok (.rt .non r)
theorem s_retN : DS X W (.Return none pos) retN := ⟨_, ps_retN, fun F os r σ H D R S => S os .non σ H R rep_non⟩
/-- return x, x a slot's own list -/
def retO (i : Nat) : Env → R Fl := fun r => match r[i]? with
  | some (.own d) => .ok (.rt d (r.set i (.sh d)))
  | some (.sh d) => .ok (.rt d r)
  | _ => .stk
theorem s_retO (i : Nat) {p : Pos} (hN : X.N[i]? = some x := by rfl) (hv : Vis X.env.scope x := by first | exact Or.inl rfl | exact Or.inr (Or.inl rfl) | exact Or.inr (Or.inr rfl)) (hd : (x == ("__debug__" : Str)) = false := by decide)
    (hcd : (x == ("__classdict__" : Str)) = false := by decide) : DS X W (.Return (some (.Name x p)) pos) (retO i) := by
  refine ⟨_, ps_ret (pe_var (i := i) hN hv hd hcd), fun F os r σ H D R S => ?_⟩
  unfold retO at S
  split at S
  · rename_i d e
    obtain ⟨R1, k1, a, ea, h1⟩ := R.freeze e
    exact ⟨_, ea, S _ _ σ H R1 h1⟩
  · rename_i d e
    obtain ⟨v, o, e1, e2, z, u, e3, h⟩ := R.get e
    subst e3
    exact ⟨u, e1, S os u σ H R h⟩
  · exact S.elim
def ifS (c : Env → R (Bool × Env)) (f g : Env → R Fl) : Env → R Fl := fun r => (c r).bind fun p => if p.1 = true then f p.2 else g p.2
theorem s_if {c : Env → R (Bool × Env)} {f g : Env → R Fl} {a b : List Stmt} (hc : DTE X W e c) (ha : DSs X W a f) (hb : DSs X W b g) : DS X W (.If e a b pos) (ifS c f g) := by
  obtain ⟨t, pe, w⟩ := hc
  obtain ⟨u, pu, z⟩ := ha
  obtain ⟨u2, pu2, z2⟩ := hb
  refine ⟨_, ps_if pe pu pu2, fun F os r σ H D R S => w F os r σ H _ R (S.bind.imp fun p S H1 R1 k1 => ?_)⟩
  by_cases hp : p.1 = true
  · rw [if_pos hp] at S ⊢
    exact z F os p.2 σ H1 D R1 (S.imp fun fl q => q.from k1)
  · rw [if_neg hp] at S ⊢
    exact z2 F os p.2 σ H1 D R1 (S.imp fun fl q => q.from k1)
/-- x = e -/
def setS (i : Nat) (f : Env → R (D × Env)) : Env → R Fl := fun r => (f r).bind fun p => .ok (.nx (p.2.set i (.sh p.1)))
theorem s_set (i : Nat) {p : Pos} {f : Env → R (D × Env)} (hN : X.N.Nodup) (h : DE X W e f) (hi : X.N[i]? = some x := by rfl) (hx : Loc X.env.scope x := by first | exact Or.inl rfl | exact Or.inr rfl) (hs : swapsWith e (some (.Name x p)) pos.line X.env = pure false := by rfl)
    (hf : X.fn x = true ∨ X.env.scope.names.lookup x = some .local := by first | exact .inl rfl | exact .inr rfl) : DS X W (.Assign [.Name x p] e pos) (setS i f) := by
  obtain ⟨t, pe, w⟩ := h
  refine ⟨_, ps_set (i := i) hN hi hx pe hs hf, fun F os r σ H D R S => w F os r σ H _ R (S.bind.imp fun q S v H1 R1 k1 h1 => ?_)⟩
  obtain ⟨R2, k2⟩ := R1.setSh (i := i) h1
  exact S _ _ _ R2 (k1.trans k2)
/-- x = a new list or dict that is x's own -/
def setO (i : Nat) (f : Env → R D) : Env → R Fl := fun r => (f r).bind fun d => .ok (.nx (r.set i (.own d)))
theorem s_setO (i : Nat) {p : Pos} {f : Env → R D} (hN : X.N.Nodup) (h : DF X W e f) (hi : X.N[i]? = some x := by rfl) (hx : Loc X.env.scope x := by first | exact Or.inl rfl | exact Or.inr rfl) (hs : swapsWith e (some (.Name x p)) pos.line X.env = pure false := by rfl)
    (hf : X.fn x = true ∨ X.env.scope.names.lookup x = some .local := by first | exact .inl rfl | exact .inr rfl) : DS X W (.Assign [.Name x p] e pos) (setO i f) := by
  obtain ⟨t, pe, w⟩ := h
  refine ⟨_, ps_set (i := i) hN hi hx pe hs hf, fun F os r σ H D R S => w F os r σ H _ R (S.bind.imp fun q S v H1 s1 n1 h1 => ?_)⟩
  obtain ⟨R2, k2⟩ := R.setOwn (i := i) s1 n1 h1
  exact S _ _ _ R2 k2
/-- target = e, any target -/
def asgS (g : D → Env → R Env) (f : Env → R (D × Env)) : Env → R Fl := fun r => (f r).bind fun p => (g p.1 p.2).bind fun r2 => .ok (.nx r2)
theorem s_asg {tg : Expr} {ks : List Nat} {g : D → Env → R Env} {f : Env → R (D × Env)} (h : DE X W e f) (h2 : DG X W ks tg g) (hs : swapsWithSole [tg] e pos.line X.env = pure false := by rfl) (hw : swappedStores [tg] e X.env = pure none := by rfl)
    (h1 : (assignEach [tg] X.env).map (·.2) = [assign tg X.env] := by rfl) : DS X W (.Assign [tg] e pos) (asgS g f) := by
  obtain ⟨t, pe, w⟩ := h
  obtain ⟨u, pu, z⟩ := h2
  refine ⟨_, ps_asg pe pu hs hw h1, fun F os r σ H D R S => w F os r σ H _ R (S.bind.imp fun q S v H1 R1 k1 h1 => ?_)⟩
  exact z F os q.2 σ H1 v q.1 _ R1 h1 (S.bind.imp fun r2 S os' σ' H' R' k' _ _ => S os' σ' H' R' (k1.trans k'))
/-- x, y = a, b: two local names -/
def parS (i j : Nat) (f : Env → R (List D × Env)) : Env → R Fl := fun r => (f r).bind fun p => match p.1 with
  | [d, e] => .ok (.nx ((p.2.set i (.sh d)).set j (.sh e)))
  | _ => .stk
theorem s_par (i j : Nat) {y : Str} {a b : Expr} {px py pt pt2 : Pos} {kt k2 : Nat} {f : Env → R (List D × Env)} (hc : X.calm = true) (hN : X.N.Nodup) (h : DEs X W [a, b] f)
    (hi : X.N[i]? = some x := by rfl) (hj : X.N[j]? = some y := by rfl) (hij : i ≠ j := by decide)
    (hx : X.env.scope.names.lookup x = some .local := by rfl) (hy : X.env.scope.names.lookup y = some .local := by rfl)
    (hw : swappedStores [.Tuple [.Name x px, .Name y py] kt pt] (.Tuple [a, b] k2 pt2) X.env = pure (some [x, y]) := by rfl)
    (hs : swapsWithSole [.Tuple [.Name x px, .Name y py] kt pt] (.Tuple [a, b] k2 pt2) pos.line X.env = pure false := by rfl) :
    DS X W (.Assign [.Tuple [.Name x px, .Name y py] kt pt] (.Tuple [a, b] k2 pt2) pos) (parS i j f) := by
  obtain ⟨t, pe, w⟩ := h
  refine ⟨_, ps_par (i := i) (j := j) hc hN hi hj hij hx hy pe hw hs, fun F os r σ H D R S => w F os r σ H _ R (S.bind.imp fun q S vs H1 R1 k1 h1 => ?_)⟩
  obtain ⟨ds, r2⟩ := q
  match ds, S, h1 with
  | [d, e], S, h1 =>
    unfold RepL at h1
    obtain ⟨v, rs, e1, h3, h4⟩ := h1
    unfold RepL at h4
    obtain ⟨u, rs2, e2, h5, h6⟩ := h4
    unfold RepL at h6
    subst h6 e2 e1
    refine ⟨v, u, rfl, ?_⟩
    obtain ⟨R2, k2⟩ := R1.setSh (i := i) h3
    obtain ⟨R3, k3⟩ := R2.setSh (i := j) (Rep.keep k2 R1.AOk _ _ h5)
    exact S _ _ _ R3 ((k1.trans k2).trans k3)
  | [], S, _ => exact S.elim
  | [_], S, _ => exact S.elim
  | _ :: _ :: _ :: _, S, _ => exact S.elim
/-- x += e, by the operator's in-place rule -/
def augS (i : Nat) (op : D → D → Option D) (f : Env → R D) : Env → R Fl := fun r => match r[i]? with
  | some (.sh x) => (f r).bind fun y => (R.ofO (op x y)).bind fun d => .ok (.nx (r.set i (.sh d)))
  | _ => .stk
def OpIp (X : Cx) (r : TIp) (op : D → D → Option D) : Prop := ∀ (A : Addr → Prop) (H : Hp) (x y : D) (v w : V) (d : D) (Q : VK), AOk A H → op x y = some d → Rep X.K H A x v → RepB X.K H A y w →
  (∀ u H', Same H H' → Rep X.K H' A d u → Q u H') → r v w H Q
theorem s_aug (i : Nat) {op : Operator} {ti : TIp} {g : D → D → Option D} {p : Pos} {f : Env → R D} (hN : X.N.Nodup) (ho : PIp X op ti) (o : OpIp X ti g) (h : DB X W e f) (hi : X.N[i]? = some x := by rfl) (hx : Loc X.env.scope x := by first | exact Or.inl rfl | exact Or.inr rfl)
    (hf : X.fn x = true ∨ X.env.scope.names.lookup x = some .local := by first | exact .inl rfl | exact .inr rfl) : DS X W (.AugAssign (.Name x p) op e pos) (augS i g f) := by
  obtain ⟨t, pe, w⟩ := h
  refine ⟨_, ps_aug (i := i) hN hi hx pe ho hf, fun F os r σ H D R S => ?_⟩
  unfold augS at S
  split at S
  · rename_i d0 e0
    obtain ⟨v, o', e1, e2, z, u, e3, h0⟩ := R.get e0
    subst e3
    refine ⟨u, e1, w F os r σ H _ R (S.bind.imp fun y S v1 H1 s1 h1 => ?_)⟩
    obtain ⟨d, ed, S⟩ := S.bind.ofO
    have R1 := R.same' s1
    refine o _ H1 d0 y u v1 d _ R1.AOk ed (h0.same s1 R.AOk) h1 fun w2 H2 s2 h2 => ?_
    obtain ⟨R3, k3⟩ := (R1.same' s2).setSh (i := i) h2
    exact S _ _ _ R3 ((Keep.of (s1.trans s2)).trans k3)
  · exact S.elim

/-! ### a slot's own list changes -/
/-- x[k] = e -/
def itmS (i : Nat) (fk : Env → R D) (fe : Env → R D) : Env → R Fl := fun r => (fe r).bind fun d => (R.ofO (ownL r i)).bind fun s => (fk r).bind fun k => (R.ofO (asI k)).bind fun k => (R.ofO (ixN s.2.length k)).bind fun j => .ok (.nx (r.set i (s.1.put (.lst (s.2.set j d)))))
theorem repL_set {K : PySem.W.Frag} {H : Hp} {A : Addr → Prop} {d : D} {v : V} (h2 : Rep K H A d v) : ∀ {ds : List D} {vs : List V} (j : Nat), RepL K H A ds vs → RepL K H A (ds.set j d) (vs.set j v)
  | [], vs, j, h => by
    unfold RepL at h
    subst h
    simp only [List.set_nil]
    unfold RepL; rfl
  | x :: ds, vs, 0, h => by
    unfold RepL at h
    obtain ⟨w, r, e, h1, h3⟩ := h
    subst e
    simp only [List.set_cons_zero]
    unfold RepL
    exact ⟨v, r, rfl, h2, h3⟩
  | x :: ds, vs, j + 1, h => by
    unfold RepL at h
    obtain ⟨w, r, e, h1, h3⟩ := h
    subst e
    simp only [List.set_cons_succ]
    unfold RepL
    exact ⟨w, _, rfl, h1, repL_set h2 j h3⟩
/-- the values of an own list, kept when the list alone changes -/
theorem own_upd {K : PySem.W.Frag} {A : Addr → Prop} {H : Hp} {a : Addr} {o' : HO} {ds : List D} {vs : List V} (ak : AOk A H) (ha : A a) (h : RepL K H A ds vs) : RepL K (upd H a o') A ds vs :=
  RepL.keep (fun b u eb nb => ⟨by rw [upd_ne (fun z => nb (by rw [z]; exact ha))]; exact eb, nb⟩) ak _ _ h
theorem s_item (i : Nat) {ix : Expr} {p p2 : Pos} {fk fe : Env → R D} (h : DP X W e fe) (h2 : DB X W ix fk) (hN : X.N[i]? = some x := by rfl) (hv : Vis X.env.scope x := by first | exact Or.inl rfl | exact Or.inr (Or.inl rfl) | exact Or.inr (Or.inr rfl)) (hd : (x == ("__debug__" : Str)) = false := by decide)
    (hcd : (x == ("__classdict__" : Str)) = false := by decide)
    (ha : ∀ v, assign (.Subscript (.Name x p) ix p2) X.env v = (do
      let ov ← holding [v] (eval (.Name x p) X.env)
      let iv ← holding [v, ov] (eval ix X.env)
      standAt p2
      holding [v, ov, iv] (setItem ov iv v)
      release [v, ov, iv] []) := by intro _; rfl)
    (hs : swapsWithSole [.Subscript (.Name x p) ix p2] e pos.line X.env = pure false := by rfl) (hw : swappedStores [.Subscript (.Name x p) ix p2] e X.env = pure none := by rfl)
    (h1 : (assignEach [.Subscript (.Name x p) ix p2] X.env).map (·.2) = [assign (.Subscript (.Name x p) ix p2) X.env] := by rfl) : DS X W (.Assign [.Subscript (.Name x p) ix p2] e pos) (itmS i fk fe) := by
  obtain ⟨t, pe, w⟩ := h
  obtain ⟨u, pu, z⟩ := h2
  refine ⟨_, ps_asg pe (pg_sub (pe_var (i := i) hN hv hd hcd) pu set_list ha) hs hw h1, fun F os r σ H D R S => w F os r σ H _ R (S.bind.imp fun d S v H1 s1 h1 => ?_)⟩
  have R1 := R.same' s1
  obtain ⟨s0, e0, S⟩ := S.bind.ofO
  obtain ⟨e00, e01⟩ := ownL_ok (s := s0.1) (xs := s0.2) e0
  obtain ⟨a, ea, inA, _⟩ := R1.ownA e00 e01
  refine ⟨_, ea, z F os r σ H1 _ R1 (S.bind.imp fun k S v2 H2 s2 h2 => ?_)⟩
  have R2 := R1.same' s2
  obtain ⟨k', ek, S2⟩ := S.bind.ofO
  clear S
  obtain ⟨j, ej, S3⟩ := S2.bind.ofO
  obtain ⟨a', ea', inA', ys, hy, hr⟩ := R2.ownA e00 e01
  rw [ea] at ea'
  cases ea'
  cases k with
  | int k0 =>
    cases ek
    refine ⟨a, ys, _, j, rfl, h2.int, hy, by rw [repL_length hr]; exact ej, ?_⟩
    have rep' : RepO X.K (upd H2 a (.lst (ys.set j v))) (Av F.A0 os) (.lst (s0.2.set j d)) a := ⟨_, upd_same, own_upd R2.AOk inA (repL_set (h1.same s2 R1.AOk) j hr)⟩
    obtain ⟨R3, k3⟩ := R2.updOwn e00 e01 ea rep'
    exact S3 os σ _ R3 ((Keep.of (s1.trans s2)).trans k3)
  | _ => cases ek
/-- x.append(e) -/
def appS (i : Nat) (fe : Env → R D) : Env → R Fl := fun r => (R.ofO (ownL r i)).bind fun s => (fe r).bind fun d => if s.2.length < sizeLine then .ok (.nx (r.set i (s.1.put (.lst (s.2 ++ [d]))))) else .stk
theorem s_append (i : Nat) {p apos cpos : Pos} {fe : Env → R D} (h : DP X W e fe) (hN : X.N[i]? = some x := by rfl) (hv : Vis X.env.scope x := by first | exact Or.inl rfl | exact Or.inr (Or.inl rfl) | exact Or.inr (Or.inr rfl)) (hd : (x == ("__debug__" : Str)) = false := by decide)
    (hcd : (x == ("__classdict__" : Str)) = false := by decide)
    (hbase : attributeBase (.Name x p) "append" X.env (eval (.Name x p) X.env) = eval (.Name x p) X.env := by rfl)
    (hfew : ((backTo cpos (starEach [e] X.env)).all (fun x => !x.1) && (backToKw cpos (keywordEach [] X.env)).all (fun x => x.1.isSome)
      && decide ([e].length + ([] : List Keyword).length + (if ([] : List Keyword).isEmpty then 0 else 1) < 30)) = true := by rfl)
    (hline : (apos.endLine == cpos.line) = true := by rfl) (he : starEach [e] X.env = [(false, eval e X.env)] := by rfl)
    (hs : swapsWith (.Call (.Attribute (.Name x p) "append" apos) [e] [] cpos) none pos.line X.env = pure false := by rfl) :
    DS X W (.Expr (.Call (.Attribute (.Name x p) "append" apos) [e] [] cpos) pos) (appS i fe) := by
  obtain ⟨t, pe, w⟩ := h
  refine ⟨_, ps_expr (pe_bm PySem.F.plainAttrs_list PySem.F.slot_list_append PySem.F.type_list_append mt_append (pe_var (i := i) hN hv hd hcd) (pa_cons pe pa_nil he) hbase hfew hline he rfl) hs, fun F os r σ H D R S => ?_⟩
  obtain ⟨s0, e0, S⟩ := S.bind.ofO
  obtain ⟨e00, e01⟩ := ownL_ok (s := s0.1) (xs := s0.2) e0
  obtain ⟨a, ea, inA, ys, hy, hr⟩ := R.ownA e00 e01
  refine ⟨_, ea, .inl ⟨rfl, ys, SqL.of hy⟩, w F os r σ H _ R (S.bind.imp fun d S v H1 s1 h1 => ?_)⟩
  have R1 := R.same' s1
  obtain ⟨a', ea', inA', ys', hy', hr'⟩ := R1.ownA e00 e01
  rw [ea] at ea'
  cases ea'
  by_cases hl : s0.2.length < sizeLine
  · rw [if_pos hl] at S
    refine ⟨a, ys', v, rfl, rfl, hy', by rw [repL_length hr']; exact hl, ?_⟩
    have rep' : RepO X.K (upd H1 a (.lst (ys' ++ [v]))) (Av F.A0 os) (.lst (s0.2 ++ [d])) a := ⟨_, upd_same, own_upd R1.AOk inA (repL_append hr' (by unfold RepL; exact ⟨v, [], rfl, h1, by unfold RepL; rfl⟩))⟩
    obtain ⟨R3, k3⟩ := R1.updOwn e00 e01 ea rep'
    exact S os σ _ R3 ((Keep.of s1).trans k3)
  · rw [if_neg hl] at S
    exact S.elim
/-- from here on the list is a value as others -/
@[simp] def frz1 (i : Nat) (r : Env) : Env := match r[i]? with
  | some (.own d) => r.set i (.sh d)
  | _ => r
theorem s_frz (i : Nat) {f : Env → R Fl} (h : DSs X W sts f) : DSs X W sts (fun r => f (frz1 i r)) := by
  obtain ⟨t, p, w⟩ := h
  refine ⟨t, p, fun F os r σ H D R S => ?_⟩
  cases q : r[i]? with
  | none =>
    have e1 : frz1 i r = r := by unfold frz1; rw [q]
    simp only [e1] at S
    exact w F os r σ H D R S
  | some sl =>
    cases sl with
    | own d =>
      have e1 : frz1 i r = r.set i (.sh d) := by unfold frz1; rw [q]
      simp only [e1] at S
      obtain ⟨R1, k1, _⟩ := R.freeze q
      exact w F _ _ σ H D R1 (S.imp fun fl q => q.from k1)
    | sh d =>
      have e1 : frz1 i r = r := by unfold frz1; rw [q]
      simp only [e1] at S
      exact w F os r σ H D R S
    | io d =>
      have e1 : frz1 i r = r := by unfold frz1; rw [q]
      simp only [e1] at S
      exact w F os r σ H D R S
    | un =>
      have e1 : frz1 i r = r := by unfold frz1; rw [q]
      simp only [e1] at S
      exact w F os r σ H D R S
end
end DL

namespace DL
open PySem L2

/-! ### what is walked -/
/-- J gives the items, while G holds (of what a slot owns, and the heap) -/
structure Src (K : PySem.W.Frag) (J : It) (items : List D) (G : (Addr → Prop) → Hp → Prop) : Prop where
  keep : ∀ (A A' : Addr → Prop) (H H' : Hp), AOk A H → Keep A A' H H' → G A H → G A' H'
  goes : ∀ (A : Addr → Prop) (i : Nat) (H : Hp), AOk A H → i < items.length → G A H → J.go i H
  stops : ∀ (A : Addr → Prop) (H : Hp), AOk A H → G A H → J.stop items.length H
  yields : ∀ (A : Addr → Prop) (i : Nat) (H : Hp) (x : V) (H' : Hp), AOk A H → i < items.length → G A H → J.yld i H x H' → Same H H' ∧ ∃ d, items[i]? = some d ∧ Rep K H' A d x
structure DI (X : Cx) (W : WX) (tg iter : Expr) (f : Env → R (List D × Env)) : Prop where
  ex : ∃ t, PI X tg iter t ∧ ∀ (F : Fm) (os : List (Option Addr)) (r : Env) (σ : St) (H : Hp) (Q : It → Hp → Prop), Rel X.K F os r σ H →
    Sat (fun p => ∀ J H' G, Src X.K J p.1 G → Rel X.K F os p.2 σ H' → Keep (Av F.A0 os) (Av F.A0 os) H H' → G (Av F.A0 os) H' → Q J H') (Er X W F) (f r) → t σ H Q
def cI (K : PySem.W.Frag) (mg : Str → Option Value) (W : WX) (f : Env → R (List D × Env)) : TI := fun σ H Q => ∃ F os r, Rel K F os r σ H ∧
  Sat (fun p => ∀ J H' G, Src K J p.1 G → Rel K F os p.2 σ H' → Keep (Av F.A0 os) (Av F.A0 os) H H' → G (Av F.A0 os) H' → Q J H') (ErK K mg W F) (f r)
theorem DI.can {X : Cx} {W : WX} {tg iter : Expr} {f : Env → R (List D × Env)} (h : DI X W tg iter f) : PI X tg iter (cI X.K X.mg W f) := by
  obtain ⟨t, pe, w⟩ := h
  exact ⟨fun pins s σ H Q I ⟨F, os, r, R, S⟩ => pe.run pins s σ H Q I (w F os r σ H Q R S)⟩
section
variable {X : Cx} {W : WX} {e tg : Expr} {es : List Expr} {pos p : Pos}
theorem src_list {K : PySem.W.Frag} {a : Addr} {ds : List D} : Src K (Itl K a) ds (fun A H => Rep K H A (.lst ds) (.ref a)) := by
  have rd : ∀ {A : Addr → Prop} {H : Hp}, Rep K H A (.lst ds) (.ref a) → ∃ xs, SqL K H a xs ∧ RepL K H A ds xs := fun {A H} h => by
    obtain ⟨b, xs, e, h1, h2⟩ := RepB.lst (.inl h)
    cases e
    exact ⟨xs, h1, h2⟩
  refine ⟨fun A A' H H' ak k h => Rep.keep k ak _ _ h, fun A i H ak hi h => ?_, fun A H ak h => ?_, fun A i H x H' ak hi h y => ?_⟩
  · obtain ⟨xs, h1, h2⟩ := rd h
    obtain ⟨v, h3, _⟩ := repL_get h2 (List.getElem?_eq_getElem hi)
    exact ⟨xs, v, h1, h3⟩
  · obtain ⟨xs, h1, h2⟩ := rd h
    exact ⟨xs, h1, by rw [repL_length h2]; exact Nat.le_refl _⟩
  · obtain ⟨xs, h1, h2⟩ := rd h
    obtain ⟨e1, y⟩ := y
    subst e1
    obtain ⟨v, h3, h4⟩ := repL_get h2 (List.getElem?_eq_getElem hi)
    have e3 := y xs h1
    rw [h3] at e3
    cases e3
    exact ⟨Same.refl _, _, List.getElem?_eq_getElem hi, h4⟩
theorem src_tup {K : PySem.W.Frag} {a : Addr} {ds : List D} : Src K (Itt K a) ds (fun A H => Rep K H A (.tup ds) (.ref a)) := by
  have rd : ∀ {A : Addr → Prop} {H : Hp}, Rep K H A (.tup ds) (.ref a) → ∃ xs, SqT K H a xs ∧ RepL K H A ds xs := fun {A H} h => by
    obtain ⟨b, xs, e, h1, h2⟩ := RepB.tup (.inl h)
    cases e
    exact ⟨xs, h1, h2⟩
  refine ⟨fun A A' H H' ak k h => Rep.keep k ak _ _ h, fun A i H ak hi h => ?_, fun A H ak h => ?_, fun A i H x H' ak hi h y => ?_⟩
  · obtain ⟨xs, h1, h2⟩ := rd h
    obtain ⟨v, h3, _⟩ := repL_get h2 (List.getElem?_eq_getElem hi)
    exact ⟨xs, v, h1, h3⟩
  · obtain ⟨xs, h1, h2⟩ := rd h
    exact ⟨xs, h1, by rw [repL_length h2]; exact Nat.le_refl _⟩
  · obtain ⟨xs, h1, h2⟩ := rd h
    obtain ⟨e1, y⟩ := y
    subst e1
    obtain ⟨v, h3, h4⟩ := repL_get h2 (List.getElem?_eq_getElem hi)
    have e3 := y xs h1
    rw [h3] at e3
    cases e3
    exact ⟨Same.refl _, _, List.getElem?_eq_getElem hi, h4⟩
/-- the ints lo, lo + 1, .. -/
def rngL (lo : Int) (n : Nat) : List D := (List.range n).map fun i => D.int (lo + (i : Nat))
theorem rngL_length (lo : Int) (n : Nat) : (rngL lo n).length = n := by simp [rngL]
theorem src_range {K : PySem.W.Frag} {lo : Int} {n : Nat} : Src K (Itr lo n) (rngL lo n) (fun _ _ => True) := by
  refine ⟨fun _ _ _ _ _ _ h => h, fun A i H ak hi h => ?_, fun A H ak h => ?_, fun A i H x H' ak hi h y => ?_⟩
  · rw [rngL_length] at hi
    exact hi
  · rw [rngL_length]
    exact Nat.le_refl _
  · obtain ⟨e1, e2⟩ := y
    subst e1 e2
    rw [rngL_length] at hi
    exact ⟨Same.refl _, .int (lo + (i : Nat)), by simp [rngL, hi], rep_int⟩
/-- the signs of a text -/
def sgs (z : Str) : List D := z.cps.toList.map fun c => D.str ⟨#[c]⟩
theorem src_str {K : PySem.W.Frag} {z : Str} : Src K (Its z) (sgs z) (fun _ _ => True) := by
  have hl : (sgs z).length = z.cps.size := by simp [sgs]
  refine ⟨fun _ _ _ _ _ _ h => h, fun A i H ak hi h => ?_, fun A H ak h => ?_, fun A i H x H' ak hi h y => ?_⟩
  · rw [hl] at hi
    exact hi
  · rw [hl]
    exact Nat.le_refl _
  · obtain ⟨e1, c, e2, e3⟩ := y
    subst e1 e3
    refine ⟨Same.refl _, .str ⟨#[c]⟩, ?_, rep_str⟩
    unfold sgs
    rw [List.getElem?_map]
    have : z.cps.toList[i]? = some c := by rw [Array.getElem?_toList]; exact e2
    rw [this]
    rfl
@[simp] def itL (f : Env → R (D × Env)) : Env → R (List D × Env) := fun r => (f r).bind fun p => match p.1 with
  | .lst ds => .ok (ds, p.2)
  | _ => .stk
@[simp] def itT (f : Env → R (D × Env)) : Env → R (List D × Env) := fun r => (f r).bind fun p => match p.1 with
  | .tup ds => .ok (ds, p.2)
  | _ => .stk
@[simp] def itS (f : Env → R (D × Env)) : Env → R (List D × Env) := fun r => (f r).bind fun p => match p.1 with
  | .str z => .ok (sgs z, p.2)
  | _ => .stk
theorem i_list {f : Env → R (D × Env)} (h : DE X W e f) : DI X W tg e (itL f) := by
  obtain ⟨t, pe, w⟩ := h
  refine ⟨_, pi_list pe, fun F os r σ H Q R S => w F os r σ H _ R (S.bind.imp fun q S v H1 R1 k1 h1 => ?_)⟩
  obtain ⟨d, r1⟩ := q
  cases d with
  | lst ds =>
    obtain ⟨a, xs, e1, h2, h3⟩ := RepB.lst (.inl h1)
    subst e1
    exact ⟨a, rfl, ⟨xs, h2⟩, S _ H1 _ src_list R1 k1 h1⟩
  | _ => exact S.elim
theorem i_tup {f : Env → R (D × Env)} (h : DE X W e f) : DI X W tg e (itT f) := by
  obtain ⟨t, pe, w⟩ := h
  refine ⟨_, pi_tup pe, fun F os r σ H Q R S => w F os r σ H _ R (S.bind.imp fun q S v H1 R1 k1 h1 => ?_)⟩
  obtain ⟨d, r1⟩ := q
  cases d with
  | tup ds =>
    obtain ⟨a, xs, e1, h2, h3⟩ := RepB.tup (.inl h1)
    subst e1
    exact ⟨a, rfl, ⟨xs, h2⟩, S _ H1 _ src_tup R1 k1 h1⟩
  | _ => exact S.elim
theorem i_str {f : Env → R (D × Env)} (h : DE X W e f) : DI X W tg e (itS f) := by
  obtain ⟨t, pe, w⟩ := h
  refine ⟨_, pi_str pe, fun F os r σ H Q R S => w F os r σ H _ R (S.bind.imp fun q S v H1 R1 k1 h1 => ?_)⟩
  obtain ⟨d, r1⟩ := q
  cases d with
  | str z =>
    rw [RepB.str (.inl h1)]
    exact ⟨z, rfl, S _ H1 _ src_str R1 k1 trivial⟩
  | _ => exact S.elim
@[simp] def itR1 (g : Env → R (List D × Env)) : Env → R (List D × Env) := fun r => (g r).bind fun p => match p.1 with
  | [.int j] => if -(2 ^ 62) ≤ j ∧ j < 2 ^ 62 then .ok (rngL 0 j.toNat, p.2) else .stk
  | _ => .stk
@[simp] def itR2 (g : Env → R (List D × Env)) : Env → R (List D × Env) := fun r => (g r).bind fun p => match p.1 with
  | [.int i, .int j] => if -(2 ^ 62) ≤ i ∧ i < 2 ^ 62 ∧ -(2 ^ 62) ≤ j ∧ j < 2 ^ 62 then .ok (rngL i (j - i).toNat, p.2) else .stk
  | _ => .stk
theorem i_range1 {g : Env → R (List D × Env)} (hg : Gl X "range") (hm : X.mg "range" = none) (h : DEs X W [e] g) (hs : starEach [e] X.env = [(false, eval e X.env)] := by rfl) : DI X W tg (.Call (.Name "range" p) [e] [] pos) (itR1 g) := by
  obtain ⟨t, pe, w⟩ := h
  refine ⟨_, pi_range1 hg hm pe hs, fun F os r σ H Q R S => w F os r σ H _ R (S.bind.imp fun q S vs H1 R1 k1 h1 => ?_)⟩
  obtain ⟨ds, r1⟩ := q
  match ds, S, h1 with
  | [.int j], S, h1 =>
    unfold RepL at h1
    obtain ⟨v, rs, e1, h3, h4⟩ := h1
    unfold RepL at h4
    subst h4 e1
    unfold Rep at h3
    subst h3
    by_cases hj : -(2 ^ 62) ≤ j ∧ j < 2 ^ 62
    · simp only [if_pos hj] at S
      exact ⟨j, rfl, hj.1, hj.2, S _ H1 _ src_range R1 k1 trivial⟩
    · simp only [if_neg hj] at S
      exact S.elim
theorem i_range2 {a b : Expr} {g : Env → R (List D × Env)} (hg : Gl X "range") (hm : X.mg "range" = none) (h : DEs X W [a, b] g) (hs : starEach [a, b] X.env = [(false, eval a X.env), (false, eval b X.env)] := by rfl) (hs2 : starEach [b] X.env = [(false, eval b X.env)] := by rfl) :
    DI X W tg (.Call (.Name "range" p) [a, b] [] pos) (itR2 g) := by
  obtain ⟨t, pe, w⟩ := h
  refine ⟨_, pi_range2 hg hm pe hs hs2, fun F os r σ H Q R S => w F os r σ H _ R (S.bind.imp fun q S vs H1 R1 k1 h1 => ?_)⟩
  obtain ⟨ds, r1⟩ := q
  match ds, S, h1 with
  | [.int i, .int j], S, h1 =>
    unfold RepL at h1
    obtain ⟨v, rs, e1, h3, h4⟩ := h1
    unfold RepL at h4
    obtain ⟨v2, rs2, e2, h5, h6⟩ := h4
    unfold RepL at h6
    subst h6 e2 e1
    unfold Rep at h3 h5
    subst h3 h5
    by_cases hj : -(2 ^ 62) ≤ i ∧ i < 2 ^ 62 ∧ -(2 ^ 62) ≤ j ∧ j < 2 ^ 62
    · simp only [if_pos hj] at S
      exact ⟨i, j, rfl, hj, S _ H1 _ src_range R1 k1 trivial⟩
    · simp only [if_neg hj] at S
      exact S.elim

/-! the same, the slots staying as they are -/
structure DIp (X : Cx) (W : WX) (tg iter : Expr) (f : Env → R (List D)) : Prop where
  ex : ∃ t, PI X tg iter t ∧ ∀ (F : Fm) (os : List (Option Addr)) (r : Env) (σ : St) (H : Hp) (Q : It → Hp → Prop), Rel X.K F os r σ H →
    Sat (fun items => ∀ J H' G, Src X.K J items G → Same H H' → G (Av F.A0 os) H' → Q J H') (Er X W F) (f r) → t σ H Q
def cIp (K : PySem.W.Frag) (mg : Str → Option Value) (W : WX) (f : Env → R (List D)) : TI := fun σ H Q => ∃ F os r, Rel K F os r σ H ∧
  Sat (fun items => ∀ J H' G, Src K J items G → Same H H' → G (Av F.A0 os) H' → Q J H') (ErK K mg W F) (f r)
theorem DIp.can {f : Env → R (List D)} (h : DIp X W tg e f) : PI X tg e (cIp X.K X.mg W f) := by
  obtain ⟨t, pe, w⟩ := h
  exact ⟨fun pins s σ H Q I ⟨F, os, r, R, S⟩ => pe.run pins s σ H Q I (w F os r σ H Q R S)⟩
theorem DIp.toI {f : Env → R (List D)} (h : DIp X W tg e f) : DI X W tg e (withEnv f) := by
  obtain ⟨t, pe, w⟩ := h
  exact ⟨t, pe, fun F os r σ H Q R S => w F os r σ H Q R (S.bind.imp fun d q J H' G src s g => q J H' G src (R.same' s) (Keep.of s) g)⟩
@[simp] def asL : D → Option (List D)
  | .lst ds => some ds
  | _ => none
@[simp] def asT : D → Option (List D)
  | .tup ds => some ds
  | _ => none
@[simp] def asS : D → Option (List D)
  | .str z => some (sgs z)
  | _ => none
@[simp] def itX (p : D → Option (List D)) (f : Env → R D) : Env → R (List D) := fun r => (f r).bind fun d => R.ofO (p d)
theorem p_list {f : Env → R D} (h : DP X W e f) : DIp X W tg e (itX asL f) := by
  obtain ⟨t, pe, w⟩ := h
  refine ⟨_, pi_list pe, fun F os r σ H Q R S => w F os r σ H _ R (S.bind.imp fun q S v H1 s1 h1 => ?_)⟩
  cases q with
  | lst ds =>
    obtain ⟨a, xs, e1, h2, h3⟩ := RepB.lst (.inl h1)
    subst e1
    exact ⟨a, rfl, ⟨xs, h2⟩, S _ H1 _ src_list s1 h1⟩
  | _ => exact S.elim
theorem p_tup {f : Env → R D} (h : DP X W e f) : DIp X W tg e (itX asT f) := by
  obtain ⟨t, pe, w⟩ := h
  refine ⟨_, pi_tup pe, fun F os r σ H Q R S => w F os r σ H _ R (S.bind.imp fun q S v H1 s1 h1 => ?_)⟩
  cases q with
  | tup ds =>
    obtain ⟨a, xs, e1, h2, h3⟩ := RepB.tup (.inl h1)
    subst e1
    exact ⟨a, rfl, ⟨xs, h2⟩, S _ H1 _ src_tup s1 h1⟩
  | _ => exact S.elim
theorem p_str {f : Env → R D} (h : DP X W e f) : DIp X W tg e (itX asS f) := by
  obtain ⟨t, pe, w⟩ := h
  refine ⟨_, pi_str pe, fun F os r σ H Q R S => w F os r σ H _ R (S.bind.imp fun q S v H1 s1 h1 => ?_)⟩
  cases q with
  | str z =>
    rw [RepB.str (.inl h1)]
    exact ⟨z, rfl, S _ H1 _ src_str s1 trivial⟩
  | _ => exact S.elim
def rg1 : List D → Option (List D)
  | [.int j] => if -(2 ^ 62) ≤ j ∧ j < 2 ^ 62 then some (rngL 0 j.toNat) else none
  | _ => none
def rg2 : List D → Option (List D)
  | [.int i, .int j] => if -(2 ^ 62) ≤ i ∧ i < 2 ^ 62 ∧ -(2 ^ 62) ≤ j ∧ j < 2 ^ 62 then some (rngL i (j - i).toNat) else none
  | _ => none
@[simp] def itN (p : List D → Option (List D)) (g : Env → R (List D)) : Env → R (List D) := fun r => (g r).bind fun d => R.ofO (p d)
theorem rep_intB {K : PySem.W.Frag} {H : Hp} {A : Addr → Prop} {i : Int} {v : V} (h : RepB K H A (.int i) v) : v = .int i := h.int
theorem p_range1 {g : Env → R (List D)} (hg : Gl X "range") (hm : X.mg "range" = none) (h : DBs X W [e] g) (hs : starEach [e] X.env = [(false, eval e X.env)] := by rfl) : DIp X W tg (.Call (.Name "range" p) [e] [] pos) (itN rg1 g) := by
  obtain ⟨t, pe, w⟩ := h
  refine ⟨_, pi_range1 hg hm pe hs, fun F os r σ H Q R S => w F os r σ H _ R (S.bind.imp fun ds S vs H1 s1 h1 => ?_)⟩
  obtain ⟨items, ei, S⟩ := S.ofO
  unfold rg1 at ei
  split at ei
  · rename_i j
    obtain ⟨v, e1, h3⟩ := rep1 h1
    subst e1
    split at ei
    · rename_i hj
      cases ei
      rw [h3.int]
      exact ⟨j, rfl, hj.1, hj.2, S _ H1 _ src_range s1 trivial⟩
    · cases ei
  · cases ei
theorem p_range2 {a b : Expr} {g : Env → R (List D)} (hg : Gl X "range") (hm : X.mg "range" = none) (h : DBs X W [a, b] g) (hs : starEach [a, b] X.env = [(false, eval a X.env), (false, eval b X.env)] := by rfl) (hs2 : starEach [b] X.env = [(false, eval b X.env)] := by rfl) :
    DIp X W tg (.Call (.Name "range" p) [a, b] [] pos) (itN rg2 g) := by
  obtain ⟨t, pe, w⟩ := h
  refine ⟨_, pi_range2 hg hm pe hs hs2, fun F os r σ H Q R S => w F os r σ H _ R (S.bind.imp fun ds S vs H1 s1 h1 => ?_)⟩
  obtain ⟨items, ei, S⟩ := S.ofO
  unfold rg2 at ei
  split at ei
  · rename_i i j
    obtain ⟨v, u, e1, h3, h4⟩ := rep2 h1
    subst e1
    split at ei
    · rename_i hj
      cases ei
      rw [h3.int, h4.int]
      exact ⟨i, j, rfl, hj, S _ H1 _ src_range s1 trivial⟩
    · cases ei
  · cases ei

/-! ### for -/
def forD (g : D → Env → R Env) (b : Env → R Fl) : List D → Env → R Fl
  | [], r => .ok (.nx r)
  | x :: xs, r => (g x r).bind fun r1 => (b r1).bind fun fl => match fl with
    | .nx r2 => forD g b xs r2
    | .ct r2 => forD g b xs r2
    | .bk r2 => .ok (.nx r2)
    | .rt d r2 => .ok (.rt d r2)
def forS (f : Env → R (List D × Env)) (g : D → Env → R Env) (b : Env → R Fl) : Env → R Fl := fun r => (f r).bind fun p => forD g b p.1 p.2
theorem s_for {iter : Expr} {ks : List Nat} {body : List Stmt} {f : Env → R (List D × Env)} {g : D → Env → R Env} {b : Env → R Fl} (hp : PassesOwn (model X.prog X.w) X.A X.env X.xe) (hc : X.calm = true) (hi : DI X W tg iter f) (hg : DG X W ks tg g) (hb : DSs X W body b)
    (hs : ∀ x, foldedSetIterable iter X.env x = pure x := by intro _; rfl) : DS X W (.For tg iter body [] pos) (forS f g b) := by
  obtain ⟨ti, pi, wi⟩ := hi
  obtain ⟨tG, pg, wg⟩ := hg
  obtain ⟨tb, pb, wb⟩ := hb
  refine ⟨_, ps_for hp hc pi pg pb hs, fun F os r σ H D R S => wi F os r σ H _ R (S.bind.imp fun q S J H1 G src R1 k1 g1 => ?_)⟩
  obtain ⟨items, r1⟩ := q
  have wk : Walk J items.length (fun H => ∃ A, AOk A H ∧ G A H) (fun i H x H' => i < items.length ∧ J.yld i H x H') :=
    ⟨fun i H hi ⟨A, ak, h⟩ => src.goes A i H ak hi h, fun H ⟨A, ak, h⟩ => src.stops A H ak h, fun i H x H' hi _ y => ⟨hi, y⟩⟩
  refine for_it wk (fun i σ' H' => ∃ os' r', Rel X.K F os' r' σ' H' ∧ Keep (Av F.A0 os) (Av F.A0 os') H1 H' ∧ G (Av F.A0 os') H' ∧ Sat (SPost X.K F os H D) (Er X W F) (forD g b (items.drop i) r')) ⟨os, r1, R1, Keep.refl, g1, S⟩ ?_ ?_ ?_
  · rintro i σ' H' hi ⟨os', r', R', k', g', S'⟩
    exact ⟨_, R'.AOk, g'⟩
  · rintro i x σ' H2 H3 hi ⟨os', r', R', k', g', S'⟩ ⟨_, y⟩
    obtain ⟨s3, d, ed, hd⟩ := src.yields _ i H2 x H3 R'.AOk hi g' y
    have ei : items.drop i = d :: items.drop (i + 1) := by
      rw [List.drop_eq_getElem_cons hi]
      rw [List.getElem?_eq_getElem hi] at ed
      cases ed
      rfl
    rw [ei] at S'
    have S'' : Sat (SPost X.K F os H D) (Er X W F) ((g d r').bind fun r1 => (b r1).bind fun fl => match fl with
      | .nx r2 => forD g b (items.drop (i + 1)) r2
      | .ct r2 => forD g b (items.drop (i + 1)) r2
      | .bk r2 => .ok (.nx r2)
      | .rt d r2 => .ok (.rt d r2)) := S'
    have R3 := R'.same' s3
    have g3 := src.keep _ _ _ _ R'.AOk (Keep.of s3) g'
    refine wg F os' r' σ' H3 x d _ R3 hd (S''.bind.imp fun r4 S4 os4 σ4 H4 R4 k4 _ _ => ?_)
    have g4 := src.keep _ _ _ _ R3.AOk k4 g3
    have k14 : Keep (Av F.A0 os) (Av F.A0 os4) H1 H4 := (k'.trans (Keep.of s3)).trans k4
    refine wb F os4 r4 σ4 H4 _ R4 (S4.bind.imp fun fl S5 => ?_)
    cases fl with
    | nx r5 => exact fun os5 σ5 H5 R5 k5 => ⟨os5, r5, R5, k14.trans k5, src.keep _ _ _ _ R4.AOk k5 g4, S5⟩
    | ct r5 => exact fun os5 σ5 H5 R5 k5 => ⟨os5, r5, R5, k14.trans k5, src.keep _ _ _ _ R4.AOk k5 g4, S5⟩
    | bk r5 => exact fun os5 σ5 H5 R5 k5 => S5 os5 σ5 H5 R5 (k1.trans (k14.trans k5))
    | rt d r5 => exact fun os5 v σ5 H5 R5 h5 => S5 os5 v σ5 H5 R5 h5
  · rintro σ' H' ⟨os', r', R', k', g', S'⟩
    rw [List.drop_length] at S'
    exact S' os' σ' H' R' (k1.trans k')

/-! ### while: n bounds the turns -/
def whlD (c : Env → R (Bool × Env)) (b : Env → R Fl) : Nat → Env → R Fl
  | 0, _ => .stk
  | n + 1, r => (c r).bind fun p => if p.1 = true then (b p.2).bind fun fl => match fl with
    | .nx r2 => whlD c b n r2
    | .ct r2 => whlD c b n r2
    | .bk r2 => .ok (.nx r2)
    | .rt d r2 => .ok (.rt d r2)
    else .ok (.nx p.2)
@[simp] def whlS (n : Env → Nat) (c : Env → R (Bool × Env)) (b : Env → R Fl) : Env → R Fl := fun r => whlD c b (n r) r
theorem s_while {body : List Stmt} {c : Env → R (Bool × Env)} {b : Env → R Fl} (n : Env → Nat) (hp : PassesOwn (model X.prog X.w) X.A X.env X.xe) (hc : DTE X W e c) (hb : DSs X W body b) : DS X W (.While e body [] pos) (whlS n c b) := by
  obtain ⟨tc, pc, wc⟩ := hc
  obtain ⟨tb, pb, wb⟩ := hb
  refine ⟨_, ps_while hp pc pb, fun F os r σ H D R S => ?_⟩
  refine ⟨fun m σ' H' => ∃ os' r', Rel X.K F os' r' σ' H' ∧ Keep (Av F.A0 os) (Av F.A0 os') H H' ∧ Sat (SPost X.K F os H D) (Er X W F) (whlD c b m r'), ⟨n r, os, r, R, Keep.refl, S⟩, ?_⟩
  rintro m σ' H' ⟨os', r', R', k', S'⟩
  cases m with
  | zero => exact S'.elim
  | succ m =>
    have S'' : Sat (SPost X.K F os H D) (Er X W F) ((c r').bind fun p => if p.1 = true then (b p.2).bind fun fl => match fl with
      | .nx r2 => whlD c b m r2
      | .ct r2 => whlD c b m r2
      | .bk r2 => .ok (.nx r2)
      | .rt d r2 => .ok (.rt d r2)
      else .ok (.nx p.2)) := S'
    refine wc F os' r' σ' H' _ R' (S''.bind.imp fun q S1 H1 R1 k1 => ?_)
    obtain ⟨bb, r1⟩ := q
    cases bb with
    | false => exact S1 os' σ' H1 R1 (k'.trans k1)
    | true =>
      simp only [if_true] at S1 ⊢
      refine ⟨fun σ2 H2 => ∃ os2 r2, Rel X.K F os2 r2 σ2 H2 ∧ Keep (Av F.A0 os) (Av F.A0 os2) H H2 ∧ Sat (SPost X.K F os H D) (Er X W F) (whlD c b m r2), fun σ2 H2 h => ⟨m, Nat.lt_succ_self m, h⟩, ?_⟩
      refine wb F os' r1 σ' H1 _ R1 (S1.bind.imp fun fl S5 => ?_)
      have k01 := k'.trans k1
      cases fl with
      | nx r5 => exact fun os5 σ5 H5 R5 k5 => ⟨os5, r5, R5, k01.trans k5, S5⟩
      | ct r5 => exact fun os5 σ5 H5 R5 k5 => ⟨os5, r5, R5, k01.trans k5, S5⟩
      | bk r5 => exact fun os5 σ5 H5 R5 k5 => S5 os5 σ5 H5 R5 (k01.trans k5)
      | rt d r5 => exact fun os5 v σ5 H5 R5 h5 => S5 os5 v σ5 H5 R5 h5
end
end DL

namespace DL
open PySem L2

/-! ### list comprehensions that change nothing -/
def wipeE (r : Env) : List Nat → Env
  | [] => r
  | v :: vs => (wipeE r vs).set v .un
def lcP (g : D → Env → R Env) (c : Env → R Bool) (f : Env → R D) (r0 : Env) : List D → R (List D)
  | [] => .ok []
  | x :: xs => (R.ne (g x r0)).bind fun r1 => (R.ne (c r1)).bind fun b => if b = true then (R.ne (f r1)).bind fun d => (lcP g c f r0 xs).bind fun ds => .ok (d :: ds) else lcP g c f r0 xs
@[simp] def lcV (vs : List Nat) (h : Env → R (List D)) (g : D → Env → R Env) (c : Env → R Bool) (f : Env → R D) : Env → R D := fun r => (h r).bind fun items => if items.length ≤ sizeLine then (lcP g c f (wipeE r vs) items).bind fun ds => .ok (.lst ds) else .stk
@[simp] def yesB : Env → R Bool := fun _ => .ok true
theorem Sat.ne {α : Type} {p : α → Prop} {q : Ex → Env → Prop} {r : R α} (h : Sat p q (R.ne r)) {q' : Ex → Env → Prop} : Sat p q' r := by
  cases r with
  | ok a => exact h
  | err x e => exact h.elim
  | stk => exact h
theorem Sat.neB {α β : Type} {p : β → Prop} {q q' : Ex → Env → Prop} {r : R α} {g : α → R β} (h : Sat p q ((R.ne r).bind g)) : Sat (fun a => Sat p q (g a)) q' r := by
  cases r with
  | ok a => exact h
  | err x e => exact h.elim
  | stk => exact h
def cG (K : PySem.W.Frag) (mg : Str → Option Value) (W : WX) (ks : List Nat) (g : D → Env → R Env) : TG := fun v σ H Q => ∃ F os r d, Rel K F os r σ H ∧ Rep K H (Av F.A0 os) d v ∧
  Sat (fun r' => ∀ os' σ' H', Rel K F os' r' σ' H' → Keep (Av F.A0 os) (Av F.A0 os') H H' → Same H H' → Off ks σ σ' os os' → Q σ' H') (ErK K mg W F) (g d r)
theorem DG.can {X : Cx} {W : WX} {ks : List Nat} {tg : Expr} {g : D → Env → R Env} (h : DG X W ks tg g) : PG X tg (cG X.K X.mg W ks g) := by
  obtain ⟨t, pe, w⟩ := h
  exact ⟨fun pins s σ H v u Q I rv ⟨F, os, r, d, R, rd, S⟩ => pe.run pins s σ H v u Q I rv (w F os r σ H v d Q R rd S)⟩
def cP (K : PySem.W.Frag) (mg : Str → Option Value) (W : WX) (f : Env → R D) : TE := fun σ H Q => ∃ F os r, Rel K F os r σ H ∧
  Sat (fun d => ∀ v H', Same H H' → Rep K H' (Av F.A0 os) d v → Q v H') (ErK K mg W F) (f r)
theorem DP.can {X : Cx} {W : WX} {e : Expr} {f : Env → R D} (h : DP X W e f) : PE X e (cP X.K X.mg W f) := by
  obtain ⟨t, pe, w⟩ := h
  exact ⟨fun pins s σ H Q I ⟨F, os, r, R, S⟩ => pe.run pins s σ H Q I (w F os r σ H Q R S)⟩
def cTp (K : PySem.W.Frag) (mg : Str → Option Value) (W : WX) (f : Env → R Bool) : TT := fun σ H Q => ∃ F os r, Rel K F os r σ H ∧
  Sat (fun b => ∀ H', Same H H' → Q b H') (ErK K mg W F) (f r)
/-- a clause's tests -/
structure DC (X : Cx) (W : WX) (ifs : List Expr) (f : Env → R Bool) : Prop where
  ex : ∃ t, PTs X ifs t ∧ ∀ (F : Fm) (os : List (Option Addr)) (r : Env) (σ : St) (H : Hp) (Q : Bool → Hp → Prop), Rel X.K F os r σ H →
    Sat (fun b => ∀ H', Same H H' → Q b H') (Er X W F) (f r) → t σ H Q
theorem DC.can {X : Cx} {W : WX} {ifs : List Expr} {f : Env → R Bool} (h : DC X W ifs f) : PTs X ifs (cTp X.K X.mg W f) := by
  obtain ⟨t, pe, w⟩ := h
  exact ⟨fun pins s σ H Q I ⟨F, os, r, R, S⟩ => pe.run pins s σ H Q I (w F os r σ H Q R S)⟩
theorem c_nil {X : Cx} {W : WX} : DC X W [] yesB := ⟨_, pts_nil, fun F os r σ H Q R S => S H (Same.refl H)⟩
theorem c_one {X : Cx} {W : WX} {e : Expr} {f : Env → R Bool} (h : DT X W e f) : DC X W [e] f := by
  obtain ⟨t, pe, w⟩ := h
  exact ⟨_, pts_one pe, w⟩
abbrev WF : WX := fun _ _ _ _ => False
section
variable {K : PySem.W.Frag} {F : Fm} {os : List (Option Addr)} {r : Env} {σ : St} {H H' : Hp}
/-- a new object that is nobody's -/
theorem Rel.ext (R : Rel K F os r σ H) {p : Addr} {o : HO} (n : H p = none) (ho : isT o = false) : Rel K ⟨Ad F.A0 p, F.H0, F.io⟩ os r σ (upd H p o) := by
  have ak := R.AOk
  have np := R.notIn n
  have kp : Keep (Av F.A0 os) (Av (Ad F.A0 p) os) H (upd H p o) := fun b u e nb => ⟨by rw [upd_ne (ne_of_none e n)]; exact e, fun z => by
    rcases z with (z | z) | z
    · exact nb (.inl z)
    · rw [z, n] at e
      cases e
    · exact nb (.inr z)⟩
  refine ⟨R.lens, R.leno, fun i s v u e1 e2 e3 => (R.slot i s v u e1 e2 e3).keep kp ak fun a z => ?_, R.inj, fun i a e z => ?_, fun a z => ?_, fun b u e nb => ?_, R.new⟩
  · subst z
    refine upd_ne fun z => np (.inr ?_)
    rw [← z]
    exact List.mem_of_getElem? e3
  · rcases z with z | z
    · exact R.out i a e z
    · refine np (.inr ?_)
      rw [← z]
      exact List.mem_of_getElem? e
  · rcases z with z | z
    · obtain ⟨u, h1, h2⟩ := R.aok a z
      exact ⟨u, by rw [upd_ne (ne_of_none h1 n)]; exact h1, h2⟩
    · exact ⟨o, by rw [z, upd_same], ho⟩
  · have h1 := R.same b u e nb
    rw [upd_ne (ne_of_none h1 n)]
    exact h1
/-- what nobody holds changes -/
theorem Rel.updA (R : Rel K F os r σ H) {p : Addr} {o : HO} (hp : F.A0 p) (ho : isT o = false) (n : F.H0 p = none ∨ F.io p) : Rel K F os r σ (upd H p o) ∧ Keep (Av F.A0 os) (Av F.A0 os) H (upd H p o) := by
  have ak := R.AOk
  have kp : Keep (Av F.A0 os) (Av F.A0 os) H (upd H p o) := fun b u e nb => ⟨by rw [upd_ne (fun z => nb (.inl (by rw [z]; exact hp)))]; exact e, nb⟩
  refine ⟨⟨R.lens, R.leno, fun i s v u e1 e2 e3 => (R.slot i s v u e1 e2 e3).keep kp ak fun a z => ?_, R.inj, R.out, fun a z => ?_, fun b u e nb => ?_, R.new⟩, kp⟩
  · subst z
    exact upd_ne fun z => R.out i a e3 (by rw [z]; exact hp)
  · by_cases e : a = p
    · subst e
      exact ⟨o, upd_same, ho⟩
    · rw [upd_ne e]
      exact R.aok a z
  · have h1 := R.same b u e nb
    rw [upd_ne (fun z => by
      subst z
      rcases n with n | n
      · rw [n] at e
        cases e
      · exact nb n)]
    exact h1
theorem Rel.wipe (R : Rel K F os r σ H) : ∀ (vs : List Nat), (∀ v ∈ vs, ∀ (s : Slot) (d : D), r[v]? = some s → s.cont ≠ some d) → Rel K F os (wipeE r vs) (L2.wipe σ vs) H
  | [], _ => R
  | v :: vs, hv => by
    have R1 := Rel.wipe R vs fun u hu => hv u (List.mem_cons_of_mem _ hu)
    have hvo : ∀ a, os[v]? ≠ some (some a) := fun a e => by
      obtain ⟨s, d, e1, e2, _⟩ := R.own e
      exact hv v (List.mem_cons_self ..) s d e1 e2
    show Rel K F os ((wipeE r vs).set v .un) ((L2.wipe σ vs).set v none) H
    refine ⟨by simp [R1.lens], by simp [R1.leno], fun i s u o e1 e2 e3 => ?_, R1.inj, R1.out, R1.aok, R1.same, R1.new⟩
    rcases getElem?_set_cases e1 with ⟨e, z1⟩ | ⟨e, e1⟩
    · subst e
      subst z1
      show o = none
      cases o with
      | none => rfl
      | some a => exact absurd e3 (hvo a)
    · rw [List.getElem?_set_ne e] at e2
      exact R1.slot i s u o e1 e2 e3
end
theorem wipe_get {σ : St} {vs : List Nat} {i : Nat} : i ∉ vs → (L2.wipe σ vs)[i]? = σ[i]? := by
  induction vs with
  | nil => intro _; rfl
  | cons v vs ih =>
    intro h
    rw [List.mem_cons, not_or] at h
    unfold L2.wipe
    rw [List.getElem?_set_ne (Ne.symm h.1)]
    exact ih h.2
theorem wipe_in {σ : St} {vs : List Nat} {i : Nat} : i ∈ vs → i < σ.length → (L2.wipe σ vs)[i]? = some none := by
  induction vs with
  | nil => intro h; simp at h
  | cons v vs ih =>
    intro h hl
    unfold L2.wipe
    by_cases e : v = i
    · subst e
      rw [List.getElem?_set_self (by rw [L2.wipe_length]; exact hl)]
    · rw [List.getElem?_set_ne e]
      rcases List.mem_cons.mp h with z | z
      · exact absurd z.symm e
      · exact ih z hl
theorem wipe_off {σ σ2 : St} {o o2 : List (Option Addr)} {vs ks : List Nat} (h : Off ks (L2.wipe σ vs) σ2 o o2) (hk : ∀ k ∈ ks, k ∈ vs) : L2.wipe σ2 vs = L2.wipe σ vs := by
  have hl : σ2.length = σ.length := by rw [h.1, L2.wipe_length]
  refine List.ext_getElem? fun i => ?_
  by_cases hi : i ∈ vs
  · by_cases hn : i < σ.length
    · rw [wipe_in hi hn, wipe_in hi (by omega)]
    · rw [List.getElem?_eq_none (by rw [L2.wipe_length]; omega), List.getElem?_eq_none (by rw [L2.wipe_length]; omega)]
  · rw [wipe_get hi, (h.2 i (fun z => hi (hk i z))).1]
@[simp] def isOwn : Option Slot → Bool
  | some (.own _) => true
  | some (.io _) => true
  | _ => false
def noOwn (vs : List Nat) (r : Env) : Bool := vs.all fun v => !isOwn r[v]?
theorem noOwn_ok {vs : List Nat} {r : Env} (h : noOwn vs r = true) : ∀ v ∈ vs, ∀ (s : Slot) (d : D), r[v]? = some s → s.cont ≠ some d := fun v hm s d e z => by
  have := List.all_eq_true.mp h v hm
  rw [e] at this
  cases s with
  | own _ => cases this
  | io _ => cases this
  | _ => cases z
theorem wipeE_un {r : Env} {vs : List Nat} {i : Nat} (h : i ∈ vs) : ∀ (s : Slot) (d : D), (wipeE r vs)[i]? = some s → s.cont ≠ some d := by
  induction vs with
  | nil => simp at h
  | cons v vs ih =>
    intro s d e
    unfold wipeE at e
    rcases getElem?_set_cases e with ⟨_, z⟩ | ⟨ne, e⟩
    · subst z
      exact fun z => nomatch z
    · rcases List.mem_cons.mp h with z | z
      · exact absurd z.symm ne
      · exact ih z s d e
theorem av_ad {A0 : Addr → Prop} {os : List (Option Addr)} {p : Addr} {H : Hp} : Keep (Av (Ad A0 p) os) (Ad (Av A0 os) p) H H := fun b o e n => ⟨e, fun z => n (by
  rcases z with (z | z) | z
  · exact .inl (.inl z)
  · exact .inr z
  · exact .inl (.inr z))⟩
/-- one turn of a comprehension's block, for both forms -/
def lcD (own : List (Str × Nat)) (h : Env → R (List D)) (g : D → Env → R Env) (c : Env → R Bool) (f : Env → R D) : Env → R D := fun r => if noOwn (own.map (·.2)) r = true then lcV (own.map (·.2)) h g c f r else .stk
theorem lc_snd {X : Cx} {W : WX} {own : List (Str × Nat)} {ks : List Nat} {h : Env → R (List D)} {g : D → Env → R Env} {c : Env → R Bool} {f : Env → R D}
    (hk : ∀ k ∈ ks, k ∈ own.map (·.2)) (F : Fm) (os : List (Option Addr)) (r : Env) (σ : St) (H : Hp) (Q : VK) (R : Rel X.K F os r σ H)
    (S : Sat (fun d => ∀ p H', Same H H' → H p = none → RepO X.K H' (Ad (Av F.A0 os) p) d p → Q (.ref p) H') (Er X W F) (lcD own h g c f r)) :
    tLc (cIp X.K X.mg W h) (cG X.K X.mg WF ks g) (cTp X.K X.mg WF c) (cP X.K X.mg WF f) (own.map (·.2)) σ H Q := by
  unfold lcD at S
  by_cases hv : noOwn (own.map (·.2)) r = true
  · rw [if_pos hv] at S
    have hv' := noOwn_ok hv
    refine ⟨F, os, r, R, Sat.mono (p := fun items => Sat (fun d => ∀ p H', Same H H' → H p = none → RepO X.K H' (Ad (Av F.A0 os) p) d p → Q (.ref p) H') (Er X W F)
      (if items.length ≤ sizeLine then (lcP g c f (wipeE r (own.map (·.2))) items).bind fun ds => .ok (.lst ds) else .stk)) S.bind (fun items S2 => ?_) (fun _ _ z => z)⟩
    intro J H1 G src s1 g1 D hD
    by_cases hl : items.length ≤ sizeLine
    · rw [if_pos hl] at S2
      have R1 := R.same' s1
      have nD : ¬ Av F.A0 os D := R1.notIn hD
      have hDH : H D = none := s1.free hD
      have F0 : F.H0 D = none ∨ F.io D := by
        by_cases hio : F.io D
        · exact .inr hio
        · cases q : F.H0 D with
          | none => exact .inl rfl
          | some o =>
            have := R1.same D o q hio
            rw [hD] at this
            cases this
      have R2 : Rel X.K ⟨Ad F.A0 D, F.H0, F.io⟩ os (wipeE r (own.map (·.2))) (L2.wipe σ (own.map (·.2))) (upd H1 D (.lst [])) := (R1.ext (p := D) (o := .lst []) hD rfl).wipe _ hv'
      have kp0 : Keep (Av F.A0 os) (Av (Ad F.A0 D) os) H1 (upd H1 D (.lst [])) := fun b u e nb => ⟨by rw [upd_ne (ne_of_none e hD)]; exact e, fun z => by
        rcases z with (z | z) | z
        · exact nb (.inl z)
        · rw [z, hD] at e
          cases e
        · exact nb (.inr z)⟩
      have g2 : G (Av (Ad F.A0 D) os) (upd H1 D (.lst [])) := src.keep _ _ _ _ R1.AOk kp0 g1
      have wk : Walk J items.length (fun H => ∃ A, AOk A H ∧ G A H) (fun i H x H' => i < items.length ∧ J.yld i H x H') :=
        ⟨fun i H hi ⟨A, ak, h⟩ => src.goes A i H ak hi h, fun H ⟨A, ak, h⟩ => src.stops A H ak h, fun i H x H' hi _ y => ⟨hi, y⟩⟩
      refine lc_it wk (fun i H' => ∃ acc vacc, Rel X.K ⟨Ad F.A0 D, F.H0, F.io⟩ os (wipeE r (own.map (·.2))) (L2.wipe σ (own.map (·.2))) H' ∧ H' D = some (.lst vacc) ∧ RepL X.K H' (Av (Ad F.A0 D) os) acc vacc ∧ G (Av (Ad F.A0 D) os) H' ∧ Same H H' ∧ acc.length ≤ i ∧
        Sat (fun ds => ∀ p H', Same H H' → H p = none → RepO X.K H' (Ad (Av F.A0 os) p) (.lst (acc ++ ds)) p → Q (.ref p) H') (fun _ _ => False) (lcP g c f (wipeE r (own.map (·.2))) (items.drop i)))
        ⟨[], [], R2, upd_same, by unfold RepL; rfl, g2, s1.trans (same_upd hD), Nat.le_refl _, ?_⟩ ?_ ?_ ?_
      · have : ∀ {rr : DL.R (List DL.D)}, Sat (fun d => ∀ p H', Same H H' → H p = none → RepO X.K H' (Ad (Av F.A0 os) p) d p → Q (.ref p) H') (Er X W F) (rr.bind fun ds => .ok (.lst ds)) → (∀ x e, rr ≠ .err x e) →
            Sat (fun ds => ∀ p H', Same H H' → H p = none → RepO X.K H' (Ad (Av F.A0 os) p) (.lst ([] ++ ds)) p → Q (.ref p) H') (fun _ _ => False) rr := by
          intro rr z ne
          cases rr with
          | ok ds => exact z
          | err x e => exact absurd rfl (ne x e)
          | stk => exact z
        refine this S2 ?_
        have noerr : ∀ (r0 : Env) (l : List DL.D) x e, lcP g c f r0 l ≠ .err x e := by
          intro r0 l
          induction l with
          | nil => intro x e z; cases z
          | cons y l ih =>
            intro x e z
            unfold lcP at z
            cases q1 : g y r0 with
            | err _ _ => rw [q1] at z; cases z
            | stk => rw [q1] at z; cases z
            | ok r1 =>
              rw [q1] at z
              simp only [DL.R.ne, DL.R.bind] at z
              cases q2 : c r1 with
              | err _ _ => rw [q2] at z; cases z
              | stk => rw [q2] at z; cases z
              | ok b =>
                rw [q2] at z
                simp only [DL.R.bind] at z
                cases b with
                | false =>
                  simp only [Bool.false_eq_true, if_false] at z
                  exact ih x e z
                | true =>
                  simp only [if_true] at z
                  cases q3 : f r1 with
                  | err _ _ => rw [q3] at z; cases z
                  | stk => rw [q3] at z; cases z
                  | ok d =>
                    rw [q3] at z
                    simp only [DL.R.bind] at z
                    cases q4 : lcP g c f r0 l with
                    | err x' e' => exact absurd q4 (ih x' e')
                    | stk => rw [q4] at z; cases z
                    | ok ds => rw [q4] at z; cases z
        exact noerr _ _
      · rintro i H' hi ⟨acc, vacc, R', _, _, g', _⟩
        exact ⟨_, R'.AOk, g'⟩
      · rintro i x H2 H3 hi ⟨acc, vacc, R', hDa, hacc, g', sm, hlen, S'⟩ ⟨_, y⟩
        obtain ⟨s3, d, ed, hd⟩ := src.yields _ i H2 x H3 R'.AOk hi g' y
        have ei : items.drop i = d :: items.drop (i + 1) := by
          rw [List.drop_eq_getElem_cons hi]
          rw [List.getElem?_eq_getElem hi] at ed
          cases ed
          rfl
        rw [ei] at S'
        unfold lcP at S'
        have R3 := R'.same' s3
        have g3 := src.keep _ _ _ _ R'.AOk (Keep.of s3) g'
        have hacc3 := hacc.same s3 R'.AOk
        refine ⟨_, os, _, d, R3, hd, (Sat.neB S').imp fun r4 S4 os4 σ4 H4 R4 k4 s4 o4 => ⟨wipe_off o4 hk, _, os4, r4, R4, (Sat.neB S4).imp fun b S5 H5 s5 => ?_⟩⟩
        have R5 := R4.same' s5
        have sm5 : Same H H5 := ((sm.trans s3).trans s4).trans s5
        have s35 : Same H3 H5 := s4.trans s5
        have R35 := R3.same' s35
        have hD5 : H5 D = some (.lst vacc) := s35 _ _ (s3 _ _ hDa)
        have hacc5 := hacc3.same s35 R3.AOk
        have g5 := src.keep _ _ _ _ R3.AOk (Keep.of s35) g3
        cases b with
        | false =>
          simp only [Bool.false_eq_true, if_false] at S5 ⊢
          exact ⟨acc, vacc, R35, hD5, hacc5, g5, sm5, Nat.le_succ_of_le hlen, S5⟩
        | true =>
          simp only [if_true] at S5 ⊢
          refine ⟨_, os4, r4, R5, (Sat.neB S5).imp fun dd S6 v H6 s6 h6 => ?_⟩
          have s36 : Same H3 H6 := s35.trans s6
          have R36 := R3.same' s36
          have hD6 : H6 D = some (.lst vacc) := s6 _ _ hD5
          have hacc6 := hacc3.same s36 R3.AOk
          have g6 := src.keep _ _ _ _ R3.AOk (Keep.of s36) g3
          have hdd : Rep X.K H6 (Av (Ad F.A0 D) os) dd v := by
            have kk : Keep (Av (Ad F.A0 D) os4) (Av (Ad F.A0 D) os) H6 H6 := fun b u e nb => ⟨e, fun z => nb (by
              rcases z with z | z
              · exact .inl z
              · obtain ⟨j, hj, ej⟩ := List.getElem_of_mem z
                have ej' : os[j]? = some (some b) := by rw [List.getElem?_eq_getElem hj, ej]
                have nk : j ∉ ks := fun hjk => by
                  obtain ⟨s0, d0, e0, e0', _⟩ := R'.own ej'
                  exact wipeE_un (hk j hjk) s0 d0 e0 e0'
                exact .inr (List.mem_of_getElem? (((o4.2 j nk).2).trans ej')))⟩
            exact Rep.keep kk (R5.same' s6).AOk _ _ h6
          obtain ⟨R7, k7⟩ := R36.updA (p := D) (o := .lst (vacc ++ [v])) (.inr rfl) rfl F0
          refine ⟨vacc, hD6, ?_, acc ++ [dd], vacc ++ [v], R7, upd_same, ?_, src.keep _ _ _ _ R36.AOk k7 g6, ?_, ?_, ?_⟩
          · rw [repL_length hacc6]
            omega
          · exact RepL.keep k7 R36.AOk _ _ (repL_append hacc6 (by unfold RepL; exact ⟨v, [], rfl, hdd, by unfold RepL; rfl⟩))
          · intro b u e
            rw [upd_ne (fun z => by rw [z, hDH] at e; cases e)]
            exact s6 _ _ (sm5 _ _ e)
          · rw [List.length_append, List.length_singleton]
            omega
          · refine (Sat.mono (p := fun ds => ∀ p H', Same H H' → H p = none → RepO X.K H' (Ad (Av F.A0 os) p) (.lst (acc ++ (dd :: ds))) p → Q (.ref p) H') (q := fun _ _ => False) ?_ (fun ds z => ?_) fun _ _ z => z)
            · cases q : lcP g c f (wipeE r (own.map (·.2))) (items.drop (i + 1)) with
              | ok ds => rw [q] at S6; exact S6
              | err x e => rw [q] at S6; exact S6
              | stk => rw [q] at S6; exact S6
            · have e : acc ++ [dd] ++ ds = acc ++ dd :: ds := by simp
              rw [e]
              exact z
      · rintro H' ⟨acc, vacc, R', hDa, hacc, g', sm, hlen, S'⟩
        rw [List.drop_length] at S'
        refine S' D H' sm hDH ⟨vacc, hDa, ?_⟩
        rw [List.append_nil]
        exact RepL.keep av_ad R'.AOk _ _ hacc
    · rw [if_neg hl] at S2
      exact S2.elim
  · rw [if_neg hv] at S
    exact S.elim
section
variable {X : Cx} {W : WX} {elt tg iter : Expr} {ifs : List Expr} {scope : Scope} {own : List (Str × Nat)} {pos : Pos} {ks : List Nat} {h : Env → R (List D)} {g : D → Env → R Env} {c : Env → R Bool} {f : Env → R D}
theorem d_lc (hc : X.calm = true) (hN : X.N.Nodup) (hi : DIp X W tg iter h) (ok : BlkOk X.N X.env.scope scope own)
    (hg : ∀ (s : Shared) (H : Hp) (C : Addr) (cl : List (Str × Addr)) (fp : List Addr), DG (X.blk s H scope (compEnvC scope cl C X.env) fp) WF ks tg g)
    (ht : ∀ (s : Shared) (H : Hp) (C : Addr) (cl : List (Str × Addr)) (fp : List Addr), DC (X.blk s H scope (compEnvC scope cl C X.env) fp) WF ifs c)
    (he : ∀ (s : Shared) (H : Hp) (C : Addr) (cl : List (Str × Addr)) (fp : List Addr), DP (X.blk s H scope (compEnvC scope cl C X.env) fp) WF elt f)
    (hk : ∀ k ∈ ks, k ∈ own.map (·.2) := by decide) (hs : ∀ x, foldedSetIterable iter X.env x = pure x := by intro _; rfl) : DF X W (.ListComp elt [⟨tg, iter, ifs, 0⟩] scope pos) (lcD own h g c f) :=
  ⟨_, pe_lc hc hN hi.can ok (fun s H C cl fp => (hg s H C cl fp).can) (fun s H C cl fp => (ht s H C cl fp).can) (fun s H C cl fp => (he s H C cl fp).can) hs, fun F os r σ H Q R S => lc_snd hk F os r σ H Q R S⟩
variable {y : Str} {py spos : Pos}
theorem s_setLcO (i : Nat) (hc : X.calm = true) (hN : X.N.Nodup) (hi : DIp X W tg iter h) (ok : BlkOk X.N X.env.scope scope own)
    (hg : ∀ (s : Shared) (H : Hp) (C : Addr) (cl : List (Str × Addr)) (fp : List Addr), DG (X.blk s H scope (compEnvC scope cl C X.env) fp) WF ks tg g)
    (ht : ∀ (s : Shared) (H : Hp) (C : Addr) (cl : List (Str × Addr)) (fp : List Addr), DC (X.blk s H scope (compEnvC scope cl C X.env) fp) WF ifs c)
    (he : ∀ (s : Shared) (H : Hp) (C : Addr) (cl : List (Str × Addr)) (fp : List Addr), DP (X.blk s H scope (compEnvC scope cl C X.env) fp) WF elt f)
    (hy : X.N[i]? = some y := by rfl) (hyl : X.env.scope.names.lookup y = some .local := by rfl) (hsw : swapsWith (.ListComp elt [⟨tg, iter, ifs, 0⟩] scope pos) (some (.Name y py)) spos.line X.env = pure true := by rfl)
    (hk : ∀ k ∈ ks, k ∈ own.map (·.2) := by decide) (hs : ∀ x, foldedSetIterable iter X.env x = pure x := by intro _; rfl) : DS X W (.Assign [.Name y py] (.ListComp elt [⟨tg, iter, ifs, 0⟩] scope pos) spos) (setO i (lcD own h g c f)) := by
  refine ⟨_, ps_setLc (i := i) hc hN hy hyl hsw hi.can ok (fun s H C cl fp => (hg s H C cl fp).can) (fun s H C cl fp => (ht s H C cl fp).can) (fun s H C cl fp => (he s H C cl fp).can) hs, fun F os r σ H D R S => lc_snd hk F os r σ H _ R (S.bind.imp fun q S p H1 s1 n1 h1 => ?_)⟩
  obtain ⟨R2, k2⟩ := R.setOwn (i := i) s1 n1 h1
  exact S _ _ _ R2 k2
theorem s_setLc (i : Nat) (hc : X.calm = true) (hN : X.N.Nodup) (hi : DIp X W tg iter h) (ok : BlkOk X.N X.env.scope scope own)
    (hg : ∀ (s : Shared) (H : Hp) (C : Addr) (cl : List (Str × Addr)) (fp : List Addr), DG (X.blk s H scope (compEnvC scope cl C X.env) fp) WF ks tg g)
    (ht : ∀ (s : Shared) (H : Hp) (C : Addr) (cl : List (Str × Addr)) (fp : List Addr), DC (X.blk s H scope (compEnvC scope cl C X.env) fp) WF ifs c)
    (he : ∀ (s : Shared) (H : Hp) (C : Addr) (cl : List (Str × Addr)) (fp : List Addr), DP (X.blk s H scope (compEnvC scope cl C X.env) fp) WF elt f)
    (hy : X.N[i]? = some y := by rfl) (hyl : X.env.scope.names.lookup y = some .local := by rfl) (hsw : swapsWith (.ListComp elt [⟨tg, iter, ifs, 0⟩] scope pos) (some (.Name y py)) spos.line X.env = pure true := by rfl)
    (hk : ∀ k ∈ ks, k ∈ own.map (·.2) := by decide) (hs : ∀ x, foldedSetIterable iter X.env x = pure x := by intro _; rfl) : DS X W (.Assign [.Name y py] (.ListComp elt [⟨tg, iter, ifs, 0⟩] scope pos) spos) (setS i (withEnv (lcD own h g c f))) := by
  refine ⟨_, ps_setLc (i := i) hc hN hy hyl hsw hi.can ok (fun s H C cl fp => (hg s H C cl fp).can) (fun s H C cl fp => (ht s H C cl fp).can) (fun s H C cl fp => (he s H C cl fp).can) hs, fun F os r σ H D R S => lc_snd hk F os r σ H _ R ?_⟩
  refine S.bind.bind.imp fun q S p H1 s1 n1 h1 => ?_
  have R1 := R.same' s1
  have rp : Rep X.K H1 (Av F.A0 os) q (.ref p) := repO_rep h1 ad_keep (ad_ok R.AOk s1 h1) (R.notIn n1)
  obtain ⟨R2, k2⟩ := R1.setSh (i := i) rp
  exact S _ _ _ R2 ((Keep.of s1).trans k2)
end
end DL

namespace DL
open PySem L2

/-! ### a def by its body -/
def ini (n : Nat) (ds : List D) : Env := ds.map Slot.sh ++ List.replicate (n - ds.length) .un
/-- what a body's end is worth -/
@[simp] def Fl.val : Fl → R D
  | .rt d _ => .ok d
  | .nx _ => .ok .non
  | _ => .stk
/-- the def as a function of data: N slots, n parameters -/
def fnD (N n : Nat) (f : Env → R Fl) : List D → R D := fun ds => if ds.length = n then (f (ini N ds)).bind Fl.val else .stk
section
variable {P : Program} {w : World} {K : PySem.W.Frag} {mg : Str → Option Value} {base : Heap} {x qual : Str} {params : Arguments} {body : List Stmt} {scope : Scope} {f : Addr} {fd : FuncData}
theorem rel_start {N : List Str} {A : Addr → Prop} {ds : List D} {vs : List V} {H : Hp} (ak : AOk A H) (h : RepL K H A ds vs) (hn : ds.length ≤ N.length) :
    Rel K ⟨A, H, fun _ => False⟩ (List.replicate N.length none) (ini N.length ds) (L2.start N vs) H := by
  have hl := repL_length h
  have nos : ∀ (i : Nat) (a : Addr), (List.replicate N.length (none : Option Addr))[i]? ≠ some (some a) := fun i a e => by
    rw [List.getElem?_replicate] at e
    split at e
    · cases e
    · cases e
  refine ⟨?_, ?_, fun i s v o e1 e2 e3 => ?_, fun i j a e => absurd e (nos i a), fun i a e => absurd e (nos i a), ak, fun b o e _ => e, fun i a e => absurd e (nos i a)⟩
  · simp [L2.start, ini, hl]
  · simp only [List.length_replicate, ini, List.length_append, List.length_map]
    omega
  · have eo : o = none := by
      rw [List.getElem?_replicate] at e3
      split at e3
      · cases e3; rfl
      · cases e3
    subst eo
    unfold ini at e1
    by_cases hi : i < ds.length
    · rw [List.getElem?_append_left (by simpa using hi), List.getElem?_map] at e1
      rw [List.getElem?_eq_getElem hi] at e1
      cases e1
      obtain ⟨u, h1, h2⟩ := repL_get h (List.getElem?_eq_getElem hi)
      unfold L2.start at e2
      have hi2 : i < vs.length := by omega
      rw [List.getElem?_append_left (by simpa using hi2), List.getElem?_map, h1] at e2
      cases e2
      refine ⟨rfl, u, rfl, Rep.keep (fun b o e nb => ⟨e, fun z => nb ?_⟩) ak _ _ h2⟩
      rcases z with z | z
      · exact z
      · exact absurd z (by simp [List.mem_replicate])
    · rw [List.getElem?_append_right (by simpa using hi)] at e1
      rw [List.getElem?_replicate] at e1
      split at e1
      · cases e1; rfl
      · cases e1
theorem av_nil {A : Addr → Prop} {n : Nat} {a : Addr} (h : Av A (List.replicate n none) a) : A a := by
  rcases h with z | z
  · exact z
  · simp [List.mem_replicate] at z
/-- THE RULE for a def of data -/
theorem fn_ok {N ps : List Str} {k : Nat} {dvs : List V} {kws : List (Str × V)} {b : Env → R Fl} (F : FunD K x qual params body scope dvs kws f fd) (S : FnScope N ps scope) (hp : ps.length ≤ N.length)
    (hb : ∀ (cdv : Value) (A : Around) (outer : List PySem.Env) (s : Shared) (H : Hp) (E : XK), Room k (A.deeper (PyProof.Rows.envOfC qual scope s.heap.objs.size f cdv)) →
      DSs (cxOf (L2.CX P w) P w K mg base N qual scope f cdv A outer s H E) (fun cls d _ H' => E cls d H') body b) :
    FnOk P w K mg base (L2.CX P w) (k + 1) f fd ps (SpF K mg ps.length (fnD N.length ps.length b)) := by
  refine F.ok S (fun vs H Q E h => h.1) fun cdv A outer s H vs Q E hr h => ?_
  obtain ⟨hl, A0, ds, ak, rp, S1⟩ := h
  obtain ⟨t, pt, wt⟩ := hb cdv A outer s H E hr
  refine ⟨t, pt, ?_⟩
  have hd : ds.length = ps.length := by rw [← repL_length rp]; exact hl
  have S2 : Sat (fun d => ∀ v H', Same H H' → Rep K H' A0 d v → Q v H') (fun x _ => ∀ cls dd H', Same H H' → XRep K mg H' x cls dd → E cls dd H') ((b (ini N.length ds)).bind Fl.val) := by
    unfold fnD at S1
    rw [if_pos hd] at S1
    exact S1
  have R0 : Rel K ⟨A0, H, fun _ => False⟩ (List.replicate N.length none) (ini N.length ds) (L2.start N vs) H := rel_start ak rp (by omega)
  refine wt ⟨A0, H, fun _ => False⟩ _ _ _ H _ R0 (S2.bind.mono (fun fl S3 => ?_) fun x r S3 => ?_)
  · have sm : ∀ {os' r' σ' H'}, Rel K ⟨A0, H, fun _ => False⟩ os' r' σ' H' → Same H H' := fun R b o e => R.same b o e fun z => z
    cases fl with
    | nx r => exact fun os' σ' H' R' k' => S3 .non H' (sm R') rep_non
    | rt d r => exact fun os' v σ' H' R' h' => S3 v H' (sm R') (Rep.keep (fun b o e nb => ⟨e, fun z => nb (.inl z)⟩) R'.AOk _ _ h')
    | bk r => exact S3.elim
    | ct r => exact S3.elim
  · exact fun os σ cls dd H' R' xr => S3 cls dd H' (fun b o e => R'.same b o e fun z => z) xr
/-- the def as a function of data whose first argument is a list that it changes -/
def fnIO (N n : Nat) (f : Env → R Fl) : List D → List D → R (D × List D) := fun row ds => if ds.length = n then (f (.io (.lst row) :: ini (N - 1) ds)).bind fun fl => match fl with
  | .rt d (.io (.lst row') :: _) => .ok (d, row')
  | .nx (.io (.lst row') :: _) => .ok (.non, row')
  | _ => .stk else .stk
theorem fnio_ok {N ps : List Str} {p : Str} {k : Nat} {dvs : List V} {kws : List (Str × V)} {b : Env → R Fl} (F : FunD K x qual params body scope dvs kws f fd) (S : FnScope N (p :: ps) scope) (hp : ps.length + 1 ≤ N.length)
    (hb : ∀ (cdv : Value) (A : Around) (outer : List PySem.Env) (s : Shared) (H : Hp) (E : XK), Room k (A.deeper (PyProof.Rows.envOfC qual scope s.heap.objs.size f cdv)) →
      DSs (cxOf (L2.CX P w) P w K mg base N qual scope f cdv A outer s H E) (fun cls d _ H' => E cls d H') body b) :
    FnOk P w K mg base (L2.CX P w) (k + 1) f fd (p :: ps) (SpIO K ps.length (fnIO N.length ps.length b)) := by
  refine F.ok S (fun vs H Q E h => ?_) fun cdv A outer s H vs Q E hr h => ?_
  · obtain ⟨_, _, _, rest, _, _, rfl, hl, _⟩ := h
    rw [List.length_cons, List.length_cons, hl]
  obtain ⟨A0, a, xs, rest, row, ds, rfl, hl, hx, inA, ak, rrow, rp, S1⟩ := h
  obtain ⟨t, pt, wt⟩ := hb cdv A outer s H E hr
  refine ⟨t, pt, ?_⟩
  have hd : ds.length = ps.length := by rw [← repL_length rp]; exact hl
  have S2 := S1
  unfold fnIO at S2
  rw [if_pos hd] at S2
  let A1 : Addr → Prop := fun c => A0 c ∧ c ≠ a
  have avA : ∀ c, Av A1 (some a :: List.replicate (N.length - 1) none) c ↔ A0 c := fun c => by
    constructor
    · intro z
      rcases z with z | z
      · exact z.1
      · rcases List.mem_cons.mp z with z | z
        · cases z; exact inA
        · simp [List.mem_replicate] at z
    · intro z
      by_cases e : c = a
      · exact .inr (by rw [e]; exact List.mem_cons_self ..)
      · exact .inl ⟨z, e⟩
  have kp : Keep A0 (Av A1 (some a :: List.replicate (N.length - 1) none)) H H := fun c o e n => ⟨e, fun z => n ((avA c).mp z)⟩
  have R0 : Rel K ⟨A1, H, fun c => c = a⟩ (some a :: List.replicate (N.length - 1) none) (.io (.lst row) :: ini (N.length - 1) ds) (L2.start N (.ref a :: rest)) H := by
    have nos : ∀ (i : Nat) (c : Addr), (List.replicate (N.length - 1) (none : Option Addr))[i]? ≠ some (some c) := fun i c e => by
      rw [List.getElem?_replicate] at e
      split at e
      · cases e
      · cases e
    have only : ∀ (i : Nat) (c : Addr), (some a :: List.replicate (N.length - 1) (none : Option Addr))[i]? = some (some c) → i = 0 ∧ c = a := fun i c e => by
      cases i with
      | zero => cases e; exact ⟨rfl, rfl⟩
      | succ i => exact absurd (by simpa using e) (nos i c)
    have hr0 := repL_length rp
    refine ⟨?_, ?_, fun i s v o e1 e2 e3 => ?_, fun i j c e1 e2 => ?_, fun i c e z => ?_, fun c z => ak c z.1, fun c o e n => e, fun i c e => .inr (only i c e).2⟩
    · simp [L2.start, ini, hl, hd]
      omega
    · simp only [List.length_cons, List.length_replicate, ini, List.length_append, List.length_map]
      omega
    · cases i with
      | zero =>
        cases e1
        cases e3
        have e4 : v = some (.ref a) := by
          unfold L2.start at e2
          simpa using e2.symm
        subst e4
        exact ⟨a, rfl, rfl, ⟨xs, hx, RepL.keep kp ak _ _ rrow⟩, rfl⟩
      | succ i =>
        have eo : o = none := by
          have e3' : (List.replicate (N.length - 1) (none : Option Addr))[i]? = some o := by simpa using e3
          rw [List.getElem?_replicate] at e3'
          split at e3'
          · cases e3'; rfl
          · cases e3'
        subst eo
        have e1' : (ini (N.length - 1) ds)[i]? = some s := by simpa using e1
        unfold ini at e1'
        by_cases hi : i < ds.length
        · rw [List.getElem?_append_left (by simpa using hi), List.getElem?_map, List.getElem?_eq_getElem hi] at e1'
          cases e1'
          obtain ⟨u, h1, h2⟩ := repL_get rp (List.getElem?_eq_getElem hi)
          have e2' : v = some u := by
            unfold L2.start at e2
            have hi2 : i < rest.length := by omega
            rw [List.map_cons, List.cons_append, List.getElem?_cons_succ, List.getElem?_append_left (by simpa using hi2), List.getElem?_map, h1] at e2
            cases e2
            rfl
          subst e2'
          exact ⟨rfl, u, rfl, Rep.keep kp ak _ _ h2⟩
        · rw [List.getElem?_append_right (by simpa using hi), List.getElem?_replicate] at e1'
          split at e1'
          · cases e1'; rfl
          · cases e1'
    · rw [(only i c e1).1, (only j c e2).1]
    · exact z.2 (only i c e).2
  refine wt ⟨A1, H, fun c => c = a⟩ _ _ _ H _ R0 (S2.bind.mono (fun fl S3 => ?_) fun x r S3 => S3.elim)
  have fin : ∀ {os' r' σ' H' row'} {d : D} {v : V}, Rel K ⟨A1, H, fun c => c = a⟩ os' (.io (.lst row') :: r') σ' H' → Rep K H' (Av A1 os') d v → (∀ v H' xs', But a H H' → H' a = some (.lst xs') → RepL K H' A0 row' xs' → Rep K H' A0 d v → Q v H') → Q v H' := by
    intro os' r' σ' H' row' d v R' h' q
    obtain ⟨v0, o0, e1, e2, a', z1, z2, ⟨xs', hx', hr'⟩, z3⟩ := R'.get (i := 0) (s := .io (.lst row')) rfl
    have z4 : a' = a := z3
    subst z4
    subst z1
    have kk : Keep (Av A1 os') A0 H' H' := fun b o e nb => ⟨e, fun z => nb (by
      by_cases eb : b = a'
      · rw [eb]
        exact .inr (List.mem_of_getElem? e2)
      · exact .inl ⟨z, eb⟩)⟩
    exact q v H' xs' (fun b o e nb => R'.same b o e nb) hx' (RepL.keep kk R'.AOk _ _ hr') (Rep.keep kk R'.AOk _ _ h')
  cases fl with
  | nx r =>
    match r, S3 with
    | .io (.lst row') :: r', S3 => exact fun os' σ' H' R' k' => fin (d := .non) R' rep_non S3
  | rt d r =>
    match r, S3 with
    | .io (.lst row') :: r', S3 => exact fun os' v σ' H' R' h' => fin R' h' S3
  | bk r => exact S3.elim
  | ct r => exact S3.elim
end
end DL

namespace DL
open PySem L2

/-! ### things that are drawn from: lists, tuples, texts -/
inductive Zs where
  | l (a : Addr) | t (a : Addr) | s (x : Str)
def Zs.val : Zs → V
  | .l a => .ref a
  | .t a => .ref a
  | .s x => .str x
def Zs.fp : Zs → List Addr
  | .l a => [a]
  | .t a => [a]
  | .s _ => []
def sgV (z : Str) : List V := z.cps.toList.map fun c => V.str ⟨#[c]⟩
def Zs.has (K : PySem.W.Frag) (H : Hp) : Zs → List V → Prop
  | .l a, xs => SqL K H a xs
  | .t a, xs => SqT K H a xs
  | .s x, xs => xs = sgV x
def Zs.st (it : Addr) (i : Nat) (h : Heap) : Zs → Prop
  | .l a => h.IsListIter it a i
  | .t a => h.IsTupleIter it a i
  | .s x => ∃ t, h.IsStrIter it (strIterType x) x t i
theorem Zs.obj {it : Addr} {i : Nat} {h : Heap} : ∀ {z : Zs}, z.st it i h → ∃ o, h.get? it = some o ∧ ∀ v, o.data ≠ .cell v
  | .l a, st => by
    obtain ⟨o, e, _, d⟩ := st
    exact ⟨o, e, fun v q => by rw [d] at q; cases q⟩
  | .t a, st => by
    obtain ⟨o, e, _, d⟩ := st
    exact ⟨o, e, fun v q => by rw [d] at q; cases q⟩
  | .s x, st => by
    obtain ⟨t, o, e, _, d⟩ := st
    exact ⟨o, e, fun v q => by rw [d] at q; cases q⟩
theorem Zs.kp {it : Addr} {i : Nat} {h h' : Heap} (k : ∀ o, h.get? it = some o → h'.get? it = some o) : ∀ {z : Zs}, z.st it i h → z.st it i h'
  | .l a, st => by
    obtain ⟨o, e, r⟩ := st
    exact ⟨o, k o e, r⟩
  | .t a, st => by
    obtain ⟨o, e, r⟩ := st
    exact ⟨o, k o e, r⟩
  | .s x, st => by
    obtain ⟨t, o, e, r⟩ := st
    exact ⟨t, o, k o e, r⟩
section
variable {X : Cx} {pins : List (Addr × Obj)} {σ : St} {H : Hp} {s : Shared}
theorem vals_at {xs : List V} {us : List Value} {i : Nat} {u : Value} (r : Vals xs us) (h : us[i]? = some u) : ∃ x, xs[i]? = some x ∧ RelV x u := by
  have hi : i < us.length := (List.getElem?_eq_some_iff.mp h).1
  have hx : xs[i]? = some (xs[i]'(by rw [r.length]; exact hi)) := List.getElem?_eq_getElem _
  obtain ⟨u', hu, ru⟩ := r.get hx
  rw [h] at hu
  cases hu
  exact ⟨_, hx, ru⟩
theorem Zs.inj (I : Inv X pins σ H s) : ∀ {z : Zs} {xs ys : List V}, z.has X.K H xs → z.has X.K H ys → xs = ys
  | .l _, _, _, h, h2 => I.list_inj h h2
  | .t _, _, _, h, h2 => I.tuple_inj h h2
  | .s _, _, _, h, h2 => h.trans h2.symm
theorem Zs.low (I : Inv X pins σ H s) : ∀ {z : Zs} {xs : List V}, z.has X.K H xs → ∀ b ∈ z.fp, b < s.heap.objs.size
  | .l a, xs, h, b, hb => by
    obtain ⟨its, _, p, _⟩ := I.list h
    cases List.mem_singleton.mp hb
    exact p.lt
  | .t a, xs, h, b, hb => by
    obtain ⟨its, _, ⟨o, ho, _⟩, _⟩ := I.tuple h
    cases List.mem_singleton.mp hb
    exact Heap.lt_size ho
  | .s _, _, _, b, hb => nomatch hb
theorem Zs.draws (I : Inv X pins σ H s) (hh : X.A.handled = none) {it : Addr} {i : Nat} : ∀ {z : Zs} {xs : List V}, z.has X.K H xs → it ∉ z.fp → z.st it i s.heap →
    ∃ P Q, Draws X.prog X.w X.A.in1 it (it :: z.fp) xs.length P Q ∧ Q i s.heap ∧ (∀ j h, Q j h → z.st it j h) ∧ ∀ j v, P j v → ∃ x, xs[j]? = some x ∧ RelV x v
  | .l a, xs, h, hn, st => by
    obtain ⟨its, r, p, _⟩ := I.list h
    have D := Draws.list (prog := X.prog) (w := X.w) (A := X.A.in1) hh it a (fun e => hn (List.mem_singleton.mpr e.symm)) its.toArray
    have e : its.toArray.size = xs.length := by rw [List.size_toArray, r.length]
    rw [e] at D
    exact ⟨_, _, D, ⟨st, p.isList⟩, fun j h q => q.1, fun j v q => vals_at r (by simpa using q)⟩
  | .t a, xs, h, hn, st => by
    obtain ⟨its, r, ⟨o, ho, p⟩, _⟩ := I.tuple h
    have D := Draws.tuple (prog := X.prog) (w := X.w) (A := X.A.in1) hh it a (fun e => hn (List.mem_singleton.mpr e.symm)) its.toArray
    have e : its.toArray.size = xs.length := by rw [List.size_toArray, r.length]
    rw [e] at D
    exact ⟨_, _, D, ⟨st, ⟨o, ho, p⟩⟩, fun j h q => q.1, fun j v q => vals_at r (by simpa using q)⟩
  | .s x, xs, h, hn, st => by
    obtain ⟨t, st⟩ := st
    cases h
    have D := Draws.text (prog := X.prog) (w := X.w) (A := X.A.in1) hh it x t
    have e : x.cps.size = (sgV x).length := by simp [sgV]
    rw [e] at D
    refine ⟨_, _, D, st, fun j h q => ⟨t, q⟩, fun j v q => ?_⟩
    obtain ⟨c, u, e1, e2⟩ := q
    subst e2
    refine ⟨.str ⟨#[c]⟩, ?_, u, rfl⟩
    unfold sgV
    rw [List.getElem?_map, Array.getElem?_toList, e1]
    rfl
theorem Zs.begins (I : Inv X pins σ H s) {u : Value} : ∀ {z : Zs} {xs : List V}, z.has X.K H xs → RelV z.val u → ∃ o Hh, Begins u o Hh ∧ Hh s.heap ∧ ∀ (h' : Heap) it, h'.get? it = some o → z.st it 0 h'
  | .l a, xs, h, r => by
    obtain ⟨its, _, p, _⟩ := I.list h
    cases r
    exact ⟨_, _, begins_list a its.toArray, p.isList, fun h' it e => ⟨_, e, rfl, rfl⟩⟩
  | .t a, xs, h, r => by
    obtain ⟨its, _, ⟨o, ho, p⟩, _⟩ := I.tuple h
    cases r
    exact ⟨_, _, begins_tuple a its.toArray, ⟨o, ho, p⟩, fun h' it e => ⟨_, e, rfl, rfl⟩⟩
  | .s x, xs, h, r => by
    obtain ⟨t, e⟩ := r
    subst e
    exact ⟨_, _, begins_text x t, trivial, fun h' it e => ⟨t, _, e, rfl, rfl⟩⟩
end

/-! ### what gives a new tuple at each turn -/
def ItR (has : Hp → List (List V) → Prop) : It :=
  ⟨fun i H => ∃ rows, has H rows ∧ i < rows.length, fun i H v H' => ∃ T row, v = .ref T ∧ H T = none ∧ H' = upd H T (.tup row) ∧ ∀ rows, has H rows → rows[i]? = some row, fun i H => ∃ rows, has H rows ∧ rows.length = i⟩
theorem turn_rows {P : Program} {w : World} {K : PySem.W.Frag} {elts : List Expr} {kk : Nat} {tpos : Pos} {has : Hp → List (List V) → Prop} {fp wr : List Addr} {it : Addr} {tn : Nat → Heap → Prop}
    (hm : it ∈ fp) (hwr : ∀ b ∈ wr, b ∈ fp) (hobj : ∀ i h, tn i h → ∀ b ∈ fp, ∃ o, h.get? b = some o ∧ ∀ v, o.data ≠ .cell v)
    (hkeep : ∀ i h h', tn i h → (∀ b ∈ fp, ∀ o, h.get? b = some o → h'.get? b = some o) → tn i h')
    (hself : ∀ (A : Around) (i : Nat) (s : Shared) (Q : Value → Shared → Prop) (E : Value → Shared → Prop), tn i s.heap → Q (.ref it) s → wpAny (model P w) A (pyIter (.ref it)) Q E s)
    (hW : ∀ (X : Cx), X.prog = P → X.w = w → X.K = K → X.calm = true → ∀ (i : Nat) (pins : List (Addr × Obj)) (s : Shared) (σ : St) (H : Hp), Inv X pins σ H s → tn i s.heap → ∀ rows, has H rows →
      ∃ fpw Pt Q Mid, WalksT X.prog X.w X.A it fpw wr rows.length Pt Q Mid ∧ Q i s.heap ∧ (∀ j h, Q j h → tn j h) ∧ ∀ j vals, Pt j vals → ∃ row, rows[j]? = some row ∧ Vals row vals.toList ∧ row.length ≤ 3)
    (hinj : ∀ (X : Cx), X.K = K → ∀ (pins : List (Addr × Obj)) (s : Shared) (σ : St) (H : Hp), Inv X pins σ H s → ∀ r1 r2, has H r1 → has H r2 → r1 = r2) : Turn P w K (.Tuple elts kk tpos) (ItR has) fp it tn where
  mem := hm
  obj := hobj
  keep := hkeep
  self := fun A i s Q E st h => hself A i s Q E st h
  item := by
    intro X hP hw hK hc i pins s σ H E I hf st hg
    obtain ⟨rows, hr, hlt⟩ := hg
    obtain ⟨fpw, Pt, Q, Mid, W, q0, down, vals⟩ := hW X hP hw hK hc i pins s σ H I st rows hr
    have hi := hinj X hK pins s σ H I
    subst hP hw hK
    refine W.item i s _ E hlt q0 fun T vs h' tk pt lT isT mid k1 => ⟨.ref T, rfl, W.go elts kk tpos i T _ _ E mid fun h2 q1 k2 => ?_⟩
    obtain ⟨row, e1, rv, l3⟩ := vals i vs pt
    obtain ⟨oT, g1, g2, g3⟩ := isT
    have g4 : h2.get? T = some oT := k2 T oT (W.apart i T h' mid) g1
    obtain ⟨nT, g5⟩ := g3
    have ot : ObjOk X.prog X.w (upd H T (.tup row)) h2 T (.tup row) := ⟨Nat.le_trans l3 (by decide), vs.toList, rv, ⟨oT, g4, g2, nT, by simpa using g5⟩⟩
    have I1 : Inv X pins σ (upd H T (.tup row)) { s with heap := h2, toks := tk } := I.turnedNew (ch := wr) (fun b o hb e => k2 b o hb (k1 b o hb e)) (fun b hb => hf b (hwr b hb)) lT ot
    refine ⟨.ref T, _, I1, rfl, ⟨T, row, rfl, I.hok.fresh lT, rfl, fun rows' h3 => ?_⟩, down _ _ q1, fun b hb => ?_⟩
    · rw [hi _ _ h3 hr]
      exact e1
    · obtain ⟨ob, hob, _⟩ := hobj i _ st b hb
      rw [upd_ne (Nat.ne_of_lt (Nat.lt_of_lt_of_le (Heap.lt_size hob) lT))]
      exact (hf b hb).1
  done := by
    intro X hP hw hK hc i pins s σ H E I hf st hg
    obtain ⟨rows, hr, hl⟩ := hg
    obtain ⟨fpw, Pt, Q, Mid, W, q0, down, vals⟩ := hW X hP hw hK hc i pins s σ H I st rows hr
    subst hP hw hK
    subst hl
    exact W.done s _ E q0 fun h' tk k => ⟨rfl, I.turnedL k fun b hb => hf b (hwr b hb)⟩

/-! ### zip of two -/
def has2 (K : PySem.W.Frag) (z1 z2 : Zs) (H : Hp) (rows : List (List V)) : Prop := ∃ xs ys, z1.has K H xs ∧ z2.has K H ys ∧ rows = List.zipWith (fun x y => [x, y]) xs ys
def tnZ2 (N : Addr) (z1 z2 : Zs) (i : Nat) (h : Heap) : Prop := IsZip h (N + 4) (N + 2) (N + 3) .none ∧ IsTupOf2 h (N + 2) (.ref N) (.ref (N + 1)) ∧ (∃ a b, IsTupOf2 h (N + 3) a b) ∧ z1.st N i h ∧ z2.st (N + 1) i h
theorem mem5 {b N : Addr} (h : b ∈ [N, N + 1, N + 2, N + 3, N + 4]) : b = N ∨ b = N + 1 ∨ b = N + 2 ∨ b = N + 3 ∨ b = N + 4 := by simpa using h
theorem turn_z2 {P : Program} {w : World} {K : PySem.W.Frag} {elts : List Expr} {kk : Nat} {tpos : Pos} {N : Addr} {z1 z2 : Zs} (l1 : ∀ b ∈ z1.fp, b < N) (l2 : ∀ b ∈ z2.fp, b < N) :
    Turn P w K (.Tuple elts kk tpos) (ItR (has2 K z1 z2)) [N, N + 1, N + 2, N + 3, N + 4] (N + 4) (tnZ2 N z1 z2) := by
  refine turn_rows (wr := [N + 4, N + 3, N, N + 1]) (by simp) (fun b hb => ?_) (fun i h st b hb => ?_) (fun i h h' st k => ?_) (fun A i s Q E st h => wpAny_pyIter_zip st.1 h) (fun X hP hw hK hc i pins s σ H I st rows hr => ?_) (fun X hK pins s σ H I r1 r2 h1 h2 => ?_)
  · have : b = N + 4 ∨ b = N + 3 ∨ b = N ∨ b = N + 1 := by simpa using hb
    rcases this with q | q | q | q <;> simp [q]
  · obtain ⟨q1, q2, ⟨a, c, q3⟩, q4, q5⟩ := st
    rcases mem5 hb with e | e | e | e | e <;> subst e
    · exact Zs.obj q4
    · exact Zs.obj q5
    · exact ⟨_, q2, fun v z => nomatch z⟩
    · exact ⟨_, q3, fun v z => nomatch z⟩
    · exact ⟨_, q1, fun v z => nomatch z⟩
  · obtain ⟨q1, q2, ⟨a, c, q3⟩, q4, q5⟩ := st
    exact ⟨k _ (by simp) _ q1, k _ (by simp) _ q2, ⟨a, c, k _ (by simp) _ q3⟩, Zs.kp (k _ (by simp)) q4, Zs.kp (k _ (by simp)) q5⟩
  · subst hP hw hK
    obtain ⟨xs, ys, h1, h2, e⟩ := hr
    obtain ⟨q1, q2, q3, q4, q5⟩ := st
    have hh := I.ok.hd hc
    obtain ⟨P1, Q1, D1, s1, t1, v1⟩ := Zs.draws I hh h1 (fun z => Nat.lt_irrefl N (l1 _ z)) q4
    obtain ⟨P2, Q2, D2, s2, t2, v2⟩ := Zs.draws I hh h2 (fun z => absurd (l2 _ z) (Nat.not_lt.mpr (Nat.le_add_right _ _))) q5
    have W := WalksT.zipD2 (A := X.A) (zip_sep2 l1 l2) D1 D2
    have el : rows.length = min xs.length ys.length := by rw [e, List.length_zipWith]
    rw [← el] at W
    refine ⟨_, _, _, _, W, ⟨q1, q2, q3, s1, s2⟩, fun j h ⟨a1, a2, a3, a4, a5⟩ => ⟨a1, a2, a3, t1 _ _ a4, t2 _ _ a5⟩, ?_⟩
    rintro j vals ⟨x1, x2, p1, p2, ev⟩
    subst ev
    obtain ⟨y1, g1, r1⟩ := v1 j x1 p1
    obtain ⟨y2, g2, r2⟩ := v2 j x2 p2
    refine ⟨[y1, y2], ?_, .cons r1 (.cons r2 .nil), by simp⟩
    rw [e, List.getElem?_zipWith, g1, g2]
  · subst hK
    obtain ⟨xs, ys, a1, a2, a3⟩ := h1
    obtain ⟨xs', ys', b1, b2, b3⟩ := h2
    rw [a3, b3, Zs.inj I a1 b1, Zs.inj I a2 b2]
def iZ2 (K : PySem.W.Frag) (ta : TA) : TI := fun σ H R => ta σ H fun vs H1 => ∃ z1 z2 xs ys, vs = [Zs.val z1, Zs.val z2] ∧ z1.has K H1 xs ∧ z2.has K H1 ys ∧ R (ItR (has2 K z1 z2)) H1
theorem pi_z2 {X : Cx} {e e2 : Expr} {ta : TA} {p pos tpos : Pos} {elts : List Expr} {kk : Nat} (hg : Gl X "zip") (hm : X.mg "zip" = none) (ha : PA X [e, e2] ta)
    (hs : starEach [e, e2] X.env = (false, eval e X.env) :: starEach [e2] X.env := by rfl) (hpl : (backTo pos (starEach [e2] X.env)).any (·.1) = false := by rfl) :
    PI X (.Tuple elts kk tpos) (.Call (.Name "zip" p) [e, e2] [] pos) (iZ2 X.K ta) := by
  refine ⟨fun pins s σ H R I h => ?_⟩
  refine PyProof.Rows.Call_ (ld_blt I hg hm PyProof.Rows.boot_zip (PyProof.Rows.callWith_type1 (thn (ha.run pos pins s σ H _ I h) fun us s1 q0 => ?_) hs hpl))
  obtain ⟨vs, H1, I1, r1, z1, z2, xs, ys, ev, h1, h2, q⟩ := q0
  subst ev
  cases r1 with
  | cons r rr =>
    cases rr with
    | cons r' rr =>
      cases rr
      obtain ⟨o1, G1, B1, g1, t1⟩ := Zs.begins I1 h1 r
      obtain ⟨o2, G2, B2, g2, t2⟩ := Zs.begins I1 h2 r'
      refine zip_begins2 B1 B2 g1 g2 fun h' hz hT hO e1 e2 hsz k => wpAny_pyIter_zip hz ?_
      have I2 : Inv X pins σ H1 { s1 with heap := h' } := I1.kept (t' := s1.toks) k
      refine ⟨s1.heap.objs.size + 4, _, _, _, H1, rfl, I2, turn_z2 (Zs.low I1 h1) (Zs.low I1 h2), ⟨hz, hT, ⟨_, _, hO⟩, t1 _ _ e1, t2 _ _ e2⟩, fun c hc => ?_, q⟩
      have hle : s1.heap.objs.size ≤ c := by
        rcases mem5 hc with z | z | z | z | z <;> rw [z] <;> first | exact Nat.le_refl _ | exact Nat.le_add_right _ _
      exact I1.fpOk hle (I1.hok.fresh hle)
end DL

namespace DL
open PySem L2

/-! ### zip of three -/
def has3 (K : PySem.W.Frag) (z1 z2 z3 : Zs) (H : Hp) (rows : List (List V)) : Prop := ∃ xs ys us, z1.has K H xs ∧ z2.has K H ys ∧ z3.has K H us ∧ rows = List.zipWith (fun x r => x :: r) xs (List.zipWith (fun y u => [y, u]) ys us)
def tnZ3 (N : Addr) (z1 z2 z3 : Zs) (i : Nat) (h : Heap) : Prop := IsZip h (N + 5) (N + 3) (N + 4) .none ∧ IsTupOf3 h (N + 3) (.ref N) (.ref (N + 1)) (.ref (N + 2)) ∧ (∃ a b c, IsTupOf3 h (N + 4) a b c) ∧ z1.st N i h ∧ z2.st (N + 1) i h ∧ z3.st (N + 2) i h
theorem mem6 {b N : Addr} (h : b ∈ [N, N + 1, N + 2, N + 3, N + 4, N + 5]) : b = N ∨ b = N + 1 ∨ b = N + 2 ∨ b = N + 3 ∨ b = N + 4 ∨ b = N + 5 := by simpa using h
theorem turn_z3 {P : Program} {w : World} {K : PySem.W.Frag} {elts : List Expr} {kk : Nat} {tpos : Pos} {N : Addr} {z1 z2 z3 : Zs} (l1 : ∀ b ∈ z1.fp, b < N) (l2 : ∀ b ∈ z2.fp, b < N) (l3 : ∀ b ∈ z3.fp, b < N) :
    Turn P w K (.Tuple elts kk tpos) (ItR (has3 K z1 z2 z3)) [N, N + 1, N + 2, N + 3, N + 4, N + 5] (N + 5) (tnZ3 N z1 z2 z3) := by
  refine turn_rows (wr := [N + 5, N + 4, N, N + 1, N + 2]) (by simp) (fun b hb => ?_) (fun i h st b hb => ?_) (fun i h h' st k => ?_) (fun A i s Q E st h => wpAny_pyIter_zip st.1 h) (fun X hP hw hK hc i pins s σ H I st rows hr => ?_) (fun X hK pins s σ H I r1 r2 h1 h2 => ?_)
  · have : b = N + 5 ∨ b = N + 4 ∨ b = N ∨ b = N + 1 ∨ b = N + 2 := by simpa using hb
    rcases this with q | q | q | q | q <;> simp [q]
  · obtain ⟨q1, q2, ⟨a, c, d, q3⟩, q4, q5, q6⟩ := st
    rcases mem6 hb with e | e | e | e | e | e <;> subst e
    · exact Zs.obj q4
    · exact Zs.obj q5
    · exact Zs.obj q6
    · exact ⟨_, q2, fun v z => nomatch z⟩
    · exact ⟨_, q3, fun v z => nomatch z⟩
    · exact ⟨_, q1, fun v z => nomatch z⟩
  · obtain ⟨q1, q2, ⟨a, c, d, q3⟩, q4, q5, q6⟩ := st
    exact ⟨k _ (by simp) _ q1, k _ (by simp) _ q2, ⟨a, c, d, k _ (by simp) _ q3⟩, Zs.kp (k _ (by simp)) q4, Zs.kp (k _ (by simp)) q5, Zs.kp (k _ (by simp)) q6⟩
  · subst hP hw hK
    obtain ⟨xs, ys, us, h1, h2, h3, e⟩ := hr
    obtain ⟨q1, q2, q3, q4, q5, q6⟩ := st
    have hh := I.ok.hd hc
    obtain ⟨P1, Q1, D1, s1, t1, v1⟩ := Zs.draws I hh h1 (fun z => Nat.lt_irrefl N (l1 _ z)) q4
    obtain ⟨P2, Q2, D2, s2, t2, v2⟩ := Zs.draws I hh h2 (fun z => absurd (l2 _ z) (Nat.not_lt.mpr (Nat.le_add_right _ _))) q5
    obtain ⟨P3, Q3, D3, s3, t3, v3⟩ := Zs.draws I hh h3 (fun z => absurd (l3 _ z) (Nat.not_lt.mpr (Nat.le_add_right _ _))) q6
    have W := WalksT.zipD3 (A := X.A) (zip_sep3 l1 l2 l3) D1 D2 D3
    have el : rows.length = min (min xs.length ys.length) us.length := by rw [e, List.length_zipWith, List.length_zipWith, Nat.min_assoc]
    rw [← el] at W
    refine ⟨_, _, _, _, W, ⟨q1, q2, q3, s1, s2, s3⟩, fun j h ⟨a1, a2, a3, a4, a5, a6⟩ => ⟨a1, a2, a3, t1 _ _ a4, t2 _ _ a5, t3 _ _ a6⟩, ?_⟩
    rintro j vals ⟨x1, x2, x3, p1, p2, p3, ev⟩
    subst ev
    obtain ⟨y1, g1, r1⟩ := v1 j x1 p1
    obtain ⟨y2, g2, r2⟩ := v2 j x2 p2
    obtain ⟨y3, g3, r3⟩ := v3 j x3 p3
    refine ⟨[y1, y2, y3], ?_, .cons r1 (.cons r2 (.cons r3 .nil)), by simp⟩
    rw [e, List.getElem?_zipWith, List.getElem?_zipWith, g1, g2, g3]
  · subst hK
    obtain ⟨xs, ys, us, a1, a2, a3, a4⟩ := h1
    obtain ⟨xs', ys', us', b1, b2, b3, b4⟩ := h2
    rw [a4, b4, Zs.inj I a1 b1, Zs.inj I a2 b2, Zs.inj I a3 b3]
def iZ3 (K : PySem.W.Frag) (ta : TA) : TI := fun σ H R => ta σ H fun vs H1 => ∃ z1 z2 z3 xs ys us, vs = [Zs.val z1, Zs.val z2, Zs.val z3] ∧ z1.has K H1 xs ∧ z2.has K H1 ys ∧ z3.has K H1 us ∧ R (ItR (has3 K z1 z2 z3)) H1
theorem pi_z3 {X : Cx} {e e2 e3 : Expr} {ta : TA} {p pos tpos : Pos} {elts : List Expr} {kk : Nat} (hg : Gl X "zip") (hm : X.mg "zip" = none) (ha : PA X [e, e2, e3] ta)
    (hs : starEach [e, e2, e3] X.env = (false, eval e X.env) :: starEach [e2, e3] X.env := by rfl) (hpl : (backTo pos (starEach [e2, e3] X.env)).any (·.1) = false := by rfl) :
    PI X (.Tuple elts kk tpos) (.Call (.Name "zip" p) [e, e2, e3] [] pos) (iZ3 X.K ta) := by
  refine ⟨fun pins s σ H R I h => ?_⟩
  refine PyProof.Rows.Call_ (ld_blt I hg hm PyProof.Rows.boot_zip (PyProof.Rows.callWith_type1 (thn (ha.run pos pins s σ H _ I h) fun us s1 q0 => ?_) hs hpl))
  obtain ⟨vs, H1, I1, r1, z1, z2, z3, xs, ys, us', ev, h1, h2, h3, q⟩ := q0
  subst ev
  cases r1 with
  | cons r rr =>
    cases rr with
    | cons r' rr =>
      cases rr with
      | cons r'' rr =>
        cases rr
        obtain ⟨o1, G1, B1, g1, t1⟩ := Zs.begins I1 h1 r
        obtain ⟨o2, G2, B2, g2, t2⟩ := Zs.begins I1 h2 r'
        obtain ⟨o3, G3, B3, g3, t3⟩ := Zs.begins I1 h3 r''
        refine zip_begins3 B1 B2 B3 g1 g2 g3 fun h' hz hT hO e1 e2 e3 hsz k => wpAny_pyIter_zip hz ?_
        have I2 : Inv X pins σ H1 { s1 with heap := h' } := I1.kept (t' := s1.toks) k
        refine ⟨s1.heap.objs.size + 5, _, _, _, H1, rfl, I2, turn_z3 (Zs.low I1 h1) (Zs.low I1 h2) (Zs.low I1 h3), ⟨hz, hT, ⟨_, _, _, hO⟩, t1 _ _ e1, t2 _ _ e2, t3 _ _ e3⟩, fun c hc => ?_, q⟩
        have hle : s1.heap.objs.size ≤ c := by
          rcases mem6 hc with z | z | z | z | z | z <;> rw [z] <;> first | exact Nat.le_refl _ | exact Nat.le_add_right _ _
        exact I1.fpOk hle (I1.hok.fresh hle)

/-! ### enumerate -/
def enV (xs : List V) : List (List V) := xs.zipIdx.map fun p => [V.int (p.2 : Nat), p.1]
def hasE (K : PySem.W.Frag) (z : Zs) (H : Hp) (rows : List (List V)) : Prop := ∃ xs, z.has K H xs ∧ rows = enV xs
def tnE (N : Addr) (z : Zs) (i : Nat) (h : Heap) : Prop := (∃ old, IsEnum h (N + 1) N (0 + (i : Int)) old) ∧ z.st N i h
theorem ne1 {N : Addr} : N + 1 ≠ N := Nat.succ_ne_self _
theorem turn_en {P : Program} {w : World} {K : PySem.W.Frag} {elts : List Expr} {kk : Nat} {tpos : Pos} {N : Addr} {z : Zs} (l1 : ∀ b ∈ z.fp, b < N) :
    Turn P w K (.Tuple elts kk tpos) (ItR (hasE K z)) [N, N + 1] (N + 1) (tnE N z) := by
  refine turn_rows (wr := [N + 1, N]) (by simp) (fun b hb => ?_) (fun i h st b hb => ?_) (fun i h h' st k => ?_) (fun A i s Q E st h => ?_) (fun X hP hw hK hc i pins s σ H I st rows hr => ?_) (fun X hK pins s σ H I r1 r2 h1 h2 => ?_)
  · have : b = N + 1 ∨ b = N := by simpa using hb
    rcases this with q | q <;> simp [q]
  · obtain ⟨⟨old, q1⟩, q2⟩ := st
    have : b = N ∨ b = N + 1 := by simpa using hb
    rcases this with e | e <;> subst e
    · exact Zs.obj q2
    · exact ⟨_, q1, fun v z => nomatch z⟩
  · obtain ⟨⟨old, q1⟩, q2⟩ := st
    exact ⟨⟨old, k _ (by simp) _ q1⟩, Zs.kp (k _ (by simp)) q2⟩
  · obtain ⟨⟨old, q1⟩, q2⟩ := st
    exact wpAny_pyIter_enum q1 h
  · subst hP hw hK
    obtain ⟨xs, h1, e⟩ := hr
    obtain ⟨q1, q2⟩ := st
    have hh := I.ok.hd hc
    obtain ⟨P1, Q1, D1, s1, t1, v1⟩ := Zs.draws I hh h1 (fun z => Nat.lt_irrefl N (l1 _ z)) q2
    have hni : N + 1 ∉ N :: z.fp := fun m => by
      rcases List.mem_cons.mp m with q | q
      · exact ne1 q
      · exact absurd (l1 _ q) (Nat.not_lt.mpr (Nat.le_add_right _ _))
    have W := WalksT.enumFrom (A := X.A) 0 D1 (N + 1) ne1 hni (List.mem_cons_self ..)
    have el : rows.length = xs.length := by rw [e]; simp [enV]
    rw [← el] at W
    refine ⟨_, _, _, _, W, ⟨q1, s1⟩, fun j h ⟨a1, a2⟩ => ⟨a1, t1 _ _ a2⟩, ?_⟩
    rintro j vals ⟨t, x1, p1, ev⟩
    subst ev
    obtain ⟨y1, g1, r1⟩ := v1 j x1 p1
    refine ⟨[.int (j : Nat), y1], ?_, .cons ⟨t, by simp⟩ (.cons r1 .nil), by simp⟩
    rw [e]
    unfold enV
    rw [List.getElem?_map, List.getElem?_zipIdx, g1]
    simp
  · subst hK
    obtain ⟨xs, a1, a2⟩ := h1
    obtain ⟨xs', b1, b2⟩ := h2
    rw [a2, b2, Zs.inj I a1 b1]
def Zs.nt : Zs → Prop
  | .t _ => False
  | _ => True
def iEn (K : PySem.W.Frag) (ta : TA) : TI := fun σ H R => ta σ H fun vs H1 => ∃ z xs, vs = [Zs.val z] ∧ z.has K H1 xs ∧ z.nt ∧ R (ItR (hasE K z)) H1
theorem pi_en {X : Cx} {e : Expr} {ta : TA} {p pos tpos : Pos} {elts : List Expr} {kk : Nat} (hg : Gl X "enumerate") (hm : X.mg "enumerate" = none) (ha : PA X [e] ta) (hs : starEach [e] X.env = [(false, eval e X.env)] := by rfl) :
    PI X (.Tuple elts kk tpos) (.Call (.Name "enumerate" p) [e] [] pos) (iEn X.K ta) := by
  refine ⟨fun pins s σ H R I h => ?_⟩
  refine PyProof.Rows.Call_ (ld_blt I hg hm PyProof.Rows.boot_enumerate (PyProof.Rows.callWith_type1 (thn (ha.run pos pins s σ H _ I h) fun us s1 q0 => ?_) hs rfl))
  obtain ⟨vs, H1, I1, r1, z, xs, ev, h1, nt, q⟩ := q0
  subst ev
  cases r1 with
  | cons r rr =>
    cases rr
    have go : ∀ {h' : Heap}, IsEnum h' (s1.heap.objs.size + 1) s1.heap.objs.size 0 .none → z.st s1.heap.objs.size 0 h' → (∀ b o, s1.heap.get? b = some o → h'.get? b = some o) →
        wpAny (model X.prog X.w) X.A (pyIter (.ref (s1.heap.objs.size + 1))) (PIE X pins σ (.Tuple elts kk tpos) R) X.xe { s1 with heap := h' } := fun {h'} he st k => by
      refine wpAny_pyIter_enum he ?_
      have I2 : Inv X pins σ H1 { s1 with heap := h' } := I1.kept (t' := s1.toks) k
      refine ⟨s1.heap.objs.size + 1, _, _, _, H1, rfl, I2, turn_en (Zs.low I1 h1), ⟨⟨.none, by simpa using he⟩, st⟩, fun c hc => ?_, q⟩
      have hle : s1.heap.objs.size ≤ c := by
        have : c = s1.heap.objs.size ∨ c = s1.heap.objs.size + 1 := by simpa using hc
        rcases this with z | z <;> rw [z] <;> first | exact Nat.le_refl _ | exact Nat.le_add_right _ _
      exact I1.fpOk hle (I1.hok.fresh hle)
    cases z with
    | t a => exact nt.elim
    | l a =>
      obtain ⟨its, _, p1, _⟩ := I1.list h1
      cases r
      exact call_enumerate_list p1.isList fun h' he hit hsz k => go he hit k
    | s x =>
      obtain ⟨t, e⟩ := r
      subst e
      exact call_enumerate_str fun h' he hit hsz k => go he ⟨t, hit⟩ k

/-! ### by data -/
def zD : D → Option (List D)
  | .lst ds => some ds
  | .tup ds => some ds
  | .str z => some (sgs z)
  | _ => none
def zOf : D → V → Zs
  | .lst _, .ref a => .l a
  | .tup _, .ref a => .t a
  | .str x, _ => .s x
  | _, _ => .s ⟨#[]⟩
theorem sgs_rep {K : PySem.W.Frag} {H : Hp} {A : Addr → Prop} : ∀ cs : List Nat, RepL K H A (cs.map fun c => D.str ⟨#[c]⟩) (cs.map fun c => V.str ⟨#[c]⟩)
  | [] => by unfold RepL; rfl
  | c :: cs => by
    rw [List.map_cons, List.map_cons]
    unfold RepL
    exact ⟨_, _, rfl, by unfold Rep; rfl, sgs_rep cs⟩
theorem rep_zs {K : PySem.W.Frag} {H : Hp} {A : Addr → Prop} {d : D} {ds : List D} {v : V} (e : zD d = some ds) (h : Rep K H A d v) : v = (zOf d v).val ∧ ∃ xs, (zOf d v).has K H xs ∧ RepL K H A ds xs := by
  cases d with
  | lst ds' =>
    cases e
    obtain ⟨a, xs, e1, h1, h2⟩ := RepB.lst (.inl h)
    subst e1
    exact ⟨rfl, xs, h1, h2⟩
  | tup ds' =>
    cases e
    obtain ⟨a, xs, e1, h1, h2⟩ := RepB.tup (.inl h)
    subst e1
    exact ⟨rfl, xs, h1, h2⟩
  | str x =>
    cases e
    obtain rfl := RepB.str (.inl h)
    exact ⟨rfl, _, rfl, sgs_rep _⟩
  | _ => cases e
theorem src_rows {K : PySem.W.Frag} {has : Hp → List (List V) → Prop} {items : List D} {G : (Addr → Prop) → Hp → Prop} (hk : ∀ (A A' : Addr → Prop) (H H' : Hp), AOk A H → Keep A A' H H' → G A H → G A' H')
    (hr : ∀ (A : Addr → Prop) (H : Hp), AOk A H → G A H → ∃ rows, has H rows ∧ rows.length = items.length ∧ ∀ (i : Nat) row, rows[i]? = some row → ∃ ds, items[i]? = some (.tup ds) ∧ RepL K H A ds row) : Src K (ItR has) items G := by
  refine ⟨hk, fun A i H ak hi g => ?_, fun A H ak g => ?_, fun A i H x H' ak hi g y => ?_⟩
  · obtain ⟨rows, h1, h2, _⟩ := hr A H ak g
    exact ⟨rows, h1, by rw [h2]; exact hi⟩
  · obtain ⟨rows, h1, h2, _⟩ := hr A H ak g
    exact ⟨rows, h1, h2⟩
  · obtain ⟨rows, h1, h2, h3⟩ := hr A H ak g
    obtain ⟨T, row, e1, n, e2, f⟩ := y
    obtain ⟨ds, e3, h4⟩ := h3 i row (f rows h1)
    subst e1 e2
    exact ⟨same_upd n, _, e3, rep_newtup ak h4 n⟩
theorem repL_getR {K : PySem.W.Frag} {H : Hp} {A : Addr → Prop} {ds : List D} {vs : List V} {i : Nat} {v : V} (h : RepL K H A ds vs) (e : vs[i]? = some v) : ∃ d, ds[i]? = some d ∧ Rep K H A d v := by
  have hi : i < ds.length := by rw [← repL_length h]; exact (List.getElem?_eq_some_iff.mp e).1
  obtain ⟨v', e', r⟩ := repL_get h (List.getElem?_eq_getElem hi)
  rw [e] at e'
  cases e'
  exact ⟨_, List.getElem?_eq_getElem hi, r⟩
theorem repL2 {K : PySem.W.Frag} {H : Hp} {A : Addr → Prop} {d e : D} {v u : V} (h : Rep K H A d v) (h2 : Rep K H A e u) : RepL K H A [d, e] [v, u] := by
  unfold RepL
  refine ⟨v, [u], rfl, h, ?_⟩
  unfold RepL
  refine ⟨u, [], rfl, h2, ?_⟩
  unfold RepL
  rfl
theorem repL3 {K : PySem.W.Frag} {H : Hp} {A : Addr → Prop} {d e f : D} {v u w : V} (h : Rep K H A d v) (h2 : Rep K H A e u) (h3 : Rep K H A f w) : RepL K H A [d, e, f] [v, u, w] := by
  unfold RepL
  exact ⟨v, [u, w], rfl, h, repL2 h2 h3⟩
def zip2D : List D → Option (List D)
  | [d, e] => (zD d).bind fun xs => (zD e).bind fun ys => some (List.zipWith (fun x y => D.tup [x, y]) xs ys)
  | _ => none
def zip3D : List D → Option (List D)
  | [d, e, f] => (zD d).bind fun xs => (zD e).bind fun ys => (zD f).bind fun us => some (List.zipWith (fun x (r : D × D) => D.tup [x, r.1, r.2]) xs (List.zipWith (fun y u => (y, u)) ys us))
  | _ => none
def enD : List D → Option (List D)
  | [.lst xs] => some (xs.zipIdx.map fun p => D.tup [.int (p.2 : Nat), p.1])
  | [.str z] => some ((sgs z).zipIdx.map fun p => D.tup [.int (p.2 : Nat), p.1])
  | _ => none
section
variable {X : Cx} {W : WX} {a b c : Expr} {elts : List Expr} {kk : Nat} {p pos tpos : Pos} {g : Env → R (List D)}
theorem src_z2 {K : PySem.W.Frag} {d1 d2 : D} {v1 v2 : V} {xs ys : List D} (e1 : zD d1 = some xs) (e2 : zD d2 = some ys) :
    Src K (ItR (has2 K (zOf d1 v1) (zOf d2 v2))) (List.zipWith (fun x y => D.tup [x, y]) xs ys) (fun A H => Rep K H A d1 v1 ∧ Rep K H A d2 v2) := by
  refine src_rows (fun A A' H H' ak k h => ⟨Rep.keep k ak _ _ h.1, Rep.keep k ak _ _ h.2⟩) fun A H ak h => ?_
  obtain ⟨h1, h2⟩ := h
  obtain ⟨_, us, g1, g2⟩ := rep_zs e1 h1
  obtain ⟨_, ws, g3, g4⟩ := rep_zs e2 h2
  refine ⟨_, ⟨us, ws, g1, g3, rfl⟩, by simp [repL_length g2, repL_length g4], fun i row e => ?_⟩
  rw [List.getElem?_zipWith] at e
  cases q1 : us[i]? with
  | none => rw [q1] at e; cases e
  | some u =>
    cases q2 : ws[i]? with
    | none => rw [q1, q2] at e; cases e
    | some u' =>
      rw [q1, q2] at e
      cases e
      obtain ⟨x, f1, r1⟩ := repL_getR g2 q1
      obtain ⟨y, f2, r2⟩ := repL_getR g4 q2
      exact ⟨[x, y], by rw [List.getElem?_zipWith, f1, f2], repL2 r1 r2⟩
theorem repL_two {K : PySem.W.Frag} {H : Hp} {A : Addr → Prop} {d e : D} {vs : List V} (h : RepL K H A [d, e] vs) : ∃ v w, vs = [v, w] ∧ Rep K H A d v ∧ Rep K H A e w := by
  unfold RepL at h
  obtain ⟨v, r, e1, h1, h2⟩ := h
  unfold RepL at h2
  obtain ⟨w, r', e2, h3, h4⟩ := h2
  unfold RepL at h4
  subst h4 e2 e1
  exact ⟨v, w, rfl, h1, h3⟩
theorem p_zip2 (hg : Gl X "zip") (hm : X.mg "zip" = none) (h : DPs X W [a, b] g)
    (hs : starEach [a, b] X.env = (false, eval a X.env) :: starEach [b] X.env := by rfl) (hpl : (backTo pos (starEach [b] X.env)).any (·.1) = false := by rfl) :
    DIp X W (.Tuple elts kk tpos) (.Call (.Name "zip" p) [a, b] [] pos) (itN zip2D g) := by
  obtain ⟨t, pe, w⟩ := h
  refine ⟨_, pi_z2 hg hm pe hs hpl, fun F os r σ H Q R S => w F os r σ H _ R (S.bind.imp fun ds S vs H1 s1 h1 => ?_)⟩
  obtain ⟨its, e, S⟩ := Sat.ofO S
  match ds, e with
  | [d, e'], e =>
    obtain ⟨v, w', ev, r1, r2⟩ := repL_two h1
    subst ev
    obtain ⟨xs, e1, e⟩ := Option.bind_eq_some_iff.mp e
    obtain ⟨ys, e2, e⟩ := Option.bind_eq_some_iff.mp e
    cases e
    obtain ⟨q1, us, g1, g2⟩ := rep_zs e1 r1
    obtain ⟨q2, ws, g3, g4⟩ := rep_zs e2 r2
    exact ⟨_, _, us, ws, by rw [← q1, ← q2], g1, g3, S _ H1 _ (src_z2 e1 e2) s1 ⟨r1, r2⟩⟩
end
end DL

set_option maxHeartbeats 2000000
namespace DL
open PySem PyProof.Rows

/-! ### reversed(text) -/
theorem str_norev : typeLookup (.type "str") "__reversed__" = pure none := by
  rw [typeLookup_type, builtinLookup_eq_fast] <;> kernel_rfl
theorem str_getit : typeLookup (.type "str") "__getitem__" = pure (some (.builtin "str.__getitem__")) := by
  rw [typeLookup_type, builtinLookup_eq_fast] <;> kernel_rfl
theorem str_nodict : isSubtype (.type "str") (.type "dict") = pure false := by
  rw [isSubtype_type] <;> kernel_rfl
def rvO (x : Str) (t : Tok) (i : Int) : Obj := { cls := .type "reversed", data := .fields #[.str x t, rawInt i] }
def IsRv (h : Heap) (a : Addr) (x : Str) (t : Tok) (i : Int) : Prop := ∃ o, h.get? a = some o ∧ o.cls = .type "reversed" ∧ o.data = .fields #[.str x t, rawInt i]
section
variable {prog : Program} {w : World} {A : Around} {E : Value → Shared → Prop} {s : Shared} {x : Str} {t : Tok}
theorem IsRv.ty {a : Addr} {i : Int} (q : IsRv s.heap a x t i) : s.TypeIs (.ref a) "reversed" := let ⟨o, ho, hc, _⟩ := q; ⟨o, ho, hc⟩
theorem rv_code {Q : Value → Shared → Prop} (hfit : ¬ (x.length : Int) ≥ 2 ^ 63) (h : Q (.ref s.heap.objs.size) { s with heap := s.heap.push (rvO x t ((x.length : Int) - 1)), toks := s.toks + 1 + 1 }) :
    codeAny (model prog w) A (.call (.builtin "reversed.__new__") ⟨[.type "reversed", .str x t], []⟩) (wants Q E) s := by
  have hT := typeIs_str s x t
  refine codeAny_of_tree ?_
  show wpAny _ A.in1 (do checkBuiltinCall "reversed.__new__" ⟨[.type "reversed", .str x t], []⟩; again (.builtin "reversed.__new__" ⟨[.type "reversed", .str x t], []⟩)) _ _ s
  refine wpAny_bind (wpAny_of_eq (F.newCall_reversed_1 _) (wpAny_pure ⟨plainId_quiet F.plain_reversed_new _, codeAny_builtin F.entry_reversed_new ?_⟩)); rw [Around.under_plainId F.plain_reversed_new _]
  unfold Builtin.«reversed.__new__»
  refine wpAny_bind (wpAny_of_eq (newClass_reversed _) ?_); try dsimp only
  refine wpAny_bind (wpAny_of_eq (a := ()) (by first | rfl | kernel_rfl) ?_); try dsimp only
  refine wpAny_bind (wpAny_of_eq (a := ()) (by first | rfl | kernel_rfl) ?_); try dsimp only
  refine wpAny_bind (wpAny_specialOf hT str_norev ?_); try dsimp only
  refine wpAny_bind ?_; wp_delta
  refine wpAny_bind (wpAny_isInstance (T := "str") (U := "dict") (b := false) hT str_nodict ?_); try dsimp only
  try rw [if_neg Bool.false_ne_true]
  try dsimp only
  refine wpAny_bind (wpAny_specialOf hT str_getit ?_); try dsimp only
  try rw [if_pos (by decide +kernel)]
  refine wpAny_pure ?_; try dsimp only
  try rw [if_neg (by decide)]
  try dsimp only
  refine wpAny_bind (len_str hfit ?_)
  refine wpAny_bind (wpAny_of_eq (a := some ((x.length : Nat) : Int)) rfl ?_); try dsimp only
  refine wpAny_bind ?_
  show wpAny _ _ (newObj (.type "reversed") (.fields #[.str x t, rawInt ((x.length : Int) - 1)])) _ _ _
  exact wpAny_newObj_type (wpAny_pure h)
theorem call_rv {Q : Value → Shared → Prop} (hfit : ¬ (x.length : Int) ≥ 2 ^ 63) (h : Q (.ref s.heap.objs.size) { s with heap := s.heap.push (rvO x t ((x.length : Int) - 1)), toks := s.toks + 1 + 1 }) :
    wpAny (model prog w) A (call (.type "reversed") [.str x t]) Q E s := by
  refine callType_codes (Q₁ := fun ob s' => s'.TypeIs ob "reversed" ∧ Q ob s') RT.called_rt (F.typeCall_reversed_1 _) F.entry_object_init (rv_code (A := A.in1) hfit ⟨⟨_, Heap.get?_push_size _ rfl, rfl⟩, h⟩) fun ob s' h' => ?_
  exact ⟨h'.1, F.args_object_init_2 ob _, object_init_meets RT.called_rt.init.lookup RT.called_rt.made (by decide) prog w A.in1 _ s' ⟨h'.1, rfl, h'.2⟩⟩
theorem rv_item {it : Addr} {i c : Nat} {Q : Option Value → Shared → Prop} (hit : IsRv s.heap it x t (i : Int)) (hx : x.cps[i]? = some c) (hsz : x.length ≤ sizeLine)
    (hQ : ∀ h', IsRv h' it x t ((i : Int) - 1) → Heap.SameBut it s.heap h' → Q (some (.str ⟨#[c]⟩ (s.toks + 1))) { s with heap := h', toks := s.toks + 1 + 1 }) : wpAny (model prog w) A (pyNext (.ref it)) Q E s := by
  obtain ⟨o, ho, hc, hd⟩ := id hit
  have hi : i < x.cps.size := (Array.getElem?_eq_some_iff.mp hx).1
  have hT := typeIs_str s x t
  rw [sizeLine_eq] at hsz
  unfold pyNext
  refine wpAny_bind (wpAny_attempt (wpAny_callSpecial?_slot (name := Str.ofString "__next__") hit.ty RT.slot_rt_next (wpAny_call_entry RT.slot_rt_next hit.ty RT.entry_rt_next ?_ (RT.args_rt_next _))))
  unfold Builtin.«reversed.__next__»
  refine wpAny_bind (wpAny_of_eq (a := (Value.ref it, [])) rfl ?_); try dsimp only
  refine wpAny_bind (wpAny_field ho hd (x := .str x t) rfl ?_); try dsimp only
  refine wpAny_bind (wpAny_field ho hd (x := rawInt (i : Int)) rfl ?_)
  show wpAny _ _ (if (i : Int) < 0 then _ else _) _ _ s
  rw [if_neg (by omega)]
  try dsimp only
  refine wpAny_bind (wpAny_specialOf hT str_getit ?_); try dsimp only
  try rw [if_neg (by decide)]
  try dsimp only
  refine wpAny_bind (wpAny_mkInt (wpAny_bind (wpAny_attempt ?_)))
  have hi' : i < x.length := hi
  have h1 : ¬ ((i : Int) < -(2 ^ 63)) := by omega
  have h2 : ¬ ((i : Int) ≥ 2 ^ 63) := by omega
  have fin : (seqIndex? (i : Int) x.length).bind (x.cps[·]?) = some c := by
    rw [seqIndex_of (k := (i : Int)) (n := x.length) (by omega) (by omega)]
    exact hx
  refine getItem_str (s := { s with toks := s.toks + 1 }) (by rw [decide_eq_false h1, decide_eq_false h2] <;> rfl) fin ?_
  try dsimp only
  refine wpAny_bind (wpAny_field (s := { s with toks := s.toks + 1 + 1 }) ho hd (x := rawInt (i : Int)) rfl ?_); try dsimp only
  refine wpAny_bind (wpAny_setField (s := { s with toks := s.toks + 1 + 1 }) ho hd (by simp) ?_)
  first
  | refine wpAny_pure ⟨_, rfl, wpAny_pure (hQ _ ?_ (Heap.SameBut.update ..))⟩
  | refine wpAny_bind (wpAny_pure (wpAny_pure ⟨_, rfl, wpAny_pure (hQ _ ?_ (Heap.SameBut.update ..))⟩))
  exact ⟨_, Heap.get?_update_self _ ho (Obj.isFreed_of_fields (Obj.data_mapFields hd _)), (Obj.cls_mapFields ..).trans hc, by rw [Obj.data_mapFields hd] <;> simp⟩
theorem rv_end {it : Addr} {Q : Option Value → Shared → Prop} (hh : A.handled = none) (hit : IsRv s.heap it x t (-1)) (hQ : ∀ h', Heap.ExtBut it s.heap h' → Q none { s with heap := h' }) : wpAny (model prog w) A (pyNext (.ref it)) Q E s := by
  obtain ⟨o, ho, hc, hd⟩ := id hit
  unfold pyNext
  refine wpAny_bind (wpAny_attempt (wpAny_callSpecial?_slot (name := Str.ofString "__next__") hit.ty RT.slot_rt_next (wpAny_call_entry RT.slot_rt_next hit.ty RT.entry_rt_next ?_ (RT.args_rt_next _))))
  unfold Builtin.«reversed.__next__»
  refine wpAny_bind (wpAny_of_eq (a := (Value.ref it, [])) rfl ?_); try dsimp only
  refine wpAny_bind (wpAny_field ho hd (x := .str x t) rfl ?_); try dsimp only
  refine wpAny_bind (wpAny_field ho hd (x := rawInt (-1)) rfl ?_)
  show wpAny _ _ (if (-1 : Int) < 0 then _ else _) _ _ s
  rw [if_pos (by decide)]
  try dsimp only
  refine wpAny_bind (wpAny_rule (wpAny_bind ?_)); wp_delta
  have d2 := Obj.data_mapFields hd fun vs => vs.setIfInBounds 1 (rawInt (-1))
  have ho2 := Heap.get?_update_self (Obj.mapFields (·.setIfInBounds 1 (rawInt (-1)))) ho (Obj.isFreed_of_fields (Obj.data_mapFields hd _))
  refine wpAny_bind (wpAny_setField ho hd (by simp) (wpAny_setField (s := { s with heap := s.heap.update it (Obj.mapFields (·.setIfInBounds 1 (rawInt (-1)))) }) ho2 (Obj.data_mapFields hd _) (by simp) ?_)); try dsimp only
  have fin : ∀ {k : Nat}, True := fun {_} => trivial
  first
  | (refine wpAny_bind (wpAny_letGo ?_); show wpAny _ _ (newExc (.type "StopIteration") [] >>= _) _ _ _)
  | show wpAny _ _ (newExc (.type "StopIteration") [] >>= _) _ _ _
  | (refine wpAny_bind ?_; show wpAny _ _ (newExc (.type "StopIteration") [] >>= _) _ _ _)
  | (refine wpAny_bind ?_; wp_delta; show wpAny _ _ (newExc (.type "StopIteration") [] >>= _) _ _ _)
  refine wpAny_bind ?_; simp only [newExc, newTuple]
  refine wpAny_bind (wpAny_newObj_type ?_ (by size_fits)); refine wpAny_bind (m := firstArgMember _ _) (wpAny_of_eq (a := Value.none) (by first | rfl | (simp only [firstArgMember]; rfl)) ?_)
  refine wpAny_newObj_type ?_ (by size_fits); simp only [raiseNew]
  refine wpAny_bind (wpAny_handled ?_)
  first | rw [show A.in1.handled = none from hh] | rw [hh]
  refine wpAny_bind (wpAny_pure (wpAny_throw ?_)); refine wpAny_bind (wpAny_isInstance (T := "StopIteration") (b := true) ⟨_, Heap.get?_push_size _ rfl, rfl⟩ isSubtype_stop ?_); refine wpAny_pure (hQ _ ?_)
  refine ((?_ : Heap.ExtBut it s.heap _).push _).push _
  exact fun b ob hb e => (Heap.get?_update_other _ _ (Ne.symm hb)).trans ((Heap.get?_update_other _ _ (Ne.symm hb)).trans e)
theorem rv_iter {it : Addr} {i : Int} {Q : Value → Shared → Prop} (hit : IsRv s.heap it x t i) (h : Q (.ref it) s) : wpAny (model prog w) A (pyIter (.ref it)) Q E s := by
  refine wpAny_pyIter_slot hit.ty RT.slot_rt_iter (wpAny_call_entry RT.slot_rt_iter hit.ty RT.entry_rt_iter ?_ (RT.args_rt_iter _))
  show wpAny _ _ (ret (.ref it)) _ _ s
  exact wpAny_pure ⟨_, rfl, "reversed", _, hit.ty, RT.slot_rt_next.lookup, h⟩
end
end DL

namespace DL
open PySem L2

/-! ### reversed(text), as items -/
def ItvS (x : Str) : It := ⟨fun i _ => i < x.length, fun i H v H' => H' = H ∧ ∃ c, x.cps[x.length - 1 - i]? = some c ∧ v = .str ⟨#[c]⟩, fun i _ => x.length ≤ i⟩
theorem turn_rv {P : Program} {w : World} {K : PySem.W.Frag} {tg : Expr} (it : Addr) (x : Str) (t : Tok) (hx : x.length ≤ sizeLine) : Turn P w K tg (ItvS x) [it] it (fun i h => i ≤ x.length ∧ IsRv h it x t ((x.length : Int) - 1 - (i : Nat))) where
  mem := by simp
  obj := fun i h st b hb => by
    cases List.mem_singleton.mp hb
    obtain ⟨_, o, e, c, d⟩ := st
    exact ⟨o, e, fun v z => by rw [d] at z; cases z⟩
  keep := fun i h h' st k => by
    obtain ⟨q, o, e, r⟩ := st
    exact ⟨q, o, k it (by simp) o e, r⟩
  item := by
    intro X hP hw hK hc i pins s σ H E I hf st hg
    subst hP hw hK
    obtain ⟨hin, hit⟩ := st
    have hlt : i < x.length := hg
    have hlt2 : x.length - 1 - i < x.cps.size := by
      show x.length - 1 - i < x.length
      omega
    obtain ⟨f0, f1, f2, f3, f4, f5⟩ := hf it (by simp)
    have e1 : (x.length : Int) - 1 - ((i : Nat) : Int) = ((x.length - 1 - i : Nat) : Int) := by omega
    rw [e1] at hit
    have hcx : x.cps[x.length - 1 - i]? = some (x.cps[x.length - 1 - i]'hlt2) := Array.getElem?_eq_getElem hlt2
    refine rv_item hit hcx hx fun h' st' sb => ?_
    have e2 : ((x.length - 1 - i : Nat) : Int) - 1 = (x.length : Int) - 1 - ((i + 1 : Nat) : Int) := by omega
    rw [e2] at st'
    have I1 : Inv X pins σ H { s with heap := h', toks := s.toks + 1 + 1 } := I.turned (t' := s.toks + 1 + 1) (fun b o hb e => (sb.2 b hb).trans e) f0 f1 f3 f4 f5
    obtain ⟨o, e, c, d⟩ := id st'
    exact ⟨_, rfl, go_of (s := { s with heap := h', toks := s.toks + 1 + 1 }) e c d (by decide) ⟨.str ⟨#[_]⟩, H, I1, ⟨_, rfl⟩, ⟨rfl, _, hcx, rfl⟩, ⟨hlt, st'⟩, fun b hb => (hf b hb).1⟩⟩
  done := by
    intro X hP hw hK hc i pins s σ H E I hf st hg
    subst hP hw hK
    obtain ⟨f0, f1, f2, f3, f4, f5⟩ := hf it (by simp)
    obtain ⟨hin, hit⟩ := st
    have hge : x.length ≤ i := hg
    have e1 : (x.length : Int) - 1 - ((i : Nat) : Int) = -1 := by omega
    rw [e1] at hit
    exact rv_end (I.ok.hd hc) hit fun h' eb => ⟨rfl, I.turned (t' := s.toks) (fun b o hb e => eb b o hb e) f0 f1 f3 f4 f5⟩
  self := fun A i s Q E st h => rv_iter st.2 h
def iRevS (te : TE) : TI := fun σ H R => te σ H fun v H1 => ∃ x : Str, v = .str x ∧ x.length ≤ sizeLine ∧ R (ItvS x) H1
section
variable {X : Cx} {W : WX} {tg e a b c : Expr} {p pos tpos : Pos} {elts : List Expr} {kk : Nat} {g : Env → R (List D)} {f fa fb : Env → R D}
theorem pi_revS {te : TE} (hg : Gl X "reversed") (hm : X.mg "reversed" = none) (he : PE X e te) (hs : starEach [e] X.env = (false, eval e X.env) :: starEach [] X.env := by rfl) : PI X tg (.Call (.Name "reversed" p) [e] [] pos) (iRevS te) := by
  refine ⟨fun pins s σ H R I h => ?_⟩
  refine PyProof.Rows.Call_ (ld_blt I hg hm PyProof.Rows.boot_reversed (PyProof.Rows.callWith_type1 (PyProof.Rows.args_cons (thn (he.run pins s σ H _ I h) fun u s1 q0 => PyProof.Rows.args_nil ?_) hs) hs rfl))
  obtain ⟨v, H1, I1, r1, x, ev, hx, q⟩ := q0
  subst ev
  obtain ⟨t, eu⟩ := r1
  subst eu
  have hl : ¬ (x.length : Int) ≥ 2 ^ 63 := by
    rw [sizeLine_eq] at hx
    omega
  refine call_rv hl (rv_iter (x := x) (t := t) (i := (x.length : Int) - 1) ⟨_, Heap.get?_push_size _ rfl, rfl, rfl⟩ ?_)
  refine pi_one (tk := s1.toks + 1 + 1) I1 _ (turn_rv _ x t hx) ⟨Nat.zero_le _, ?_⟩ q
  have e0 : (x.length : Int) - 1 - ((0 : Nat) : Int) = (x.length : Int) - 1 := by omega
  rw [e0]
  exact ⟨_, Heap.get?_push_size _ rfl, rfl, rfl⟩
theorem src_rv {K : PySem.W.Frag} {x : Str} : Src K (ItvS x) (sgs x).reverse (fun _ _ => True) := by
  have hl : (sgs x).length = x.length := by simp [sgs]; rfl
  refine ⟨fun _ _ _ _ _ _ h => h, fun A i H ak hi h => ?_, fun A H ak h => ?_, fun A i H v H' ak hi h y => ?_⟩
  · show i < x.length
    rw [List.length_reverse, hl] at hi
    exact hi
  · show x.length ≤ _
    rw [List.length_reverse, hl]
    exact Nat.le_refl _
  · obtain ⟨e1, c, e2, e3⟩ := y
    subst e1 e3
    rw [List.length_reverse, hl] at hi
    refine ⟨Same.of_eq, .str ⟨#[c]⟩, ?_, by unfold Rep; rfl⟩
    rw [List.getElem?_reverse (by rw [hl]; exact hi), hl]
    unfold sgs
    rw [List.getElem?_map, Array.getElem?_toList, e2]
    rfl
theorem src_rl {K : PySem.W.Frag} {a : Addr} {ds : List D} : Src K (Itv K a ds.length) ds.reverse (fun A H => Rep K H A (.lst ds) (.ref a)) := by
  have rd : ∀ {A : Addr → Prop} {H : Hp}, Rep K H A (.lst ds) (.ref a) → ∃ xs, SqL K H a xs ∧ RepL K H A ds xs := fun {A H} h => by
    obtain ⟨b, xs, e, h1, h2⟩ := RepB.lst (.inl h)
    cases e
    exact ⟨xs, h1, h2⟩
  refine ⟨fun A A' H H' ak k h => Rep.keep k ak _ _ h, fun A i H ak hi h => ?_, fun A H ak h => ?_, fun A i H x H' ak hi h y => ?_⟩
  · obtain ⟨xs, h1, h2⟩ := rd h
    rw [List.length_reverse] at hi
    have hj : ds.length - 1 - i < ds.length := by omega
    obtain ⟨v, h3, _⟩ := repL_get h2 (List.getElem?_eq_getElem hj)
    exact ⟨hi, xs, v, h1, h3⟩
  · rw [List.length_reverse]
    exact Nat.le_refl ds.length
  · obtain ⟨xs, h1, h2⟩ := rd h
    obtain ⟨e1, y⟩ := y
    subst e1
    rw [List.length_reverse] at hi
    obtain ⟨d, h3, h4⟩ := repL_getR h2 (y xs h1)
    exact ⟨Same.of_eq, d, by rw [List.getElem?_reverse hi]; exact h3, h4⟩
theorem src_rt {K : PySem.W.Frag} {a : Addr} {ds : List D} : Src K (RT.ItvT K a ds.length) ds.reverse (fun A H => Rep K H A (.tup ds) (.ref a)) := by
  have rd : ∀ {A : Addr → Prop} {H : Hp}, Rep K H A (.tup ds) (.ref a) → ∃ xs, SqT K H a xs ∧ RepL K H A ds xs := fun {A H} h => by
    obtain ⟨b, xs, e, h1, h2⟩ := RepB.tup (.inl h)
    cases e
    exact ⟨xs, h1, h2⟩
  refine ⟨fun A A' H H' ak k h => Rep.keep k ak _ _ h, fun A i H ak hi h => ?_, fun A H ak h => ?_, fun A i H x H' ak hi h y => ?_⟩
  · obtain ⟨xs, h1, h2⟩ := rd h
    rw [List.length_reverse] at hi
    have hj : ds.length - 1 - i < ds.length := by omega
    obtain ⟨v, h3, _⟩ := repL_get h2 (List.getElem?_eq_getElem hj)
    exact ⟨hi, xs, v, h1, h3⟩
  · rw [List.length_reverse]
    exact Nat.le_refl ds.length
  · obtain ⟨xs, h1, h2⟩ := rd h
    obtain ⟨e1, y⟩ := y
    subst e1
    rw [List.length_reverse] at hi
    obtain ⟨d, h3, h4⟩ := repL_getR h2 (y xs h1)
    exact ⟨Same.of_eq, d, by rw [List.getElem?_reverse hi]; exact h3, h4⟩
theorem pi_or {w1 w2 : TI} (h1 : PI X tg e w1) (h2 : PI X tg e w2) : PI X tg e (fun σ H R => w1 σ H R ∨ w2 σ H R) :=
  ⟨fun pins s σ H R I h => h.elim (h1.run pins s σ H R I) (h2.run pins s σ H R I)⟩
def revZ (d : D) : Option (List D) := match d with
  | .str x => if x.length ≤ sizeLine then some (sgs x).reverse else none
  | d => (zD d).map List.reverse
theorem p_rev (hg : Gl X "reversed") (hm : X.mg "reversed" = none) (h : DP X W e f) (hs : starEach [e] X.env = (false, eval e X.env) :: starEach [] X.env := by rfl) : DIp X W tg (.Call (.Name "reversed" p) [e] [] pos) (itX revZ f) := by
  obtain ⟨t, pe, w⟩ := h
  refine ⟨_, pi_or (pi_revS hg hm pe hs) (RT.pi_revA hg hm pe hs), fun F os r σ H Q R S => ?_⟩
  have S0 := S.bind
  cases ef : f r with
  | stk => rw [ef] at S0; exact S0.elim
  | err x r' => exact .inl (w F os r σ H _ R (by rw [ef] at S0 ⊢; exact S0))
  | ok d =>
    rw [ef] at S0
    obtain ⟨its, e0, S⟩ := Sat.ofO S0
    cases d with
    | str x =>
      refine .inl (w F os r σ H _ R ?_)
      rw [ef]
      intro v H1 s1 h1
      rw [RepB.str (.inl h1)]
      unfold revZ at e0
      by_cases hx : x.length ≤ sizeLine
      · simp only [if_pos hx] at e0
        cases e0
        exact ⟨x, rfl, hx, S _ H1 _ src_rv s1 trivial⟩
      · simp only [if_neg hx] at e0
        cases e0
    | lst ds =>
      refine .inr (w F os r σ H _ R ?_)
      rw [ef]
      intro v H1 s1 h1
      cases e0
      obtain ⟨a, xs, ev, h2, h3⟩ := RepB.lst (.inl h1)
      subst ev
      refine ⟨a, xs, rfl, .inl ⟨h2, ?_⟩⟩
      rw [repL_length h3]
      exact S _ H1 _ src_rl s1 h1
    | tup ds =>
      refine .inr (w F os r σ H _ R ?_)
      rw [ef]
      intro v H1 s1 h1
      cases e0
      obtain ⟨a, xs, ev, h2, h3⟩ := RepB.tup (.inl h1)
      subst ev
      refine ⟨a, xs, rfl, .inr ⟨h2, ?_⟩⟩
      rw [repL_length h3]
      exact S _ H1 _ src_rt s1 h1
    | _ => cases e0
theorem src_rc {K : PySem.W.Frag} {lo c : Int} {n : Nat} : Src K (Itc lo c n) ((List.range n).map fun i => D.int (lo + (i : Nat) * c)) (fun _ _ => True) := by
  refine ⟨fun _ _ _ _ _ _ h => h, fun A i H ak hi h => ?_, fun A H ak h => ?_, fun A i H v H' ak hi h y => ?_⟩
  · show i < n
    simpa using hi
  · show n ≤ _
    simp
  · obtain ⟨e1, e2⟩ := y
    subst e1 e2
    have hi' : i < n := by simpa using hi
    exact ⟨Same.of_eq, .int (lo + (i : Nat) * c), by rw [List.getElem?_map, List.getElem?_range hi']; rfl, by unfold Rep; rfl⟩
def rvR (a b : D) : Option (List D) := match a, b with
  | .int i, .int j => if -(2 ^ 62) ≤ i ∧ i < 2 ^ 62 ∧ -(2 ^ 62) ≤ j ∧ j < 2 ^ 62 then some (rngL i (j - i).toNat).reverse else none
  | _, _ => none
theorem rng_rev (lo : Int) (n : Nat) : ((List.range n).map fun i => D.int (lo + (n : Nat) - 1 + (i : Nat) * (-1))) = (rngL lo n).reverse := by
  apply List.ext_getElem?
  intro i
  by_cases h : i < n
  · rw [List.getElem?_map, List.getElem?_range h, List.getElem?_reverse (by rw [rngL_length]; exact h), rngL_length]
    unfold rngL
    rw [List.getElem?_map, List.getElem?_range (by omega)]
    simp only [Option.map_some, Option.some.injEq, D.int.injEq]
    omega
  · rw [List.getElem?_eq_none (by simp; omega), List.getElem?_eq_none (by rw [List.length_reverse, rngL_length]; omega)]
theorem src_rr {K : PySem.W.Frag} {lo hi : Int} : Src K (Itc (lo + (((hi - lo).toNat : Nat) : Int) - 1) (-1) (hi - lo).toNat) (rngL lo (hi - lo).toNat).reverse (fun _ _ => True) := by
  rw [← rng_rev]
  exact src_rc
theorem p_revR1 {p2 pos2 : Pos} (hg : Gl X "reversed") (hm : X.mg "reversed" = none) (hg2 : Gl X "range") (hm2 : X.mg "range" = none) (h : DB X W e f) (na : starEach [e] X.env = (false, eval e X.env) :: starEach [] X.env := by rfl)
    (hs : starEach [.Call (.Name "range" p2) [e] [] pos2] X.env = (false, eval (.Call (.Name "range" p2) [e] [] pos2) X.env) :: starEach [] X.env := by rfl) : DIp X W tg (.Call (.Name "reversed" p) [.Call (.Name "range" p2) [e] [] pos2] [] pos) (itX (rvR (.int 0)) f) := by
  obtain ⟨t, pe, w⟩ := h
  refine ⟨_, pi_revR hg hm (prg_1 hg2 hm2 pe na) hs, fun F os r σ H Q R S => w F os r σ H _ R (S.bind.imp fun d S v H1 s1 h1 => ?_)⟩
  obtain ⟨its, e0, S⟩ := Sat.ofO S
  cases d with
  | int n =>
    rw [RepB.int h1]
    unfold rvR at e0
    by_cases c : -(2 ^ 62) ≤ (0 : Int) ∧ (0 : Int) < 2 ^ 62 ∧ -(2 ^ 62) ≤ n ∧ n < 2 ^ 62
    · simp only [if_pos c] at e0
      cases e0
      exact ⟨n, rfl, c.1, c.2.1, c.2.2.1, c.2.2.2, S _ H1 _ src_rr s1 trivial⟩
    · simp only [if_neg c] at e0
      cases e0
  | _ => cases e0
theorem p_revR2 {p2 pos2 : Pos} (hg : Gl X "reversed") (hm : X.mg "reversed" = none) (hg2 : Gl X "range") (hm2 : X.mg "range" = none) (ha : DB X W a fa) (hb : DB X W b fb) (na : starEach [a, b] X.env = (false, eval a X.env) :: starEach [b] X.env := by rfl)
    (nb : starEach [b] X.env = (false, eval b X.env) :: starEach [] X.env := by rfl) (hp : (backTo pos2 (starEach [b] X.env)).any (·.1) = false := by rfl)
    (hs : starEach [.Call (.Name "range" p2) [a, b] [] pos2] X.env = (false, eval (.Call (.Name "range" p2) [a, b] [] pos2) X.env) :: starEach [] X.env := by rfl) : DIp X W tg (.Call (.Name "reversed" p) [.Call (.Name "range" p2) [a, b] [] pos2] [] pos) (fun r => (fa r).bind fun x => (fb r).bind fun y => R.ofO (rvR x y)) := by
  obtain ⟨ta, pa, wa⟩ := ha
  obtain ⟨tb, pb, wb⟩ := hb
  refine ⟨_, pi_revR hg hm (prg_2 hg2 hm2 pa pb na nb hp) hs, fun F os r σ H Q R S => wa F os r σ H _ R (S.bind.imp fun d S v H1 s1 h1 => wb F os r σ H1 _ (R.same' s1) (S.bind.imp fun d2 S v2 H2 s2 h2 => ?_))⟩
  obtain ⟨its, e0, S⟩ := Sat.ofO S
  cases d with
  | int i =>
    cases d2 with
    | int j =>
      rw [RepB.int h1, RepB.int h2]
      unfold rvR at e0
      by_cases c : -(2 ^ 62) ≤ i ∧ i < 2 ^ 62 ∧ -(2 ^ 62) ≤ j ∧ j < 2 ^ 62
      · simp only [if_pos c] at e0
        cases e0
        exact ⟨i, j, rfl, rfl, c.1, c.2.1, c.2.2.1, c.2.2.2, S _ H2 _ src_rr (s1.trans s2) trivial⟩
      · simp only [if_neg c] at e0
        cases e0
    | _ => cases e0
  | _ => cases e0
/-- what a list, a tuple or a text gives -/
theorem p_any (h : DP X W e f) : DIp X W tg e (itX zD f) := by
  obtain ⟨t, pe, w⟩ := h
  refine ⟨_, pi_or (pi_list pe) (pi_or (pi_tup pe) (pi_str pe)), fun F os r σ H Q R S => ?_⟩
  have S0 := S.bind
  cases ef : f r with
  | stk => rw [ef] at S0; exact S0.elim
  | err x r' => exact .inl (w F os r σ H _ R (by rw [ef] at S0 ⊢; exact S0))
  | ok d =>
    rw [ef] at S0
    obtain ⟨its, e0, S⟩ := Sat.ofO S0
    cases d with
    | str x =>
      refine .inr (.inr (w F os r σ H _ R ?_))
      rw [ef]
      intro v H1 s1 h1
      cases e0
      rw [RepB.str (.inl h1)]
      exact ⟨x, rfl, S _ H1 _ src_str s1 trivial⟩
    | lst ds =>
      refine .inl (w F os r σ H _ R ?_)
      rw [ef]
      intro v H1 s1 h1
      cases e0
      obtain ⟨a, xs, ev, h2, h3⟩ := RepB.lst (.inl h1)
      subst ev
      exact ⟨a, rfl, ⟨xs, h2⟩, S _ H1 _ src_list s1 h1⟩
    | tup ds =>
      refine .inr (.inl (w F os r σ H _ R ?_))
      rw [ef]
      intro v H1 s1 h1
      cases e0
      obtain ⟨a, xs, ev, h2, h3⟩ := RepB.tup (.inl h1)
      subst ev
      exact ⟨a, rfl, ⟨xs, h2⟩, S _ H1 _ src_tup s1 h1⟩
    | _ => cases e0
theorem repL_three {K : PySem.W.Frag} {H : Hp} {A : Addr → Prop} {d e f : D} {vs : List V} (h : RepL K H A [d, e, f] vs) : ∃ v w u, vs = [v, w, u] ∧ Rep K H A d v ∧ Rep K H A e w ∧ Rep K H A f u := by
  unfold RepL at h
  obtain ⟨v, r, e1, h1, h2⟩ := h
  obtain ⟨w, u, e2, h3, h4⟩ := repL_two h2
  subst e2 e1
  exact ⟨v, w, u, rfl, h1, h3, h4⟩
theorem src_z3 {K : PySem.W.Frag} {d1 d2 d3 : D} {v1 v2 v3 : V} {xs ys us : List D} (e1 : zD d1 = some xs) (e2 : zD d2 = some ys) (e3 : zD d3 = some us) :
    Src K (ItR (has3 K (zOf d1 v1) (zOf d2 v2) (zOf d3 v3))) (List.zipWith (fun x (r : D × D) => D.tup [x, r.1, r.2]) xs (List.zipWith (fun y u => (y, u)) ys us)) (fun A H => Rep K H A d1 v1 ∧ Rep K H A d2 v2 ∧ Rep K H A d3 v3) := by
  refine src_rows (fun A A' H H' ak k h => ⟨Rep.keep k ak _ _ h.1, Rep.keep k ak _ _ h.2.1, Rep.keep k ak _ _ h.2.2⟩) fun A H ak h => ?_
  obtain ⟨h1, h2, h3⟩ := h
  obtain ⟨_, ts, g1, g2⟩ := rep_zs e1 h1
  obtain ⟨_, ws, g3, g4⟩ := rep_zs e2 h2
  obtain ⟨_, qs, g5, g6⟩ := rep_zs e3 h3
  refine ⟨_, ⟨ts, ws, qs, g1, g3, g5, rfl⟩, by simp [repL_length g2, repL_length g4, repL_length g6], fun i row e => ?_⟩
  rw [List.getElem?_zipWith, List.getElem?_zipWith] at e
  cases q1 : ts[i]? with
  | none => rw [q1] at e; cases e
  | some u =>
    cases q2 : ws[i]? with
    | none => rw [q1, q2] at e; cases e
    | some u' =>
      cases q3 : qs[i]? with
      | none => rw [q1, q2, q3] at e; cases e
      | some u'' =>
        rw [q1, q2, q3] at e
        cases e
        obtain ⟨x, f1, r1⟩ := repL_getR g2 q1
        obtain ⟨y, f2, r2⟩ := repL_getR g4 q2
        obtain ⟨z, f3, r3⟩ := repL_getR g6 q3
        exact ⟨[x, y, z], by rw [List.getElem?_zipWith, List.getElem?_zipWith, f1, f2, f3], repL3 r1 r2 r3⟩
theorem p_zip3 (hg : Gl X "zip") (hm : X.mg "zip" = none) (h : DPs X W [a, b, c] g)
    (hs : starEach [a, b, c] X.env = (false, eval a X.env) :: starEach [b, c] X.env := by rfl) (hpl : (backTo pos (starEach [b, c] X.env)).any (·.1) = false := by rfl) :
    DIp X W (.Tuple elts kk tpos) (.Call (.Name "zip" p) [a, b, c] [] pos) (itN zip3D g) := by
  obtain ⟨t, pe, w⟩ := h
  refine ⟨_, pi_z3 hg hm pe hs hpl, fun F os r σ H Q R S => w F os r σ H _ R (S.bind.imp fun ds S vs H1 s1 h1 => ?_)⟩
  obtain ⟨its, e, S⟩ := Sat.ofO S
  match ds, e with
  | [d, e', f'], e =>
    obtain ⟨v, w', u', ev, r1, r2, r3⟩ := repL_three h1
    subst ev
    obtain ⟨xs, e1, e⟩ := Option.bind_eq_some_iff.mp e
    obtain ⟨ys, e2, e⟩ := Option.bind_eq_some_iff.mp e
    obtain ⟨us, e3, e⟩ := Option.bind_eq_some_iff.mp e
    cases e
    obtain ⟨q1, ts, g1, g2⟩ := rep_zs e1 r1
    obtain ⟨q2, ws, g3, g4⟩ := rep_zs e2 r2
    obtain ⟨q3, qs, g5, g6⟩ := rep_zs e3 r3
    exact ⟨_, _, _, ts, ws, qs, by rw [← q1, ← q2, ← q3], g1, g3, g5, S _ H1 _ (src_z3 e1 e2 e3) s1 ⟨r1, r2, r3⟩⟩
theorem src_en {K : PySem.W.Frag} {d : D} {v : V} {xs : List D} (e1 : zD d = some xs) : Src K (ItR (hasE K (zOf d v))) (xs.zipIdx.map fun p => D.tup [.int (p.2 : Nat), p.1]) (fun A H => Rep K H A d v) := by
  refine src_rows (fun A A' H H' ak k h => Rep.keep k ak _ _ h) fun A H ak h => ?_
  obtain ⟨_, ts, g1, g2⟩ := rep_zs e1 h
  refine ⟨_, ⟨ts, g1, rfl⟩, by simp [enV, repL_length g2], fun i row e => ?_⟩
  unfold enV at e
  rw [List.getElem?_map, List.getElem?_zipIdx] at e
  cases q1 : ts[i]? with
  | none => rw [q1] at e; cases e
  | some u =>
    rw [q1] at e
    cases e
    obtain ⟨x, f1, r1⟩ := repL_getR g2 q1
    exact ⟨[.int ((0 + i : Nat) : Int), x], by rw [List.getElem?_map, List.getElem?_zipIdx, f1]; rfl, repL2 rep_int r1⟩
theorem repL_one {K : PySem.W.Frag} {H : Hp} {A : Addr → Prop} {d : D} {vs : List V} (h : RepL K H A [d] vs) : ∃ v, vs = [v] ∧ Rep K H A d v := by
  unfold RepL at h
  obtain ⟨v, r, e1, h1, h2⟩ := h
  unfold RepL at h2
  subst h2 e1
  exact ⟨v, rfl, h1⟩
theorem p_en (hg : Gl X "enumerate") (hm : X.mg "enumerate" = none) (h : DPs X W [a] g) (hs : starEach [a] X.env = [(false, eval a X.env)] := by rfl) :
    DIp X W (.Tuple elts kk tpos) (.Call (.Name "enumerate" p) [a] [] pos) (itN enD g) := by
  obtain ⟨t, pe, w⟩ := h
  refine ⟨_, pi_en hg hm pe hs, fun F os r σ H Q R S => w F os r σ H _ R (S.bind.imp fun ds S vs H1 s1 h1 => ?_)⟩
  obtain ⟨its, e, S⟩ := Sat.ofO S
  match ds, e with
  | [.lst xs], e =>
    obtain ⟨v, ev, r1⟩ := repL_one h1
    subst ev
    cases e
    obtain ⟨q1, ts, g1, g2⟩ := rep_zs (d := .lst xs) rfl r1
    refine ⟨_, ts, by rw [← q1], g1, ?_, S _ H1 _ (src_en rfl) s1 r1⟩
    cases v <;> trivial
  | [.str z], e =>
    obtain ⟨v, ev, r1⟩ := repL_one h1
    subst ev
    cases e
    obtain ⟨q1, ts, g1, g2⟩ := rep_zs (d := .str z) rfl r1
    exact ⟨_, ts, by rw [← q1], g1, trivial, S _ H1 _ (src_en rfl) s1 r1⟩
end
end DL

namespace DL
open PySem L2
section
variable {X : Cx} {W : WX} {e a b c o : Expr} {es : List Expr} {p pos apos cpos : Pos} {f fa fb fc fo : Env → R D} {g : Env → R (List D)}

theorem Op2F.two {r : R2} {op : D → D → Option D} (h : Op2F X r op) : Op2 X r op := by
  intro A H x y v w d Q ak e h1 h2 k
  refine h A H x y v w d _ ak e h1 h2 fun p H' s n r => k _ H' s ?_
  refine repO_rep r ad_keep (ad_ok ak s r) fun z => ?_
  obtain ⟨o, e2, _⟩ := ak p z
  rw [n] at e2
  cases e2
theorem Op2.or {r1 r2 : R2} {op1 op2 op : D → D → Option D} (h1 : Op2 X r1 op1) (h2 : Op2 X r2 op2) (h : ∀ x y d, op x y = some d → op1 x y = some d ∨ op2 x y = some d) : Op2 X (fun x y H Q => r1 x y H Q ∨ r2 x y H Q) op := by
  intro A H x y v w d Q ak e q1 q2 k
  rcases h x y d e with z | z
  · exact .inl (h1 A H x y v w d Q ak z q1 q2 k)
  · exact .inr (h2 A H x y v w d Q ak z q1 q2 k)
theorem opR_or {op : Value → Value → Sem Value} {r1 r2 : R2} (h1 : OpR X op r1) (h2 : OpR X op r2) : OpR X op (fun x y H Q => r1 x y H Q ∨ r2 x y H Q) :=
  fun pins s σ H x y v u Q I rx ry h => h.elim (h1 pins s σ H x y v u Q I rx ry) (h2 pins s σ H x y v u Q I rx ry)
/-- + of ints, texts, tuples, lists -/
def plusD : D → D → Option D
  | .int i, .int j => some (.int (i + j))
  | .str x, .str y => if x.length + y.length ≤ sizeLine then some (.str (x ++ y)) else none
  | .tup xs, .tup ys => if xs.length + ys.length ≤ sizeLine then some (.tup (xs ++ ys)) else none
  | .lst xs, .lst ys => if xs.length + ys.length ≤ sizeLine then some (.lst (xs ++ ys)) else none
  | _, _ => none
theorem op_plus : OpR X (binaryOp .Add) (fun x y H Q => rAdd3 X.K x y H Q ∨ rCatL X.K x y H Q) := opR_or op_add3 op_catL
theorem o_plus : Op2 X (fun x y H Q => rAdd3 X.K x y H Q ∨ rCatL X.K x y H Q) plusD :=
  Op2.or o_add o_cat.two fun x y d e => by
    cases x with
    | int i => cases y with
      | int j => exact .inl e
      | _ => cases e
    | str i => cases y with
      | str j => exact .inl e
      | _ => cases e
    | tup i => cases y with
      | tup j => exact .inl e
      | _ => cases e
    | lst i => cases y with
      | lst j => exact .inr e
      | _ => cases e
    | _ => cases e
/-- <= of ints, of tuples of ints -/
def intsD : List D → Option (List Int)
  | [] => some []
  | .int i :: r => (intsD r).map fun l => i :: l
  | _ :: _ => none
theorem intsD_rep {K : PySem.W.Frag} {H : Hp} {A : Addr → Prop} : ∀ {ds : List D} {vs : List V} {ns : List Int}, intsD ds = some ns → RepL K H A ds vs → vs = ns.map V.int
  | [], vs, ns, e, h => by
    unfold RepL at h
    subst h
    cases e
    rfl
  | d :: ds, vs, ns, e, h => by
    unfold RepL at h
    obtain ⟨v, r, ev, h1, h2⟩ := h
    subst ev
    cases d with
    | int i =>
      obtain ⟨l, e1, e2⟩ := Option.map_eq_some_iff.mp e
      subst e2
      rw [RepB.int (.inl h1), intsD_rep e1 h2]
      rfl
    | _ => cases e
def lexLe (ns ms : List Int) : Bool := Ob.lexAt (fun j => decide (ns.getD j 0 = ms.getD j 0)) (fun j => decide (ns.getD j 0 ≤ ms.getD j 0)) (decide (ns.length ≤ ms.length)) 0 (min ns.length ms.length)
def leTT : D → D → Option D
  | .tup xs, .tup ys => (intsD xs).bind fun ns => (intsD ys).bind fun ms => some (.bl (lexLe ns ms))
  | _, _ => none
def le2D : D → D → Option D
  | .int i, .int j => some (.bl (decide (i ≤ j)))
  | .tup xs, .tup ys => (intsD xs).bind fun ns => (intsD ys).bind fun ms => some (.bl (lexLe ns ms))
  | _, _ => none
theorem o_leTT : Op2 X (rLeT X.K) leTT := by
  intro A H x y v w d Q ak e h1 h2 k
  cases x with
  | tup xs =>
    cases y with
    | tup ys =>
      obtain ⟨ns, e1, e⟩ := Option.bind_eq_some_iff.mp e
      obtain ⟨ms, e2, e⟩ := Option.bind_eq_some_iff.mp e
      cases e
      obtain ⟨a, us, ev, q1, q2⟩ := RepB.tup h1
      obtain ⟨b, ws, ew, q3, q4⟩ := RepB.tup h2
      rw [intsD_rep e1 q2] at q1
      rw [intsD_rep e2 q4] at q3
      exact ⟨a, b, ns, ms, ev, ew, q1, q3, k _ H Same.of_eq (by unfold Rep; rfl)⟩
    | _ => cases e
  | _ => cases e
theorem op_le2 (hu : X.A.units < cLine) : OpR X (compareOp .LtE) (fun x y H Q => rI0 (fun i j => .bl (decide (i ≤ j))) x y H Q ∨ rLeT X.K x y H Q) := opR_or op_le (op_leT hu)
theorem o_le2 : Op2 X (fun x y H Q => rI0 (fun i j => .bl (decide (i ≤ j))) x y H Q ∨ rLeT X.K x y H Q) le2D :=
  Op2.or o_cmpI o_leTT fun x y d e => by
    cases x with
    | int i => cases y with
      | int j => exact .inl e
      | _ => cases e
    | tup i => cases y with
      | tup j => exact .inr e
      | _ => cases e
    | _ => cases e
def isBD : D → D → Option D
  | .bl i, .bl j => some (.bl (decide (i = j)))
  | _, _ => none
theorem o_isB : Op2 X rIsB isBD := by
  intro A H x y v w d Q ak e h1 h2 k
  cases x with
  | bl i => cases y with
    | bl j =>
      cases e
      exact ⟨i, j, RepB.bl h1, RepB.bl h2, k _ H Same.of_eq (by unfold Rep; rfl)⟩
    | _ => cases e
  | _ => cases e
def notBD : D → D → Option D
  | .bl i, .bl j => some (.bl (!decide (i = j)))
  | _, _ => none
theorem o_notB : Op2 X rNotB notBD := by
  intro A H x y v w d Q ak e h1 h2 k
  cases x with
  | bl i => cases y with
    | bl j =>
      cases e
      exact ⟨i, j, RepB.bl h1, RepB.bl h2, k _ H Same.of_eq (by unfold Rep; rfl)⟩
    | _ => cases e
  | _ => cases e
/-- x[i:j] of any of them -/
def slA : D → Option Int → Option Int → Option D
  | .str z, lo, hi => if z.length ≤ sizeLine then some (.str (cutS z lo hi)) else none
  | .tup xs, lo, hi => some (.tup (cutL xs lo hi))
  | .lst xs, lo, hi => some (.lst (cutL xs lo hi))
  | _, _, _ => none
theorem d_slA {lo hi : Option Expr} {fl fh : Env → R (Option Int)} {p2 : Pos} (he : DB X W e fa) (hl : DO X W lo fl) (hh : DO X W hi fh) : DP X W (.Subscript e (.Slice lo hi none p2) pos) (sl3 slA fa fl fh) := by
  obtain ⟨t1, q1, w1⟩ := d_sl (pos := pos) (p2 := p2) he hl hh
  obtain ⟨t2, q2, w2⟩ := (d_slL (pos := pos) (p2 := p2) he hl hh).toP
  refine ⟨fun σ H Q => t1 σ H Q ∨ t2 σ H Q, ⟨fun pins s σ H Q I h => h.elim (q1.run pins s σ H Q I) (q2.run pins s σ H Q I)⟩, fun F os r σ H Q Rl S => ?_⟩
  have w1' := w1 F os r σ H Q Rl
  have w2' := w2 F os r σ H Q Rl
  unfold sl3 at S w1' w2'
  cases ea : fa r with
  | stk => rw [ea] at S; exact S.elim
  | err x r' => rw [ea] at S w1'; exact .inl (w1' S)
  | ok d =>
    rw [ea] at S w1' w2'
    cases el : fl r with
    | stk => simp only [R.bind, el] at S; exact S.elim
    | err x r' => simp only [R.bind, el] at S w1'; exact .inl (w1' S)
    | ok l =>
      cases eh : fh r with
      | stk => simp only [R.bind, el, eh] at S; exact S.elim
      | err x r' => simp only [R.bind, el, eh] at S w1'; exact .inl (w1' S)
      | ok h =>
        simp only [R.bind, el, eh] at S w1' w2'
        cases d with
        | lst xs => exact .inr (w2' S)
        | str z => exact .inl (w1' S)
        | tup z => exact .inl (w1' S)
        | _ => exact S.elim
/-- [..] * n -/
def repD : D → D → Option D
  | .lst xs, .int k => if -(2 ^ 63) ≤ k ∧ k < 2 ^ 63 ∧ xs.length * k.toNat ≤ sizeLine then some (.lst (List.replicate k.toNat xs).flatten) else none
  | _, _ => none
theorem repL_rep {K : PySem.W.Frag} {H : Hp} {A : Addr → Prop} {ds : List D} {vs : List V} (h : RepL K H A ds vs) : ∀ n : Nat, RepL K H A (List.replicate n ds).flatten (List.replicate n vs).flatten
  | 0 => by unfold RepL; rfl
  | n + 1 => by
    rw [List.replicate_succ, List.replicate_succ, List.flatten_cons, List.flatten_cons]
    exact repL_append h (repL_rep h n)
theorem d_repF (ha : DF X W a fa) (hb : DB X W b fb) : DF X W (.BinOp a .Mult b pos) (bin repD fa fb) := by
  obtain ⟨ta, pa, wa⟩ := ha
  obtain ⟨tb, pb, wb⟩ := hb
  refine ⟨_, pe_op op_rep pa pb, fun F os r σ H Q R S => wa F os r σ H _ R (S.bind.imp fun d S q H1 s1 n1 h1 => wb F os r σ H1 _ (R.same' s1) (S.bind.imp fun d2 S v2 H2 s2 h2 => ?_))⟩
  obtain ⟨d3, e, S⟩ := Sat.ofO S
  cases d with
  | lst xs =>
    cases d2 with
    | int k =>
      rw [RepB.int h2]
      unfold repD at e
      by_cases c : -(2 ^ 63) ≤ k ∧ k < 2 ^ 63 ∧ xs.length * k.toNat ≤ sizeLine
      · simp only [if_pos c] at e
        cases e
        have ak1 : AOk (Ad (Av F.A0 os) q) H1 := ad_ok R.AOk s1 h1
        obtain ⟨vs, e1, r1⟩ := h1.same s2 ak1
        have h2' : RepO X.K H2 (Ad (Av F.A0 os) q) (.lst xs) q := ⟨vs, e1, r1⟩
        have ak2 : AOk (Ad (Av F.A0 os) q) H2 := ad_ok R.AOk (s1.trans s2) h2'
        refine ⟨q, k, vs, rfl, rfl, e1, c.1, c.2.1, by rw [repL_length r1]; exact c.2.2, fun p np => ?_⟩
        have s3 : Same H2 (upd H2 p (.lst (List.replicate k.toNat vs).flatten)) := same_upd np
        have hpn : p ≠ q := fun z => by rw [z, e1] at np; cases np
        refine S p _ (s1.trans (s2.trans s3)) ?_ ?_
        · cases hp : H p with
          | none => rfl
          | some o =>
            rw [(s1.trans s2) p o hp] at np
            cases np
        · refine ⟨_, upd_same, repL_rep (RepL.keep (A := Ad (Av F.A0 os) q) (fun b ob eb nb => ⟨by rw [upd_ne (ne_of_none eb np)]; exact eb, fun z => ?_⟩) ak2 _ _ r1) _⟩
          rcases z with z | z
          · exact nb (.inl z)
          · rw [z] at eb
            rw [eb] at np
            cases np
      · simp only [if_neg c] at e
        cases e
    | _ => cases e
  | _ => cases e

/-! ### methods of texts -/
def OpS (X : Cx) (r : V → List V → Hp → VK → Prop) (op : Str → List D → Option D) : Prop := ∀ (A : Addr → Prop) (H : Hp) (x : Str) (xs : List D) (vs : List V) (d : D) (Q : VK), AOk A H → op x xs = some d → Paired (RepB X.K H A) xs vs →
  (∀ u H', Same H H' → Rep X.K H' A d u → Q u H') → r (.str x) vs H Q
def asStr : D → Option Str
  | .str x => some x
  | _ => none
def mthV (op : Str → List D → Option D) (fo : Env → R D) (g : Env → R (List D)) : Env → R D := fun r => (fo r).bind fun x => (R.ofO (asStr x)).bind fun z => (g r).bind fun ds => R.ofO (op z ds)
theorem d_bm {name : Str} {id : String} {rr : V → List V → Hp → VK → Prop} {op : Str → List D → Option D} (slot : PySem.Slot "str" name id) (hty : typeOf (.builtin id) = pure (.type "method_descriptor")) (hm : MtR X id rr) (h : OpS X rr op) (ho : DB X W o fo) (ha : DBs X W (e :: es) g)
    (hbase : attributeBase o name X.env (eval o X.env) = eval o X.env := by rfl)
    (hfew : ((backTo cpos (starEach (e :: es) X.env)).all (fun x => !x.1) && (backToKw cpos (keywordEach [] X.env)).all (fun x => x.1.isSome)
      && decide ((e :: es).length + ([] : List Keyword).length + (if ([] : List Keyword).isEmpty then 0 else 1) < 30)) = true := by rfl)
    (hline : (apos.endLine == cpos.line) = true := by rfl) (hs : starEach (e :: es) X.env = (false, eval e X.env) :: starEach es X.env := by rfl) (hplain : (backTo cpos (starEach es X.env)).any (·.1) = false := by rfl) :
    DP X W (.Call (.Attribute o name apos) (e :: es) [] cpos) (mthV op fo g) := by
  obtain ⟨to, po, wo⟩ := ho
  obtain ⟨ta, pa, wa⟩ := ha
  refine ⟨_, pe_bm PySem.F.plainAttrs_str slot hty hm po pa hbase hfew hline hs hplain, fun F os r σ H Q R S => wo F os r σ H _ R (S.bind.imp fun d S v H1 s1 h1 => ?_)⟩
  obtain ⟨z, ez, S2⟩ := Sat.ofO S.bind
  clear S
  cases d with
  | str z' =>
    cases ez
    rw [RepB.str h1]
    refine ⟨rfl, wa F os r σ H1 _ (R.same' s1) (S2.bind.imp fun ds S vs H2 s2 h2 => ?_)⟩
    obtain ⟨d, e0, S⟩ := Sat.ofO S
    have R2 := (R.same' s1).same' s2
    exact h _ H2 z ds vs d Q R2.AOk e0 h2 fun u H3 s3 h3 => S u H3 (s1.trans (s2.trans s3)) h3
  | _ => cases ez
def find3D (x : Str) : List D → Option D
  | [.str y, .int i] => some (.int (Txt.find3 x y i))
  | _ => none
theorem o_find3 : OpS X (fun x xs H Q => ∃ (a b : Str) (i : Int), x = .str a ∧ xs = [.str b, .int i] ∧ Q (.int (Txt.find3 a b i)) H) find3D := by
  intro A H x xs vs d Q ak e h k
  match xs, e with
  | [.str y, .int i], e =>
    obtain ⟨v, w, ev, h1, h2⟩ := rep2 h
    cases e
    subst ev
    rw [RepB.str h1, RepB.int h2]
    exact ⟨x, y, i, rfl, rfl, k _ H Same.of_eq (by unfold Rep; rfl)⟩

/-! ### sum, min, max -/
theorem sumT_raw {prog : Program} {w : World} {A : Around} {E : Value → Shared → Prop} {s : Shared} {l : Addr} {its : List Value} {ns : List Int} {Q : Value → Shared → Prop} (hh : A.handled = none) (hl : s.heap.IsTuple l its.toArray) (hi : PyProof.Rows.IntsAre its ns)
    (h : ∀ h' tk t', (∀ b o, s.heap.get? b = some o → h'.get? b = some o) → Q (.int ns.sum t') { s with heap := h', toks := tk }) : wpAny (model prog w) A (call (.builtin "sum") [.ref l]) Q E s := by
  obtain ⟨xs, e⟩ := hi.allInts.items
  have hn : numsOf (intItems xs).toList = ns := by rw [← e]; exact hi.numsOf
  rw [nums_intItems] at hn
  rw [e] at hl
  have hlt : l < s.heap.objs.size := by
    obtain ⟨_, q, _⟩ := hl
    exact Heap.lt_size q
  have tl : (s.heap.push { cls := .type "tuple_iterator", data := .fields #[.ref l, .int 0 0] }).IsTuple l (intItems xs) := hl.push _
  have ti : (s.heap.push { cls := .type "tuple_iterator", data := .fields #[.ref l, .int 0 0] }).IsTupleIter s.heap.objs.size l 0 := ⟨_, Heap.get?_push_size _ rfl, rfl, rfl⟩
  refine call_sum_walkG (wpAny_pyIter_tuple hl ⟨_, _, _, _, _, _, numAt xs, rfl, Walks.tuple (A := A.in1) hh s.heap.objs.size l (Nat.ne_of_lt hlt) (intItems xs), ⟨ti, tl⟩, fun b hb => ?_, fun _ _ => intItems_at, fun h' tk t' hk => ?_⟩)
  · show b < (s.heap.push _).objs.size
    rw [Heap.size_push]
    rcases List.mem_cons.mp hb with z | z
    · rw [z]; exact Nat.lt_succ_self _
    · rw [List.mem_singleton.mp z]; exact Nat.lt_succ_of_lt hlt
  · have z := h h' tk t' fun b o eb => hk b o (fun hm => by
      rw [List.mem_singleton.mp hm] at eb
      exact Nat.lt_irrefl _ (Heap.lt_size eb)) (Heap.get?_push_of_some _ eb)
    have e3 : (intItems xs).size = xs.size := by simp [intItems]
    rw [e3, preSum_eq, List.take_of_length_le (by simp), hn]
    exact z
def rSum2 (K : PySem.W.Frag) : List V → Hp → VK → Prop := fun vs H Q => ∃ (a : Addr) (ns : List Int), vs = [V.ref a] ∧ (SqL K H a (ns.map V.int) ∨ SqT K H a (ns.map V.int)) ∧ Q (.int ns.sum) H
theorem cr_sum2 (hc : X.calm = true) : CallR X (.builtin "sum") (rSum2 X.K) := by
  intro pins s σ H vs us Q I r h
  obtain ⟨a, ns, e, hs, q⟩ := h
  rcases hs with hs | hs
  · exact cr_sum hc pins s σ H vs us Q I r ⟨a, ns, e, hs, q⟩
  · subst e
    obtain ⟨its, rv, hl, _⟩ := I.tuple hs
    rw [Vals.ref1 r]
    exact sumT_raw (I.ok.hd hc) hl rv.ints fun h' tk t' hk => ⟨.int _, H, I.kept hk, ⟨_, rfl⟩, q⟩
def sumD : List D → Option D
  | [.lst xs] => (intsD xs).map fun ns => .int ns.sum
  | [.tup xs] => (intsD xs).map fun ns => .int ns.sum
  | _ => none
theorem o_sum : OpN X (rSum2 X.K) sumD := by
  intro A H xs vs d Q ak e h k
  match xs, e with
  | [.lst xs], e =>
    obtain ⟨v, ev, h1⟩ := rep1 h
    subst ev
    obtain ⟨ns, e1, e2⟩ := Option.map_eq_some_iff.mp e
    obtain ⟨a, us, ev, q1, q2⟩ := RepB.lst h1
    rw [intsD_rep e1 q2] at q1
    subst e2 ev
    exact ⟨a, ns, rfl, .inl q1, k _ H Same.of_eq (by unfold Rep; rfl)⟩
  | [.tup xs], e =>
    obtain ⟨v, ev, h1⟩ := rep1 h
    subst ev
    obtain ⟨ns, e1, e2⟩ := Option.map_eq_some_iff.mp e
    obtain ⟨a, us, ev, q1, q2⟩ := RepB.tup h1
    rw [intsD_rep e1 q2] at q1
    subst e2 ev
    exact ⟨a, ns, rfl, .inr q1, k _ H Same.of_eq (by unfold Rep; rfl)⟩
def mm2D (F : Int → Int → Int) : List D → Option D
  | [.int i, .int j] => some (.int (F i j))
  | _ => none
theorem o_mm2 {F : Int → Int → Int} : OpN X (fun xs H Q => ∃ i j, xs = [.int i, .int j] ∧ Q (.int (F i j)) H) (mm2D F) := by
  intro A H xs vs d Q ak e h k
  match xs, e with
  | [.int i, .int j], e =>
    obtain ⟨v, w, ev, h1, h2⟩ := rep2 h
    cases e
    subst ev
    rw [RepB.int h1, RepB.int h2]
    exact ⟨i, j, rfl, k _ H Same.of_eq (by unfold Rep; rfl)⟩

/-! ### x.reverse() of an own list -/
variable {x : Str}
def rvsS (i : Nat) : Env → R Fl := fun r => (R.ofO (ownL r i)).bind fun s => .ok (.nx (r.set i (s.1.put (.lst s.2.reverse))))
theorem s_reverse (i : Nat) (hN : X.N[i]? = some x := by rfl) (hv : Vis X.env.scope x := by first | exact Or.inl rfl | exact Or.inr (Or.inl rfl) | exact Or.inr (Or.inr rfl)) (hd : (x == ("__debug__" : Str)) = false := by decide)
    (hcd : (x == ("__classdict__" : Str)) = false := by decide)
    (hbase : attributeBase (.Name x p) "reverse" X.env (eval (.Name x p) X.env) = eval (.Name x p) X.env := by rfl)
    (hline : (apos.endLine == cpos.line) = true := by rfl)
    (hs : swapsWith (.Call (.Attribute (.Name x p) "reverse" apos) [] [] cpos) none pos.line X.env = pure false := by rfl) :
    DS X W (.Expr (.Call (.Attribute (.Name x p) "reverse" apos) [] [] cpos) pos) (rvsS i) := by
  refine ⟨_, ps_expr (pe_bm0 PySem.F.plainAttrs_list PySem.F.slot_list_reverse PySem.F.type_list_reverse mt_reverse (pe_var (i := i) hN hv hd hcd) hbase hline) hs, fun F os r σ H D R S => ?_⟩
  obtain ⟨s0, e0, S⟩ := S.bind.ofO
  obtain ⟨e00, e01⟩ := ownL_ok (s := s0.1) (xs := s0.2) e0
  obtain ⟨a, ea, inA, ys, hy, hr⟩ := R.ownA e00 e01
  refine ⟨_, ea, .inl ⟨rfl, ys, SqL.of hy⟩, a, ys, rfl, rfl, hy, ?_⟩
  have rep' : RepO X.K (upd H a (.lst ys.reverse)) (Av F.A0 os) (.lst s0.2.reverse) a := ⟨_, upd_same, own_upd R.AOk inA (repL_rev hr)⟩
  obtain ⟨R3, k3⟩ := R.updOwn e00 e01 ea rep'
  exact S os σ _ R3 k3
end
end DL

namespace DL
open PySem L2

/-! ### what a name of the top is good for -/
def Cal (P : Program) (w : World) (K : PySem.W.Frag) (mg : Str → Option Value) (base : Heap) (k : Nat) (x : Str) (n : Nat) (F : List D → R D) : Prop :=
  ∃ (f : Addr) (fd : FuncData) (ps : List Str), FnOk P w K mg base (L2.CX P w) k f fd ps (SpF K mg n F) ∧ mg x = some (.ref f) ∧ PySem.W.keepIn K (.ref f) = true ∧ Binds K fd ps []
def CalIO (P : Program) (w : World) (K : PySem.W.Frag) (mg : Str → Option Value) (base : Heap) (k : Nat) (x : Str) (n : Nat) (F : List D → List D → R (D × List D)) : Prop :=
  ∃ (f : Addr) (fd : FuncData) (ps : List Str), FnOk P w K mg base (L2.CX P w) k f fd ps (SpIO K n F) ∧ mg x = some (.ref f) ∧ PySem.W.keepIn K (.ref f) = true ∧ Binds K fd ps []
section
variable {X : Cx} {W : WX} {e a : Expr} {es : List Expr} {x y : Str} {p py pos : Pos} {k n : Nat} {fa : Env → R D}
theorem takes_no : Takes X WF := fun u s' ⟨_, _, _, _, _, _, _, _, _, _, _, _, _, _, _, _, w⟩ => w.elim
theorem d_fn {F : List D → R D} {g : Env → R (List D)} (c : Cal X.prog X.w X.K X.mg X.base k x n F) (hr : Room k X.A) (hg : Gl X x) (tk : Takes X W) (ha : DPs X W (e :: es) g) (hdb : (x == ("__debug__" : Str)) = false := by decide) (he : starEach (e :: es) X.env = (false, eval e X.env) :: starEach es X.env := by rfl)
    (hpl : (backTo pos (starEach es X.env)).any (·.1) = false := by rfl) : DP X W (.Call (.Name x p) (e :: es) [] pos) (callF n F g) := by
  obtain ⟨f, fd, ps, G, hm, hk, hb⟩ := c
  exact d_call G hr hg hm hk hb tk ha hdb he hpl
theorem e_fn {F : List D → R D} {g : Env → R (List D × Env)} (c : Cal X.prog X.w X.K X.mg X.base k x n F) (hr : Room k X.A) (hg : Gl X x) (tk : Takes X W) (ha : DEs X W (e :: es) g) (hdb : (x == ("__debug__" : Str)) = false := by decide) (he : starEach (e :: es) X.env = (false, eval e X.env) :: starEach es X.env := by rfl)
    (hpl : (backTo pos (starEach es X.env)).any (·.1) = false := by rfl) : DE X W (.Call (.Name x p) (e :: es) [] pos) (callFE n F g) := by
  obtain ⟨f, fd, ps, G, hm, hk, hb⟩ := c
  exact e_call G hr hg hm hk hb tk ha hdb he hpl
theorem e_fnIO (i : Nat) {F : List D → List D → R (D × List D)} {g : Env → R (List D × Env)} (c : CalIO X.prog X.w X.K X.mg X.base k x n F) (hr : Room k X.A) (hg : Gl X x) (tk : Takes X W) (ha : DEs X W es g) (hN : X.N[i]? = some y := by rfl)
    (hv : Vis X.env.scope y := by first | exact Or.inl rfl | exact Or.inr (Or.inl rfl) | exact Or.inr (Or.inr rfl)) (hd : (y == ("__debug__" : Str)) = false := by decide) (hcd : (y == ("__classdict__" : Str)) = false := by decide)
    (hdb : (x == ("__debug__" : Str)) = false := by decide) (he : starEach (.Name y py :: es) X.env = (false, eval (.Name y py) X.env) :: starEach es X.env := by rfl) (hpl : (backTo pos (starEach es X.env)).any (·.1) = false := by rfl) :
    DE X W (.Call (.Name x p) (.Name y py :: es) [] pos) (callIO i n F g) := by
  obtain ⟨f, fd, ps, G, hm, hk, hb⟩ := c
  exact e_callIO G hr hg hm hk hb tk hN hv ha hd hcd hdb he hpl
/-- constants of the top -/
theorem d_gstr {z : Str} (hm : ∃ t, X.mg x = some (.str z t)) (hg : Gl X x) (hdb : (x == ("__debug__" : Str)) = false := by decide) : DP X W (.Name x p) (kc (.str z)) := by
  obtain ⟨t, hm⟩ := hm
  exact d_glob (v := V.str z) hg hm ⟨t, rfl⟩ (fun H A => rep_str) hdb
theorem d_gint {z : Int} (hm : ∃ t, X.mg x = some (.int z t)) (hg : Gl X x) (hdb : (x == ("__debug__" : Str)) = false := by decide) : DP X W (.Name x p) (kc (.int z)) := by
  obtain ⟨t, hm⟩ := hm
  exact d_glob (v := V.int z) hg hm ⟨t, rfl⟩ (fun H A => rep_int) hdb
def negD : D → Option D
  | .int i => some (.int (-i))
  | _ => none
@[simp] def un1 (op : D → Option D) (f : Env → R D) : Env → R D := fun r => (f r).bind fun d => R.ofO (op d)
theorem d_neg (h : DB X W a fa) : DP X W (.UnaryOp .USub a pos) (un1 negD fa) := by
  obtain ⟨t, pe, w⟩ := h
  refine ⟨_, pe_un un_neg pe, fun F os r σ H Q R S => w F os r σ H _ R (S.bind.imp fun d S v H1 s1 h1 => ?_)⟩
  obtain ⟨d2, e2, S⟩ := Sat.ofO S
  cases d with
  | int i =>
    cases e2
    exact ⟨i, RepB.int h1, S _ H1 s1 rep_int⟩
  | _ => cases e2
theorem o_ipI {F : Int → Int → Int} : OpIp X (ipI F) (intOp (fun _ _ => true) F) := by
  intro A H x y v w d Q ak e h1 h2 k
  cases x with
  | int i => cases y with
    | int j =>
      simp only [intOp, if_true] at e
      cases e
      exact ⟨i, j, RepB.int (.inl h1), RepB.int h2, k _ H Same.of_eq rep_int⟩
    | _ => cases e
  | _ => cases e
theorem u65 (hr : Room k X.A) : X.A.units + 65 < cLine := by
  have := hr.un
  omega
end
section
variable {P : Program} {w : World} {K : PySem.W.Frag} {mg : Str → Option Value} {base : Heap} {x qual : Str} {params : Arguments} {body : List Stmt} {scope : Scope} {f : Addr} {fd : FuncData}
theorem cal_of {N ps : List Str} {k : Nat} {b : Env → R Fl} (F : FunD K x qual params body scope [] [] f fd) (S : FnScope N ps scope) (hm : mg x = some (.ref f)) (hp : ps.length ≤ N.length)
    (hbi : ∀ (kV doc pm : Value) (an : Option Addr) (cdv ct : Value) (us : List Value), us.length = ps.length → bindArgs (PySem.W.fnOf x qual params body scope .none kV doc pm an cdv ct) ⟨us, []⟩ = pure (ps.zip us))
    (hb : ∀ (cdv : Value) (A : Around) (outer : List PySem.Env) (s : Shared) (H : Hp) (E : XK), Room k (A.deeper (PyProof.Rows.envOfC qual scope s.heap.objs.size f cdv)) →
      DSs (cxOf (L2.CX P w) P w K mg base N qual scope f cdv A outer s H E) (fun cls d _ H' => E cls d H') body b) : Cal P w K mg base (k + 1) x ps.length (fnD N.length ps.length b) :=
  ⟨f, fd, ps, fn_ok F S hp hb, hm, F.kp, F.bindsN hbi⟩
theorem calio_of {N ps : List Str} {q : Str} {k : Nat} {b : Env → R Fl} (F : FunD K x qual params body scope [] [] f fd) (S : FnScope N (q :: ps) scope) (hm : mg x = some (.ref f)) (hp : ps.length + 1 ≤ N.length)
    (hbi : ∀ (kV doc pm : Value) (an : Option Addr) (cdv ct : Value) (us : List Value), us.length = (q :: ps).length → bindArgs (PySem.W.fnOf x qual params body scope .none kV doc pm an cdv ct) ⟨us, []⟩ = pure ((q :: ps).zip us))
    (hb : ∀ (cdv : Value) (A : Around) (outer : List PySem.Env) (s : Shared) (H : Hp) (E : XK), Room k (A.deeper (PyProof.Rows.envOfC qual scope s.heap.objs.size f cdv)) →
      DSs (cxOf (L2.CX P w) P w K mg base N qual scope f cdv A outer s H E) (fun cls d _ H' => E cls d H') body b) : CalIO P w K mg base (k + 1) x ps.length (fnIO N.length ps.length b) :=
  ⟨f, fd, q :: ps, fnio_ok F S hp hb, hm, F.kp, F.bindsN hbi⟩
end
end DL

namespace DL
open PySem L2
/-- a law that is a function of data: true of every list of ints -/
theorem walk_data {l : PySem.W.OpenLaw} {n k : Nat} {q : Program} {loose : List Str} {XP : (Str → Option Value) → Heap → Prop} {YP : World → Heap → Prop} {d : DefRec} {x : Str} {G : List D → R D}
    (hn : l.most = some n) (hn2 : n ≤ sizeLine) (hdf : d.params.defaults = []) (hr : Room k PySem.callerA)
    (hF : ∀ (w : World) (mg : Str → Option Value) (fa : Addr) (h : Heap), YP w h → h.Ns mainGlobals mg → mg d.name = some (.ref fa) →
      ∃ (K : PySem.W.Frag) (fd : FuncData), K.In h ∧ (∀ (s : Shared) (u : Value), BindsTo s fd ⟨[u], []⟩ [(x, u)]) ∧ ∀ base : Heap, K.In base → base.Ns mainGlobals mg → FnOk l.prog w K mg base (L2.CX l.prog w) k fa fd [x] (SpF K mg 1 G))
    (hG : ∀ ns : List Int, ns.length ≤ n → G [.lst (ns.map D.int)] = .ok (.bl true)) : PySem.W.WalkO q loose XP YP l.row.toRowW d [] (fun f vs => PySem.call f vs) := by
  refine Att.attach_call hn hdf fun w s0 s1 mg mb fa o pm cd doc a vs ns Gr Y ho hd hcd hmg hob hin hle hge => ?_
  obtain ⟨K, fd, KX, hb, hok⟩ := hF w mg fa _ Y Gr.T.g hmg
  refine law_call KX Gr.T.g Gr.T.b Gr.T.builtins Gr.T.nolimit hge hob hin (Nat.le_trans hle hn2) hr hok hb (fun H _ hS => ?_) fun H e s' c => ?_
  · refine ⟨rfl, fun _ => False, [.lst (ns.map D.int)], fun a z => z.elim, ?_, ?_⟩
    · unfold RepL
      refine ⟨.ref a, [], rfl, ?_, by unfold RepL; rfl⟩
      unfold Rep
      refine ⟨a, ns.map V.int, rfl, ?_, ?_⟩
      · rcases hS with z | z
        · exact .inl ⟨z, id⟩
        · exact .inr z
      · clear hS hle hin
        induction ns with
        | nil => unfold RepL; rfl
        | cons i r ih =>
          rw [List.map_cons, List.map_cons]
          unfold RepL
          exact ⟨_, _, rfl, by unfold Rep; rfl, ih⟩
    · rw [hG ns hle]
      intro v H' _ h
      unfold Rep at h
      exact h
  · obtain ⟨_, _, _, _, _, _, _, _, _, _, _, _, z⟩ := c
    exact z
end DL

namespace DL
open PySem L2

/-! ### dicts of ints and texts -/
def keyD : D → Option Key
  | .int i => some (.inl i)
  | .str x => some (.inr x)
  | _ => none
def getD_ (kvs : List (Key × D)) (k : Key) : Option D := (kvs.find? fun kv => decide (kv.1 = k)).map (·.2)
def putD (kvs : List (Key × D)) (k : Key) (v : D) : List (Key × D) :=
  if (kvs.any fun kv => decide (kv.1 = k)) = true then kvs.map (fun kv => if kv.1 = k then (kv.1, v) else kv) else kvs ++ [(k, v)]
section
variable {K : PySem.W.Frag} {H : Hp} {A : Addr → Prop}
theorem keyD_v {d : D} {k : Key} {v : V} (e : keyD d = some k) (h : RepB K H A d v) : v = kV k := by
  cases d with
  | int i => cases e; rw [RepB.int h]; rfl
  | str i => cases e; rw [RepB.str h]; rfl
  | _ => cases e
theorem repK_cons {k : Key} {d : D} {ds : List (Key × D)} {vs : List (Key × V)} (h : RepK K H A ((k, d) :: ds) vs) : ∃ v r, vs = (k, v) :: r ∧ Rep K H A d v ∧ RepK K H A ds r := by
  unfold RepK at h
  exact h
theorem repK_mk {k : Key} {d : D} {ds : List (Key × D)} {v : V} {r : List (Key × V)} (h : Rep K H A d v) (h2 : RepK K H A ds r) : RepK K H A ((k, d) :: ds) ((k, v) :: r) := by
  unfold RepK
  exact ⟨v, r, rfl, h, h2⟩
theorem repK_get : ∀ {ds : List (Key × D)} {vs : List (Key × V)} (k : Key), RepK K H A ds vs → (∀ d, getD_ ds k = some d → ∃ v, valV vs k = some v ∧ Rep K H A d v) ∧ (getD_ ds k = none → valV vs k = none)
  | [], vs, k, h => by
    unfold RepK at h
    subst h
    exact ⟨fun d e => (nomatch e), fun _ => rfl⟩
  | (q, d) :: ds, vs, k, h => by
    obtain ⟨v, r, e, h1, h2⟩ := repK_cons h
    subst e
    obtain ⟨i1, i2⟩ := repK_get k h2
    by_cases hq : q = k
    · have e1 : getD_ ((q, d) :: ds) k = some d := by simp [getD_, List.find?_cons, hq]
      have e2 : valV ((q, v) :: r) k = some v := valV_pos hq
      rw [e1, e2]
      exact ⟨fun d' e => by cases e; exact ⟨v, rfl, h1⟩, fun e => (nomatch e)⟩
    · have e1 : getD_ ((q, d) :: ds) k = getD_ ds k := by simp [getD_, List.find?_cons, hq]
      have e2 : valV ((q, v) :: r) k = valV r k := valV_neg hq
      rw [e1, e2]
      exact ⟨i1, i2⟩
theorem repK_any : ∀ {ds : List (Key × D)} {vs : List (Key × V)} (k : Key), RepK K H A ds vs → (vs.any fun kv => decide (kv.1 = k)) = ds.any fun kv => decide (kv.1 = k)
  | [], vs, k, h => by unfold RepK at h; subst h; rfl
  | (q, d) :: ds, vs, k, h => by
    obtain ⟨v, r, e, h1, h2⟩ := repK_cons h
    subst e
    rw [List.any_cons, List.any_cons, repK_any k h2]
theorem repK_map {d : D} {v : V} (k : Key) (hd : Rep K H A d v) : ∀ {ds : List (Key × D)} {vs : List (Key × V)}, RepK K H A ds vs → RepK K H A (ds.map fun kv => if kv.1 = k then (kv.1, d) else kv) (vs.map fun kv => if kv.1 = k then (kv.1, v) else kv)
  | [], vs, h => by unfold RepK at h; subst h; unfold RepK; rfl
  | (q, e) :: ds, vs, h => by
    obtain ⟨u, r, ev, h1, h2⟩ := repK_cons h
    subst ev
    rw [List.map_cons, List.map_cons]
    by_cases hq : q = k
    · simp only [if_pos hq]
      exact repK_mk hd (repK_map k hd h2)
    · simp only [if_neg hq]
      exact repK_mk h1 (repK_map k hd h2)
theorem repK_snoc {d : D} {v : V} (k : Key) (hd : Rep K H A d v) : ∀ {ds : List (Key × D)} {vs : List (Key × V)}, RepK K H A ds vs → RepK K H A (ds ++ [(k, d)]) (vs ++ [(k, v)])
  | [], vs, h => by
    unfold RepK at h
    subst h
    exact repK_mk hd (by unfold RepK; rfl)
  | (q, e) :: ds, vs, h => by
    obtain ⟨u, r, ev, h1, h2⟩ := repK_cons h
    subst ev
    exact repK_mk h1 (repK_snoc k hd h2)
theorem repK_put {ds : List (Key × D)} {vs : List (Key × V)} {d : D} {v : V} (k : Key) (h : RepK K H A ds vs) (hd : Rep K H A d v) : RepK K H A (putD ds k d) (putK vs k v) := by
  unfold putD putK
  rw [repK_any k h]
  split
  · exact repK_map k hd h
  · exact repK_snoc k hd h
theorem repK_len : ∀ {ds : List (Key × D)} {vs : List (Key × V)}, RepK K H A ds vs → vs.length = ds.length
  | [], vs, h => by unfold RepK at h; subst h; rfl
  | (q, e) :: ds, vs, h => by
    obtain ⟨u, r, ev, h1, h2⟩ := repK_cons h
    subst ev
    rw [List.length_cons, List.length_cons, repK_len h2]
end
section
variable {X : Cx} {W : WX} {e a b c o : Expr} {es : List Expr} {p pos apos cpos : Pos} {f fa fb fc fo : Env → R D} {g : Env → R (List D)} {x : Str} {k : Nat}
theorem d_dnew : DF X W (.Dict [] [] pos) (kc (.dct [])) := by
  refine ⟨_, pe_dnewK, fun F os r σ H Q R S => ?_⟩
  intro q n
  exact S q _ (same_upd n) n ⟨[], upd_same, by unfold RepK; rfl⟩
/-- the dict that a slot holds and may change -/
def ownK (r : Env) (i : Nat) : Option (Slot × List (Key × D)) := match r[i]? with
  | some s => match s.cont with
    | some (.dct xs) => some (s, xs)
    | _ => none
  | none => none
theorem ownK_ok {r : Env} {i : Nat} {s : Slot} {xs : List (Key × D)} (e : ownK r i = some (s, xs)) : r[i]? = some s ∧ s.cont = some (.dct xs) := by
  unfold ownK at e
  cases q : r[i]? with
  | none => rw [q] at e; cases e
  | some s' =>
    rw [q] at e
    simp only at e
    split at e
    · rename_i xs' q2
      cases e
      exact ⟨rfl, q2⟩
    · cases e
def putS (i : Nat) (fk : Env → R D) (fe : Env → R D) : Env → R Fl := fun r => (fe r).bind fun d => (R.ofO (ownK r i)).bind fun s => (fk r).bind fun k => (R.ofO (keyD k)).bind fun k => if s.2.length < sizeLine then .ok (.nx (r.set i (s.1.put (.dct (putD s.2 k d))))) else .stk
theorem s_dput (i : Nat) {ix : Expr} {p2 : Pos} {fk fe : Env → R D} (hr : Room k X.A) (h : DP X W e fe) (h2 : DB X W ix fk) (hN : X.N[i]? = some x := by rfl) (hv : Vis X.env.scope x := by first | exact Or.inl rfl | exact Or.inr (Or.inl rfl) | exact Or.inr (Or.inr rfl)) (hd : (x == ("__debug__" : Str)) = false := by decide)
    (hcd : (x == ("__classdict__" : Str)) = false := by decide) (hs : swapsWith e (some (.Subscript (.Name x p) ix p2)) pos.line X.env = pure false := by rfl) : DS X W (.Assign [.Subscript (.Name x p) ix p2] e pos) (putS i fk fe) := by
  obtain ⟨t, pe, w⟩ := h
  obtain ⟨t2, pe2, w2⟩ := h2
  refine ⟨_, ps_dput (by have := hr.units0; have := hr.units; omega) (pe_var (i := i) hN hv hd hcd) pe2 pe hs, fun F os r σ H D R S => w F os r σ H _ R (S.bind.imp fun d S v H1 s1 h1 => ?_)⟩
  obtain ⟨s0, e0, S⟩ := S.bind.ofO
  obtain ⟨e00, e01⟩ := ownK_ok (s := s0.1) (xs := s0.2) e0
  have R1 := R.same' s1
  obtain ⟨ad, ea, inA, rp⟩ := R1.ownA e00 e01
  refine ⟨_, ea, w2 F os r σ H1 _ R1 (S.bind.imp fun dk S vk H2 s2 h2 => ?_)⟩
  obtain ⟨kk, ek, S2⟩ := Sat.ofO S.bind
  have R2 := R1.same' s2
  obtain ⟨ad', ea', inA', vs, hy, hrk⟩ := R2.ownA e00 e01
  rw [ea] at ea'
  cases ea'
  by_cases hl : s0.2.length < sizeLine
  · rw [if_pos hl] at S2
    have rep' : RepO X.K (upd H2 ad (.dK (putK vs kk v))) (Av F.A0 os) (.dct (putD s0.2 kk d)) ad := ⟨_, upd_same, RepK.keep (fun b o eb nb => ⟨by rw [upd_ne (fun z => nb (by rw [z]; exact inA'))]; exact eb, nb⟩) R2.AOk _ _ (repK_put kk hrk (h1.same s2 R1.AOk))⟩
    obtain ⟨R3, k3⟩ := R2.updOwn e00 e01 ea rep'
    exact ⟨ad, _, rfl, by rw [keyD_v ek h2]; exact DPut.k hy (by rw [repK_len hrk]; exact hl), S2 os σ _ R3 ((Keep.of (s1.trans s2)).trans k3)⟩
  · rw [if_neg hl] at S2
    exact S2.elim
/-- d[k], there -/
def dgetD : D → D → Option D
  | .dct kvs, k => (keyD k).bind fun k => getD_ kvs k
  | _, _ => none
theorem d_dget (hr : Room k X.A) (ha : DB X W a fa) (hb : DB X W b fb) (hs : NoSl b := by exact fun _ _ => rfl) : DP X W (.Subscript a b pos) (bin dgetD fa fb) := by
  obtain ⟨ta, pa, wa⟩ := ha
  obtain ⟨tb, pb, wb⟩ := hb
  refine ⟨_, pe_dget (by have := hr.units; omega) pa pb hs, fun F os r σ H Q R S => wa F os r σ H _ R (S.bind.imp fun d S v H1 s1 h1 => wb F os r σ H1 _ (R.same' s1) (S.bind.imp fun d2 S v2 H2 s2 h2 => ?_))⟩
  obtain ⟨d3, e3, S3⟩ := Sat.ofO S
  clear S
  cases d with
  | dct kvs =>
    obtain ⟨kk, ek, e3⟩ := Option.bind_eq_some_iff.mp e3
    have R1 := R.same' s1
    obtain ⟨ad, vs, ev, hy, hrk⟩ := RepB.dct (h1.same s2 R1.AOk)
    obtain ⟨u, e4, h4⟩ := (repK_get kk hrk).1 d3 e3
    refine ⟨ad, u, ev, ?_, S3 u H2 (s1.trans s2) h4⟩
    rw [keyD_v ek h2]
    have := DGet.k (k := kk) hy
    rw [e4] at this
    exact this
  | _ => cases e3
def rInDict (n : Bool) : R2 := fun y x H Q => ∃ a o, x = V.ref a ∧ DGet H a y o ∧ Q (.bl (if n then !o.isSome else o.isSome)) H
theorem op_inDict (hr : Room k X.A) : OpR X (compareOp .In) (rInDict false) := by
  intro pins s σ H y x v u Q I ry rx h
  obtain ⟨ad, ov, ex, gg, q⟩ := h
  subst ex
  obtain rfl : u = Value.ref ad := rx
  exact d_in (by have := hr.units; omega) I gg ry fun s3 I3 => ⟨.bl ov.isSome, H, I3, rfl, q⟩
theorem op_notInDict (hr : Room k X.A) : OpR X (compareOp .NotIn) (rInDict true) := by
  intro pins s σ H y x v u Q I ry rx h
  obtain ⟨ad, ov, ex, gg, q⟩ := h
  subst ex
  obtain rfl : u = Value.ref ad := rx
  exact d_notIn (by have := hr.units; omega) I gg ry fun s3 I3 => ⟨.bl (!ov.isSome), H, I3, rfl, q⟩
def inDictD (n : Bool) : D → D → Option D
  | k, .dct kvs => (keyD k).map fun k => .bl (if n then !(getD_ kvs k).isSome else (getD_ kvs k).isSome)
  | _, _ => none
theorem o_inDict {n : Bool} : Op2 X (rInDict n) (inDictD n) := by
  intro A H x y v w d Q ak e h1 h2 q
  cases y with
  | dct kvs =>
    obtain ⟨kk, ek, e2⟩ := Option.map_eq_some_iff.mp e
    subst e2
    obtain ⟨ad, vs, ev, hy, hrk⟩ := RepB.dct h2
    have es : (valV vs kk).isSome = (getD_ kvs kk).isSome := by
      cases q2 : getD_ kvs kk with
      | none =>
        rw [(repK_get kk hrk).2 q2]
        rfl
      | some d =>
        obtain ⟨u, e4, _⟩ := (repK_get kk hrk).1 d q2
        rw [e4]
        rfl
    refine ⟨ad, valV vs kk, ev, by rw [keyD_v ek h1]; exact DGet.k hy, ?_⟩
    rw [es]
    exact q _ H Same.of_eq (by unfold Rep; rfl)
  | _ => cases e
/-- in, not in: of texts, lists, tuples, dicts -/
def inA (n : Bool) (x y : D) : Option D := match y with
  | .dct _ => inDictD n x y
  | _ => inB n x y
theorem op_inA (hr : Room k X.A) : OpR X (compareOp .In) (fun x y H Q => rIn3 X.K false x y H Q ∨ rInDict false x y H Q) := opR_or (op_in3 (u65 hr)) (op_inDict hr)
theorem op_notInA (hr : Room k X.A) : OpR X (compareOp .NotIn) (fun x y H Q => rIn3 X.K true x y H Q ∨ rInDict true x y H Q) := opR_or (op_notIn3 (u65 hr)) (op_notInDict hr)
theorem o_inA {n : Bool} : Op2 X (fun x y H Q => rIn3 X.K n x y H Q ∨ rInDict n x y H Q) (inA n) :=
  Op2.or o_in o_inDict fun x y d e => by
    cases y with
    | dct _ => exact .inr e
    | _ => exact .inl e
/-- list(d): its keys -/
def keyV : Key → D
  | .inl i => .int i
  | .inr x => .str x
def lstKD : List D → Option D
  | [.dct kvs] => some (.lst (kvs.map fun kv => keyV kv.1))
  | _ => none
theorem repL_keys {K : PySem.W.Frag} {H : Hp} {A : Addr → Prop} : ∀ {ds : List (Key × D)} {vs : List (Key × V)}, RepK K H A ds vs → RepL K H A (ds.map fun kv => keyV kv.1) (vs.map fun kv => kV kv.1)
  | [], vs, h => by unfold RepK at h; subst h; unfold RepL; rfl
  | (q, e) :: ds, vs, h => by
    obtain ⟨u, r, ev, h1, h2⟩ := repK_cons h
    subst ev
    rw [List.map_cons, List.map_cons]
    unfold RepL
    refine ⟨_, _, rfl, ?_, repL_keys h2⟩
    cases q <;> (unfold Rep; rfl)
def rLstD : List V → Hp → VK → Prop := fun xs H Q => ∃ (a : Addr) (kvs : List (Key × V)), xs = [V.ref a] ∧ Rd H a (.dK kvs) ∧ ∀ p, H p = none → Q (.ref p) (upd H p (.lst (kvs.map fun kv => kV kv.1)))
theorem o_lstD : OpNF X rLstD lstKD := by
  intro A H xs vs d Q ak e h q
  match xs, e with
  | [.dct kvs], e =>
    obtain ⟨v, ev, h1⟩ := rep1 h
    cases e
    subst ev
    obtain ⟨ad, ws, ew, hy, hrk⟩ := RepB.dct h1
    subst ew
    refine ⟨ad, ws, rfl, .inl hy, fun p n => q p _ (same_upd n) n ?_⟩
    exact repO_newlst ak (repL_keys hrk) n
end
end DL

namespace DL
open PySem L2

/-! ### sorted, of texts, any number -/
theorem paired_perm {α β : Type} {R : α → β → Prop} : ∀ {ys zs : List β}, ys.Perm zs → ∀ {xs : List α}, Paired R xs zs → ∃ ws : List α, ws.Perm xs ∧ Paired R ws ys := by
  intro ys zs p
  induction p with
  | nil => exact fun h => ⟨_, List.Perm.refl _, h⟩
  | cons x p ih =>
    intro xs h
    cases h with
    | cons a b =>
      obtain ⟨ws, q, r⟩ := ih b
      exact ⟨_ :: ws, q.cons _, .cons a r⟩
  | swap x y l =>
    intro xs h
    cases h with
    | cons a b =>
      cases b with
      | cons c d => exact ⟨_ :: _ :: _, List.Perm.swap _ _ _, .cons c (.cons a d)⟩
  | trans p q i j =>
    intro xs h
    obtain ⟨ws, a, b⟩ := j h
    obtain ⟨us, c, d⟩ := i b
    exact ⟨us, c.trans a, d⟩
theorem paired_all {α β : Type} {R : α → β → Prop} {xs : List α} {ys : List β} (h : Paired R xs ys) : ∀ y ∈ ys, ∃ x ∈ xs, R x y := by
  induction h with
  | nil => intro y m; cases m
  | cons a b ih =>
    intro y m
    cases m with
    | head => exact ⟨_, List.mem_cons_self, a⟩
    | tail _ m => obtain ⟨x, i, r⟩ := ih y m; exact ⟨x, List.mem_cons_of_mem _ i, r⟩
/-- what a sort of values is asked -/
def SortOk (X : Cx) (vs : List Value) (ltv : Value → Value → Bool) (h : Heap) : Prop :=
  ∀ (A : Around) (s : Shared), (∀ b o, h.get? b = some o → s.heap.get? b = some o) → ∃ κ,
    (∀ (Q : PyProof.Rows.SortKind → Shared → Prop) (E : Value → Shared → Prop), Q κ s → wpAny (model X.prog X.w) A (PyProof.Rows.keyKind' vs.toArray) Q E s) ∧
    SrtO.Cmp X.prog X.w A s κ (fun p => p.fst ∈ vs) (SrtO.lt2 ltv)
theorem sorted_lay {X : Cx} {pins : List (Addr × Obj)} {s : Shared} {σ : St} {H : Hp} {a : Addr} {xs : List V} {Q : VK} {ltv : Value → Value → Bool} (I : L2.Inv X pins σ H s) (h : SqL X.K H a xs) (sw : SrtO.Swo ltv)
    (so : ∀ its, Vals xs its → 2 ≤ its.length → SortOk X its ltv s.heap)
    (q : ∀ (p : Addr) (ys : List V) (its : List Value), Vals ys its → ys.Perm xs → SrtO.Srtd ltv its → H p = none → Q (.ref p) (upd H p (.lst ys))) :
    wpAny (model X.prog X.w) X.A (call (.builtin "sorted") [.ref a]) (EP X pins σ Q) X.xe s := by
  obtain ⟨its, hv, hp, hl⟩ := I.list h
  have hlen : its.length = xs.length := hv.length.symm
  refine SrtO.sorted_ord (vs := its) (ltv := ltv) sw hp.isList (by omega) (fun h2 h1 b hb hk => ?_) fun out hs hst => ?_
  · intro h' hh
    obtain ⟨κ, k1, k2⟩ := so its hv h2 X.A.in1.in1 ⟨h', s.gens, s.drawn, s.toks, s.os⟩ (fun c o e => by
      obtain ⟨n1, n2⟩ := hk c o e
      exact hh c o n1 n2)
    exact ⟨κ, k1, k2⟩
  · obtain ⟨ys, yp, yv⟩ := paired_perm hst.perm hv
    obtain ⟨e, he⟩ := PyProof.Rows.sortedAll_at s.heap its out.toArray
    have fr : H (s.heap.objs.size + 1) = none := I.hok.fresh (by omega)
    exact ⟨.ref (s.heap.objs.size + 1), upd H (s.heap.objs.size + 1) (.lst ys), I.laid (fun b u e => PyProof.Rows.sortedAll_old e) (by omega) ⟨by rw [yp.length_eq]; exact hl, out, e, yv, he⟩, rfl, q _ ys out yv yp hs fr⟩
/-- the order of texts -/
def cpsV : Value → List Nat
  | .str a _ => a.cps.toList
  | _ => []
def ltS (u v : Value) : Bool := decide (cpsV u < cpsV v)
theorem swoS : SrtO.Swo ltS where
  asym x y h := by
    have := of_decide_eq_true h
    exact decide_eq_false (List.lt_asymm this)
  tr x y z h1 h2 := by
    have h1 := of_decide_eq_false h1
    have h2 := of_decide_eq_false h2
    exact decide_eq_false fun h => (List.not_lt.mpr (List.le_trans (List.not_lt.mp h1) (List.not_lt.mp h2))) h
theorem vals_strs : ∀ {ss : List Str} {its : List Value}, Vals (ss.map V.str) its → PyProof.Rows.StrsAre its ss
  | [], its, h => by cases h; exact .nil
  | s :: r, its, h => by
    cases h with
    | cons a b =>
      obtain ⟨t, e⟩ := a
      subst e
      exact .cons _ _ (vals_strs b)
theorem strs_mem {its : List Value} {ss : List Str} (h : PyProof.Rows.StrsAre its ss) : ∀ v ∈ its, ∃ a t, v = Value.str a t := by
  induction h with
  | nil => intro v m; cases m
  | cons y t h ih =>
    intro v m
    cases m with
    | head => exact ⟨_, _, rfl⟩
    | tail _ m => exact ih v m
theorem sortOkS {X : Cx} {its : List Value} {ss : List Str} {h : Heap} (hs : PyProof.Rows.StrsAre its ss) (h2 : 2 ≤ its.length) : SortOk X its ltS h := by
  intro A s hk
  refine ⟨PyProof.Rows.oneType', fun Q E q => ?_, fun p q hp hq => ?_⟩
  · match its, hs, h2 with
    | v1 :: v2 :: vs, hs, h2 =>
      rw [PyProof.Rows.keyKind_strs hs]
      exact wpAny_pure q
  · obtain ⟨p1, p2⟩ := p
    obtain ⟨q1, q2⟩ := q
    obtain ⟨a, t, ea⟩ := strs_mem hs _ hp
    obtain ⟨b, u, eb⟩ := strs_mem hs _ hq
    simp only at ea eb
    subst ea
    subst eb
    exact PySem.W.kas_lt_str ⟨rfl, rfl⟩
def leS (a b : Str) : Bool := !decide (b.cps.toList < a.cps.toList)
theorem leS_iff {a b : Str} : leS a b = true ↔ a.cps.toList ≤ b.cps.toList := by
  unfold leS
  rw [Bool.not_eq_true', decide_eq_false_iff_not]
  exact List.not_lt
theorem leS_antisymm {a b : Str} (h1 : leS a b = true) (h2 : leS b a = true) : a = b := by
  have e := List.le_antisymm (leS_iff.mp h1) (leS_iff.mp h2)
  cases a
  cases b
  congr 1
  exact Array.toList_inj.mp e
def sortStr (l : List Str) : List Str := l.mergeSort leS
theorem sortStr_pw (l : List Str) : (sortStr l).Pairwise fun a b => leS a b = true :=
  List.pairwise_mergeSort (le := leS) (fun a b c h1 h2 => leS_iff.mpr (List.le_trans (leS_iff.mp h1) (leS_iff.mp h2))) (fun a b => by
    have : leS a b = true ∨ leS b a = true := by rw [leS_iff, leS_iff]; exact List.le_total _ _
    cases this with
    | inl e => rw [e]; rfl
    | inr e => rw [e]; exact Bool.or_true _) l
theorem sortStr_uniq {l ys : List Str} (p : ys.Perm l) (h : ys.Pairwise fun a b => leS a b = true) : ys = sortStr l :=
  List.Perm.eq_of_pairwise (fun a b _ _ h1 h2 => leS_antisymm h1 h2) h (sortStr_pw l) (p.trans (List.mergeSort_perm l leS).symm)
def rSortedSA (K : PySem.W.Frag) : List V → Hp → VK → Prop := fun vs H Q => ∃ (a : Addr) (xs : List Str), vs = [V.ref a] ∧ SqL K H a (xs.map V.str) ∧ ∀ p : Addr, H p = none → Q (.ref p) (upd H p (.lst ((sortStr xs).map V.str)))
theorem srtd_strs : ∀ {ys : List V} {its : List Value}, Vals ys its → SrtO.Srtd ltS its → (∀ y ∈ ys, ∃ x, y = V.str x) → ∃ ss : List Str, ys = ss.map V.str ∧ ss.Pairwise fun a b => leS a b = true
  | [], _, _, _, _ => ⟨[], rfl, .nil⟩
  | y :: ys, _, .cons (b := u) (l₂ := us) a b, h, hy => by
    obtain ⟨h1, h2⟩ := List.pairwise_cons.mp h
    obtain ⟨ss, e, pw⟩ := srtd_strs b h2 fun y m => hy y (List.mem_cons_of_mem _ m)
    obtain ⟨x, ex⟩ := hy y List.mem_cons_self
    subst ex
    subst e
    refine ⟨x :: ss, rfl, List.pairwise_cons.mpr ⟨fun z m => ?_, pw⟩⟩
    obtain ⟨t, et⟩ := a
    subst et
    have key : ∀ {ss : List Str} {us : List Value}, Vals (ss.map V.str) us → ∀ z ∈ ss, ∃ t, Value.str z t ∈ us := by
      intro ss
      induction ss with
      | nil => intro us _ z m; cases m
      | cons s r ih =>
        intro us h z m
        cases h with
        | cons a b =>
          obtain ⟨t, et⟩ := a
          subst et
          cases m with
          | head => exact ⟨t, List.mem_cons_self⟩
          | tail _ m => obtain ⟨t2, m2⟩ := ih b z m; exact ⟨t2, List.mem_cons_of_mem _ m2⟩
    obtain ⟨t2, m2⟩ := key b z m
    have := h1 _ m2
    unfold leS
    unfold ltS cpsV at this
    rw [this]
    rfl
theorem cr_sortedSA {X : Cx} : CallR X (.builtin "sorted") (rSortedSA X.K) := by
  intro pins s σ H xs us Q I hv h
  obtain ⟨a, ss, e, hs, q⟩ := h
  subst e
  cases hv with
  | cons h1 h2 =>
    cases h2
    cases h1
    refine sorted_lay (ltv := ltS) I hs swoS (fun its hv h2 => sortOkS (vals_strs hv) h2) fun p ys its yv yp hsr hn => ?_
    obtain ⟨zs, e, pw⟩ := srtd_strs yv hsr fun y m => by
      obtain ⟨x, _, ex⟩ := List.mem_map.mp (yp.mem_iff.mp m)
      exact ⟨x, ex.symm⟩
    subst e
    have hp : zs.Perm ss := by
      have := yp.map (fun v => match v with | V.str x => x | _ => ⟨#[]⟩)
      simpa [List.map_map, Function.comp_def] using this
    rw [sortStr_uniq hp pw]
    exact q p hn
/-- sorted(list of texts) -/
def strsOf : List D → Option (List Str)
  | [] => some []
  | .str x :: r => (strsOf r).map fun l => x :: l
  | _ :: _ => none
def srtStrD : List D → Option D
  | [.lst ds] => (strsOf ds).map fun ss => .lst ((sortStr ss).map D.str)
  | _ => none
theorem strsOf_map : ∀ {ds : List D} {ss : List Str}, strsOf ds = some ss → ds = ss.map D.str
  | [], ss, h => by cases h; rfl
  | d :: ds, ss, h => by
    cases d with
    | str x =>
      obtain ⟨r, e, e2⟩ := Option.map_eq_some_iff.mp h
      subst e2
      rw [strsOf_map e]
      rfl
    | _ => cases h
theorem repL_strs {K : PySem.W.Frag} {H : Hp} {A : Addr → Prop} : ∀ {ss : List Str} {vs : List V}, RepL K H A (ss.map D.str) vs → vs = ss.map V.str
  | [], vs, h => by unfold RepL at h; exact h
  | s :: r, vs, h => by
    rw [List.map_cons] at h
    unfold RepL at h
    obtain ⟨v, w, e, h1, h2⟩ := h
    unfold Rep at h1
    subst h1
    rw [e, repL_strs h2]
    rfl
theorem repL_strs' {K : PySem.W.Frag} {H : Hp} {A : Addr → Prop} : ∀ ss : List Str, RepL K H A (ss.map D.str) (ss.map V.str)
  | [] => by unfold RepL; rfl
  | s :: r => by
    rw [List.map_cons, List.map_cons]
    unfold RepL
    exact ⟨_, _, rfl, by unfold Rep; rfl, repL_strs' r⟩
theorem o_srtS {X : Cx} : OpNF X (rSortedSA X.K) srtStrD := by
  intro A H xs vs d Q ak e h q
  match xs, e with
  | [.lst ds], e =>
    obtain ⟨v, ev, h1⟩ := rep1 h
    subst ev
    obtain ⟨ss, e1, e2⟩ := Option.map_eq_some_iff.mp e
    subst e2
    obtain rfl := strsOf_map e1
    obtain ⟨a, ws, ew, h2, h3⟩ := h1.lst
    subst ew
    obtain rfl := repL_strs h3
    exact ⟨a, ss, rfl, h2, fun p n => q p _ (same_upd n) n (repO_newlst ak (repL_strs' _) n)⟩
end DL

namespace DL
open PySem L2

/-! ### sorted, of tuples of ints that are not empty, any number -/
def ltI (h : Heap) (u v : Value) : Bool := decide (TS.intsOf h u < TS.intsOf h v)
theorem swoI (h : Heap) : SrtO.Swo (ltI h) where
  asym x y e := decide_eq_false (List.lt_asymm (of_decide_eq_true e))
  tr x y z h1 h2 := by
    have h1 := of_decide_eq_false h1
    have h2 := of_decide_eq_false h2
    exact decide_eq_false fun e => (List.not_lt.mpr (List.le_trans (List.not_lt.mp h1) (List.not_lt.mp h2))) e
theorem intsAre_num {xs : List Value} {ns : List Int} (h : PyProof.Rows.IntsAre xs ns) : xs.map PyProof.Rows.numOf = ns := by
  induction h with
  | nil => rfl
  | cons n t h ih => rw [List.map_cons, ih]; rfl
theorem intsOf_eq {h : Heap} {v : Value} {ns : List Int} (t : TS.TupInts h v ns) : TS.intsOf h v = ns := by
  obtain ⟨a, xs, e, ⟨o, g, c, n, d⟩, i⟩ := t
  subst e
  unfold TS.intsOf
  simp only [g, d]
  exact intsAre_num i
theorem tupInts_keep {h h' : Heap} {v : Value} {ns : List Int} (t : TS.TupInts h v ns) (k : ∀ b o, h.get? b = some o → h'.get? b = some o) : TS.TupInts h' v ns := by
  obtain ⟨a, xs, e, ⟨o, g, c, n, d⟩, i⟩ := t
  exact ⟨a, xs, e, ⟨o, k _ _ g, c, n, d⟩, i⟩
theorem dlt_same (n : Int) (a b : List Int) : decide (n :: a < n :: b) = decide (a < b) :=
  decide_eq_decide.mpr (List.cons_lt_cons_iff.trans ⟨fun z => z.elim (fun y => absurd y (Int.lt_irrefl _)) (·.2), fun z => .inr ⟨rfl, z⟩⟩)
theorem dlt_ne {n m : Int} (h : n ≠ m) (a b : List Int) : decide (n :: a < m :: b) = decide (n < m) :=
  decide_eq_decide.mpr (List.cons_lt_cons_iff.trans ⟨fun z => z.elim (fun y => y) (fun y => absurd y.1 h), fun z => .inl z⟩)
theorem lex_any {prog : Program} {w : World} {A : Around} {s : Shared} {Q : Bool → Shared → Prop} {b : Bool} : ∀ {xs : List Value} {ns : List Int} {ys : List Value} {ms : List Int} {fin : Bool} (i : Nat),
    PyProof.Rows.IntsAre xs ns → PyProof.Rows.IntsAre ys ms → fin = decide (xs.length < ys.length) → Q (decide (ns < ms)) s → PySem.W.KatLex prog w A b fin Q (xs.zip ys) i s
  | _, _, _, _, fin, i, .nil, .nil, e, q => PySem.W.kat_nil (by rw [e]; simpa using q)
  | _, _, _, _, fin, i, .nil, .cons m u h2, e, q => PySem.W.kat_nil (by rw [e]; simpa using q)
  | _, _, _, _, fin, i, .cons n t h1, .nil, e, q => PySem.W.kat_nil (by rw [e]; simpa using q)
  | _, _, _, _, fin, i, .cons n t h1, .cons m u h2, e, q => by
    rw [List.zip_cons_cons]
    unfold PySem.W.KatLex
    refine wpAny_eqBool_int ?_
    by_cases hnm : n = m
    · subst hnm
      rw [if_pos (by simp)]
      refine lex_any (i + 1) h1 h2 (by rw [e]; simp) ?_
      rw [dlt_same] at q
      exact q
    · rw [if_neg (by simpa using hnm)]
      refine TS.oneLt_ints _ ?_
      rw [dlt_ne hnm] at q
      exact q
def TupsNe (h : Heap) (vs : List Value) : Prop := ∀ v ∈ vs, ∃ ns, TS.TupInts h v ns ∧ ns ≠ []
theorem tupsNe_firsts {h : Heap} : ∀ {vs : List Value}, TupsNe h vs → ∃ fs : List Value, PySem.W.KatTups h vs fs ∧ fs.length = vs.length ∧ ∀ f ∈ fs, ∃ n t, f = Value.int n t
  | [], _ => ⟨[], by unfold PySem.W.KatTups; trivial, rfl, fun f m => by cases m⟩
  | v :: vs, hv => by
    obtain ⟨fs, h1, h2, h3⟩ := tupsNe_firsts (vs := vs) fun u m => hv u (List.mem_cons_of_mem _ m)
    obtain ⟨ns, ⟨a, xs, e, ⟨o, g, c, n, d⟩, i⟩, ne⟩ := hv v List.mem_cons_self
    obtain ⟨l⟩ := xs
    cases i with
    | nil => exact absurd rfl ne
    | @cons n1 t vs' ns' i' =>
      refine ⟨Value.int n1 t :: fs, ?_, by simp [h2], fun f m => ?_⟩
      · unfold PySem.W.KatTups
        exact ⟨⟨a, o, _, n, e, g, c, d, by simp⟩, h1⟩
      · cases m with
        | head => exact ⟨_, _, rfl⟩
        | tail _ m => exact h3 f m
theorem sortOkT {X : Cx} {its : List Value} {h : Heap} (hs : TupsNe h its) (h2 : 2 ≤ its.length) : SortOk X its (ltI h) h := by
  intro A s hk
  have hs' : TupsNe s.heap its := fun v m => by
    obtain ⟨ns, t, ne⟩ := hs v m
    exact ⟨ns, tupInts_keep t hk, ne⟩
  obtain ⟨fs, f1, f2, f3⟩ := tupsNe_firsts hs'
  refine ⟨PyProof.Rows.tuples' (Value.type "int" != Value.type "tuple"), fun Q E q => PySem.W.kat_kind f1 (by omega) (fun v m => ?_) (by rfl) q, fun p q hp hq => ?_⟩
  · obtain ⟨n, t, e⟩ := f3 v m
    subst e
    exact PySem.W.Looks.of_pure (by rfl)
  · obtain ⟨p1, p2⟩ := p
    obtain ⟨q1, q2⟩ := q
    obtain ⟨ns, t1, _⟩ := hs _ hp
    obtain ⟨ms, t2, _⟩ := hs _ hq
    have e1 := intsOf_eq t1
    have e2 := intsOf_eq t2
    obtain ⟨a, xs, ea, ⟨o, g, c, n, d⟩, i⟩ := tupInts_keep t1 hk
    obtain ⟨b, ys, eb, ⟨o', g', c', n', d'⟩, i'⟩ := tupInts_keep t2 hk
    simp only at ea eb e1 e2 ⊢
    subst ea
    subst eb
    refine PySem.W.kat_lt g d g' d' (lex_any 0 i i' (by simp) ⟨rfl, ?_⟩)
    unfold SrtO.lt2 ltI
    simp only
    rw [e1, e2]
def TupI (K : PySem.W.Frag) (H : Hp) (x : V) (ns : List Int) : Prop := ∃ t, x = .ref t ∧ SqT K H t (ns.map V.int)
def rSortedTA (K : PySem.W.Frag) : List V → Hp → VK → Prop := fun vs H Q => ∃ (a : Addr) (xs : List V), vs = [V.ref a] ∧ SqL K H a xs ∧ (∀ x ∈ xs, ∃ ns, DL.TupI K H x ns ∧ ns ≠ []) ∧
  ∀ (ys : List V) (p : Addr), ys.Perm xs → (ys.Pairwise fun x y => ∀ n m, DL.TupI K H x n → DL.TupI K H y m → n ≤ m) → H p = none → Q (.ref p) (upd H p (.lst ys))
theorem vals_ints : ∀ {ns : List Int} {its : List Value}, Vals (ns.map V.int) its → PyProof.Rows.IntsAre its ns
  | [], its, h => by cases h; exact .nil
  | s :: r, its, h => by
    cases h with
    | cons a b =>
      obtain ⟨t, e⟩ := a
      subst e
      exact .cons _ _ (vals_ints b)
theorem tupI_val {X : Cx} {pins : List (Addr × Obj)} {s : Shared} {σ : St} {H : Hp} {x : V} {v : Value} {ns : List Int} (I : L2.Inv X pins σ H s) (h : DL.TupI X.K H x ns) (r : RelV x v) : TS.TupInts s.heap v ns := by
  obtain ⟨t, e, q⟩ := h
  subst e
  have r : v = Value.ref t := r
  subst r
  obtain ⟨its, h1, h2, _⟩ := I.tuple q
  exact ⟨t, its.toArray, rfl, h2, vals_ints h1⟩
theorem srtd_tups {X : Cx} {pins : List (Addr × Obj)} {s : Shared} {σ : St} {H : Hp} (I : L2.Inv X pins σ H s) : ∀ {ys : List V} {its : List Value}, Vals ys its → SrtO.Srtd (ltI s.heap) its → ys.Pairwise fun x y => ∀ n m, DL.TupI X.K H x n → DL.TupI X.K H y m → n ≤ m
  | [], _, _, _ => .nil
  | y :: ys, _, .cons (b := u) (l₂ := us) a b, h => by
    obtain ⟨h1, h2⟩ := List.pairwise_cons.mp h
    refine List.pairwise_cons.mpr ⟨fun z mz n m hn hm => ?_, srtd_tups I b h2⟩
    have key : ∀ {zs : List V} {us : List Value}, Vals zs us → ∀ z ∈ zs, ∃ w ∈ us, RelV z w := by
      intro zs us hv
      induction hv with
      | nil => intro z mz; cases mz
      | cons p q ih =>
        intro z mz
        cases mz with
        | head => exact ⟨_, List.mem_cons_self, p⟩
        | tail _ mz => obtain ⟨w, i, r⟩ := ih z mz; exact ⟨w, List.mem_cons_of_mem _ i, r⟩
    obtain ⟨w, mw, rw_⟩ := key b z mz
    have e := h1 w mw
    unfold ltI at e
    rw [intsOf_eq (tupI_val I hn a), intsOf_eq (tupI_val I hm rw_)] at e
    exact List.not_lt.mp (of_decide_eq_false e)
theorem cr_sortedTA {X : Cx} : CallR X (.builtin "sorted") (rSortedTA X.K) := by
  intro pins s σ H xs us Q I hv h
  obtain ⟨a, ss, e, hs, ht, q⟩ := h
  subst e
  cases hv with
  | cons h1 h2 =>
    cases h2
    cases h1
    refine sorted_lay (ltv := ltI s.heap) I hs (swoI _) (fun its hv h2 => sortOkT (fun v m => ?_) h2) fun p ys its yv yp hsr hn => q ys p yp (srtd_tups I yv hsr) hn
    obtain ⟨x, mx, r⟩ := paired_all hv v m
    obtain ⟨ns, t, ne⟩ := ht x mx
    exact ⟨ns, tupI_val I t r, ne⟩
/-- sorted(list of tuples of ints) -/
def intsOf : List D → Option (List Int)
  | [] => some []
  | .int x :: r => (intsOf r).map fun l => x :: l
  | _ :: _ => none
def tupsOf : List D → Option (List (List Int))
  | [] => some []
  | .tup x :: r => (intsOf x).bind fun ns => if ns = [] then none else (tupsOf r).map fun l => ns :: l
  | _ :: _ => none
def leI (a b : List Int) : Bool := !decide (b < a)
theorem leI_iff {a b : List Int} : leI a b = true ↔ a ≤ b := by
  unfold leI
  rw [Bool.not_eq_true', decide_eq_false_iff_not]
  exact List.not_lt
def sortInts (l : List (List Int)) : List (List Int) := l.mergeSort leI
theorem sortInts_pw (l : List (List Int)) : (sortInts l).Pairwise fun a b => leI a b = true :=
  List.pairwise_mergeSort (le := leI) (fun a b c h1 h2 => leI_iff.mpr (List.le_trans (leI_iff.mp h1) (leI_iff.mp h2))) (fun a b => by
    have : leI a b = true ∨ leI b a = true := by rw [leI_iff, leI_iff]; exact List.le_total _ _
    cases this with
    | inl e => rw [e]; rfl
    | inr e => rw [e]; exact Bool.or_true _) l
theorem sortInts_uniq {l ys : List (List Int)} (p : ys.Perm l) (h : ys.Pairwise fun a b => leI a b = true) : ys = sortInts l :=
  List.Perm.eq_of_pairwise (fun a b _ _ h1 h2 => List.le_antisymm (leI_iff.mp h1) (leI_iff.mp h2)) h (sortInts_pw l) (p.trans (List.mergeSort_perm l leI).symm)
def tupD (ns : List Int) : D := .tup (ns.map D.int)
def srtTupD : List D → Option D
  | [.lst ds] => (tupsOf ds).map fun ss => .lst ((sortInts ss).map tupD)
  | _ => none
theorem intsOf_map : ∀ {ds : List D} {ss : List Int}, intsOf ds = some ss → ds = ss.map D.int
  | [], ss, h => by cases h; rfl
  | d :: ds, ss, h => by
    cases d with
    | int x =>
      obtain ⟨r, e, e2⟩ := Option.map_eq_some_iff.mp h
      subst e2
      rw [intsOf_map e]
      rfl
    | _ => cases h
theorem tupsOf_map : ∀ {ds : List D} {ss : List (List Int)}, tupsOf ds = some ss → ds = ss.map tupD ∧ ∀ ns ∈ ss, ns ≠ []
  | [], ss, h => by cases h; exact ⟨rfl, fun _ m => by cases m⟩
  | d :: ds, ss, h => by
    cases d with
    | tup x =>
      obtain ⟨ns, e1, h⟩ := Option.bind_eq_some_iff.mp h
      by_cases hn : ns = []
      · rw [if_pos hn] at h; cases h
      · rw [if_neg hn] at h
        obtain ⟨r, e, e2⟩ := Option.map_eq_some_iff.mp h
        subst e2
        obtain ⟨i1, i2⟩ := tupsOf_map e
        rw [i1, intsOf_map e1]
        exact ⟨rfl, fun n m => by cases m with
          | head => exact hn
          | tail _ m => exact i2 n m⟩
    | _ => cases h
theorem repL_ints {K : PySem.W.Frag} {H : Hp} {A : Addr → Prop} : ∀ {ss : List Int} {vs : List V}, RepL K H A (ss.map D.int) vs → vs = ss.map V.int
  | [], vs, h => by unfold RepL at h; exact h
  | s :: r, vs, h => by
    rw [List.map_cons] at h
    unfold RepL at h
    obtain ⟨v, w, e, h1, h2⟩ := h
    unfold Rep at h1
    subst h1
    rw [e, repL_ints h2]
    rfl
theorem repL_paired {K : PySem.W.Frag} {H : Hp} {A : Addr → Prop} : ∀ {ss : List (List Int)} {vs : List V}, RepL K H A (ss.map tupD) vs → Paired (fun ns v => Rep K H A (tupD ns) v) ss vs
  | [], vs, h => by unfold RepL at h; subst h; exact .nil
  | s :: r, vs, h => by
    rw [List.map_cons] at h
    unfold RepL at h
    obtain ⟨v, w, e, h1, h2⟩ := h
    subst e
    exact .cons h1 (repL_paired h2)
theorem paired_repL {K : PySem.W.Frag} {H : Hp} {A : Addr → Prop} {ss : List (List Int)} {vs : List V} (h : Paired (fun ns v => Rep K H A (tupD ns) v) ss vs) : RepL K H A (ss.map tupD) vs := by
  induction h with
  | nil => unfold RepL; rfl
  | cons a b ih =>
    rw [List.map_cons]
    unfold RepL
    exact ⟨_, _, rfl, a, ih⟩
theorem rep_tupI {K : PySem.W.Frag} {H : Hp} {A : Addr → Prop} {ns : List Int} {v : V} (h : Rep K H A (tupD ns) v) : DL.TupI K H v ns := by
  unfold tupD at h
  obtain ⟨a, xs, e, h2, h3⟩ := RepB.tup (.inl h)
  rw [repL_ints h3] at h2
  exact ⟨a, e, h2⟩
theorem paired_pw {K : PySem.W.Frag} {H : Hp} {A : Addr → Prop} {ss : List (List Int)} {vs : List V} (h : Paired (fun ns v => Rep K H A (tupD ns) v) ss vs) (p : vs.Pairwise fun x y => ∀ n m, DL.TupI K H x n → DL.TupI K H y m → n ≤ m) : ss.Pairwise fun a b => leI a b = true := by
  induction h with
  | nil => exact .nil
  | cons a b ih =>
    obtain ⟨p1, p2⟩ := List.pairwise_cons.mp p
    refine List.pairwise_cons.mpr ⟨fun z mz => ?_, ih p2⟩
    have key : ∀ {ss : List (List Int)} {vs : List V}, Paired (fun ns v => Rep K H A (tupD ns) v) ss vs → ∀ z ∈ ss, ∃ w ∈ vs, Rep K H A (tupD z) w := by
      intro ss vs hv
      induction hv with
      | nil => intro z mz; cases mz
      | cons p q ih =>
        intro z mz
        cases mz with
        | head => exact ⟨_, List.mem_cons_self, p⟩
        | tail _ mz => obtain ⟨w, i, r⟩ := ih z mz; exact ⟨w, List.mem_cons_of_mem _ i, r⟩
    obtain ⟨w, mw, r⟩ := key b z mz
    exact leI_iff.mpr (p1 w mw _ _ (rep_tupI a) (rep_tupI r))
theorem o_srtT {X : Cx} : OpNF X (rSortedTA X.K) srtTupD := by
  intro A H xs vs d Q ak e h q
  match xs, e with
  | [.lst ds], e =>
    obtain ⟨v, ev, h1⟩ := rep1 h
    subst ev
    obtain ⟨ss, e1, e2⟩ := Option.map_eq_some_iff.mp e
    subst e2
    obtain ⟨e3, ne⟩ := tupsOf_map e1
    subst e3
    obtain ⟨a, ws, ew, h2, h3⟩ := h1.lst
    subst ew
    have hp := repL_paired h3
    refine ⟨a, ws, rfl, h2, fun x mx => ?_, fun ys p yp pw n => ?_⟩
    · obtain ⟨ns, mn, r⟩ := paired_all hp x mx
      exact ⟨ns, rep_tupI r, ne ns mn⟩
    · obtain ⟨zs, zp, zv⟩ := paired_perm yp hp
      rw [← sortInts_uniq zp (paired_pw zv pw)] at q
      exact q p _ (same_upd n) n (repO_newlst ak (paired_repL zv) n)
/-- sorted: of texts or of tuples of ints -/
theorem callR_or {X : Cx} {f : Value} {r1 r2 : List V → Hp → VK → Prop} (h1 : CallR X f r1) (h2 : CallR X f r2) : CallR X f (fun x H Q => r1 x H Q ∨ r2 x H Q) := by
  intro pins s σ H xs us Q I hv h
  cases h with
  | inl h => exact h1 pins s σ H xs us Q I hv h
  | inr h => exact h2 pins s σ H xs us Q I hv h
def srtD (l : List D) : Option D := match srtStrD l with
  | some d => some d
  | none => srtTupD l
theorem cr_srt {X : Cx} : CallR X (.builtin "sorted") (fun x H Q => rSortedSA X.K x H Q ∨ rSortedTA X.K x H Q) := callR_or cr_sortedSA cr_sortedTA
theorem o_srt {X : Cx} : OpNF X (fun x H Q => rSortedSA X.K x H Q ∨ rSortedTA X.K x H Q) srtD := by
  intro A H xs vs d Q ak e h q
  unfold srtD at e
  split at e
  · rename_i d' e'
    cases e
    exact .inl (o_srtS A H xs vs _ Q ak e' h q)
  · exact .inr (o_srtT A H xs vs _ Q ak e h q)
end DL

namespace DL
open PySem L2

/-! ### x[::-1] of a text -/
def revStr (x : Str) : Str := ⟨x.cps.toList.reverse.toArray⟩
def tRevS (te : TE) : TE := fun σ H Q => te σ H fun x H1 => ∃ a, x = V.str a ∧ a.length ≤ sizeLine ∧ Q (.str (revStr a)) H1
theorem revStr_len (a : Str) : (revStr a).length = a.length := by
  show (a.cps.toList.reverse.toArray).size = a.cps.size
  simp
theorem sliceRev (n : Nat) : sliceRange ((n : Int) - 1) (-1) (-1) = (List.range n).reverse := by
  unfold sliceRange
  have c : (if (-1 : Int) > 0 then if (n : Int) - 1 < -1 then (-1 - ((n : Int) - 1) + -1 - 1) / -1 else 0 else if (n : Int) - 1 > -1 then ((n : Int) - 1 - -1 - -1 - 1) / - -1 else 0) = (n : Int) := by
    rw [if_neg (by decide)]
    split
    · rw [Int.neg_neg, Int.ediv_one]; omega
    · omega
  simp only [c, Int.toNat_natCast]
  refine List.ext_getElem (by simp) fun i h1 h2 => ?_
  simp only [List.length_map, List.length_range] at h1
  simp only [List.getElem_map, List.getElem_range, List.getElem_reverse, List.length_range]
  omega
theorem fm_all : ∀ l : List Nat, (List.range l.length).filterMap (fun i => l[i]?) = l
  | [] => rfl
  | x :: t => by
    rw [List.length_cons, List.range_succ_eq_map, List.filterMap_cons]
    simp [List.filterMap_map, Function.comp_def, fm_all t]
theorem picked_rev {a : Str} {t2 : Tok} : List.filterMap (fun i => a.cps[i]?) (slicePicked a none none (some (-1, t2))) = a.cps.toList.reverse := by
  have e : slicePicked a none none (some (-1, t2)) = (List.range a.length).reverse := by
    unfold slicePicked
    simp only [Option.map, Option.getD]
    unfold Builtin.Str.strSliceIndices
    show sliceRange ((a.length : Int) - 1) (-1) (-1) = _
    exact sliceRev _
  rw [e, List.filterMap_reverse]
  congr 1
  have : a.length = a.cps.toList.length := by rfl
  rw [this]
  have := fm_all a.cps.toList
  simpa using this
section
variable {X : Cx} {e : Expr} {te : TE} {k : Nat} {p1 p2 p3 pos : Pos}
theorem pe_revS (pe : PE X e te) (hT : ∀ (o r : Value), letTemporaryGo e o r = pure ()) : PE X (e.Subscript (Expr.Slice none none (some (Expr.UnaryOp UnaryOp.USub (Expr.Constant (Const.int 1) k p1) p2)) p3) pos) (tRevS te) := by
  refine ⟨fun pins s σ H Q I h => ?_⟩
  refine wpAny_Subscript_Slice_step str_getit ?_ hT
  refine wpAny_mono (pe.run pins s σ H _ I h) (fun o s1 h1 => ?_) (fun _ _ z => z)
  obtain ⟨v, H1, I1, r1, a, ea, al, q⟩ := h1
  subst ea
  obtain ⟨t, et⟩ := r1
  subst et
  rw [arm_eval_Slice]
  refine wpAny_bind (wpAny_of_eq (a := Value.none) rfl ?_)
  refine wpAny_bind (wpAny_holding (wpAny_of_eq (a := Value.none) rfl ?_))
  refine wpAny_bind (wpAny_holding ?_)
  show wpAny _ _ (eval (Expr.UnaryOp UnaryOp.USub (Expr.Constant (Const.int 1) k p1) p2) X.env) _ _ _
  refine wpAny_mono ((pe_un (X := X) un_neg pe_int).run pins s1 σ H1 (fun v H2 => v = V.int (-1) ∧ H2 = H1) I1 ?_) (fun o2 s2 h2 => ?_) (fun _ _ z => z)
  · exact ⟨1, rfl, rfl, rfl⟩
  · obtain ⟨v2, H2, I2, r2, e2, e3⟩ := h2
    subst e2
    subst e3
    obtain ⟨t2, et2⟩ := r2
    subst et2
    show wpAny _ _ (newObj (.type "slice") (.fields #[.none, .none, .int (-1) t2])) _ _ _
    refine wpAny_newObj_type ?_
    refine ⟨rfl, ?_⟩
    refine wpAny_getItem_str_slice (l := none) (u := none) (st := some (-1, t2)) ⟨_, Heap.get?_push_size _ rfl, rfl, rfl⟩ rfl ?_
    unfold sliceMade
    rw [if_neg (by simp)]
    have e : (List.filterMap (fun i => a.cps[i]?) (slicePicked a none none (some (-1, t2)))).toArray = (revStr a).cps := by
      rw [picked_rev]
      rfl
    rw [e]
    refine ⟨by show (revStr a).length ≤ _; rw [revStr_len]; exact al, .str (revStr a), H2, ?_, ⟨_, rfl⟩, q⟩
    exact I2.kept fun b u hb => Heap.get?_push_of_some _ hb
def revSD : D → Option D
  | .str x => if x.length ≤ sizeLine then some (.str (revStr x)) else none
  | _ => none
theorem d_revS {W : WX} {fa : Env → R D} (h : DB X W e fa) (hT : ∀ (o r : Value), letTemporaryGo e o r = pure () := by exact fun _ _ => rfl) : DP X W (e.Subscript (Expr.Slice none none (some (Expr.UnaryOp UnaryOp.USub (Expr.Constant (Const.int 1) k p1) p2)) p3) pos) (un1 revSD fa) := by
  obtain ⟨t, pe, w⟩ := h
  refine ⟨_, pe_revS pe hT, fun F os r σ H Q R S => w F os r σ H _ R (S.bind.imp fun d S v H1 s1 h1 => ?_)⟩
  obtain ⟨d2, e2, S⟩ := Sat.ofO S
  cases d with
  | str x =>
    by_cases hl : x.length ≤ sizeLine
    · have e3 : some (D.str (revStr x)) = some d2 := (if_pos hl).symm.trans e2
      have e4 : D.str (revStr x) = d2 := Option.some.inj e3
      subst e4
      exact ⟨x, RepB.str h1, hl, S _ H1 s1 rep_str⟩
    · have e3 : (none : Option D) = some d2 := (if_neg hl).symm.trans e2
      exact absurd e3 (by simp)
  | _ => cases e2
end
end DL

namespace DL
open PySem L2

/-! ### max of a list of ints -/
def maxLD : List D → Option D
  | [.lst xs] => (intsD xs).bind fun ns => ns.max?.map D.int
  | _ => none
theorem max_uniq {ns : List Int} {m z : Int} (h : ns.max? = some m) (i : z ∈ ns) (g : ∀ y ∈ ns, y ≤ z) : z = m := by
  obtain ⟨h1, h2⟩ := List.max?_eq_some_iff.mp h
  exact Int.le_antisymm (h2 z i) (g m h1)
theorem o_maxL {X : Cx} : OpN X (rMax X.K) maxLD := by
  intro A H xs vs d Q ak e h k
  match xs, e with
  | [.lst xs], e =>
    obtain ⟨v, ev, h1⟩ := rep1 h
    subst ev
    obtain ⟨ns, e1, e2⟩ := Option.bind_eq_some_iff.mp e
    obtain ⟨m, e3, e4⟩ := Option.map_eq_some_iff.mp e2
    obtain ⟨a, us, ev, q1, q2⟩ := RepB.lst h1
    rw [intsD_rep e1 q2] at q1
    subst e4 ev
    refine ⟨a, ns, rfl, q1, ?_, fun z i g => ?_⟩
    · cases ns with
      | nil => cases e3
      | cons _ _ => exact Nat.succ_pos _
    · rw [max_uniq e3 i g]
      exact k _ H Same.of_eq (by unfold Rep; rfl)
end DL

namespace DL
open PySem L2

/-! ### a text times a number -/
def rMulS : R2 := fun x y H Q => ∃ (a : Str) (k : Int), x = .str a ∧ y = .int k ∧ k ≤ 1000 ∧ -1000 ≤ k ∧ a.length ≤ 1000 ∧ Q (.str (Txt.mul a k)) H
theorem op_mulS {X : Cx} : OpR X (binaryOp .Mult) rMulS := by
  intro pins s σ H x y v u Q I rx ry h
  obtain ⟨a, k, rfl, rfl, h1, h2, h3, q⟩ := h
  obtain ⟨t, rfl⟩ := rx
  obtain ⟨t2, rfl⟩ := ry
  have hm : ((a.length : Nat) : Int) * k ≤ 1000000 := by
    by_cases hk : 0 ≤ k
    · have a1 : ((a.length : Nat) : Int) * k ≤ 1000 * k := Int.mul_le_mul_of_nonneg_right (by omega) hk
      omega
    · have a1 : ((a.length : Nat) : Int) * k ≤ 0 := Int.mul_nonpos_of_nonneg_of_nonpos (by omega) (by omega)
      omega
  refine SB.mul ⟨?_, fun c1 _ => ?_, fun c1 _ => ?_⟩ fun t' k' => ?_
  · rw [decide_eq_false (by omega), decide_eq_false (by omega)] <;> rfl
  · intro hc
    have h4 : (1000 : Int) ≤ (2 ^ 63 - 1) / k := by
      rw [Int.le_ediv_iff_mul_le (by omega)]
      omega
    omega
  · have h5 : a.length * k.toNat ≤ 1000 * 1000 := Nat.mul_le_mul h3 (by omega)
    unfold Builtin.Str.tooLong
    rw [decide_eq_false]
    rw [sizeLine_eq]
    omega
  · exact ⟨.str (Txt.mul a k), H, I.tok _, ⟨t', rfl⟩, q⟩
def mulSD : D → D → Option D
  | .str a, .int k => if k ≤ 1000 ∧ -1000 ≤ k ∧ a.length ≤ 1000 then some (.str (Txt.mul a k)) else none
  | _, _ => none
theorem o_mulS {X : Cx} : Op2 X rMulS mulSD := by
  intro A H x y v w d Q ak e hx hy q
  cases x with
  | str a =>
    cases y with
    | int k =>
      unfold mulSD at e
      simp only at e
      split at e
      · rename_i h
        cases e
        exact ⟨a, k, hx.str, hy.int, h.1, h.2.1, h.2.2, q _ H (Same.refl H) (by unfold Rep; rfl)⟩
      · cases e
    | _ => cases e
  | _ => cases e

/-! ### a tuple times a number -/
theorem tuple_mul1 (l : Addr) (items : Array Value) (n : Nat) (dd : Option Addr) (sl : Array (Option Value)) (u : Tok) :
    Meets (Builtin.«tuple.__mul__» ⟨[.ref l, .int 1 u], []⟩) (fun _ R s => s.heap.get? l = some { cls := .type "tuple", dict := dd, data := .seq items n, slots := sl } ∧ R (.ok (.ret (Value.ref l))) s) :=
  .of_wp fun prog w A R s h => by
    obtain ⟨hp, g, d, tk, os⟩ := s
    obtain ⟨hl, h⟩ := h
    have f1 := AutoSeq1.idx_int
    wp_walk using wpAny_loadPart' hl
    repeat (first
      | (refine wpAny_ite_false (by decide) ?_; wp_walk using wpAny_loadPart' hl)
      | (refine wpAny_ite_true (by simp) ?_; wp_walk using wpAny_loadPart' hl))
    exact ⟨_, rfl, h⟩
def rMulT (K : PySem.W.Frag) : R2 := fun x y H Q => rRepT K x y H Q ∨ ∃ (l : Addr) (xs : List V), x = .ref l ∧ y = .int 1 ∧ SqT K H l xs ∧ Q (.ref l) H
theorem op_mul1 {X : Cx} : OpR X (binaryOp .Mult) (fun x y H Q => ∃ (l : Addr) (xs : List V), x = .ref l ∧ y = .int 1 ∧ SqT X.K H l xs ∧ Q (.ref l) H) := by
  intro pins s σ H x y v u Q I rx ry h
  obtain ⟨l, xs, rfl, rfl, hT, q⟩ := h
  cases rx
  obtain ⟨t, rfl⟩ := ry
  obtain ⟨its, r, ⟨⟨cls, dd, data, sl⟩, ho, hc, n, hd⟩, hs⟩ := I.tuple hT
  simp only at hc hd
  subst hc hd
  exact wpAny_binaryOp_repeat_ref (T := "tuple") (U := "int") (by decide) ⟨_, ho, rfl⟩ (fun s' => typeIs_int s' 1 t) noFill_tuple_mul F.fills_int_mul F.slot_int_rmul repeat_tuple F.slot_int_index.lookup
    (PySem.call_meets F.slot_int_rmul (typeIs_int s 1 t) F.entry_int_rmul (F.args_int_rmul_2 _ _) (int_rmul_tuple 1 t l its.toArray n dd sl)
      ⟨ho, rfl, ⟨_, ho, rfl⟩, PySem.call_meets F.slot_tuple_mul ⟨_, ho, rfl⟩ F.entry_tuple_mul (F.args_tuple_mul_2 _ _) (tuple_mul1 l its.toArray n dd sl t) ⟨ho, ⟨.ref l, H, I, rfl, q⟩⟩⟩)
theorem op_mulT {X : Cx} : OpR X (binaryOp .Mult) (rMulT X.K) := op_repT.or op_mul1
def mulTD : D → D → Option D
  | .tup xs, .int k => if xs.isEmpty = false ∧ 1 ≤ k ∧ k ≤ 1000 ∧ xs.length ≤ 1000 then some (.tup (List.replicate k.toNat xs).flatten) else none
  | _, _ => none
theorem o_mulT {X : Cx} : Op2 X (rMulT X.K) mulTD := by
  intro A H x y v w d Q ak e hx hy q
  cases x with
  | tup xs =>
    cases y with
    | int k =>
      unfold mulTD at e
      simp only at e
      split at e
      · rename_i h
        cases e
        obtain ⟨a, vs, e1, h1, h2⟩ := hx.tup
        have hl := repL_length h2
        have hne : vs ≠ [] := fun z => by
          rw [z] at hl
          cases xs with
          | nil => simp at h
          | cons _ _ => simp at hl
        by_cases hk : k = 1
        · subst hk
          refine .inr ⟨a, vs, e1, hy.int, h1, q _ H (Same.refl H) ?_⟩
          have e2 : (List.replicate (1 : Int).toNat xs).flatten = xs := by simp
          rw [e2, ← e1]
          rcases hx with z | ⟨_, _, z⟩
          · exact z
          · exact z.elim
        · refine .inl ⟨a, k, vs, e1, hy.int, h1, hne, by omega, h.2.2.1, by omega, fun p np => q _ _ (same_upd np) (rep_newtup ak (repL_rep h2 _) np)⟩
      · cases e
    | _ => cases e
  | _ => cases e

/-! ### methods of lists -/
def OpL (X : Cx) (r : V → List V → Hp → VK → Prop) (op : List D → List D → Option D) : Prop := ∀ (A : Addr → Prop) (H : Hp) (x : List D) (xs : List D) (v : V) (vs : List V) (d : D) (Q : VK), AOk A H → op x xs = some d → RepB X.K H A (.lst x) v → Paired (RepB X.K H A) xs vs →
  (∀ u H', Same H H' → Rep X.K H' A d u → Q u H') → r v vs H Q
def asLst : D → Option (List D)
  | .lst x => some x
  | _ => none
def mthL (op : List D → List D → Option D) (fo : Env → R D) (g : Env → R (List D)) : Env → R D := fun r => (fo r).bind fun x => (R.ofO (asLst x)).bind fun z => (g r).bind fun ds => R.ofO (op z ds)
section
variable {X : Cx} {W : WX} {o e : Expr} {es : List Expr} {name : Str} {id : String} {apos cpos : Pos} {fo : Env → R D} {g : Env → R (List D)}
theorem d_ml {rr : V → List V → Hp → VK → Prop} {op : List D → List D → Option D} (slot : PySem.Slot "list" name id) (hty : typeOf (.builtin id) = pure (.type "method_descriptor")) (hm : MtR X id rr) (h : OpL X rr op) (ho : DB X W o fo) (ha : DBs X W (e :: es) g)
    (hbase : attributeBase o name X.env (eval o X.env) = eval o X.env := by rfl)
    (hfew : ((backTo cpos (starEach (e :: es) X.env)).all (fun x => !x.1) && (backToKw cpos (keywordEach [] X.env)).all (fun x => x.1.isSome)
      && decide ((e :: es).length + ([] : List Keyword).length + (if ([] : List Keyword).isEmpty then 0 else 1) < 30)) = true := by rfl)
    (hline : (apos.endLine == cpos.line) = true := by rfl) (hs : starEach (e :: es) X.env = (false, eval e X.env) :: starEach es X.env := by rfl) (hplain : (backTo cpos (starEach es X.env)).any (·.1) = false := by rfl) :
    DP X W (.Call (.Attribute o name apos) (e :: es) [] cpos) (mthL op fo g) := by
  obtain ⟨to, po, wo⟩ := ho
  obtain ⟨ta, pa, wa⟩ := ha
  refine ⟨_, pe_bm PySem.F.plainAttrs_list slot hty hm po pa hbase hfew hline hs hplain, fun F os r σ H Q R S => wo F os r σ H _ R (S.bind.imp fun d S v H1 s1 h1 => ?_)⟩
  obtain ⟨z, ez, S2⟩ := Sat.ofO S.bind
  clear S
  cases d with
  | lst z' =>
    cases ez
    obtain ⟨a, us, ev, q1, q2⟩ := RepB.lst h1
    subst ev
    refine ⟨.inl ⟨rfl, us, q1⟩, wa F os r σ H1 _ (R.same' s1) (S2.bind.imp fun ds S vs H2 s2 h2 => ?_)⟩
    obtain ⟨d, e0, S⟩ := Sat.ofO S
    have R1 := R.same' s1
    have R2 := R1.same' s2
    exact h _ H2 z ds (.ref a) vs d Q R2.AOk e0 (h1.same s2 R1.AOk) h2 fun u H3 s3 h3 => S u H3 (s1.trans (s2.trans s3)) h3
  | _ => cases ez
end
/-- l.index(x) -/
def indexLD : List D → List D → Option D
  | ds, [x] => if shp (.lst ds) && shp x then (ds.findIdx? fun y => eqPy y x).map fun j => .int (j : Nat) else none
  | _, _ => none
theorem toPyL_get : ∀ (ds : List D) (i : Nat), (toPyL ds)[i]? = ds[i]?.map toPy
  | [], i => by simp [toPyL]
  | d :: ds, 0 => by simp [toPyL]
  | d :: ds, i + 1 => by
    simp only [toPyL, List.getElem?_cons_succ]
    exact toPyL_get ds i
theorem o_indexL {X : Cx} : OpL X (rIndexD X.K) indexLD := by
  intro A H x xs v vs d Q ak e hx h k
  match xs, e with
  | [y], e =>
    unfold indexLD at e
    simp only at e
    split at e
    · rename_i hs
      rw [Bool.and_eq_true] at hs
      cases q : x.findIdx? fun z => eqPy z y with
      | none => rw [q] at e; cases e
      | some j =>
        rw [q] at e
        cases e
        obtain ⟨w, ew, h1⟩ := rep1 h
        subst ew
        obtain ⟨a, us, ev, q1, q2⟩ := RepB.lst hx
        subst ev
        obtain ⟨hj, e1, e2⟩ := List.findIdx?_eq_some_iff_getElem.mp q
        refine ⟨a, w, toPy y, toPyL x, j, toPy x[j], rfl, rfl, ?_, dp_ofB (SeqAt.canLay_of_shaped hs.2) h1, hs.1, hs.2, ?_, e1, fun m z' hm ez => ?_, k _ H (Same.refl H) (by unfold Rep; rfl)⟩
        · have := dp_ofB (K := X.K) (H := H) (A := A) (SeqAt.canLay_of_shaped hs.1) hx
          exact this
        · rw [toPyL_get, List.getElem?_eq_getElem hj]
          rfl
        · rw [toPyL_get, List.getElem?_eq_getElem (by omega)] at ez
          cases ez
          have := e2 m hm
          show eqPy x[m] y = false
          simpa using this
    · cases e
/-- freezing, as a closed term -/
def frzS (i : Nat) (f : Env → R Fl) : Env → R Fl := fun r => f (frz1 i r)
theorem s_frzS {X : Cx} {W : WX} {sts : List Stmt} (i : Nat) {f : Env → R Fl} (h : DSs X W sts f) : DSs X W sts (frzS i f) := s_frz i h
end DL

namespace DL
open PySem L2

/-! ### loops, by invariants -/
theorem forD_inv {g : D → Env → R Env} {b : Env → R Fl} (I : Nat → Env → Prop) : ∀ (items : List D) (k : Nat) (r : Env), I k r →
    (∀ (i : Nat) (x : D) (r : Env), items[i]? = some x → I (k + i) r → ∃ r1 r2, g x r = .ok r1 ∧ b r1 = .ok (.nx r2) ∧ I (k + i + 1) r2) →
    ∃ r', forD g b items r = .ok (.nx r') ∧ I (k + items.length) r'
  | [], k, r, h0, hs => ⟨r, rfl, h0⟩
  | x :: xs, k, r, h0, hs => by
    obtain ⟨r1, r2, e1, e2, h2⟩ := hs 0 x r rfl h0
    obtain ⟨r', e3, h3⟩ := forD_inv I xs (k + 1) r2 h2 (fun i y r e h => by
      have := hs (i + 1) y r (by simpa using e) (by rw [← Nat.add_assoc, Nat.add_right_comm]; exact h)
      rw [← Nat.add_assoc, Nat.add_right_comm k i 1] at this
      exact this)
    refine ⟨r', ?_, ?_⟩
    · unfold forD
      rw [e1]
      simp only [R.bind]
      rw [e2]
      exact e3
    · rw [List.length_cons, Nat.add_comm xs.length 1, ← Nat.add_assoc]
      exact h3
theorem for_inv {g : D → Env → R Env} {b : Env → R Fl} {items : List D} {r : Env} (I : Nat → Env → Prop) (h0 : I 0 r)
    (hs : ∀ (i : Nat) (x : D) (r : Env), items[i]? = some x → I i r → ∃ r1 r2, g x r = .ok r1 ∧ b r1 = .ok (.nx r2) ∧ I (i + 1) r2) :
    ∃ r', forD g b items r = .ok (.nx r') ∧ I items.length r' := by
  have := forD_inv (g := g) (b := b) I items 0 r h0 (fun i x r e h => by
    rw [Nat.zero_add] at h ⊢
    exact hs i x r e h)
  rw [Nat.zero_add] at this
  exact this
/-- a list comprehension, item by item -/
theorem lcP_ok {g : D → Env → R Env} {c : Env → R Bool} {f : Env → R D} {r0 : Env} (p : D → Bool) (φ : D → D) : ∀ (items : List D),
    (∀ x ∈ items, ∃ r1, g x r0 = .ok r1 ∧ c r1 = .ok (p x) ∧ (p x = true → f r1 = .ok (φ x))) → lcP g c f r0 items = .ok ((items.filter p).map φ)
  | [], h => rfl
  | x :: xs, h => by
    obtain ⟨r1, e1, e2, e3⟩ := h x (List.mem_cons_self ..)
    have ih := lcP_ok p φ xs fun y hy => h y (List.mem_cons_of_mem _ hy)
    unfold lcP
    rw [e1]
    simp only [R.ne, R.bind]
    rw [e2]
    simp only [R.bind]
    cases hp : p x with
    | false => simp only [Bool.false_eq_true, if_false, List.filter_cons, hp]; exact ih
    | true =>
      simp only [if_true, List.filter_cons, hp]
      rw [e3 hp]
      simp only [R.bind]
      rw [ih]
      rfl
theorem lcV_ok {g : D → Env → R Env} {c : Env → R Bool} {f : Env → R D} {own : List (Str × Nat)} {h : Env → R (List D)} {r : Env} {items : List D} (p : D → Bool) (φ : D → D) (hn : noOwn (own.map (·.2)) r = true) (hi : h r = .ok items) (hl : items.length ≤ sizeLine)
    (hx : ∀ x ∈ items, ∃ r1, g x (wipeE r (own.map (·.2))) = .ok r1 ∧ c r1 = .ok (p x) ∧ (p x = true → f r1 = .ok (φ x))) : lcD own h g c f r = .ok (.lst ((items.filter p).map φ)) := by
  unfold lcD
  rw [if_pos hn]
  unfold lcV
  rw [hi]
  simp only [R.bind]
  rw [if_pos hl, lcP_ok p φ items hx]

/-! ### texts by their signs -/
abbrev mkS (l : List Nat) : Str := ⟨l.toArray⟩
def tx (l : List Nat) : D := .str (mkS l)
theorem tx_eq (l : List Nat) : tx l = .str (mkS l) := (rfl)
theorem str_len (l : List Nat) : (mkS l).length = l.length := (rfl)
theorem sgs_tx (l : List Nat) : sgs (mkS l) = l.map fun c => tx [c] := by
  unfold sgs
  rfl
theorem str_tx (z : Str) : D.str z = tx z.cps.toList := (rfl)
theorem str_app (l m : List Nat) : mkS l ++ mkS m = mkS (l ++ m) := by
  show PySem.Str.append _ _ = _
  unfold PySem.Str.append
  simp
theorem tx_inj {l m : List Nat} : (mkS l = mkS m) ↔ l = m := by
  constructor
  · intro h
    have := congrArg (fun s : Str => s.cps.toList) h
    simpa using this
  · intro h
    rw [h]
theorem cut_tx (l : List Nat) (lo hi : Option Int) : cutS (mkS l) lo hi = mkS (cutL l lo hi) := by
  unfold cutS cutL
  rw [str_len]
theorem len_fit {l : List Nat} (h : l.length ≤ 1000) : l.length ≤ sizeLine := by
  rw [sizeLine_eq]
  omega
theorem ix_tx {l : List Nat} (h : l.length ≤ 1000) (i : Int) : ixD (tx l) (.int i) = (atI l i).map fun c => tx [c] := by
  rw [tx_eq]
  unfold ixD
  simp only
  rw [if_pos (by rw [str_len]; exact len_fit h)]
  rfl
theorem len_tx {l : List Nat} (h : l.length ≤ 1000) : lenD [tx l] = some (.int l.length) := by
  simp only [tx_eq]
  unfold lenD
  simp only
  rw [if_pos (by rw [str_len]; exact len_fit h), str_len]
theorem sl_tx {l : List Nat} (h : l.length ≤ 1000) (lo hi : Option Int) : slA (tx l) lo hi = some (tx (cutL l lo hi)) := by
  simp only [tx_eq]
  unfold slA
  simp only
  rw [if_pos (by rw [str_len]; exact len_fit h), cut_tx]
theorem eq_tx (l m : List Nat) : eqD (tx l) (tx m) = some (.bl (decide (l = m))) := by
  simp only [tx_eq]
  unfold eqD
  simp only [tx_inj]
theorem ne_tx (l m : List Nat) : neD (tx l) (tx m) = some (.bl (!decide (l = m))) := by
  simp only [tx_eq]
  unfold neD
  simp only [tx_inj]
theorem plus_tx {l m : List Nat} (h : l.length ≤ 1000) (h2 : m.length ≤ 1000) : plusD (tx l) (tx m) = some (tx (l ++ m)) := by
  simp only [tx_eq]
  unfold plusD
  simp only
  rw [if_pos (by rw [str_len, str_len, sizeLine_eq]; omega), str_app]
theorem eq_int (i j : Int) : eqD (.int i) (.int j) = some (.bl (decide (i = j))) := (rfl)
theorem ne_int (i j : Int) : neD (.int i) (.int j) = some (.bl (!decide (i = j))) := (rfl)
theorem le_int (i j : Int) : le2D (.int i) (.int j) = some (.bl (decide (i ≤ j))) := (rfl)
theorem atI_nat {α : Type} (xs : List α) (i : Nat) : atI xs (i : Int) = xs[i]? := by
  unfold atI ixN
  rw [if_pos (Int.natCast_nonneg i)]
  by_cases h : i < xs.length
  · rw [if_pos (by omega)]
    rfl
  · rw [if_neg (by omega), List.getElem?_eq_none (by omega)]
    rfl
theorem atI_zero {α : Type} (xs : List α) : atI xs 0 = xs[0]? := atI_nat xs 0
theorem atI_last {α : Type} (xs : List α) : atI xs (-1) = xs.getLast? := by
  unfold atI ixN
  rw [if_neg (by decide)]
  cases xs with
  | nil => rfl
  | cons a t =>
    rw [if_pos (by rw [List.length_cons]; omega), List.getLast?_eq_getElem?]
    show (a :: t)[((-1 : Int) + (((a :: t).length : Nat) : Int)).toNat]? = _
    congr 1
    rw [List.length_cons]
    omega
theorem cut_to {α : Type} (xs : List α) (k : Nat) : cutL xs none (some (k : Int)) = xs.take k := by
  unfold cutL
  rw [HT.sIx_none, HT.sIx_nat, List.drop_zero, Nat.sub_zero, Nat.min_comm]
  by_cases h : k ≤ xs.length
  · rw [Nat.min_eq_right h]
  · rw [Nat.min_eq_left (by omega), List.take_of_length_le (Nat.le_refl _), List.take_of_length_le (by omega)]
theorem cut_from {α : Type} (xs : List α) (k : Nat) : cutL xs (some (k : Int)) none = xs.drop k := by
  unfold cutL
  rw [HT.sIx_none, HT.sIx_nat]
  by_cases h : k ≤ xs.length
  · rw [Nat.min_eq_left h, List.take_of_length_le (by rw [List.length_drop]; exact Nat.le_refl _)]
  · rw [Nat.min_eq_right (by omega), List.drop_of_length_le (Nat.le_refl _), List.drop_of_length_le (by omega), List.take_nil]
theorem cut_both {α : Type} (xs : List α) (i j : Nat) : cutL xs (some (i : Int)) (some (j : Int)) = (xs.take j).drop i := by
  unfold cutL
  rw [HT.sIx_nat, HT.sIx_nat, List.drop_take]
  by_cases hi : i ≤ xs.length
  · rw [Nat.min_eq_left hi]
    by_cases hj : j ≤ xs.length
    · rw [Nat.min_eq_left hj]
    · rw [Nat.min_eq_right (Nat.le_of_not_le hj), List.take_of_length_le (by rw [List.length_drop]; exact Nat.le_refl _), List.take_of_length_le (by rw [List.length_drop]; omega)]
  · rw [Nat.min_eq_right (Nat.le_of_not_le hi), List.drop_of_length_le (Nat.le_refl _), List.drop_of_length_le (Nat.le_of_not_le hi), List.take_nil, List.take_nil]
theorem cut_butlast {α : Type} (xs : List α) : cutL xs none (some (-1)) = xs.dropLast := by
  unfold cutL
  rw [HT.sIx_none, List.drop_zero, Nat.sub_zero, List.dropLast_eq_take]
  have e : HT.sIx xs.length xs.length (some (-1)) = ((-1 : Int) + (xs.length : Int)).toNat := (rfl)
  rw [e]
  congr 1
  omega
/-- ints -/
abbrev nl (l : List Nat) : D := .lst (l.map fun k => D.int (k : Nat))
theorem rng_get (lo : Int) (n i : Nat) (x : D) (h : (rngL lo n)[i]? = some x) : i < n ∧ x = .int (lo + (i : Nat)) := by
  have hi : i < n := by
    have := (List.getElem?_eq_some_iff.mp h).1
    rw [rngL_length] at this
    exact this
  unfold rngL at h
  rw [List.getElem?_map, List.getElem?_range hi] at h
  exact ⟨hi, (Option.some.inj h).symm⟩
theorem rngr_get (lo : Int) (n i : Nat) (x : D) (h : (rngL lo n).reverse[i]? = some x) : i < n ∧ x = .int (lo + ((n - 1 - i : Nat) : Int)) := by
  have hi : i < n := by
    have := (List.getElem?_eq_some_iff.mp h).1
    rw [List.length_reverse, rngL_length] at this
    exact this
  rw [List.getElem?_reverse (by rw [rngL_length]; exact hi), rngL_length] at h
  exact ⟨hi, (rng_get lo n _ x h).2⟩
end DL

namespace DL
open PySem L2
/-! ### evaluation -/
section
variable {α β : Type}
theorem bind_ok (a : α) (g : α → R β) : (R.ok a).bind g = g a := (rfl)
theorem ofO_some (a : α) : R.ofO (some a) = R.ok a := (rfl)
theorem at_ok (r : Env) (a : α) : R.at r (R.ok a) = R.ok a := (rfl)
theorem ne_ok (a : α) : R.ne (R.ok a) = R.ok a := (rfl)
end
def gS : Option Slot → R D
  | some (.sh d) => .ok d
  | _ => .stk
def gA : Option Slot → R D
  | some (.sh d) => .ok d
  | some (.own d) => .ok d
  | some (.io d) => .ok d
  | _ => .stk
theorem gSh_eq (i : Nat) (r : Env) : gSh i r = gS r[i]? := (rfl)
theorem gAny_eq (i : Nat) (r : Env) : gAny i r = gA r[i]? := (rfl)
theorem gS_sh (d : D) : gS (some (.sh d)) = .ok d := (rfl)
theorem gA_sh (d : D) : gA (some (.sh d)) = .ok d := (rfl)
theorem gA_own (d : D) : gA (some (.own d)) = .ok d := (rfl)
theorem gA_io (d : D) : gA (some (.io d)) = .ok d := (rfl)
def oL : Option Slot → Option (Slot × List D)
  | some s => match s.cont with
    | some (.lst xs) => some (s, xs)
    | _ => none
  | none => none
theorem ownL_eq (r : Env) (i : Nat) : ownL r i = oL r[i]? := (rfl)
theorem oL_own (xs : List D) : oL (some (.own (.lst xs))) = some (.own (.lst xs), xs) := (rfl)
theorem oL_io (xs : List D) : oL (some (.io (.lst xs))) = some (.io (.lst xs), xs) := (rfl)
theorem put_own (d e : D) : (Slot.own d).put e = .own e := (rfl)
theorem put_io (d e : D) : (Slot.io d).put e = .io e := (rfl)
theorem asB_bl' (b : Bool) : asB (.bl b) = some b := (rfl)
theorem asI_int' (i : Int) : asI (.int i) = some i := (rfl)
theorem tru_bl (b : Bool) : truD (.bl b) = some b := (rfl)
theorem tru_int (i : Int) : truD (.int i) = some (i != 0) := (rfl)
theorem tru_lst (xs : List D) : truD (.lst xs) = some (!xs.isEmpty) := (rfl)
theorem len_lst (xs : List D) : lenD [.lst xs] = some (.int xs.length) := (rfl)
theorem len_tup (xs : List D) : lenD [.tup xs] = some (.int xs.length) := (rfl)
theorem ix_lst (xs : List D) (i : Int) : ixD (.lst xs) (.int i) = atI xs i := (rfl)
theorem ix_tup (xs : List D) (i : Int) : ixD (.tup xs) (.int i) = atI xs i := (rfl)
theorem sl_lst (xs : List D) (lo hi : Option Int) : slA (.lst xs) lo hi = some (.lst (cutL xs lo hi)) := (rfl)
theorem sl_tup (xs : List D) (lo hi : Option Int) : slA (.tup xs) lo hi = some (.tup (cutL xs lo hi)) := (rfl)
theorem plus_int (i j : Int) : plusD (.int i) (.int j) = some (.int (i + j)) := (rfl)
theorem plus_lst {xs ys : List D} (h : xs.length + ys.length ≤ 1000000) : plusD (.lst xs) (.lst ys) = some (.lst (xs ++ ys)) := by
  unfold plusD
  simp only
  rw [if_pos (by rw [sizeLine_eq]; omega)]
theorem plus_tup {xs ys : List D} (h : xs.length + ys.length ≤ 1000000) : plusD (.tup xs) (.tup ys) = some (.tup (xs ++ ys)) := by
  unfold plusD
  simp only
  rw [if_pos (by rw [sizeLine_eq]; omega)]
theorem cat_lst {xs ys : List D} (h : xs.length + ys.length ≤ 1000000) : catD (.lst xs) (.lst ys) = some (.lst (xs ++ ys)) := by
  unfold catD
  simp only
  rw [if_pos (by rw [sizeLine_eq]; omega)]
theorem rep_lst1 {d : D} {k : Nat} (h : k ≤ 1000000) : repD (.lst [d]) (.int (k : Nat)) = some (.lst (List.replicate k d)) := by
  unfold repD
  simp only
  rw [if_pos ⟨by omega, by omega, by rw [sizeLine_eq, Int.toNat_natCast]; simp; omega⟩, Int.toNat_natCast]
  congr 2
  induction k with
  | zero => rfl
  | succ k ih => rw [List.replicate_succ, List.flatten_cons, ih (by omega)]; rfl
theorem zD_tx (l : List Nat) : zD (tx l) = some (l.map fun c => tx [c]) := by
  rw [tx_eq]
  show some (sgs (mkS l)) = _
  rw [sgs_tx]
theorem zD_lst (xs : List D) : zD (.lst xs) = some xs := (rfl)
theorem zD_tup (xs : List D) : zD (.tup xs) = some xs := (rfl)
theorem rev_tx {l : List Nat} (h : l.length ≤ 1000) : revZ (tx l) = some (l.reverse.map fun c => tx [c]) := by
  rw [tx_eq]
  unfold revZ
  simp only
  rw [if_pos (by rw [str_len]; exact len_fit h), sgs_tx, List.map_reverse]
theorem en_tx (l : List Nat) : enD [tx l] = some ((l.zipIdx).map fun p => D.tup [.int (p.2 : Nat), tx [p.1]]) := by
  rw [tx_eq]
  show some ((sgs (mkS l)).zipIdx.map _) = _
  rw [sgs_tx, List.zipIdx_map, List.map_map]
  rfl
theorem asStr_tx (l : List Nat) : asStr (tx l) = some (mkS l) := (rfl)
theorem tup_lst (xs : List D) : tupC [.lst xs] = some (.tup xs) := (rfl)
theorem lst_tup (xs : List D) : lstC [.tup xs] = some (.lst xs) := (rfl)
theorem isi_tx (l : List Nat) : isiD [tx l, .ty "str"] = some (.bl true) := (rfl)
theorem isi_int (i : Int) : isiD [.int i, .ty "int"] = some (.bl true) := (rfl)
theorem kit_ib : kitB "int" "bool" = some false := by decide +kernel
theorem kit_lt : kitB "list" "tuple" = some false := by decide +kernel
theorem isi_intb (i : Int) : isiD [.int i, .ty "bool"] = some (.bl false) := by
  show (if "int" = "" then none else kitB "int" "bool").map D.bl = _
  rw [kit_ib, if_neg (by decide)]
  rfl
theorem isi_tt (xs : List D) : isiD [.tup xs, .ty "tuple"] = some (.bl true) := (rfl)
theorem isi_lt (xs : List D) : isiD [.lst xs, .ty "tuple"] = some (.bl false) := by
  show (if "list" = "" then none else kitB "list" "tuple").map D.bl = _
  rw [kit_lt, if_neg (by decide)]
  rfl
theorem int_op {C : Int → Int → Bool} {F : Int → Int → Int} {i j : Int} (h : C i j = true) : intOp C F (.int i) (.int j) = some (.int (F i j)) := by
  unfold intOp
  simp only
  rw [if_pos h]
theorem sub_int' (i j : Int) : subD (.int i) (.int j) = some (.int (i - j)) := int_op rfl
theorem add_ip (i j : Int) : intOp (fun _ _ => true) (fun i j => i + j) (.int i) (.int j) = some (.int (i + j)) := int_op rfl
theorem sub_ip (i j : Int) : intOp (fun _ _ => true) (fun i j => i - j) (.int i) (.int j) = some (.int (i - j)) := int_op rfl
theorem mul_int' {i j : Int} (h : (-(2 ^ 64) < i ∧ i < 2 ^ 64) ∨ (-(2 ^ 64) < j ∧ j < 2 ^ 64)) : mulD (.int i) (.int j) = some (.int (i * j)) := int_op (by
  rcases h with z | z
  · rw [decide_eq_true z, Bool.true_or]
  · rw [decide_eq_true z, Bool.or_true])
theorem mod_int' {i j : Int} (h : 0 < j) : modD (.int i) (.int j) = some (.int (i % j)) := int_op (decide_eq_true h)
theorem fdiv_int' {i j : Int} (h : 0 < j ∧ j < 1073741824) : fdivD (.int i) (.int j) = some (.int (i / j)) := int_op (decide_eq_true h)
theorem lt_int (i j : Int) : ltD (.int i) (.int j) = some (.bl (decide (i < j))) := (rfl)
theorem gt_int (i j : Int) : gtD (.int i) (.int j) = some (.bl (decide (j < i))) := (rfl)
theorem ge_int (i j : Int) : geD (.int i) (.int j) = some (.bl (decide (j ≤ i))) := (rfl)
theorem isn_int (i : Int) : notN2 (.int i) .non = some (.bl true) := (rfl)
theorem isn_non : notN2 .non .non = some (.bl false) := (rfl)
theorem isb (a b : Bool) : isBD (.bl a) (.bl b) = some (.bl (decide (a = b))) := (rfl)
theorem neg_int (i : Int) : negD (.int i) = some (.int (-i)) := (rfl)
theorem int_int (i : Int) : intD [.int i] = some (.int i) := (rfl)
theorem atI_two {α : Type} (xs : List α) : atI xs 2 = xs[2]? := atI_nat xs 2
theorem atI_three {α : Type} (xs : List α) : atI xs 3 = xs[3]? := atI_nat xs 3
theorem atI_one {α : Type} (xs : List α) : atI xs 1 = xs[1]? := atI_nat xs 1
theorem atI_succ {α : Type} (xs : List α) (n : Nat) : atI xs ((n : Int) + 1) = xs[n + 1]? := atI_nat xs (n + 1)
theorem rg1_nat {n : Nat} (h : n ≤ 1000000) : rg1 [.int (n : Nat)] = some (rngL 0 n) := by
  unfold rg1
  simp only
  rw [if_pos (by omega), Int.toNat_natCast]
theorem rg2_nat {m n : Nat} (h : m ≤ 1000000 ∧ n ≤ 1000000) : rg2 [.int (m : Nat), .int (n : Nat)] = some (rngL (m : Nat) (n - m)) := by
  unfold rg2
  simp only
  rw [if_pos (by omega)]
  congr 2
  omega
theorem rvR_nat {n : Nat} (h : n ≤ 1000000) : rvR (.int 0) (.int (n : Nat)) = some (rngL 0 n).reverse := by
  unfold rvR
  simp only
  rw [if_pos (by omega)]
  congr 3
/-! ### statements -/
section
variable {f g : Env → R Fl} {r r1 r2 : Env} {x : R Fl} {d : D}
theorem seq_nx (h : f r = .ok (.nx r1)) (h2 : g r1 = x) : seqS f g r = x := by
  unfold seqS
  rw [h]
  exact h2
theorem seq_rt (h : f r = .ok (.rt d r1)) : seqS f g r = .ok (.rt d r1) := by
  unfold seqS
  rw [h]
  rfl
theorem seq_bk (h : f r = .ok (.bk r1)) : seqS f g r = .ok (.bk r1) := by
  unfold seqS
  rw [h]
  rfl
theorem if_y {c : Env → R (Bool × Env)} (h : c r = .ok (true, r1)) (h2 : f r1 = x) : ifS c f g r = x := by
  unfold ifS
  rw [h]
  exact h2
theorem if_n {c : Env → R (Bool × Env)} (h : c r = .ok (false, r1)) (h2 : g r1 = x) : ifS c f g r = x := by
  unfold ifS
  rw [h]
  exact h2
theorem for_st {h : Env → R (List D × Env)} {t : D → Env → R Env} {items : List D} (e : h r = .ok (items, r1)) (h2 : forD t f items r1 = x) : forS h t f r = x := by
  unfold forS
  rw [e]
  exact h2
theorem for_p {h : Env → R (List D)} {t : D → Env → R Env} {items : List D} (e : h r = .ok items) (h2 : forD t f items r = x) : forS (withEnv h) t f r = x := by
  unfold forS withEnv
  rw [e]
  exact h2
theorem set_e {i : Nat} {h : Env → R (D × Env)} (e : h r = .ok (d, r1)) : setS i h r = .ok (.nx (r1.set i (.sh d))) := by
  unfold setS
  rw [e]
  rfl
theorem set_p {i : Nat} {h : Env → R D} (e : h r = .ok d) : setS i (withEnv h) r = .ok (.nx (r.set i (.sh d))) := by
  unfold setS withEnv
  rw [e]
  rfl
theorem seto {i : Nat} {h : Env → R D} (e : h r = .ok d) : setO i h r = .ok (.nx (r.set i (.own d))) := by
  unfold setO
  rw [e]
  rfl
theorem ret_p {h : Env → R D} (e : h r = .ok d) : retS (withEnv h) r = .ok (.rt d r) := by
  unfold retS withEnv
  rw [e]
  rfl
theorem ret_e {h : Env → R (D × Env)} (e : h r = .ok (d, r1)) : retS h r = .ok (.rt d r1) := by
  unfold retS
  rw [e]
  rfl
theorem expr_p {h : Env → R D} (e : h r = .ok d) : exprS (withEnv h) r = .ok (.nx r) := by
  unfold exprS withEnv
  rw [e]
  rfl
theorem cond_p {h : Env → R Bool} {b : Bool} (e : h r = .ok b) : withEnv h r = .ok (b, r) := by
  unfold withEnv
  rw [e]
  rfl
theorem fnD_rt {N n : Nat} {ds : List D} (hl : ds.length = n) (h : f (ini N ds) = .ok (.rt d r1)) : fnD N n f ds = .ok d := by
  unfold fnD
  rw [if_pos hl, h]
  rfl
theorem fnD_nx {N n : Nat} {ds : List D} (hl : ds.length = n) (h : f (ini N ds) = .ok (.nx r1)) : fnD N n f ds = .ok .non := by
  unfold fnD
  rw [if_pos hl, h]
  rfl
theorem fnIO_rt {N n : Nat} {row row' ds : List D} (hl : ds.length = n) (h : f (.io (.lst row) :: ini (N - 1) ds) = .ok (.rt d (.io (.lst row') :: r1))) : fnIO N n f row ds = .ok (d, row') := by
  unfold fnIO
  rw [if_pos hl, h]
  rfl
theorem call_p {n : Nat} {F : List D → R D} {h : Env → R (List D)} {ds : List D} (e : h r = .ok ds) (hl : ds.length = n) (e2 : F ds = .ok d) : callF n F h r = .ok d := by
  unfold callF
  rw [e]
  simp only [bind_ok]
  rw [if_pos hl, e2]
  rfl
end
end DL
namespace DL
open PySem L2
section
variable {r r1 : Env} {d x y : D} {s : Slot} {xs : List D} {i : Nat}
theorem itm_ok {fk fe : Env → R D} {k : Int} {j : Nat} (hv : fe r = .ok d) (ho : ownL r i = some (s, xs)) (hk : fk r = .ok (.int k)) (hj : ixN xs.length k = some j) : itmS i fk fe r = .ok (.nx (r.set i (s.put (.lst (xs.set j d))))) := by
  unfold itmS
  simp only [hv, bind_ok, ho, ofO_some, hk, asI_int', hj]
theorem aug_ok {op : D → D → Option D} {f : Env → R D} (hr : r[i]? = some (.sh x)) (hf : f r = .ok y) (ho : op x y = some d) : augS i op f r = .ok (.nx (r.set i (.sh d))) := by
  unfold augS
  rw [hr]
  simp only [hf, bind_ok, ho, ofO_some]
theorem ret_own (hr : r[i]? = some (.own d)) : retO i r = .ok (.rt d (r.set i (.sh d))) := by
  unfold retO
  rw [hr]
theorem app_ok {fe : Env → R D} (ho : ownL r i = some (s, xs)) (hv : fe r = .ok d) (hl : xs.length < 1000000) : appS i fe r = .ok (.nx (r.set i (s.put (.lst (xs ++ [d]))))) := by
  unfold appS
  simp only [hv, bind_ok, ho, ofO_some]
  rw [if_pos (by rw [sizeLine_eq]; omega)]
theorem rvs_ok (ho : ownL r i = some (s, xs)) : rvsS i r = .ok (.nx (r.set i (s.put (.lst xs.reverse)))) := by
  unfold rvsS
  simp only [bind_ok, ho, ofO_some]
theorem asg_e {g : D → Env → R Env} {f : Env → R (D × Env)} {r2 : Env} (e : f r = .ok (d, r1)) (h : g d r1 = .ok r2) : asgS g f r = .ok (.nx r2) := by
  unfold asgS
  rw [e]
  simp only [bind_ok, h]
theorem asg_p {g : D → Env → R Env} {f : Env → R D} {r2 : Env} (e : f r = .ok d) (h : g d r = .ok r2) : asgS g (withEnv f) r = .ok (.nx r2) := by
  unfold asgS withEnv
  rw [e]
  simp only [bind_ok, h]
theorem par_e {j : Nat} {f : Env → R (List D × Env)} (e : f r = .ok ([x, y], r1)) : parS i j f r = .ok (.nx ((r1.set i (.sh x)).set j (.sh y))) := by
  unfold parS
  rw [e]
  rfl
theorem ixN_nat {n k : Nat} (h : k < n) : ixN n (k : Int) = some k := by
  unfold ixN
  rw [if_pos (Int.natCast_nonneg k), if_pos (by omega), Int.toNat_natCast]
theorem wx_ok {f : Env → R D} (e : f r = .ok d) : withEnv f r = .ok (d, r) := by
  unfold withEnv
  rw [e]
  rfl
end
theorem setmap {α : Type} (f g : Nat → α) (n p : Nat) (h : ∀ q, q < n → q ≠ p → f q = g q) : ((List.range n).map f).set p (g p) = (List.range n).map g := by
  apply List.ext_getElem?
  intro q
  rw [List.getElem?_set]
  by_cases hq : q < n
  · by_cases e : p = q
    · subst e
      rw [if_pos rfl, if_pos (by simpa using hq), List.getElem?_map, List.getElem?_range hq]
      rfl
    · rw [if_neg e, List.getElem?_map, List.getElem?_map, List.getElem?_range hq]
      simp only [Option.map_some]
      rw [h q hq (fun z => e z.symm)]
  · by_cases e : p = q
    · subst e
      rw [if_pos rfl, if_neg (by simpa using hq), List.getElem?_eq_none (by simpa using hq)]
    · rw [if_neg e, List.getElem?_eq_none (by simpa using hq), List.getElem?_eq_none (by simpa using hq)]
theorem map_get {α : Type} (f : Nat → α) (n q : Nat) (h : q < n) : ((List.range n).map f)[q]? = some (f q) := by
  rw [List.getElem?_map, List.getElem?_range h]
  rfl
end DL
namespace DL
open PySem L2
theorem rep_lst1s {d : D} {k : Nat} (h : k ≤ 100000) : repD (.lst [d]) (.int ((k : Nat) + 1)) = some (.lst (List.replicate (k + 1) d)) := by
  have := rep_lst1 (d := d) (k := k + 1) (by omega)
  rw [← this]
  congr 2
theorem range_rev {α : Type} (f : Nat → α) (m : Nat) : ((List.range (m + 1)).map f).reverse = (List.range (m + 1)).map fun k => f (m - k) := by
  apply List.ext_getElem?
  intro q
  by_cases h : q < m + 1
  · rw [List.getElem?_reverse (by simpa using h), map_get _ _ _ h, List.length_map, List.length_range, map_get _ _ _ (by omega)]
    congr 2
  · rw [List.getElem?_eq_none (by simp; omega), List.getElem?_eq_none (by simp; omega)]
theorem map_snoc {α : Type} (f : Nat → α) (m : Nat) : (List.range (m + 1)).map f = (List.range m).map f ++ [f m] := by
  rw [List.range_succ, List.map_append, List.map_cons, List.map_nil]
theorem tx_get {l : List Nat} {i : Nat} {x : D} (h : (l.map fun c => tx [c])[i]? = some x) : ∃ c, l[i]? = some c ∧ x = tx [c] := by
  rw [List.getElem?_map] at h
  cases q : l[i]? with
  | none => rw [q] at h; cases h
  | some c =>
    rw [q] at h
    exact ⟨c, rfl, (Option.some.inj h).symm⟩
end DL
namespace DL
open PySem L2
abbrev ni (k : Nat) : D := .int (k : Nat)
theorem rng_range' (s m : Nat) : rngL (s : Nat) m = (List.range' s m).map ni := by
  unfold rngL
  rw [List.range'_eq_map_range, List.map_map]
  apply List.map_congr_left
  intro i _
  simp [ni]
theorem ints_map (l : List Nat) : intsD (l.map ni) = some (l.map fun k : Nat => (k : Int)) := by
  induction l with
  | nil => rfl
  | cons a t ih =>
    rw [List.map_cons]
    unfold intsD
    rw [ih]
    rfl
theorem cast_sum (l : List Nat) : (l.map fun k : Nat => (k : Int)).sum = ((l.sum : Nat) : Int) := by
  induction l with
  | nil => rfl
  | cons a t ih =>
    rw [List.map_cons, List.sum_cons, List.sum_cons, ih]
    omega
theorem sum_nl (l : List Nat) : sumD [.lst (l.map ni)] = some (.int (l.sum : Nat)) := by
  show (intsD (l.map ni)).map (fun ns => D.int ns.sum) = _
  rw [ints_map, Option.map_some, cast_sum]
theorem sum_nt (l : List Nat) : sumD [.tup (l.map ni)] = some (.int (l.sum : Nat)) := by
  show (intsD (l.map ni)).map (fun ns => D.int ns.sum) = _
  rw [ints_map, Option.map_some, cast_sum]
theorem zip2_any {d e : D} {xs ys : List D} (h1 : zD d = some xs) (h2 : zD e = some ys) : zip2D [d, e] = some (List.zipWith (fun x y => D.tup [x, y]) xs ys) := by
  unfold zip2D
  simp only [h1, h2, Option.bind_some]
theorem zip3_any {d e f : D} {xs ys us : List D} (h1 : zD d = some xs) (h2 : zD e = some ys) (h3 : zD f = some us) : zip3D [d, e, f] = some (List.zipWith (fun x (r : D × D) => D.tup [x, r.1, r.2]) xs (List.zipWith (fun y u => (y, u)) ys us)) := by
  unfold zip3D
  simp only [h1, h2, h3, Option.bind_some]
end DL
namespace DL
theorem app1_ok {op : List D → Option D} {f : Env → R D} {r : Env} {d e : D} (h : f r = .ok d) (h2 : op [d] = some e) : appN op (aCons f aNil) r = .ok e := by
  have : aCons f aNil r = .ok [d] := by
    show (f r).bind _ = _
    rw [h]
    exact (rfl)
  show (aCons f aNil r).bind _ = _
  rw [this]
  show R.ofO (op [d]) = _
  rw [h2]
  exact (rfl)
theorem bin_ok {op : D → D → Option D} {f g : Env → R D} {r : Env} {x y d : D} (h : f r = .ok x) (h1 : g r = .ok y) (h2 : op x y = some d) : bin op f g r = .ok d := by
  show (f r).bind _ = _
  rw [h]
  show (g r).bind _ = _
  rw [h1]
  show R.ofO (op x y) = _
  rw [h2]
  exact (rfl)
end DL
namespace DL
open PySem L2
theorem wx {α : Type} {f : Env → R α} {r : Env} {a : α} (e : f r = .ok a) : withEnv f r = .ok (a, r) := by
  unfold withEnv
  rw [e]
  exact (rfl)
theorem callIO_ok {i n : Nat} {F : List D → List D → R (D × List D)} {g : Env → R (List D × Env)} {r : Env} {s : Slot} {row row' ds : List D} {d : D} (h : ownL r i = some (s, row)) (hg : g r = .ok (ds, r)) (hl : ds.length = n) (hF : F row ds = .ok (d, row')) :
    callIO i n F g r = .ok (d, r.set i (s.put (.lst row'))) := by
  unfold callIO
  simp only [h, ofO_some, bind_ok, hg, if_pos hl, hF, ne_ok]
theorem pow18 : powD (.int 10) (.int 18) = some (.int (10 ^ 18)) := int_op (by decide)
theorem abc : (D.str "abcdefgh") = tx [97, 98, 99, 100, 101, 102, 103, 104] := by
  unfold tx
  congr 1
def isPair (d : D) : Prop := ∃ a b : Nat, d = .tup [.int a, .int b]
theorem pairs_lay : ∀ xs : List D, (∀ d ∈ xs, isPair d) → PyData.canLayAll0 (toPyL xs) = true ∧ PyData.depthAll (toPyL xs) ≤ 1
  | [], h => ⟨by simp only [toPyL, PyData.canLayAll0], by simp only [toPyL, PyData.depthAll]; omega⟩
  | d :: xs, h => by
    obtain ⟨a, b, e⟩ := h d (List.mem_cons_self ..)
    obtain ⟨i1, i2⟩ := pairs_lay xs fun z hz => h z (List.mem_cons_of_mem _ hz)
    subst e
    constructor
    · simp only [toPyL, toPy, PyData.canLayAll0, PyData.canLay0, i1, Bool.and_self]
    · simp only [toPyL, toPy, PyData.depthAll, PyData.depth]
      omega
theorem ne_nil {xs : List D} (h : ∀ d ∈ xs, isPair d) : neD (.lst xs) (.lst []) = some (.bl (!xs.isEmpty)) := by
  obtain ⟨i1, i2⟩ := pairs_lay xs h
  have s1 : shp (.lst xs) = true := by
    unfold shp SeqAt.shaped
    simp only [toPy, PyData.canLay0, i1, Bool.true_and, PyData.depth]
    exact decide_eq_true (by omega)
  have s2 : shp (.lst []) = true := by
    unfold shp SeqAt.shaped
    simp only [toPy, toPyL, PyData.canLay0, PyData.canLayAll0, Bool.true_and, PyData.depth, PyData.depthAll]
    rfl
  have e : eqPy (.lst xs) (.lst []) = xs.isEmpty := by
    unfold eqPy
    simp only [toPy, PyData.eqv]
    cases xs with
    | nil => simp only [toPyL, PyData.eqvAll, List.isEmpty]
    | cons a t => simp only [toPyL, PyData.eqvAll, List.isEmpty]
  unfold neD
  simp only [s1, s2, Bool.and_self, if_true, e]
end DL

namespace DL
open PySem L2
/-! ### whole bodies, step by step: first-order rewriting (for simp only); no lemma here is a definitional step -/
section
variable {α β : Type} (r r1 r2 : Env) (d x y z : D) (ds xs : List D) (b c : Bool)
def weB (x : R α) (r : Env) : R (α × Env) := x.bind fun a => .ok (a, r)
theorem we_e (f : Env → R α) : withEnv f r = weB (f r) r := (rfl)
theorem weB_ok (a : α) : weB (.ok a) r = .ok (a, r) := (rfl)
def tsB (x : R D) : R Bool := x.bind fun d => R.ofO (asB d)
theorem ts_e (f : Env → R D) : tst f r = tsB (f r) := (rfl)
theorem tsB_ok : tsB (.ok (.bl b)) = .ok b := (rfl)
def tsE (x : R (D × Env)) : R (Bool × Env) := x.bind fun p => (R.ofO (asB p.1)).bind fun b => .ok (b, p.2)
theorem tsE_e (f : Env → R (D × Env)) : tstE f r = tsE (f r) := (rfl)
theorem tsE_ok : tsE (.ok (.bl b, r)) = .ok (b, r) := (rfl)
def prB (x : R α) (r : Env) : R (α × Env) := x.bind fun a => .ok (a, r)
theorem prB_ok (a : α) : prB (.ok a) r = .ok (a, r) := (rfl)
def trB (x : R D) : R Bool := x.bind fun d => R.ofO (truD d)
theorem tr_e (f : Env → R D) : tru f r = trB (f r) := (rfl)
theorem trB_ok : trB (.ok d) = R.ofO (truD d) := (rfl)
def trE (x : R (D × Env)) : R (Bool × Env) := x.bind fun p => (R.ofO (truD p.1)).bind fun b => .ok (b, p.2)
theorem trE_e (f : Env → R (D × Env)) : truE f r = trE (f r) := (rfl)
theorem trE_ok : trE (.ok (d, r)) = prB (R.ofO (truD d)) r := (rfl)
def bnB (op : D → D → Option D) (x y : R D) : R D := x.bind fun x => y.bind fun y => R.ofO (op x y)
theorem bn_e (op : D → D → Option D) (f g : Env → R D) : bin op f g r = bnB op (f r) (g r) := (rfl)
theorem bnB_ok (op : D → D → Option D) : bnB op (.ok x) (.ok y) = R.ofO (op x y) := (rfl)
def bnE (op : D → D → Option D) (x : R (D × Env)) (g : Env → R (D × Env)) : R (D × Env) := x.bind fun x => (g x.2).bind fun y => (R.ofO (op x.1 y.1)).bind fun d => .ok (d, y.2)
def bnE2 (op : D → D → Option D) (x : D) (y : R (D × Env)) : R (D × Env) := y.bind fun y => (R.ofO (op x y.1)).bind fun d => .ok (d, y.2)
theorem bnE_e (op : D → D → Option D) (f g : Env → R (D × Env)) : binE op f g r = bnE op (f r) g := (rfl)
theorem bnE_ok (op : D → D → Option D) (g : Env → R (D × Env)) : bnE op (.ok (x, r)) g = bnE2 op x (g r) := (rfl)
theorem bnE2_ok (op : D → D → Option D) : bnE2 op x (.ok (y, r)) = prB (R.ofO (op x y)) r := (rfl)
def apB (op : List D → Option β) (x : R (List D)) : R β := x.bind fun ds => R.ofO (op ds)
theorem ap_e (op : List D → Option D) (g : Env → R (List D)) : appN op g r = apB op (g r) := (rfl)
theorem apB_ok (op : List D → Option β) : apB op (.ok ds) = R.ofO (op ds) := (rfl)
theorem itN_e (p : List D → Option (List D)) (g : Env → R (List D)) : itN p g r = apB p (g r) := (rfl)
def apE (op : List D → Option D) (x : R (List D × Env)) : R (D × Env) := x.bind fun p => (R.ofO (op p.1)).bind fun d => .ok (d, p.2)
theorem apE_e (op : List D → Option D) (g : Env → R (List D × Env)) : appNE op g r = apE op (g r) := (rfl)
theorem apE_ok (op : List D → Option D) : apE op (.ok (ds, r)) = prB (R.ofO (op ds)) r := (rfl)
def apX (p : D → Option β) (x : R D) : R β := x.bind fun d => R.ofO (p d)
theorem itX_e (p : D → Option (List D)) (f : Env → R D) : itX p f r = apX p (f r) := (rfl)
theorem apX_ok (p : D → Option β) : apX p (.ok d) = R.ofO (p d) := (rfl)
theorem un1_e (op : D → Option D) (f : Env → R D) : un1 op f r = apX op (f r) := (rfl)
theorem aNil_e : aNil r = .ok [] := (rfl)
def acB (x : R D) (y : R (List D)) : R (List D) := x.bind fun d => y.bind fun ds => .ok (d :: ds)
theorem aCons_e (f : Env → R D) (g : Env → R (List D)) : aCons f g r = acB (f r) (g r) := (rfl)
theorem acB_ok : acB (.ok d) (.ok ds) = .ok (d :: ds) := (rfl)
def acE (x : R (D × Env)) (g : Env → R (List D × Env)) : R (List D × Env) := x.bind fun p => (g p.2).bind fun q => .ok (p.1 :: q.1, q.2)
def acE2 (d : D) (x : R (List D × Env)) : R (List D × Env) := x.bind fun q => .ok (d :: q.1, q.2)
theorem aConsE_e (f : Env → R (D × Env)) (g : Env → R (List D × Env)) : aConsE f g r = acE (f r) g := (rfl)
theorem acE_ok (g : Env → R (List D × Env)) : acE (.ok (d, r)) g = acE2 d (g r) := (rfl)
theorem acE2_ok : acE2 d (.ok (ds, r)) = .ok (d :: ds, r) := (rfl)
theorem kc_e : kc d r = .ok d := (rfl)
def ntB (x : R Bool) : R Bool := x.bind fun b => .ok (!b)
theorem notB_e (g : Env → R Bool) : notB g r = ntB (g r) := (rfl)
theorem ntB_ok : ntB (.ok b) = .ok (!b) := (rfl)
def ntV (x : R D) : R D := x.bind fun d => (R.ofO (asB d)).bind fun b => .ok (.bl (!b))
theorem notV_e (g : Env → R D) : notV g r = ntV (g r) := (rfl)
theorem ntV_ok : ntV (.ok (.bl b)) = .ok (.bl (!b)) := (rfl)
def ntE (x : R (Bool × Env)) : R (Bool × Env) := x.bind fun b => .ok (!b.1, b.2)
theorem notE_e (g : Env → R (Bool × Env)) : notBE g r = ntE (g r) := (rfl)
theorem ntE_ok : ntE (.ok (b, r)) = .ok (!b, r) := (rfl)
/-! the right side is looked at only where it counts -/
def anB (x : R Bool) (h : Env → R Bool) (r : Env) : R Bool := x.bind fun b => if b = true then h r else .ok false
theorem andB_e (g h : Env → R Bool) : andB g h r = anB (g r) h r := (rfl)
theorem anB_t (h : Env → R Bool) : anB (.ok true) h r = h r := (rfl)
theorem anB_f (h : Env → R Bool) : anB (.ok false) h r = .ok false := (rfl)
theorem anB_c {u v : R Bool} {h : Env → R Bool} {r : Env} (e : u = v) : anB u h r = anB v h r := by rw [e]
def roB' (x : R Bool) (h : Env → R Bool) (r : Env) : R Bool := x.bind fun b => if b = true then .ok true else h r
theorem orB_e (g h : Env → R Bool) : orB g h r = roB' (g r) h r := (rfl)
theorem orB_t (h : Env → R Bool) : roB' (.ok true) h r = .ok true := (rfl)
theorem orB_f (h : Env → R Bool) : roB' (.ok false) h r = h r := (rfl)
theorem orB_c {u v : R Bool} {h : Env → R Bool} {r : Env} (e : u = v) : roB' u h r = roB' v h r := by rw [e]
def anV (x : R D) (h : Env → R D) (r : Env) : R D := x.bind fun d => (R.ofO (asB d)).bind fun b => if b = true then h r else .ok (.bl false)
theorem andV_e (g h : Env → R D) : andV g h r = anV (g r) h r := (rfl)
theorem anV_t (h : Env → R D) : anV (.ok (.bl true)) h r = h r := (rfl)
theorem anV_f (h : Env → R D) : anV (.ok (.bl false)) h r = .ok (.bl false) := (rfl)
theorem anV_c {u v : R D} {h : Env → R D} {r : Env} (e : u = v) : anV u h r = anV v h r := by rw [e]
def roV (x : R D) (h : Env → R D) (r : Env) : R D := x.bind fun d => (R.ofO (asB d)).bind fun b => if b = true then .ok (.bl true) else h r
theorem orV_e (g h : Env → R D) : orV g h r = roV (g r) h r := (rfl)
theorem roV_t (h : Env → R D) : roV (.ok (.bl true)) h r = .ok (.bl true) := (rfl)
theorem roV_f (h : Env → R D) : roV (.ok (.bl false)) h r = h r := (rfl)
theorem roV_c {u v : R D} {h : Env → R D} {r : Env} (e : u = v) : roV u h r = roV v h r := by rw [e]
def ivB (x : R Bool) (h k : Env → R D) (r : Env) : R D := x.bind fun b => if b = true then h r else k r
theorem ifV_e (g : Env → R Bool) (h k : Env → R D) : ifV g h k r = ivB (g r) h k r := (rfl)
theorem ivB_t (h k : Env → R D) : ivB (.ok true) h k r = h r := (rfl)
theorem ivB_f (h k : Env → R D) : ivB (.ok false) h k r = k r := (rfl)
theorem ivB_c {u v : R Bool} {h k : Env → R D} {r : Env} (e : u = v) : ivB u h k r = ivB v h k r := by rw [e]
def ivE (x : R (Bool × Env)) (h k : Env → R (D × Env)) : R (D × Env) := x.bind fun b => if b.1 = true then h b.2 else k b.2
theorem ifVE_e (g : Env → R (Bool × Env)) (h k : Env → R (D × Env)) : ifVE g h k r = ivE (g r) h k := (rfl)
theorem ivE_t (h k : Env → R (D × Env)) : ivE (.ok (true, r)) h k = h r := (rfl)
theorem ivE_f (h k : Env → R (D × Env)) : ivE (.ok (false, r)) h k = k r := (rfl)
theorem ivE_c {u v : R (Bool × Env)} {h k : Env → R (D × Env)} (e : u = v) : ivE u h k = ivE v h k := by rw [e]
def anE (x : R (Bool × Env)) (h : Env → R (Bool × Env)) : R (Bool × Env) := x.bind fun b => if b.1 = true then h b.2 else .ok (false, b.2)
theorem andE_e (g h : Env → R (Bool × Env)) : andBE g h r = anE (g r) h := (rfl)
theorem anE_t (h : Env → R (Bool × Env)) : anE (.ok (true, r)) h = h r := (rfl)
theorem anE_f (h : Env → R (Bool × Env)) : anE (.ok (false, r)) h = .ok (false, r) := (rfl)
theorem anE_c {u v : R (Bool × Env)} {h : Env → R (Bool × Env)} (e : u = v) : anE u h = anE v h := by rw [e]
def roE (x : R (Bool × Env)) (h : Env → R (Bool × Env)) : R (Bool × Env) := x.bind fun b => if b.1 = true then .ok (true, b.2) else h b.2
theorem orE_e (g h : Env → R (Bool × Env)) : orBE g h r = roE (g r) h := (rfl)
theorem roE_t (h : Env → R (Bool × Env)) : roE (.ok (true, r)) h = .ok (true, r) := (rfl)
theorem roE_f (h : Env → R (Bool × Env)) : roE (.ok (false, r)) h = h r := (rfl)
theorem roE_c {u v : R (Bool × Env)} {h : Env → R (Bool × Env)} (e : u = v) : roE u h = roE v h := by rw [e]
def chB (o1 o2 : D → D → Option D) (x y : R D) (fc : Env → R D) (r : Env) : R D := x.bind fun x => y.bind fun y => (R.ofO (o1 x y)).bind fun d => (R.ofO (asB d)).bind fun k =>
  if k = true then (fc r).bind fun z => R.ofO (o2 y z) else .ok (.bl false)
def chB2 (o2 : D → D → Option D) (k : Option D) (y : D) (fc : Env → R D) (r : Env) : R D := (R.ofO k).bind fun d => (R.ofO (asB d)).bind fun k => if k = true then (fc r).bind fun z => R.ofO (o2 y z) else .ok (.bl false)
theorem chn_e (o1 o2 : D → D → Option D) (fa fb fc : Env → R D) : chn o1 o2 fa fb fc r = chB o1 o2 (fa r) (fb r) fc r := (rfl)
theorem chB_ok (o1 o2 : D → D → Option D) (fc : Env → R D) : chB o1 o2 (.ok x) (.ok y) fc r = chB2 o2 (o1 x y) y fc r := (rfl)
theorem chB2_t (o2 : D → D → Option D) (fc : Env → R D) : chB2 o2 (some (.bl true)) y fc r = apX (o2 y) (fc r) := (rfl)
theorem chB2_f (o2 : D → D → Option D) (fc : Env → R D) : chB2 o2 (some (.bl false)) y fc r = .ok (.bl false) := (rfl)
theorem oNone_e : oNone r = .ok none := (rfl)
def osB (x : R D) : R (Option Int) := x.bind fun d => (R.ofO (asI d)).bind fun i => .ok (some i)
theorem oSome_e (f : Env → R D) : oSome f r = osB (f r) := (rfl)
theorem osB_ok (i : Int) : osB (.ok (.int i)) = .ok (some i) := (rfl)
def s3B (op : D → Option Int → Option Int → Option D) (x : R D) (l h : R (Option Int)) : R D := x.bind fun x => l.bind fun l => h.bind fun h => R.ofO (op x l h)
theorem sl3_e (op : D → Option Int → Option Int → Option D) (fa : Env → R D) (fl fh : Env → R (Option Int)) : sl3 op fa fl fh r = s3B op (fa r) (fl r) (fh r) := (rfl)
theorem s3B_ok (op : D → Option Int → Option Int → Option D) (l h : Option Int) : s3B op (.ok x) (.ok l) (.ok h) = R.ofO (op x l h) := (rfl)
def mvB (op : Str → List D → Option D) (x : R D) (g : R (List D)) : R D := x.bind fun x => (R.ofO (asStr x)).bind fun z => g.bind fun ds => R.ofO (op z ds)
theorem mthV_e (op : Str → List D → Option D) (fo : Env → R D) (g : Env → R (List D)) : mthV op fo g r = mvB op (fo r) (g r) := (rfl)
theorem mvB_tx (op : Str → List D → Option D) (l : List Nat) : mvB op (.ok (tx l)) (.ok ds) = R.ofO (op (mkS l) ds) := (rfl)
def mlB (op : List D → List D → Option D) (x : R D) (g : R (List D)) : R D := x.bind fun x => (R.ofO (asLst x)).bind fun z => g.bind fun ds => R.ofO (op z ds)
theorem mthL_e (op : List D → List D → Option D) (fo : Env → R D) (g : Env → R (List D)) : mthL op fo g r = mlB op (fo r) (g r) := (rfl)
theorem mlB_ok (op : List D → List D → Option D) : mlB op (.ok (.lst xs)) (.ok ds) = R.ofO (op xs ds) := (rfl)
def mtB (x : R (List D)) : R D := x.bind fun ds => if ds.length ≤ sizeLine then .ok (.tup ds) else .stk
theorem mkT_e (g : Env → R (List D)) : mkT g r = mtB (g r) := (rfl)
theorem mtB_ok (h : ds.length ≤ 1000) : mtB (.ok ds) = .ok (.tup ds) := by
  show (if ds.length ≤ sizeLine then R.ok (D.tup ds) else .stk) = _
  rw [if_pos (by rw [sizeLine_eq]; omega)]
def mlB' (x : R (List D)) : R D := x.bind fun ds => if ds.length ≤ sizeLine then .ok (.lst ds) else .stk
theorem mkL_e (g : Env → R (List D)) : mkL g r = mlB' (g r) := (rfl)
theorem mlB'_ok (h : ds.length ≤ 1000) : mlB' (.ok ds) = .ok (.lst ds) := by
  show (if ds.length ≤ sizeLine then R.ok (D.lst ds) else .stk) = _
  rw [if_pos (by rw [sizeLine_eq]; omega)]
def mtE (x : R (List D × Env)) : R (D × Env) := x.bind fun p => if p.1.length ≤ sizeLine then .ok (.tup p.1, p.2) else .stk
theorem mkTE_e (g : Env → R (List D × Env)) : mkTE g r = mtE (g r) := (rfl)
theorem mtE_ok (h : ds.length ≤ 1000) : mtE (.ok (ds, r)) = .ok (.tup ds, r) := by
  show (if ds.length ≤ sizeLine then R.ok (D.tup ds, r) else .stk) = _
  rw [if_pos (by rw [sizeLine_eq]; omega)]
theorem gSet_e (i : Nat) : gSet i d r = .ok (r.set i (.sh d)) := (rfl)
theorem gTup_e (n : Nat) (g : List D → Env → R Env) (h : ds.length = n) : gTupD n g (.tup ds) r = g ds r := by
  show (if ds.length = n then g ds r else .stk) = _
  rw [if_pos h]
def gcB (x : R Env) (h : List D → Env → R Env) (ds : List D) : R Env := x.bind fun r1 => h ds r1
theorem gsCons_e (g : D → Env → R Env) (h : List D → Env → R Env) : gsCons g h (d :: ds) r = gcB (g d r) h ds := (rfl)
theorem gcB_ok (h : List D → Env → R Env) : gcB (.ok r) h ds = h ds r := (rfl)
theorem gsNil_e : gsNil [] r = .ok r := (rfl)
/-! statements -/
def sqB (x : R Fl) (g : Env → R Fl) : R Fl := x.bind fun fl => match fl with
  | .nx r1 => g r1
  | .rt d r1 => .ok (.rt d r1)
  | .bk r1 => .ok (.bk r1)
  | .ct r1 => .ok (.ct r1)
theorem seq_st (f g : Env → R Fl) : seqS f g r = sqB (f r) g := (rfl)
theorem sq_nx (g : Env → R Fl) : sqB (.ok (.nx r)) g = g r := (rfl)
theorem sq_rt (g : Env → R Fl) : sqB (.ok (.rt d r)) g = .ok (.rt d r) := (rfl)
theorem sq_bk (g : Env → R Fl) : sqB (.ok (.bk r)) g = .ok (.bk r) := (rfl)
theorem sq_ct (g : Env → R Fl) : sqB (.ok (.ct r)) g = .ok (.ct r) := (rfl)
theorem sq_congr {x y : R Fl} {g : Env → R Fl} (h : x = y) : sqB x g = sqB y g := by rw [h]
def ifB (x : R (Bool × Env)) (f g : Env → R Fl) : R Fl := x.bind fun p => if p.1 = true then f p.2 else g p.2
theorem if_st (c : Env → R (Bool × Env)) (f g : Env → R Fl) : ifS c f g r = ifB (c r) f g := (rfl)
theorem ifB_y (f g : Env → R Fl) : ifB (.ok (true, r)) f g = f r := (rfl)
theorem ifB_n (f g : Env → R Fl) : ifB (.ok (false, r)) f g = g r := (rfl)
theorem if_congr' {x y : R (Bool × Env)} {f g : Env → R Fl} (h : x = y) : ifB x f g = ifB y f g := by rw [h]
def stB (i : Nat) (x : R (D × Env)) : R Fl := x.bind fun p => .ok (.nx (p.2.set i (.sh p.1)))
theorem set_st (i : Nat) (f : Env → R (D × Env)) : setS i f r = stB i (f r) := (rfl)
theorem stB_ok (i : Nat) : stB i (.ok (d, r)) = .ok (.nx (r.set i (.sh d))) := (rfl)
def rtB (x : R (D × Env)) : R Fl := x.bind fun p => .ok (.rt p.1 p.2)
theorem ret_st (f : Env → R (D × Env)) : retS f r = rtB (f r) := (rfl)
theorem rtB_ok : rtB (.ok (d, r)) = .ok (.rt d r) := (rfl)
def soB (i : Nat) (x : R D) (r : Env) : R Fl := x.bind fun d => .ok (.nx (r.set i (.own d)))
theorem seto_st (i : Nat) (f : Env → R D) : setO i f r = soB i (f r) r := (rfl)
theorem soB_ok (i : Nat) : soB i (.ok d) r = .ok (.nx (r.set i (.own d))) := (rfl)
def frB (x : R (List D × Env)) (g : D → Env → R Env) (b : Env → R Fl) : R Fl := x.bind fun p => forD g b p.1 p.2
theorem for_st' (h : Env → R (List D × Env)) (g : D → Env → R Env) (b : Env → R Fl) : forS h g b r = frB (h r) g b := (rfl)
theorem frB_ok (g : D → Env → R Env) (b : Env → R Fl) : frB (.ok (xs, r)) g b = forD g b xs r := (rfl)
theorem fr_congr {x y : R (List D × Env)} {g : D → Env → R Env} {b : Env → R Fl} (h : x = y) : frB x g b = frB y g b := by rw [h]
theorem forD_congr {xs ys : List D} {r r' : Env} {g : D → Env → R Env} {b : Env → R Fl} (h : xs = ys) (h2 : r = r') : forD g b xs r = forD g b ys r' := by rw [h, h2]
theorem lcD_congr {own : List (Str × Nat)} {h : Env → R (List D)} {r r' : Env} {g : D → Env → R Env} {c : Env → R Bool} {f : Env → R D} (e : r = r') : lcD own h g c f r = lcD own h g c f r' := by rw [e]
theorem forD_nil (g : D → Env → R Env) (b : Env → R Fl) : forD g b [] r = .ok (.nx r) := (rfl)
def exB (x : R (D × Env)) : R Fl := x.bind fun p => .ok (.nx p.2)
theorem expr_st (f : Env → R (D × Env)) : exprS f r = exB (f r) := (rfl)
theorem exB_ok : exB (.ok (d, r)) = .ok (.nx r) := (rfl)
theorem skip_st : skipS r = .ok (.nx r) := (rfl)
theorem retN_st : retN r = .ok (.rt .non r) := (rfl)
theorem brk_st : brkS r = .ok (.bk r) := (rfl)
def clB (n : Nat) (F : List D → R D) (x : R (List D)) (r : Env) : R D := x.bind fun ds => if ds.length = n then R.at r (F ds) else .stk
theorem call_st (n : Nat) (F : List D → R D) (g : Env → R (List D)) : callF n F g r = clB n F (g r) r := (rfl)
theorem clB_ok (n : Nat) (F : List D → R D) (h : ds.length = n) : clB n F (.ok ds) r = R.at r (F ds) := by
  show (if ds.length = n then R.at r (F ds) else .stk) = _
  rw [if_pos h]
def clE (n : Nat) (F : List D → R D) (x : R (List D × Env)) : R (D × Env) := x.bind fun p => if p.1.length = n then (R.at p.2 (F p.1)).bind fun d => .ok (d, p.2) else .stk
theorem callE_st (n : Nat) (F : List D → R D) (g : Env → R (List D × Env)) : callFE n F g r = clE n F (g r) := (rfl)
theorem clE_ok (n : Nat) (F : List D → R D) (h : ds.length = n) : clE n F (.ok (ds, r)) = prB (R.at r (F ds)) r := by
  show (if ds.length = n then (R.at r (F ds)).bind fun d => .ok (d, r) else .stk) = _
  rw [if_pos h]
  rfl
theorem R_at_ok (a : α) : R.at r (.ok a : R α) = .ok a := (rfl)
def ciB (i n : Nat) (F : List D → List D → R (D × List D)) (o : Option (Slot × List D)) (x : R (List D × Env)) : R (D × Env) := (R.ofO o).bind fun _ => x.bind fun p => (R.ofO (ownL p.2 i)).bind fun s =>
  if p.1.length = n then (R.ne (F s.2 p.1)).bind fun q => .ok (q.1, p.2.set i (s.1.put (.lst q.2))) else .stk
def ciC (i : Nat) (F : List D → List D → R (D × List D)) (ds : List D) (r : Env) (o : Option (Slot × List D)) : R (D × Env) := (R.ofO o).bind fun s => (R.ne (F s.2 ds)).bind fun q => .ok (q.1, r.set i (s.1.put (.lst q.2)))
def ciD (i : Nat) (s : Slot) (r : Env) (x : R (D × List D)) : R (D × Env) := (R.ne x).bind fun q => .ok (q.1, r.set i (s.put (.lst q.2)))
theorem callIO_st (i n : Nat) (F : List D → List D → R (D × List D)) (g : Env → R (List D × Env)) : callIO i n F g r = ciB i n F (ownL r i) (g r) := (rfl)
theorem ciB_ok (i n : Nat) (F : List D → List D → R (D × List D)) (q : Slot × List D) (h : ds.length = n) : ciB i n F (some q) (.ok (ds, r)) = ciC i F ds r (ownL r i) := by
  show ((R.ofO (ownL r i)).bind fun s => if ds.length = n then (R.ne (F s.2 ds)).bind fun q => .ok (q.1, r.set i (s.1.put (.lst q.2))) else .stk) = _
  simp only [if_pos h]
  rfl
theorem ciC_ok (i : Nat) (F : List D → List D → R (D × List D)) (s : Slot) : ciC i F ds r (some (s, xs)) = ciD i s r (F xs ds) := (rfl)
theorem ciD_ok (i : Nat) (s : Slot) : ciD i s r (.ok (d, xs)) = .ok (d, r.set i (s.put (.lst xs))) := (rfl)
def psB (i j : Nat) (x : R (List D × Env)) : R Fl := x.bind fun p => match p.1 with
  | [d, e] => .ok (.nx ((p.2.set i (.sh d)).set j (.sh e)))
  | _ => .stk
theorem par_st (i j : Nat) (f : Env → R (List D × Env)) : parS i j f r = psB i j (f r) := (rfl)
theorem psB_ok (i j : Nat) : psB i j (.ok ([x, y], r)) = .ok (.nx ((r.set i (.sh x)).set j (.sh y))) := (rfl)
def asB1 (g : D → Env → R Env) (x : R (D × Env)) : R Fl := x.bind fun p => (g p.1 p.2).bind fun r2 => .ok (.nx r2)
def asB2 (x : R Env) : R Fl := x.bind fun r2 => .ok (.nx r2)
theorem asg_st (g : D → Env → R Env) (f : Env → R (D × Env)) : asgS g f r = asB1 g (f r) := (rfl)
theorem asB1_ok (g : D → Env → R Env) : asB1 g (.ok (d, r)) = asB2 (g d r) := (rfl)
theorem asB2_ok : asB2 (.ok r) = .ok (.nx r) := (rfl)
def agB (i : Nat) (op : D → D → Option D) (s : Option Slot) (x : R D) (r : Env) : R Fl := match s with
  | some (.sh z) => x.bind fun y => (R.ofO (op z y)).bind fun d => .ok (.nx (r.set i (.sh d)))
  | _ => .stk
def agC (i : Nat) (o : Option D) (r : Env) : R Fl := (R.ofO o).bind fun d => .ok (.nx (r.set i (.sh d)))
theorem aug_st (i : Nat) (op : D → D → Option D) (f : Env → R D) : augS i op f r = agB i op (r[i]?) (f r) r := by
  unfold augS agB
  cases r[i]? with
  | none => rfl
  | some s => cases s <;> rfl
theorem agB_ok (i : Nat) (op : D → D → Option D) : agB i op (some (.sh x)) (.ok y) r = agC i (op x y) r := (rfl)
theorem agC_ok (i : Nat) : agC i (some d) r = .ok (.nx (r.set i (.sh d))) := (rfl)
def apS (i : Nat) (o : Option (Slot × List D)) (x : R D) (r : Env) : R Fl := (R.ofO o).bind fun s => x.bind fun d => if s.2.length < sizeLine then .ok (.nx (r.set i (s.1.put (.lst (s.2 ++ [d]))))) else .stk
theorem app_st (i : Nat) (f : Env → R D) : appS i f r = apS i (ownL r i) (f r) r := (rfl)
theorem apS_ok (i : Nat) (s : Slot) (h : xs.length < 1000000) : apS i (some (s, xs)) (.ok d) r = .ok (.nx (r.set i (s.put (.lst (xs ++ [d]))))) := by
  show (if xs.length < sizeLine then R.ok (Fl.nx (r.set i (s.put (.lst (xs ++ [d]))))) else .stk) = _
  rw [if_pos (by rw [sizeLine_eq]; omega)]
def imB (i : Nat) (x : R D) (o : Option (Slot × List D)) (k : R D) (r : Env) : R Fl := x.bind fun d => (R.ofO o).bind fun s => k.bind fun k => (R.ofO (asI k)).bind fun k => (R.ofO (ixN s.2.length k)).bind fun j => .ok (.nx (r.set i (s.1.put (.lst (s.2.set j d)))))
def imC (i : Nat) (d : D) (s : Slot) (xs : List D) (j : Option Nat) (r : Env) : R Fl := (R.ofO j).bind fun j => .ok (.nx (r.set i (s.put (.lst (xs.set j d)))))
theorem itm_st (i : Nat) (fk fe : Env → R D) : itmS i fk fe r = imB i (fe r) (ownL r i) (fk r) r := (rfl)
theorem imB_ok (i : Nat) (s : Slot) (k : Int) : imB i (.ok d) (some (s, xs)) (.ok (.int k)) r = imC i d s xs (ixN xs.length k) r := (rfl)
theorem imC_ok (i j : Nat) (s : Slot) : imC i d s xs (some j) r = .ok (.nx (r.set i (s.put (.lst (xs.set j d))))) := (rfl)
def rvB (i : Nat) (o : Option (Slot × List D)) (r : Env) : R Fl := (R.ofO o).bind fun s => .ok (.nx (r.set i (s.1.put (.lst s.2.reverse))))
theorem rvs_st (i : Nat) : rvsS i r = rvB i (ownL r i) r := (rfl)
theorem rvB_ok (i : Nat) (s : Slot) : rvB i (some (s, xs)) r = .ok (.nx (r.set i (s.put (.lst xs.reverse)))) := (rfl)
def roB (i : Nat) (s : Option Slot) (r : Env) : R Fl := match s with
  | some (.own d) => .ok (.rt d (r.set i (.sh d)))
  | some (.sh d) => .ok (.rt d r)
  | _ => .stk
theorem retO_st (i : Nat) : retO i r = roB i (r[i]?) r := (rfl)
theorem roB_own (i : Nat) : roB i (some (.own d)) r = .ok (.rt d (r.set i (.sh d))) := (rfl)
theorem roB_sh (i : Nat) : roB i (some (.sh d)) r = .ok (.rt d r) := (rfl)
def fzB (i : Nat) (s : Option Slot) (r : Env) : Env := match s with
  | some (.own d) => r.set i (.sh d)
  | _ => r
theorem frz_st (i : Nat) : frz1 i r = fzB i (r[i]?) r := (rfl)
theorem frzS_st (i : Nat) (f : Env → R Fl) : frzS i f r = f (fzB i (r[i]?) r) := (rfl)
theorem fzB_own (i : Nat) : fzB i (some (.own d)) r = r.set i (.sh d) := (rfl)
theorem fzB_sh (i : Nat) : fzB i (some (.sh d)) r = r := (rfl)
theorem fzB_un (i : Nat) : fzB i (some .un) r = r := (rfl)
def r1B (x : R (List D × Env)) : R (List D × Env) := x.bind fun p => match p.1 with
  | [.int j] => if -(2 ^ 62) ≤ j ∧ j < 2 ^ 62 then .ok (rngL 0 j.toNat, p.2) else .stk
  | _ => .stk
theorem itR1_st (g : Env → R (List D × Env)) : itR1 g r = r1B (g r) := (rfl)
theorem r1B_ok {k : Int} (h : -1000000 ≤ k ∧ k ≤ 1000000) : r1B (.ok ([.int k], r)) = .ok (rngL 0 k.toNat, r) := by
  show (if -(2 ^ 62) ≤ k ∧ k < 2 ^ 62 then R.ok (rngL 0 k.toNat, r) else R.stk) = _
  rw [if_pos (by omega)]
theorem rg1_ok {k : Int} (h : -1000000 ≤ k ∧ k ≤ 1000000) : rg1 [.int k] = some (rngL 0 k.toNat) := by
  unfold rg1
  simp only
  rw [if_pos (by omega)]
theorem rg2_ok {j k : Int} (h : -1000000 ≤ j ∧ j ≤ 1000000 ∧ -1000000 ≤ k ∧ k ≤ 1000000) : rg2 [.int j, .int k] = some (rngL j (k - j).toNat) := by
  unfold rg2
  simp only
  rw [if_pos (by omega)]
theorem tn_add1 (n : Nat) : (1 + (n : Int)).toNat = 1 + n := by omega
theorem tn_succ (n : Nat) : ((n : Int) + 1).toNat = n + 1 := by omega
theorem tn_nat (n : Nat) : (n : Int).toNat = n := Int.toNat_natCast n
theorem tn_pred (n : Nat) : ((n : Int) - 1).toNat = n - 1 := by omega
theorem tn_sub (m n : Nat) : ((m : Int) - (n : Int)).toNat = m - n := by omega
theorem len0 : ([] : List D).length = 0 := (rfl)
theorem len1 : [d].length = 1 := (rfl)
theorem len2 : [d, x].length = 2 := (rfl)
theorem len3 : [d, x, y].length = 3 := (rfl)
theorem len4 : [d, x, y, z].length = 4 := (rfl)
end
/-! texts and tuples times numbers -/
theorem mul_tx {l : List Nat} {k : Nat} (h : l.length ≤ 1000) (hk : k ≤ 1000) : mulSD (tx l) (.int (k : Nat)) = some (tx (List.replicate k l).flatten) := by
  rw [tx_eq]
  unfold mulSD
  simp only
  rw [if_pos ⟨by omega, by omega, by rw [str_len]; exact h⟩]
  unfold tx
  congr 2
  unfold Txt.mul
  by_cases h1 : ((k : Nat) : Int) < 1
  · have : k = 0 := by omega
    subst this
    rw [if_pos h1]
    rfl
  · rw [if_neg h1]
    by_cases h2 : ((((k : Nat) : Int) == 1) || (mkS l).length == 0) = true
    · rw [if_pos h2]
      rw [Bool.or_eq_true] at h2
      congr 1
      rcases h2 with h2 | h2
      · have h3 : (k : Int) = 1 := by simpa using h2
        have : k = 1 := by omega
        subst this
        simp
      · have h3 : l.length = 0 := by simpa [str_len] using h2
        have : l = [] := List.eq_nil_of_length_eq_zero h3
        subst this
        simp
    · rw [if_neg h2]
      have e : ∀ (m : Nat) (a : List Nat), (List.replicate m l.toArray).foldl (· ++ ·) a.toArray = (a ++ (List.replicate m l).flatten).toArray := by
        intro m
        induction m with
        | zero => intro a; simp
        | succ m ih =>
          intro a
          rw [List.replicate_succ, List.foldl_cons, List.replicate_succ, List.flatten_cons, ← List.append_assoc, ← ih]
          congr 1
          simp
      have e2 := e k []
      rw [List.nil_append] at e2
      show (⟨(List.replicate (k : Int).toNat l.toArray).foldl (· ++ ·) #[]⟩ : Str) = _
      rw [Int.toNat_natCast]
      congr 1
theorem mul_tx1 {c k : Nat} (hk : k ≤ 1000) : mulSD (tx [c]) (.int (k : Nat)) = some (tx (List.replicate k c)) := by
  rw [mul_tx (by simp) hk]
  congr 2
  induction k with
  | zero => rfl
  | succ k ih => rw [List.replicate_succ, List.flatten_cons, ih (by omega), List.replicate_succ]; rfl
theorem mul_tup {d : D} {k : Nat} (h : 1 ≤ k) (hk : k ≤ 1000) : mulTD (.tup [d]) (.int (k : Nat)) = some (.tup (List.replicate k d)) := by
  unfold mulTD
  simp only
  rw [if_pos ⟨rfl, by omega, by omega, by simp⟩]
  congr 2
  rw [Int.toNat_natCast]
  clear h hk
  induction k with
  | zero => rfl
  | succ k ih => rw [List.replicate_succ, List.flatten_cons, ih, List.replicate_succ]; rfl
/-! isinstance with a tuple of types -/
theorem kit_it : kitB "int" "tuple" = some false := by decide +kernel
theorem kit_il : kitB "int" "list" = some false := by decide +kernel
theorem kit_nt : kitB "NoneType" "tuple" = some false := by decide +kernel
theorem kit_nl : kitB "NoneType" "list" = some false := by decide +kernel
theorem kit_ns : kitB "NoneType" "str" = some false := by decide +kernel
theorem kit_is : kitB "int" "str" = some false := by decide +kernel
theorem kit_tl : kitB "tuple" "list" = some false := by decide +kernel
theorem isi_int_tl (i : Int) : isiD [.int i, .tup [.ty "tuple", .ty "list"]] = some (.bl false) := by
  simp [isiD, tyD, allN, isAny, isTy, kit_it, kit_il]
theorem isi_non_tl : isiD [.non, .tup [.ty "tuple", .ty "list"]] = some (.bl false) := by
  simp [isiD, tyD, allN, isAny, isTy, kit_nt, kit_nl]
theorem kit_tt : kitB "tuple" "tuple" = some true := by decide +kernel
theorem isi_tup_tl (xs : List D) : isiD [.tup xs, .tup [.ty "tuple", .ty "list"]] = some (.bl true) := by
  simp [isiD, tyD, allN, isAny, isTy, kit_tt]
theorem isi_tup_l (xs : List D) : isiD [.tup xs, .ty "list"] = some (.bl false) := by
  simp [isiD, tyD, isTy, kit_tl]
theorem isi_int_s (i : Int) : isiD [.int i, .ty "str"] = some (.bl false) := by
  simp [isiD, tyD, isTy, kit_is]
theorem isi_non_s : isiD [.non, .ty "str"] = some (.bl false) := by
  simp [isiD, tyD, isTy, kit_ns]
theorem eq_bl (a b : Bool) : eqD (.bl a) (.bl b) = some (.bl (decide (a = b))) := (rfl)
theorem ne_bl (a b : Bool) : neD (.bl a) (.bl b) = some (.bl (!decide (a = b))) := (rfl)
theorem eq_non : eqD .non .non = some (.bl true) := (rfl)
theorem isn_i (i : Int) : isN2 (.int i) .non = some (.bl false) := (rfl)
theorem isn_n : isN2 .non .non = some (.bl true) := (rfl)
theorem shp_nil : shp (.lst []) = true := by
  unfold shp SeqAt.shaped
  simp only [toPy, toPyL, PyData.canLay0, PyData.canLayAll0, Bool.true_and, PyData.depth, PyData.depthAll]
  rfl
theorem eqPy_nil (xs : List D) : eqPy (.lst xs) (.lst []) = xs.isEmpty := by
  unfold eqPy
  simp only [toPy, PyData.eqv]
  cases xs with
  | nil => simp only [toPyL, PyData.eqvAll, List.isEmpty]
  | cons a t => simp only [toPyL, PyData.eqvAll, List.isEmpty]
theorem eq_nil' {xs : List D} (h : shp (.lst xs) = true) : eqD (.lst xs) (.lst []) = some (.bl xs.isEmpty) := by
  unfold eqD
  simp only [h, shp_nil, Bool.and_self, if_true, eqPy_nil]
theorem ne_nil' {xs : List D} (h : shp (.lst xs) = true) : neD (.lst xs) (.lst []) = some (.bl (!xs.isEmpty)) := by
  unfold neD
  simp only [h, shp_nil, Bool.and_self, if_true, eqPy_nil]
/-- flat things and what is made of them: shaped -/
theorem shp_of {d : D} (h1 : PyData.canLay0 (toPy d) = true) (h2 : (toPy d).depth ≤ 20) : shp d = true := by
  unfold shp SeqAt.shaped
  rw [h1, Bool.true_and]
  exact decide_eq_true (by omega)
theorem lay_ints : ∀ l : List Nat, PyData.canLayAll0 (toPyL (l.map ni)) = true ∧ PyData.depthAll (toPyL (l.map ni)) = 0
  | [] => ⟨by simp only [List.map_nil, toPyL, PyData.canLayAll0], by simp only [List.map_nil, toPyL, PyData.depthAll]⟩
  | a :: t => by
    obtain ⟨h1, h2⟩ := lay_ints t
    constructor
    · simp only [List.map_cons, toPyL, toPy, PyData.canLayAll0, PyData.canLay0, h1, Bool.and_self]
    · simp only [List.map_cons, toPyL, toPy, PyData.depthAll, PyData.depth, h2]
      rfl
theorem lay_tups : ∀ L : List (List Nat), PyData.canLayAll0 (toPyL (L.map fun l => .tup (l.map ni))) = true ∧ PyData.depthAll (toPyL (L.map fun l => .tup (l.map ni))) ≤ 1
  | [] => ⟨by simp only [List.map_nil, toPyL, PyData.canLayAll0], by simp only [List.map_nil, toPyL, PyData.depthAll]; omega⟩
  | a :: t => by
    obtain ⟨h1, h2⟩ := lay_tups t
    obtain ⟨h3, h4⟩ := lay_ints a
    constructor
    · simp only [List.map_cons, toPyL, toPy, PyData.canLayAll0, PyData.canLay0, h1, h3, Bool.and_self]
    · simp only [List.map_cons, toPyL, toPy, PyData.depthAll, PyData.depth, h4]
      omega
theorem shp_ints (l : List Nat) : shp (.tup (l.map ni)) = true := shp_of (by simp only [toPy, PyData.canLay0, (lay_ints l).1]) (by simp only [toPy, PyData.depth, (lay_ints l).2]; omega)
theorem shp_tups (L : List (List Nat)) : shp (.lst (L.map fun l => .tup (l.map ni))) = true := shp_of (by simp only [toPy, PyData.canLay0, (lay_tups L).1]) (by have := (lay_tups L).2; simp only [toPy, PyData.depth]; omega)
theorem eqPy_ni (a b : Nat) : eqPy (ni a) (ni b) = decide (a = b) := by
  unfold eqPy
  simp only [toPy, PyData.eqv]
  rw [Bool.eq_iff_iff]
  simp
  omega
theorem eqvAll_ints : ∀ l m : List Nat, PyData.eqvAll (toPyL (l.map ni)) (toPyL (m.map ni)) = decide (l = m)
  | [], [] => by simp [toPyL, PyData.eqvAll]
  | [], b :: m => by simp [toPyL, PyData.eqvAll]
  | a :: l, [] => by simp [toPyL, PyData.eqvAll]
  | a :: l, b :: m => by
    have ih := eqvAll_ints l m
    have h := eqPy_ni a b
    unfold eqPy at h
    simp only [List.map_cons, toPyL, PyData.eqvAll, ih, h]
    rw [Bool.eq_iff_iff]
    simp
theorem eqPy_ints (l m : List Nat) : eqPy (.tup (l.map ni)) (.tup (m.map ni)) = decide (l = m) := by
  unfold eqPy
  simp only [toPy, PyData.eqv]
  exact eqvAll_ints l m
end DL

namespace PT

def acc (c : Nat) (G : List Nat → Nat) : List Nat → Nat
  | [] => 0
  | a :: t => (if a = c then G t else 0) + acc c G t
def blk (c : Nat) (G : List Nat → Nat) : List Nat → Nat
  | [] => 0
  | a :: t => if a = c then acc c G (a :: t) else 0
/-- in how many ways f is parted into blocks of the letters g -/
def W : List Nat → List Nat → Nat
  | [], f => if f = [] then 1 else 0
  | c :: g, f => blk c (W g) f

/-! ### two goals, one behind the other -/
def cv (H W2 : List Nat → Nat) : List Nat → Nat
  | [] => H [] * W2 []
  | a :: t => H [] * W2 (a :: t) + cv (fun u => H (a :: u)) W2 t
theorem cv_zero (W2 : List Nat → Nat) : ∀ f, cv (fun _ => 0) W2 f = 0
  | [] => by simp [cv]
  | a :: t => by
    simp only [cv, Nat.zero_mul, Nat.zero_add]
    exact cv_zero W2 t
theorem cv_add (H1 H2 W2 : List Nat → Nat) : ∀ f, cv (fun u => H1 u + H2 u) W2 f = cv H1 W2 f + cv H2 W2 f := by
  intro f
  induction f generalizing H1 H2 with
  | nil => simp [cv, Nat.add_mul]
  | cons a t ih =>
    simp only [cv]
    rw [ih (fun u => H1 (a :: u)) (fun u => H2 (a :: u)), Nat.add_mul]
    omega
theorem cv_acc (c : Nat) (G W2 : List Nat → Nat) : ∀ f, cv (acc c G) W2 f = acc c (cv G W2) f
  | [] => by simp [cv, acc]
  | a :: t => by
    have e : cv (fun u => acc c G (a :: u)) W2 t = cv (fun u => (if a = c then G u else 0) + acc c G u) W2 t := rfl
    have h0 : acc c G [] = 0 := rfl
    show acc c G [] * W2 (a :: t) + cv (fun u => acc c G (a :: u)) W2 t = (if a = c then cv G W2 t else 0) + acc c (cv G W2) t
    rw [e, h0, Nat.zero_mul, Nat.zero_add, cv_add, cv_acc c G W2 t]
    by_cases h : a = c
    · simp only [if_pos h]
    · simp only [if_neg h]
      rw [cv_zero]
theorem cv_blk (c : Nat) (G W2 : List Nat → Nat) : ∀ f, cv (blk c G) W2 f = blk c (cv G W2) f
  | [] => by simp [cv, blk]
  | a :: t => by
    have h0 : blk c G [] = 0 := rfl
    show blk c G [] * W2 (a :: t) + cv (fun u => blk c G (a :: u)) W2 t = if a = c then acc c (cv G W2) (a :: t) else 0
    rw [h0, Nat.zero_mul, Nat.zero_add]
    by_cases h : a = c
    · rw [if_pos h, ← cv_acc]
      have e : (fun u => blk c G (a :: u)) = fun u => acc c G (a :: u) := by
        funext u
        simp only [blk, if_pos h]
      have h1 : acc c G [] = 0 := rfl
      rw [e]
      show _ = acc c G [] * W2 (a :: t) + cv (fun u => acc c G (a :: u)) W2 t
      rw [h1, Nat.zero_mul, Nat.zero_add]
    · rw [if_neg h]
      have e : (fun u => blk c G (a :: u)) = fun _ => 0 := by
        funext u
        simp only [blk, if_neg h]
      rw [e, cv_zero]
theorem cv_nil (W2 : List Nat → Nat) : ∀ f, cv (W []) W2 f = W2 f
  | [] => by simp [cv, W]
  | a :: t => by
    have e : (fun u => W [] (a :: u)) = fun _ => 0 := by
      funext u
      simp [W]
    show W [] [] * W2 (a :: t) + cv (fun u => W [] (a :: u)) W2 t = _
    rw [e, cv_zero]
    simp [W]
theorem W_app (g2 : List Nat) : ∀ (g1 f : List Nat), W (g1 ++ g2) f = cv (W g1) (W g2) f
  | [], f => (cv_nil (W g2) f).symm
  | c :: g1, f => by
    have e : W (g1 ++ g2) = cv (W g1) (W g2) := funext fun f => W_app g2 g1 f
    show blk c (W (g1 ++ g2)) f = cv (blk c (W g1)) (W g2) f
    rw [cv_blk, e]
/-- as a sum over the places -/
theorem cv_sum (H W2 : List Nat → Nat) : ∀ f, cv H W2 f = ((List.range (f.length + 1)).map fun k => H (f.take k) * W2 (f.drop k)).sum := by
  intro f
  induction f generalizing H with
  | nil => simp [cv]
  | cons a t ih =>
    rw [List.length_cons, List.range_succ_eq_map, List.map_cons, List.map_map, List.sum_cons]
    show H [] * W2 (a :: t) + cv (fun u => H (a :: u)) W2 t = _
    rw [ih (fun u => H (a :: u))]
    rfl

/-! ### where there is a way -/
theorem acc_pos {c : Nat} {G : List Nat → Nat} : ∀ {f : List Nat}, 0 < acc c G f ↔ ∃ u v, f = u ++ c :: v ∧ 0 < G v
  | [] => by simp [acc]
  | a :: t => by
    have ih := acc_pos (c := c) (G := G) (f := t)
    constructor
    · intro h
      simp only [acc] at h
      by_cases h2 : 0 < acc c G t
      · obtain ⟨u, v, e, g⟩ := ih.mp h2
        exact ⟨a :: u, v, by rw [e]; rfl, g⟩
      · by_cases h3 : a = c
        · rw [if_pos h3] at h
          exact ⟨[], t, by rw [h3]; rfl, by omega⟩
        · rw [if_neg h3] at h
          omega
    · rintro ⟨u, v, e, g⟩
      simp only [acc]
      cases u with
      | nil =>
        simp only [List.nil_append, List.cons.injEq] at e
        rw [if_pos e.1, e.2]
        omega
      | cons b u =>
        simp only [List.cons_append, List.cons.injEq] at e
        have := ih.mpr ⟨u, v, e.2, g⟩
        omega
theorem blk_pos {c : Nat} {G : List Nat → Nat} {f : List Nat} : 0 < blk c G f ↔ f.head? = some c ∧ ∃ u v, f = u ++ c :: v ∧ 0 < G v := by
  cases f with
  | nil => simp [blk]
  | cons a t =>
    simp only [blk, List.head?_cons, Option.some.injEq]
    by_cases h : a = c
    · rw [if_pos h, acc_pos]
      exact ⟨fun z => ⟨h, z⟩, fun z => z.2⟩
    · rw [if_neg h]
      exact ⟨fun z => by omega, fun z => absurd z.1 h⟩
theorem head_same (x : List Nat) (c : Nat) (y z : List Nat) : (x ++ c :: y).head? = (x ++ c :: z).head? := by
  cases x <;> rfl
/-- a cut undone: there is still a way -/
theorem W_uncut (c : Nat) (y z : List Nat) : ∀ (g x : List Nat), 0 < W g (x ++ c :: z) → 0 < W g (x ++ c :: (y ++ c :: z))
  | [], x, h => by
    have : W [] (x ++ c :: z) = 0 := by simp [W]
    omega
  | d :: g, x, h => by
    obtain ⟨h1, u, v, e, hv⟩ := blk_pos.mp (show 0 < blk d (W g) (x ++ c :: z) from h)
    refine blk_pos.mpr ⟨by rw [← h1]; exact head_same _ _ _ _, ?_⟩
    rcases List.append_eq_append_iff.mp e with ⟨a', e1, e2⟩ | ⟨c', e1, e2⟩
    · cases a' with
      | nil =>
        simp only [List.nil_append, List.cons.injEq] at e2
        refine ⟨x ++ c :: y, z, ?_, ?_⟩
        · rw [← e2.1]
          simp
        · rw [e2.2]
          exact hv
      | cons a a' =>
        simp only [List.cons_append, List.cons.injEq] at e2
        refine ⟨x ++ c :: (y ++ c :: a'), v, ?_, hv⟩
        rw [e2.2]
        simp
    · cases c' with
      | nil =>
        simp only [List.nil_append, List.cons.injEq] at e2
        refine ⟨x ++ c :: y, z, ?_, ?_⟩
        · rw [e2.1]
          simp
        · rw [← e2.2]
          exact hv
      | cons a c' =>
        simp only [List.cons_append, List.cons.injEq] at e2
        rw [e2.2] at hv
        refine ⟨u, c' ++ c :: (y ++ c :: z), ?_, W_uncut c y z g c' hv⟩
        rw [e1, e2.1]
        simp
theorem W_self : ∀ f : List Nat, 0 < W f f
  | [] => by simp [W]
  | c :: t => blk_pos.mpr ⟨rfl, [], t, rfl, W_self t⟩
theorem W_nil {g : List Nat} (h : g ≠ []) : W g [] = 0 := by
  cases g with
  | nil => exact absurd rfl h
  | cons c g => rfl

/-! ### numbers of ways are not great -/
theorem acc_le (c : Nat) (G : List Nat → Nat) (h : ∀ f, G f ≤ 2 ^ f.length) : ∀ f, acc c G f ≤ 2 ^ f.length - 1
  | [] => by simp [acc]
  | a :: t => by
    have h1 := acc_le c G h t
    have h2 := h t
    have h3 : 0 < 2 ^ t.length := Nat.two_pow_pos _
    simp only [acc, List.length_cons, Nat.pow_succ]
    by_cases e : a = c
    · rw [if_pos e]; omega
    · rw [if_neg e]; omega
theorem W_le : ∀ (g f : List Nat), W g f ≤ 2 ^ f.length
  | [], f => by
    have : 0 < 2 ^ f.length := Nat.two_pow_pos _
    simp only [W]
    split <;> omega
  | c :: g, [] => by simp [W, blk]
  | c :: g, a :: t => by
    have h := acc_le c (W g) (W_le g) (a :: t)
    show blk c (W g) (a :: t) ≤ _
    simp only [blk]
    split
    · exact Nat.le_trans h (Nat.sub_le _ _)
    · exact Nat.zero_le _

/-! ### places -/
def pl (F : List Nat) (c s : Nat) : List Nat := (List.range' s (F.length - s)).filter fun p => decide (F[p]? = some c)
theorem pl_sum (F : List Nat) (c : Nat) (G : List Nat → Nat) : ∀ (n s : Nat), F.length - s = n → ((pl F c s).map fun p => G (F.drop (p + 1))).sum = acc c G (F.drop s)
  | 0, s, h => by
    unfold pl
    rw [h, List.drop_of_length_le (by omega)]
    rfl
  | n + 1, s, h => by
    have hs : s < F.length := by omega
    have ih := pl_sum F c G n (s + 1) (by omega)
    have e1 : F.drop s = F[s] :: F.drop (s + 1) := List.drop_eq_getElem_cons hs
    have e2 : F[s]? = some F[s] := List.getElem?_eq_getElem hs
    have e3 : F.length - (s + 1) = n := by omega
    unfold pl at ih ⊢
    rw [e3] at ih
    rw [h, List.range'_succ, e1]
    simp only [acc, List.filter_cons, e2, Option.some.injEq, decide_eq_true_eq]
    by_cases hc : F[s] = c
    · rw [if_pos hc, if_pos hc, List.map_cons, List.sum_cons, ih]
    · rw [if_neg hc, if_neg hc, ih, Nat.zero_add]
theorem pl_mem {F : List Nat} {c s p : Nat} (h : p ∈ pl F c s) : s ≤ p ∧ p < F.length ∧ F[p]? = some c := by
  unfold pl at h
  obtain ⟨h1, h2⟩ := List.mem_filter.mp h
  have h3 := List.mem_range'_1.mp h1
  have h4 := of_decide_eq_true h2
  have h5 : p < F.length := (List.getElem?_eq_some_iff.mp h4).1
  exact ⟨h3.1, h5, h4⟩
theorem pl_sorted (F : List Nat) (c s : Nat) : (pl F c s).Pairwise (· < ·) := (List.pairwise_lt_range' ..).filter _

/-! ### the r-th parting -/
def sel (h : Nat → Nat) : List Nat → Nat → Option (Nat × Nat)
  | [], _ => none
  | p :: ps, r => if r < h p then some (p, r) else sel h ps (r - h p)
theorem sel_ok {h : Nat → Nat} : ∀ {ps : List Nat} {r : Nat}, r < (ps.map h).sum → ∃ pre p post r', ps = pre ++ p :: post ∧ sel h ps r = some (p, r') ∧ r = (pre.map h).sum + r' ∧ r' < h p
  | [], r, hr => by simp at hr
  | p :: ps, r, hr => by
    by_cases h1 : r < h p
    · exact ⟨[], p, ps, r, rfl, by simp [sel, h1], by simp, h1⟩
    · rw [List.map_cons, List.sum_cons] at hr
      obtain ⟨pre, q, post, r', e1, e2, e3, e4⟩ := sel_ok (h := h) (ps := ps) (r := r - h p) (by omega)
      refine ⟨p :: pre, q, post, r', by rw [e1]; rfl, by simp [sel, h1, e2], ?_, e4⟩
      rw [List.map_cons, List.sum_cons]
      omega
theorem before {pre post : List Nat} {p : Nat} (h : (pre ++ p :: post).Pairwise (· < ·)) : (pre ++ p :: post).filter (fun q => decide (q < p)) = pre := by
  rw [List.pairwise_append] at h
  obtain ⟨h1, h2, h3⟩ := h
  have e1 : pre.filter (fun q => decide (q < p)) = pre := List.filter_eq_self.mpr fun q hq => decide_eq_true (h3 q hq p (List.mem_cons_self ..))
  have e2 : (p :: post).filter (fun q => decide (q < p)) = [] := by
    rw [List.filter_eq_nil_iff]
    intro q hq
    rcases List.mem_cons.mp hq with e | e
    · rw [e]; simp
    · have := List.rel_of_pairwise_cons h2 e
      simp only [decide_eq_true_eq]
      omega
  rw [List.filter_append, e1, e2, List.append_nil]
def at_ (F : List Nat) : List Nat → Nat → Nat → List Nat
  | [], _, _ => []
  | c :: g, s, r => match sel (fun p => W g (F.drop (p + 1))) (pl F c s) r with
    | none => []
    | some (p, r') => p :: at_ F g (p + 1) r'
def rk (F : List Nat) : List Nat → Nat → List Nat → Nat
  | c :: g, s, e :: es => (((pl F c s).filter fun q => decide (q < e)).map fun p => W g (F.drop (p + 1))).sum + rk F g (e + 1) es
  | _, _, _ => 0
/-- is it a parting from s on? -/
def isP (F : List Nat) : List Nat → Nat → List Nat → Bool
  | c :: g, s, e :: es => if decide (s ≤ e) && decide (e < F.length) then (if F[s]? = some c ∧ F[e]? = some c then isP F g (e + 1) es else false) else false
  | _, s, _ => decide (s = F.length)
theorem W_lt {F : List Nat} {c : Nat} {g : List Nat} {s r : Nat} (h : r < W (c :: g) (F.drop s)) : F[s]? = some c ∧ r < ((pl F c s).map fun p => W g (F.drop (p + 1))).sum := by
  have h1 := (blk_pos.mp (Nat.lt_of_le_of_lt (Nat.zero_le r) h)).1
  rw [List.head?_drop] at h1
  refine ⟨h1, ?_⟩
  rw [pl_sum F c (W g) _ s rfl]
  have hs : s < F.length := (List.getElem?_eq_some_iff.mp h1).1
  have e1 : F.drop s = F[s] :: F.drop (s + 1) := List.drop_eq_getElem_cons hs
  have e2 : F[s] = c := (List.getElem?_eq_some_iff.mp h1).2
  have h2 : r < blk c (W g) (F.drop s) := h
  rw [e1] at h2 ⊢
  simp only [blk, if_pos e2] at h2
  exact h2
theorem at_ok (F : List Nat) : ∀ (g : List Nat) (s r : Nat), s ≤ F.length → r < W g (F.drop s) → isP F g s (at_ F g s r) = true ∧ rk F g s (at_ F g s r) = r ∧ (at_ F g s r).length = g.length
  | [], s, r, hs, h => by
    have h0 : F.drop s = [] := by
      by_cases e : F.drop s = []
      · exact e
      · simp [W, e] at h
    have h1 : F.length ≤ s := by
      have := congrArg List.length h0
      rw [List.length_drop, List.length_nil] at this
      omega
    have : r = 0 := by
      rw [h0] at h
      simp [W] at h
      exact h
    subst this
    exact ⟨by simp [isP, at_]; omega, rfl, rfl⟩
  | c :: g, s, r, hs, h => by
    obtain ⟨h1, h2⟩ := W_lt h
    obtain ⟨pre, p, post, r', e1, e2, e3, e4⟩ := sel_ok h2
    have hp : p ∈ pl F c s := by rw [e1]; simp
    obtain ⟨p1, p2, p3⟩ := pl_mem hp
    obtain ⟨i1, i2, i3⟩ := at_ok F g (p + 1) r' (by omega) e4
    have ea : at_ F (c :: g) s r = p :: at_ F g (p + 1) r' := by
      simp only [at_, e2]
    rw [ea]
    refine ⟨?_, ?_, ?_⟩
    · simp only [isP, p1, p2, decide_true, Bool.and_self, if_true, h1, p3, and_self]
      exact i1
    · simp only [rk]
      rw [i2]
      have hsd := pl_sorted F c s
      rw [e1] at hsd ⊢
      rw [before hsd]
      omega
    · rw [List.length_cons, List.length_cons, i3]
/-- later ranks are later in order -/
def ltL : List Nat → List Nat → Prop
  | x :: xs, y :: ys => x < y ∨ (x = y ∧ ltL xs ys)
  | _, _ => False
theorem sel_mono {h : Nat → Nat} : ∀ {ps : List Nat} {r1 r2 p1 p2 q1 q2 : Nat}, ps.Pairwise (· < ·) → r1 < r2 → sel h ps r1 = some (p1, q1) → sel h ps r2 = some (p2, q2) → p1 < p2 ∨ (p1 = p2 ∧ q1 < q2)
  | [], _, _, _, _, _, _, _, _, e, _ => by cases e
  | p :: ps, r1, r2, p1, p2, q1, q2, hs, hr, e1, e2 => by
    have mem : ∀ {ps : List Nat} {r p q : Nat}, sel h ps r = some (p, q) → p ∈ ps := by
      intro ps
      induction ps with
      | nil => intro r p q e; cases e
      | cons a t ih =>
        intro r p q e
        unfold sel at e
        split at e
        · cases e
          exact List.mem_cons_self ..
        · exact List.mem_cons_of_mem _ (ih e)
    unfold sel at e1 e2
    by_cases h1 : r1 < h p
    · rw [if_pos h1] at e1
      cases e1
      by_cases h2 : r2 < h p
      · rw [if_pos h2] at e2
        cases e2
        exact .inr ⟨rfl, hr⟩
      · rw [if_neg h2] at e2
        exact .inl (List.rel_of_pairwise_cons hs (mem e2))
    · rw [if_neg h1] at e1
      rw [if_neg (by omega)] at e2
      exact sel_mono (List.Pairwise.of_cons hs) (by omega) e1 e2
theorem at_mono (F : List Nat) : ∀ (g : List Nat) (s r1 r2 : Nat), s ≤ F.length → r1 < r2 → r2 < W g (F.drop s) → ltL (at_ F g s r1) (at_ F g s r2)
  | [], s, r1, r2, hs, h1, h2 => by
    have : W [] (F.drop s) ≤ 1 := by
      simp only [W]
      split <;> omega
    omega
  | c :: g, s, r1, r2, hs, h1, h2 => by
    obtain ⟨_, b1⟩ := W_lt (Nat.lt_trans h1 h2)
    obtain ⟨_, b2⟩ := W_lt h2
    obtain ⟨pre, p, post, r', e1, e2, e3, e4⟩ := sel_ok b1
    obtain ⟨pre2, p2, post2, r2', f1, f2, f3, f4⟩ := sel_ok b2
    have ea : at_ F (c :: g) s r1 = p :: at_ F g (p + 1) r' := by simp only [at_, e2]
    have eb : at_ F (c :: g) s r2 = p2 :: at_ F g (p2 + 1) r2' := by simp only [at_, f2]
    rw [ea, eb]
    rcases sel_mono (pl_sorted F c s) h1 e2 f2 with z | ⟨z1, z2⟩
    · exact .inl z
    · subst z1
      have hp : p ∈ pl F c s := by rw [e1]; simp
      exact .inr ⟨rfl, at_mono F g (p + 1) r' r2' (pl_mem hp).2.1 z2 f4⟩
/-- a parting ends at the last place -/
theorem isP_last (F : List Nat) : ∀ (g es : List Nat) (s : Nat), isP F g s es = true → es.length = g.length → g ≠ [] → es.getLast? = some (F.length - 1) ∧ 0 < F.length
  | [], es, s, h, hl, hg => absurd rfl hg
  | c :: g, [], s, h, hl, hg => by simp at hl
  | c :: g, e :: es, s, h, hl, hg => by
    unfold isP at h
    split at h
    · rename_i h1
      split at h
      · cases g with
        | nil =>
          have : es = [] := List.eq_nil_of_length_eq_zero (by simpa using hl)
          subst this
          simp only [isP, decide_eq_true_eq] at h
          exact ⟨by simp; omega, by omega⟩
        | cons d g' =>
          have ih := isP_last F (d :: g') es (e + 1) h (by simpa using hl) (by simp)
          refine ⟨?_, ih.2⟩
          cases es with
          | nil => simp at hl
          | cons x xs => rw [List.getLast?_cons_cons]; exact ih.1
      · cases h
    · cases h
/-- an end beyond the film is none -/
theorem isP_odd (F : List Nat) : ∀ (g es : List Nat) (s : Nat), es.length = g.length → (∃ e ∈ es, F.length ≤ e) → isP F g s es = false
  | [], es, s, hl, ⟨e, he, _⟩ => by
    have : es = [] := List.eq_nil_of_length_eq_zero (by simpa using hl)
    rw [this] at he
    cases he
  | c :: g, [], s, hl, ⟨e, he, _⟩ => by cases he
  | c :: g, x :: es, s, hl, ⟨e, he, h2⟩ => by
    unfold isP
    split
    · rename_i h1
      split
      · rcases List.mem_cons.mp he with z | z
        · subst z
          simp only [Bool.and_eq_true, decide_eq_true_eq] at h1
          omega
        · exact isP_odd F g es (x + 1) (by simpa using hl) ⟨e, z, h2⟩
      · rfl
    · rfl
end PT

namespace PT
/-! ### all partings, ascending -/
def E (F : List Nat) : List Nat → Nat → List (List Nat)
  | [], s => if s = F.length then [[]] else []
  | c :: g, s => if F[s]? = some c then (pl F c s).flatMap fun p => (E F g (p + 1)).map (p :: ·) else []
theorem len_flat {α β : Type} (L : α → List β) (h : α → Nat) : ∀ (ps : List α), (∀ p ∈ ps, (L p).length = h p) → (ps.flatMap L).length = (ps.map h).sum
  | [], _ => rfl
  | p :: ps, hp => by
    rw [List.flatMap_cons, List.length_append, List.map_cons, List.sum_cons, hp p (List.mem_cons_self ..), len_flat L h ps fun q hq => hp q (List.mem_cons_of_mem _ hq)]
theorem drop_nil {F : List Nat} {s : Nat} (hs : s ≤ F.length) : F.drop s = [] ↔ s = F.length := by
  constructor
  · intro h
    have := congrArg List.length h
    rw [List.length_drop, List.length_nil] at this
    omega
  · intro h
    rw [h, List.drop_of_length_le (Nat.le_refl _)]
theorem W_cons {F : List Nat} {c : Nat} {g : List Nat} {s : Nat} : W (c :: g) (F.drop s) = if F[s]? = some c then ((pl F c s).map fun p => W g (F.drop (p + 1))).sum else 0 := by
  rw [pl_sum F c (W g) _ s rfl]
  show blk c (W g) (F.drop s) = _
  by_cases hs : s < F.length
  · have e1 : F.drop s = F[s] :: F.drop (s + 1) := List.drop_eq_getElem_cons hs
    rw [e1, List.getElem?_eq_getElem hs]
    simp only [blk, Option.some.injEq]
  · rw [List.drop_of_length_le (by omega), List.getElem?_eq_none (by omega)]
    simp [blk]
theorem E_len (F : List Nat) : ∀ (g : List Nat) (s : Nat), s ≤ F.length → (E F g s).length = W g (F.drop s)
  | [], s, hs => by
    have := drop_nil hs
    unfold E W
    by_cases h : s = F.length
    · rw [if_pos h, if_pos (this.mpr h)]; rfl
    · rw [if_neg h, if_neg fun z => h (this.mp z)]; rfl
  | c :: g, s, hs => by
    rw [W_cons]
    unfold E
    by_cases h : F[s]? = some c
    · rw [if_pos h, if_pos h]
      refine len_flat _ _ _ fun p hp => ?_
      rw [List.length_map]
      exact E_len F g (p + 1) (by have := (pl_mem hp).2.1; omega)
    · rw [if_neg h, if_neg h]; rfl
theorem get_flat {α : Type} (L : Nat → List α) (h : Nat → Nat) : ∀ (ps : List Nat) (r p r' : Nat), (∀ p ∈ ps, (L p).length = h p) → sel h ps r = some (p, r') → (ps.flatMap L)[r]? = (L p)[r']?
  | [], r, p, r', _, e => by cases e
  | q :: ps, r, p, r', hp, e => by
    have hq := hp q (List.mem_cons_self ..)
    unfold sel at e
    rw [List.flatMap_cons]
    by_cases h1 : r < h q
    · rw [if_pos h1] at e
      cases e
      rw [List.getElem?_append_left (by omega)]
    · rw [if_neg h1] at e
      rw [List.getElem?_append_right (by omega), hq]
      exact get_flat L h ps _ p r' (fun q hq => hp q (List.mem_cons_of_mem _ hq)) e
theorem E_get (F : List Nat) : ∀ (g : List Nat) (s r : Nat), s ≤ F.length → r < W g (F.drop s) → (E F g s)[r]? = some (at_ F g s r)
  | [], s, r, hs, h => by
    have hn := drop_nil hs
    unfold W at h
    unfold E
    by_cases h1 : s = F.length
    · rw [if_pos (hn.mpr h1)] at h
      have : r = 0 := by omega
      subst this
      rw [if_pos h1]
      rfl
    · rw [if_neg fun z => h1 (hn.mp z)] at h
      omega
  | c :: g, s, r, hs, h => by
    obtain ⟨h1, h2⟩ := W_lt h
    obtain ⟨pre, p, post, r', e1, e2, e3, e4⟩ := sel_ok h2
    have hp : p ∈ pl F c s := by rw [e1]; simp
    obtain ⟨p1, p2, p3⟩ := pl_mem hp
    have ih := E_get F g (p + 1) r' (by omega) e4
    unfold E
    rw [if_pos h1, get_flat _ (fun p => W g (F.drop (p + 1))) _ r p r' (fun q hq => by
      rw [List.length_map]
      exact E_len F g (q + 1) (by have := (pl_mem hq).2.1; omega)) e2, List.getElem?_map, ih]
    simp only [at_, e2, Option.map_some]
/-- the place of the r-th one -/
theorem E_eq (F : List Nat) (g : List Nat) : E F g 0 = (List.range (W g F)).map (at_ F g 0) := by
  have hl := E_len F g 0 (Nat.zero_le _)
  rw [List.drop_zero] at hl
  apply List.ext_getElem?
  intro r
  by_cases h : r < W g F
  · rw [E_get F g 0 r (Nat.zero_le _) (by rw [List.drop_zero]; exact h), List.getElem?_map, List.getElem?_range h]
    rfl
  · rw [List.getElem?_eq_none (by omega), List.getElem?_eq_none (by simp; omega)]
theorem E_pw (F g : List Nat) : (E F g 0).Pairwise ltL := by
  rw [E_eq, List.pairwise_map]
  rw [List.pairwise_iff_getElem]
  intro i j hi hj hij
  simp only [List.getElem_range]
  simp only [List.length_range] at hj
  exact at_mono F g 0 i j (Nat.zero_le _) hij (by rw [List.drop_zero]; exact hj)
theorem E_isP {F g es : List Nat} (h : es ∈ E F g 0) : isP F g 0 es = true ∧ es.length = g.length := by
  rw [E_eq] at h
  obtain ⟨r, hr, e⟩ := List.mem_map.mp h
  have := at_ok F g 0 r (Nat.zero_le _) (by rw [List.drop_zero]; exact List.mem_range.mp hr)
  rw [← e]
  exact ⟨this.1, this.2.2⟩
theorem le_sum : ∀ {l : List Nat} {x : Nat}, x ∈ l → x ≤ l.sum
  | [], x, h => by cases h
  | a :: t, x, h => by
    rw [List.sum_cons]
    rcases List.mem_cons.mp h with e | e
    · omega
    · have := le_sum e
      omega
theorem isP_pos (F : List Nat) : ∀ (g es : List Nat) (s : Nat), es.length = g.length → isP F g s es = true → 0 < W g (F.drop s)
  | [], es, s, hl, h => by
    have : es = [] := List.eq_nil_of_length_eq_zero (by simpa using hl)
    subst this
    have h1 : s = F.length := by simpa [isP] using h
    unfold W
    rw [h1, List.drop_of_length_le (Nat.le_refl _)]
    decide
  | c :: g, [], s, hl, h => by simp at hl
  | c :: g, e :: es, s, hl, h => by
    unfold isP at h
    split at h
    · rename_i h1
      split at h
      · rename_i h2
        simp only [Bool.and_eq_true, decide_eq_true_eq] at h1
        have ih := isP_pos F g es (e + 1) (by simpa using hl) h
        rw [W_cons, if_pos h2.1]
        have hm : e ∈ pl F c s := by
          unfold pl
          exact List.mem_filter.mpr ⟨List.mem_range'_1.mpr ⟨h1.1, by omega⟩, decide_eq_true h2.2⟩
        have : W g (F.drop (e + 1)) ≤ ((pl F c s).map fun p => W g (F.drop (p + 1))).sum := le_sum (List.mem_map.mpr ⟨e, hm, rfl⟩)
        omega
      · cases h
    · cases h
/-! ### letter by letter, as two loops do -/
def stp (F : List Nat) (found : List (List Nat × Nat)) (c : Nat) : List (List Nat × Nat) := found.flatMap fun x => if F[x.2]? = some c then (pl F c x.2).map fun p => (x.1 ++ [p], p + 1) else []
theorem stp_all (F : List Nat) : ∀ (g : List Nat) (fnd : List (List Nat × Nat)), ((g.foldl (stp F) fnd).filter fun x => decide (x.2 = F.length)).map (·.1) = fnd.flatMap fun x => (E F g x.2).map (x.1 ++ ·)
  | [], fnd => by
    rw [List.foldl_nil]
    induction fnd with
    | nil => rfl
    | cons x t ih =>
      rw [List.filter_cons, List.flatMap_cons]
      unfold E at ih ⊢
      by_cases h : x.2 = F.length
      · rw [if_pos (decide_eq_true h), if_pos h, List.map_cons, ih]
        simp
      · rw [if_neg (by simpa using h), if_neg h, ih]
        rfl
  | c :: g, fnd => by
    rw [List.foldl_cons, stp_all F g]
    unfold stp
    rw [List.flatMap_assoc]
    congr 1
    funext x
    by_cases h : F[x.2]? = some c
    · have e : E F (c :: g) x.2 = (pl F c x.2).flatMap fun p => (E F g (p + 1)).map (p :: ·) := by
        rw [E]
        rw [if_pos h]
      rw [if_pos h, e, List.flatMap_map, List.map_flatMap]
      congr 1
      funext p
      rw [List.map_map]
      congr 1
      funext l
      simp
    · have e : E F (c :: g) x.2 = [] := by
        rw [E]
        rw [if_neg h]
      rw [if_neg h, e]
      rfl
theorem stp_E (F g : List Nat) : ((g.foldl (stp F) [([], 0)]).filter fun x => decide (x.2 = F.length)).map (·.1) = E F g 0 := by
  rw [stp_all]
  simp
/-! ### binomials -/
def ch : Nat → Nat → Nat
  | _, 0 => 1
  | 0, _ + 1 => 0
  | n + 1, k + 1 => ch n k + ch n (k + 1)
theorem ch_zero (n : Nat) : ch n 0 = 1 := by cases n <;> rfl
theorem ch_mul : ∀ n k, ch n (k + 1) * (k + 1) + ch n k * k = ch n k * n
  | 0, 0 => rfl
  | 0, k + 1 => by simp [ch]
  | n + 1, 0 => by
    have := ch_mul n 0
    simp only [ch, ch_zero] at this ⊢
    omega
  | n + 1, k + 1 => by
    have h1 := ch_mul n k
    have h2 := ch_mul n (k + 1)
    simp only [ch]
    generalize ch n k = a at *
    generalize ch n (k + 1) = b at *
    generalize ch n (k + 1 + 1) = d at *
    have e1 : (b + d) * (k + 1 + 1) = b * (k + 1) + b + d * (k + 1 + 1) := by rw [Nat.add_mul, Nat.mul_succ b]
    have e2 : (a + b) * (k + 1) = a * k + a + b * (k + 1) := by rw [Nat.add_mul, Nat.mul_succ a]
    have e3 : (a + b) * (n + 1) = a * n + a + (b * n + b) := by rw [Nat.add_mul, Nat.mul_succ, Nat.mul_succ]
    omega
theorem ch_step {n k : Nat} (h : k ≤ n) : ch n k * (n - k) / (k + 1) = ch n (k + 1) := by
  have h1 := ch_mul n k
  have h2 : ch n k * (n - k) = ch n (k + 1) * (k + 1) := by
    rw [Nat.mul_sub]
    omega
  rw [h2, Nat.mul_div_cancel _ (by omega)]
theorem ch_pos : ∀ n k, k ≤ n → 0 < ch n k
  | n, 0, _ => by rw [ch_zero]; decide
  | 0, k + 1, h => by omega
  | n + 1, k + 1, h => by
    have := ch_pos n k (by omega)
    simp only [ch]
    omega
theorem W_rep_acc (c k : Nat) : ∀ n, W (List.replicate (k + 1) c) (List.replicate n c) = acc c (W (List.replicate k c)) (List.replicate n c)
  | 0 => rfl
  | n + 1 => by
    show blk c (W (List.replicate k c)) (c :: List.replicate n c) = _
    simp only [blk, if_true]
    rfl
theorem W_rep (c : Nat) : ∀ n k, W (List.replicate (k + 1) c) (List.replicate (n + 1) c) = ch n k := by
  intro n
  induction n with
  | zero =>
    intro k
    rw [W_rep_acc]
    cases k with
    | zero => simp [List.replicate, acc, W, ch]
    | succ k => simp [List.replicate, acc, W, ch, blk]
  | succ n ih =>
    intro k
    have e : acc c (W (List.replicate k c)) (List.replicate (n + 1 + 1) c) = W (List.replicate k c) (List.replicate (n + 1) c) + acc c (W (List.replicate k c)) (List.replicate (n + 1) c) := by
      show acc c _ (c :: List.replicate (n + 1) c) = _
      simp only [acc, if_true]
    rw [W_rep_acc, e, ← W_rep_acc, ih]
    cases k with
    | zero =>
      rw [ch_zero, ch_zero]
      simp [W, List.replicate]
    | succ k =>
      rw [ih]
      rfl
end PT

namespace LW
open PySem L2 DL
abbrev topS (i : Nat) : Stmt := (PySem.W.OpenLaw.row PySem.Challenge.rw_jumpcuts_k03_whole_partings).prog.main.body.getD i (.Pass ⟨0, 0, 0, 0⟩)
abbrev FnP (K : PySem.W.Frag) (x : Str) (st : Stmt) (f : Addr) (fd : FuncData) : Prop := FunD K x x (defArgs st) (defBody st) (defScope st) [] [] f fd
structure Gs (mg : Str → Option Value) : Prop where
  f_bool : mg "bool" = none
  f_enumerate : mg "enumerate" = none
  f_int : mg "int" = none
  f_isinstance : mg "isinstance" = none
  f_len : mg "len" = none
  f_list : mg "list" = none
  f_range : mg "range" = none
  f_reversed : mg "reversed" = none
  f_sorted : mg "sorted" = none
  f_str : mg "str" = none
  f_sum : mg "sum" = none
  f_tuple : mg "tuple" = none
  f_zip : mg "zip" = none
  c_LETTERS : ∃ t, mg "LETTERS" = some (.str "abcdefgh" t)
  c_MOST_LETTERS : ∃ t, mg "MOST_LETTERS" = some (.int 200 t)
/-! ### _law_taken -/
abbrev s__law_taken : Stmt := topS 20
abbrev N__law_taken : List Str := ["row", "many", "found", "cell"]
def b__law_taken : DL.Env → DL.R Fl := (seqS (ifS (withEnv (tst (bin gtD (bin ixD (gAny 0) (kc (.int 3))) (kc (.int 0))))) (seqS (setS 2 (withEnv (bin modD (appN intD (aCons (bin ixD (gAny 0) (kc (.int 3))) aNil)) (gAny 1)))) (seqS (itmS 0 (kc (.int 3)) (bin fdivD (bin ixD (gAny 0) (kc (.int 3))) (gAny 1))) (retS (withEnv (gSh 2))))) skipS) (seqS (itmS 0 (kc (.int 1)) (bin plusD (bin ixD (gAny 0) (kc (.int 1))) (kc (.int 1)))) (seqS (ifS (withEnv (tst (bin gtD (bin ixD (gAny 0) (kc (.int 1))) (appN lenD (aCons (bin ixD (gAny 0) (kc (.int 0))) aNil))))) (seqS (itmS 0 (kc (.int 2)) (bin modD (appN intD (aCons (bin plusD (bin mulD (bin ixD (gAny 0) (kc (.int 2))) (kc (.int 48271))) (kc (.int 11))) aNil)) (kc (.int 2147483647)))) (retS (withEnv (bin modD (appN intD (aCons (bin fdivD (bin ixD (gAny 0) (kc (.int 2))) (kc (.int 7))) aNil)) (gAny 1))))) skipS) (seqS (setS 3 (withEnv (bin ixD (bin ixD (gAny 0) (kc (.int 0))) (bin subD (bin ixD (gAny 0) (kc (.int 1))) (kc (.int 1)))))) (seqS (itmS 0 (kc (.int 2)) (bin modD (appN intD (aCons (bin plusD (bin plusD (bin mulD (bin ixD (gAny 0) (kc (.int 2))) (kc (.int 48271))) (gAny 3)) (kc (.int 11))) aNil)) (kc (.int 2147483647)))) (seqS (ifS (withEnv (tst (bin geD (gAny 3) (bin powD (kc (.int 10)) (kc (.int 18)))))) (itmS 0 (kc (.int 3)) (bin fdivD (gAny 3) (gAny 1))) skipS) (retS (withEnv (bin modD (appN intD (aCons (gAny 3) aNil)) (gAny 1))))))))))
def F__law_taken : List D → List D → DL.R (D × List D) := fnIO 4 1 b__law_taken
theorem sc__law_taken : FnScope N__law_taken ["row", "many"] (defScope s__law_taken) := ⟨rfl, rfl, rfl, by decide +kernel, rfl, by decide +kernel, by decide +kernel⟩
theorem ok__law_taken {P : Program} {w : World} {K : PySem.W.Frag} {mg : Str → Option Value} {base : Heap} {f : Addr} {fd : FuncData} (G : Gs mg) (F : FnP K "_law_taken" s__law_taken f fd) (hm : mg "_law_taken" = some (.ref f))  : CalIO P w K mg base 1 "_law_taken" 1 F__law_taken := by
  have S := sc__law_taken
  refine calio_of (N := N__law_taken) (q := "row") (ps := ["many"]) (b := b__law_taken) F S hm (by decide) (fun _ _ _ _ _ _ us hl => match us, hl with | [_, _], _ => rfl) fun cdv A outer s H E hr => ?_
  exact (s_cons (s_if (DT.toE (t_cmp op_gt o_cmpI (DP.toB (d_ix (b_var 0) (DP.toB d_int))) (DP.toB d_int) (by rfl))) (s_cons (s_set 2 S.nd (DP.toE (d_op op_mod o_mod (DP.toB (d_callT call_int3 o_intc rfl G.f_int (by rfl) (b_cons (DP.toB (d_ix (b_var 0) (DP.toB d_int))) b_nil))) (b_var 1)))) (s_cons (s_item 0 (d_op op_fdiv o_fdiv (DP.toB (d_ix (b_var 0) (DP.toB d_int))) (b_var 1)) (DP.toB d_int)) (s_one (s_ret (DP.toE (d_var 2)))))) s_nil) (s_cons (s_item 0 (d_op op_plus o_plus (DP.toB (d_ix (b_var 0) (DP.toB d_int))) (DP.toB d_int)) (DP.toB d_int)) (s_cons (s_if (DT.toE (t_cmp op_gt o_cmpI (DP.toB (d_ix (b_var 0) (DP.toB d_int))) (DP.toB (d_callB call_len3 o_len rfl G.f_len (by rfl) (b_cons (DP.toB (d_ix (b_var 0) (DP.toB d_int))) b_nil))) (by rfl))) (s_cons (s_item 0 (d_op op_mod o_mod (DP.toB (d_callT call_int3 o_intc rfl G.f_int (by rfl) (b_cons (DP.toB (d_op op_plus o_plus (DP.toB (d_op op_mul o_mul (DP.toB (d_ix (b_var 0) (DP.toB d_int))) (DP.toB d_int))) (DP.toB d_int))) b_nil))) (DP.toB d_int)) (DP.toB d_int)) (s_one (s_ret (DP.toE (d_op op_mod o_mod (DP.toB (d_callT call_int3 o_intc rfl G.f_int (by rfl) (b_cons (DP.toB (d_op op_fdiv o_fdiv (DP.toB (d_ix (b_var 0) (DP.toB d_int))) (DP.toB d_int))) b_nil))) (b_var 1)))))) s_nil) (s_cons (s_set 3 S.nd (DP.toE (d_ix (DP.toB (d_ix (b_var 0) (DP.toB d_int))) (DP.toB (d_op op_sub o_sub (DP.toB (d_ix (b_var 0) (DP.toB d_int))) (DP.toB d_int)))))) (s_cons (s_item 0 (d_op op_mod o_mod (DP.toB (d_callT call_int3 o_intc rfl G.f_int (by rfl) (b_cons (DP.toB (d_op op_plus o_plus (DP.toB (d_op op_plus o_plus (DP.toB (d_op op_mul o_mul (DP.toB (d_ix (b_var 0) (DP.toB d_int))) (DP.toB d_int))) (b_var 3))) (DP.toB d_int))) b_nil))) (DP.toB d_int)) (DP.toB d_int)) (s_cons (s_if (DT.toE (t_cmp op_ge o_cmpI (b_var 3) (DP.toB (d_op op_pow o_pow (DP.toB d_int) (DP.toB d_int))) (by rfl))) (s_one (s_item 0 (d_op op_fdiv o_fdiv (b_var 3) (b_var 1)) (DP.toB d_int))) s_nil) (s_one (s_ret (DP.toE (d_op op_mod o_mod (DP.toB (d_callT call_int3 o_intc rfl G.f_int (by rfl) (b_cons (b_var 3) b_nil))) (b_var 1)))))))))))
/-! ### _law_film -/
abbrev s__law_film : Stmt := topS 23
abbrev N__law_film : List Str := ["row", "most", "many", "found", "turn"]
def b__law_film : DL.Env → DL.R Fl := (seqS (setS 3 (withEnv (kc (.str "")))) (seqS (forS (itR1 (aConsE (binE plusD (withEnv (kc (.int 1))) (callIO 0 1 F__law_taken (withEnv (aCons (gSh 1) aNil)))) (withEnv aNil))) (gSet 4) (setS 3 (binE plusD (withEnv (gSh 3)) (binE ixD (withEnv (kc (.str "abcdefgh"))) (callIO 0 1 F__law_taken (withEnv (aCons (gSh 2) aNil))))))) (retS (withEnv (gSh 3)))))
def F__law_film : List D → List D → DL.R (D × List D) := fnIO 5 2 b__law_film
theorem sc__law_film : FnScope N__law_film ["row", "most", "many"] (defScope s__law_film) := ⟨rfl, rfl, rfl, by decide +kernel, rfl, by decide +kernel, by decide +kernel⟩
theorem ok__law_film {P : Program} {w : World} {K : PySem.W.Frag} {mg : Str → Option Value} {base : Heap} {f : Addr} {fd : FuncData} (G : Gs mg) (F : FnP K "_law_film" s__law_film f fd) (hm : mg "_law_film" = some (.ref f)) (c__law_taken : CalIO P w K mg base 1 "_law_taken" 1 F__law_taken) : CalIO P w K mg base 2 "_law_film" 2 F__law_film := by
  have S := sc__law_film
  refine calio_of (N := N__law_film) (q := "row") (ps := ["most", "many"]) (b := b__law_film) F S hm (by decide) (fun _ _ _ _ _ _ us hl => match us, hl with | [_, _, _], _ => rfl) fun cdv A outer s H E hr => ?_
  exact (s_cons (s_set 3 S.nd (DP.toE d_str)) (s_cons (s_for (passes_of rfl) rfl (i_range1 rfl G.f_range (e_cons (e_op op_plus o_plus (DP.toE d_int) (e_fnIO 0 c__law_taken (hr.mono (by decide)) rfl (takes_of rfl rfl rfl rfl) (DPs.toE (p_cons (d_var 1) p_nil)))) (DPs.toE p_nil))) (g_name S.nd (i := 4)) (s_one (s_set 3 S.nd (e_op op_plus o_plus (DP.toE (d_var 3)) (e_ix (DP.toE d_str) (e_fnIO 0 c__law_taken (hr.mono (by decide)) rfl (takes_of rfl rfl rfl rfl) (DPs.toE (p_cons (d_var 2) p_nil)))))))) (s_one (s_ret (DP.toE (d_var 3))))))
/-! ### _law_pick -/
abbrev s__law_pick : Stmt := topS 21
abbrev N__law_pick : List Str := ["row", "things"]
def b__law_pick : DL.Env → DL.R Fl := (retS (binE ixD (withEnv (gSh 1)) (callIO 0 1 F__law_taken (withEnv (aCons (appN lenD (aCons (gAny 1) aNil)) aNil)))))
def F__law_pick : List D → List D → DL.R (D × List D) := fnIO 2 1 b__law_pick
theorem sc__law_pick : FnScope N__law_pick ["row", "things"] (defScope s__law_pick) := ⟨rfl, rfl, rfl, by decide +kernel, rfl, by decide +kernel, by decide +kernel⟩
theorem ok__law_pick {P : Program} {w : World} {K : PySem.W.Frag} {mg : Str → Option Value} {base : Heap} {f : Addr} {fd : FuncData} (G : Gs mg) (F : FnP K "_law_pick" s__law_pick f fd) (hm : mg "_law_pick" = some (.ref f)) (c__law_taken : CalIO P w K mg base 1 "_law_taken" 1 F__law_taken) : CalIO P w K mg base 2 "_law_pick" 1 F__law_pick := by
  have S := sc__law_pick
  refine calio_of (N := N__law_pick) (q := "row") (ps := ["things"]) (b := b__law_pick) F S hm (by decide) (fun _ _ _ _ _ _ us hl => match us, hl with | [_, _], _ => rfl) fun cdv A outer s H E hr => ?_
  exact (s_one (s_ret (e_ix (DP.toE (d_var 1)) (e_fnIO 0 c__law_taken (hr.mono (by decide)) rfl (takes_of rfl rfl rfl rfl) (DPs.toE (p_cons (d_callB call_len3 o_len rfl G.f_len (by rfl) (b_cons (b_var 1) b_nil)) p_nil))))))
/-! ### _law_drawn -/
abbrev s__law_drawn : Stmt := topS 24
abbrev N__law_drawn : List Str := ["row", "film", "most", "now", "found", "turn", "some", "first", "pair", "second"]
def b__law_drawn : DL.Env → DL.R Fl := (seqS (asgS (gTupD 2 (gsCons (gSet 3) (gsCons (gSet 4) gsNil))) (withEnv (mkT (aCons (gSh 1) (aCons (mkT aNil) aNil))))) (seqS (forS (withEnv (itN rg1 (aCons (gAny 2) aNil))) (gSet 5) (seqS (setS 6 (withEnv (mkL aNil))) (seqS (forS (withEnv (itN rg1 (aCons (appN lenD (aCons (gAny 3) aNil)) aNil))) (gSet 7) (setS 6 (withEnv (bin plusD (gAny 6) (lcD [("second", 9)] (itN rg2 (aCons (bin plusD (gAny 7) (kc (.int 1))) (aCons (appN lenD (aCons (gAny 3) aNil)) aNil))) (gSet 9) (tst (bin eqD (bin ixD (gAny 3) (gAny 7)) (bin ixD (gAny 3) (gAny 9)))) (mkT (aCons (gSh 7) (aCons (gSh 9) aNil)))))))) (ifS (withEnv (tst (bin neD (gAny 6) (mkL aNil)))) (seqS (setS 8 (callIO 0 1 F__law_pick (withEnv (aCons (gSh 6) aNil)))) (asgS (gTupD 2 (gsCons (gSet 3) (gsCons (gSet 4) gsNil))) (withEnv (mkT (aCons (bin plusD (sl3 slA (gAny 3) oNone (oSome (bin plusD (bin ixD (gAny 8) (kc (.int 0))) (kc (.int 1))))) (sl3 slA (gAny 3) (oSome (bin plusD (bin ixD (gAny 8) (kc (.int 1))) (kc (.int 1)))) oNone)) (aCons (bin plusD (gAny 4) (mkT (aCons (gSh 8) aNil))) aNil)))))) skipS)))) (retS (withEnv (mkT (aCons (gSh 4) (aCons (gSh 3) aNil)))))))
def F__law_drawn : List D → List D → DL.R (D × List D) := fnIO 10 2 b__law_drawn
theorem sc__law_drawn : FnScope N__law_drawn ["row", "film", "most"] (defScope s__law_drawn) := ⟨rfl, rfl, rfl, by decide +kernel, rfl, by decide +kernel, by decide +kernel⟩
theorem ok__law_drawn {P : Program} {w : World} {K : PySem.W.Frag} {mg : Str → Option Value} {base : Heap} {f : Addr} {fd : FuncData} (G : Gs mg) (F : FnP K "_law_drawn" s__law_drawn f fd) (hm : mg "_law_drawn" = some (.ref f)) (c__law_pick : CalIO P w K mg base 2 "_law_pick" 1 F__law_pick) : CalIO P w K mg base 3 "_law_drawn" 2 F__law_drawn := by
  have S := sc__law_drawn
  refine calio_of (N := N__law_drawn) (q := "row") (ps := ["film", "most"]) (b := b__law_drawn) F S hm (by decide) (fun _ _ _ _ _ _ us hl => match us, hl with | [_, _, _], _ => rfl) fun cdv A outer s H E hr => ?_
  exact (s_cons (s_asg (DP.toE (d_tup (p_cons (d_var 1) (p_cons (d_tup p_nil) p_nil)))) (g_tup rfl (gs_cons (g_name S.nd (i := 3)) (gs_cons (g_name S.nd (i := 4)) gs_nil)))) (s_cons (s_for (passes_of rfl) rfl (DIp.toI (p_range1 rfl G.f_range (b_cons (b_var 2) b_nil))) (g_name S.nd (i := 5)) (s_cons (s_set 6 S.nd (DP.toE (DF.toP (d_lst p_nil)))) (s_cons (s_for (passes_of rfl) rfl (DIp.toI (p_range1 rfl G.f_range (b_cons (DP.toB (d_callB call_len3 o_len rfl G.f_len (by rfl) (b_cons (b_var 3) b_nil))) b_nil))) (g_name S.nd (i := 7)) (s_one (s_set 6 S.nd (DP.toE (d_op op_plus o_plus (b_var 6) (DP.toB (DF.toP (d_lc (own := [("second", 9)]) rfl S.nd (p_range2 rfl G.f_range (b_cons (DP.toB (d_op op_plus o_plus (b_var 7) (DP.toB d_int))) (b_cons (DP.toB (d_callB call_len3 o_len rfl G.f_len (by rfl) (b_cons (b_var 3) b_nil))) b_nil))) (blkOk_by (by rfl)) (fun _ _ _ _ _ => (g_name S.nd (i := 9))) (fun _ _ _ _ _ => (c_one (t_cmp (op_eq2 hr.units) o_eq (DP.toB (d_ix (b_var 3) (b_var 7))) (DP.toB (d_ix (b_var 3) (b_var 9))) (by rfl)))) (fun _ _ _ _ _ => (d_tup (p_cons (d_var 7) (p_cons (d_var 9) p_nil)))))))))))) (s_one (s_if (DT.toE (t_cmp (op_ne2 hr.units) o_ne (b_var 6) (DP.toB (DF.toP (d_lst p_nil))) (by rfl))) (s_cons (s_set 8 S.nd (e_fnIO 0 c__law_pick (hr.mono (by decide)) rfl (takes_of rfl rfl rfl rfl) (DPs.toE (p_cons (d_var 6) p_nil)))) (s_one (s_asg (DP.toE (d_tup (p_cons (d_op op_plus o_plus (DP.toB (d_slA (b_var 3) do_none (do_some (DP.toB (d_op op_plus o_plus (DP.toB (d_ix (b_var 8) (DP.toB d_int))) (DP.toB d_int)))))) (DP.toB (d_slA (b_var 3) (do_some (DP.toB (d_op op_plus o_plus (DP.toB (d_ix (b_var 8) (DP.toB d_int))) (DP.toB d_int)))) do_none))) (p_cons (d_op op_plus o_plus (b_var 4) (DP.toB (d_tup (p_cons (d_var 8) p_nil)))) p_nil)))) (g_tup rfl (gs_cons (g_name S.nd (i := 3)) (gs_cons (g_name S.nd (i := 4)) gs_nil)))))) s_nil))))) (s_one (s_ret (DP.toE (d_tup (p_cons (d_var 4) (p_cons (d_var 3) p_nil))))))))
/-! ### _law_goal -/
abbrev s__law_goal : Stmt := topS 26
abbrev N__law_goal : List Str := ["row", "film", "found", "turn"]
def b__law_goal : DL.Env → DL.R Fl := (seqS (ifS (tstE (binE gtD (callIO 0 1 F__law_taken (withEnv (aCons (kc (.int 3)) aNil))) (withEnv (kc (.int 0))))) (retS (binE ixD (callIO 0 2 F__law_drawn (aConsE (withEnv (gSh 1)) (aConsE (binE plusD (withEnv (kc (.int 1))) (callIO 0 1 F__law_taken (withEnv (aCons (kc (.int 4)) aNil)))) (withEnv aNil)))) (withEnv (kc (.int 1))))) skipS) (seqS (setS 2 (withEnv (kc (.str "")))) (seqS (forS (itR1 (aConsE (binE plusD (withEnv (kc (.int 1))) (callIO 0 1 F__law_taken (withEnv (aCons (appN lenD (aCons (gAny 1) aNil)) aNil)))) (withEnv aNil))) (gSet 3) (setS 2 (binE plusD (withEnv (gSh 2)) (callIO 0 1 F__law_pick (withEnv (aCons (gSh 1) aNil)))))) (retS (withEnv (gSh 2))))))
def F__law_goal : List D → List D → DL.R (D × List D) := fnIO 4 1 b__law_goal
theorem sc__law_goal : FnScope N__law_goal ["row", "film"] (defScope s__law_goal) := ⟨rfl, rfl, rfl, by decide +kernel, rfl, by decide +kernel, by decide +kernel⟩
theorem ok__law_goal {P : Program} {w : World} {K : PySem.W.Frag} {mg : Str → Option Value} {base : Heap} {f : Addr} {fd : FuncData} (G : Gs mg) (F : FnP K "_law_goal" s__law_goal f fd) (hm : mg "_law_goal" = some (.ref f)) (c__law_taken : CalIO P w K mg base 1 "_law_taken" 1 F__law_taken) (c__law_drawn : CalIO P w K mg base 3 "_law_drawn" 2 F__law_drawn) (c__law_pick : CalIO P w K mg base 2 "_law_pick" 1 F__law_pick) : CalIO P w K mg base 4 "_law_goal" 1 F__law_goal := by
  have S := sc__law_goal
  refine calio_of (N := N__law_goal) (q := "row") (ps := ["film"]) (b := b__law_goal) F S hm (by decide) (fun _ _ _ _ _ _ us hl => match us, hl with | [_, _], _ => rfl) fun cdv A outer s H E hr => ?_
  exact (s_cons (s_if (t_cmpE op_gt o_cmpI (e_fnIO 0 c__law_taken (hr.mono (by decide)) rfl (takes_of rfl rfl rfl rfl) (DPs.toE (p_cons d_int p_nil))) (DP.toE d_int) (by rfl)) (s_one (s_ret (e_ix (e_fnIO 0 c__law_drawn (hr.mono (by decide)) rfl (takes_of rfl rfl rfl rfl) (e_cons (DP.toE (d_var 1)) (e_cons (e_op op_plus o_plus (DP.toE d_int) (e_fnIO 0 c__law_taken (hr.mono (by decide)) rfl (takes_of rfl rfl rfl rfl) (DPs.toE (p_cons d_int p_nil)))) (DPs.toE p_nil)))) (DP.toE d_int)))) s_nil) (s_cons (s_set 2 S.nd (DP.toE d_str)) (s_cons (s_for (passes_of rfl) rfl (i_range1 rfl G.f_range (e_cons (e_op op_plus o_plus (DP.toE d_int) (e_fnIO 0 c__law_taken (hr.mono (by decide)) rfl (takes_of rfl rfl rfl rfl) (DPs.toE (p_cons (d_callB call_len3 o_len rfl G.f_len (by rfl) (b_cons (b_var 1) b_nil)) p_nil)))) (DPs.toE p_nil))) (g_name S.nd (i := 3)) (s_one (s_set 2 S.nd (e_op op_plus o_plus (DP.toE (d_var 2)) (e_fnIO 0 c__law_pick (hr.mono (by decide)) rfl (takes_of rfl rfl rfl rfl) (DPs.toE (p_cons (d_var 1) p_nil))))))) (s_one (s_ret (DP.toE (d_var 2)))))))
/-! ### _law_partings -/
abbrev s__law_partings : Stmt := topS 25
abbrev N__law_partings : List Str := ["film", "goal", "found", "letter", "later", "told", "start", "place"]
def b__law_partings : DL.Env → DL.R Fl := (seqS (setS 2 (withEnv (mkL (aCons (mkT (aCons (mkT aNil) (aCons (kc (.int 0)) aNil))) aNil)))) (seqS (forS (withEnv (itX zD (gSh 1))) (gSet 3) (seqS (setO 4 (mkL aNil)) (seqS (forS (withEnv (itX zD (gSh 2))) (gTupD 2 (gsCons (gSet 5) (gsCons (gSet 6) gsNil))) (ifS (withEnv (andB (tst (bin ltD (gAny 6) (appN lenD (aCons (gAny 0) aNil)))) (tst (bin eqD (bin ixD (gAny 0) (gAny 6)) (gAny 3))))) (forS (withEnv (itN rg2 (aCons (gAny 6) (aCons (appN lenD (aCons (gAny 0) aNil)) aNil)))) (gSet 7) (ifS (withEnv (tst (bin eqD (bin ixD (gAny 0) (gAny 7)) (gAny 3)))) (appS 4 (mkT (aCons (bin plusD (gAny 5) (mkT (aCons (gSh 7) aNil))) (aCons (bin plusD (gAny 7) (kc (.int 1))) aNil)))) skipS)) skipS)) (frzS 4 (setS 2 (withEnv (gSh 4))))))) (retS (withEnv (appN srtD (aCons (lcD [("told", 5), ("start", 6)] (itX zD (gSh 2)) (gTupD 2 (gsCons (gSet 5) (gsCons (gSet 6) gsNil))) (tst (bin eqD (gAny 6) (appN lenD (aCons (gAny 0) aNil)))) (gSh 5)) aNil))))))
def F__law_partings : List D → DL.R D := fnD 8 2 b__law_partings
theorem sc__law_partings : FnScope N__law_partings ["film", "goal"] (defScope s__law_partings) := ⟨rfl, rfl, rfl, by decide +kernel, rfl, by decide +kernel, by decide +kernel⟩
theorem ok__law_partings {P : Program} {w : World} {K : PySem.W.Frag} {mg : Str → Option Value} {base : Heap} {f : Addr} {fd : FuncData} (G : Gs mg) (F : FnP K "_law_partings" s__law_partings f fd) (hm : mg "_law_partings" = some (.ref f))  : Cal P w K mg base 1 "_law_partings" 2 F__law_partings := by
  have S := sc__law_partings
  refine cal_of (N := N__law_partings) (ps := ["film", "goal"]) (b := b__law_partings) F S hm (by decide) (fun _ _ _ _ _ _ us hl => match us, hl with | [_, _], _ => rfl) fun cdv A outer s H E hr => ?_
  exact (s_cons (s_set 2 S.nd (DP.toE (DF.toP (d_lst (p_cons (d_tup (p_cons (d_tup p_nil) (p_cons d_int p_nil))) p_nil))))) (s_cons (s_for (passes_of rfl) rfl (DIp.toI (p_any (d_var 1))) (g_name S.nd (i := 3)) (s_cons (s_setO 4 S.nd (d_lst p_nil)) (s_cons (s_for (passes_of rfl) rfl (DIp.toI (p_any (d_var 2))) (g_tup rfl (gs_cons (g_name S.nd (i := 5)) (gs_cons (g_name S.nd (i := 6)) gs_nil))) (s_one (s_if (DT.toE (DW.t (w_and (t_cmp op_lt o_cmpI (b_var 6) (DP.toB (d_callB call_len3 o_len rfl G.f_len (by rfl) (b_cons (b_var 0) b_nil))) (by rfl)) (w_and1 (t_cmp (op_eq2 hr.units) o_eq (DP.toB (d_ix (b_var 0) (b_var 6))) (b_var 3) (by rfl)))))) (s_one (s_for (passes_of rfl) rfl (DIp.toI (p_range2 rfl G.f_range (b_cons (b_var 6) (b_cons (DP.toB (d_callB call_len3 o_len rfl G.f_len (by rfl) (b_cons (b_var 0) b_nil))) b_nil)))) (g_name S.nd (i := 7)) (s_one (s_if (DT.toE (t_cmp (op_eq2 hr.units) o_eq (DP.toB (d_ix (b_var 0) (b_var 7))) (b_var 3) (by rfl))) (s_one (s_append 4 (d_tup (p_cons (d_op op_plus o_plus (b_var 5) (DP.toB (d_tup (p_cons (d_var 7) p_nil)))) (p_cons (d_op op_plus o_plus (b_var 7) (DP.toB d_int)) p_nil))))) s_nil)))) s_nil))) (s_frzS 4 (s_one (s_set 2 S.nd (DP.toE (d_var 4)))))))) (s_one (s_ret (DP.toE (DF.toP (d_callBF cr_srt o_srt rfl G.f_sorted (by rfl) (b_cons (DP.toB (DF.toP (d_lc (own := [("told", 5), ("start", 6)]) rfl S.nd (p_any (d_var 2)) (blkOk_by (by rfl)) (fun _ _ _ _ _ => (g_tup rfl (gs_cons (g_name S.nd (i := 5)) (gs_cons (g_name S.nd (i := 6)) gs_nil)))) (fun _ _ _ _ _ => (c_one (t_cmp (op_eq2 hr.units) o_eq (b_var 6) (DP.toB (d_callB call_len3 o_len rfl G.f_len (by rfl) (b_cons (b_var 0) b_nil))) (by rfl)))) (fun _ _ _ _ _ => (d_var 5))))) b_nil))))))))
/-! ### _law_alike -/
abbrev s__law_alike : Stmt := topS 22
abbrev N__law_alike : List Str := ["found", "due", "k"]
def b__law_alike (Frec : List D → DL.R D) : DL.Env → DL.R Fl := (seqS (ifS (withEnv (tru (appN isiD (aCons (gAny 1) (aCons (mkT (aCons (kc (.ty "tuple")) (aCons (kc (.ty "list")) aNil))) aNil))))) (seqS (ifS (withEnv (orB (notB (tru (appN isiD (aCons (gAny 0) (aCons (mkT (aCons (kc (.ty "tuple")) (aCons (kc (.ty "list")) aNil))) aNil))))) (tst (bin neD (appN isiD (aCons (gAny 0) (aCons (kc (.ty "list")) aNil))) (appN isiD (aCons (gAny 1) (aCons (kc (.ty "list")) aNil))))))) (retS (withEnv (kc (.bl false)))) skipS) (seqS (ifS (withEnv (tst (bin neD (appN lenD (aCons (gAny 0) aNil)) (appN lenD (aCons (gAny 1) aNil))))) (retS (withEnv (kc (.bl false)))) skipS) (retS (withEnv (bin eqD (lcD [("k", 2)] (itN rg1 (aCons (appN lenD (aCons (gAny 1) aNil)) aNil)) (gSet 2) (notB (tru (callF 2 Frec (aCons (bin ixD (gAny 0) (gAny 2)) (aCons (bin ixD (gAny 1) (gAny 2)) aNil))))) (gSh 2)) (mkL aNil)))))) skipS) (seqS (ifS (withEnv (orB (tst (bin isN2 (gAny 1) (kc .non))) (tru (appN isiD (aCons (gAny 1) (aCons (kc (.ty "str")) aNil)))))) (retS (withEnv (andV (bin eqD (gAny 0) (gAny 1)) (bin eqD (appN isiD (aCons (gAny 0) (aCons (kc (.ty "str")) aNil))) (appN isiD (aCons (gAny 1) (aCons (kc (.ty "str")) aNil))))))) skipS) (retS (withEnv (andV (appN isiD (aCons (gAny 0) (aCons (kc (.ty "int")) aNil))) (andV (bin eqD (appN isiD (aCons (gAny 0) (aCons (kc (.ty "bool")) aNil))) (appN isiD (aCons (gAny 1) (aCons (kc (.ty "bool")) aNil)))) (bin eqD (gAny 0) (gAny 1))))))))
def F__law_alike : Nat → List D → DL.R D
  | 0 => fnD 3 2 nvrS
  | j + 1 => fnD 3 2 (b__law_alike (F__law_alike j))
theorem sc__law_alike : FnScope N__law_alike ["found", "due"] (defScope s__law_alike) := ⟨rfl, rfl, rfl, by decide +kernel, rfl, by decide +kernel, by decide +kernel⟩
theorem ok__law_alike_ {P : Program} {w : World} {K : PySem.W.Frag} {mg : Str → Option Value} {base : Heap} {f : Addr} {fd : FuncData} (G : Gs mg) (F : FnP K "_law_alike" s__law_alike f fd) (hm : mg "_law_alike" = some (.ref f))  : ∀ j, Cal P w K mg base (1 + j) "_law_alike" 2 (F__law_alike j)
  | 0 => cal_of (N := N__law_alike) (ps := ["found", "due"]) (b := nvrS) F sc__law_alike hm (by decide) (fun _ _ _ _ _ _ us hl => match us, hl with | [_, _], _ => rfl) fun cdv A outer s H E hr => ss_never
  | j + 1 => by
    have S := sc__law_alike
    have c_rec := ok__law_alike_ (P := P) (w := w) (base := base) G F hm  j
    refine cal_of (N := N__law_alike) (ps := ["found", "due"]) (b := b__law_alike (F__law_alike j)) F S hm (by decide) (fun _ _ _ _ _ _ us hl => match us, hl with | [_, _], _ => rfl) fun cdv A outer s H E hr => ?_
    exact (s_cons (s_if (DT.toE (t_tru (DP.toB (d_callB call_isi3 o_isi rfl G.f_isinstance (by rfl) (b_cons (b_var 1) (b_cons (DP.toB (d_tup (p_cons (b_ty rfl G.f_tuple (by rfl)) (p_cons (b_ty rfl G.f_list (by rfl)) p_nil)))) b_nil)))))) (s_cons (s_if (DT.toE (DW.t (w_or (t_not (t_tru (DP.toB (d_callB call_isi3 o_isi rfl G.f_isinstance (by rfl) (b_cons (b_var 0) (b_cons (DP.toB (d_tup (p_cons (b_ty rfl G.f_tuple (by rfl)) (p_cons (b_ty rfl G.f_list (by rfl)) p_nil)))) b_nil)))))) (w_or1 (t_cmp (op_ne2 hr.units) o_ne (DP.toB (d_callB call_isi3 o_isi rfl G.f_isinstance (by rfl) (b_cons (b_var 0) (b_cons (DP.toB (b_ty rfl G.f_list (by rfl))) b_nil)))) (DP.toB (d_callB call_isi3 o_isi rfl G.f_isinstance (by rfl) (b_cons (b_var 1) (b_cons (DP.toB (b_ty rfl G.f_list (by rfl))) b_nil)))) (by rfl)))))) (s_one (s_ret (DP.toE d_bl))) s_nil) (s_cons (s_if (DT.toE (t_cmp (op_ne2 hr.units) o_ne (DP.toB (d_callB call_len3 o_len rfl G.f_len (by rfl) (b_cons (b_var 0) b_nil))) (DP.toB (d_callB call_len3 o_len rfl G.f_len (by rfl) (b_cons (b_var 1) b_nil))) (by rfl))) (s_one (s_ret (DP.toE d_bl))) s_nil) (s_one (s_ret (DP.toE (d_cmp (op_eq2 hr.units) o_eq (DP.toB (DF.toP (d_lc (own := [("k", 2)]) rfl S.nd (p_range1 rfl G.f_range (b_cons (DP.toB (d_callB call_len3 o_len rfl G.f_len (by rfl) (b_cons (b_var 1) b_nil))) b_nil)) (blkOk_by (by rfl)) (fun _ _ _ _ _ => (g_name S.nd (i := 2))) (fun _ _ _ _ _ => (c_one (t_not (t_tru (DP.toB (d_fn c_rec (hr.mono (Nat.le_refl _)) rfl takes_no (p_cons (d_ix (b_var 0) (b_var 2)) (p_cons (d_ix (b_var 1) (b_var 2)) p_nil)))))))) (fun _ _ _ _ _ => (d_var 2))))) (DP.toB (DF.toP (d_lst p_nil))) (by rfl))))))) s_nil) (s_cons (s_if (DT.toE (DW.t (w_or (t_cmp op_isN o_isN (b_var 1) (DP.toB d_non) (by rfl)) (w_or1 (t_tru (DP.toB (d_callB call_isi3 o_isi rfl G.f_isinstance (by rfl) (b_cons (b_var 1) (b_cons (DP.toB (b_ty rfl G.f_str (by rfl))) b_nil))))))))) (s_one (s_ret (DP.toE (d_and (d_cmp (op_eq2 hr.units) o_eq (b_var 0) (b_var 1) (by rfl)) (d_one (d_cmp (op_eq2 hr.units) o_eq (DP.toB (d_callB call_isi3 o_isi rfl G.f_isinstance (by rfl) (b_cons (b_var 0) (b_cons (DP.toB (b_ty rfl G.f_str (by rfl))) b_nil)))) (DP.toB (d_callB call_isi3 o_isi rfl G.f_isinstance (by rfl) (b_cons (b_var 1) (b_cons (DP.toB (b_ty rfl G.f_str (by rfl))) b_nil)))) (by rfl))))))) s_nil) (s_one (s_ret (DP.toE (d_and (d_callB call_isi3 o_isi rfl G.f_isinstance (by rfl) (b_cons (b_var 0) (b_cons (DP.toB (b_ty rfl G.f_int (by rfl))) b_nil))) (d_and (d_cmp (op_eq2 hr.units) o_eq (DP.toB (d_callB call_isi3 o_isi rfl G.f_isinstance (by rfl) (b_cons (b_var 0) (b_cons (DP.toB (b_ty rfl G.f_bool (by rfl))) b_nil)))) (DP.toB (d_callB call_isi3 o_isi rfl G.f_isinstance (by rfl) (b_cons (b_var 1) (b_cons (DP.toB (b_ty rfl G.f_bool (by rfl))) b_nil)))) (by rfl)) (d_one (d_cmp (op_eq2 hr.units) o_eq (b_var 0) (b_var 1) (by rfl))))))))))
theorem ok__law_alike {P : Program} {w : World} {K : PySem.W.Frag} {mg : Str → Option Value} {base : Heap} {f : Addr} {fd : FuncData} (G : Gs mg) (F : FnP K "_law_alike" s__law_alike f fd) (hm : mg "_law_alike" = some (.ref f))  : Cal P w K mg base 6 "_law_alike" 2 (F__law_alike 5) := ok__law_alike_ G F hm  5
/-! ### is_letter -/
abbrev s_is_letter : Stmt := topS 8
abbrev N_is_letter : List Str := ["value"]
def b_is_letter : DL.Env → DL.R Fl := (retS (withEnv (andV (appN isiD (aCons (gAny 0) (aCons (kc (.ty "str")) aNil))) (andV (bin eqD (appN lenD (aCons (gAny 0) aNil)) (kc (.int 1))) (bin (inB false) (gAny 0) (kc (.str "abcdefgh")))))))
def F_is_letter : List D → DL.R D := fnD 1 1 b_is_letter
theorem sc_is_letter : FnScope N_is_letter ["value"] (defScope s_is_letter) := ⟨rfl, rfl, rfl, by decide +kernel, rfl, by decide +kernel, by decide +kernel⟩
theorem ok_is_letter {P : Program} {w : World} {K : PySem.W.Frag} {mg : Str → Option Value} {base : Heap} {f : Addr} {fd : FuncData} (G : Gs mg) (F : FnP K "is_letter" s_is_letter f fd) (hm : mg "is_letter" = some (.ref f))  : Cal P w K mg base 1 "is_letter" 1 F_is_letter := by
  have S := sc_is_letter
  refine cal_of (N := N_is_letter) (ps := ["value"]) (b := b_is_letter) F S hm (by decide) (fun _ _ _ _ _ _ us hl => match us, hl with | [_], _ => rfl) fun cdv A outer s H E hr => ?_
  exact (s_one (s_ret (DP.toE (d_and (d_callB call_isi3 o_isi rfl G.f_isinstance (by rfl) (b_cons (b_var 0) (b_cons (DP.toB (b_ty rfl G.f_str (by rfl))) b_nil))) (d_and (d_cmp (op_eq2 hr.units) o_eq (DP.toB (d_callB call_len3 o_len rfl G.f_len (by rfl) (b_cons (b_var 0) b_nil))) (DP.toB d_int) (by rfl)) (d_one (d_cmp (op_in3 (u65 hr)) o_in (b_var 0) (DP.toB (d_gstr G.c_LETTERS rfl)) (by rfl))))))))
/-! ### check_film -/
abbrev s_check_film : Stmt := topS 9
abbrev N_check_film : List Str := ["value", "place", "sign"]
def b_check_film : DL.Env → DL.R Fl := (seqS (ifS (withEnv (orB (notB (tru (appN isiD (aCons (gAny 0) (aCons (kc (.ty "str")) aNil))))) (notB (tst (chn le2D le2D (kc (.int 1)) (appN lenD (aCons (gAny 0) aNil)) (kc (.int 200))))))) nvrS skipS) (forS (withEnv (itN enD (aCons (gSh 0) aNil))) (gTupD 2 (gsCons (gSet 1) (gsCons (gSet 2) gsNil))) (ifS (withEnv (notB (tru (callF 1 F_is_letter (aCons (gSh 2) aNil))))) nvrS skipS)))
def F_check_film : List D → DL.R D := fnD 3 1 b_check_film
theorem sc_check_film : FnScope N_check_film ["value"] (defScope s_check_film) := ⟨rfl, rfl, rfl, by decide +kernel, rfl, by decide +kernel, by decide +kernel⟩
theorem ok_check_film {P : Program} {w : World} {K : PySem.W.Frag} {mg : Str → Option Value} {base : Heap} {f : Addr} {fd : FuncData} (G : Gs mg) (F : FnP K "check_film" s_check_film f fd) (hm : mg "check_film" = some (.ref f)) (c_is_letter : Cal P w K mg base 1 "is_letter" 1 F_is_letter) : Cal P w K mg base 2 "check_film" 1 F_check_film := by
  have S := sc_check_film
  refine cal_of (N := N_check_film) (ps := ["value"]) (b := b_check_film) F S hm (by decide) (fun _ _ _ _ _ _ us hl => match us, hl with | [_], _ => rfl) fun cdv A outer s H E hr => ?_
  exact (s_cons (s_if (DT.toE (DW.t (w_or (t_not (t_tru (DP.toB (d_callB call_isi3 o_isi rfl G.f_isinstance (by rfl) (b_cons (b_var 0) (b_cons (DP.toB (b_ty rfl G.f_str (by rfl))) b_nil)))))) (w_or1 (t_not (t_chain (op_le2 hr.units0) (op_le2 hr.units0) o_le2 o_le2 (DP.toB d_int) (DP.toB (d_callB call_len3 o_len rfl G.f_len (by rfl) (b_cons (b_var 0) b_nil))) (DP.toB (d_gint G.c_MOST_LETTERS rfl)))))))) (s_one s_never) s_nil) (s_one (s_for (passes_of rfl) rfl (DIp.toI (p_en rfl G.f_enumerate (p_cons (d_var 0) p_nil))) (g_tup rfl (gs_cons (g_name S.nd (i := 1)) (gs_cons (g_name S.nd (i := 2)) gs_nil))) (s_one (s_if (DT.toE (t_not (t_tru (DP.toB (d_fn c_is_letter (hr.mono (by decide)) rfl (takes_of rfl rfl rfl rfl) (p_cons (d_var 2) p_nil)))))) (s_one s_never) s_nil)))))
/-! ### counts_of_block -/
abbrev s_counts_of_block : Stmt := topS 14
abbrev N_counts_of_block : List Str := ["film", "letter", "behind", "counts", "total", "place"]
def b_counts_of_block : DL.Env → DL.R Fl := (seqS (setO 3 (bin repD (mkL (aCons (kc (.int 0)) aNil)) (bin plusD (appN lenD (aCons (gAny 0) aNil)) (kc (.int 1))))) (seqS (setS 4 (withEnv (kc (.int 0)))) (seqS (forS (withEnv (itX (rvR (.int 0)) (appN lenD (aCons (gAny 0) aNil)))) (gSet 5) (ifS (withEnv (tst (bin eqD (bin ixD (gAny 0) (gAny 5)) (gAny 1)))) (seqS (augS 4 (intOp (fun _ _ => true) fun i j => i + j) (bin ixD (gAny 2) (bin plusD (gAny 5) (kc (.int 1))))) (itmS 3 (gAny 5) (gSh 4))) skipS)) (retO 3))))
def F_counts_of_block : List D → DL.R D := fnD 6 3 b_counts_of_block
theorem sc_counts_of_block : FnScope N_counts_of_block ["film", "letter", "behind"] (defScope s_counts_of_block) := ⟨rfl, rfl, rfl, by decide +kernel, rfl, by decide +kernel, by decide +kernel⟩
theorem ok_counts_of_block {P : Program} {w : World} {K : PySem.W.Frag} {mg : Str → Option Value} {base : Heap} {f : Addr} {fd : FuncData} (G : Gs mg) (F : FnP K "counts_of_block" s_counts_of_block f fd) (hm : mg "counts_of_block" = some (.ref f))  : Cal P w K mg base 1 "counts_of_block" 3 F_counts_of_block := by
  have S := sc_counts_of_block
  refine cal_of (N := N_counts_of_block) (ps := ["film", "letter", "behind"]) (b := b_counts_of_block) F S hm (by decide) (fun _ _ _ _ _ _ us hl => match us, hl with | [_, _, _], _ => rfl) fun cdv A outer s H E hr => ?_
  exact (s_cons (s_setO 3 S.nd (d_repF (d_lst (p_cons d_int p_nil)) (DP.toB (d_op op_plus o_plus (DP.toB (d_callB call_len3 o_len rfl G.f_len (by rfl) (b_cons (b_var 0) b_nil))) (DP.toB d_int))))) (s_cons (s_set 4 S.nd (DP.toE d_int)) (s_cons (s_for (passes_of rfl) rfl (DIp.toI (p_revR1 rfl G.f_reversed rfl G.f_range (DP.toB (d_callB call_len3 o_len rfl G.f_len (by rfl) (b_cons (b_var 0) b_nil))))) (g_name S.nd (i := 5)) (s_one (s_if (DT.toE (t_cmp (op_eq2 hr.units) o_eq (DP.toB (d_ix (b_var 0) (b_var 5))) (b_var 1) (by rfl))) (s_cons (s_aug 4 S.nd ip_add o_ipI (DP.toB (d_ix (b_var 2) (DP.toB (d_op op_plus o_plus (b_var 5) (DP.toB d_int)))))) (s_one (s_item 3 (d_var 4) (b_var 5)))) s_nil))) (s_one (s_retO 3)))))
/-! ### counts_behind -/
abbrev s_counts_behind : Stmt := topS 15
abbrev N_counts_behind : List Str := ["film", "goal", "table", "letter"]
def b_counts_behind : DL.Env → DL.R Fl := (seqS (setO 2 (mkL (aCons (bin plusD (bin repD (mkL (aCons (kc (.int 0)) aNil)) (appN lenD (aCons (gAny 0) aNil))) (mkL (aCons (kc (.int 1)) aNil))) aNil))) (seqS (forS (withEnv (itX revZ (gSh 1))) (gSet 3) (appS 2 (callF 3 F_counts_of_block (aCons (gSh 0) (aCons (gSh 3) (aCons (bin ixD (gAny 2) (un1 negD (kc (.int 1)))) aNil)))))) (seqS (rvsS 2) (retO 2))))
def F_counts_behind : List D → DL.R D := fnD 4 2 b_counts_behind
theorem sc_counts_behind : FnScope N_counts_behind ["film", "goal"] (defScope s_counts_behind) := ⟨rfl, rfl, rfl, by decide +kernel, rfl, by decide +kernel, by decide +kernel⟩
theorem ok_counts_behind {P : Program} {w : World} {K : PySem.W.Frag} {mg : Str → Option Value} {base : Heap} {f : Addr} {fd : FuncData} (G : Gs mg) (F : FnP K "counts_behind" s_counts_behind f fd) (hm : mg "counts_behind" = some (.ref f)) (c_counts_of_block : Cal P w K mg base 1 "counts_of_block" 3 F_counts_of_block) : Cal P w K mg base 2 "counts_behind" 2 F_counts_behind := by
  have S := sc_counts_behind
  refine cal_of (N := N_counts_behind) (ps := ["film", "goal"]) (b := b_counts_behind) F S hm (by decide) (fun _ _ _ _ _ _ us hl => match us, hl with | [_, _], _ => rfl) fun cdv A outer s H E hr => ?_
  exact (s_cons (s_setO 2 S.nd (d_lst (p_cons (d_op op_plus o_plus (DP.toB (DF.toP (d_repF (d_lst (p_cons d_int p_nil)) (DP.toB (d_callB call_len3 o_len rfl G.f_len (by rfl) (b_cons (b_var 0) b_nil)))))) (DP.toB (DF.toP (d_lst (p_cons d_int p_nil))))) p_nil))) (s_cons (s_for (passes_of rfl) rfl (DIp.toI (p_rev rfl G.f_reversed (d_var 1))) (g_name S.nd (i := 3)) (s_one (s_append 2 (d_fn c_counts_of_block (hr.mono (by decide)) rfl (takes_of rfl rfl rfl rfl) (p_cons (d_var 0) (p_cons (d_var 3) (p_cons (d_ix (b_var 2) (DP.toB (d_neg (DP.toB d_int)))) p_nil))))))) (s_cons (s_reverse 2) (s_one (s_retO 2)))))
/-! ### count_partings -/
abbrev s_count_partings : Stmt := topS 16
abbrev N_count_partings : List Str := ["film", "goal"]
def b_count_partings : DL.Env → DL.R Fl := (seqS (exprS (withEnv (callF 1 F_check_film (aCons (gSh 0) aNil)))) (seqS (exprS (withEnv (callF 1 F_check_film (aCons (gSh 1) aNil)))) (retS (withEnv (bin ixD (bin ixD (callF 2 F_counts_behind (aCons (gSh 0) (aCons (gSh 1) aNil))) (kc (.int 0))) (kc (.int 0)))))))
def F_count_partings : List D → DL.R D := fnD 2 2 b_count_partings
theorem sc_count_partings : FnScope N_count_partings ["film", "goal"] (defScope s_count_partings) := ⟨rfl, rfl, rfl, by decide +kernel, rfl, by decide +kernel, by decide +kernel⟩
theorem ok_count_partings {P : Program} {w : World} {K : PySem.W.Frag} {mg : Str → Option Value} {base : Heap} {f : Addr} {fd : FuncData} (G : Gs mg) (F : FnP K "count_partings" s_count_partings f fd) (hm : mg "count_partings" = some (.ref f)) (c_check_film : Cal P w K mg base 2 "check_film" 1 F_check_film) (c_counts_behind : Cal P w K mg base 2 "counts_behind" 2 F_counts_behind) : Cal P w K mg base 3 "count_partings" 2 F_count_partings := by
  have S := sc_count_partings
  refine cal_of (N := N_count_partings) (ps := ["film", "goal"]) (b := b_count_partings) F S hm (by decide) (fun _ _ _ _ _ _ us hl => match us, hl with | [_, _], _ => rfl) fun cdv A outer s H E hr => ?_
  exact (s_cons (s_expr (DP.toE (d_fn c_check_film (hr.mono (by decide)) rfl (takes_of rfl rfl rfl rfl) (p_cons (d_var 0) p_nil)))) (s_cons (s_expr (DP.toE (d_fn c_check_film (hr.mono (by decide)) rfl (takes_of rfl rfl rfl rfl) (p_cons (d_var 1) p_nil)))) (s_one (s_ret (DP.toE (d_ix (DP.toB (d_ix (DP.toB (d_fn c_counts_behind (hr.mono (by decide)) rfl (takes_of rfl rfl rfl rfl) (p_cons (d_var 0) (p_cons (d_var 1) p_nil)))) (DP.toB d_int))) (DP.toB d_int)))))))
/-! ### is_whole -/
abbrev s_is_whole : Stmt := topS 7
abbrev N_is_whole : List Str := ["value"]
def b_is_whole : DL.Env → DL.R Fl := (retS (withEnv (andV (appN isiD (aCons (gAny 0) (aCons (kc (.ty "int")) aNil))) (notV (appN isiD (aCons (gAny 0) (aCons (kc (.ty "bool")) aNil)))))))
def F_is_whole : List D → DL.R D := fnD 1 1 b_is_whole
theorem sc_is_whole : FnScope N_is_whole ["value"] (defScope s_is_whole) := ⟨rfl, rfl, rfl, by decide +kernel, rfl, by decide +kernel, by decide +kernel⟩
theorem ok_is_whole {P : Program} {w : World} {K : PySem.W.Frag} {mg : Str → Option Value} {base : Heap} {f : Addr} {fd : FuncData} (G : Gs mg) (F : FnP K "is_whole" s_is_whole f fd) (hm : mg "is_whole" = some (.ref f))  : Cal P w K mg base 1 "is_whole" 1 F_is_whole := by
  have S := sc_is_whole
  refine cal_of (N := N_is_whole) (ps := ["value"]) (b := b_is_whole) F S hm (by decide) (fun _ _ _ _ _ _ us hl => match us, hl with | [_], _ => rfl) fun cdv A outer s H E hr => ?_
  exact (s_one (s_ret (DP.toE (d_and (d_callB call_isi3 o_isi rfl G.f_isinstance (by rfl) (b_cons (b_var 0) (b_cons (DP.toB (b_ty rfl G.f_int (by rfl))) b_nil))) (d_one (d_not (d_callB call_isi3 o_isi rfl G.f_isinstance (by rfl) (b_cons (b_var 0) (b_cons (DP.toB (b_ty rfl G.f_bool (by rfl))) b_nil)))))))))
/-! ### check_rank -/
abbrev s_check_rank : Stmt := topS 10
abbrev N_check_rank : List Str := ["value"]
def b_check_rank : DL.Env → DL.R Fl := (ifS (withEnv (orB (notB (tru (callF 1 F_is_whole (aCons (gSh 0) aNil)))) (tst (bin ltD (gAny 0) (kc (.int 0)))))) nvrS skipS)
def F_check_rank : List D → DL.R D := fnD 1 1 b_check_rank
theorem sc_check_rank : FnScope N_check_rank ["value"] (defScope s_check_rank) := ⟨rfl, rfl, rfl, by decide +kernel, rfl, by decide +kernel, by decide +kernel⟩
theorem ok_check_rank {P : Program} {w : World} {K : PySem.W.Frag} {mg : Str → Option Value} {base : Heap} {f : Addr} {fd : FuncData} (G : Gs mg) (F : FnP K "check_rank" s_check_rank f fd) (hm : mg "check_rank" = some (.ref f)) (c_is_whole : Cal P w K mg base 1 "is_whole" 1 F_is_whole) : Cal P w K mg base 2 "check_rank" 1 F_check_rank := by
  have S := sc_check_rank
  refine cal_of (N := N_check_rank) (ps := ["value"]) (b := b_check_rank) F S hm (by decide) (fun _ _ _ _ _ _ us hl => match us, hl with | [_], _ => rfl) fun cdv A outer s H E hr => ?_
  exact (s_one (s_if (DT.toE (DW.t (w_or (t_not (t_tru (DP.toB (d_fn c_is_whole (hr.mono (by decide)) rfl (takes_of rfl rfl rfl rfl) (p_cons (d_var 0) p_nil))))) (w_or1 (t_cmp op_lt o_cmpI (b_var 0) (DP.toB d_int) (by rfl)))))) (s_one s_never) s_nil))
/-! ### places_from -/
abbrev s_places_from : Stmt := topS 12
abbrev N_places_from : List Str := ["film", "letter", "start", "place"]
def b_places_from : DL.Env → DL.R Fl := (retS (withEnv (lcD [("place", 3)] (itN rg2 (aCons (gAny 2) (aCons (appN lenD (aCons (gAny 0) aNil)) aNil))) (gSet 3) (tst (bin eqD (bin ixD (gAny 0) (gAny 3)) (gAny 1))) (gSh 3))))
def F_places_from : List D → DL.R D := fnD 4 3 b_places_from
theorem sc_places_from : FnScope N_places_from ["film", "letter", "start"] (defScope s_places_from) := ⟨rfl, rfl, rfl, by decide +kernel, rfl, by decide +kernel, by decide +kernel⟩
theorem ok_places_from {P : Program} {w : World} {K : PySem.W.Frag} {mg : Str → Option Value} {base : Heap} {f : Addr} {fd : FuncData} (G : Gs mg) (F : FnP K "places_from" s_places_from f fd) (hm : mg "places_from" = some (.ref f))  : Cal P w K mg base 1 "places_from" 3 F_places_from := by
  have S := sc_places_from
  refine cal_of (N := N_places_from) (ps := ["film", "letter", "start"]) (b := b_places_from) F S hm (by decide) (fun _ _ _ _ _ _ us hl => match us, hl with | [_, _, _], _ => rfl) fun cdv A outer s H E hr => ?_
  exact (s_one (s_ret (DP.toE (DF.toP (d_lc (own := [("place", 3)]) rfl S.nd (p_range2 rfl G.f_range (b_cons (b_var 2) (b_cons (DP.toB (d_callB call_len3 o_len rfl G.f_len (by rfl) (b_cons (b_var 0) b_nil))) b_nil))) (blkOk_by (by rfl)) (fun _ _ _ _ _ => (g_name S.nd (i := 3))) (fun _ _ _ _ _ => (c_one (t_cmp (op_eq2 hr.units) o_eq (DP.toB (d_ix (b_var 0) (b_var 3))) (b_var 1) (by rfl)))) (fun _ _ _ _ _ => (d_var 3)))))))
/-! ### parting_at -/
abbrev s_parting_at : Stmt := topS 17
abbrev N_parting_at : List Str := ["film", "goal", "rank", "table", "ahead", "parting", "start", "letter", "counts", "end"]
def b_parting_at : DL.Env → DL.R Fl := (seqS (exprS (withEnv (callF 1 F_check_film (aCons (gSh 0) aNil)))) (seqS (exprS (withEnv (callF 1 F_check_film (aCons (gSh 1) aNil)))) (seqS (exprS (withEnv (callF 1 F_check_rank (aCons (gSh 2) aNil)))) (seqS (setS 3 (withEnv (callF 2 F_counts_behind (aCons (gSh 0) (aCons (gSh 1) aNil))))) (seqS (ifS (withEnv (tst (bin geD (gAny 2) (bin ixD (bin ixD (gAny 3) (kc (.int 0))) (kc (.int 0)))))) (retS (withEnv (kc .non))) skipS) (seqS (setS 4 (withEnv (gSh 2))) (seqS (setO 5 (mkL aNil)) (seqS (setS 6 (withEnv (kc (.int 0)))) (seqS (forS (withEnv (itN zip2D (aCons (gSh 1) (aCons (sl3 slA (gAny 3) (oSome (kc (.int 1))) oNone) aNil)))) (gTupD 2 (gsCons (gSet 7) (gsCons (gSet 8) gsNil))) (forS (withEnv (itX zD (callF 3 F_places_from (aCons (gSh 0) (aCons (gSh 7) (aCons (gSh 6) aNil)))))) (gSet 9) (seqS (ifS (withEnv (tst (bin ltD (gAny 4) (bin ixD (gAny 8) (bin plusD (gAny 9) (kc (.int 1))))))) (seqS (appS 5 (gSh 9)) (seqS (setS 6 (withEnv (bin plusD (gAny 9) (kc (.int 1))))) brkS)) skipS) (augS 4 (intOp (fun _ _ => true) fun i j => i - j) (bin ixD (gAny 8) (bin plusD (gAny 9) (kc (.int 1)))))))) (retS (withEnv (appN tupC (aCons (gAny 5) aNil)))))))))))))
def F_parting_at : List D → DL.R D := fnD 10 3 b_parting_at
theorem sc_parting_at : FnScope N_parting_at ["film", "goal", "rank"] (defScope s_parting_at) := ⟨rfl, rfl, rfl, by decide +kernel, rfl, by decide +kernel, by decide +kernel⟩
theorem ok_parting_at {P : Program} {w : World} {K : PySem.W.Frag} {mg : Str → Option Value} {base : Heap} {f : Addr} {fd : FuncData} (G : Gs mg) (F : FnP K "parting_at" s_parting_at f fd) (hm : mg "parting_at" = some (.ref f)) (c_check_film : Cal P w K mg base 2 "check_film" 1 F_check_film) (c_check_rank : Cal P w K mg base 2 "check_rank" 1 F_check_rank) (c_counts_behind : Cal P w K mg base 2 "counts_behind" 2 F_counts_behind) (c_places_from : Cal P w K mg base 1 "places_from" 3 F_places_from) : Cal P w K mg base 3 "parting_at" 3 F_parting_at := by
  have S := sc_parting_at
  refine cal_of (N := N_parting_at) (ps := ["film", "goal", "rank"]) (b := b_parting_at) F S hm (by decide) (fun _ _ _ _ _ _ us hl => match us, hl with | [_, _, _], _ => rfl) fun cdv A outer s H E hr => ?_
  exact (s_cons (s_expr (DP.toE (d_fn c_check_film (hr.mono (by decide)) rfl (takes_of rfl rfl rfl rfl) (p_cons (d_var 0) p_nil)))) (s_cons (s_expr (DP.toE (d_fn c_check_film (hr.mono (by decide)) rfl (takes_of rfl rfl rfl rfl) (p_cons (d_var 1) p_nil)))) (s_cons (s_expr (DP.toE (d_fn c_check_rank (hr.mono (by decide)) rfl (takes_of rfl rfl rfl rfl) (p_cons (d_var 2) p_nil)))) (s_cons (s_set 3 S.nd (DP.toE (d_fn c_counts_behind (hr.mono (by decide)) rfl (takes_of rfl rfl rfl rfl) (p_cons (d_var 0) (p_cons (d_var 1) p_nil))))) (s_cons (s_if (DT.toE (t_cmp op_ge o_cmpI (b_var 2) (DP.toB (d_ix (DP.toB (d_ix (b_var 3) (DP.toB d_int))) (DP.toB d_int))) (by rfl))) (s_one (s_ret (DP.toE d_non))) s_nil) (s_cons (s_set 4 S.nd (DP.toE (d_var 2))) (s_cons (s_setO 5 S.nd (d_lst p_nil)) (s_cons (s_set 6 S.nd (DP.toE d_int)) (s_cons (s_for (passes_of rfl) rfl (DIp.toI (p_zip2 rfl G.f_zip (p_cons (d_var 1) (p_cons (d_slA (b_var 3) (do_some (DP.toB d_int)) do_none) p_nil)))) (g_tup rfl (gs_cons (g_name S.nd (i := 7)) (gs_cons (g_name S.nd (i := 8)) gs_nil))) (s_one (s_for (passes_of rfl) rfl (DIp.toI (p_any (d_fn c_places_from (hr.mono (by decide)) rfl (takes_of rfl rfl rfl rfl) (p_cons (d_var 0) (p_cons (d_var 7) (p_cons (d_var 6) p_nil)))))) (g_name S.nd (i := 9)) (s_cons (s_if (DT.toE (t_cmp op_lt o_cmpI (b_var 4) (DP.toB (d_ix (b_var 8) (DP.toB (d_op op_plus o_plus (b_var 9) (DP.toB d_int))))) (by rfl))) (s_cons (s_append 5 (d_var 9)) (s_cons (s_set 6 S.nd (DP.toE (d_op op_plus o_plus (b_var 9) (DP.toB d_int)))) (s_one s_break))) s_nil) (s_one (s_aug 4 S.nd ip_sub o_ipI (DP.toB (d_ix (b_var 8) (DP.toB (d_op op_plus o_plus (b_var 9) (DP.toB d_int))))))))))) (s_one (s_ret (DP.toE (d_callT call_tup3 o_tupc rfl G.f_tuple (by rfl) (b_cons (b_var 5) b_nil))))))))))))))
/-! ### is_parting_for -/
abbrev s_is_parting_for : Stmt := topS 13
abbrev N_is_parting_for : List Str := ["film", "goal", "value", "start", "letter", "end"]
def b_is_parting_for : DL.Env → DL.R Fl := (seqS (ifS (withEnv (orB (notB (tru (appN isiD (aCons (gAny 2) (aCons (kc (.ty "tuple")) aNil))))) (tst (bin neD (appN lenD (aCons (gAny 2) aNil)) (appN lenD (aCons (gAny 1) aNil)))))) (retS (withEnv (kc (.bl false)))) skipS) (seqS (setS 3 (withEnv (kc (.int 0)))) (seqS (forS (withEnv (itN zip2D (aCons (gSh 1) (aCons (gSh 2) aNil)))) (gTupD 2 (gsCons (gSet 4) (gsCons (gSet 5) gsNil))) (seqS (ifS (withEnv (orB (notB (tru (callF 1 F_is_whole (aCons (gSh 5) aNil)))) (notB (tst (chn le2D ltD (gAny 3) (gAny 5) (appN lenD (aCons (gAny 0) aNil))))))) (retS (withEnv (kc (.bl false)))) skipS) (seqS (ifS (withEnv (orB (tst (bin neD (bin ixD (gAny 0) (gAny 3)) (gAny 4))) (tst (bin neD (bin ixD (gAny 0) (gAny 5)) (gAny 4))))) (retS (withEnv (kc (.bl false)))) skipS) (setS 3 (withEnv (bin plusD (gAny 5) (kc (.int 1)))))))) (retS (withEnv (bin eqD (gAny 3) (appN lenD (aCons (gAny 0) aNil))))))))
def F_is_parting_for : List D → DL.R D := fnD 6 3 b_is_parting_for
theorem sc_is_parting_for : FnScope N_is_parting_for ["film", "goal", "value"] (defScope s_is_parting_for) := ⟨rfl, rfl, rfl, by decide +kernel, rfl, by decide +kernel, by decide +kernel⟩
theorem ok_is_parting_for {P : Program} {w : World} {K : PySem.W.Frag} {mg : Str → Option Value} {base : Heap} {f : Addr} {fd : FuncData} (G : Gs mg) (F : FnP K "is_parting_for" s_is_parting_for f fd) (hm : mg "is_parting_for" = some (.ref f)) (c_is_whole : Cal P w K mg base 1 "is_whole" 1 F_is_whole) : Cal P w K mg base 2 "is_parting_for" 3 F_is_parting_for := by
  have S := sc_is_parting_for
  refine cal_of (N := N_is_parting_for) (ps := ["film", "goal", "value"]) (b := b_is_parting_for) F S hm (by decide) (fun _ _ _ _ _ _ us hl => match us, hl with | [_, _, _], _ => rfl) fun cdv A outer s H E hr => ?_
  exact (s_cons (s_if (DT.toE (DW.t (w_or (t_not (t_tru (DP.toB (d_callB call_isi3 o_isi rfl G.f_isinstance (by rfl) (b_cons (b_var 2) (b_cons (DP.toB (b_ty rfl G.f_tuple (by rfl))) b_nil)))))) (w_or1 (t_cmp (op_ne2 hr.units) o_ne (DP.toB (d_callB call_len3 o_len rfl G.f_len (by rfl) (b_cons (b_var 2) b_nil))) (DP.toB (d_callB call_len3 o_len rfl G.f_len (by rfl) (b_cons (b_var 1) b_nil))) (by rfl)))))) (s_one (s_ret (DP.toE d_bl))) s_nil) (s_cons (s_set 3 S.nd (DP.toE d_int)) (s_cons (s_for (passes_of rfl) rfl (DIp.toI (p_zip2 rfl G.f_zip (p_cons (d_var 1) (p_cons (d_var 2) p_nil)))) (g_tup rfl (gs_cons (g_name S.nd (i := 4)) (gs_cons (g_name S.nd (i := 5)) gs_nil))) (s_cons (s_if (DT.toE (DW.t (w_or (t_not (t_tru (DP.toB (d_fn c_is_whole (hr.mono (by decide)) rfl (takes_of rfl rfl rfl rfl) (p_cons (d_var 5) p_nil))))) (w_or1 (t_not (t_chain (op_le2 hr.units0) op_lt o_le2 o_cmpI (b_var 3) (b_var 5) (DP.toB (d_callB call_len3 o_len rfl G.f_len (by rfl) (b_cons (b_var 0) b_nil))))))))) (s_one (s_ret (DP.toE d_bl))) s_nil) (s_cons (s_if (DT.toE (DW.t (w_or (t_cmp (op_ne2 hr.units) o_ne (DP.toB (d_ix (b_var 0) (b_var 3))) (b_var 4) (by rfl)) (w_or1 (t_cmp (op_ne2 hr.units) o_ne (DP.toB (d_ix (b_var 0) (b_var 5))) (b_var 4) (by rfl)))))) (s_one (s_ret (DP.toE d_bl))) s_nil) (s_one (s_set 3 S.nd (DP.toE (d_op op_plus o_plus (b_var 5) (DP.toB d_int)))))))) (s_one (s_ret (DP.toE (d_cmp (op_eq2 hr.units) o_eq (b_var 3) (DP.toB (d_callB call_len3 o_len rfl G.f_len (by rfl) (b_cons (b_var 0) b_nil))) (by rfl))))))))
/-! ### rank_of_parting -/
abbrev s_rank_of_parting : Stmt := topS 18
abbrev N_rank_of_parting : List Str := ["film", "goal", "value", "table", "ahead", "start", "letter", "counts", "chosen", "end"]
def b_rank_of_parting : DL.Env → DL.R Fl := (seqS (exprS (withEnv (callF 1 F_check_film (aCons (gSh 0) aNil)))) (seqS (exprS (withEnv (callF 1 F_check_film (aCons (gSh 1) aNil)))) (seqS (ifS (withEnv (notB (tru (callF 3 F_is_parting_for (aCons (gSh 0) (aCons (gSh 1) (aCons (gSh 2) aNil))))))) (retS (withEnv (kc .non))) skipS) (seqS (setS 3 (withEnv (callF 2 F_counts_behind (aCons (gSh 0) (aCons (gSh 1) aNil))))) (seqS (setS 4 (withEnv (kc (.int 0)))) (seqS (setS 5 (withEnv (kc (.int 0)))) (seqS (forS (withEnv (itN zip3D (aCons (gSh 1) (aCons (sl3 slA (gAny 3) (oSome (kc (.int 1))) oNone) (aCons (gSh 2) aNil))))) (gTupD 3 (gsCons (gSet 6) (gsCons (gSet 7) (gsCons (gSet 8) gsNil)))) (seqS (augS 4 (intOp (fun _ _ => true) fun i j => i + j) (appN sumD (aCons (lcD [("end", 9)] (itX zD (callF 3 F_places_from (aCons (gSh 0) (aCons (gSh 6) (aCons (gSh 5) aNil))))) (gSet 9) (tst (bin ltD (gAny 9) (gAny 8))) (bin ixD (gAny 7) (bin plusD (gAny 9) (kc (.int 1))))) aNil))) (setS 5 (withEnv (bin plusD (gAny 8) (kc (.int 1))))))) (retS (withEnv (gSh 4))))))))))
def F_rank_of_parting : List D → DL.R D := fnD 10 3 b_rank_of_parting
theorem sc_rank_of_parting : FnScope N_rank_of_parting ["film", "goal", "value"] (defScope s_rank_of_parting) := ⟨rfl, rfl, rfl, by decide +kernel, rfl, by decide +kernel, by decide +kernel⟩
theorem ok_rank_of_parting {P : Program} {w : World} {K : PySem.W.Frag} {mg : Str → Option Value} {base : Heap} {f : Addr} {fd : FuncData} (G : Gs mg) (F : FnP K "rank_of_parting" s_rank_of_parting f fd) (hm : mg "rank_of_parting" = some (.ref f)) (c_check_film : Cal P w K mg base 2 "check_film" 1 F_check_film) (c_is_parting_for : Cal P w K mg base 2 "is_parting_for" 3 F_is_parting_for) (c_counts_behind : Cal P w K mg base 2 "counts_behind" 2 F_counts_behind) (c_places_from : Cal P w K mg base 1 "places_from" 3 F_places_from) : Cal P w K mg base 3 "rank_of_parting" 3 F_rank_of_parting := by
  have S := sc_rank_of_parting
  refine cal_of (N := N_rank_of_parting) (ps := ["film", "goal", "value"]) (b := b_rank_of_parting) F S hm (by decide) (fun _ _ _ _ _ _ us hl => match us, hl with | [_, _, _], _ => rfl) fun cdv A outer s H E hr => ?_
  exact (s_cons (s_expr (DP.toE (d_fn c_check_film (hr.mono (by decide)) rfl (takes_of rfl rfl rfl rfl) (p_cons (d_var 0) p_nil)))) (s_cons (s_expr (DP.toE (d_fn c_check_film (hr.mono (by decide)) rfl (takes_of rfl rfl rfl rfl) (p_cons (d_var 1) p_nil)))) (s_cons (s_if (DT.toE (t_not (t_tru (DP.toB (d_fn c_is_parting_for (hr.mono (by decide)) rfl (takes_of rfl rfl rfl rfl) (p_cons (d_var 0) (p_cons (d_var 1) (p_cons (d_var 2) p_nil)))))))) (s_one (s_ret (DP.toE d_non))) s_nil) (s_cons (s_set 3 S.nd (DP.toE (d_fn c_counts_behind (hr.mono (by decide)) rfl (takes_of rfl rfl rfl rfl) (p_cons (d_var 0) (p_cons (d_var 1) p_nil))))) (s_cons (s_set 4 S.nd (DP.toE d_int)) (s_cons (s_set 5 S.nd (DP.toE d_int)) (s_cons (s_for (passes_of rfl) rfl (DIp.toI (p_zip3 rfl G.f_zip (p_cons (d_var 1) (p_cons (d_slA (b_var 3) (do_some (DP.toB d_int)) do_none) (p_cons (d_var 2) p_nil))))) (g_tup rfl (gs_cons (g_name S.nd (i := 6)) (gs_cons (g_name S.nd (i := 7)) (gs_cons (g_name S.nd (i := 8)) gs_nil)))) (s_cons (s_aug 4 S.nd ip_add o_ipI (DP.toB (d_callB (cr_sum2 rfl) o_sum rfl G.f_sum (by rfl) (b_cons (DP.toB (DF.toP (d_lc (own := [("end", 9)]) rfl S.nd (p_any (d_fn c_places_from (hr.mono (by decide)) rfl (takes_of rfl rfl rfl rfl) (p_cons (d_var 0) (p_cons (d_var 6) (p_cons (d_var 5) p_nil))))) (blkOk_by (by rfl)) (fun _ _ _ _ _ => (g_name S.nd (i := 9))) (fun _ _ _ _ _ => (c_one (t_cmp op_lt o_cmpI (b_var 9) (b_var 8) (by rfl)))) (fun _ _ _ _ _ => (d_ix (b_var 7) (DP.toB (d_op op_plus o_plus (b_var 9) (DP.toB d_int)))))))) b_nil)))) (s_one (s_set 5 S.nd (DP.toE (d_op op_plus o_plus (b_var 8) (DP.toB d_int))))))) (s_one (s_ret (DP.toE (d_var 4)))))))))))
/-! ### law -/
abbrev s_law : Stmt := topS 27
abbrev N_law : List Str := ["script", "row", "film", "goal", "some", "rank", "value", "many", "size", "ways", "one", "far", "told"]
def b_law : DL.Env → DL.R Fl := (seqS (setO 1 (mkL (aCons (gSh 0) (aCons (kc (.int 0)) (aCons (kc (.int 5003)) (aCons (kc (.int 0)) aNil)))))) (seqS (setS 2 (callIO 1 2 F__law_film (aConsE (withEnv (kc (.int 10))) (aConsE (binE plusD (withEnv (kc (.int 1))) (callIO 1 1 F__law_taken (withEnv (aCons (kc (.int 3)) aNil)))) (withEnv aNil))))) (seqS (setS 3 (callIO 1 1 F__law_goal (withEnv (aCons (gSh 2) aNil)))) (seqS (setS 4 (withEnv (callF 2 F__law_partings (aCons (gSh 2) (aCons (gSh 3) aNil))))) (seqS (ifS (withEnv (notB (tru (callF 2 (F__law_alike 5) (aCons (callF 2 F_count_partings (aCons (gSh 2) (aCons (gSh 3) aNil))) (aCons (appN lenD (aCons (gAny 4) aNil)) aNil)))))) (retS (withEnv (kc (.bl false)))) skipS) (seqS (setS 5 (callIO 1 1 F__law_taken (withEnv (aCons (bin plusD (appN lenD (aCons (gAny 4) aNil)) (kc (.int 2))) aNil)))) (seqS (ifS (withEnv (notB (tru (callF 2 (F__law_alike 5) (aCons (callF 3 F_parting_at (aCons (gSh 2) (aCons (gSh 3) (aCons (gSh 5) aNil)))) (aCons (ifV (tst (bin ltD (gAny 5) (appN lenD (aCons (gAny 4) aNil)))) (bin ixD (gAny 4) (gAny 5)) (kc .non)) aNil)))))) (retS (withEnv (kc (.bl false)))) skipS) (seqS (setS 6 (ifVE (withEnv (tst (bin neD (gAny 4) (mkL aNil)))) (callIO 1 1 F__law_pick (withEnv (aCons (gSh 4) aNil))) (withEnv (bin mulTD (mkT (aCons (kc (.int 0)) aNil)) (appN lenD (aCons (gAny 3) aNil)))))) (seqS (ifS (withEnv (notB (tru (callF 2 (F__law_alike 5) (aCons (callF 3 F_rank_of_parting (aCons (gSh 2) (aCons (gSh 3) (aCons (gSh 6) aNil)))) (aCons (ifV (tst (bin (inB false) (gAny 6) (gAny 4))) (mthL indexLD (gAny 4) (aCons (gAny 6) aNil)) (kc .non)) aNil)))))) (retS (withEnv (kc (.bl false)))) skipS) (seqS (parS 7 8 (aConsE (binE plusD (withEnv (kc (.int 1))) (callIO 1 1 F__law_taken (withEnv (aCons (kc (.int 199)) aNil)))) (withEnv (aCons (kc (.int 1)) aNil)))) (seqS (setS 8 (binE plusD (withEnv (kc (.int 1))) (callIO 1 1 F__law_taken (withEnv (aCons (gSh 7) aNil))))) (seqS (setS 9 (withEnv (kc (.int 1)))) (seqS (forS (withEnv (itN rg1 (aCons (bin subD (gAny 8) (kc (.int 1))) aNil))) (gSet 10) (setS 9 (withEnv (bin fdivD (bin mulD (gAny 9) (bin subD (bin subD (gAny 7) (kc (.int 1))) (gAny 10))) (bin plusD (gAny 10) (kc (.int 1))))))) (seqS (ifS (withEnv (tst (bin neD (callF 2 F_count_partings (aCons (bin mulSD (kc (.str "a")) (gAny 7)) (aCons (bin mulSD (kc (.str "a")) (gAny 8)) aNil))) (gAny 9)))) (retS (withEnv (kc (.bl false)))) skipS) (seqS (setS 11 (binE modD (binE plusD (binE mulD (callIO 1 1 F__law_taken (withEnv (aCons (kc (.int 9999)) aNil))) (withEnv (kc (.int 7919)))) (callIO 1 1 F__law_taken (withEnv (aCons (kc (.int 9999)) aNil)))) (withEnv (gSh 9)))) (seqS (setS 12 (withEnv (callF 3 F_parting_at (aCons (bin mulSD (kc (.str "a")) (gAny 7)) (aCons (bin mulSD (kc (.str "a")) (gAny 8)) (aCons (gSh 11) aNil)))))) (retS (withEnv (andV (bin eqD (callF 3 F_rank_of_parting (aCons (bin mulSD (kc (.str "a")) (gAny 7)) (aCons (bin mulSD (kc (.str "a")) (gAny 8)) (aCons (gSh 12) aNil)))) (gAny 11)) (bin eqD (appN lenD (aCons (gAny 12) aNil)) (gAny 8)))))))))))))))))))))
def F_law : List D → DL.R D := fnD 13 1 b_law
theorem sc_law : FnScope N_law ["script"] (defScope s_law) := ⟨rfl, rfl, rfl, by decide +kernel, rfl, by decide +kernel, by decide +kernel⟩
theorem law_fn {P : Program} {w : World} {K : PySem.W.Frag} {mg : Str → Option Value} {base : Heap} {f : Addr} {fd : FuncData} (G : Gs mg) (F : FnP K "law" s_law f fd) (c__law_film : CalIO P w K mg base 2 "_law_film" 2 F__law_film) (c__law_taken : CalIO P w K mg base 1 "_law_taken" 1 F__law_taken) (c__law_goal : CalIO P w K mg base 4 "_law_goal" 1 F__law_goal) (c__law_partings : Cal P w K mg base 1 "_law_partings" 2 F__law_partings) (c__law_alike : Cal P w K mg base 6 "_law_alike" 2 (F__law_alike 5)) (c_count_partings : Cal P w K mg base 3 "count_partings" 2 F_count_partings) (c_parting_at : Cal P w K mg base 3 "parting_at" 3 F_parting_at) (c__law_pick : CalIO P w K mg base 2 "_law_pick" 1 F__law_pick) (c_rank_of_parting : Cal P w K mg base 3 "rank_of_parting" 3 F_rank_of_parting) : FnOk P w K mg base (L2.CX P w) 7 f fd ["script"] (SpF K mg 1 F_law) := by
  have S := sc_law
  refine fn_ok (N := N_law) (b := b_law) F S (by decide) fun cdv A outer s H E hr => ?_
  exact (s_cons (s_setO 1 S.nd (d_lst (p_cons (d_var 0) (p_cons d_int (p_cons d_int (p_cons d_int p_nil)))))) (s_cons (s_set 2 S.nd (e_fnIO 1 c__law_film (hr.mono (by decide)) rfl (takes_of rfl rfl rfl rfl) (e_cons (DP.toE d_int) (e_cons (e_op op_plus o_plus (DP.toE d_int) (e_fnIO 1 c__law_taken (hr.mono (by decide)) rfl (takes_of rfl rfl rfl rfl) (DPs.toE (p_cons d_int p_nil)))) (DPs.toE p_nil))))) (s_cons (s_set 3 S.nd (e_fnIO 1 c__law_goal (hr.mono (by decide)) rfl (takes_of rfl rfl rfl rfl) (DPs.toE (p_cons (d_var 2) p_nil)))) (s_cons (s_set 4 S.nd (DP.toE (d_fn c__law_partings (hr.mono (by decide)) rfl (takes_of rfl rfl rfl rfl) (p_cons (d_var 2) (p_cons (d_var 3) p_nil))))) (s_cons (s_if (DT.toE (t_not (t_tru (DP.toB (d_fn c__law_alike (hr.mono (by decide)) rfl (takes_of rfl rfl rfl rfl) (p_cons (d_fn c_count_partings (hr.mono (by decide)) rfl (takes_of rfl rfl rfl rfl) (p_cons (d_var 2) (p_cons (d_var 3) p_nil))) (p_cons (d_callB call_len3 o_len rfl G.f_len (by rfl) (b_cons (b_var 4) b_nil)) p_nil))))))) (s_one (s_ret (DP.toE d_bl))) s_nil) (s_cons (s_set 5 S.nd (e_fnIO 1 c__law_taken (hr.mono (by decide)) rfl (takes_of rfl rfl rfl rfl) (DPs.toE (p_cons (d_op op_plus o_plus (DP.toB (d_callB call_len3 o_len rfl G.f_len (by rfl) (b_cons (b_var 4) b_nil))) (DP.toB d_int)) p_nil)))) (s_cons (s_if (DT.toE (t_not (t_tru (DP.toB (d_fn c__law_alike (hr.mono (by decide)) rfl (takes_of rfl rfl rfl rfl) (p_cons (d_fn c_parting_at (hr.mono (by decide)) rfl (takes_of rfl rfl rfl rfl) (p_cons (d_var 2) (p_cons (d_var 3) (p_cons (d_var 5) p_nil)))) (p_cons (d_if (t_cmp op_lt o_cmpI (b_var 5) (DP.toB (d_callB call_len3 o_len rfl G.f_len (by rfl) (b_cons (b_var 4) b_nil))) (by rfl)) (d_ix (b_var 4) (b_var 5)) d_non) p_nil))))))) (s_one (s_ret (DP.toE d_bl))) s_nil) (s_cons (s_set 6 S.nd (e_if (DT.toE (t_cmp (op_ne2 hr.units) o_ne (b_var 4) (DP.toB (DF.toP (d_lst p_nil))) (by rfl))) (e_fnIO 1 c__law_pick (hr.mono (by decide)) rfl (takes_of rfl rfl rfl rfl) (DPs.toE (p_cons (d_var 4) p_nil))) (DP.toE (d_op op_mulT o_mulT (DP.toB (d_tup (p_cons d_int p_nil))) (DP.toB (d_callB call_len3 o_len rfl G.f_len (by rfl) (b_cons (b_var 3) b_nil))))))) (s_cons (s_if (DT.toE (t_not (t_tru (DP.toB (d_fn c__law_alike (hr.mono (by decide)) rfl (takes_of rfl rfl rfl rfl) (p_cons (d_fn c_rank_of_parting (hr.mono (by decide)) rfl (takes_of rfl rfl rfl rfl) (p_cons (d_var 2) (p_cons (d_var 3) (p_cons (d_var 6) p_nil)))) (p_cons (d_if (t_cmp (op_in3 (u65 hr)) o_in (b_var 6) (b_var 4) (by rfl)) (d_ml PySem.F.slot_list_index PySem.F.type_list_index (mt_indexD (u65 hr)) o_indexL (b_var 4) (b_cons (b_var 6) b_nil)) d_non) p_nil))))))) (s_one (s_ret (DP.toE d_bl))) s_nil) (s_cons (s_par 7 8 rfl S.nd (e_cons (e_op op_plus o_plus (DP.toE d_int) (e_fnIO 1 c__law_taken (hr.mono (by decide)) rfl (takes_of rfl rfl rfl rfl) (DPs.toE (p_cons d_int p_nil)))) (DPs.toE (p_cons d_int p_nil)))) (s_cons (s_set 8 S.nd (e_op op_plus o_plus (DP.toE d_int) (e_fnIO 1 c__law_taken (hr.mono (by decide)) rfl (takes_of rfl rfl rfl rfl) (DPs.toE (p_cons (d_var 7) p_nil))))) (s_cons (s_set 9 S.nd (DP.toE d_int)) (s_cons (s_for (passes_of rfl) rfl (DIp.toI (p_range1 rfl G.f_range (b_cons (DP.toB (d_op op_sub o_sub (b_var 8) (DP.toB d_int))) b_nil))) (g_name S.nd (i := 10)) (s_one (s_set 9 S.nd (DP.toE (d_op op_fdiv o_fdiv (DP.toB (d_op op_mul o_mul (b_var 9) (DP.toB (d_op op_sub o_sub (DP.toB (d_op op_sub o_sub (b_var 7) (DP.toB d_int))) (b_var 10))))) (DP.toB (d_op op_plus o_plus (b_var 10) (DP.toB d_int)))))))) (s_cons (s_if (DT.toE (t_cmp (op_ne2 hr.units) o_ne (DP.toB (d_fn c_count_partings (hr.mono (by decide)) rfl (takes_of rfl rfl rfl rfl) (p_cons (d_op op_mulS o_mulS (DP.toB d_str) (b_var 7)) (p_cons (d_op op_mulS o_mulS (DP.toB d_str) (b_var 8)) p_nil)))) (b_var 9) (by rfl))) (s_one (s_ret (DP.toE d_bl))) s_nil) (s_cons (s_set 11 S.nd (e_op op_mod o_mod (e_op op_plus o_plus (e_op op_mul o_mul (e_fnIO 1 c__law_taken (hr.mono (by decide)) rfl (takes_of rfl rfl rfl rfl) (DPs.toE (p_cons d_int p_nil))) (DP.toE d_int)) (e_fnIO 1 c__law_taken (hr.mono (by decide)) rfl (takes_of rfl rfl rfl rfl) (DPs.toE (p_cons d_int p_nil)))) (DP.toE (d_var 9)))) (s_cons (s_set 12 S.nd (DP.toE (d_fn c_parting_at (hr.mono (by decide)) rfl (takes_of rfl rfl rfl rfl) (p_cons (d_op op_mulS o_mulS (DP.toB d_str) (b_var 7)) (p_cons (d_op op_mulS o_mulS (DP.toB d_str) (b_var 8)) (p_cons (d_var 11) p_nil)))))) (s_one (s_ret (DP.toE (d_and (d_cmp (op_eq2 hr.units) o_eq (DP.toB (d_fn c_rank_of_parting (hr.mono (by decide)) rfl (takes_of rfl rfl rfl rfl) (p_cons (d_op op_mulS o_mulS (DP.toB d_str) (b_var 7)) (p_cons (d_op op_mulS o_mulS (DP.toB d_str) (b_var 8)) (p_cons (d_var 12) p_nil))))) (b_var 11) (by rfl)) (d_one (d_cmp (op_eq2 hr.units) o_eq (DP.toB (d_callB call_len3 o_len rfl G.f_len (by rfl) (b_cons (b_var 12) b_nil))) (b_var 8) (by rfl)))))))))))))))))))))))
end LW

namespace LW
open PySem DL PT


/-! ### what the defs answer -/
def Film (f : List Nat) : Prop := f ≠ [] ∧ f.length ≤ 200 ∧ ∀ c ∈ f, 97 ≤ c ∧ c ≤ 104
theorem in_letters {c : Nat} (h : 97 ≤ c ∧ c ≤ 104) : inB false (tx [c]) (.str "abcdefgh") = some (.bl true) := by
  have : c = 97 ∨ c = 98 ∨ c = 99 ∨ c = 100 ∨ c = 101 ∨ c = 102 ∨ c = 103 ∨ c = 104 := by omega
  have e : inStr (mkS [c]) "abcdefgh" = true := by
    rcases this with e | e | e | e | e | e | e | e <;> subst e <;> decide +kernel
  rw [tx_eq]
  unfold inB inD
  simp only [Option.map_some, e]
  rfl
theorem is_letter_ok {c : Nat} (h : 97 ≤ c ∧ c ≤ 104) : F_is_letter [tx [c]] = .ok (.bl true) := by
  have e1 : lenD [tx [c]] = some (.int 1) := len_tx (l := [c]) (by simp)
  refine fnD_rt rfl (ret_p (r := [.sh (tx [c])]) ?_)
  simp (disch := first | omega | (simp; done) | (simp; omega)) [DL.withEnv, DL.tst, DL.tstE, DL.tru, DL.truE, DL.bin, DL.binE, DL.appN, DL.appNE, DL.aCons, DL.aNil, DL.aConsE, DL.kc, DL.itN, DL.itX, DL.un1, DL.notB, DL.orB, DL.andB, DL.notV, DL.andV, DL.orV, DL.ifV, DL.chn, DL.oNone, DL.oSome, DL.sl3, DL.mthV, DL.mkT, DL.mkTE, DL.mkL, DL.yesB, DL.gSh_eq, DL.gAny_eq, DL.gS_sh, DL.gA_sh, DL.gA_own, DL.gA_io, DL.ownL_eq, DL.oL_own, DL.oL_io, DL.put_own, DL.put_io, DL.bind_ok, DL.ofO_some, DL.at_ok, DL.ne_ok, DL.asB_bl', DL.asI_int', DL.tru_bl, DL.tru_int, DL.tru_lst, DL.len_tx, DL.len_lst, DL.len_tup, DL.ix_tx, DL.ix_lst, DL.ix_tup, DL.sl_tx, DL.sl_lst, DL.sl_tup, DL.plus_tx, DL.plus_int, DL.plus_lst, DL.plus_tup, DL.cat_lst, DL.rep_lst1, DL.zD_tx, DL.zD_lst, DL.zD_tup, DL.rev_tx, DL.en_tx, DL.asStr_tx, DL.tup_lst, DL.lst_tup, DL.isi_tx, DL.isi_int, DL.isi_intb, DL.isi_tt, DL.isi_lt, DL.sub_int', DL.add_ip, DL.sub_ip, DL.mul_int', DL.lt_int, DL.gt_int, DL.ge_int, DL.le_int, DL.eq_int, DL.ne_int, DL.eq_tx, DL.ne_tx, DL.isn_int, DL.isn_non, DL.isb, DL.neg_int, DL.int_int, DL.atI_nat, DL.atI_zero, DL.atI_one, DL.atI_two, DL.atI_three, DL.atI_succ, DL.atI_last, DL.cut_to, DL.cut_from, DL.cut_both, DL.cut_butlast, PySem.sizeLine_eq, DL.sum_nl, DL.sum_nt, DL.gSet, DL.gTupD, DL.gsCons, DL.gsNil, DL.ini, DL.setS, e1, in_letters h]
theorem check_film_ok {f : List Nat} (h : Film f) : F_check_film [tx f] = .ok .non := by
  obtain ⟨h0, h1, h2⟩ := h
  have hl : 0 < f.length := List.length_pos_iff.mpr h0
  obtain ⟨r', e, _⟩ := for_inv (g := gTupD 2 (gsCons (gSet 1) (gsCons (gSet 2) gsNil))) (b := ifS (withEnv (notB (tru (callF 1 F_is_letter (aCons (gSh 2) aNil))))) nvrS skipS)
    (items := (f.zipIdx).map fun p => D.tup [.int (p.2 : Nat), tx [p.1]]) (r := [.sh (tx f), .un, .un]) (fun i r => ∃ a b, r = [.sh (tx f), a, b]) ⟨_, _, rfl⟩ (fun i x r e hI => by
      obtain ⟨a, b, er⟩ := hI
      subst er
      rw [List.getElem?_map, List.getElem?_zipIdx] at e
      cases q : f[i]? with
      | none => rw [q] at e; cases e
      | some c =>
        rw [q] at e
        simp only [Option.map_some, Option.some.injEq] at e
        subst e
        have hc := h2 c (List.mem_of_getElem? q)
        refine ⟨_, _, rfl, if_n (cond_p (b := false) ?_) rfl, ⟨.sh (.int ((0 + i : Nat) : Int)), .sh (tx [c]), rfl⟩⟩
        have e1 : callF 1 F_is_letter (aCons (gSh 2) aNil) [.sh (tx f), .sh (.int ((0 + i : Nat) : Int)), .sh (tx [c])] = .ok (.bl true) := call_p (ds := [tx [c]]) rfl rfl (is_letter_ok hc)
        simp (disch := first | omega | (simp; done) | (simp; omega)) [DL.withEnv, DL.tst, DL.tstE, DL.tru, DL.truE, DL.bin, DL.binE, DL.appN, DL.appNE, DL.aCons, DL.aNil, DL.aConsE, DL.kc, DL.itN, DL.itX, DL.un1, DL.notB, DL.orB, DL.andB, DL.notV, DL.andV, DL.orV, DL.ifV, DL.chn, DL.oNone, DL.oSome, DL.sl3, DL.mthV, DL.mkT, DL.mkTE, DL.mkL, DL.yesB, DL.gSh_eq, DL.gAny_eq, DL.gS_sh, DL.gA_sh, DL.gA_own, DL.gA_io, DL.ownL_eq, DL.oL_own, DL.oL_io, DL.put_own, DL.put_io, DL.bind_ok, DL.ofO_some, DL.at_ok, DL.ne_ok, DL.asB_bl', DL.asI_int', DL.tru_bl, DL.tru_int, DL.tru_lst, DL.len_tx, DL.len_lst, DL.len_tup, DL.ix_tx, DL.ix_lst, DL.ix_tup, DL.sl_tx, DL.sl_lst, DL.sl_tup, DL.plus_tx, DL.plus_int, DL.plus_lst, DL.plus_tup, DL.cat_lst, DL.rep_lst1, DL.zD_tx, DL.zD_lst, DL.zD_tup, DL.rev_tx, DL.en_tx, DL.asStr_tx, DL.tup_lst, DL.lst_tup, DL.isi_tx, DL.isi_int, DL.isi_intb, DL.isi_tt, DL.isi_lt, DL.sub_int', DL.add_ip, DL.sub_ip, DL.mul_int', DL.lt_int, DL.gt_int, DL.ge_int, DL.le_int, DL.eq_int, DL.ne_int, DL.eq_tx, DL.ne_tx, DL.isn_int, DL.isn_non, DL.isb, DL.neg_int, DL.int_int, DL.atI_nat, DL.atI_zero, DL.atI_one, DL.atI_two, DL.atI_three, DL.atI_succ, DL.atI_last, DL.cut_to, DL.cut_from, DL.cut_both, DL.cut_butlast, PySem.sizeLine_eq, DL.sum_nl, DL.sum_nt, DL.gSet, DL.gTupD, DL.gsCons, DL.gsNil, DL.ini, DL.setS, e1, Nat.zero_add]
        rw [Nat.zero_add] at e1
        simp (disch := first | omega | (simp; done) | (simp; omega)) [DL.withEnv, DL.tst, DL.tstE, DL.tru, DL.truE, DL.bin, DL.binE, DL.appN, DL.appNE, DL.aCons, DL.aNil, DL.aConsE, DL.kc, DL.itN, DL.itX, DL.un1, DL.notB, DL.orB, DL.andB, DL.notV, DL.andV, DL.orV, DL.ifV, DL.chn, DL.oNone, DL.oSome, DL.sl3, DL.mthV, DL.mkT, DL.mkTE, DL.mkL, DL.yesB, DL.gSh_eq, DL.gAny_eq, DL.gS_sh, DL.gA_sh, DL.gA_own, DL.gA_io, DL.ownL_eq, DL.oL_own, DL.oL_io, DL.put_own, DL.put_io, DL.bind_ok, DL.ofO_some, DL.at_ok, DL.ne_ok, DL.asB_bl', DL.asI_int', DL.tru_bl, DL.tru_int, DL.tru_lst, DL.len_tx, DL.len_lst, DL.len_tup, DL.ix_tx, DL.ix_lst, DL.ix_tup, DL.sl_tx, DL.sl_lst, DL.sl_tup, DL.plus_tx, DL.plus_int, DL.plus_lst, DL.plus_tup, DL.cat_lst, DL.rep_lst1, DL.zD_tx, DL.zD_lst, DL.zD_tup, DL.rev_tx, DL.en_tx, DL.asStr_tx, DL.tup_lst, DL.lst_tup, DL.isi_tx, DL.isi_int, DL.isi_intb, DL.isi_tt, DL.isi_lt, DL.sub_int', DL.add_ip, DL.sub_ip, DL.mul_int', DL.lt_int, DL.gt_int, DL.ge_int, DL.le_int, DL.eq_int, DL.ne_int, DL.eq_tx, DL.ne_tx, DL.isn_int, DL.isn_non, DL.isb, DL.neg_int, DL.int_int, DL.atI_nat, DL.atI_zero, DL.atI_one, DL.atI_two, DL.atI_three, DL.atI_succ, DL.atI_last, DL.cut_to, DL.cut_from, DL.cut_both, DL.cut_butlast, PySem.sizeLine_eq, DL.sum_nl, DL.sum_nt, DL.gSet, DL.gTupD, DL.gsCons, DL.gsNil, DL.ini, DL.setS, e1])
  refine fnD_nx (r1 := r') rfl (seq_nx (r1 := [.sh (tx f), .un, .un]) (if_n (cond_p (b := false) ?_) rfl) (for_p (items := _) ?_ e))
  · have p1 : (1 : Int) ≤ (f.length : Int) := by omega
    have p2 : (f.length : Int) ≤ 200 := by omega
    simp (disch := first | omega | (simp; done) | (simp; omega)) [DL.withEnv, DL.tst, DL.tstE, DL.tru, DL.truE, DL.bin, DL.binE, DL.appN, DL.appNE, DL.aCons, DL.aNil, DL.aConsE, DL.kc, DL.itN, DL.itX, DL.un1, DL.notB, DL.orB, DL.andB, DL.notV, DL.andV, DL.orV, DL.ifV, DL.chn, DL.oNone, DL.oSome, DL.sl3, DL.mthV, DL.mkT, DL.mkTE, DL.mkL, DL.yesB, DL.gSh_eq, DL.gAny_eq, DL.gS_sh, DL.gA_sh, DL.gA_own, DL.gA_io, DL.ownL_eq, DL.oL_own, DL.oL_io, DL.put_own, DL.put_io, DL.bind_ok, DL.ofO_some, DL.at_ok, DL.ne_ok, DL.asB_bl', DL.asI_int', DL.tru_bl, DL.tru_int, DL.tru_lst, DL.len_tx, DL.len_lst, DL.len_tup, DL.ix_tx, DL.ix_lst, DL.ix_tup, DL.sl_tx, DL.sl_lst, DL.sl_tup, DL.plus_tx, DL.plus_int, DL.plus_lst, DL.plus_tup, DL.cat_lst, DL.rep_lst1, DL.zD_tx, DL.zD_lst, DL.zD_tup, DL.rev_tx, DL.en_tx, DL.asStr_tx, DL.tup_lst, DL.lst_tup, DL.isi_tx, DL.isi_int, DL.isi_intb, DL.isi_tt, DL.isi_lt, DL.sub_int', DL.add_ip, DL.sub_ip, DL.mul_int', DL.lt_int, DL.gt_int, DL.ge_int, DL.le_int, DL.eq_int, DL.ne_int, DL.eq_tx, DL.ne_tx, DL.isn_int, DL.isn_non, DL.isb, DL.neg_int, DL.int_int, DL.atI_nat, DL.atI_zero, DL.atI_one, DL.atI_two, DL.atI_three, DL.atI_succ, DL.atI_last, DL.cut_to, DL.cut_from, DL.cut_both, DL.cut_butlast, PySem.sizeLine_eq, DL.sum_nl, DL.sum_nt, DL.gSet, DL.gTupD, DL.gsCons, DL.gsNil, DL.ini, DL.setS, p1, p2]
  · simp (disch := first | omega | (simp; done) | (simp; omega)) [DL.withEnv, DL.tst, DL.tstE, DL.tru, DL.truE, DL.bin, DL.binE, DL.appN, DL.appNE, DL.aCons, DL.aNil, DL.aConsE, DL.kc, DL.itN, DL.itX, DL.un1, DL.notB, DL.orB, DL.andB, DL.notV, DL.andV, DL.orV, DL.ifV, DL.chn, DL.oNone, DL.oSome, DL.sl3, DL.mthV, DL.mkT, DL.mkTE, DL.mkL, DL.yesB, DL.gSh_eq, DL.gAny_eq, DL.gS_sh, DL.gA_sh, DL.gA_own, DL.gA_io, DL.ownL_eq, DL.oL_own, DL.oL_io, DL.put_own, DL.put_io, DL.bind_ok, DL.ofO_some, DL.at_ok, DL.ne_ok, DL.asB_bl', DL.asI_int', DL.tru_bl, DL.tru_int, DL.tru_lst, DL.len_tx, DL.len_lst, DL.len_tup, DL.ix_tx, DL.ix_lst, DL.ix_tup, DL.sl_tx, DL.sl_lst, DL.sl_tup, DL.plus_tx, DL.plus_int, DL.plus_lst, DL.plus_tup, DL.cat_lst, DL.rep_lst1, DL.zD_tx, DL.zD_lst, DL.zD_tup, DL.rev_tx, DL.en_tx, DL.asStr_tx, DL.tup_lst, DL.lst_tup, DL.isi_tx, DL.isi_int, DL.isi_intb, DL.isi_tt, DL.isi_lt, DL.sub_int', DL.add_ip, DL.sub_ip, DL.mul_int', DL.lt_int, DL.gt_int, DL.ge_int, DL.le_int, DL.eq_int, DL.ne_int, DL.eq_tx, DL.ne_tx, DL.isn_int, DL.isn_non, DL.isb, DL.neg_int, DL.int_int, DL.atI_nat, DL.atI_zero, DL.atI_one, DL.atI_two, DL.atI_three, DL.atI_succ, DL.atI_last, DL.cut_to, DL.cut_from, DL.cut_both, DL.cut_butlast, PySem.sizeLine_eq, DL.sum_nl, DL.sum_nt, DL.gSet, DL.gTupD, DL.gsCons, DL.gsNil, DL.ini, DL.setS]

/-! counts -/
def tb (G : List Nat → Nat) (F : List Nat) : D := .lst ((List.range (F.length + 1)).map fun p => D.int (G (F.drop p) : Nat))
def cnt (c : Nat) (G : List Nat → Nat) (F : List Nat) (i : Nat) : List D := (List.range (F.length + 1)).map fun p => D.int ((if p < F.length - i then 0 else blk c G (F.drop p) : Nat) : Int)
theorem cnt_zero (c : Nat) (G : List Nat → Nat) (F : List Nat) : cnt c G F 0 = List.replicate (F.length + 1) (.int 0) := by
  unfold cnt
  rw [List.eq_replicate_iff]
  refine ⟨by simp, fun d h => ?_⟩
  obtain ⟨p, hp, e⟩ := List.mem_map.mp h
  have hp' := List.mem_range.mp hp
  rw [← e]
  by_cases h1 : p < F.length - 0
  · rw [if_pos h1]; rfl
  · rw [if_neg h1, List.drop_of_length_le (by omega)]
    rfl
theorem cnt_end (c : Nat) (G : List Nat → Nat) (F : List Nat) : .lst (cnt c G F F.length) = tb (blk c G) F := by
  unfold cnt tb
  congr 1
  apply List.map_congr_left
  intro p _
  rw [if_neg (by omega)]
theorem tb_get {G : List Nat → Nat} {F : List Nat} {p : Nat} (h : p ≤ F.length) : ((List.range (F.length + 1)).map fun p => D.int (G (F.drop p) : Nat))[p]? = some (.int (G (F.drop p) : Nat)) := map_get _ _ _ (by omega)
theorem counts_of_block_ok {F : List Nat} {c : Nat} {G : List Nat → Nat} (hF : F.length ≤ 200) : F_counts_of_block [tx F, tx [c], tb G F] = .ok (tb (blk c G) F) := by
  obtain ⟨r', e, x, er⟩ := for_inv (g := gSet 5) (b := ifS (withEnv (tst (bin eqD (bin ixD (gAny 0) (gAny 5)) (gAny 1)))) (seqS (augS 4 (intOp (fun _ _ => true) fun i j => i + j) (bin ixD (gAny 2) (bin plusD (gAny 5) (kc (.int 1))))) (itmS 3 (gAny 5) (gSh 4))) skipS)
    (items := (rngL 0 F.length).reverse) (r := [.sh (tx F), .sh (tx [c]), .sh (tb G F), .own (.lst (cnt c G F 0)), .sh (.int 0), .un])
    (fun i r => ∃ x, r = [.sh (tx F), .sh (tx [c]), .sh (tb G F), .own (.lst (cnt c G F i)), .sh (.int ((acc c G (F.drop (F.length - i)) : Nat) : Int)), x]) ⟨.un, by rw [Nat.sub_zero, List.drop_of_length_le (Nat.le_refl _)]; rfl⟩ (fun i x r e hI => by
      obtain ⟨y, er⟩ := hI
      obtain ⟨hi, ex⟩ := rngr_get 0 F.length i x e
      rw [Int.zero_add] at ex
      obtain ⟨p, hp⟩ : ∃ p, p = F.length - 1 - i := ⟨_, rfl⟩
      rw [← hp] at ex
      subst er ex
      have hpl : p < F.length := by omega
      have hni : F.length - i = p + 1 := by omega
      have hni2 : F.length - (i + 1) = p := by omega
      have e1 : F[p]? = some F[p] := List.getElem?_eq_getElem hpl
      have e2 : F.drop p = F[p] :: F.drop (p + 1) := List.drop_eq_getElem_cons hpl
      have e3 := tb_get (G := G) (F := F) (p := p + 1) (by omega)
      rw [hni, hni2]
      by_cases hc : F[p] = c
      · have hb : blk c G (F.drop p) = acc c G (F.drop p) := by rw [e2]; simp only [blk, if_pos hc]
        have ha : acc c G (F.drop p) = G (F.drop (p + 1)) + acc c G (F.drop (p + 1)) := by rw [e2]; simp only [acc, if_pos hc]
        have hcnt : (cnt c G F i).set p (.int ((acc c G (F.drop p) : Nat) : Int)) = cnt c G F (i + 1) := by
          unfold cnt
          rw [← hb]
          have := setmap (fun q => D.int ((if q < F.length - i then 0 else blk c G (F.drop q) : Nat) : Int)) (fun q => D.int ((if q < F.length - (i + 1) then 0 else blk c G (F.drop q) : Nat) : Int)) (F.length + 1) p (fun q hq hne => by
            rw [hni, hni2]
            by_cases h1 : q < p
            · rw [if_pos (by omega), if_pos h1]
            · rw [if_neg (by omega), if_neg h1])
          simp only [hni2, if_neg (Nat.lt_irrefl p)] at this
          rw [hni2]
          exact this
        have hlen : (cnt c G F i).length = F.length + 1 := by simp [cnt]
        refine ⟨_, [.sh (tx F), .sh (tx [c]), .sh (tb G F), .own (.lst (cnt c G F (i + 1))), .sh (.int ((acc c G (F.drop p) : Nat) : Int)), .sh (.int (p : Nat))], rfl, if_y (cond_p (b := true) ?_) (seq_nx (aug_ok rfl (y := .int (G (F.drop (p + 1)) : Nat)) ?_ (add_ip _ _)) (by
          have := itm_ok (r := [.sh (tx F), .sh (tx [c]), .sh (tb G F), .own (.lst (cnt c G F i)), .sh (.int (((acc c G (F.drop (p + 1)) : Nat) : Int) + ((G (F.drop (p + 1)) : Nat) : Int))), .sh (.int (p : Nat))]) (i := 3) (fk := gAny 5) (fe := gSh 4) (s := .own (.lst (cnt c G F i))) (xs := cnt c G F i) (d := .int (((acc c G (F.drop (p + 1)) : Nat) : Int) + ((G (F.drop (p + 1)) : Nat) : Int))) (k := (p : Nat)) (j := p) rfl rfl rfl (ixN_nat (by rw [hlen]; omega))
          have hz : (((acc c G (F.drop (p + 1)) : Nat) : Int) + ((G (F.drop (p + 1)) : Nat) : Int)) = ((acc c G (F.drop p) : Nat) : Int) := by rw [ha]; omega
          rw [hz, hcnt] at this
          rw [hz]
          exact this)), ⟨_, rfl⟩⟩
        · simp (disch := first | omega | (simp; done) | (simp; omega)) [DL.withEnv, DL.tst, DL.tstE, DL.tru, DL.truE, DL.bin, DL.binE, DL.appN, DL.appNE, DL.aCons, DL.aNil, DL.aConsE, DL.kc, DL.itN, DL.itX, DL.un1, DL.notB, DL.orB, DL.andB, DL.notV, DL.andV, DL.orV, DL.ifV, DL.chn, DL.oNone, DL.oSome, DL.sl3, DL.mthV, DL.mkT, DL.mkTE, DL.mkL, DL.yesB, DL.gSh_eq, DL.gAny_eq, DL.gS_sh, DL.gA_sh, DL.gA_own, DL.gA_io, DL.ownL_eq, DL.oL_own, DL.oL_io, DL.put_own, DL.put_io, DL.bind_ok, DL.ofO_some, DL.at_ok, DL.ne_ok, DL.asB_bl', DL.asI_int', DL.tru_bl, DL.tru_int, DL.tru_lst, DL.len_tx, DL.len_lst, DL.len_tup, DL.ix_tx, DL.ix_lst, DL.ix_tup, DL.sl_tx, DL.sl_lst, DL.sl_tup, DL.plus_tx, DL.plus_int, DL.plus_lst, DL.plus_tup, DL.cat_lst, DL.rep_lst1, DL.zD_tx, DL.zD_lst, DL.zD_tup, DL.rev_tx, DL.en_tx, DL.asStr_tx, DL.tup_lst, DL.lst_tup, DL.isi_tx, DL.isi_int, DL.isi_intb, DL.isi_tt, DL.isi_lt, DL.sub_int', DL.add_ip, DL.sub_ip, DL.mul_int', DL.lt_int, DL.gt_int, DL.ge_int, DL.le_int, DL.eq_int, DL.ne_int, DL.eq_tx, DL.ne_tx, DL.isn_int, DL.isn_non, DL.isb, DL.neg_int, DL.int_int, DL.atI_nat, DL.atI_zero, DL.atI_one, DL.atI_two, DL.atI_three, DL.atI_succ, DL.atI_last, DL.cut_to, DL.cut_from, DL.cut_both, DL.cut_butlast, PySem.sizeLine_eq, DL.sum_nl, DL.sum_nt, DL.gSet, DL.gTupD, DL.gsCons, DL.gsNil, DL.ini, DL.setS, e1, hc]
        · simp (disch := first | omega | (simp; done) | (simp; omega)) [DL.withEnv, DL.tst, DL.tstE, DL.tru, DL.truE, DL.bin, DL.binE, DL.appN, DL.appNE, DL.aCons, DL.aNil, DL.aConsE, DL.kc, DL.itN, DL.itX, DL.un1, DL.notB, DL.orB, DL.andB, DL.notV, DL.andV, DL.orV, DL.ifV, DL.chn, DL.oNone, DL.oSome, DL.sl3, DL.mthV, DL.mkT, DL.mkTE, DL.mkL, DL.yesB, DL.gSh_eq, DL.gAny_eq, DL.gS_sh, DL.gA_sh, DL.gA_own, DL.gA_io, DL.ownL_eq, DL.oL_own, DL.oL_io, DL.put_own, DL.put_io, DL.bind_ok, DL.ofO_some, DL.at_ok, DL.ne_ok, DL.asB_bl', DL.asI_int', DL.tru_bl, DL.tru_int, DL.tru_lst, DL.len_tx, DL.len_lst, DL.len_tup, DL.ix_tx, DL.ix_lst, DL.ix_tup, DL.sl_tx, DL.sl_lst, DL.sl_tup, DL.plus_tx, DL.plus_int, DL.plus_lst, DL.plus_tup, DL.cat_lst, DL.rep_lst1, DL.zD_tx, DL.zD_lst, DL.zD_tup, DL.rev_tx, DL.en_tx, DL.asStr_tx, DL.tup_lst, DL.lst_tup, DL.isi_tx, DL.isi_int, DL.isi_intb, DL.isi_tt, DL.isi_lt, DL.sub_int', DL.add_ip, DL.sub_ip, DL.mul_int', DL.lt_int, DL.gt_int, DL.ge_int, DL.le_int, DL.eq_int, DL.ne_int, DL.eq_tx, DL.ne_tx, DL.isn_int, DL.isn_non, DL.isb, DL.neg_int, DL.int_int, DL.atI_nat, DL.atI_zero, DL.atI_one, DL.atI_two, DL.atI_three, DL.atI_succ, DL.atI_last, DL.cut_to, DL.cut_from, DL.cut_both, DL.cut_butlast, PySem.sizeLine_eq, DL.sum_nl, DL.sum_nt, DL.gSet, DL.gTupD, DL.gsCons, DL.gsNil, DL.ini, DL.setS, tb, e3]
      · have hb : blk c G (F.drop p) = 0 := by rw [e2]; simp only [blk, if_neg hc]
        have ha : acc c G (F.drop p) = acc c G (F.drop (p + 1)) := by rw [e2]; simp only [acc, if_neg hc, Nat.zero_add]
        have hcnt : cnt c G F i = cnt c G F (i + 1) := by
          unfold cnt
          apply List.map_congr_left
          intro q hq
          rw [hni, hni2]
          by_cases h1 : q < p
          · rw [if_pos (by omega), if_pos h1]
          · by_cases h2 : q = p
            · subst h2
              rw [if_pos (by omega), if_neg h1, hb]
            · rw [if_neg (by omega), if_neg h1]
        refine ⟨_, _, rfl, if_n (cond_p (b := false) ?_) rfl, ⟨.sh (.int (p : Nat)), by rw [ha, ← hcnt]; rfl⟩⟩
        simp (disch := first | omega | (simp; done) | (simp; omega)) [DL.withEnv, DL.tst, DL.tstE, DL.tru, DL.truE, DL.bin, DL.binE, DL.appN, DL.appNE, DL.aCons, DL.aNil, DL.aConsE, DL.kc, DL.itN, DL.itX, DL.un1, DL.notB, DL.orB, DL.andB, DL.notV, DL.andV, DL.orV, DL.ifV, DL.chn, DL.oNone, DL.oSome, DL.sl3, DL.mthV, DL.mkT, DL.mkTE, DL.mkL, DL.yesB, DL.gSh_eq, DL.gAny_eq, DL.gS_sh, DL.gA_sh, DL.gA_own, DL.gA_io, DL.ownL_eq, DL.oL_own, DL.oL_io, DL.put_own, DL.put_io, DL.bind_ok, DL.ofO_some, DL.at_ok, DL.ne_ok, DL.asB_bl', DL.asI_int', DL.tru_bl, DL.tru_int, DL.tru_lst, DL.len_tx, DL.len_lst, DL.len_tup, DL.ix_tx, DL.ix_lst, DL.ix_tup, DL.sl_tx, DL.sl_lst, DL.sl_tup, DL.plus_tx, DL.plus_int, DL.plus_lst, DL.plus_tup, DL.cat_lst, DL.rep_lst1, DL.zD_tx, DL.zD_lst, DL.zD_tup, DL.rev_tx, DL.en_tx, DL.asStr_tx, DL.tup_lst, DL.lst_tup, DL.isi_tx, DL.isi_int, DL.isi_intb, DL.isi_tt, DL.isi_lt, DL.sub_int', DL.add_ip, DL.sub_ip, DL.mul_int', DL.lt_int, DL.gt_int, DL.ge_int, DL.le_int, DL.eq_int, DL.ne_int, DL.eq_tx, DL.ne_tx, DL.isn_int, DL.isn_non, DL.isb, DL.neg_int, DL.int_int, DL.atI_nat, DL.atI_zero, DL.atI_one, DL.atI_two, DL.atI_three, DL.atI_succ, DL.atI_last, DL.cut_to, DL.cut_from, DL.cut_both, DL.cut_butlast, PySem.sizeLine_eq, DL.sum_nl, DL.sum_nt, DL.gSet, DL.gTupD, DL.gsCons, DL.gsNil, DL.ini, DL.setS, e1, hc])
  rw [List.length_reverse, rngL_length, Nat.sub_self, cnt_end] at er
  subst er
  refine fnD_rt (r1 := _) rfl (show b_counts_of_block [.sh (tx F), .sh (tx [c]), .sh (tb G F), .un, .un, .un] = .ok (.rt (tb (blk c G) F) [.sh (tx F), .sh (tx [c]), .sh (tb G F), .sh (tb (blk c G) F), .sh (.int ((acc c G (F.drop 0) : Nat) : Int)), x]) from ?_)
  unfold b_counts_of_block
  refine seq_nx (r1 := [.sh (tx F), .sh (tx [c]), .sh (tb G F), .own (.lst (cnt c G F 0)), .un, .un]) (seto (d := .lst (cnt c G F 0)) ?_) ?_
  · rw [cnt_zero]
    simp (disch := first | omega | (simp; done) | (simp; omega)) [DL.withEnv, DL.tst, DL.tstE, DL.tru, DL.truE, DL.bin, DL.binE, DL.appN, DL.appNE, DL.aCons, DL.aNil, DL.aConsE, DL.kc, DL.itN, DL.itX, DL.un1, DL.notB, DL.orB, DL.andB, DL.notV, DL.andV, DL.orV, DL.ifV, DL.chn, DL.oNone, DL.oSome, DL.sl3, DL.mthV, DL.mkT, DL.mkTE, DL.mkL, DL.yesB, DL.gSh_eq, DL.gAny_eq, DL.gS_sh, DL.gA_sh, DL.gA_own, DL.gA_io, DL.ownL_eq, DL.oL_own, DL.oL_io, DL.put_own, DL.put_io, DL.bind_ok, DL.ofO_some, DL.at_ok, DL.ne_ok, DL.asB_bl', DL.asI_int', DL.tru_bl, DL.tru_int, DL.tru_lst, DL.len_tx, DL.len_lst, DL.len_tup, DL.ix_tx, DL.ix_lst, DL.ix_tup, DL.sl_tx, DL.sl_lst, DL.sl_tup, DL.plus_tx, DL.plus_int, DL.plus_lst, DL.plus_tup, DL.cat_lst, DL.rep_lst1, DL.zD_tx, DL.zD_lst, DL.zD_tup, DL.rev_tx, DL.en_tx, DL.asStr_tx, DL.tup_lst, DL.lst_tup, DL.isi_tx, DL.isi_int, DL.isi_intb, DL.isi_tt, DL.isi_lt, DL.sub_int', DL.add_ip, DL.sub_ip, DL.mul_int', DL.lt_int, DL.gt_int, DL.ge_int, DL.le_int, DL.eq_int, DL.ne_int, DL.eq_tx, DL.ne_tx, DL.isn_int, DL.isn_non, DL.isb, DL.neg_int, DL.int_int, DL.atI_nat, DL.atI_zero, DL.atI_one, DL.atI_two, DL.atI_three, DL.atI_succ, DL.atI_last, DL.cut_to, DL.cut_from, DL.cut_both, DL.cut_butlast, PySem.sizeLine_eq, DL.sum_nl, DL.sum_nt, DL.gSet, DL.gTupD, DL.gsCons, DL.gsNil, DL.ini, DL.setS, rep_lst1s]
  refine seq_nx (r1 := [.sh (tx F), .sh (tx [c]), .sh (tb G F), .own (.lst (cnt c G F 0)), .sh (.int 0), .un]) (set_p (d := .int 0) rfl) ?_
  have e9 : itX (rvR (.int 0)) (appN lenD (aCons (gAny 0) aNil)) [.sh (tx F), .sh (tx [c]), .sh (tb G F), .own (.lst (cnt c G F 0)), .sh (.int 0), .un] = .ok (rngL 0 F.length).reverse := by
    have := rvR_nat (n := F.length) (by omega)
    simp only [itX, appN, aCons, aNil, gAny_eq, List.getElem?_cons_zero, gA_sh, bind_ok, len_tx (l := F) (by omega), ofO_some, this]
  exact seq_nx (for_p e9 e) (ret_own rfl)
def T (F g : List Nat) : List D := (List.range (g.length + 1)).map fun k => tb (W (g.drop k)) F
def Tr (F g : List Nat) (i : Nat) : List D := (List.range (i + 1)).map fun k => tb (W (g.drop (g.length - k))) F
theorem counts_behind_ok {F g : List Nat} (hF : F.length ≤ 200) (hg : g.length ≤ 200) : F_counts_behind [tx F, tx g] = .ok (.lst (T F g)) := by
  obtain ⟨r', e, x, er⟩ := for_inv (g := gSet 3) (b := appS 2 (callF 3 F_counts_of_block (aCons (gSh 0) (aCons (gSh 3) (aCons (bin ixD (gAny 2) (un1 negD (kc (.int 1)))) aNil)))))
    (items := g.reverse.map fun c => tx [c]) (r := [.sh (tx F), .sh (tx g), .own (.lst (Tr F g 0)), .un]) (fun i r => ∃ x, r = [.sh (tx F), .sh (tx g), .own (.lst (Tr F g i)), x]) ⟨_, rfl⟩ (fun i x r e hI => by
      obtain ⟨y, er⟩ := hI
      obtain ⟨c, ec, ex⟩ := tx_get e
      subst er ex
      have hi : i < g.length := by
        have := (List.getElem?_eq_some_iff.mp ec).1
        rwa [List.length_reverse] at this
      rw [List.getElem?_reverse hi] at ec
      have hlast : (Tr F g i).getLast? = some (tb (W (g.drop (g.length - i))) F) := by
        unfold Tr
        rw [map_snoc, List.getLast?_append]
        simp
      have hc : g.drop (g.length - (i + 1)) = c :: g.drop (g.length - i) := by
        have h1 : g.length - (i + 1) < g.length := by omega
        rw [List.drop_eq_getElem_cons h1]
        have h2 : g.length - (i + 1) + 1 = g.length - i := by omega
        have h3 : g[g.length - (i + 1)] = c := by
          have h4 := (List.getElem?_eq_some_iff.mp ec).2
          have h5 : g.length - 1 - i = g.length - (i + 1) := by omega
          simp only [h5] at h4
          exact h4
        rw [h2, h3]
      have hW : W (g.drop (g.length - (i + 1))) = blk c (W (g.drop (g.length - i))) := by rw [hc]; rfl
      have hlen : (Tr F g i).length = i + 1 := by simp [Tr]
      have hT : Tr F g (i + 1) = Tr F g i ++ [tb (blk c (W (g.drop (g.length - i)))) F] := by
        rw [← hW]
        exact map_snoc _ _
      refine ⟨_, [.sh (tx F), .sh (tx g), .own (.lst (Tr F g (i + 1))), .sh (tx [c])], rfl, ?_, ⟨_, rfl⟩⟩
      rw [hT]
      refine app_ok (r := [.sh (tx F), .sh (tx g), .own (.lst (Tr F g i)), .sh (tx [c])]) (i := 2) rfl (call_p (ds := [tx F, tx [c], tb (W (g.drop (g.length - i))) F]) ?_ rfl (counts_of_block_ok hF)) (by rw [hlen]; omega)
      simp (disch := first | omega | (simp; done) | (simp; omega)) [DL.withEnv, DL.tst, DL.tstE, DL.tru, DL.truE, DL.bin, DL.binE, DL.appN, DL.appNE, DL.aCons, DL.aNil, DL.aConsE, DL.kc, DL.itN, DL.itX, DL.un1, DL.notB, DL.orB, DL.andB, DL.notV, DL.andV, DL.orV, DL.ifV, DL.chn, DL.oNone, DL.oSome, DL.sl3, DL.mthV, DL.mkT, DL.mkTE, DL.mkL, DL.yesB, DL.gSh_eq, DL.gAny_eq, DL.gS_sh, DL.gA_sh, DL.gA_own, DL.gA_io, DL.ownL_eq, DL.oL_own, DL.oL_io, DL.put_own, DL.put_io, DL.bind_ok, DL.ofO_some, DL.at_ok, DL.ne_ok, DL.asB_bl', DL.asI_int', DL.tru_bl, DL.tru_int, DL.tru_lst, DL.len_tx, DL.len_lst, DL.len_tup, DL.ix_tx, DL.ix_lst, DL.ix_tup, DL.sl_tx, DL.sl_lst, DL.sl_tup, DL.plus_tx, DL.plus_int, DL.plus_lst, DL.plus_tup, DL.cat_lst, DL.rep_lst1, DL.zD_tx, DL.zD_lst, DL.zD_tup, DL.rev_tx, DL.en_tx, DL.asStr_tx, DL.tup_lst, DL.lst_tup, DL.isi_tx, DL.isi_int, DL.isi_intb, DL.isi_tt, DL.isi_lt, DL.sub_int', DL.add_ip, DL.sub_ip, DL.mul_int', DL.lt_int, DL.gt_int, DL.ge_int, DL.le_int, DL.eq_int, DL.ne_int, DL.eq_tx, DL.ne_tx, DL.isn_int, DL.isn_non, DL.isb, DL.neg_int, DL.int_int, DL.atI_nat, DL.atI_zero, DL.atI_one, DL.atI_two, DL.atI_three, DL.atI_succ, DL.atI_last, DL.cut_to, DL.cut_from, DL.cut_both, DL.cut_butlast, PySem.sizeLine_eq, DL.sum_nl, DL.sum_nt, DL.gSet, DL.gTupD, DL.gsCons, DL.gsNil, DL.ini, DL.setS, hlast])
  rw [List.length_map, List.length_reverse] at er
  subst er
  have hrev : (Tr F g g.length).reverse = T F g := by
    unfold Tr T
    rw [range_rev]
    apply List.map_congr_left
    intro k hk
    have := List.mem_range.mp hk
    have h2 : g.length - (g.length - k) = k := by omega
    rw [h2]
  refine fnD_rt (r1 := _) rfl (show b_counts_behind [.sh (tx F), .sh (tx g), .un, .un] = .ok (.rt (.lst (T F g)) [.sh (tx F), .sh (tx g), .sh (.lst (T F g)), x]) from ?_)
  unfold b_counts_behind
  refine seq_nx (r1 := [.sh (tx F), .sh (tx g), .own (.lst (Tr F g 0)), .un]) (seto (d := .lst (Tr F g 0)) ?_) ?_
  · have h0 : Tr F g 0 = [.lst (List.replicate F.length (.int 0) ++ [.int 1])] := by
      unfold Tr tb
      rw [List.range_one, List.map_cons, List.map_nil, Nat.sub_zero, List.drop_of_length_le (Nat.le_refl _), map_snoc]
      congr 3
      · rw [List.eq_replicate_iff]
        refine ⟨by simp, fun d h => ?_⟩
        obtain ⟨p, hp, ep⟩ := List.mem_map.mp h
        have hp' := List.mem_range.mp hp
        rw [← ep]
        have hne : F.drop p ≠ [] := by
          intro z
          have := congrArg List.length z
          rw [List.length_drop, List.length_nil] at this
          omega
        have hz : W [] (F.drop p) = 0 := by
          unfold W
          rw [if_neg hne]
        rw [hz] <;> rfl
      · rw [List.drop_of_length_le (Nat.le_refl _)]
        rfl
    rw [h0]
    simp (disch := first | omega | (simp; done) | (simp; omega)) [DL.withEnv, DL.tst, DL.tstE, DL.tru, DL.truE, DL.bin, DL.binE, DL.appN, DL.appNE, DL.aCons, DL.aNil, DL.aConsE, DL.kc, DL.itN, DL.itX, DL.un1, DL.notB, DL.orB, DL.andB, DL.notV, DL.andV, DL.orV, DL.ifV, DL.chn, DL.oNone, DL.oSome, DL.sl3, DL.mthV, DL.mkT, DL.mkTE, DL.mkL, DL.yesB, DL.gSh_eq, DL.gAny_eq, DL.gS_sh, DL.gA_sh, DL.gA_own, DL.gA_io, DL.ownL_eq, DL.oL_own, DL.oL_io, DL.put_own, DL.put_io, DL.bind_ok, DL.ofO_some, DL.at_ok, DL.ne_ok, DL.asB_bl', DL.asI_int', DL.tru_bl, DL.tru_int, DL.tru_lst, DL.len_tx, DL.len_lst, DL.len_tup, DL.ix_tx, DL.ix_lst, DL.ix_tup, DL.sl_tx, DL.sl_lst, DL.sl_tup, DL.plus_tx, DL.plus_int, DL.plus_lst, DL.plus_tup, DL.cat_lst, DL.rep_lst1, DL.zD_tx, DL.zD_lst, DL.zD_tup, DL.rev_tx, DL.en_tx, DL.asStr_tx, DL.tup_lst, DL.lst_tup, DL.isi_tx, DL.isi_int, DL.isi_intb, DL.isi_tt, DL.isi_lt, DL.sub_int', DL.add_ip, DL.sub_ip, DL.mul_int', DL.lt_int, DL.gt_int, DL.ge_int, DL.le_int, DL.eq_int, DL.ne_int, DL.eq_tx, DL.ne_tx, DL.isn_int, DL.isn_non, DL.isb, DL.neg_int, DL.int_int, DL.atI_nat, DL.atI_zero, DL.atI_one, DL.atI_two, DL.atI_three, DL.atI_succ, DL.atI_last, DL.cut_to, DL.cut_from, DL.cut_both, DL.cut_butlast, PySem.sizeLine_eq, DL.sum_nl, DL.sum_nt, DL.gSet, DL.gTupD, DL.gsCons, DL.gsNil, DL.ini, DL.setS, rep_lst1]
  refine seq_nx (r1 := [.sh (tx F), .sh (tx g), .own (.lst (Tr F g g.length)), x]) (for_p (items := g.reverse.map fun c => tx [c]) ?_ e) ?_
  · simp (disch := first | omega | (simp; done) | (simp; omega)) [DL.withEnv, DL.tst, DL.tstE, DL.tru, DL.truE, DL.bin, DL.binE, DL.appN, DL.appNE, DL.aCons, DL.aNil, DL.aConsE, DL.kc, DL.itN, DL.itX, DL.un1, DL.notB, DL.orB, DL.andB, DL.notV, DL.andV, DL.orV, DL.ifV, DL.chn, DL.oNone, DL.oSome, DL.sl3, DL.mthV, DL.mkT, DL.mkTE, DL.mkL, DL.yesB, DL.gSh_eq, DL.gAny_eq, DL.gS_sh, DL.gA_sh, DL.gA_own, DL.gA_io, DL.ownL_eq, DL.oL_own, DL.oL_io, DL.put_own, DL.put_io, DL.bind_ok, DL.ofO_some, DL.at_ok, DL.ne_ok, DL.asB_bl', DL.asI_int', DL.tru_bl, DL.tru_int, DL.tru_lst, DL.len_tx, DL.len_lst, DL.len_tup, DL.ix_tx, DL.ix_lst, DL.ix_tup, DL.sl_tx, DL.sl_lst, DL.sl_tup, DL.plus_tx, DL.plus_int, DL.plus_lst, DL.plus_tup, DL.cat_lst, DL.rep_lst1, DL.zD_tx, DL.zD_lst, DL.zD_tup, DL.rev_tx, DL.en_tx, DL.asStr_tx, DL.tup_lst, DL.lst_tup, DL.isi_tx, DL.isi_int, DL.isi_intb, DL.isi_tt, DL.isi_lt, DL.sub_int', DL.add_ip, DL.sub_ip, DL.mul_int', DL.lt_int, DL.gt_int, DL.ge_int, DL.le_int, DL.eq_int, DL.ne_int, DL.eq_tx, DL.ne_tx, DL.isn_int, DL.isn_non, DL.isb, DL.neg_int, DL.int_int, DL.atI_nat, DL.atI_zero, DL.atI_one, DL.atI_two, DL.atI_three, DL.atI_succ, DL.atI_last, DL.cut_to, DL.cut_from, DL.cut_both, DL.cut_butlast, PySem.sizeLine_eq, DL.sum_nl, DL.sum_nt, DL.gSet, DL.gTupD, DL.gsCons, DL.gsNil, DL.ini, DL.setS]
  refine seq_nx (r1 := [.sh (tx F), .sh (tx g), .own (.lst (T F g)), x]) ?_ (ret_own rfl)
  rw [← hrev]
  exact rvs_ok (r := [.sh (tx F), .sh (tx g), .own (.lst (Tr F g g.length)), x]) (i := 2) (s := .own (.lst (Tr F g g.length))) (xs := Tr F g g.length) rfl
theorem T_get {F g : List Nat} {k : Nat} (h : k ≤ g.length) : (T F g)[k]? = some (tb (W (g.drop k)) F) := map_get _ _ _ (by omega)
theorem count_partings_ok {F g : List Nat} (hF : Film F) (hg : Film g) : F_count_partings [tx F, tx g] = .ok (.int (W g F : Nat)) := by
  refine fnD_rt (r1 := _) rfl (show b_count_partings [.sh (tx F), .sh (tx g)] = .ok (.rt (.int (W g F : Nat)) [.sh (tx F), .sh (tx g)]) from ?_)
  unfold b_count_partings
  refine seq_nx (expr_p (call_p (ds := [tx F]) rfl rfl (check_film_ok hF))) ?_
  refine seq_nx (expr_p (call_p (ds := [tx g]) rfl rfl (check_film_ok hg))) ?_
  have e1 : callF 2 F_counts_behind (aCons (gSh 0) (aCons (gSh 1) aNil)) [.sh (tx F), .sh (tx g)] = .ok (.lst (T F g)) := call_p (ds := [tx F, tx g]) rfl rfl (counts_behind_ok hF.2.1 hg.2.1)
  have e2 := T_get (F := F) (g := g) (k := 0) (Nat.zero_le _)
  have e3 := tb_get (G := W g) (F := F) (p := 0) (Nat.zero_le _)
  refine ret_p ?_
  simp (disch := first | omega | (simp; done) | (simp; omega)) [DL.withEnv, DL.tst, DL.tstE, DL.tru, DL.truE, DL.bin, DL.binE, DL.appN, DL.appNE, DL.aCons, DL.aNil, DL.aConsE, DL.kc, DL.itN, DL.itX, DL.un1, DL.notB, DL.orB, DL.andB, DL.notV, DL.andV, DL.orV, DL.ifV, DL.chn, DL.oNone, DL.oSome, DL.sl3, DL.mthV, DL.mkT, DL.mkTE, DL.mkL, DL.yesB, DL.gSh_eq, DL.gAny_eq, DL.gS_sh, DL.gA_sh, DL.gA_own, DL.gA_io, DL.ownL_eq, DL.oL_own, DL.oL_io, DL.put_own, DL.put_io, DL.bind_ok, DL.ofO_some, DL.at_ok, DL.ne_ok, DL.asB_bl', DL.asI_int', DL.tru_bl, DL.tru_int, DL.tru_lst, DL.len_tx, DL.len_lst, DL.len_tup, DL.ix_tx, DL.ix_lst, DL.ix_tup, DL.sl_tx, DL.sl_lst, DL.sl_tup, DL.plus_tx, DL.plus_int, DL.plus_lst, DL.plus_tup, DL.cat_lst, DL.rep_lst1, DL.zD_tx, DL.zD_lst, DL.zD_tup, DL.rev_tx, DL.en_tx, DL.asStr_tx, DL.tup_lst, DL.lst_tup, DL.isi_tx, DL.isi_int, DL.isi_intb, DL.isi_tt, DL.isi_lt, DL.sub_int', DL.add_ip, DL.sub_ip, DL.mul_int', DL.lt_int, DL.gt_int, DL.ge_int, DL.le_int, DL.eq_int, DL.ne_int, DL.eq_tx, DL.ne_tx, DL.isn_int, DL.isn_non, DL.isb, DL.neg_int, DL.int_int, DL.atI_nat, DL.atI_zero, DL.atI_one, DL.atI_two, DL.atI_three, DL.atI_succ, DL.atI_last, DL.cut_to, DL.cut_from, DL.cut_both, DL.cut_butlast, PySem.sizeLine_eq, DL.sum_nl, DL.sum_nt, DL.gSet, DL.gTupD, DL.gsCons, DL.gsNil, DL.ini, DL.setS, e1, e2, e3, tb]
end LW

namespace LW
open PySem DL PT

abbrev tn (l : List Nat) : D := .tup (l.map ni)
theorem is_whole_ok (i : Int) : F_is_whole [.int i] = .ok (.bl true) := by
  refine fnD_rt rfl (ret_p (r := [.sh (.int i)]) ?_)
  simp (disch := first | omega | (simp; done) | (simp; omega)) [DL.withEnv, DL.tst, DL.tstE, DL.tru, DL.truE, DL.bin, DL.binE, DL.appN, DL.appNE, DL.aCons, DL.aNil, DL.aConsE, DL.kc, DL.itN, DL.itX, DL.un1, DL.notB, DL.orB, DL.andB, DL.notV, DL.andV, DL.orV, DL.ifV, DL.chn, DL.oNone, DL.oSome, DL.sl3, DL.mthV, DL.mkT, DL.mkTE, DL.mkL, DL.yesB, DL.gSh_eq, DL.gAny_eq, DL.gS_sh, DL.gA_sh, DL.gA_own, DL.gA_io, DL.ownL_eq, DL.oL_own, DL.oL_io, DL.put_own, DL.put_io, DL.bind_ok, DL.ofO_some, DL.at_ok, DL.ne_ok, DL.asB_bl', DL.asI_int', DL.tru_bl, DL.tru_int, DL.tru_lst, DL.len_tx, DL.len_lst, DL.len_tup, DL.ix_tx, DL.ix_lst, DL.ix_tup, DL.sl_tx, DL.sl_lst, DL.sl_tup, DL.plus_tx, DL.plus_int, DL.plus_lst, DL.plus_tup, DL.cat_lst, DL.rep_lst1, DL.zD_tx, DL.zD_lst, DL.zD_tup, DL.rev_tx, DL.en_tx, DL.asStr_tx, DL.tup_lst, DL.lst_tup, DL.isi_tx, DL.isi_int, DL.isi_intb, DL.isi_tt, DL.isi_lt, DL.sub_int', DL.add_ip, DL.sub_ip, DL.mul_int', DL.lt_int, DL.gt_int, DL.ge_int, DL.le_int, DL.eq_int, DL.ne_int, DL.eq_tx, DL.ne_tx, DL.isn_int, DL.isn_non, DL.isb, DL.neg_int, DL.int_int, DL.atI_nat, DL.atI_zero, DL.atI_one, DL.atI_two, DL.atI_three, DL.atI_succ, DL.atI_last, DL.cut_to, DL.cut_from, DL.cut_both, DL.cut_butlast, PySem.sizeLine_eq, DL.sum_nl, DL.sum_nt, DL.gSet, DL.gTupD, DL.gsCons, DL.gsNil, DL.ini, DL.setS]
theorem check_rank_ok (k : Nat) : F_check_rank [ni k] = .ok .non := by
  refine fnD_nx (r1 := [.sh (ni k)]) rfl (if_n (r := [.sh (ni k)]) (cond_p (b := false) ?_) rfl)
  have e1 : callF 1 F_is_whole (aCons (gSh 0) aNil) [.sh (ni k)] = .ok (.bl true) := call_p (ds := [ni k]) rfl rfl (is_whole_ok _)
  have e2 : ¬ ((k : Int) < 0) := by omega
  simp (disch := first | omega | (simp; done) | (simp; omega)) [DL.withEnv, DL.tst, DL.tstE, DL.tru, DL.truE, DL.bin, DL.binE, DL.appN, DL.appNE, DL.aCons, DL.aNil, DL.aConsE, DL.kc, DL.itN, DL.itX, DL.un1, DL.notB, DL.orB, DL.andB, DL.notV, DL.andV, DL.orV, DL.ifV, DL.chn, DL.oNone, DL.oSome, DL.sl3, DL.mthV, DL.mkT, DL.mkTE, DL.mkL, DL.yesB, DL.gSh_eq, DL.gAny_eq, DL.gS_sh, DL.gA_sh, DL.gA_own, DL.gA_io, DL.ownL_eq, DL.oL_own, DL.oL_io, DL.put_own, DL.put_io, DL.bind_ok, DL.ofO_some, DL.at_ok, DL.ne_ok, DL.asB_bl', DL.asI_int', DL.tru_bl, DL.tru_int, DL.tru_lst, DL.len_tx, DL.len_lst, DL.len_tup, DL.ix_tx, DL.ix_lst, DL.ix_tup, DL.sl_tx, DL.sl_lst, DL.sl_tup, DL.plus_tx, DL.plus_int, DL.plus_lst, DL.plus_tup, DL.cat_lst, DL.rep_lst1, DL.zD_tx, DL.zD_lst, DL.zD_tup, DL.rev_tx, DL.en_tx, DL.asStr_tx, DL.tup_lst, DL.lst_tup, DL.isi_tx, DL.isi_int, DL.isi_intb, DL.isi_tt, DL.isi_lt, DL.sub_int', DL.add_ip, DL.sub_ip, DL.mul_int', DL.lt_int, DL.gt_int, DL.ge_int, DL.le_int, DL.eq_int, DL.ne_int, DL.eq_tx, DL.ne_tx, DL.isn_int, DL.isn_non, DL.isb, DL.neg_int, DL.int_int, DL.atI_nat, DL.atI_zero, DL.atI_one, DL.atI_two, DL.atI_three, DL.atI_succ, DL.atI_last, DL.cut_to, DL.cut_from, DL.cut_both, DL.cut_butlast, PySem.sizeLine_eq, DL.sum_nl, DL.sum_nt, DL.gSet, DL.gTupD, DL.gsCons, DL.gsNil, DL.ini, DL.setS, e1, e2]
theorem places_from_ok {F : List Nat} {c s : Nat} (hF : F.length ≤ 200) (hs : s ≤ F.length) : F_places_from [tx F, tx [c], ni s] = .ok (.lst ((pl F c s).map ni)) := by
  refine fnD_rt rfl (ret_p (r := [.sh (tx F), .sh (tx [c]), .sh (ni s), .un]) ?_)
  have e1 : itN rg2 (aCons (gAny 2) (aCons (appN lenD (aCons (gAny 0) aNil)) aNil)) [.sh (tx F), .sh (tx [c]), .sh (ni s), .un] = .ok (rngL (s : Nat) (F.length - s)) := by
    simp (disch := first | omega | (simp; done) | (simp; omega)) [DL.withEnv, DL.tst, DL.tstE, DL.tru, DL.truE, DL.bin, DL.binE, DL.appN, DL.appNE, DL.aCons, DL.aNil, DL.aConsE, DL.kc, DL.itN, DL.itX, DL.un1, DL.notB, DL.orB, DL.andB, DL.notV, DL.andV, DL.orV, DL.ifV, DL.chn, DL.oNone, DL.oSome, DL.sl3, DL.mthV, DL.mkT, DL.mkTE, DL.mkL, DL.yesB, DL.gSh_eq, DL.gAny_eq, DL.gS_sh, DL.gA_sh, DL.gA_own, DL.gA_io, DL.ownL_eq, DL.oL_own, DL.oL_io, DL.put_own, DL.put_io, DL.bind_ok, DL.ofO_some, DL.at_ok, DL.ne_ok, DL.asB_bl', DL.asI_int', DL.tru_bl, DL.tru_int, DL.tru_lst, DL.len_tx, DL.len_lst, DL.len_tup, DL.ix_tx, DL.ix_lst, DL.ix_tup, DL.sl_tx, DL.sl_lst, DL.sl_tup, DL.plus_tx, DL.plus_int, DL.plus_lst, DL.plus_tup, DL.cat_lst, DL.rep_lst1, DL.zD_tx, DL.zD_lst, DL.zD_tup, DL.rev_tx, DL.en_tx, DL.asStr_tx, DL.tup_lst, DL.lst_tup, DL.isi_tx, DL.isi_int, DL.isi_intb, DL.isi_tt, DL.isi_lt, DL.sub_int', DL.add_ip, DL.sub_ip, DL.mul_int', DL.lt_int, DL.gt_int, DL.ge_int, DL.le_int, DL.eq_int, DL.ne_int, DL.eq_tx, DL.ne_tx, DL.isn_int, DL.isn_non, DL.isb, DL.neg_int, DL.int_int, DL.atI_nat, DL.atI_zero, DL.atI_one, DL.atI_two, DL.atI_three, DL.atI_succ, DL.atI_last, DL.cut_to, DL.cut_from, DL.cut_both, DL.cut_butlast, PySem.sizeLine_eq, DL.sum_nl, DL.sum_nt, DL.gSet, DL.gTupD, DL.gsCons, DL.gsNil, DL.ini, DL.setS, rg2_nat]
  rw [lcV_ok (items := rngL (s : Nat) (F.length - s)) (fun d => match d with | .int i => decide (F[i.toNat]? = some c) | _ => false) id rfl e1 (by rw [rngL_length, sizeLine_eq]; omega) (fun x hx => ?_)]
  · congr 2
    rw [List.map_id, rng_range', List.filter_map]
    unfold pl
    congr 1
  · rw [rng_range'] at hx
    obtain ⟨q, hq, ex⟩ := List.mem_map.mp hx
    have hq2 := List.mem_range'_1.mp hq
    have hql : q < F.length := by omega
    subst ex
    refine ⟨[.sh (tx F), .sh (tx [c]), .sh (ni s), .sh (ni q)], rfl, ?_, fun _ => ?_⟩
    · have e2 : F[q]? = some F[q] := List.getElem?_eq_getElem hql
      simp (disch := first | omega | (simp; done) | (simp; omega)) [DL.withEnv, DL.tst, DL.tstE, DL.tru, DL.truE, DL.bin, DL.binE, DL.appN, DL.appNE, DL.aCons, DL.aNil, DL.aConsE, DL.kc, DL.itN, DL.itX, DL.un1, DL.notB, DL.orB, DL.andB, DL.notV, DL.andV, DL.orV, DL.ifV, DL.chn, DL.oNone, DL.oSome, DL.sl3, DL.mthV, DL.mkT, DL.mkTE, DL.mkL, DL.yesB, DL.gSh_eq, DL.gAny_eq, DL.gS_sh, DL.gA_sh, DL.gA_own, DL.gA_io, DL.ownL_eq, DL.oL_own, DL.oL_io, DL.put_own, DL.put_io, DL.bind_ok, DL.ofO_some, DL.at_ok, DL.ne_ok, DL.asB_bl', DL.asI_int', DL.tru_bl, DL.tru_int, DL.tru_lst, DL.len_tx, DL.len_lst, DL.len_tup, DL.ix_tx, DL.ix_lst, DL.ix_tup, DL.sl_tx, DL.sl_lst, DL.sl_tup, DL.plus_tx, DL.plus_int, DL.plus_lst, DL.plus_tup, DL.cat_lst, DL.rep_lst1, DL.zD_tx, DL.zD_lst, DL.zD_tup, DL.rev_tx, DL.en_tx, DL.asStr_tx, DL.tup_lst, DL.lst_tup, DL.isi_tx, DL.isi_int, DL.isi_intb, DL.isi_tt, DL.isi_lt, DL.sub_int', DL.add_ip, DL.sub_ip, DL.mul_int', DL.lt_int, DL.gt_int, DL.ge_int, DL.le_int, DL.eq_int, DL.ne_int, DL.eq_tx, DL.ne_tx, DL.isn_int, DL.isn_non, DL.isb, DL.neg_int, DL.int_int, DL.atI_nat, DL.atI_zero, DL.atI_one, DL.atI_two, DL.atI_three, DL.atI_succ, DL.atI_last, DL.cut_to, DL.cut_from, DL.cut_both, DL.cut_butlast, PySem.sizeLine_eq, DL.sum_nl, DL.sum_nt, DL.gSet, DL.gTupD, DL.gsCons, DL.gsNil, DL.ini, DL.setS, e2]
    · simp (disch := first | omega | (simp; done) | (simp; omega)) [DL.withEnv, DL.tst, DL.tstE, DL.tru, DL.truE, DL.bin, DL.binE, DL.appN, DL.appNE, DL.aCons, DL.aNil, DL.aConsE, DL.kc, DL.itN, DL.itX, DL.un1, DL.notB, DL.orB, DL.andB, DL.notV, DL.andV, DL.orV, DL.ifV, DL.chn, DL.oNone, DL.oSome, DL.sl3, DL.mthV, DL.mkT, DL.mkTE, DL.mkL, DL.yesB, DL.gSh_eq, DL.gAny_eq, DL.gS_sh, DL.gA_sh, DL.gA_own, DL.gA_io, DL.ownL_eq, DL.oL_own, DL.oL_io, DL.put_own, DL.put_io, DL.bind_ok, DL.ofO_some, DL.at_ok, DL.ne_ok, DL.asB_bl', DL.asI_int', DL.tru_bl, DL.tru_int, DL.tru_lst, DL.len_tx, DL.len_lst, DL.len_tup, DL.ix_tx, DL.ix_lst, DL.ix_tup, DL.sl_tx, DL.sl_lst, DL.sl_tup, DL.plus_tx, DL.plus_int, DL.plus_lst, DL.plus_tup, DL.cat_lst, DL.rep_lst1, DL.zD_tx, DL.zD_lst, DL.zD_tup, DL.rev_tx, DL.en_tx, DL.asStr_tx, DL.tup_lst, DL.lst_tup, DL.isi_tx, DL.isi_int, DL.isi_intb, DL.isi_tt, DL.isi_lt, DL.sub_int', DL.add_ip, DL.sub_ip, DL.mul_int', DL.lt_int, DL.gt_int, DL.ge_int, DL.le_int, DL.eq_int, DL.ne_int, DL.eq_tx, DL.ne_tx, DL.isn_int, DL.isn_non, DL.isb, DL.neg_int, DL.int_int, DL.atI_nat, DL.atI_zero, DL.atI_one, DL.atI_two, DL.atI_three, DL.atI_succ, DL.atI_last, DL.cut_to, DL.cut_from, DL.cut_both, DL.cut_butlast, PySem.sizeLine_eq, DL.sum_nl, DL.sum_nt, DL.gSet, DL.gTupD, DL.gsCons, DL.gsNil, DL.ini, DL.setS]
/-! is_parting_for -/
theorem ipf_loop {F : List Nat} (hF : F.length ≤ 200) (a b : D) : ∀ (g es : List Nat) (s : Nat) (x y : Slot), es.length = g.length →
    (∃ r', forD (gTupD 2 (gsCons (gSet 4) (gsCons (gSet 5) gsNil))) (seqS (ifS (withEnv (orB (notB (tru (callF 1 F_is_whole (aCons (gSh 5) aNil)))) (notB (tst (chn le2D ltD (gAny 3) (gAny 5) (appN lenD (aCons (gAny 0) aNil))))))) (retS (withEnv (kc (.bl false)))) skipS) (seqS (ifS (withEnv (orB (tst (bin neD (bin ixD (gAny 0) (gAny 3)) (gAny 4))) (tst (bin neD (bin ixD (gAny 0) (gAny 5)) (gAny 4))))) (retS (withEnv (kc (.bl false)))) skipS) (setS 3 (withEnv (bin plusD (gAny 5) (kc (.int 1)))))))
      (List.zipWith (fun x y => D.tup [x, y]) (g.map fun c => tx [c]) (es.map ni)) [.sh (tx F), .sh a, .sh b, .sh (ni s), x, y] = .ok (.rt (.bl false) r') ∧ isP F g s es = false) ∨
    (∃ s' x' y', forD (gTupD 2 (gsCons (gSet 4) (gsCons (gSet 5) gsNil))) (seqS (ifS (withEnv (orB (notB (tru (callF 1 F_is_whole (aCons (gSh 5) aNil)))) (notB (tst (chn le2D ltD (gAny 3) (gAny 5) (appN lenD (aCons (gAny 0) aNil))))))) (retS (withEnv (kc (.bl false)))) skipS) (seqS (ifS (withEnv (orB (tst (bin neD (bin ixD (gAny 0) (gAny 3)) (gAny 4))) (tst (bin neD (bin ixD (gAny 0) (gAny 5)) (gAny 4))))) (retS (withEnv (kc (.bl false)))) skipS) (setS 3 (withEnv (bin plusD (gAny 5) (kc (.int 1)))))))
      (List.zipWith (fun x y => D.tup [x, y]) (g.map fun c => tx [c]) (es.map ni)) [.sh (tx F), .sh a, .sh b, .sh (ni s), x, y] = .ok (.nx [.sh (tx F), .sh a, .sh b, .sh (ni s'), x', y']) ∧ isP F g s es = decide (s' = F.length))
  | [], es, s, x, y, hl => by
    have : es = [] := List.eq_nil_of_length_eq_zero (by simpa using hl)
    subst this
    exact .inr ⟨s, x, y, rfl, rfl⟩
  | c :: g, [], s, x, y, hl => by simp at hl
  | c :: g, e :: es, s, x, y, hl => by
    rw [List.map_cons, List.map_cons, List.zipWith_cons_cons]
    unfold forD
    have e1 : callF 1 F_is_whole (aCons (gSh 5) aNil) [.sh (tx F), .sh a, .sh b, .sh (ni s), .sh (tx [c]), .sh (ni e)] = .ok (.bl true) := call_p (ds := [ni e]) rfl rfl (is_whole_ok _)
    have eg : gTupD 2 (gsCons (gSet 4) (gsCons (gSet 5) gsNil)) (.tup [tx [c], ni e]) [.sh (tx F), .sh a, .sh b, .sh (ni s), x, y] = .ok [.sh (tx F), .sh a, .sh b, .sh (ni s), .sh (tx [c]), .sh (ni e)] := rfl
    rw [eg]
    simp only [bind_ok]
    have ib : isP F (c :: g) s (e :: es) = if decide (s ≤ e) && decide (e < F.length) then (if F[s]? = some c ∧ F[e]? = some c then isP F g (e + 1) es else false) else false := rfl
    by_cases h1 : s ≤ e ∧ e < F.length
    · have hse : s < F.length := by omega
      have g1 : F[s]? = some F[s] := List.getElem?_eq_getElem hse
      have g2 : F[e]? = some F[e] := List.getElem?_eq_getElem h1.2
      have c1 : orB (notB (tru (callF 1 F_is_whole (aCons (gSh 5) aNil)))) (notB (tst (chn le2D ltD (gAny 3) (gAny 5) (appN lenD (aCons (gAny 0) aNil))))) [.sh (tx F), .sh a, .sh b, .sh (ni s), .sh (tx [c]), .sh (ni e)] = .ok false := by
        simp (disch := first | omega | (simp; done) | (simp; omega)) [DL.withEnv, DL.tst, DL.tstE, DL.tru, DL.truE, DL.bin, DL.binE, DL.appN, DL.appNE, DL.aCons, DL.aNil, DL.aConsE, DL.kc, DL.itN, DL.itX, DL.un1, DL.notB, DL.orB, DL.andB, DL.notV, DL.andV, DL.orV, DL.ifV, DL.chn, DL.oNone, DL.oSome, DL.sl3, DL.mthV, DL.mkT, DL.mkTE, DL.mkL, DL.yesB, DL.gSh_eq, DL.gAny_eq, DL.gS_sh, DL.gA_sh, DL.gA_own, DL.gA_io, DL.ownL_eq, DL.oL_own, DL.oL_io, DL.put_own, DL.put_io, DL.bind_ok, DL.ofO_some, DL.at_ok, DL.ne_ok, DL.asB_bl', DL.asI_int', DL.tru_bl, DL.tru_int, DL.tru_lst, DL.len_tx, DL.len_lst, DL.len_tup, DL.ix_tx, DL.ix_lst, DL.ix_tup, DL.sl_tx, DL.sl_lst, DL.sl_tup, DL.plus_tx, DL.plus_int, DL.plus_lst, DL.plus_tup, DL.cat_lst, DL.rep_lst1, DL.zD_tx, DL.zD_lst, DL.zD_tup, DL.rev_tx, DL.en_tx, DL.asStr_tx, DL.tup_lst, DL.lst_tup, DL.isi_tx, DL.isi_int, DL.isi_intb, DL.isi_tt, DL.isi_lt, DL.sub_int', DL.add_ip, DL.sub_ip, DL.mul_int', DL.lt_int, DL.gt_int, DL.ge_int, DL.le_int, DL.eq_int, DL.ne_int, DL.eq_tx, DL.ne_tx, DL.isn_int, DL.isn_non, DL.isb, DL.neg_int, DL.int_int, DL.atI_nat, DL.atI_zero, DL.atI_one, DL.atI_two, DL.atI_three, DL.atI_succ, DL.atI_last, DL.cut_to, DL.cut_from, DL.cut_both, DL.cut_butlast, PySem.sizeLine_eq, DL.sum_nl, DL.sum_nt, DL.gSet, DL.gTupD, DL.gsCons, DL.gsNil, DL.ini, DL.setS, e1, h1.1, h1.2]
      by_cases h2 : F[s] = c ∧ F[e] = c
      · have c2 : orB (tst (bin neD (bin ixD (gAny 0) (gAny 3)) (gAny 4))) (tst (bin neD (bin ixD (gAny 0) (gAny 5)) (gAny 4))) [.sh (tx F), .sh a, .sh b, .sh (ni s), .sh (tx [c]), .sh (ni e)] = .ok false := by
          simp (disch := first | omega | (simp; done) | (simp; omega)) [DL.withEnv, DL.tst, DL.tstE, DL.tru, DL.truE, DL.bin, DL.binE, DL.appN, DL.appNE, DL.aCons, DL.aNil, DL.aConsE, DL.kc, DL.itN, DL.itX, DL.un1, DL.notB, DL.orB, DL.andB, DL.notV, DL.andV, DL.orV, DL.ifV, DL.chn, DL.oNone, DL.oSome, DL.sl3, DL.mthV, DL.mkT, DL.mkTE, DL.mkL, DL.yesB, DL.gSh_eq, DL.gAny_eq, DL.gS_sh, DL.gA_sh, DL.gA_own, DL.gA_io, DL.ownL_eq, DL.oL_own, DL.oL_io, DL.put_own, DL.put_io, DL.bind_ok, DL.ofO_some, DL.at_ok, DL.ne_ok, DL.asB_bl', DL.asI_int', DL.tru_bl, DL.tru_int, DL.tru_lst, DL.len_tx, DL.len_lst, DL.len_tup, DL.ix_tx, DL.ix_lst, DL.ix_tup, DL.sl_tx, DL.sl_lst, DL.sl_tup, DL.plus_tx, DL.plus_int, DL.plus_lst, DL.plus_tup, DL.cat_lst, DL.rep_lst1, DL.zD_tx, DL.zD_lst, DL.zD_tup, DL.rev_tx, DL.en_tx, DL.asStr_tx, DL.tup_lst, DL.lst_tup, DL.isi_tx, DL.isi_int, DL.isi_intb, DL.isi_tt, DL.isi_lt, DL.sub_int', DL.add_ip, DL.sub_ip, DL.mul_int', DL.lt_int, DL.gt_int, DL.ge_int, DL.le_int, DL.eq_int, DL.ne_int, DL.eq_tx, DL.ne_tx, DL.isn_int, DL.isn_non, DL.isb, DL.neg_int, DL.int_int, DL.atI_nat, DL.atI_zero, DL.atI_one, DL.atI_two, DL.atI_three, DL.atI_succ, DL.atI_last, DL.cut_to, DL.cut_from, DL.cut_both, DL.cut_butlast, PySem.sizeLine_eq, DL.sum_nl, DL.sum_nt, DL.gSet, DL.gTupD, DL.gsCons, DL.gsNil, DL.ini, DL.setS, g1, g2, h2.1, h2.2]
        have c3 : bin plusD (gAny 5) (kc (.int 1)) [.sh (tx F), .sh a, .sh b, .sh (ni s), .sh (tx [c]), .sh (ni e)] = .ok (ni (e + 1)) := by
          simp (disch := first | omega | (simp; done) | (simp; omega)) [DL.withEnv, DL.tst, DL.tstE, DL.tru, DL.truE, DL.bin, DL.binE, DL.appN, DL.appNE, DL.aCons, DL.aNil, DL.aConsE, DL.kc, DL.itN, DL.itX, DL.un1, DL.notB, DL.orB, DL.andB, DL.notV, DL.andV, DL.orV, DL.ifV, DL.chn, DL.oNone, DL.oSome, DL.sl3, DL.mthV, DL.mkT, DL.mkTE, DL.mkL, DL.yesB, DL.gSh_eq, DL.gAny_eq, DL.gS_sh, DL.gA_sh, DL.gA_own, DL.gA_io, DL.ownL_eq, DL.oL_own, DL.oL_io, DL.put_own, DL.put_io, DL.bind_ok, DL.ofO_some, DL.at_ok, DL.ne_ok, DL.asB_bl', DL.asI_int', DL.tru_bl, DL.tru_int, DL.tru_lst, DL.len_tx, DL.len_lst, DL.len_tup, DL.ix_tx, DL.ix_lst, DL.ix_tup, DL.sl_tx, DL.sl_lst, DL.sl_tup, DL.plus_tx, DL.plus_int, DL.plus_lst, DL.plus_tup, DL.cat_lst, DL.rep_lst1, DL.zD_tx, DL.zD_lst, DL.zD_tup, DL.rev_tx, DL.en_tx, DL.asStr_tx, DL.tup_lst, DL.lst_tup, DL.isi_tx, DL.isi_int, DL.isi_intb, DL.isi_tt, DL.isi_lt, DL.sub_int', DL.add_ip, DL.sub_ip, DL.mul_int', DL.lt_int, DL.gt_int, DL.ge_int, DL.le_int, DL.eq_int, DL.ne_int, DL.eq_tx, DL.ne_tx, DL.isn_int, DL.isn_non, DL.isb, DL.neg_int, DL.int_int, DL.atI_nat, DL.atI_zero, DL.atI_one, DL.atI_two, DL.atI_three, DL.atI_succ, DL.atI_last, DL.cut_to, DL.cut_from, DL.cut_both, DL.cut_butlast, PySem.sizeLine_eq, DL.sum_nl, DL.sum_nt, DL.gSet, DL.gTupD, DL.gsCons, DL.gsNil, DL.ini, DL.setS]
        rw [seq_nx (if_n (cond_p c1) rfl) (seq_nx (if_n (cond_p c2) rfl) (set_p c3))]
        have := ipf_loop hF a b g es (e + 1) (.sh (tx [c])) (.sh (ni e)) (by simpa using hl)
        rw [ib, if_pos (by simp [h1]), if_pos ⟨by rw [g1, h2.1], by rw [g2, h2.2]⟩]
        exact this
      · have c2 : orB (tst (bin neD (bin ixD (gAny 0) (gAny 3)) (gAny 4))) (tst (bin neD (bin ixD (gAny 0) (gAny 5)) (gAny 4))) [.sh (tx F), .sh a, .sh b, .sh (ni s), .sh (tx [c]), .sh (ni e)] = .ok true := by
          by_cases h3 : F[s] = c
          · have h4 : ¬ F[e] = c := fun z => h2 ⟨h3, z⟩
            simp (disch := first | omega | (simp; done) | (simp; omega)) [DL.withEnv, DL.tst, DL.tstE, DL.tru, DL.truE, DL.bin, DL.binE, DL.appN, DL.appNE, DL.aCons, DL.aNil, DL.aConsE, DL.kc, DL.itN, DL.itX, DL.un1, DL.notB, DL.orB, DL.andB, DL.notV, DL.andV, DL.orV, DL.ifV, DL.chn, DL.oNone, DL.oSome, DL.sl3, DL.mthV, DL.mkT, DL.mkTE, DL.mkL, DL.yesB, DL.gSh_eq, DL.gAny_eq, DL.gS_sh, DL.gA_sh, DL.gA_own, DL.gA_io, DL.ownL_eq, DL.oL_own, DL.oL_io, DL.put_own, DL.put_io, DL.bind_ok, DL.ofO_some, DL.at_ok, DL.ne_ok, DL.asB_bl', DL.asI_int', DL.tru_bl, DL.tru_int, DL.tru_lst, DL.len_tx, DL.len_lst, DL.len_tup, DL.ix_tx, DL.ix_lst, DL.ix_tup, DL.sl_tx, DL.sl_lst, DL.sl_tup, DL.plus_tx, DL.plus_int, DL.plus_lst, DL.plus_tup, DL.cat_lst, DL.rep_lst1, DL.zD_tx, DL.zD_lst, DL.zD_tup, DL.rev_tx, DL.en_tx, DL.asStr_tx, DL.tup_lst, DL.lst_tup, DL.isi_tx, DL.isi_int, DL.isi_intb, DL.isi_tt, DL.isi_lt, DL.sub_int', DL.add_ip, DL.sub_ip, DL.mul_int', DL.lt_int, DL.gt_int, DL.ge_int, DL.le_int, DL.eq_int, DL.ne_int, DL.eq_tx, DL.ne_tx, DL.isn_int, DL.isn_non, DL.isb, DL.neg_int, DL.int_int, DL.atI_nat, DL.atI_zero, DL.atI_one, DL.atI_two, DL.atI_three, DL.atI_succ, DL.atI_last, DL.cut_to, DL.cut_from, DL.cut_both, DL.cut_butlast, PySem.sizeLine_eq, DL.sum_nl, DL.sum_nt, DL.gSet, DL.gTupD, DL.gsCons, DL.gsNil, DL.ini, DL.setS, g1, g2, h3, h4]
          · simp (disch := first | omega | (simp; done) | (simp; omega)) [DL.withEnv, DL.tst, DL.tstE, DL.tru, DL.truE, DL.bin, DL.binE, DL.appN, DL.appNE, DL.aCons, DL.aNil, DL.aConsE, DL.kc, DL.itN, DL.itX, DL.un1, DL.notB, DL.orB, DL.andB, DL.notV, DL.andV, DL.orV, DL.ifV, DL.chn, DL.oNone, DL.oSome, DL.sl3, DL.mthV, DL.mkT, DL.mkTE, DL.mkL, DL.yesB, DL.gSh_eq, DL.gAny_eq, DL.gS_sh, DL.gA_sh, DL.gA_own, DL.gA_io, DL.ownL_eq, DL.oL_own, DL.oL_io, DL.put_own, DL.put_io, DL.bind_ok, DL.ofO_some, DL.at_ok, DL.ne_ok, DL.asB_bl', DL.asI_int', DL.tru_bl, DL.tru_int, DL.tru_lst, DL.len_tx, DL.len_lst, DL.len_tup, DL.ix_tx, DL.ix_lst, DL.ix_tup, DL.sl_tx, DL.sl_lst, DL.sl_tup, DL.plus_tx, DL.plus_int, DL.plus_lst, DL.plus_tup, DL.cat_lst, DL.rep_lst1, DL.zD_tx, DL.zD_lst, DL.zD_tup, DL.rev_tx, DL.en_tx, DL.asStr_tx, DL.tup_lst, DL.lst_tup, DL.isi_tx, DL.isi_int, DL.isi_intb, DL.isi_tt, DL.isi_lt, DL.sub_int', DL.add_ip, DL.sub_ip, DL.mul_int', DL.lt_int, DL.gt_int, DL.ge_int, DL.le_int, DL.eq_int, DL.ne_int, DL.eq_tx, DL.ne_tx, DL.isn_int, DL.isn_non, DL.isb, DL.neg_int, DL.int_int, DL.atI_nat, DL.atI_zero, DL.atI_one, DL.atI_two, DL.atI_three, DL.atI_succ, DL.atI_last, DL.cut_to, DL.cut_from, DL.cut_both, DL.cut_butlast, PySem.sizeLine_eq, DL.sum_nl, DL.sum_nt, DL.gSet, DL.gTupD, DL.gsCons, DL.gsNil, DL.ini, DL.setS, g1, g2, h3]
        rw [seq_nx (if_n (cond_p c1) rfl) (seq_rt (if_y (cond_p c2) (ret_p (d := .bl false) rfl)))]
        refine .inl ⟨_, rfl, ?_⟩
        rw [ib, if_pos (by simp [h1]), if_neg (fun z => h2 ⟨by rw [g1] at z; exact Option.some.inj z.1, by rw [g2] at z; exact Option.some.inj z.2⟩)]
    · have c1 : orB (notB (tru (callF 1 F_is_whole (aCons (gSh 5) aNil)))) (notB (tst (chn le2D ltD (gAny 3) (gAny 5) (appN lenD (aCons (gAny 0) aNil))))) [.sh (tx F), .sh a, .sh b, .sh (ni s), .sh (tx [c]), .sh (ni e)] = .ok true := by
        by_cases h3 : s ≤ e
        · have h4 : ¬ e < F.length := fun z => h1 ⟨h3, z⟩
          simp (disch := first | omega | (simp; done) | (simp; omega)) [DL.withEnv, DL.tst, DL.tstE, DL.tru, DL.truE, DL.bin, DL.binE, DL.appN, DL.appNE, DL.aCons, DL.aNil, DL.aConsE, DL.kc, DL.itN, DL.itX, DL.un1, DL.notB, DL.orB, DL.andB, DL.notV, DL.andV, DL.orV, DL.ifV, DL.chn, DL.oNone, DL.oSome, DL.sl3, DL.mthV, DL.mkT, DL.mkTE, DL.mkL, DL.yesB, DL.gSh_eq, DL.gAny_eq, DL.gS_sh, DL.gA_sh, DL.gA_own, DL.gA_io, DL.ownL_eq, DL.oL_own, DL.oL_io, DL.put_own, DL.put_io, DL.bind_ok, DL.ofO_some, DL.at_ok, DL.ne_ok, DL.asB_bl', DL.asI_int', DL.tru_bl, DL.tru_int, DL.tru_lst, DL.len_tx, DL.len_lst, DL.len_tup, DL.ix_tx, DL.ix_lst, DL.ix_tup, DL.sl_tx, DL.sl_lst, DL.sl_tup, DL.plus_tx, DL.plus_int, DL.plus_lst, DL.plus_tup, DL.cat_lst, DL.rep_lst1, DL.zD_tx, DL.zD_lst, DL.zD_tup, DL.rev_tx, DL.en_tx, DL.asStr_tx, DL.tup_lst, DL.lst_tup, DL.isi_tx, DL.isi_int, DL.isi_intb, DL.isi_tt, DL.isi_lt, DL.sub_int', DL.add_ip, DL.sub_ip, DL.mul_int', DL.lt_int, DL.gt_int, DL.ge_int, DL.le_int, DL.eq_int, DL.ne_int, DL.eq_tx, DL.ne_tx, DL.isn_int, DL.isn_non, DL.isb, DL.neg_int, DL.int_int, DL.atI_nat, DL.atI_zero, DL.atI_one, DL.atI_two, DL.atI_three, DL.atI_succ, DL.atI_last, DL.cut_to, DL.cut_from, DL.cut_both, DL.cut_butlast, PySem.sizeLine_eq, DL.sum_nl, DL.sum_nt, DL.gSet, DL.gTupD, DL.gsCons, DL.gsNil, DL.ini, DL.setS, e1, h3, h4]
        · simp (disch := first | omega | (simp; done) | (simp; omega)) [DL.withEnv, DL.tst, DL.tstE, DL.tru, DL.truE, DL.bin, DL.binE, DL.appN, DL.appNE, DL.aCons, DL.aNil, DL.aConsE, DL.kc, DL.itN, DL.itX, DL.un1, DL.notB, DL.orB, DL.andB, DL.notV, DL.andV, DL.orV, DL.ifV, DL.chn, DL.oNone, DL.oSome, DL.sl3, DL.mthV, DL.mkT, DL.mkTE, DL.mkL, DL.yesB, DL.gSh_eq, DL.gAny_eq, DL.gS_sh, DL.gA_sh, DL.gA_own, DL.gA_io, DL.ownL_eq, DL.oL_own, DL.oL_io, DL.put_own, DL.put_io, DL.bind_ok, DL.ofO_some, DL.at_ok, DL.ne_ok, DL.asB_bl', DL.asI_int', DL.tru_bl, DL.tru_int, DL.tru_lst, DL.len_tx, DL.len_lst, DL.len_tup, DL.ix_tx, DL.ix_lst, DL.ix_tup, DL.sl_tx, DL.sl_lst, DL.sl_tup, DL.plus_tx, DL.plus_int, DL.plus_lst, DL.plus_tup, DL.cat_lst, DL.rep_lst1, DL.zD_tx, DL.zD_lst, DL.zD_tup, DL.rev_tx, DL.en_tx, DL.asStr_tx, DL.tup_lst, DL.lst_tup, DL.isi_tx, DL.isi_int, DL.isi_intb, DL.isi_tt, DL.isi_lt, DL.sub_int', DL.add_ip, DL.sub_ip, DL.mul_int', DL.lt_int, DL.gt_int, DL.ge_int, DL.le_int, DL.eq_int, DL.ne_int, DL.eq_tx, DL.ne_tx, DL.isn_int, DL.isn_non, DL.isb, DL.neg_int, DL.int_int, DL.atI_nat, DL.atI_zero, DL.atI_one, DL.atI_two, DL.atI_three, DL.atI_succ, DL.atI_last, DL.cut_to, DL.cut_from, DL.cut_both, DL.cut_butlast, PySem.sizeLine_eq, DL.sum_nl, DL.sum_nt, DL.gSet, DL.gTupD, DL.gsCons, DL.gsNil, DL.ini, DL.setS, e1, h3]
      rw [seq_rt (if_y (cond_p c1) (ret_p (d := .bl false) rfl))]
      refine .inl ⟨_, rfl, ?_⟩
      rw [ib, if_neg (by simpa using fun z w => h1 ⟨z, w⟩)]
theorem is_parting_for_ok {F g es : List Nat} (hF : F.length ≤ 200) (hg : g.length ≤ 200) (hl : es.length = g.length) : F_is_parting_for [tx F, tx g, tn es] = .ok (.bl (isP F g 0 es)) := by
  have c1 : orB (notB (tru (appN isiD (aCons (gAny 2) (aCons (kc (.ty "tuple")) aNil))))) (tst (bin neD (appN lenD (aCons (gAny 2) aNil)) (appN lenD (aCons (gAny 1) aNil)))) [.sh (tx F), .sh (tx g), .sh (tn es), .un, .un, .un] = .ok false := by
    simp (disch := first | omega | (simp; done) | (simp; omega)) [DL.withEnv, DL.tst, DL.tstE, DL.tru, DL.truE, DL.bin, DL.binE, DL.appN, DL.appNE, DL.aCons, DL.aNil, DL.aConsE, DL.kc, DL.itN, DL.itX, DL.un1, DL.notB, DL.orB, DL.andB, DL.notV, DL.andV, DL.orV, DL.ifV, DL.chn, DL.oNone, DL.oSome, DL.sl3, DL.mthV, DL.mkT, DL.mkTE, DL.mkL, DL.yesB, DL.gSh_eq, DL.gAny_eq, DL.gS_sh, DL.gA_sh, DL.gA_own, DL.gA_io, DL.ownL_eq, DL.oL_own, DL.oL_io, DL.put_own, DL.put_io, DL.bind_ok, DL.ofO_some, DL.at_ok, DL.ne_ok, DL.asB_bl', DL.asI_int', DL.tru_bl, DL.tru_int, DL.tru_lst, DL.len_tx, DL.len_lst, DL.len_tup, DL.ix_tx, DL.ix_lst, DL.ix_tup, DL.sl_tx, DL.sl_lst, DL.sl_tup, DL.plus_tx, DL.plus_int, DL.plus_lst, DL.plus_tup, DL.cat_lst, DL.rep_lst1, DL.zD_tx, DL.zD_lst, DL.zD_tup, DL.rev_tx, DL.en_tx, DL.asStr_tx, DL.tup_lst, DL.lst_tup, DL.isi_tx, DL.isi_int, DL.isi_intb, DL.isi_tt, DL.isi_lt, DL.sub_int', DL.add_ip, DL.sub_ip, DL.mul_int', DL.lt_int, DL.gt_int, DL.ge_int, DL.le_int, DL.eq_int, DL.ne_int, DL.eq_tx, DL.ne_tx, DL.isn_int, DL.isn_non, DL.isb, DL.neg_int, DL.int_int, DL.atI_nat, DL.atI_zero, DL.atI_one, DL.atI_two, DL.atI_three, DL.atI_succ, DL.atI_last, DL.cut_to, DL.cut_from, DL.cut_both, DL.cut_butlast, PySem.sizeLine_eq, DL.sum_nl, DL.sum_nt, DL.gSet, DL.gTupD, DL.gsCons, DL.gsNil, DL.ini, DL.setS, hl]
  have c2 : itN zip2D (aCons (gSh 1) (aCons (gSh 2) aNil)) [.sh (tx F), .sh (tx g), .sh (tn es), .sh (ni 0), .un, .un] = .ok (List.zipWith (fun x y => D.tup [x, y]) (g.map fun c => tx [c]) (es.map ni)) := by
    simp (disch := first | omega | (simp; done) | (simp; omega)) [DL.withEnv, DL.tst, DL.tstE, DL.tru, DL.truE, DL.bin, DL.binE, DL.appN, DL.appNE, DL.aCons, DL.aNil, DL.aConsE, DL.kc, DL.itN, DL.itX, DL.un1, DL.notB, DL.orB, DL.andB, DL.notV, DL.andV, DL.orV, DL.ifV, DL.chn, DL.oNone, DL.oSome, DL.sl3, DL.mthV, DL.mkT, DL.mkTE, DL.mkL, DL.yesB, DL.gSh_eq, DL.gAny_eq, DL.gS_sh, DL.gA_sh, DL.gA_own, DL.gA_io, DL.ownL_eq, DL.oL_own, DL.oL_io, DL.put_own, DL.put_io, DL.bind_ok, DL.ofO_some, DL.at_ok, DL.ne_ok, DL.asB_bl', DL.asI_int', DL.tru_bl, DL.tru_int, DL.tru_lst, DL.len_tx, DL.len_lst, DL.len_tup, DL.ix_tx, DL.ix_lst, DL.ix_tup, DL.sl_tx, DL.sl_lst, DL.sl_tup, DL.plus_tx, DL.plus_int, DL.plus_lst, DL.plus_tup, DL.cat_lst, DL.rep_lst1, DL.zD_tx, DL.zD_lst, DL.zD_tup, DL.rev_tx, DL.en_tx, DL.asStr_tx, DL.tup_lst, DL.lst_tup, DL.isi_tx, DL.isi_int, DL.isi_intb, DL.isi_tt, DL.isi_lt, DL.sub_int', DL.add_ip, DL.sub_ip, DL.mul_int', DL.lt_int, DL.gt_int, DL.ge_int, DL.le_int, DL.eq_int, DL.ne_int, DL.eq_tx, DL.ne_tx, DL.isn_int, DL.isn_non, DL.isb, DL.neg_int, DL.int_int, DL.atI_nat, DL.atI_zero, DL.atI_one, DL.atI_two, DL.atI_three, DL.atI_succ, DL.atI_last, DL.cut_to, DL.cut_from, DL.cut_both, DL.cut_butlast, PySem.sizeLine_eq, DL.sum_nl, DL.sum_nt, DL.gSet, DL.gTupD, DL.gsCons, DL.gsNil, DL.ini, DL.setS, zip2_any (zD_tx g) (zD_tup (es.map ni))]
  rcases ipf_loop hF (tx g) (tn es) g es 0 .un .un hl with ⟨r', e, hi⟩ | ⟨s', x', y', e, hi⟩
  · rw [hi]
    refine fnD_rt (r1 := r') rfl (show b_is_parting_for [.sh (tx F), .sh (tx g), .sh (tn es), .un, .un, .un] = _ from ?_)
    exact seq_nx (if_n (cond_p c1) rfl) (seq_nx (r1 := [.sh (tx F), .sh (tx g), .sh (tn es), .sh (ni 0), .un, .un]) (set_p (d := .int 0) rfl) (seq_rt (for_p c2 e)))
  · rw [hi]
    refine fnD_rt (r1 := [.sh (tx F), .sh (tx g), .sh (tn es), .sh (ni s'), x', y']) rfl (show b_is_parting_for [.sh (tx F), .sh (tx g), .sh (tn es), .un, .un, .un] = _ from ?_)
    refine seq_nx (if_n (cond_p c1) rfl) (seq_nx (r1 := [.sh (tx F), .sh (tx g), .sh (tn es), .sh (ni 0), .un, .un]) (set_p (d := .int 0) rfl) (seq_nx (for_p c2 e) (ret_p ?_)))
    simp (disch := first | omega | (simp; done) | (simp; omega)) [DL.withEnv, DL.tst, DL.tstE, DL.tru, DL.truE, DL.bin, DL.binE, DL.appN, DL.appNE, DL.aCons, DL.aNil, DL.aConsE, DL.kc, DL.itN, DL.itX, DL.un1, DL.notB, DL.orB, DL.andB, DL.notV, DL.andV, DL.orV, DL.ifV, DL.chn, DL.oNone, DL.oSome, DL.sl3, DL.mthV, DL.mkT, DL.mkTE, DL.mkL, DL.yesB, DL.gSh_eq, DL.gAny_eq, DL.gS_sh, DL.gA_sh, DL.gA_own, DL.gA_io, DL.ownL_eq, DL.oL_own, DL.oL_io, DL.put_own, DL.put_io, DL.bind_ok, DL.ofO_some, DL.at_ok, DL.ne_ok, DL.asB_bl', DL.asI_int', DL.tru_bl, DL.tru_int, DL.tru_lst, DL.len_tx, DL.len_lst, DL.len_tup, DL.ix_tx, DL.ix_lst, DL.ix_tup, DL.sl_tx, DL.sl_lst, DL.sl_tup, DL.plus_tx, DL.plus_int, DL.plus_lst, DL.plus_tup, DL.cat_lst, DL.rep_lst1, DL.zD_tx, DL.zD_lst, DL.zD_tup, DL.rev_tx, DL.en_tx, DL.asStr_tx, DL.tup_lst, DL.lst_tup, DL.isi_tx, DL.isi_int, DL.isi_intb, DL.isi_tt, DL.isi_lt, DL.sub_int', DL.add_ip, DL.sub_ip, DL.mul_int', DL.lt_int, DL.gt_int, DL.ge_int, DL.le_int, DL.eq_int, DL.ne_int, DL.eq_tx, DL.ne_tx, DL.isn_int, DL.isn_non, DL.isb, DL.neg_int, DL.int_int, DL.atI_nat, DL.atI_zero, DL.atI_one, DL.atI_two, DL.atI_three, DL.atI_succ, DL.atI_last, DL.cut_to, DL.cut_from, DL.cut_both, DL.cut_butlast, PySem.sizeLine_eq, DL.sum_nl, DL.sum_nt, DL.gSet, DL.gTupD, DL.gsCons, DL.gsNil, DL.ini, DL.setS]
    omega
end LW

namespace LW
open PySem DL PT

/-! the tables behind the first -/
def Tl (F : List Nat) : List Nat → List D
  | [] => []
  | c :: g => tb (W g) F :: Tl F g
theorem T_eq (F : List Nat) : ∀ g, T F g = tb (W g) F :: Tl F g
  | [] => rfl
  | c :: g => by
    have ih := T_eq F g
    unfold T at ih ⊢
    rw [List.length_cons, List.range_succ_eq_map, List.map_cons, List.map_map]
    show tb (W (c :: g)) F :: _ = tb (W (c :: g)) F :: (tb (W g) F :: Tl F g)
    rw [← ih]
    rfl
theorem T_drop (F g : List Nat) : (T F g).drop 1 = Tl F g := by rw [T_eq]; rfl
/-! parting_at -/
theorem pick_loop {F : List Nat} {G : List Nat → Nat} (a b t k l : D) : ∀ (ps : List Nat) (r p r' s : Nat) (es : List Nat) (x : Slot), es.length ≤ 1000 → (∀ q ∈ ps, q < F.length) → sel (fun p => G (F.drop (p + 1))) ps r = some (p, r') →
    forD (gSet 9) (seqS (ifS (withEnv (tst (bin ltD (gAny 4) (bin ixD (gAny 8) (bin plusD (gAny 9) (kc (.int 1))))))) (seqS (appS 5 (gSh 9)) (seqS (setS 6 (withEnv (bin plusD (gAny 9) (kc (.int 1))))) brkS)) skipS) (augS 4 (intOp (fun _ _ => true) fun i j => i - j) (bin ixD (gAny 8) (bin plusD (gAny 9) (kc (.int 1))))))
      (ps.map ni) [.sh a, .sh b, .sh k, .sh t, .sh (ni r), .own (.lst (es.map ni)), .sh (ni s), .sh l, .sh (tb G F), x] = .ok (.nx [.sh a, .sh b, .sh k, .sh t, .sh (ni r'), .own (.lst ((es ++ [p]).map ni)), .sh (ni (p + 1)), .sh l, .sh (tb G F), .sh (ni p)])
  | [], r, p, r', s, es, x, hl, hp, h => by cases h
  | q :: ps, r, p, r', s, es, x, hl, hp, h => by
    have hq := hp q (List.mem_cons_self ..)
    have e3 := tb_get (G := G) (F := F) (p := q + 1) (by omega)
    rw [List.map_cons]
    unfold forD
    have eg : gSet 9 (ni q) [.sh a, .sh b, .sh k, .sh t, .sh (ni r), .own (.lst (es.map ni)), .sh (ni s), .sh l, .sh (tb G F), x] = .ok [.sh a, .sh b, .sh k, .sh t, .sh (ni r), .own (.lst (es.map ni)), .sh (ni s), .sh l, .sh (tb G F), .sh (ni q)] := rfl
    rw [eg]
    simp only [bind_ok]
    unfold sel at h
    have c0 : bin ixD (gAny 8) (bin plusD (gAny 9) (kc (.int 1))) [.sh a, .sh b, .sh k, .sh t, .sh (ni r), .own (.lst (es.map ni)), .sh (ni s), .sh l, .sh (tb G F), .sh (ni q)] = .ok (ni (G (F.drop (q + 1)))) := by
      simp (disch := first | omega | (simp; done) | (simp; omega)) [DL.withEnv, DL.tst, DL.tstE, DL.tru, DL.truE, DL.bin, DL.binE, DL.appN, DL.appNE, DL.aCons, DL.aNil, DL.aConsE, DL.kc, DL.itN, DL.itX, DL.un1, DL.notB, DL.orB, DL.andB, DL.notV, DL.andV, DL.orV, DL.ifV, DL.chn, DL.oNone, DL.oSome, DL.sl3, DL.mthV, DL.mkT, DL.mkTE, DL.mkL, DL.yesB, DL.gSh_eq, DL.gAny_eq, DL.gS_sh, DL.gA_sh, DL.gA_own, DL.gA_io, DL.ownL_eq, DL.oL_own, DL.oL_io, DL.put_own, DL.put_io, DL.bind_ok, DL.ofO_some, DL.at_ok, DL.ne_ok, DL.asB_bl', DL.asI_int', DL.tru_bl, DL.tru_int, DL.tru_lst, DL.len_tx, DL.len_lst, DL.len_tup, DL.ix_tx, DL.ix_lst, DL.ix_tup, DL.sl_tx, DL.sl_lst, DL.sl_tup, DL.plus_tx, DL.plus_int, DL.plus_lst, DL.plus_tup, DL.cat_lst, DL.rep_lst1, DL.zD_tx, DL.zD_lst, DL.zD_tup, DL.rev_tx, DL.en_tx, DL.asStr_tx, DL.tup_lst, DL.lst_tup, DL.isi_tx, DL.isi_int, DL.isi_intb, DL.isi_tt, DL.isi_lt, DL.sub_int', DL.add_ip, DL.sub_ip, DL.mul_int', DL.lt_int, DL.gt_int, DL.ge_int, DL.le_int, DL.eq_int, DL.ne_int, DL.eq_tx, DL.ne_tx, DL.isn_int, DL.isn_non, DL.isb, DL.neg_int, DL.int_int, DL.atI_nat, DL.atI_zero, DL.atI_one, DL.atI_two, DL.atI_three, DL.atI_succ, DL.atI_last, DL.cut_to, DL.cut_from, DL.cut_both, DL.cut_butlast, PySem.sizeLine_eq, DL.sum_nl, DL.sum_nt, DL.gSet, DL.gTupD, DL.gsCons, DL.gsNil, DL.ini, DL.setS, tb, e3]
    by_cases h1 : r < G (F.drop (q + 1))
    · rw [if_pos h1] at h
      cases h
      have c1 : tst (bin ltD (gAny 4) (bin ixD (gAny 8) (bin plusD (gAny 9) (kc (.int 1))))) [.sh a, .sh b, .sh k, .sh t, .sh (ni r), .own (.lst (es.map ni)), .sh (ni s), .sh l, .sh (tb G F), .sh (ni q)] = .ok true := by
        simp (disch := first | omega | (simp; done) | (simp; omega)) [DL.withEnv, DL.tst, DL.tstE, DL.tru, DL.truE, DL.bin, DL.binE, DL.appN, DL.appNE, DL.aCons, DL.aNil, DL.aConsE, DL.kc, DL.itN, DL.itX, DL.un1, DL.notB, DL.orB, DL.andB, DL.notV, DL.andV, DL.orV, DL.ifV, DL.chn, DL.oNone, DL.oSome, DL.sl3, DL.mthV, DL.mkT, DL.mkTE, DL.mkL, DL.yesB, DL.gSh_eq, DL.gAny_eq, DL.gS_sh, DL.gA_sh, DL.gA_own, DL.gA_io, DL.ownL_eq, DL.oL_own, DL.oL_io, DL.put_own, DL.put_io, DL.bind_ok, DL.ofO_some, DL.at_ok, DL.ne_ok, DL.asB_bl', DL.asI_int', DL.tru_bl, DL.tru_int, DL.tru_lst, DL.len_tx, DL.len_lst, DL.len_tup, DL.ix_tx, DL.ix_lst, DL.ix_tup, DL.sl_tx, DL.sl_lst, DL.sl_tup, DL.plus_tx, DL.plus_int, DL.plus_lst, DL.plus_tup, DL.cat_lst, DL.rep_lst1, DL.zD_tx, DL.zD_lst, DL.zD_tup, DL.rev_tx, DL.en_tx, DL.asStr_tx, DL.tup_lst, DL.lst_tup, DL.isi_tx, DL.isi_int, DL.isi_intb, DL.isi_tt, DL.isi_lt, DL.sub_int', DL.add_ip, DL.sub_ip, DL.mul_int', DL.lt_int, DL.gt_int, DL.ge_int, DL.le_int, DL.eq_int, DL.ne_int, DL.eq_tx, DL.ne_tx, DL.isn_int, DL.isn_non, DL.isb, DL.neg_int, DL.int_int, DL.atI_nat, DL.atI_zero, DL.atI_one, DL.atI_two, DL.atI_three, DL.atI_succ, DL.atI_last, DL.cut_to, DL.cut_from, DL.cut_both, DL.cut_butlast, PySem.sizeLine_eq, DL.sum_nl, DL.sum_nt, DL.gSet, DL.gTupD, DL.gsCons, DL.gsNil, DL.ini, DL.setS, tb, e3, h1]
      have c2 : bin plusD (gAny 9) (kc (.int 1)) [.sh a, .sh b, .sh k, .sh t, .sh (ni r), .own (.lst ((es ++ [q]).map ni)), .sh (ni s), .sh l, .sh (tb G F), .sh (ni q)] = .ok (ni (q + 1)) := by
        simp (disch := first | omega | (simp; done) | (simp; omega)) [DL.withEnv, DL.tst, DL.tstE, DL.tru, DL.truE, DL.bin, DL.binE, DL.appN, DL.appNE, DL.aCons, DL.aNil, DL.aConsE, DL.kc, DL.itN, DL.itX, DL.un1, DL.notB, DL.orB, DL.andB, DL.notV, DL.andV, DL.orV, DL.ifV, DL.chn, DL.oNone, DL.oSome, DL.sl3, DL.mthV, DL.mkT, DL.mkTE, DL.mkL, DL.yesB, DL.gSh_eq, DL.gAny_eq, DL.gS_sh, DL.gA_sh, DL.gA_own, DL.gA_io, DL.ownL_eq, DL.oL_own, DL.oL_io, DL.put_own, DL.put_io, DL.bind_ok, DL.ofO_some, DL.at_ok, DL.ne_ok, DL.asB_bl', DL.asI_int', DL.tru_bl, DL.tru_int, DL.tru_lst, DL.len_tx, DL.len_lst, DL.len_tup, DL.ix_tx, DL.ix_lst, DL.ix_tup, DL.sl_tx, DL.sl_lst, DL.sl_tup, DL.plus_tx, DL.plus_int, DL.plus_lst, DL.plus_tup, DL.cat_lst, DL.rep_lst1, DL.zD_tx, DL.zD_lst, DL.zD_tup, DL.rev_tx, DL.en_tx, DL.asStr_tx, DL.tup_lst, DL.lst_tup, DL.isi_tx, DL.isi_int, DL.isi_intb, DL.isi_tt, DL.isi_lt, DL.sub_int', DL.add_ip, DL.sub_ip, DL.mul_int', DL.lt_int, DL.gt_int, DL.ge_int, DL.le_int, DL.eq_int, DL.ne_int, DL.eq_tx, DL.ne_tx, DL.isn_int, DL.isn_non, DL.isb, DL.neg_int, DL.int_int, DL.atI_nat, DL.atI_zero, DL.atI_one, DL.atI_two, DL.atI_three, DL.atI_succ, DL.atI_last, DL.cut_to, DL.cut_from, DL.cut_both, DL.cut_butlast, PySem.sizeLine_eq, DL.sum_nl, DL.sum_nt, DL.gSet, DL.gTupD, DL.gsCons, DL.gsNil, DL.ini, DL.setS]
      have c3 : appS 5 (gSh 9) [.sh a, .sh b, .sh k, .sh t, .sh (ni r), .own (.lst (es.map ni)), .sh (ni s), .sh l, .sh (tb G F), .sh (ni q)] = .ok (.nx [.sh a, .sh b, .sh k, .sh t, .sh (ni r), .own (.lst ((es ++ [q]).map ni)), .sh (ni s), .sh l, .sh (tb G F), .sh (ni q)]) := by
        have := app_ok (r := [.sh a, .sh b, .sh k, .sh t, .sh (ni r), .own (.lst (es.map ni)), .sh (ni s), .sh l, .sh (tb G F), .sh (ni q)]) (i := 5) (s := .own (.lst (es.map ni))) (xs := es.map ni) (fe := gSh 9) (d := ni q) rfl rfl (by simp; omega)
        rw [List.map_append]
        exact this
      rw [seq_bk (r1 := [.sh a, .sh b, .sh k, .sh t, .sh (ni r), .own (.lst ((es ++ [q]).map ni)), .sh (ni (q + 1)), .sh l, .sh (tb G F), .sh (ni q)]) (if_y (cond_p c1) (seq_nx c3 (seq_nx (set_p c2) rfl)))]
      rfl
    · rw [if_neg h1] at h
      have c1 : tst (bin ltD (gAny 4) (bin ixD (gAny 8) (bin plusD (gAny 9) (kc (.int 1))))) [.sh a, .sh b, .sh k, .sh t, .sh (ni r), .own (.lst (es.map ni)), .sh (ni s), .sh l, .sh (tb G F), .sh (ni q)] = .ok false := by
        simp (disch := first | omega | (simp; done) | (simp; omega)) [DL.withEnv, DL.tst, DL.tstE, DL.tru, DL.truE, DL.bin, DL.binE, DL.appN, DL.appNE, DL.aCons, DL.aNil, DL.aConsE, DL.kc, DL.itN, DL.itX, DL.un1, DL.notB, DL.orB, DL.andB, DL.notV, DL.andV, DL.orV, DL.ifV, DL.chn, DL.oNone, DL.oSome, DL.sl3, DL.mthV, DL.mkT, DL.mkTE, DL.mkL, DL.yesB, DL.gSh_eq, DL.gAny_eq, DL.gS_sh, DL.gA_sh, DL.gA_own, DL.gA_io, DL.ownL_eq, DL.oL_own, DL.oL_io, DL.put_own, DL.put_io, DL.bind_ok, DL.ofO_some, DL.at_ok, DL.ne_ok, DL.asB_bl', DL.asI_int', DL.tru_bl, DL.tru_int, DL.tru_lst, DL.len_tx, DL.len_lst, DL.len_tup, DL.ix_tx, DL.ix_lst, DL.ix_tup, DL.sl_tx, DL.sl_lst, DL.sl_tup, DL.plus_tx, DL.plus_int, DL.plus_lst, DL.plus_tup, DL.cat_lst, DL.rep_lst1, DL.zD_tx, DL.zD_lst, DL.zD_tup, DL.rev_tx, DL.en_tx, DL.asStr_tx, DL.tup_lst, DL.lst_tup, DL.isi_tx, DL.isi_int, DL.isi_intb, DL.isi_tt, DL.isi_lt, DL.sub_int', DL.add_ip, DL.sub_ip, DL.mul_int', DL.lt_int, DL.gt_int, DL.ge_int, DL.le_int, DL.eq_int, DL.ne_int, DL.eq_tx, DL.ne_tx, DL.isn_int, DL.isn_non, DL.isb, DL.neg_int, DL.int_int, DL.atI_nat, DL.atI_zero, DL.atI_one, DL.atI_two, DL.atI_three, DL.atI_succ, DL.atI_last, DL.cut_to, DL.cut_from, DL.cut_both, DL.cut_butlast, PySem.sizeLine_eq, DL.sum_nl, DL.sum_nt, DL.gSet, DL.gTupD, DL.gsCons, DL.gsNil, DL.ini, DL.setS, tb, e3, h1]
      have c4 : (ni r : D) = .int (r : Nat) := rfl
      have c5 : intOp (fun _ _ => true) (fun i j => i - j) (ni r) (ni (G (F.drop (q + 1)))) = some (ni (r - G (F.drop (q + 1)))) := by
        rw [sub_ip]
        congr 2
        omega
      rw [seq_nx (r1 := [.sh a, .sh b, .sh k, .sh t, .sh (ni r), .own (.lst (es.map ni)), .sh (ni s), .sh l, .sh (tb G F), .sh (ni q)]) (if_n (cond_p c1) rfl) (aug_ok rfl c0 c5)]
      exact pick_loop a b t k l ps (r - G (F.drop (q + 1))) p r' s es (.sh (ni q)) hl (fun z hz => hp z (List.mem_cons_of_mem _ hz)) h
theorem at_loop {F : List Nat} (hF : F.length ≤ 200) (b t k : D) : ∀ (g : List Nat) (s r : Nat) (es : List Nat) (x y z : Slot), s ≤ F.length → r < W g (F.drop s) → es.length + g.length ≤ 1000 →
    ∃ x' y' z' r' s', forD (gTupD 2 (gsCons (gSet 7) (gsCons (gSet 8) gsNil))) (forS (withEnv (itX zD (callF 3 F_places_from (aCons (gSh 0) (aCons (gSh 7) (aCons (gSh 6) aNil)))))) (gSet 9) (seqS (ifS (withEnv (tst (bin ltD (gAny 4) (bin ixD (gAny 8) (bin plusD (gAny 9) (kc (.int 1))))))) (seqS (appS 5 (gSh 9)) (seqS (setS 6 (withEnv (bin plusD (gAny 9) (kc (.int 1))))) brkS)) skipS) (augS 4 (intOp (fun _ _ => true) fun i j => i - j) (bin ixD (gAny 8) (bin plusD (gAny 9) (kc (.int 1)))))))
      (List.zipWith (fun x y => D.tup [x, y]) (g.map fun c => tx [c]) (Tl F g)) [.sh (tx F), .sh b, .sh k, .sh t, .sh (ni r), .own (.lst (es.map ni)), .sh (ni s), x, y, z] = .ok (.nx [.sh (tx F), .sh b, .sh k, .sh t, r', .own (.lst ((es ++ at_ F g s r).map ni)), s', x', y', z'])
  | [], s, r, es, x, y, z, hs, h, hl => ⟨x, y, z, _, _, by simp only [at_, List.append_nil]; rfl⟩
  | c :: g, s, r, es, x, y, z, hs, h, hl => by
    obtain ⟨h1, h2⟩ := W_lt h
    obtain ⟨pre, p, post, r', e1, e2, e3, e4⟩ := sel_ok h2
    have hp : p ∈ pl F c s := by rw [e1]; simp
    obtain ⟨p1, p2, p3⟩ := pl_mem hp
    have ea : at_ F (c :: g) s r = p :: at_ F g (p + 1) r' := by simp only [at_, e2]
    simp only [List.length_cons] at hl
    obtain ⟨x', y', z', r2, s2, ih⟩ := at_loop hF b t k g (p + 1) r' (es ++ [p]) (.sh (tx [c])) (.sh (tb (W g) F)) (.sh (ni p)) (by omega) e4 (by rw [List.length_append, List.length_singleton]; omega)
    refine ⟨x', y', z', r2, s2, ?_⟩
    rw [ea]
    have ee : es ++ p :: at_ F g (p + 1) r' = es ++ [p] ++ at_ F g (p + 1) r' := by simp
    rw [ee, List.map_cons]
    show forD _ _ (D.tup [tx [c], tb (W g) F] :: List.zipWith _ (g.map fun c => tx [c]) (Tl F g)) _ = _
    unfold forD
    have eg : gTupD 2 (gsCons (gSet 7) (gsCons (gSet 8) gsNil)) (.tup [tx [c], tb (W g) F]) [.sh (tx F), .sh b, .sh k, .sh t, .sh (ni r), .own (.lst (es.map ni)), .sh (ni s), x, y, z] = .ok [.sh (tx F), .sh b, .sh k, .sh t, .sh (ni r), .own (.lst (es.map ni)), .sh (ni s), .sh (tx [c]), .sh (tb (W g) F), z] := rfl
    rw [eg]
    simp only [bind_ok]
    have c1 : callF 3 F_places_from (aCons (gSh 0) (aCons (gSh 7) (aCons (gSh 6) aNil))) [.sh (tx F), .sh b, .sh k, .sh t, .sh (ni r), .own (.lst (es.map ni)), .sh (ni s), .sh (tx [c]), .sh (tb (W g) F), z] = .ok (.lst ((pl F c s).map ni)) := call_p (ds := [tx F, tx [c], ni s]) rfl rfl (places_from_ok hF hs)
    have c2 : itX zD (callF 3 F_places_from (aCons (gSh 0) (aCons (gSh 7) (aCons (gSh 6) aNil)))) [.sh (tx F), .sh b, .sh k, .sh t, .sh (ni r), .own (.lst (es.map ni)), .sh (ni s), .sh (tx [c]), .sh (tb (W g) F), z] = .ok ((pl F c s).map ni) := by
      simp (disch := first | omega | (simp; done) | (simp; omega)) [DL.withEnv, DL.tst, DL.tstE, DL.tru, DL.truE, DL.bin, DL.binE, DL.appN, DL.appNE, DL.aCons, DL.aNil, DL.aConsE, DL.kc, DL.itN, DL.itX, DL.un1, DL.notB, DL.orB, DL.andB, DL.notV, DL.andV, DL.orV, DL.ifV, DL.chn, DL.oNone, DL.oSome, DL.sl3, DL.mthV, DL.mkT, DL.mkTE, DL.mkL, DL.yesB, DL.gSh_eq, DL.gAny_eq, DL.gS_sh, DL.gA_sh, DL.gA_own, DL.gA_io, DL.ownL_eq, DL.oL_own, DL.oL_io, DL.put_own, DL.put_io, DL.bind_ok, DL.ofO_some, DL.at_ok, DL.ne_ok, DL.asB_bl', DL.asI_int', DL.tru_bl, DL.tru_int, DL.tru_lst, DL.len_tx, DL.len_lst, DL.len_tup, DL.ix_tx, DL.ix_lst, DL.ix_tup, DL.sl_tx, DL.sl_lst, DL.sl_tup, DL.plus_tx, DL.plus_int, DL.plus_lst, DL.plus_tup, DL.cat_lst, DL.rep_lst1, DL.zD_tx, DL.zD_lst, DL.zD_tup, DL.rev_tx, DL.en_tx, DL.asStr_tx, DL.tup_lst, DL.lst_tup, DL.isi_tx, DL.isi_int, DL.isi_intb, DL.isi_tt, DL.isi_lt, DL.sub_int', DL.add_ip, DL.sub_ip, DL.mul_int', DL.lt_int, DL.gt_int, DL.ge_int, DL.le_int, DL.eq_int, DL.ne_int, DL.eq_tx, DL.ne_tx, DL.isn_int, DL.isn_non, DL.isb, DL.neg_int, DL.int_int, DL.atI_nat, DL.atI_zero, DL.atI_one, DL.atI_two, DL.atI_three, DL.atI_succ, DL.atI_last, DL.cut_to, DL.cut_from, DL.cut_both, DL.cut_butlast, PySem.sizeLine_eq, DL.sum_nl, DL.sum_nt, DL.gSet, DL.gTupD, DL.gsCons, DL.gsNil, DL.ini, DL.setS, c1]
    rw [for_p c2 (pick_loop (G := W g) (tx F) b t k (tx [c]) (pl F c s) r p r' s es z (by omega) (fun q hq => (pl_mem hq).2.1) e2)]
    exact ih
theorem parting_at_ok {F g : List Nat} {r : Nat} (hF : Film F) (hg : Film g) (h : r < W g F) : F_parting_at [tx F, tx g, ni r] = .ok (tn (at_ F g 0 r)) := by
  have e1 : callF 2 F_counts_behind (aCons (gSh 0) (aCons (gSh 1) aNil)) [.sh (tx F), .sh (tx g), .sh (ni r), .un, .un, .un, .un, .un, .un, .un] = .ok (.lst (T F g)) := call_p (ds := [tx F, tx g]) rfl rfl (counts_behind_ok hF.2.1 hg.2.1)
  have e2 := T_get (F := F) (g := g) (k := 0) (Nat.zero_le _)
  have e3 := tb_get (G := W g) (F := F) (p := 0) (Nat.zero_le _)
  have hb : bin geD (gAny 2) (bin ixD (bin ixD (gAny 3) (kc (.int 0))) (kc (.int 0))) [.sh (tx F), .sh (tx g), .sh (ni r), .sh (.lst (T F g)), .un, .un, .un, .un, .un, .un] = .ok (.bl false) := by
    have h2 : ¬ W g F ≤ r := by omega
    simp (disch := first | omega | (simp; done) | (simp; omega)) [DL.withEnv, DL.tst, DL.tstE, DL.tru, DL.truE, DL.bin, DL.binE, DL.appN, DL.appNE, DL.aCons, DL.aNil, DL.aConsE, DL.kc, DL.itN, DL.itX, DL.un1, DL.notB, DL.orB, DL.andB, DL.notV, DL.andV, DL.orV, DL.ifV, DL.chn, DL.oNone, DL.oSome, DL.sl3, DL.mthV, DL.mkT, DL.mkTE, DL.mkL, DL.yesB, DL.gSh_eq, DL.gAny_eq, DL.gS_sh, DL.gA_sh, DL.gA_own, DL.gA_io, DL.ownL_eq, DL.oL_own, DL.oL_io, DL.put_own, DL.put_io, DL.bind_ok, DL.ofO_some, DL.at_ok, DL.ne_ok, DL.asB_bl', DL.asI_int', DL.tru_bl, DL.tru_int, DL.tru_lst, DL.len_tx, DL.len_lst, DL.len_tup, DL.ix_tx, DL.ix_lst, DL.ix_tup, DL.sl_tx, DL.sl_lst, DL.sl_tup, DL.plus_tx, DL.plus_int, DL.plus_lst, DL.plus_tup, DL.cat_lst, DL.rep_lst1, DL.zD_tx, DL.zD_lst, DL.zD_tup, DL.rev_tx, DL.en_tx, DL.asStr_tx, DL.tup_lst, DL.lst_tup, DL.isi_tx, DL.isi_int, DL.isi_intb, DL.isi_tt, DL.isi_lt, DL.sub_int', DL.add_ip, DL.sub_ip, DL.mul_int', DL.lt_int, DL.gt_int, DL.ge_int, DL.le_int, DL.eq_int, DL.ne_int, DL.eq_tx, DL.ne_tx, DL.isn_int, DL.isn_non, DL.isb, DL.neg_int, DL.int_int, DL.atI_nat, DL.atI_zero, DL.atI_one, DL.atI_two, DL.atI_three, DL.atI_succ, DL.atI_last, DL.cut_to, DL.cut_from, DL.cut_both, DL.cut_butlast, PySem.sizeLine_eq, DL.sum_nl, DL.sum_nt, DL.gSet, DL.gTupD, DL.gsCons, DL.gsNil, DL.ini, DL.setS, e2, e3, tb, h2]
  have e4 : itN zip2D (aCons (gSh 1) (aCons (sl3 slA (gAny 3) (oSome (kc (.int 1))) oNone) aNil)) [.sh (tx F), .sh (tx g), .sh (ni r), .sh (.lst (T F g)), .sh (ni r), .own (.lst []), .sh (ni 0), .un, .un, .un] = .ok (List.zipWith (fun x y => D.tup [x, y]) (g.map fun c => tx [c]) (Tl F g)) := by
    have c1 : cutL (T F g) (some 1) none = Tl F g := (cut_from (T F g) 1).trans (T_drop F g)
    simp (disch := first | omega | (simp; done) | (simp; omega)) [DL.withEnv, DL.tst, DL.tstE, DL.tru, DL.truE, DL.bin, DL.binE, DL.appN, DL.appNE, DL.aCons, DL.aNil, DL.aConsE, DL.kc, DL.itN, DL.itX, DL.un1, DL.notB, DL.orB, DL.andB, DL.notV, DL.andV, DL.orV, DL.ifV, DL.chn, DL.oNone, DL.oSome, DL.sl3, DL.mthV, DL.mkT, DL.mkTE, DL.mkL, DL.yesB, DL.gSh_eq, DL.gAny_eq, DL.gS_sh, DL.gA_sh, DL.gA_own, DL.gA_io, DL.ownL_eq, DL.oL_own, DL.oL_io, DL.put_own, DL.put_io, DL.bind_ok, DL.ofO_some, DL.at_ok, DL.ne_ok, DL.asB_bl', DL.asI_int', DL.tru_bl, DL.tru_int, DL.tru_lst, DL.len_tx, DL.len_lst, DL.len_tup, DL.ix_tx, DL.ix_lst, DL.ix_tup, DL.sl_tx, DL.sl_lst, DL.sl_tup, DL.plus_tx, DL.plus_int, DL.plus_lst, DL.plus_tup, DL.cat_lst, DL.rep_lst1, DL.zD_tx, DL.zD_lst, DL.zD_tup, DL.rev_tx, DL.en_tx, DL.asStr_tx, DL.tup_lst, DL.lst_tup, DL.isi_tx, DL.isi_int, DL.isi_intb, DL.isi_tt, DL.isi_lt, DL.sub_int', DL.add_ip, DL.sub_ip, DL.mul_int', DL.lt_int, DL.gt_int, DL.ge_int, DL.le_int, DL.eq_int, DL.ne_int, DL.eq_tx, DL.ne_tx, DL.isn_int, DL.isn_non, DL.isb, DL.neg_int, DL.int_int, DL.atI_nat, DL.atI_zero, DL.atI_one, DL.atI_two, DL.atI_three, DL.atI_succ, DL.atI_last, DL.cut_to, DL.cut_from, DL.cut_both, DL.cut_butlast, PySem.sizeLine_eq, DL.sum_nl, DL.sum_nt, DL.gSet, DL.gTupD, DL.gsCons, DL.gsNil, DL.ini, DL.setS, c1, zip2_any (zD_tx g) (zD_lst (Tl F g))]
  obtain ⟨x', y', z', r', s', e5⟩ := at_loop hF.2.1 (tx g) (.lst (T F g)) (ni r) g 0 r [] .un .un .un (Nat.zero_le _) h (by have := hg.2.1; simp; omega)
  rw [List.nil_append] at e5
  refine fnD_rt (r1 := _) rfl (show b_parting_at [.sh (tx F), .sh (tx g), .sh (ni r), .un, .un, .un, .un, .un, .un, .un] = .ok (.rt (tn (at_ F g 0 r)) [.sh (tx F), .sh (tx g), .sh (ni r), .sh (.lst (T F g)), r', .own (.lst ((at_ F g 0 r).map ni)), s', x', y', z']) from ?_)
  unfold b_parting_at
  refine seq_nx (expr_p (call_p (ds := [tx F]) rfl rfl (check_film_ok hF))) ?_
  refine seq_nx (expr_p (call_p (ds := [tx g]) rfl rfl (check_film_ok hg))) ?_
  refine seq_nx (expr_p (call_p (ds := [ni r]) rfl rfl (check_rank_ok r))) ?_
  refine seq_nx (r1 := [.sh (tx F), .sh (tx g), .sh (ni r), .sh (.lst (T F g)), .un, .un, .un, .un, .un, .un]) (set_p e1) ?_
  refine seq_nx (r1 := [.sh (tx F), .sh (tx g), .sh (ni r), .sh (.lst (T F g)), .un, .un, .un, .un, .un, .un]) (if_n (cond_p (b := false) ?_) rfl) ?_
  · exact congrArg (fun z => z.bind fun d => R.ofO (asB d)) hb
  refine seq_nx (r1 := [.sh (tx F), .sh (tx g), .sh (ni r), .sh (.lst (T F g)), .sh (ni r), .un, .un, .un, .un, .un]) (set_p rfl) ?_
  refine seq_nx (r1 := [.sh (tx F), .sh (tx g), .sh (ni r), .sh (.lst (T F g)), .sh (ni r), .own (.lst []), .un, .un, .un, .un]) (seto (d := .lst []) ?_) ?_
  · simp (disch := first | omega | (simp; done) | (simp; omega)) [DL.withEnv, DL.tst, DL.tstE, DL.tru, DL.truE, DL.bin, DL.binE, DL.appN, DL.appNE, DL.aCons, DL.aNil, DL.aConsE, DL.kc, DL.itN, DL.itX, DL.un1, DL.notB, DL.orB, DL.andB, DL.notV, DL.andV, DL.orV, DL.ifV, DL.chn, DL.oNone, DL.oSome, DL.sl3, DL.mthV, DL.mkT, DL.mkTE, DL.mkL, DL.yesB, DL.gSh_eq, DL.gAny_eq, DL.gS_sh, DL.gA_sh, DL.gA_own, DL.gA_io, DL.ownL_eq, DL.oL_own, DL.oL_io, DL.put_own, DL.put_io, DL.bind_ok, DL.ofO_some, DL.at_ok, DL.ne_ok, DL.asB_bl', DL.asI_int', DL.tru_bl, DL.tru_int, DL.tru_lst, DL.len_tx, DL.len_lst, DL.len_tup, DL.ix_tx, DL.ix_lst, DL.ix_tup, DL.sl_tx, DL.sl_lst, DL.sl_tup, DL.plus_tx, DL.plus_int, DL.plus_lst, DL.plus_tup, DL.cat_lst, DL.rep_lst1, DL.zD_tx, DL.zD_lst, DL.zD_tup, DL.rev_tx, DL.en_tx, DL.asStr_tx, DL.tup_lst, DL.lst_tup, DL.isi_tx, DL.isi_int, DL.isi_intb, DL.isi_tt, DL.isi_lt, DL.sub_int', DL.add_ip, DL.sub_ip, DL.mul_int', DL.lt_int, DL.gt_int, DL.ge_int, DL.le_int, DL.eq_int, DL.ne_int, DL.eq_tx, DL.ne_tx, DL.isn_int, DL.isn_non, DL.isb, DL.neg_int, DL.int_int, DL.atI_nat, DL.atI_zero, DL.atI_one, DL.atI_two, DL.atI_three, DL.atI_succ, DL.atI_last, DL.cut_to, DL.cut_from, DL.cut_both, DL.cut_butlast, PySem.sizeLine_eq, DL.sum_nl, DL.sum_nt, DL.gSet, DL.gTupD, DL.gsCons, DL.gsNil, DL.ini, DL.setS]
  refine seq_nx (r1 := [.sh (tx F), .sh (tx g), .sh (ni r), .sh (.lst (T F g)), .sh (ni r), .own (.lst []), .sh (ni 0), .un, .un, .un]) (set_p rfl) ?_
  refine seq_nx (for_p e4 e5) (ret_p ?_)
  simp (disch := first | omega | (simp; done) | (simp; omega)) [DL.withEnv, DL.tst, DL.tstE, DL.tru, DL.truE, DL.bin, DL.binE, DL.appN, DL.appNE, DL.aCons, DL.aNil, DL.aConsE, DL.kc, DL.itN, DL.itX, DL.un1, DL.notB, DL.orB, DL.andB, DL.notV, DL.andV, DL.orV, DL.ifV, DL.chn, DL.oNone, DL.oSome, DL.sl3, DL.mthV, DL.mkT, DL.mkTE, DL.mkL, DL.yesB, DL.gSh_eq, DL.gAny_eq, DL.gS_sh, DL.gA_sh, DL.gA_own, DL.gA_io, DL.ownL_eq, DL.oL_own, DL.oL_io, DL.put_own, DL.put_io, DL.bind_ok, DL.ofO_some, DL.at_ok, DL.ne_ok, DL.asB_bl', DL.asI_int', DL.tru_bl, DL.tru_int, DL.tru_lst, DL.len_tx, DL.len_lst, DL.len_tup, DL.ix_tx, DL.ix_lst, DL.ix_tup, DL.sl_tx, DL.sl_lst, DL.sl_tup, DL.plus_tx, DL.plus_int, DL.plus_lst, DL.plus_tup, DL.cat_lst, DL.rep_lst1, DL.zD_tx, DL.zD_lst, DL.zD_tup, DL.rev_tx, DL.en_tx, DL.asStr_tx, DL.tup_lst, DL.lst_tup, DL.isi_tx, DL.isi_int, DL.isi_intb, DL.isi_tt, DL.isi_lt, DL.sub_int', DL.add_ip, DL.sub_ip, DL.mul_int', DL.lt_int, DL.gt_int, DL.ge_int, DL.le_int, DL.eq_int, DL.ne_int, DL.eq_tx, DL.ne_tx, DL.isn_int, DL.isn_non, DL.isb, DL.neg_int, DL.int_int, DL.atI_nat, DL.atI_zero, DL.atI_one, DL.atI_two, DL.atI_three, DL.atI_succ, DL.atI_last, DL.cut_to, DL.cut_from, DL.cut_both, DL.cut_butlast, PySem.sizeLine_eq, DL.sum_nl, DL.sum_nt, DL.gSet, DL.gTupD, DL.gsCons, DL.gsNil, DL.ini, DL.setS]
end LW

namespace LW
open PySem DL PT

/-! rank_of_parting -/
theorem rk_loop {F : List Nat} (hF : F.length ≤ 200) (b v t : D) : ∀ (g es : List Nat) (s a : Nat) (x y z : Slot), es.length = g.length → isP F g s es = true →
    ∃ x' y' z' s', forD (gTupD 3 (gsCons (gSet 6) (gsCons (gSet 7) (gsCons (gSet 8) gsNil)))) (seqS (augS 4 (intOp (fun _ _ => true) fun i j => i + j) (appN sumD (aCons (lcD [("end", 9)] (itX zD (callF 3 F_places_from (aCons (gSh 0) (aCons (gSh 6) (aCons (gSh 5) aNil))))) (gSet 9) (tst (bin ltD (gAny 9) (gAny 8))) (bin ixD (gAny 7) (bin plusD (gAny 9) (kc (.int 1))))) aNil))) (setS 5 (withEnv (bin plusD (gAny 8) (kc (.int 1))))))
      (List.zipWith (fun x (r : D × D) => D.tup [x, r.1, r.2]) (g.map fun c => tx [c]) (List.zipWith (fun y u => (y, u)) (Tl F g) (es.map ni))) [.sh (tx F), .sh b, .sh v, .sh t, .sh (ni a), .sh (ni s), x, y, z, .un] = .ok (.nx [.sh (tx F), .sh b, .sh v, .sh t, .sh (ni (a + rk F g s es)), s', x', y', z', .un])
  | [], es, s, a, x, y, z, hl, h => by
    have : es = [] := List.eq_nil_of_length_eq_zero (by simpa using hl)
    subst this
    exact ⟨x, y, z, _, rfl⟩
  | c :: g, [], s, a, x, y, z, hl, h => by simp at hl
  | c :: g, e :: es, s, a, x, y, z, hl, h => by
    unfold isP at h
    split at h
    · rename_i h1
      simp only [Bool.and_eq_true, decide_eq_true_eq] at h1
      split at h
      · rename_i h2
        obtain ⟨x', y', z', s', ih⟩ := rk_loop hF b v t g es (e + 1) (a + (((pl F c s).filter fun q => decide (q < e)).map fun p => W g (F.drop (p + 1))).sum) (.sh (tx [c])) (.sh (tb (W g) F)) (.sh (ni e)) (by simpa using hl) h
        refine ⟨x', y', z', s', ?_⟩
        have er : a + rk F (c :: g) s (e :: es) = a + (((pl F c s).filter fun q => decide (q < e)).map fun p => W g (F.drop (p + 1))).sum + rk F g (e + 1) es := by
          simp only [rk]
          omega
        rw [er]
        show forD _ _ (D.tup [tx [c], tb (W g) F, ni e] :: List.zipWith _ (g.map fun c => tx [c]) (List.zipWith _ (Tl F g) (es.map ni))) _ = _
        unfold forD
        have eg : gTupD 3 (gsCons (gSet 6) (gsCons (gSet 7) (gsCons (gSet 8) gsNil))) (.tup [tx [c], tb (W g) F, ni e]) [.sh (tx F), .sh b, .sh v, .sh t, .sh (ni a), .sh (ni s), x, y, z, .un] = .ok [.sh (tx F), .sh b, .sh v, .sh t, .sh (ni a), .sh (ni s), .sh (tx [c]), .sh (tb (W g) F), .sh (ni e), .un] := rfl
        rw [eg]
        simp only [bind_ok]
        have c1 : callF 3 F_places_from (aCons (gSh 0) (aCons (gSh 6) (aCons (gSh 5) aNil))) [.sh (tx F), .sh b, .sh v, .sh t, .sh (ni a), .sh (ni s), .sh (tx [c]), .sh (tb (W g) F), .sh (ni e), .un] = .ok (.lst ((pl F c s).map ni)) := call_p (ds := [tx F, tx [c], ni s]) rfl rfl (places_from_ok hF (by omega))
        have c2 : itX zD (callF 3 F_places_from (aCons (gSh 0) (aCons (gSh 6) (aCons (gSh 5) aNil)))) [.sh (tx F), .sh b, .sh v, .sh t, .sh (ni a), .sh (ni s), .sh (tx [c]), .sh (tb (W g) F), .sh (ni e), .un] = .ok ((pl F c s).map ni) := by
          simp (disch := first | omega | (simp; done) | (simp; omega)) [DL.withEnv, DL.tst, DL.tstE, DL.tru, DL.truE, DL.bin, DL.binE, DL.appN, DL.appNE, DL.aCons, DL.aNil, DL.aConsE, DL.kc, DL.itN, DL.itX, DL.un1, DL.notB, DL.orB, DL.andB, DL.notV, DL.andV, DL.orV, DL.ifV, DL.chn, DL.oNone, DL.oSome, DL.sl3, DL.mthV, DL.mkT, DL.mkTE, DL.mkL, DL.yesB, DL.gSh_eq, DL.gAny_eq, DL.gS_sh, DL.gA_sh, DL.gA_own, DL.gA_io, DL.ownL_eq, DL.oL_own, DL.oL_io, DL.put_own, DL.put_io, DL.bind_ok, DL.ofO_some, DL.at_ok, DL.ne_ok, DL.asB_bl', DL.asI_int', DL.tru_bl, DL.tru_int, DL.tru_lst, DL.len_tx, DL.len_lst, DL.len_tup, DL.ix_tx, DL.ix_lst, DL.ix_tup, DL.sl_tx, DL.sl_lst, DL.sl_tup, DL.plus_tx, DL.plus_int, DL.plus_lst, DL.plus_tup, DL.cat_lst, DL.rep_lst1, DL.zD_tx, DL.zD_lst, DL.zD_tup, DL.rev_tx, DL.en_tx, DL.asStr_tx, DL.tup_lst, DL.lst_tup, DL.isi_tx, DL.isi_int, DL.isi_intb, DL.isi_tt, DL.isi_lt, DL.sub_int', DL.add_ip, DL.sub_ip, DL.mul_int', DL.lt_int, DL.gt_int, DL.ge_int, DL.le_int, DL.eq_int, DL.ne_int, DL.eq_tx, DL.ne_tx, DL.isn_int, DL.isn_non, DL.isb, DL.neg_int, DL.int_int, DL.atI_nat, DL.atI_zero, DL.atI_one, DL.atI_two, DL.atI_three, DL.atI_succ, DL.atI_last, DL.cut_to, DL.cut_from, DL.cut_both, DL.cut_butlast, PySem.sizeLine_eq, DL.sum_nl, DL.sum_nt, DL.gSet, DL.gTupD, DL.gsCons, DL.gsNil, DL.ini, DL.setS, c1]
        have pn : (pl F c s).length ≤ F.length := by
          unfold pl
          exact Nat.le_trans (List.length_filter_le ..) (by simp)
        have c3 := lcV_ok (own := [("end", 9)]) (g := gSet 9) (c := tst (bin ltD (gAny 9) (gAny 8))) (f := bin ixD (gAny 7) (bin plusD (gAny 9) (kc (.int 1)))) (fun d => match d with | .int i => decide (i < (e : Int)) | _ => false) (fun d => match d with | .int i => ni (W g (F.drop (i.toNat + 1))) | _ => .non) rfl c2 (by rw [List.length_map, sizeLine_eq]; omega) (fun d hd => by
          obtain ⟨q, hq, ex⟩ := List.mem_map.mp hd
          obtain ⟨q1, q2, q3⟩ := pl_mem hq
          subst ex
          have e3 := tb_get (G := W g) (F := F) (p := q + 1) (by omega)
          refine ⟨[.sh (tx F), .sh b, .sh v, .sh t, .sh (ni a), .sh (ni s), .sh (tx [c]), .sh (tb (W g) F), .sh (ni e), .sh (ni q)], rfl, ?_, fun _ => ?_⟩
          · simp (disch := first | omega | (simp; done) | (simp; omega)) [DL.withEnv, DL.tst, DL.tstE, DL.tru, DL.truE, DL.bin, DL.binE, DL.appN, DL.appNE, DL.aCons, DL.aNil, DL.aConsE, DL.kc, DL.itN, DL.itX, DL.un1, DL.notB, DL.orB, DL.andB, DL.notV, DL.andV, DL.orV, DL.ifV, DL.chn, DL.oNone, DL.oSome, DL.sl3, DL.mthV, DL.mkT, DL.mkTE, DL.mkL, DL.yesB, DL.gSh_eq, DL.gAny_eq, DL.gS_sh, DL.gA_sh, DL.gA_own, DL.gA_io, DL.ownL_eq, DL.oL_own, DL.oL_io, DL.put_own, DL.put_io, DL.bind_ok, DL.ofO_some, DL.at_ok, DL.ne_ok, DL.asB_bl', DL.asI_int', DL.tru_bl, DL.tru_int, DL.tru_lst, DL.len_tx, DL.len_lst, DL.len_tup, DL.ix_tx, DL.ix_lst, DL.ix_tup, DL.sl_tx, DL.sl_lst, DL.sl_tup, DL.plus_tx, DL.plus_int, DL.plus_lst, DL.plus_tup, DL.cat_lst, DL.rep_lst1, DL.zD_tx, DL.zD_lst, DL.zD_tup, DL.rev_tx, DL.en_tx, DL.asStr_tx, DL.tup_lst, DL.lst_tup, DL.isi_tx, DL.isi_int, DL.isi_intb, DL.isi_tt, DL.isi_lt, DL.sub_int', DL.add_ip, DL.sub_ip, DL.mul_int', DL.lt_int, DL.gt_int, DL.ge_int, DL.le_int, DL.eq_int, DL.ne_int, DL.eq_tx, DL.ne_tx, DL.isn_int, DL.isn_non, DL.isb, DL.neg_int, DL.int_int, DL.atI_nat, DL.atI_zero, DL.atI_one, DL.atI_two, DL.atI_three, DL.atI_succ, DL.atI_last, DL.cut_to, DL.cut_from, DL.cut_both, DL.cut_butlast, PySem.sizeLine_eq, DL.sum_nl, DL.sum_nt, DL.gSet, DL.gTupD, DL.gsCons, DL.gsNil, DL.ini, DL.setS]
          · simp (disch := first | omega | (simp; done) | (simp; omega)) [DL.withEnv, DL.tst, DL.tstE, DL.tru, DL.truE, DL.bin, DL.binE, DL.appN, DL.appNE, DL.aCons, DL.aNil, DL.aConsE, DL.kc, DL.itN, DL.itX, DL.un1, DL.notB, DL.orB, DL.andB, DL.notV, DL.andV, DL.orV, DL.ifV, DL.chn, DL.oNone, DL.oSome, DL.sl3, DL.mthV, DL.mkT, DL.mkTE, DL.mkL, DL.yesB, DL.gSh_eq, DL.gAny_eq, DL.gS_sh, DL.gA_sh, DL.gA_own, DL.gA_io, DL.ownL_eq, DL.oL_own, DL.oL_io, DL.put_own, DL.put_io, DL.bind_ok, DL.ofO_some, DL.at_ok, DL.ne_ok, DL.asB_bl', DL.asI_int', DL.tru_bl, DL.tru_int, DL.tru_lst, DL.len_tx, DL.len_lst, DL.len_tup, DL.ix_tx, DL.ix_lst, DL.ix_tup, DL.sl_tx, DL.sl_lst, DL.sl_tup, DL.plus_tx, DL.plus_int, DL.plus_lst, DL.plus_tup, DL.cat_lst, DL.rep_lst1, DL.zD_tx, DL.zD_lst, DL.zD_tup, DL.rev_tx, DL.en_tx, DL.asStr_tx, DL.tup_lst, DL.lst_tup, DL.isi_tx, DL.isi_int, DL.isi_intb, DL.isi_tt, DL.isi_lt, DL.sub_int', DL.add_ip, DL.sub_ip, DL.mul_int', DL.lt_int, DL.gt_int, DL.ge_int, DL.le_int, DL.eq_int, DL.ne_int, DL.eq_tx, DL.ne_tx, DL.isn_int, DL.isn_non, DL.isb, DL.neg_int, DL.int_int, DL.atI_nat, DL.atI_zero, DL.atI_one, DL.atI_two, DL.atI_three, DL.atI_succ, DL.atI_last, DL.cut_to, DL.cut_from, DL.cut_both, DL.cut_butlast, PySem.sizeLine_eq, DL.sum_nl, DL.sum_nt, DL.gSet, DL.gTupD, DL.gsCons, DL.gsNil, DL.ini, DL.setS, tb, e3])
        have c4 : (((pl F c s).map ni).filter (fun d => match d with | .int i => decide (i < (e : Int)) | _ => false)).map (fun d => match d with | .int i => ni (W g (F.drop (i.toNat + 1))) | _ => .non) = ((((pl F c s).filter fun q => decide (q < e)).map fun p => W g (F.drop (p + 1)))).map ni := by
          rw [List.filter_map, List.map_map, List.map_map]
          have h5 : ((fun d : D => match d with | .int i => decide (i < (e : Int)) | _ => false) ∘ ni) = fun q => decide (q < e) := by
            funext q
            simp [ni]
          rw [h5]
          rfl
        rw [c4] at c3
        have c5 : appN sumD (aCons (lcD [("end", 9)] (itX zD (callF 3 F_places_from (aCons (gSh 0) (aCons (gSh 6) (aCons (gSh 5) aNil))))) (gSet 9) (tst (bin ltD (gAny 9) (gAny 8))) (bin ixD (gAny 7) (bin plusD (gAny 9) (kc (.int 1))))) aNil) [.sh (tx F), .sh b, .sh v, .sh t, .sh (ni a), .sh (ni s), .sh (tx [c]), .sh (tb (W g) F), .sh (ni e), .un] = .ok (ni ((((pl F c s).filter fun q => decide (q < e)).map fun p => W g (F.drop (p + 1))).sum)) := by
          exact app1_ok c3 (sum_nl _)
        have c6 : intOp (fun _ _ => true) (fun i j => i + j) (ni a) (ni ((((pl F c s).filter fun q => decide (q < e)).map fun p => W g (F.drop (p + 1))).sum)) = some (ni (a + (((pl F c s).filter fun q => decide (q < e)).map fun p => W g (F.drop (p + 1))).sum)) := by
          rw [add_ip]
          congr 2
        have c7 : bin plusD (gAny 8) (kc (.int 1)) [.sh (tx F), .sh b, .sh v, .sh t, .sh (ni (a + (((pl F c s).filter fun q => decide (q < e)).map fun p => W g (F.drop (p + 1))).sum)), .sh (ni s), .sh (tx [c]), .sh (tb (W g) F), .sh (ni e), .un] = .ok (ni (e + 1)) := by
          simp (disch := first | omega | (simp; done) | (simp; omega)) [DL.withEnv, DL.tst, DL.tstE, DL.tru, DL.truE, DL.bin, DL.binE, DL.appN, DL.appNE, DL.aCons, DL.aNil, DL.aConsE, DL.kc, DL.itN, DL.itX, DL.un1, DL.notB, DL.orB, DL.andB, DL.notV, DL.andV, DL.orV, DL.ifV, DL.chn, DL.oNone, DL.oSome, DL.sl3, DL.mthV, DL.mkT, DL.mkTE, DL.mkL, DL.yesB, DL.gSh_eq, DL.gAny_eq, DL.gS_sh, DL.gA_sh, DL.gA_own, DL.gA_io, DL.ownL_eq, DL.oL_own, DL.oL_io, DL.put_own, DL.put_io, DL.bind_ok, DL.ofO_some, DL.at_ok, DL.ne_ok, DL.asB_bl', DL.asI_int', DL.tru_bl, DL.tru_int, DL.tru_lst, DL.len_tx, DL.len_lst, DL.len_tup, DL.ix_tx, DL.ix_lst, DL.ix_tup, DL.sl_tx, DL.sl_lst, DL.sl_tup, DL.plus_tx, DL.plus_int, DL.plus_lst, DL.plus_tup, DL.cat_lst, DL.rep_lst1, DL.zD_tx, DL.zD_lst, DL.zD_tup, DL.rev_tx, DL.en_tx, DL.asStr_tx, DL.tup_lst, DL.lst_tup, DL.isi_tx, DL.isi_int, DL.isi_intb, DL.isi_tt, DL.isi_lt, DL.sub_int', DL.add_ip, DL.sub_ip, DL.mul_int', DL.lt_int, DL.gt_int, DL.ge_int, DL.le_int, DL.eq_int, DL.ne_int, DL.eq_tx, DL.ne_tx, DL.isn_int, DL.isn_non, DL.isb, DL.neg_int, DL.int_int, DL.atI_nat, DL.atI_zero, DL.atI_one, DL.atI_two, DL.atI_three, DL.atI_succ, DL.atI_last, DL.cut_to, DL.cut_from, DL.cut_both, DL.cut_butlast, PySem.sizeLine_eq, DL.sum_nl, DL.sum_nt, DL.gSet, DL.gTupD, DL.gsCons, DL.gsNil, DL.ini, DL.setS]
        rw [seq_nx (r1 := [.sh (tx F), .sh b, .sh v, .sh t, .sh (ni (a + (((pl F c s).filter fun q => decide (q < e)).map fun p => W g (F.drop (p + 1))).sum)), .sh (ni s), .sh (tx [c]), .sh (tb (W g) F), .sh (ni e), .un]) (aug_ok rfl c5 c6) (set_p c7)]
        exact ih
      · cases h
    · cases h
theorem rank_no {F g es : List Nat} (hF : Film F) (hg : Film g) (hl : es.length = g.length) (h : isP F g 0 es = false) : F_rank_of_parting [tx F, tx g, tn es] = .ok .non := by
  have e1 : callF 3 F_is_parting_for (aCons (gSh 0) (aCons (gSh 1) (aCons (gSh 2) aNil))) [.sh (tx F), .sh (tx g), .sh (tn es), .un, .un, .un, .un, .un, .un, .un] = .ok (.bl false) := call_p (ds := [tx F, tx g, tn es]) rfl rfl (by rw [← h]; exact is_parting_for_ok hF.2.1 hg.2.1 hl)
  refine fnD_rt (r1 := _) rfl (show b_rank_of_parting [.sh (tx F), .sh (tx g), .sh (tn es), .un, .un, .un, .un, .un, .un, .un] = .ok (.rt .non [.sh (tx F), .sh (tx g), .sh (tn es), .un, .un, .un, .un, .un, .un, .un]) from ?_)
  unfold b_rank_of_parting
  refine seq_nx (expr_p (call_p (ds := [tx F]) rfl rfl (check_film_ok hF))) ?_
  refine seq_nx (expr_p (call_p (ds := [tx g]) rfl rfl (check_film_ok hg))) ?_
  refine seq_rt (if_y (cond_p (b := true) ?_) (ret_p rfl))
  simp (disch := first | omega | (simp; done) | (simp; omega)) [DL.withEnv, DL.tst, DL.tstE, DL.tru, DL.truE, DL.bin, DL.binE, DL.appN, DL.appNE, DL.aCons, DL.aNil, DL.aConsE, DL.kc, DL.itN, DL.itX, DL.un1, DL.notB, DL.orB, DL.andB, DL.notV, DL.andV, DL.orV, DL.ifV, DL.chn, DL.oNone, DL.oSome, DL.sl3, DL.mthV, DL.mkT, DL.mkTE, DL.mkL, DL.yesB, DL.gSh_eq, DL.gAny_eq, DL.gS_sh, DL.gA_sh, DL.gA_own, DL.gA_io, DL.ownL_eq, DL.oL_own, DL.oL_io, DL.put_own, DL.put_io, DL.bind_ok, DL.ofO_some, DL.at_ok, DL.ne_ok, DL.asB_bl', DL.asI_int', DL.tru_bl, DL.tru_int, DL.tru_lst, DL.len_tx, DL.len_lst, DL.len_tup, DL.ix_tx, DL.ix_lst, DL.ix_tup, DL.sl_tx, DL.sl_lst, DL.sl_tup, DL.plus_tx, DL.plus_int, DL.plus_lst, DL.plus_tup, DL.cat_lst, DL.rep_lst1, DL.zD_tx, DL.zD_lst, DL.zD_tup, DL.rev_tx, DL.en_tx, DL.asStr_tx, DL.tup_lst, DL.lst_tup, DL.isi_tx, DL.isi_int, DL.isi_intb, DL.isi_tt, DL.isi_lt, DL.sub_int', DL.add_ip, DL.sub_ip, DL.mul_int', DL.lt_int, DL.gt_int, DL.ge_int, DL.le_int, DL.eq_int, DL.ne_int, DL.eq_tx, DL.ne_tx, DL.isn_int, DL.isn_non, DL.isb, DL.neg_int, DL.int_int, DL.atI_nat, DL.atI_zero, DL.atI_one, DL.atI_two, DL.atI_three, DL.atI_succ, DL.atI_last, DL.cut_to, DL.cut_from, DL.cut_both, DL.cut_butlast, PySem.sizeLine_eq, DL.sum_nl, DL.sum_nt, DL.gSet, DL.gTupD, DL.gsCons, DL.gsNil, DL.ini, DL.setS, e1]
theorem rank_ok {F g es : List Nat} (hF : Film F) (hg : Film g) (hl : es.length = g.length) (h : isP F g 0 es = true) : F_rank_of_parting [tx F, tx g, tn es] = .ok (ni (rk F g 0 es)) := by
  have e1 : callF 3 F_is_parting_for (aCons (gSh 0) (aCons (gSh 1) (aCons (gSh 2) aNil))) [.sh (tx F), .sh (tx g), .sh (tn es), .un, .un, .un, .un, .un, .un, .un] = .ok (.bl true) := call_p (ds := [tx F, tx g, tn es]) rfl rfl (by rw [← h]; exact is_parting_for_ok hF.2.1 hg.2.1 hl)
  have e2 : callF 2 F_counts_behind (aCons (gSh 0) (aCons (gSh 1) aNil)) [.sh (tx F), .sh (tx g), .sh (tn es), .un, .un, .un, .un, .un, .un, .un] = .ok (.lst (T F g)) := call_p (ds := [tx F, tx g]) rfl rfl (counts_behind_ok hF.2.1 hg.2.1)
  have e4 : itN zip3D (aCons (gSh 1) (aCons (sl3 slA (gAny 3) (oSome (kc (.int 1))) oNone) (aCons (gSh 2) aNil))) [.sh (tx F), .sh (tx g), .sh (tn es), .sh (.lst (T F g)), .sh (ni 0), .sh (ni 0), .un, .un, .un, .un] = .ok (List.zipWith (fun x (r : D × D) => D.tup [x, r.1, r.2]) (g.map fun c => tx [c]) (List.zipWith (fun y u => (y, u)) (Tl F g) (es.map ni))) := by
    have c1 : cutL (T F g) (some 1) none = Tl F g := (cut_from (T F g) 1).trans (T_drop F g)
    simp (disch := first | omega | (simp; done) | (simp; omega)) [DL.withEnv, DL.tst, DL.tstE, DL.tru, DL.truE, DL.bin, DL.binE, DL.appN, DL.appNE, DL.aCons, DL.aNil, DL.aConsE, DL.kc, DL.itN, DL.itX, DL.un1, DL.notB, DL.orB, DL.andB, DL.notV, DL.andV, DL.orV, DL.ifV, DL.chn, DL.oNone, DL.oSome, DL.sl3, DL.mthV, DL.mkT, DL.mkTE, DL.mkL, DL.yesB, DL.gSh_eq, DL.gAny_eq, DL.gS_sh, DL.gA_sh, DL.gA_own, DL.gA_io, DL.ownL_eq, DL.oL_own, DL.oL_io, DL.put_own, DL.put_io, DL.bind_ok, DL.ofO_some, DL.at_ok, DL.ne_ok, DL.asB_bl', DL.asI_int', DL.tru_bl, DL.tru_int, DL.tru_lst, DL.len_tx, DL.len_lst, DL.len_tup, DL.ix_tx, DL.ix_lst, DL.ix_tup, DL.sl_tx, DL.sl_lst, DL.sl_tup, DL.plus_tx, DL.plus_int, DL.plus_lst, DL.plus_tup, DL.cat_lst, DL.rep_lst1, DL.zD_tx, DL.zD_lst, DL.zD_tup, DL.rev_tx, DL.en_tx, DL.asStr_tx, DL.tup_lst, DL.lst_tup, DL.isi_tx, DL.isi_int, DL.isi_intb, DL.isi_tt, DL.isi_lt, DL.sub_int', DL.add_ip, DL.sub_ip, DL.mul_int', DL.lt_int, DL.gt_int, DL.ge_int, DL.le_int, DL.eq_int, DL.ne_int, DL.eq_tx, DL.ne_tx, DL.isn_int, DL.isn_non, DL.isb, DL.neg_int, DL.int_int, DL.atI_nat, DL.atI_zero, DL.atI_one, DL.atI_two, DL.atI_three, DL.atI_succ, DL.atI_last, DL.cut_to, DL.cut_from, DL.cut_both, DL.cut_butlast, PySem.sizeLine_eq, DL.sum_nl, DL.sum_nt, DL.gSet, DL.gTupD, DL.gsCons, DL.gsNil, DL.ini, DL.setS, c1, zip3_any (zD_tx g) (zD_lst (Tl F g)) (zD_tup (es.map ni))]
  obtain ⟨x', y', z', s', e5⟩ := rk_loop hF.2.1 (tx g) (tn es) (.lst (T F g)) g es 0 0 .un .un .un hl h
  rw [Nat.zero_add] at e5
  refine fnD_rt (r1 := _) rfl (show b_rank_of_parting [.sh (tx F), .sh (tx g), .sh (tn es), .un, .un, .un, .un, .un, .un, .un] = .ok (.rt (ni (rk F g 0 es)) [.sh (tx F), .sh (tx g), .sh (tn es), .sh (.lst (T F g)), .sh (ni (rk F g 0 es)), s', x', y', z', .un]) from ?_)
  unfold b_rank_of_parting
  refine seq_nx (expr_p (call_p (ds := [tx F]) rfl rfl (check_film_ok hF))) ?_
  refine seq_nx (expr_p (call_p (ds := [tx g]) rfl rfl (check_film_ok hg))) ?_
  refine seq_nx (if_n (cond_p (b := false) ?_) rfl) ?_
  · simp (disch := first | omega | (simp; done) | (simp; omega)) [DL.withEnv, DL.tst, DL.tstE, DL.tru, DL.truE, DL.bin, DL.binE, DL.appN, DL.appNE, DL.aCons, DL.aNil, DL.aConsE, DL.kc, DL.itN, DL.itX, DL.un1, DL.notB, DL.orB, DL.andB, DL.notV, DL.andV, DL.orV, DL.ifV, DL.chn, DL.oNone, DL.oSome, DL.sl3, DL.mthV, DL.mkT, DL.mkTE, DL.mkL, DL.yesB, DL.gSh_eq, DL.gAny_eq, DL.gS_sh, DL.gA_sh, DL.gA_own, DL.gA_io, DL.ownL_eq, DL.oL_own, DL.oL_io, DL.put_own, DL.put_io, DL.bind_ok, DL.ofO_some, DL.at_ok, DL.ne_ok, DL.asB_bl', DL.asI_int', DL.tru_bl, DL.tru_int, DL.tru_lst, DL.len_tx, DL.len_lst, DL.len_tup, DL.ix_tx, DL.ix_lst, DL.ix_tup, DL.sl_tx, DL.sl_lst, DL.sl_tup, DL.plus_tx, DL.plus_int, DL.plus_lst, DL.plus_tup, DL.cat_lst, DL.rep_lst1, DL.zD_tx, DL.zD_lst, DL.zD_tup, DL.rev_tx, DL.en_tx, DL.asStr_tx, DL.tup_lst, DL.lst_tup, DL.isi_tx, DL.isi_int, DL.isi_intb, DL.isi_tt, DL.isi_lt, DL.sub_int', DL.add_ip, DL.sub_ip, DL.mul_int', DL.lt_int, DL.gt_int, DL.ge_int, DL.le_int, DL.eq_int, DL.ne_int, DL.eq_tx, DL.ne_tx, DL.isn_int, DL.isn_non, DL.isb, DL.neg_int, DL.int_int, DL.atI_nat, DL.atI_zero, DL.atI_one, DL.atI_two, DL.atI_three, DL.atI_succ, DL.atI_last, DL.cut_to, DL.cut_from, DL.cut_both, DL.cut_butlast, PySem.sizeLine_eq, DL.sum_nl, DL.sum_nt, DL.gSet, DL.gTupD, DL.gsCons, DL.gsNil, DL.ini, DL.setS, e1]
  refine seq_nx (r1 := [.sh (tx F), .sh (tx g), .sh (tn es), .sh (.lst (T F g)), .un, .un, .un, .un, .un, .un]) (set_p e2) ?_
  refine seq_nx (r1 := [.sh (tx F), .sh (tx g), .sh (tn es), .sh (.lst (T F g)), .sh (ni 0), .un, .un, .un, .un, .un]) (set_p rfl) ?_
  refine seq_nx (r1 := [.sh (tx F), .sh (tx g), .sh (tn es), .sh (.lst (T F g)), .sh (ni 0), .sh (ni 0), .un, .un, .un, .un]) (set_p rfl) ?_
  exact seq_nx (for_p e4 e5) (ret_p rfl)
/-! blocks -/
end LW

namespace LW
open PySem DL PT

def RowOk (row : List D) : Prop := ∃ (ns : List Int) (p : Nat) (q k : Int), ns.length ≤ 63 ∧ row = [.lst (ns.map D.int), ni p, .int q, .int k]
theorem at_int {ns : List Int} {i : Nat} (h : i < ns.length) : (ns.map D.int)[i]? = some (.int ns[i]) := by
  rw [List.getElem?_map, List.getElem?_eq_getElem h]
  rfl
theorem taken_ok {row : List D} {m : Nat} (h : RowOk row) (hm : 0 < m) (hm2 : m ≤ 1000000) : ∃ (v : Nat) (row' : List D), F__law_taken row [ni m] = .ok (ni v, row') ∧ RowOk row' ∧ v < m := by
  obtain ⟨ns, p, q, k, hn, er⟩ := h
  subst er
  have m0 : (0 : Int) < (m : Int) := by omega
  have m1 : (0 : Int) < (m : Int) ∧ (m : Int) < 1073741824 := by omega
  have val : ∀ x : Int, ∃ v : Nat, x % (m : Int) = (v : Int) ∧ v < m := fun x => by
    have h1 := Int.emod_nonneg x (by omega : (m : Int) ≠ 0)
    have h2 := Int.emod_lt_of_pos x m0
    exact ⟨(x % (m : Int)).toNat, by omega, by omega⟩
  by_cases hk : 0 < k
  · obtain ⟨v, ev, hv⟩ := val k
    refine ⟨v, [.lst (ns.map D.int), ni p, .int q, .int (k / (m : Int))], ?_, ⟨ns, p, q, _, hn, rfl⟩, hv⟩
    refine fnIO_rt (r1 := [.sh (ni m), .sh (ni v), .un]) rfl (show b__law_taken [.io (.lst [.lst (ns.map D.int), ni p, .int q, .int k]), .sh (ni m), .un, .un] = _ from ?_)
    unfold b__law_taken
    refine seq_rt (if_y (cond_p (b := true) (by simp (disch := first | omega | (simp; done) | (simp; omega)) [DL.withEnv, DL.tst, DL.tstE, DL.tru, DL.truE, DL.bin, DL.binE, DL.appN, DL.appNE, DL.aCons, DL.aNil, DL.aConsE, DL.kc, DL.itN, DL.itX, DL.un1, DL.notB, DL.orB, DL.andB, DL.notV, DL.andV, DL.orV, DL.ifV, DL.chn, DL.oNone, DL.oSome, DL.sl3, DL.mthV, DL.mkT, DL.mkTE, DL.mkL, DL.yesB, DL.gSh_eq, DL.gAny_eq, DL.gS_sh, DL.gA_sh, DL.gA_own, DL.gA_io, DL.ownL_eq, DL.oL_own, DL.oL_io, DL.put_own, DL.put_io, DL.bind_ok, DL.ofO_some, DL.at_ok, DL.ne_ok, DL.asB_bl', DL.asI_int', DL.tru_bl, DL.tru_int, DL.tru_lst, DL.len_tx, DL.len_lst, DL.len_tup, DL.ix_tx, DL.ix_lst, DL.ix_tup, DL.sl_tx, DL.sl_lst, DL.sl_tup, DL.plus_tx, DL.plus_int, DL.plus_lst, DL.plus_tup, DL.cat_lst, DL.rep_lst1, DL.zD_tx, DL.zD_lst, DL.zD_tup, DL.rev_tx, DL.en_tx, DL.asStr_tx, DL.tup_lst, DL.lst_tup, DL.isi_tx, DL.isi_int, DL.isi_intb, DL.isi_tt, DL.isi_lt, DL.sub_int', DL.add_ip, DL.sub_ip, DL.mul_int', DL.lt_int, DL.gt_int, DL.ge_int, DL.le_int, DL.eq_int, DL.ne_int, DL.eq_tx, DL.ne_tx, DL.isn_int, DL.isn_non, DL.isb, DL.neg_int, DL.int_int, DL.atI_nat, DL.atI_zero, DL.atI_one, DL.atI_two, DL.atI_three, DL.atI_succ, DL.atI_last, DL.cut_to, DL.cut_from, DL.cut_both, DL.cut_butlast, PySem.sizeLine_eq, DL.sum_nl, DL.sum_nt, DL.gSet, DL.gTupD, DL.gsCons, DL.gsNil, DL.ini, DL.setS, hk])) ?_)
    refine seq_nx (r1 := [.io (.lst [.lst (ns.map D.int), ni p, .int q, .int k]), .sh (ni m), .sh (ni v), .un]) (set_p (d := ni v) (by simp (disch := first | omega | (simp; done) | (simp; omega)) [DL.withEnv, DL.tst, DL.tstE, DL.tru, DL.truE, DL.bin, DL.binE, DL.appN, DL.appNE, DL.aCons, DL.aNil, DL.aConsE, DL.kc, DL.itN, DL.itX, DL.un1, DL.notB, DL.orB, DL.andB, DL.notV, DL.andV, DL.orV, DL.ifV, DL.chn, DL.oNone, DL.oSome, DL.sl3, DL.mthV, DL.mkT, DL.mkTE, DL.mkL, DL.yesB, DL.gSh_eq, DL.gAny_eq, DL.gS_sh, DL.gA_sh, DL.gA_own, DL.gA_io, DL.ownL_eq, DL.oL_own, DL.oL_io, DL.put_own, DL.put_io, DL.bind_ok, DL.ofO_some, DL.at_ok, DL.ne_ok, DL.asB_bl', DL.asI_int', DL.tru_bl, DL.tru_int, DL.tru_lst, DL.len_tx, DL.len_lst, DL.len_tup, DL.ix_tx, DL.ix_lst, DL.ix_tup, DL.sl_tx, DL.sl_lst, DL.sl_tup, DL.plus_tx, DL.plus_int, DL.plus_lst, DL.plus_tup, DL.cat_lst, DL.rep_lst1, DL.zD_tx, DL.zD_lst, DL.zD_tup, DL.rev_tx, DL.en_tx, DL.asStr_tx, DL.tup_lst, DL.lst_tup, DL.isi_tx, DL.isi_int, DL.isi_intb, DL.isi_tt, DL.isi_lt, DL.sub_int', DL.add_ip, DL.sub_ip, DL.mul_int', DL.lt_int, DL.gt_int, DL.ge_int, DL.le_int, DL.eq_int, DL.ne_int, DL.eq_tx, DL.ne_tx, DL.isn_int, DL.isn_non, DL.isb, DL.neg_int, DL.int_int, DL.atI_nat, DL.atI_zero, DL.atI_one, DL.atI_two, DL.atI_three, DL.atI_succ, DL.atI_last, DL.cut_to, DL.cut_from, DL.cut_both, DL.cut_butlast, PySem.sizeLine_eq, DL.sum_nl, DL.sum_nt, DL.gSet, DL.gTupD, DL.gsCons, DL.gsNil, DL.ini, DL.setS, mod_int' m0, ev])) ?_
    refine seq_nx (itm_ok (s := .io (.lst [.lst (ns.map D.int), ni p, .int q, .int k])) (xs := [.lst (ns.map D.int), ni p, .int q, .int k]) (d := .int (k / (m : Int))) (k := 3) (j := 3) (by simp (disch := first | omega | (simp; done) | (simp; omega)) [DL.withEnv, DL.tst, DL.tstE, DL.tru, DL.truE, DL.bin, DL.binE, DL.appN, DL.appNE, DL.aCons, DL.aNil, DL.aConsE, DL.kc, DL.itN, DL.itX, DL.un1, DL.notB, DL.orB, DL.andB, DL.notV, DL.andV, DL.orV, DL.ifV, DL.chn, DL.oNone, DL.oSome, DL.sl3, DL.mthV, DL.mkT, DL.mkTE, DL.mkL, DL.yesB, DL.gSh_eq, DL.gAny_eq, DL.gS_sh, DL.gA_sh, DL.gA_own, DL.gA_io, DL.ownL_eq, DL.oL_own, DL.oL_io, DL.put_own, DL.put_io, DL.bind_ok, DL.ofO_some, DL.at_ok, DL.ne_ok, DL.asB_bl', DL.asI_int', DL.tru_bl, DL.tru_int, DL.tru_lst, DL.len_tx, DL.len_lst, DL.len_tup, DL.ix_tx, DL.ix_lst, DL.ix_tup, DL.sl_tx, DL.sl_lst, DL.sl_tup, DL.plus_tx, DL.plus_int, DL.plus_lst, DL.plus_tup, DL.cat_lst, DL.rep_lst1, DL.zD_tx, DL.zD_lst, DL.zD_tup, DL.rev_tx, DL.en_tx, DL.asStr_tx, DL.tup_lst, DL.lst_tup, DL.isi_tx, DL.isi_int, DL.isi_intb, DL.isi_tt, DL.isi_lt, DL.sub_int', DL.add_ip, DL.sub_ip, DL.mul_int', DL.lt_int, DL.gt_int, DL.ge_int, DL.le_int, DL.eq_int, DL.ne_int, DL.eq_tx, DL.ne_tx, DL.isn_int, DL.isn_non, DL.isb, DL.neg_int, DL.int_int, DL.atI_nat, DL.atI_zero, DL.atI_one, DL.atI_two, DL.atI_three, DL.atI_succ, DL.atI_last, DL.cut_to, DL.cut_from, DL.cut_both, DL.cut_butlast, PySem.sizeLine_eq, DL.sum_nl, DL.sum_nt, DL.gSet, DL.gTupD, DL.gsCons, DL.gsNil, DL.ini, DL.setS, fdiv_int' m1]) rfl rfl rfl) ?_
    exact ret_p rfl
  · have c0 : tst (bin gtD (bin ixD (gAny 0) (kc (.int 3))) (kc (.int 0))) [.io (.lst [.lst (ns.map D.int), ni p, .int q, .int k]), .sh (ni m), .un, .un] = .ok false := by simp (disch := first | omega | (simp; done) | (simp; omega)) [DL.withEnv, DL.tst, DL.tstE, DL.tru, DL.truE, DL.bin, DL.binE, DL.appN, DL.appNE, DL.aCons, DL.aNil, DL.aConsE, DL.kc, DL.itN, DL.itX, DL.un1, DL.notB, DL.orB, DL.andB, DL.notV, DL.andV, DL.orV, DL.ifV, DL.chn, DL.oNone, DL.oSome, DL.sl3, DL.mthV, DL.mkT, DL.mkTE, DL.mkL, DL.yesB, DL.gSh_eq, DL.gAny_eq, DL.gS_sh, DL.gA_sh, DL.gA_own, DL.gA_io, DL.ownL_eq, DL.oL_own, DL.oL_io, DL.put_own, DL.put_io, DL.bind_ok, DL.ofO_some, DL.at_ok, DL.ne_ok, DL.asB_bl', DL.asI_int', DL.tru_bl, DL.tru_int, DL.tru_lst, DL.len_tx, DL.len_lst, DL.len_tup, DL.ix_tx, DL.ix_lst, DL.ix_tup, DL.sl_tx, DL.sl_lst, DL.sl_tup, DL.plus_tx, DL.plus_int, DL.plus_lst, DL.plus_tup, DL.cat_lst, DL.rep_lst1, DL.zD_tx, DL.zD_lst, DL.zD_tup, DL.rev_tx, DL.en_tx, DL.asStr_tx, DL.tup_lst, DL.lst_tup, DL.isi_tx, DL.isi_int, DL.isi_intb, DL.isi_tt, DL.isi_lt, DL.sub_int', DL.add_ip, DL.sub_ip, DL.mul_int', DL.lt_int, DL.gt_int, DL.ge_int, DL.le_int, DL.eq_int, DL.ne_int, DL.eq_tx, DL.ne_tx, DL.isn_int, DL.isn_non, DL.isb, DL.neg_int, DL.int_int, DL.atI_nat, DL.atI_zero, DL.atI_one, DL.atI_two, DL.atI_three, DL.atI_succ, DL.atI_last, DL.cut_to, DL.cut_from, DL.cut_both, DL.cut_butlast, PySem.sizeLine_eq, DL.sum_nl, DL.sum_nt, DL.gSet, DL.gTupD, DL.gsCons, DL.gsNil, DL.ini, DL.setS, hk]
    by_cases hp : ns.length < p + 1
    · obtain ⟨v, ev, hv⟩ := val (((q * 48271 + 11) % 2147483647) / 7)
      refine ⟨v, [.lst (ns.map D.int), ni (p + 1), .int ((q * 48271 + 11) % 2147483647), .int k], ?_, ⟨ns, p + 1, _, _, hn, rfl⟩, hv⟩
      refine fnIO_rt (r1 := [.sh (ni m), .un, .un]) rfl (show b__law_taken [.io (.lst [.lst (ns.map D.int), ni p, .int q, .int k]), .sh (ni m), .un, .un] = _ from ?_)
      unfold b__law_taken
      refine seq_nx (if_n (cond_p c0) rfl) ?_
      refine seq_nx (r1 := [.io (.lst [.lst (ns.map D.int), ni (p + 1), .int q, .int k]), .sh (ni m), .un, .un]) (itm_ok (s := .io (.lst [.lst (ns.map D.int), ni p, .int q, .int k])) (xs := [.lst (ns.map D.int), ni p, .int q, .int k]) (d := ni (p + 1)) (k := 1) (j := 1) (by simp (disch := first | omega | (simp; done) | (simp; omega)) [DL.withEnv, DL.tst, DL.tstE, DL.tru, DL.truE, DL.bin, DL.binE, DL.appN, DL.appNE, DL.aCons, DL.aNil, DL.aConsE, DL.kc, DL.itN, DL.itX, DL.un1, DL.notB, DL.orB, DL.andB, DL.notV, DL.andV, DL.orV, DL.ifV, DL.chn, DL.oNone, DL.oSome, DL.sl3, DL.mthV, DL.mkT, DL.mkTE, DL.mkL, DL.yesB, DL.gSh_eq, DL.gAny_eq, DL.gS_sh, DL.gA_sh, DL.gA_own, DL.gA_io, DL.ownL_eq, DL.oL_own, DL.oL_io, DL.put_own, DL.put_io, DL.bind_ok, DL.ofO_some, DL.at_ok, DL.ne_ok, DL.asB_bl', DL.asI_int', DL.tru_bl, DL.tru_int, DL.tru_lst, DL.len_tx, DL.len_lst, DL.len_tup, DL.ix_tx, DL.ix_lst, DL.ix_tup, DL.sl_tx, DL.sl_lst, DL.sl_tup, DL.plus_tx, DL.plus_int, DL.plus_lst, DL.plus_tup, DL.cat_lst, DL.rep_lst1, DL.zD_tx, DL.zD_lst, DL.zD_tup, DL.rev_tx, DL.en_tx, DL.asStr_tx, DL.tup_lst, DL.lst_tup, DL.isi_tx, DL.isi_int, DL.isi_intb, DL.isi_tt, DL.isi_lt, DL.sub_int', DL.add_ip, DL.sub_ip, DL.mul_int', DL.lt_int, DL.gt_int, DL.ge_int, DL.le_int, DL.eq_int, DL.ne_int, DL.eq_tx, DL.ne_tx, DL.isn_int, DL.isn_non, DL.isb, DL.neg_int, DL.int_int, DL.atI_nat, DL.atI_zero, DL.atI_one, DL.atI_two, DL.atI_three, DL.atI_succ, DL.atI_last, DL.cut_to, DL.cut_from, DL.cut_both, DL.cut_butlast, PySem.sizeLine_eq, DL.sum_nl, DL.sum_nt, DL.gSet, DL.gTupD, DL.gsCons, DL.gsNil, DL.ini, DL.setS]) rfl rfl rfl) ?_
      have hp2 : (ns.length : Int) < (p : Int) + 1 := by omega
      refine seq_rt (if_y (cond_p (b := true) (by simp (disch := first | omega | (simp; done) | (simp; omega)) [DL.withEnv, DL.tst, DL.tstE, DL.tru, DL.truE, DL.bin, DL.binE, DL.appN, DL.appNE, DL.aCons, DL.aNil, DL.aConsE, DL.kc, DL.itN, DL.itX, DL.un1, DL.notB, DL.orB, DL.andB, DL.notV, DL.andV, DL.orV, DL.ifV, DL.chn, DL.oNone, DL.oSome, DL.sl3, DL.mthV, DL.mkT, DL.mkTE, DL.mkL, DL.yesB, DL.gSh_eq, DL.gAny_eq, DL.gS_sh, DL.gA_sh, DL.gA_own, DL.gA_io, DL.ownL_eq, DL.oL_own, DL.oL_io, DL.put_own, DL.put_io, DL.bind_ok, DL.ofO_some, DL.at_ok, DL.ne_ok, DL.asB_bl', DL.asI_int', DL.tru_bl, DL.tru_int, DL.tru_lst, DL.len_tx, DL.len_lst, DL.len_tup, DL.ix_tx, DL.ix_lst, DL.ix_tup, DL.sl_tx, DL.sl_lst, DL.sl_tup, DL.plus_tx, DL.plus_int, DL.plus_lst, DL.plus_tup, DL.cat_lst, DL.rep_lst1, DL.zD_tx, DL.zD_lst, DL.zD_tup, DL.rev_tx, DL.en_tx, DL.asStr_tx, DL.tup_lst, DL.lst_tup, DL.isi_tx, DL.isi_int, DL.isi_intb, DL.isi_tt, DL.isi_lt, DL.sub_int', DL.add_ip, DL.sub_ip, DL.mul_int', DL.lt_int, DL.gt_int, DL.ge_int, DL.le_int, DL.eq_int, DL.ne_int, DL.eq_tx, DL.ne_tx, DL.isn_int, DL.isn_non, DL.isb, DL.neg_int, DL.int_int, DL.atI_nat, DL.atI_zero, DL.atI_one, DL.atI_two, DL.atI_three, DL.atI_succ, DL.atI_last, DL.cut_to, DL.cut_from, DL.cut_both, DL.cut_butlast, PySem.sizeLine_eq, DL.sum_nl, DL.sum_nt, DL.gSet, DL.gTupD, DL.gsCons, DL.gsNil, DL.ini, DL.setS, hp2])) ?_)
      refine seq_nx (r1 := [.io (.lst [.lst (ns.map D.int), ni (p + 1), .int ((q * 48271 + 11) % 2147483647), .int k]), .sh (ni m), .un, .un]) (itm_ok (s := .io (.lst [.lst (ns.map D.int), ni (p + 1), .int q, .int k])) (xs := [.lst (ns.map D.int), ni (p + 1), .int q, .int k]) (d := .int ((q * 48271 + 11) % 2147483647)) (k := 2) (j := 2) ?_ rfl rfl rfl) (ret_p ?_)
      · simp (disch := first | omega | (simp; done) | (simp; omega)) [DL.withEnv, DL.tst, DL.tstE, DL.tru, DL.truE, DL.bin, DL.binE, DL.appN, DL.appNE, DL.aCons, DL.aNil, DL.aConsE, DL.kc, DL.itN, DL.itX, DL.un1, DL.notB, DL.orB, DL.andB, DL.notV, DL.andV, DL.orV, DL.ifV, DL.chn, DL.oNone, DL.oSome, DL.sl3, DL.mthV, DL.mkT, DL.mkTE, DL.mkL, DL.yesB, DL.gSh_eq, DL.gAny_eq, DL.gS_sh, DL.gA_sh, DL.gA_own, DL.gA_io, DL.ownL_eq, DL.oL_own, DL.oL_io, DL.put_own, DL.put_io, DL.bind_ok, DL.ofO_some, DL.at_ok, DL.ne_ok, DL.asB_bl', DL.asI_int', DL.tru_bl, DL.tru_int, DL.tru_lst, DL.len_tx, DL.len_lst, DL.len_tup, DL.ix_tx, DL.ix_lst, DL.ix_tup, DL.sl_tx, DL.sl_lst, DL.sl_tup, DL.plus_tx, DL.plus_int, DL.plus_lst, DL.plus_tup, DL.cat_lst, DL.rep_lst1, DL.zD_tx, DL.zD_lst, DL.zD_tup, DL.rev_tx, DL.en_tx, DL.asStr_tx, DL.tup_lst, DL.lst_tup, DL.isi_tx, DL.isi_int, DL.isi_intb, DL.isi_tt, DL.isi_lt, DL.sub_int', DL.add_ip, DL.sub_ip, DL.mul_int', DL.lt_int, DL.gt_int, DL.ge_int, DL.le_int, DL.eq_int, DL.ne_int, DL.eq_tx, DL.ne_tx, DL.isn_int, DL.isn_non, DL.isb, DL.neg_int, DL.int_int, DL.atI_nat, DL.atI_zero, DL.atI_one, DL.atI_two, DL.atI_three, DL.atI_succ, DL.atI_last, DL.cut_to, DL.cut_from, DL.cut_both, DL.cut_butlast, PySem.sizeLine_eq, DL.sum_nl, DL.sum_nt, DL.gSet, DL.gTupD, DL.gsCons, DL.gsNil, DL.ini, DL.setS, mul_int' (i := q) (j := 48271) (Or.inr (by decide)), mod_int' (j := 2147483647) (by decide)]
      · simp (disch := first | omega | (simp; done) | (simp; omega)) [DL.withEnv, DL.tst, DL.tstE, DL.tru, DL.truE, DL.bin, DL.binE, DL.appN, DL.appNE, DL.aCons, DL.aNil, DL.aConsE, DL.kc, DL.itN, DL.itX, DL.un1, DL.notB, DL.orB, DL.andB, DL.notV, DL.andV, DL.orV, DL.ifV, DL.chn, DL.oNone, DL.oSome, DL.sl3, DL.mthV, DL.mkT, DL.mkTE, DL.mkL, DL.yesB, DL.gSh_eq, DL.gAny_eq, DL.gS_sh, DL.gA_sh, DL.gA_own, DL.gA_io, DL.ownL_eq, DL.oL_own, DL.oL_io, DL.put_own, DL.put_io, DL.bind_ok, DL.ofO_some, DL.at_ok, DL.ne_ok, DL.asB_bl', DL.asI_int', DL.tru_bl, DL.tru_int, DL.tru_lst, DL.len_tx, DL.len_lst, DL.len_tup, DL.ix_tx, DL.ix_lst, DL.ix_tup, DL.sl_tx, DL.sl_lst, DL.sl_tup, DL.plus_tx, DL.plus_int, DL.plus_lst, DL.plus_tup, DL.cat_lst, DL.rep_lst1, DL.zD_tx, DL.zD_lst, DL.zD_tup, DL.rev_tx, DL.en_tx, DL.asStr_tx, DL.tup_lst, DL.lst_tup, DL.isi_tx, DL.isi_int, DL.isi_intb, DL.isi_tt, DL.isi_lt, DL.sub_int', DL.add_ip, DL.sub_ip, DL.mul_int', DL.lt_int, DL.gt_int, DL.ge_int, DL.le_int, DL.eq_int, DL.ne_int, DL.eq_tx, DL.ne_tx, DL.isn_int, DL.isn_non, DL.isb, DL.neg_int, DL.int_int, DL.atI_nat, DL.atI_zero, DL.atI_one, DL.atI_two, DL.atI_three, DL.atI_succ, DL.atI_last, DL.cut_to, DL.cut_from, DL.cut_both, DL.cut_butlast, PySem.sizeLine_eq, DL.sum_nl, DL.sum_nt, DL.gSet, DL.gTupD, DL.gsCons, DL.gsNil, DL.ini, DL.setS, mod_int' m0, fdiv_int' (j := 7) (by decide), ev]
    · have hpl : p < ns.length := by omega
      have ec := at_int hpl
      obtain ⟨v, ev, hv⟩ := val ns[p]
      have hp2 : ¬ (ns.length : Int) < (p : Int) + 1 := by omega
      have e1 : (p : Int) + 1 - 1 = (p : Int) := by omega
      have start : ∀ {x : DL.R Fl}, seqS (itmS 0 (kc (.int 2)) (bin modD (appN intD (aCons (bin plusD (bin plusD (bin mulD (bin ixD (gAny 0) (kc (.int 2))) (kc (.int 48271))) (gAny 3)) (kc (.int 11))) aNil)) (kc (.int 2147483647)))) (seqS (ifS (withEnv (tst (bin geD (gAny 3) (bin powD (kc (.int 10)) (kc (.int 18)))))) (itmS 0 (kc (.int 3)) (bin fdivD (gAny 3) (gAny 1))) skipS) (retS (withEnv (bin modD (appN intD (aCons (gAny 3) aNil)) (gAny 1))))) [.io (.lst [.lst (ns.map D.int), ni (p + 1), .int q, .int k]), .sh (ni m), .un, .sh (.int ns[p])] = x →
          b__law_taken [.io (.lst [.lst (ns.map D.int), ni p, .int q, .int k]), .sh (ni m), .un, .un] = x := fun {x} hx => by
        unfold b__law_taken
        refine seq_nx (if_n (cond_p c0) rfl) ?_
        refine seq_nx (r1 := [.io (.lst [.lst (ns.map D.int), ni (p + 1), .int q, .int k]), .sh (ni m), .un, .un]) (itm_ok (s := .io (.lst [.lst (ns.map D.int), ni p, .int q, .int k])) (xs := [.lst (ns.map D.int), ni p, .int q, .int k]) (d := ni (p + 1)) (k := 1) (j := 1) (by simp (disch := first | omega | (simp; done) | (simp; omega)) [DL.withEnv, DL.tst, DL.tstE, DL.tru, DL.truE, DL.bin, DL.binE, DL.appN, DL.appNE, DL.aCons, DL.aNil, DL.aConsE, DL.kc, DL.itN, DL.itX, DL.un1, DL.notB, DL.orB, DL.andB, DL.notV, DL.andV, DL.orV, DL.ifV, DL.chn, DL.oNone, DL.oSome, DL.sl3, DL.mthV, DL.mkT, DL.mkTE, DL.mkL, DL.yesB, DL.gSh_eq, DL.gAny_eq, DL.gS_sh, DL.gA_sh, DL.gA_own, DL.gA_io, DL.ownL_eq, DL.oL_own, DL.oL_io, DL.put_own, DL.put_io, DL.bind_ok, DL.ofO_some, DL.at_ok, DL.ne_ok, DL.asB_bl', DL.asI_int', DL.tru_bl, DL.tru_int, DL.tru_lst, DL.len_tx, DL.len_lst, DL.len_tup, DL.ix_tx, DL.ix_lst, DL.ix_tup, DL.sl_tx, DL.sl_lst, DL.sl_tup, DL.plus_tx, DL.plus_int, DL.plus_lst, DL.plus_tup, DL.cat_lst, DL.rep_lst1, DL.zD_tx, DL.zD_lst, DL.zD_tup, DL.rev_tx, DL.en_tx, DL.asStr_tx, DL.tup_lst, DL.lst_tup, DL.isi_tx, DL.isi_int, DL.isi_intb, DL.isi_tt, DL.isi_lt, DL.sub_int', DL.add_ip, DL.sub_ip, DL.mul_int', DL.lt_int, DL.gt_int, DL.ge_int, DL.le_int, DL.eq_int, DL.ne_int, DL.eq_tx, DL.ne_tx, DL.isn_int, DL.isn_non, DL.isb, DL.neg_int, DL.int_int, DL.atI_nat, DL.atI_zero, DL.atI_one, DL.atI_two, DL.atI_three, DL.atI_succ, DL.atI_last, DL.cut_to, DL.cut_from, DL.cut_both, DL.cut_butlast, PySem.sizeLine_eq, DL.sum_nl, DL.sum_nt, DL.gSet, DL.gTupD, DL.gsCons, DL.gsNil, DL.ini, DL.setS]) rfl rfl rfl) ?_
        refine seq_nx (if_n (cond_p (b := false) (by simp (disch := first | omega | (simp; done) | (simp; omega)) [DL.withEnv, DL.tst, DL.tstE, DL.tru, DL.truE, DL.bin, DL.binE, DL.appN, DL.appNE, DL.aCons, DL.aNil, DL.aConsE, DL.kc, DL.itN, DL.itX, DL.un1, DL.notB, DL.orB, DL.andB, DL.notV, DL.andV, DL.orV, DL.ifV, DL.chn, DL.oNone, DL.oSome, DL.sl3, DL.mthV, DL.mkT, DL.mkTE, DL.mkL, DL.yesB, DL.gSh_eq, DL.gAny_eq, DL.gS_sh, DL.gA_sh, DL.gA_own, DL.gA_io, DL.ownL_eq, DL.oL_own, DL.oL_io, DL.put_own, DL.put_io, DL.bind_ok, DL.ofO_some, DL.at_ok, DL.ne_ok, DL.asB_bl', DL.asI_int', DL.tru_bl, DL.tru_int, DL.tru_lst, DL.len_tx, DL.len_lst, DL.len_tup, DL.ix_tx, DL.ix_lst, DL.ix_tup, DL.sl_tx, DL.sl_lst, DL.sl_tup, DL.plus_tx, DL.plus_int, DL.plus_lst, DL.plus_tup, DL.cat_lst, DL.rep_lst1, DL.zD_tx, DL.zD_lst, DL.zD_tup, DL.rev_tx, DL.en_tx, DL.asStr_tx, DL.tup_lst, DL.lst_tup, DL.isi_tx, DL.isi_int, DL.isi_intb, DL.isi_tt, DL.isi_lt, DL.sub_int', DL.add_ip, DL.sub_ip, DL.mul_int', DL.lt_int, DL.gt_int, DL.ge_int, DL.le_int, DL.eq_int, DL.ne_int, DL.eq_tx, DL.ne_tx, DL.isn_int, DL.isn_non, DL.isb, DL.neg_int, DL.int_int, DL.atI_nat, DL.atI_zero, DL.atI_one, DL.atI_two, DL.atI_three, DL.atI_succ, DL.atI_last, DL.cut_to, DL.cut_from, DL.cut_both, DL.cut_butlast, PySem.sizeLine_eq, DL.sum_nl, DL.sum_nt, DL.gSet, DL.gTupD, DL.gsCons, DL.gsNil, DL.ini, DL.setS, hp2])) rfl) ?_
        exact seq_nx (r1 := [.io (.lst [.lst (ns.map D.int), ni (p + 1), .int q, .int k]), .sh (ni m), .un, .sh (.int ns[p])]) (set_p (d := .int ns[p]) (by simp (disch := first | omega | (simp; done) | (simp; omega)) [DL.withEnv, DL.tst, DL.tstE, DL.tru, DL.truE, DL.bin, DL.binE, DL.appN, DL.appNE, DL.aCons, DL.aNil, DL.aConsE, DL.kc, DL.itN, DL.itX, DL.un1, DL.notB, DL.orB, DL.andB, DL.notV, DL.andV, DL.orV, DL.ifV, DL.chn, DL.oNone, DL.oSome, DL.sl3, DL.mthV, DL.mkT, DL.mkTE, DL.mkL, DL.yesB, DL.gSh_eq, DL.gAny_eq, DL.gS_sh, DL.gA_sh, DL.gA_own, DL.gA_io, DL.ownL_eq, DL.oL_own, DL.oL_io, DL.put_own, DL.put_io, DL.bind_ok, DL.ofO_some, DL.at_ok, DL.ne_ok, DL.asB_bl', DL.asI_int', DL.tru_bl, DL.tru_int, DL.tru_lst, DL.len_tx, DL.len_lst, DL.len_tup, DL.ix_tx, DL.ix_lst, DL.ix_tup, DL.sl_tx, DL.sl_lst, DL.sl_tup, DL.plus_tx, DL.plus_int, DL.plus_lst, DL.plus_tup, DL.cat_lst, DL.rep_lst1, DL.zD_tx, DL.zD_lst, DL.zD_tup, DL.rev_tx, DL.en_tx, DL.asStr_tx, DL.tup_lst, DL.lst_tup, DL.isi_tx, DL.isi_int, DL.isi_intb, DL.isi_tt, DL.isi_lt, DL.sub_int', DL.add_ip, DL.sub_ip, DL.mul_int', DL.lt_int, DL.gt_int, DL.ge_int, DL.le_int, DL.eq_int, DL.ne_int, DL.eq_tx, DL.ne_tx, DL.isn_int, DL.isn_non, DL.isb, DL.neg_int, DL.int_int, DL.atI_nat, DL.atI_zero, DL.atI_one, DL.atI_two, DL.atI_three, DL.atI_succ, DL.atI_last, DL.cut_to, DL.cut_from, DL.cut_both, DL.cut_butlast, PySem.sizeLine_eq, DL.sum_nl, DL.sum_nt, DL.gSet, DL.gTupD, DL.gsCons, DL.gsNil, DL.ini, DL.setS, e1, ec])) hx
      have st2 : itmS 0 (kc (.int 2)) (bin modD (appN intD (aCons (bin plusD (bin plusD (bin mulD (bin ixD (gAny 0) (kc (.int 2))) (kc (.int 48271))) (gAny 3)) (kc (.int 11))) aNil)) (kc (.int 2147483647))) [.io (.lst [.lst (ns.map D.int), ni (p + 1), .int q, .int k]), .sh (ni m), .un, .sh (.int ns[p])] = .ok (.nx [.io (.lst [.lst (ns.map D.int), ni (p + 1), .int ((q * 48271 + ns[p] + 11) % 2147483647), .int k]), .sh (ni m), .un, .sh (.int ns[p])]) :=
        itm_ok (s := .io (.lst [.lst (ns.map D.int), ni (p + 1), .int q, .int k])) (xs := [.lst (ns.map D.int), ni (p + 1), .int q, .int k]) (d := .int ((q * 48271 + ns[p] + 11) % 2147483647)) (k := 2) (j := 2) (by simp (disch := first | omega | (simp; done) | (simp; omega)) [DL.withEnv, DL.tst, DL.tstE, DL.tru, DL.truE, DL.bin, DL.binE, DL.appN, DL.appNE, DL.aCons, DL.aNil, DL.aConsE, DL.kc, DL.itN, DL.itX, DL.un1, DL.notB, DL.orB, DL.andB, DL.notV, DL.andV, DL.orV, DL.ifV, DL.chn, DL.oNone, DL.oSome, DL.sl3, DL.mthV, DL.mkT, DL.mkTE, DL.mkL, DL.yesB, DL.gSh_eq, DL.gAny_eq, DL.gS_sh, DL.gA_sh, DL.gA_own, DL.gA_io, DL.ownL_eq, DL.oL_own, DL.oL_io, DL.put_own, DL.put_io, DL.bind_ok, DL.ofO_some, DL.at_ok, DL.ne_ok, DL.asB_bl', DL.asI_int', DL.tru_bl, DL.tru_int, DL.tru_lst, DL.len_tx, DL.len_lst, DL.len_tup, DL.ix_tx, DL.ix_lst, DL.ix_tup, DL.sl_tx, DL.sl_lst, DL.sl_tup, DL.plus_tx, DL.plus_int, DL.plus_lst, DL.plus_tup, DL.cat_lst, DL.rep_lst1, DL.zD_tx, DL.zD_lst, DL.zD_tup, DL.rev_tx, DL.en_tx, DL.asStr_tx, DL.tup_lst, DL.lst_tup, DL.isi_tx, DL.isi_int, DL.isi_intb, DL.isi_tt, DL.isi_lt, DL.sub_int', DL.add_ip, DL.sub_ip, DL.mul_int', DL.lt_int, DL.gt_int, DL.ge_int, DL.le_int, DL.eq_int, DL.ne_int, DL.eq_tx, DL.ne_tx, DL.isn_int, DL.isn_non, DL.isb, DL.neg_int, DL.int_int, DL.atI_nat, DL.atI_zero, DL.atI_one, DL.atI_two, DL.atI_three, DL.atI_succ, DL.atI_last, DL.cut_to, DL.cut_from, DL.cut_both, DL.cut_butlast, PySem.sizeLine_eq, DL.sum_nl, DL.sum_nt, DL.gSet, DL.gTupD, DL.gsCons, DL.gsNil, DL.ini, DL.setS, mul_int' (i := q) (j := 48271) (Or.inr (by decide)), mod_int' (j := 2147483647) (by decide)]) rfl rfl rfl
      have cge : ∀ bb : Bool, decide ((10 : Int) ^ 18 ≤ ns[p]) = bb → bin geD (gAny 3) (bin powD (kc (.int 10)) (kc (.int 18))) [.io (.lst [.lst (ns.map D.int), ni (p + 1), .int ((q * 48271 + ns[p] + 11) % 2147483647), .int k]), .sh (ni m), .un, .sh (.int ns[p])] = .ok (.bl bb) := fun bb hb =>
        bin_ok (f := gAny 3) (g := bin powD (kc (.int 10)) (kc (.int 18))) (r := [.io (.lst [.lst (ns.map D.int), ni (p + 1), .int ((q * 48271 + ns[p] + 11) % 2147483647), .int k]), .sh (ni m), .un, .sh (.int ns[p])]) (x := .int ns[p]) (y := .int (10 ^ 18)) (d := .bl bb) rfl (bin_ok (f := kc (.int 10)) (g := kc (.int 18)) (x := .int 10) (y := .int 18) rfl rfl pow18) (by rw [ge_int, hb])
      by_cases hc : (10 : Int) ^ 18 ≤ ns[p]
      · refine ⟨v, [.lst (ns.map D.int), ni (p + 1), .int ((q * 48271 + ns[p] + 11) % 2147483647), .int (ns[p] / (m : Int))], ?_, ⟨ns, p + 1, _, _, hn, rfl⟩, hv⟩
        refine fnIO_rt (r1 := [.sh (ni m), .un, .sh (.int ns[p])]) rfl (start ?_)
        refine seq_nx st2 (seq_nx (if_y (cond_p (b := true) ?_) (itm_ok (s := .io (.lst [.lst (ns.map D.int), ni (p + 1), .int ((q * 48271 + ns[p] + 11) % 2147483647), .int k])) (xs := [.lst (ns.map D.int), ni (p + 1), .int ((q * 48271 + ns[p] + 11) % 2147483647), .int k]) (d := .int (ns[p] / (m : Int))) (k := 3) (j := 3) (by simp (disch := first | omega | (simp; done) | (simp; omega)) [DL.withEnv, DL.tst, DL.tstE, DL.tru, DL.truE, DL.bin, DL.binE, DL.appN, DL.appNE, DL.aCons, DL.aNil, DL.aConsE, DL.kc, DL.itN, DL.itX, DL.un1, DL.notB, DL.orB, DL.andB, DL.notV, DL.andV, DL.orV, DL.ifV, DL.chn, DL.oNone, DL.oSome, DL.sl3, DL.mthV, DL.mkT, DL.mkTE, DL.mkL, DL.yesB, DL.gSh_eq, DL.gAny_eq, DL.gS_sh, DL.gA_sh, DL.gA_own, DL.gA_io, DL.ownL_eq, DL.oL_own, DL.oL_io, DL.put_own, DL.put_io, DL.bind_ok, DL.ofO_some, DL.at_ok, DL.ne_ok, DL.asB_bl', DL.asI_int', DL.tru_bl, DL.tru_int, DL.tru_lst, DL.len_tx, DL.len_lst, DL.len_tup, DL.ix_tx, DL.ix_lst, DL.ix_tup, DL.sl_tx, DL.sl_lst, DL.sl_tup, DL.plus_tx, DL.plus_int, DL.plus_lst, DL.plus_tup, DL.cat_lst, DL.rep_lst1, DL.zD_tx, DL.zD_lst, DL.zD_tup, DL.rev_tx, DL.en_tx, DL.asStr_tx, DL.tup_lst, DL.lst_tup, DL.isi_tx, DL.isi_int, DL.isi_intb, DL.isi_tt, DL.isi_lt, DL.sub_int', DL.add_ip, DL.sub_ip, DL.mul_int', DL.lt_int, DL.gt_int, DL.ge_int, DL.le_int, DL.eq_int, DL.ne_int, DL.eq_tx, DL.ne_tx, DL.isn_int, DL.isn_non, DL.isb, DL.neg_int, DL.int_int, DL.atI_nat, DL.atI_zero, DL.atI_one, DL.atI_two, DL.atI_three, DL.atI_succ, DL.atI_last, DL.cut_to, DL.cut_from, DL.cut_both, DL.cut_butlast, PySem.sizeLine_eq, DL.sum_nl, DL.sum_nt, DL.gSet, DL.gTupD, DL.gsCons, DL.gsNil, DL.ini, DL.setS, fdiv_int' m1]) rfl rfl rfl)) (ret_p (by simp (disch := first | omega | (simp; done) | (simp; omega)) [DL.withEnv, DL.tst, DL.tstE, DL.tru, DL.truE, DL.bin, DL.binE, DL.appN, DL.appNE, DL.aCons, DL.aNil, DL.aConsE, DL.kc, DL.itN, DL.itX, DL.un1, DL.notB, DL.orB, DL.andB, DL.notV, DL.andV, DL.orV, DL.ifV, DL.chn, DL.oNone, DL.oSome, DL.sl3, DL.mthV, DL.mkT, DL.mkTE, DL.mkL, DL.yesB, DL.gSh_eq, DL.gAny_eq, DL.gS_sh, DL.gA_sh, DL.gA_own, DL.gA_io, DL.ownL_eq, DL.oL_own, DL.oL_io, DL.put_own, DL.put_io, DL.bind_ok, DL.ofO_some, DL.at_ok, DL.ne_ok, DL.asB_bl', DL.asI_int', DL.tru_bl, DL.tru_int, DL.tru_lst, DL.len_tx, DL.len_lst, DL.len_tup, DL.ix_tx, DL.ix_lst, DL.ix_tup, DL.sl_tx, DL.sl_lst, DL.sl_tup, DL.plus_tx, DL.plus_int, DL.plus_lst, DL.plus_tup, DL.cat_lst, DL.rep_lst1, DL.zD_tx, DL.zD_lst, DL.zD_tup, DL.rev_tx, DL.en_tx, DL.asStr_tx, DL.tup_lst, DL.lst_tup, DL.isi_tx, DL.isi_int, DL.isi_intb, DL.isi_tt, DL.isi_lt, DL.sub_int', DL.add_ip, DL.sub_ip, DL.mul_int', DL.lt_int, DL.gt_int, DL.ge_int, DL.le_int, DL.eq_int, DL.ne_int, DL.eq_tx, DL.ne_tx, DL.isn_int, DL.isn_non, DL.isb, DL.neg_int, DL.int_int, DL.atI_nat, DL.atI_zero, DL.atI_one, DL.atI_two, DL.atI_three, DL.atI_succ, DL.atI_last, DL.cut_to, DL.cut_from, DL.cut_both, DL.cut_butlast, PySem.sizeLine_eq, DL.sum_nl, DL.sum_nt, DL.gSet, DL.gTupD, DL.gsCons, DL.gsNil, DL.ini, DL.setS, mod_int' m0, ev])))
        exact congrArg (fun z => z.bind fun d => R.ofO (asB d)) (cge _ (decide_eq_true hc))
      · refine ⟨v, [.lst (ns.map D.int), ni (p + 1), .int ((q * 48271 + ns[p] + 11) % 2147483647), .int k], ?_, ⟨ns, p + 1, _, _, hn, rfl⟩, hv⟩
        refine fnIO_rt (r1 := [.sh (ni m), .un, .sh (.int ns[p])]) rfl (start ?_)
        refine seq_nx st2 (seq_nx (if_n (cond_p (b := false) ?_) rfl) (ret_p (by simp (disch := first | omega | (simp; done) | (simp; omega)) [DL.withEnv, DL.tst, DL.tstE, DL.tru, DL.truE, DL.bin, DL.binE, DL.appN, DL.appNE, DL.aCons, DL.aNil, DL.aConsE, DL.kc, DL.itN, DL.itX, DL.un1, DL.notB, DL.orB, DL.andB, DL.notV, DL.andV, DL.orV, DL.ifV, DL.chn, DL.oNone, DL.oSome, DL.sl3, DL.mthV, DL.mkT, DL.mkTE, DL.mkL, DL.yesB, DL.gSh_eq, DL.gAny_eq, DL.gS_sh, DL.gA_sh, DL.gA_own, DL.gA_io, DL.ownL_eq, DL.oL_own, DL.oL_io, DL.put_own, DL.put_io, DL.bind_ok, DL.ofO_some, DL.at_ok, DL.ne_ok, DL.asB_bl', DL.asI_int', DL.tru_bl, DL.tru_int, DL.tru_lst, DL.len_tx, DL.len_lst, DL.len_tup, DL.ix_tx, DL.ix_lst, DL.ix_tup, DL.sl_tx, DL.sl_lst, DL.sl_tup, DL.plus_tx, DL.plus_int, DL.plus_lst, DL.plus_tup, DL.cat_lst, DL.rep_lst1, DL.zD_tx, DL.zD_lst, DL.zD_tup, DL.rev_tx, DL.en_tx, DL.asStr_tx, DL.tup_lst, DL.lst_tup, DL.isi_tx, DL.isi_int, DL.isi_intb, DL.isi_tt, DL.isi_lt, DL.sub_int', DL.add_ip, DL.sub_ip, DL.mul_int', DL.lt_int, DL.gt_int, DL.ge_int, DL.le_int, DL.eq_int, DL.ne_int, DL.eq_tx, DL.ne_tx, DL.isn_int, DL.isn_non, DL.isb, DL.neg_int, DL.int_int, DL.atI_nat, DL.atI_zero, DL.atI_one, DL.atI_two, DL.atI_three, DL.atI_succ, DL.atI_last, DL.cut_to, DL.cut_from, DL.cut_both, DL.cut_butlast, PySem.sizeLine_eq, DL.sum_nl, DL.sum_nt, DL.gSet, DL.gTupD, DL.gsCons, DL.gsNil, DL.ini, DL.setS, mod_int' m0, ev])))
        exact congrArg (fun z => z.bind fun d => R.ofO (asB d)) (cge _ (decide_eq_false hc))
theorem pick_ok {row xs : List D} (h : RowOk row) (hx : xs ≠ []) (hl : xs.length ≤ 1000000) : ∃ (d : D) (row' : List D), F__law_pick row [.lst xs] = .ok (d, row') ∧ RowOk row' ∧ d ∈ xs := by
  have h0 : 0 < xs.length := List.length_pos_iff.mpr hx
  obtain ⟨v, row', e, hr, hv⟩ := taken_ok h h0 hl
  refine ⟨xs[v], row', ?_, hr, List.getElem_mem hv⟩
  refine fnIO_rt (r1 := [.sh (.lst xs)]) rfl (show b__law_pick [.io (.lst row), .sh (.lst xs)] = _ from ?_)
  unfold b__law_pick
  refine ret_e ?_
  have c1 : callIO 0 1 F__law_taken (withEnv (aCons (appN lenD (aCons (gAny 1) aNil)) aNil)) [.io (.lst row), .sh (.lst xs)] = .ok (ni v, [.io (.lst row'), .sh (.lst xs)]) := callIO_ok (s := .io (.lst row)) (row := row) (ds := [ni xs.length]) rfl (wx (by simp (disch := first | omega | (simp; done) | (simp; omega)) [DL.withEnv, DL.tst, DL.tstE, DL.tru, DL.truE, DL.bin, DL.binE, DL.appN, DL.appNE, DL.aCons, DL.aNil, DL.aConsE, DL.kc, DL.itN, DL.itX, DL.un1, DL.notB, DL.orB, DL.andB, DL.notV, DL.andV, DL.orV, DL.ifV, DL.chn, DL.oNone, DL.oSome, DL.sl3, DL.mthV, DL.mkT, DL.mkTE, DL.mkL, DL.yesB, DL.gSh_eq, DL.gAny_eq, DL.gS_sh, DL.gA_sh, DL.gA_own, DL.gA_io, DL.ownL_eq, DL.oL_own, DL.oL_io, DL.put_own, DL.put_io, DL.bind_ok, DL.ofO_some, DL.at_ok, DL.ne_ok, DL.asB_bl', DL.asI_int', DL.tru_bl, DL.tru_int, DL.tru_lst, DL.len_tx, DL.len_lst, DL.len_tup, DL.ix_tx, DL.ix_lst, DL.ix_tup, DL.sl_tx, DL.sl_lst, DL.sl_tup, DL.plus_tx, DL.plus_int, DL.plus_lst, DL.plus_tup, DL.cat_lst, DL.rep_lst1, DL.zD_tx, DL.zD_lst, DL.zD_tup, DL.rev_tx, DL.en_tx, DL.asStr_tx, DL.tup_lst, DL.lst_tup, DL.isi_tx, DL.isi_int, DL.isi_intb, DL.isi_tt, DL.isi_lt, DL.sub_int', DL.add_ip, DL.sub_ip, DL.mul_int', DL.lt_int, DL.gt_int, DL.ge_int, DL.le_int, DL.eq_int, DL.ne_int, DL.eq_tx, DL.ne_tx, DL.isn_int, DL.isn_non, DL.isb, DL.neg_int, DL.int_int, DL.atI_nat, DL.atI_zero, DL.atI_one, DL.atI_two, DL.atI_three, DL.atI_succ, DL.atI_last, DL.cut_to, DL.cut_from, DL.cut_both, DL.cut_butlast, PySem.sizeLine_eq, DL.sum_nl, DL.sum_nt, DL.gSet, DL.gTupD, DL.gsCons, DL.gsNil, DL.ini, DL.setS])) rfl e
  have ex : xs[v]? = some xs[v] := List.getElem?_eq_getElem hv
  simp (disch := first | omega | (simp; done) | (simp; omega)) [DL.withEnv, DL.tst, DL.tstE, DL.tru, DL.truE, DL.bin, DL.binE, DL.appN, DL.appNE, DL.aCons, DL.aNil, DL.aConsE, DL.kc, DL.itN, DL.itX, DL.un1, DL.notB, DL.orB, DL.andB, DL.notV, DL.andV, DL.orV, DL.ifV, DL.chn, DL.oNone, DL.oSome, DL.sl3, DL.mthV, DL.mkT, DL.mkTE, DL.mkL, DL.yesB, DL.gSh_eq, DL.gAny_eq, DL.gS_sh, DL.gA_sh, DL.gA_own, DL.gA_io, DL.ownL_eq, DL.oL_own, DL.oL_io, DL.put_own, DL.put_io, DL.bind_ok, DL.ofO_some, DL.at_ok, DL.ne_ok, DL.asB_bl', DL.asI_int', DL.tru_bl, DL.tru_int, DL.tru_lst, DL.len_tx, DL.len_lst, DL.len_tup, DL.ix_tx, DL.ix_lst, DL.ix_tup, DL.sl_tx, DL.sl_lst, DL.sl_tup, DL.plus_tx, DL.plus_int, DL.plus_lst, DL.plus_tup, DL.cat_lst, DL.rep_lst1, DL.zD_tx, DL.zD_lst, DL.zD_tup, DL.rev_tx, DL.en_tx, DL.asStr_tx, DL.tup_lst, DL.lst_tup, DL.isi_tx, DL.isi_int, DL.isi_intb, DL.isi_tt, DL.isi_lt, DL.sub_int', DL.add_ip, DL.sub_ip, DL.mul_int', DL.lt_int, DL.gt_int, DL.ge_int, DL.le_int, DL.eq_int, DL.ne_int, DL.eq_tx, DL.ne_tx, DL.isn_int, DL.isn_non, DL.isb, DL.neg_int, DL.int_int, DL.atI_nat, DL.atI_zero, DL.atI_one, DL.atI_two, DL.atI_three, DL.atI_succ, DL.atI_last, DL.cut_to, DL.cut_from, DL.cut_both, DL.cut_butlast, PySem.sizeLine_eq, DL.sum_nl, DL.sum_nt, DL.gSet, DL.gTupD, DL.gsCons, DL.gsNil, DL.ini, DL.setS, c1, ex]
theorem film_ok {row : List D} {most many : Nat} (h : RowOk row) (h1 : 0 < most) (h2 : most ≤ 100) (h3 : 0 < many) (h4 : many ≤ 8) : ∃ (f : List Nat) (row' : List D), F__law_film row [ni most, ni many] = .ok (tx f, row') ∧ RowOk row' ∧ f ≠ [] ∧ f.length ≤ most ∧ ∀ c ∈ f, 97 ≤ c ∧ c ≤ 104 := by
  obtain ⟨n, row1, e1, hr1, hn⟩ := taken_ok h h1 (by omega)
  obtain ⟨r', e, f, row', x, er, hr, hf, hl⟩ := for_inv (g := gSet 4) (b := setS 3 (binE plusD (withEnv (gSh 3)) (binE ixD (withEnv (kc (.str "abcdefgh"))) (callIO 0 1 F__law_taken (withEnv (aCons (gSh 2) aNil))))))
    (items := rngL 0 (1 + n)) (r := [.io (.lst row1), .sh (ni most), .sh (ni many), .sh (tx []), .un]) (fun i r => ∃ f row' x, r = [.io (.lst row'), .sh (ni most), .sh (ni many), .sh (tx f), x] ∧ RowOk row' ∧ f.length = i ∧ ∀ c ∈ f, 97 ≤ c ∧ c ≤ 104)
    ⟨[], row1, .un, rfl, hr1, rfl, fun c hc => nomatch hc⟩ (fun i x r e hI => by
      obtain ⟨f, row2, y, er, hr2, hf, hl⟩ := hI
      obtain ⟨hi, ex⟩ := rng_get 0 (1 + n) i x e
      subst er
      obtain ⟨v, row3, e3, hr3, hv⟩ := taken_ok hr2 h3 (by omega)
      have hv8 : v < [97, 98, 99, 100, 101, 102, 103, 104].length := by
        show v < 8
        omega
      have c1 : callIO 0 1 F__law_taken (withEnv (aCons (gSh 2) aNil)) [.io (.lst row2), .sh (ni most), .sh (ni many), .sh (tx f), .sh x] = .ok (ni v, [.io (.lst row3), .sh (ni most), .sh (ni many), .sh (tx f), .sh x]) := callIO_ok (s := .io (.lst row2)) (row := row2) (ds := [ni many]) rfl (wx rfl) rfl e3
      have g1 : [97, 98, 99, 100, 101, 102, 103, 104][v]? = some ([97, 98, 99, 100, 101, 102, 103, 104][v]) := List.getElem?_eq_getElem hv8
      have g2 : 97 ≤ [97, 98, 99, 100, 101, 102, 103, 104][v] ∧ [97, 98, 99, 100, 101, 102, 103, 104][v] ≤ 104 := by
        have : v = 0 ∨ v = 1 ∨ v = 2 ∨ v = 3 ∨ v = 4 ∨ v = 5 ∨ v = 6 ∨ v = 7 := by omega
        rcases this with z | z | z | z | z | z | z | z <;> subst z <;> simp
      generalize [97, 98, 99, 100, 101, 102, 103, 104][v] = w at g1 g2
      have hfl : f.length ≤ 200 := by omega
      have c2 : ixD (.str "abcdefgh") (ni v) = some (tx [w]) := by
        rw [abc, ix_tx (by decide), atI_nat, g1]
        rfl
      refine ⟨_, [.io (.lst row3), .sh (ni most), .sh (ni many), .sh (tx (f ++ [w])), .sh x], rfl, ?_, f ++ [w], row3, .sh x, rfl, hr3, by rw [List.length_append, List.length_singleton, hf], fun c hc => ?_⟩
      · refine set_e (d := tx (f ++ [w])) (r1 := [.io (.lst row3), .sh (ni most), .sh (ni many), .sh (tx f), .sh x]) ?_
        simp (disch := first | omega | (simp; done) | (simp; omega)) [DL.withEnv, DL.tst, DL.tstE, DL.tru, DL.truE, DL.bin, DL.binE, DL.appN, DL.appNE, DL.aCons, DL.aNil, DL.aConsE, DL.kc, DL.itN, DL.itX, DL.un1, DL.notB, DL.orB, DL.andB, DL.notV, DL.andV, DL.orV, DL.ifV, DL.chn, DL.oNone, DL.oSome, DL.sl3, DL.mthV, DL.mkT, DL.mkTE, DL.mkL, DL.yesB, DL.gSh_eq, DL.gAny_eq, DL.gS_sh, DL.gA_sh, DL.gA_own, DL.gA_io, DL.ownL_eq, DL.oL_own, DL.oL_io, DL.put_own, DL.put_io, DL.bind_ok, DL.ofO_some, DL.at_ok, DL.ne_ok, DL.asB_bl', DL.asI_int', DL.tru_bl, DL.tru_int, DL.tru_lst, DL.len_tx, DL.len_lst, DL.len_tup, DL.ix_tx, DL.ix_lst, DL.ix_tup, DL.sl_tx, DL.sl_lst, DL.sl_tup, DL.plus_tx, DL.plus_int, DL.plus_lst, DL.plus_tup, DL.cat_lst, DL.rep_lst1, DL.zD_tx, DL.zD_lst, DL.zD_tup, DL.rev_tx, DL.en_tx, DL.asStr_tx, DL.tup_lst, DL.lst_tup, DL.isi_tx, DL.isi_int, DL.isi_intb, DL.isi_tt, DL.isi_lt, DL.sub_int', DL.add_ip, DL.sub_ip, DL.mul_int', DL.lt_int, DL.gt_int, DL.ge_int, DL.le_int, DL.eq_int, DL.ne_int, DL.eq_tx, DL.ne_tx, DL.isn_int, DL.isn_non, DL.isb, DL.neg_int, DL.int_int, DL.atI_nat, DL.atI_zero, DL.atI_one, DL.atI_two, DL.atI_three, DL.atI_succ, DL.atI_last, DL.cut_to, DL.cut_from, DL.cut_both, DL.cut_butlast, PySem.sizeLine_eq, DL.sum_nl, DL.sum_nt, DL.gSet, DL.gTupD, DL.gsCons, DL.gsNil, DL.ini, DL.setS, c1, c2]
      · rcases List.mem_append.mp hc with z | z
        · exact hl c z
        · rw [List.mem_singleton.mp z]
          exact g2)
  rw [rngL_length] at hf
  refine ⟨f, row', ?_, hr, ?_, by omega, hl⟩
  · subst er
    refine fnIO_rt (r1 := [.sh (ni most), .sh (ni many), .sh (tx f), x]) rfl (show b__law_film [.io (.lst row), .sh (ni most), .sh (ni many), .un, .un] = _ from ?_)
    unfold b__law_film
    refine seq_nx (r1 := [.io (.lst row), .sh (ni most), .sh (ni many), .sh (tx []), .un]) (set_p rfl) ?_
    refine seq_nx (for_st (r1 := [.io (.lst row1), .sh (ni most), .sh (ni many), .sh (tx []), .un]) ?_ e) (ret_p rfl)
    have c1 : callIO 0 1 F__law_taken (withEnv (aCons (gSh 1) aNil)) [.io (.lst row), .sh (ni most), .sh (ni many), .sh (tx []), .un] = .ok (ni n, [.io (.lst row1), .sh (ni most), .sh (ni many), .sh (tx []), .un]) := callIO_ok (s := .io (.lst row)) (row := row) (ds := [ni most]) rfl (wx rfl) rfl e1
    have c2 : aConsE (binE plusD (withEnv (kc (.int 1))) (callIO 0 1 F__law_taken (withEnv (aCons (gSh 1) aNil)))) (withEnv aNil) [.io (.lst row), .sh (ni most), .sh (ni many), .sh (tx []), .un] = .ok ([ni (1 + n)], [.io (.lst row1), .sh (ni most), .sh (ni many), .sh (tx []), .un]) := by
      simp (disch := first | omega | (simp; done) | (simp; omega)) [DL.withEnv, DL.tst, DL.tstE, DL.tru, DL.truE, DL.bin, DL.binE, DL.appN, DL.appNE, DL.aCons, DL.aNil, DL.aConsE, DL.kc, DL.itN, DL.itX, DL.un1, DL.notB, DL.orB, DL.andB, DL.notV, DL.andV, DL.orV, DL.ifV, DL.chn, DL.oNone, DL.oSome, DL.sl3, DL.mthV, DL.mkT, DL.mkTE, DL.mkL, DL.yesB, DL.gSh_eq, DL.gAny_eq, DL.gS_sh, DL.gA_sh, DL.gA_own, DL.gA_io, DL.ownL_eq, DL.oL_own, DL.oL_io, DL.put_own, DL.put_io, DL.bind_ok, DL.ofO_some, DL.at_ok, DL.ne_ok, DL.asB_bl', DL.asI_int', DL.tru_bl, DL.tru_int, DL.tru_lst, DL.len_tx, DL.len_lst, DL.len_tup, DL.ix_tx, DL.ix_lst, DL.ix_tup, DL.sl_tx, DL.sl_lst, DL.sl_tup, DL.plus_tx, DL.plus_int, DL.plus_lst, DL.plus_tup, DL.cat_lst, DL.rep_lst1, DL.zD_tx, DL.zD_lst, DL.zD_tup, DL.rev_tx, DL.en_tx, DL.asStr_tx, DL.tup_lst, DL.lst_tup, DL.isi_tx, DL.isi_int, DL.isi_intb, DL.isi_tt, DL.isi_lt, DL.sub_int', DL.add_ip, DL.sub_ip, DL.mul_int', DL.lt_int, DL.gt_int, DL.ge_int, DL.le_int, DL.eq_int, DL.ne_int, DL.eq_tx, DL.ne_tx, DL.isn_int, DL.isn_non, DL.isb, DL.neg_int, DL.int_int, DL.atI_nat, DL.atI_zero, DL.atI_one, DL.atI_two, DL.atI_three, DL.atI_succ, DL.atI_last, DL.cut_to, DL.cut_from, DL.cut_both, DL.cut_butlast, PySem.sizeLine_eq, DL.sum_nl, DL.sum_nt, DL.gSet, DL.gTupD, DL.gsCons, DL.gsNil, DL.ini, DL.setS, c1]
    unfold itR1
    rw [c2]
    simp only [bind_ok]
    rw [if_pos (by omega)]
    congr 3
  · intro z
    rw [z] at hf
    simp at hf
    omega
/-! _law_drawn -/
theorem cut_at {now : List Nat} {a b : Nat} (h1 : a < b) (h2 : b < now.length) (h3 : now[a]? = now[b]?) : ∃ c y, now = now.take a ++ c :: (y ++ c :: now.drop (b + 1)) ∧ now.take (a + 1) ++ now.drop (b + 1) = now.take a ++ c :: now.drop (b + 1) := by
  have ha : a < now.length := by omega
  have e1 : now.drop a = now[a] :: now.drop (a + 1) := List.drop_eq_getElem_cons ha
  have e2 : now.drop b = now[b] :: now.drop (b + 1) := List.drop_eq_getElem_cons h2
  have e3 : now[a] = now[b] := by
    rw [List.getElem?_eq_getElem ha, List.getElem?_eq_getElem h2] at h3
    exact Option.some.inj h3
  have e4 : now.drop (a + 1) = (now.drop (a + 1)).take (b - (a + 1)) ++ now.drop b := by
    have h := (List.take_append_drop (b - (a + 1)) (now.drop (a + 1))).symm
    rw [List.drop_drop] at h
    have h5 : a + 1 + (b - (a + 1)) = b := by omega
    rw [h5] at h
    exact h
  refine ⟨now[a], (now.drop (a + 1)).take (b - (a + 1)), ?_, ?_⟩
  · have h := (List.take_append_drop a now).symm
    rw [e1, e4, e2, ← e3] at h
    exact h
  · rw [List.take_succ, List.getElem?_eq_getElem ha, Option.toList_some, List.append_assoc]
    rfl
def Pairs (now : List Nat) (xs : List D) : Prop := ∀ d ∈ xs, ∃ a b : Nat, d = .tup [ni a, ni b] ∧ a < b ∧ b < now.length ∧ now[a]? = now[b]?
theorem some_loop {now : List Nat} (hn : now.length ≤ 200) (r0 r1 r2 r4 r5 r8 : Slot) (hs : isOwn (some r4) = false) (x7 : Slot) : ∃ xs x7', forD (gSet 7) (setS 6 (withEnv (bin plusD (gAny 6) (lcD [("second", 9)] (itN rg2 (aCons (bin plusD (gAny 7) (kc (.int 1))) (aCons (appN lenD (aCons (gAny 3) aNil)) aNil))) (gSet 9) (tst (bin eqD (bin ixD (gAny 3) (gAny 7)) (bin ixD (gAny 3) (gAny 9)))) (mkT (aCons (gSh 7) (aCons (gSh 9) aNil)))))))
    (rngL 0 now.length) [r0, r1, r2, .sh (tx now), r4, r5, .sh (.lst []), x7, r8, .un] = .ok (.nx [r0, r1, r2, .sh (tx now), r4, r5, .sh (.lst xs), x7', r8, .un]) ∧ Pairs now xs ∧ xs.length ≤ 40000 := by
  obtain ⟨r', e, xs, x7', er, hp, hl⟩ := for_inv (g := gSet 7) (b := setS 6 (withEnv (bin plusD (gAny 6) (lcD [("second", 9)] (itN rg2 (aCons (bin plusD (gAny 7) (kc (.int 1))) (aCons (appN lenD (aCons (gAny 3) aNil)) aNil))) (gSet 9) (tst (bin eqD (bin ixD (gAny 3) (gAny 7)) (bin ixD (gAny 3) (gAny 9)))) (mkT (aCons (gSh 7) (aCons (gSh 9) aNil)))))))
    (items := rngL 0 now.length) (r := [r0, r1, r2, .sh (tx now), r4, r5, .sh (.lst []), x7, r8, .un]) (fun i r => ∃ xs x7', r = [r0, r1, r2, .sh (tx now), r4, r5, .sh (.lst xs), x7', r8, .un] ∧ Pairs now xs ∧ xs.length ≤ i * now.length) ⟨[], x7, rfl, fun d hd => (nomatch hd), Nat.zero_le _⟩ (fun i x r e hI => by
      obtain ⟨xs, y, er, hp, hl⟩ := hI
      obtain ⟨hi, ex⟩ := rng_get 0 now.length i x e
      rw [Int.zero_add] at ex
      subst er ex
      have hx1 : xs.length ≤ 40000 := Nat.le_trans hl (Nat.le_trans (Nat.mul_le_mul (by omega : i ≤ 200) hn) (by decide))
      have c1 : itN rg2 (aCons (bin plusD (gAny 7) (kc (.int 1))) (aCons (appN lenD (aCons (gAny 3) aNil)) aNil)) [r0, r1, r2, .sh (tx now), r4, r5, .sh (.lst xs), .sh (ni i), r8, .un] = .ok (rngL ((i + 1 : Nat) : Int) (now.length - (i + 1))) := by
        have a1 : aCons (bin plusD (gAny 7) (kc (.int 1))) (aCons (appN lenD (aCons (gAny 3) aNil)) aNil) [r0, r1, r2, .sh (tx now), r4, r5, .sh (.lst xs), .sh (ni i), r8, .un] = .ok [ni (i + 1), ni now.length] := by simp (disch := first | omega | (simp; done) | (simp; omega)) [DL.withEnv, DL.tst, DL.tstE, DL.tru, DL.truE, DL.bin, DL.binE, DL.appN, DL.appNE, DL.aCons, DL.aNil, DL.aConsE, DL.kc, DL.itN, DL.itX, DL.un1, DL.notB, DL.orB, DL.andB, DL.notV, DL.andV, DL.orV, DL.ifV, DL.chn, DL.oNone, DL.oSome, DL.sl3, DL.mthV, DL.mkT, DL.mkTE, DL.mkL, DL.yesB, DL.gSh_eq, DL.gAny_eq, DL.gS_sh, DL.gA_sh, DL.gA_own, DL.gA_io, DL.ownL_eq, DL.oL_own, DL.oL_io, DL.put_own, DL.put_io, DL.bind_ok, DL.ofO_some, DL.at_ok, DL.ne_ok, DL.asB_bl', DL.asI_int', DL.tru_bl, DL.tru_int, DL.tru_lst, DL.len_tx, DL.len_lst, DL.len_tup, DL.ix_tx, DL.ix_lst, DL.ix_tup, DL.sl_tx, DL.sl_lst, DL.sl_tup, DL.plus_tx, DL.plus_int, DL.plus_lst, DL.plus_tup, DL.cat_lst, DL.rep_lst1, DL.zD_tx, DL.zD_lst, DL.zD_tup, DL.rev_tx, DL.en_tx, DL.asStr_tx, DL.tup_lst, DL.lst_tup, DL.isi_tx, DL.isi_int, DL.isi_intb, DL.isi_tt, DL.isi_lt, DL.sub_int', DL.add_ip, DL.sub_ip, DL.mul_int', DL.lt_int, DL.gt_int, DL.ge_int, DL.le_int, DL.eq_int, DL.ne_int, DL.eq_tx, DL.ne_tx, DL.isn_int, DL.isn_non, DL.isb, DL.neg_int, DL.int_int, DL.atI_nat, DL.atI_zero, DL.atI_one, DL.atI_two, DL.atI_three, DL.atI_succ, DL.atI_last, DL.cut_to, DL.cut_from, DL.cut_both, DL.cut_butlast, PySem.sizeLine_eq, DL.sum_nl, DL.sum_nt, DL.gSet, DL.gTupD, DL.gsCons, DL.gsNil, DL.ini, DL.setS]
        refine (congrArg (fun z => z.bind fun d => R.ofO (rg2 d)) a1).trans ?_
        simp only [bind_ok]
        rw [rg2_nat (by omega), ofO_some]
      have gi : now[i]? = some now[i] := List.getElem?_eq_getElem hi
      have c2 := lcV_ok (r := [r0, r1, r2, .sh (tx now), r4, r5, .sh (.lst xs), .sh (ni i), r8, .un]) (own := [("second", 9)]) (g := gSet 9) (c := tst (bin eqD (bin ixD (gAny 3) (gAny 7)) (bin ixD (gAny 3) (gAny 9)))) (f := mkT (aCons (gSh 7) (aCons (gSh 9) aNil)))
        (fun d => match d with | .int j => decide (now[i]? = now[j.toNat]?) | _ => false) (fun d => .tup [ni i, d]) rfl c1 (by rw [rngL_length, sizeLine_eq]; omega) (fun d hd => by
          rw [rng_range'] at hd
          obtain ⟨q, hq, ed⟩ := List.mem_map.mp hd
          have hq2 := List.mem_range'_1.mp hq
          have hql : q < now.length := by omega
          subst ed
          have gq : now[q]? = some now[q] := List.getElem?_eq_getElem hql
          refine ⟨[r0, r1, r2, .sh (tx now), r4, r5, .sh (.lst xs), .sh (ni i), r8, .sh (ni q)], rfl, ?_, fun _ => ?_⟩
          · simp (disch := first | omega | (simp; done) | (simp; omega)) [DL.withEnv, DL.tst, DL.tstE, DL.tru, DL.truE, DL.bin, DL.binE, DL.appN, DL.appNE, DL.aCons, DL.aNil, DL.aConsE, DL.kc, DL.itN, DL.itX, DL.un1, DL.notB, DL.orB, DL.andB, DL.notV, DL.andV, DL.orV, DL.ifV, DL.chn, DL.oNone, DL.oSome, DL.sl3, DL.mthV, DL.mkT, DL.mkTE, DL.mkL, DL.yesB, DL.gSh_eq, DL.gAny_eq, DL.gS_sh, DL.gA_sh, DL.gA_own, DL.gA_io, DL.ownL_eq, DL.oL_own, DL.oL_io, DL.put_own, DL.put_io, DL.bind_ok, DL.ofO_some, DL.at_ok, DL.ne_ok, DL.asB_bl', DL.asI_int', DL.tru_bl, DL.tru_int, DL.tru_lst, DL.len_tx, DL.len_lst, DL.len_tup, DL.ix_tx, DL.ix_lst, DL.ix_tup, DL.sl_tx, DL.sl_lst, DL.sl_tup, DL.plus_tx, DL.plus_int, DL.plus_lst, DL.plus_tup, DL.cat_lst, DL.rep_lst1, DL.zD_tx, DL.zD_lst, DL.zD_tup, DL.rev_tx, DL.en_tx, DL.asStr_tx, DL.tup_lst, DL.lst_tup, DL.isi_tx, DL.isi_int, DL.isi_intb, DL.isi_tt, DL.isi_lt, DL.sub_int', DL.add_ip, DL.sub_ip, DL.mul_int', DL.lt_int, DL.gt_int, DL.ge_int, DL.le_int, DL.eq_int, DL.ne_int, DL.eq_tx, DL.ne_tx, DL.isn_int, DL.isn_non, DL.isb, DL.neg_int, DL.int_int, DL.atI_nat, DL.atI_zero, DL.atI_one, DL.atI_two, DL.atI_three, DL.atI_succ, DL.atI_last, DL.cut_to, DL.cut_from, DL.cut_both, DL.cut_butlast, PySem.sizeLine_eq, DL.sum_nl, DL.sum_nt, DL.gSet, DL.gTupD, DL.gsCons, DL.gsNil, DL.ini, DL.setS, gi, gq]
          · simp (disch := first | omega | (simp; done) | (simp; omega)) [DL.withEnv, DL.tst, DL.tstE, DL.tru, DL.truE, DL.bin, DL.binE, DL.appN, DL.appNE, DL.aCons, DL.aNil, DL.aConsE, DL.kc, DL.itN, DL.itX, DL.un1, DL.notB, DL.orB, DL.andB, DL.notV, DL.andV, DL.orV, DL.ifV, DL.chn, DL.oNone, DL.oSome, DL.sl3, DL.mthV, DL.mkT, DL.mkTE, DL.mkL, DL.yesB, DL.gSh_eq, DL.gAny_eq, DL.gS_sh, DL.gA_sh, DL.gA_own, DL.gA_io, DL.ownL_eq, DL.oL_own, DL.oL_io, DL.put_own, DL.put_io, DL.bind_ok, DL.ofO_some, DL.at_ok, DL.ne_ok, DL.asB_bl', DL.asI_int', DL.tru_bl, DL.tru_int, DL.tru_lst, DL.len_tx, DL.len_lst, DL.len_tup, DL.ix_tx, DL.ix_lst, DL.ix_tup, DL.sl_tx, DL.sl_lst, DL.sl_tup, DL.plus_tx, DL.plus_int, DL.plus_lst, DL.plus_tup, DL.cat_lst, DL.rep_lst1, DL.zD_tx, DL.zD_lst, DL.zD_tup, DL.rev_tx, DL.en_tx, DL.asStr_tx, DL.tup_lst, DL.lst_tup, DL.isi_tx, DL.isi_int, DL.isi_intb, DL.isi_tt, DL.isi_lt, DL.sub_int', DL.add_ip, DL.sub_ip, DL.mul_int', DL.lt_int, DL.gt_int, DL.ge_int, DL.le_int, DL.eq_int, DL.ne_int, DL.eq_tx, DL.ne_tx, DL.isn_int, DL.isn_non, DL.isb, DL.neg_int, DL.int_int, DL.atI_nat, DL.atI_zero, DL.atI_one, DL.atI_two, DL.atI_three, DL.atI_succ, DL.atI_last, DL.cut_to, DL.cut_from, DL.cut_both, DL.cut_butlast, PySem.sizeLine_eq, DL.sum_nl, DL.sum_nt, DL.gSet, DL.gTupD, DL.gsCons, DL.gsNil, DL.ini, DL.setS])
      have hys : Pairs now (((rngL ((i + 1 : Nat) : Int) (now.length - (i + 1))).filter (fun d => match d with | .int j => decide (now[i]? = now[j.toNat]?) | _ => false)).map (fun d => .tup [ni i, d])) ∧ (((rngL ((i + 1 : Nat) : Int) (now.length - (i + 1))).filter (fun d => match d with | .int j => decide (now[i]? = now[j.toNat]?) | _ => false)).map (fun d => D.tup [ni i, d])).length ≤ now.length := by
        constructor
        · intro d hd
          obtain ⟨z, hz, ez⟩ := List.mem_map.mp hd
          obtain ⟨h1, h2⟩ := List.mem_filter.mp hz
          rw [rng_range'] at h1
          obtain ⟨q, hq, eq⟩ := List.mem_map.mp h1
          have hq2 := List.mem_range'_1.mp hq
          subst eq
          exact ⟨i, q, ez.symm, by omega, by omega, of_decide_eq_true h2⟩
        · rw [List.length_map]
          refine Nat.le_trans (List.length_filter_le ..) ?_
          rw [rngL_length]
          omega
      generalize ((rngL ((i + 1 : Nat) : Int) (now.length - (i + 1))).filter (fun d => match d with | .int j => decide (now[i]? = now[j.toNat]?) | _ => false)).map (fun d => D.tup [ni i, d]) = ys at c2 hys
      refine ⟨_, [r0, r1, r2, .sh (tx now), r4, r5, .sh (.lst (xs ++ ys)), .sh (ni i), r8, .un], rfl, set_p (bin_ok (x := .lst xs) (y := .lst ys) rfl c2 (plus_lst (by have := hys.2; omega))), xs ++ ys, .sh (ni i), rfl, fun d hd => ?_, ?_⟩
      · rcases List.mem_append.mp hd with z | z
        · exact hp d z
        · exact hys.1 d z
      · rw [List.length_append, Nat.add_mul, Nat.one_mul]
        have := hys.2
        omega)
  subst er
  refine ⟨xs, x7', e, hp, ?_⟩
  rw [rngL_length] at hl
  exact Nat.le_trans hl (Nat.le_trans (Nat.mul_le_mul hn hn) (by decide))
/-- now comes from F by cuts -/
def From (F now : List Nat) : Prop := now ≠ [] ∧ now.length ≤ F.length ∧ (∀ c ∈ now, c ∈ F) ∧ ∀ g, 0 < W g now → 0 < W g F
theorem drawn_ok {row : List D} {F : List Nat} {most : Nat} (h : RowOk row) (hF : Film F) (hm : most ≤ 100) : ∃ (ds : List D) (now : List Nat) (row' : List D), F__law_drawn row [tx F, ni most] = .ok (.tup [.tup ds, tx now], row') ∧ RowOk row' ∧ From F now := by
  have hFl := hF.2.1
  obtain ⟨r', e, row', now, ds, x5, x6, x7, x8, er, hr, hfr, hds⟩ := for_inv (g := gSet 5) (b := seqS (setS 6 (withEnv (mkL aNil))) (seqS (forS (withEnv (itN rg1 (aCons (appN lenD (aCons (gAny 3) aNil)) aNil))) (gSet 7) (setS 6 (withEnv (bin plusD (gAny 6) (lcD [("second", 9)] (itN rg2 (aCons (bin plusD (gAny 7) (kc (.int 1))) (aCons (appN lenD (aCons (gAny 3) aNil)) aNil))) (gSet 9) (tst (bin eqD (bin ixD (gAny 3) (gAny 7)) (bin ixD (gAny 3) (gAny 9)))) (mkT (aCons (gSh 7) (aCons (gSh 9) aNil)))))))) (ifS (withEnv (tst (bin neD (gAny 6) (mkL aNil)))) (seqS (setS 8 (callIO 0 1 F__law_pick (withEnv (aCons (gSh 6) aNil)))) (asgS (gTupD 2 (gsCons (gSet 3) (gsCons (gSet 4) gsNil))) (withEnv (mkT (aCons (bin plusD (sl3 slA (gAny 3) oNone (oSome (bin plusD (bin ixD (gAny 8) (kc (.int 0))) (kc (.int 1))))) (sl3 slA (gAny 3) (oSome (bin plusD (bin ixD (gAny 8) (kc (.int 1))) (kc (.int 1)))) oNone)) (aCons (bin plusD (gAny 4) (mkT (aCons (gSh 8) aNil))) aNil)))))) skipS)))
    (items := rngL 0 most) (r := [.io (.lst row), .sh (tx F), .sh (ni most), .sh (tx F), .sh (.tup []), .un, .un, .un, .un, .un]) (fun i r => ∃ row' now ds x5 x6 x7 x8, r = [.io (.lst row'), .sh (tx F), .sh (ni most), .sh (tx now), .sh (.tup ds), x5, x6, x7, x8, .un] ∧ RowOk row' ∧ From F now ∧ ds.length ≤ i)
    ⟨row, F, [], .un, .un, .un, .un, rfl, h, ⟨hF.1, Nat.le_refl _, fun c hc => hc, fun g hg => hg⟩, Nat.zero_le _⟩ (fun i x r e hI => by
      obtain ⟨row2, now, ds, x5, x6, x7, x8, er, hr2, hfr, hds⟩ := hI
      obtain ⟨hi, ex⟩ := rng_get 0 most i x e
      subst er
      obtain ⟨f1, f2, f3, f4⟩ := hfr
      have hnl : now.length ≤ 200 := by omega
      obtain ⟨xs, x7', el, hp, hxl⟩ := some_loop hnl (.io (.lst row2)) (.sh (tx F)) (.sh (ni most)) (.sh (.tup ds)) (.sh x) x8 rfl x7
      have c1 : itN rg1 (aCons (appN lenD (aCons (gAny 3) aNil)) aNil) [.io (.lst row2), .sh (tx F), .sh (ni most), .sh (tx now), .sh (.tup ds), .sh x, .sh (.lst []), x7, x8, .un] = .ok (rngL 0 now.length) := by
        simp (disch := first | omega | (simp; done) | (simp; omega)) [DL.withEnv, DL.tst, DL.tstE, DL.tru, DL.truE, DL.bin, DL.binE, DL.appN, DL.appNE, DL.aCons, DL.aNil, DL.aConsE, DL.kc, DL.itN, DL.itX, DL.un1, DL.notB, DL.orB, DL.andB, DL.notV, DL.andV, DL.orV, DL.ifV, DL.chn, DL.oNone, DL.oSome, DL.sl3, DL.mthV, DL.mkT, DL.mkTE, DL.mkL, DL.yesB, DL.gSh_eq, DL.gAny_eq, DL.gS_sh, DL.gA_sh, DL.gA_own, DL.gA_io, DL.ownL_eq, DL.oL_own, DL.oL_io, DL.put_own, DL.put_io, DL.bind_ok, DL.ofO_some, DL.at_ok, DL.ne_ok, DL.asB_bl', DL.asI_int', DL.tru_bl, DL.tru_int, DL.tru_lst, DL.len_tx, DL.len_lst, DL.len_tup, DL.ix_tx, DL.ix_lst, DL.ix_tup, DL.sl_tx, DL.sl_lst, DL.sl_tup, DL.plus_tx, DL.plus_int, DL.plus_lst, DL.plus_tup, DL.cat_lst, DL.rep_lst1, DL.zD_tx, DL.zD_lst, DL.zD_tup, DL.rev_tx, DL.en_tx, DL.asStr_tx, DL.tup_lst, DL.lst_tup, DL.isi_tx, DL.isi_int, DL.isi_intb, DL.isi_tt, DL.isi_lt, DL.sub_int', DL.add_ip, DL.sub_ip, DL.mul_int', DL.lt_int, DL.gt_int, DL.ge_int, DL.le_int, DL.eq_int, DL.ne_int, DL.eq_tx, DL.ne_tx, DL.isn_int, DL.isn_non, DL.isb, DL.neg_int, DL.int_int, DL.atI_nat, DL.atI_zero, DL.atI_one, DL.atI_two, DL.atI_three, DL.atI_succ, DL.atI_last, DL.cut_to, DL.cut_from, DL.cut_both, DL.cut_butlast, PySem.sizeLine_eq, DL.sum_nl, DL.sum_nt, DL.gSet, DL.gTupD, DL.gsCons, DL.gsNil, DL.ini, DL.setS, rg1_nat]
      have cn : neD (.lst xs) (.lst []) = some (.bl (!xs.isEmpty)) := ne_nil fun d hd => by
        obtain ⟨a, b, ed, _⟩ := hp d hd
        exact ⟨a, b, ed⟩
      have pre : ∀ {z : DL.R Fl}, ifS (withEnv (tst (bin neD (gAny 6) (mkL aNil)))) (seqS (setS 8 (callIO 0 1 F__law_pick (withEnv (aCons (gSh 6) aNil)))) (asgS (gTupD 2 (gsCons (gSet 3) (gsCons (gSet 4) gsNil))) (withEnv (mkT (aCons (bin plusD (sl3 slA (gAny 3) oNone (oSome (bin plusD (bin ixD (gAny 8) (kc (.int 0))) (kc (.int 1))))) (sl3 slA (gAny 3) (oSome (bin plusD (bin ixD (gAny 8) (kc (.int 1))) (kc (.int 1)))) oNone)) (aCons (bin plusD (gAny 4) (mkT (aCons (gSh 8) aNil))) aNil)))))) skipS [.io (.lst row2), .sh (tx F), .sh (ni most), .sh (tx now), .sh (.tup ds), .sh x, .sh (.lst xs), x7', x8, .un] = z →
          (seqS (setS 6 (withEnv (mkL aNil))) (seqS (forS (withEnv (itN rg1 (aCons (appN lenD (aCons (gAny 3) aNil)) aNil))) (gSet 7) (setS 6 (withEnv (bin plusD (gAny 6) (lcD [("second", 9)] (itN rg2 (aCons (bin plusD (gAny 7) (kc (.int 1))) (aCons (appN lenD (aCons (gAny 3) aNil)) aNil))) (gSet 9) (tst (bin eqD (bin ixD (gAny 3) (gAny 7)) (bin ixD (gAny 3) (gAny 9)))) (mkT (aCons (gSh 7) (aCons (gSh 9) aNil)))))))) (ifS (withEnv (tst (bin neD (gAny 6) (mkL aNil)))) (seqS (setS 8 (callIO 0 1 F__law_pick (withEnv (aCons (gSh 6) aNil)))) (asgS (gTupD 2 (gsCons (gSet 3) (gsCons (gSet 4) gsNil))) (withEnv (mkT (aCons (bin plusD (sl3 slA (gAny 3) oNone (oSome (bin plusD (bin ixD (gAny 8) (kc (.int 0))) (kc (.int 1))))) (sl3 slA (gAny 3) (oSome (bin plusD (bin ixD (gAny 8) (kc (.int 1))) (kc (.int 1)))) oNone)) (aCons (bin plusD (gAny 4) (mkT (aCons (gSh 8) aNil))) aNil)))))) skipS))) [.io (.lst row2), .sh (tx F), .sh (ni most), .sh (tx now), .sh (.tup ds), .sh x, x6, x7, x8, .un] = z := fun {z} hz =>
        seq_nx (r1 := [.io (.lst row2), .sh (tx F), .sh (ni most), .sh (tx now), .sh (.tup ds), .sh x, .sh (.lst []), x7, x8, .un]) (set_p (d := .lst []) (by simp (disch := first | omega | (simp; done) | (simp; omega)) [DL.withEnv, DL.tst, DL.tstE, DL.tru, DL.truE, DL.bin, DL.binE, DL.appN, DL.appNE, DL.aCons, DL.aNil, DL.aConsE, DL.kc, DL.itN, DL.itX, DL.un1, DL.notB, DL.orB, DL.andB, DL.notV, DL.andV, DL.orV, DL.ifV, DL.chn, DL.oNone, DL.oSome, DL.sl3, DL.mthV, DL.mkT, DL.mkTE, DL.mkL, DL.yesB, DL.gSh_eq, DL.gAny_eq, DL.gS_sh, DL.gA_sh, DL.gA_own, DL.gA_io, DL.ownL_eq, DL.oL_own, DL.oL_io, DL.put_own, DL.put_io, DL.bind_ok, DL.ofO_some, DL.at_ok, DL.ne_ok, DL.asB_bl', DL.asI_int', DL.tru_bl, DL.tru_int, DL.tru_lst, DL.len_tx, DL.len_lst, DL.len_tup, DL.ix_tx, DL.ix_lst, DL.ix_tup, DL.sl_tx, DL.sl_lst, DL.sl_tup, DL.plus_tx, DL.plus_int, DL.plus_lst, DL.plus_tup, DL.cat_lst, DL.rep_lst1, DL.zD_tx, DL.zD_lst, DL.zD_tup, DL.rev_tx, DL.en_tx, DL.asStr_tx, DL.tup_lst, DL.lst_tup, DL.isi_tx, DL.isi_int, DL.isi_intb, DL.isi_tt, DL.isi_lt, DL.sub_int', DL.add_ip, DL.sub_ip, DL.mul_int', DL.lt_int, DL.gt_int, DL.ge_int, DL.le_int, DL.eq_int, DL.ne_int, DL.eq_tx, DL.ne_tx, DL.isn_int, DL.isn_non, DL.isb, DL.neg_int, DL.int_int, DL.atI_nat, DL.atI_zero, DL.atI_one, DL.atI_two, DL.atI_three, DL.atI_succ, DL.atI_last, DL.cut_to, DL.cut_from, DL.cut_both, DL.cut_butlast, PySem.sizeLine_eq, DL.sum_nl, DL.sum_nt, DL.gSet, DL.gTupD, DL.gsCons, DL.gsNil, DL.ini, DL.setS])) (seq_nx (for_p c1 el) hz)
      by_cases hx : xs = []
      · subst hx
        refine ⟨_, [.io (.lst row2), .sh (tx F), .sh (ni most), .sh (tx now), .sh (.tup ds), .sh x, .sh (.lst []), x7', x8, .un], rfl, pre (if_n (cond_p (b := false) ?_) rfl), row2, now, ds, .sh x, .sh (.lst []), x7', x8, rfl, hr2, ⟨f1, f2, f3, f4⟩, by omega⟩
        simp (disch := first | omega | (simp; done) | (simp; omega)) [DL.withEnv, DL.tst, DL.tstE, DL.tru, DL.truE, DL.bin, DL.binE, DL.appN, DL.appNE, DL.aCons, DL.aNil, DL.aConsE, DL.kc, DL.itN, DL.itX, DL.un1, DL.notB, DL.orB, DL.andB, DL.notV, DL.andV, DL.orV, DL.ifV, DL.chn, DL.oNone, DL.oSome, DL.sl3, DL.mthV, DL.mkT, DL.mkTE, DL.mkL, DL.yesB, DL.gSh_eq, DL.gAny_eq, DL.gS_sh, DL.gA_sh, DL.gA_own, DL.gA_io, DL.ownL_eq, DL.oL_own, DL.oL_io, DL.put_own, DL.put_io, DL.bind_ok, DL.ofO_some, DL.at_ok, DL.ne_ok, DL.asB_bl', DL.asI_int', DL.tru_bl, DL.tru_int, DL.tru_lst, DL.len_tx, DL.len_lst, DL.len_tup, DL.ix_tx, DL.ix_lst, DL.ix_tup, DL.sl_tx, DL.sl_lst, DL.sl_tup, DL.plus_tx, DL.plus_int, DL.plus_lst, DL.plus_tup, DL.cat_lst, DL.rep_lst1, DL.zD_tx, DL.zD_lst, DL.zD_tup, DL.rev_tx, DL.en_tx, DL.asStr_tx, DL.tup_lst, DL.lst_tup, DL.isi_tx, DL.isi_int, DL.isi_intb, DL.isi_tt, DL.isi_lt, DL.sub_int', DL.add_ip, DL.sub_ip, DL.mul_int', DL.lt_int, DL.gt_int, DL.ge_int, DL.le_int, DL.eq_int, DL.ne_int, DL.eq_tx, DL.ne_tx, DL.isn_int, DL.isn_non, DL.isb, DL.neg_int, DL.int_int, DL.atI_nat, DL.atI_zero, DL.atI_one, DL.atI_two, DL.atI_three, DL.atI_succ, DL.atI_last, DL.cut_to, DL.cut_from, DL.cut_both, DL.cut_butlast, PySem.sizeLine_eq, DL.sum_nl, DL.sum_nt, DL.gSet, DL.gTupD, DL.gsCons, DL.gsNil, DL.ini, DL.setS, cn]
      · obtain ⟨d, row3, e3, hr3, hd⟩ := pick_ok hr2 hx (by omega)
        obtain ⟨a, b, ed, q1, q2, q3⟩ := hp d hd
        subst ed
        have hne : xs.isEmpty = false := by
          cases xs with
          | nil => exact absurd rfl hx
          | cons _ _ => rfl
        obtain ⟨c, y, n1, n2⟩ := cut_at q1 q2 q3
        have c2 : callIO 0 1 F__law_pick (withEnv (aCons (gSh 6) aNil)) [.io (.lst row2), .sh (tx F), .sh (ni most), .sh (tx now), .sh (.tup ds), .sh x, .sh (.lst xs), x7', x8, .un] = .ok (.tup [ni a, ni b], [.io (.lst row3), .sh (tx F), .sh (ni most), .sh (tx now), .sh (.tup ds), .sh x, .sh (.lst xs), x7', x8, .un]) := callIO_ok (s := .io (.lst row2)) (row := row2) (ds := [.lst xs]) rfl (wx rfl) rfl e3
        have t1 : cutL now none (some ((a : Int) + 1)) = now.take (a + 1) := cut_to now (a + 1)
        have t2 : cutL now (some ((b : Int) + 1)) none = now.drop (b + 1) := cut_from now (b + 1)
        have c3 : mkT (aCons (bin plusD (sl3 slA (gAny 3) oNone (oSome (bin plusD (bin ixD (gAny 8) (kc (.int 0))) (kc (.int 1))))) (sl3 slA (gAny 3) (oSome (bin plusD (bin ixD (gAny 8) (kc (.int 1))) (kc (.int 1)))) oNone)) (aCons (bin plusD (gAny 4) (mkT (aCons (gSh 8) aNil))) aNil)) [.io (.lst row3), .sh (tx F), .sh (ni most), .sh (tx now), .sh (.tup ds), .sh x, .sh (.lst xs), x7', .sh (.tup [ni a, ni b]), .un] = .ok (.tup [tx (now.take (a + 1) ++ now.drop (b + 1)), .tup (ds ++ [.tup [ni a, ni b]])]) := by
          simp (disch := first | omega | (simp; done) | (simp; omega)) [DL.withEnv, DL.tst, DL.tstE, DL.tru, DL.truE, DL.bin, DL.binE, DL.appN, DL.appNE, DL.aCons, DL.aNil, DL.aConsE, DL.kc, DL.itN, DL.itX, DL.un1, DL.notB, DL.orB, DL.andB, DL.notV, DL.andV, DL.orV, DL.ifV, DL.chn, DL.oNone, DL.oSome, DL.sl3, DL.mthV, DL.mkT, DL.mkTE, DL.mkL, DL.yesB, DL.gSh_eq, DL.gAny_eq, DL.gS_sh, DL.gA_sh, DL.gA_own, DL.gA_io, DL.ownL_eq, DL.oL_own, DL.oL_io, DL.put_own, DL.put_io, DL.bind_ok, DL.ofO_some, DL.at_ok, DL.ne_ok, DL.asB_bl', DL.asI_int', DL.tru_bl, DL.tru_int, DL.tru_lst, DL.len_tx, DL.len_lst, DL.len_tup, DL.ix_tx, DL.ix_lst, DL.ix_tup, DL.sl_tx, DL.sl_lst, DL.sl_tup, DL.plus_tx, DL.plus_int, DL.plus_lst, DL.plus_tup, DL.cat_lst, DL.rep_lst1, DL.zD_tx, DL.zD_lst, DL.zD_tup, DL.rev_tx, DL.en_tx, DL.asStr_tx, DL.tup_lst, DL.lst_tup, DL.isi_tx, DL.isi_int, DL.isi_intb, DL.isi_tt, DL.isi_lt, DL.sub_int', DL.add_ip, DL.sub_ip, DL.mul_int', DL.lt_int, DL.gt_int, DL.ge_int, DL.le_int, DL.eq_int, DL.ne_int, DL.eq_tx, DL.ne_tx, DL.isn_int, DL.isn_non, DL.isb, DL.neg_int, DL.int_int, DL.atI_nat, DL.atI_zero, DL.atI_one, DL.atI_two, DL.atI_three, DL.atI_succ, DL.atI_last, DL.cut_to, DL.cut_from, DL.cut_both, DL.cut_butlast, PySem.sizeLine_eq, DL.sum_nl, DL.sum_nt, DL.gSet, DL.gTupD, DL.gsCons, DL.gsNil, DL.ini, DL.setS, t1, t2]
        have hl2 : (now.take (a + 1) ++ now.drop (b + 1)).length ≤ now.length := by
          rw [List.length_append, List.length_take, List.length_drop]
          omega
        refine ⟨_, [.io (.lst row3), .sh (tx F), .sh (ni most), .sh (tx (now.take (a + 1) ++ now.drop (b + 1))), .sh (.tup (ds ++ [.tup [ni a, ni b]])), .sh x, .sh (.lst xs), x7', .sh (.tup [ni a, ni b]), .un], rfl, pre (if_y (cond_p (b := true) ?_) (seq_nx (set_e c2) (asg_p c3 rfl))), row3, _, _, .sh x, .sh (.lst xs), x7', .sh (.tup [ni a, ni b]), rfl, hr3, ⟨?_, by omega, ?_, ?_⟩, by rw [List.length_append, List.length_singleton]; omega⟩
        · simp (disch := first | omega | (simp; done) | (simp; omega)) [DL.withEnv, DL.tst, DL.tstE, DL.tru, DL.truE, DL.bin, DL.binE, DL.appN, DL.appNE, DL.aCons, DL.aNil, DL.aConsE, DL.kc, DL.itN, DL.itX, DL.un1, DL.notB, DL.orB, DL.andB, DL.notV, DL.andV, DL.orV, DL.ifV, DL.chn, DL.oNone, DL.oSome, DL.sl3, DL.mthV, DL.mkT, DL.mkTE, DL.mkL, DL.yesB, DL.gSh_eq, DL.gAny_eq, DL.gS_sh, DL.gA_sh, DL.gA_own, DL.gA_io, DL.ownL_eq, DL.oL_own, DL.oL_io, DL.put_own, DL.put_io, DL.bind_ok, DL.ofO_some, DL.at_ok, DL.ne_ok, DL.asB_bl', DL.asI_int', DL.tru_bl, DL.tru_int, DL.tru_lst, DL.len_tx, DL.len_lst, DL.len_tup, DL.ix_tx, DL.ix_lst, DL.ix_tup, DL.sl_tx, DL.sl_lst, DL.sl_tup, DL.plus_tx, DL.plus_int, DL.plus_lst, DL.plus_tup, DL.cat_lst, DL.rep_lst1, DL.zD_tx, DL.zD_lst, DL.zD_tup, DL.rev_tx, DL.en_tx, DL.asStr_tx, DL.tup_lst, DL.lst_tup, DL.isi_tx, DL.isi_int, DL.isi_intb, DL.isi_tt, DL.isi_lt, DL.sub_int', DL.add_ip, DL.sub_ip, DL.mul_int', DL.lt_int, DL.gt_int, DL.ge_int, DL.le_int, DL.eq_int, DL.ne_int, DL.eq_tx, DL.ne_tx, DL.isn_int, DL.isn_non, DL.isb, DL.neg_int, DL.int_int, DL.atI_nat, DL.atI_zero, DL.atI_one, DL.atI_two, DL.atI_three, DL.atI_succ, DL.atI_last, DL.cut_to, DL.cut_from, DL.cut_both, DL.cut_butlast, PySem.sizeLine_eq, DL.sum_nl, DL.sum_nt, DL.gSet, DL.gTupD, DL.gsCons, DL.gsNil, DL.ini, DL.setS, cn, hne]
        · rw [n2]
          simp
        · intro z hz
          refine f3 z ?_
          rcases List.mem_append.mp hz with w | w
          · exact List.mem_of_mem_take w
          · exact List.mem_of_mem_drop w
        · intro g hg
          refine f4 g ?_
          rw [n2] at hg
          rw [n1]
          exact W_uncut c y _ g _ hg)
  subst er
  rw [rngL_length] at hds
  refine ⟨ds, now, row', fnIO_rt (r1 := [.sh (tx F), .sh (ni most), .sh (tx now), .sh (.tup ds), x5, x6, x7, x8, .un]) rfl (show b__law_drawn [.io (.lst row), .sh (tx F), .sh (ni most), .un, .un, .un, .un, .un, .un, .un] = _ from ?_), hr, hfr⟩
  unfold b__law_drawn
  refine seq_nx (r1 := [.io (.lst row), .sh (tx F), .sh (ni most), .sh (tx F), .sh (.tup []), .un, .un, .un, .un, .un]) (asg_p (d := .tup [tx F, .tup []]) (by simp (disch := first | omega | (simp; done) | (simp; omega)) [DL.withEnv, DL.tst, DL.tstE, DL.tru, DL.truE, DL.bin, DL.binE, DL.appN, DL.appNE, DL.aCons, DL.aNil, DL.aConsE, DL.kc, DL.itN, DL.itX, DL.un1, DL.notB, DL.orB, DL.andB, DL.notV, DL.andV, DL.orV, DL.ifV, DL.chn, DL.oNone, DL.oSome, DL.sl3, DL.mthV, DL.mkT, DL.mkTE, DL.mkL, DL.yesB, DL.gSh_eq, DL.gAny_eq, DL.gS_sh, DL.gA_sh, DL.gA_own, DL.gA_io, DL.ownL_eq, DL.oL_own, DL.oL_io, DL.put_own, DL.put_io, DL.bind_ok, DL.ofO_some, DL.at_ok, DL.ne_ok, DL.asB_bl', DL.asI_int', DL.tru_bl, DL.tru_int, DL.tru_lst, DL.len_tx, DL.len_lst, DL.len_tup, DL.ix_tx, DL.ix_lst, DL.ix_tup, DL.sl_tx, DL.sl_lst, DL.sl_tup, DL.plus_tx, DL.plus_int, DL.plus_lst, DL.plus_tup, DL.cat_lst, DL.rep_lst1, DL.zD_tx, DL.zD_lst, DL.zD_tup, DL.rev_tx, DL.en_tx, DL.asStr_tx, DL.tup_lst, DL.lst_tup, DL.isi_tx, DL.isi_int, DL.isi_intb, DL.isi_tt, DL.isi_lt, DL.sub_int', DL.add_ip, DL.sub_ip, DL.mul_int', DL.lt_int, DL.gt_int, DL.ge_int, DL.le_int, DL.eq_int, DL.ne_int, DL.eq_tx, DL.ne_tx, DL.isn_int, DL.isn_non, DL.isb, DL.neg_int, DL.int_int, DL.atI_nat, DL.atI_zero, DL.atI_one, DL.atI_two, DL.atI_three, DL.atI_succ, DL.atI_last, DL.cut_to, DL.cut_from, DL.cut_both, DL.cut_butlast, PySem.sizeLine_eq, DL.sum_nl, DL.sum_nt, DL.gSet, DL.gTupD, DL.gsCons, DL.gsNil, DL.ini, DL.setS]) rfl) ?_
  refine seq_nx (for_p (items := rngL 0 most) (by simp (disch := first | omega | (simp; done) | (simp; omega)) [DL.withEnv, DL.tst, DL.tstE, DL.tru, DL.truE, DL.bin, DL.binE, DL.appN, DL.appNE, DL.aCons, DL.aNil, DL.aConsE, DL.kc, DL.itN, DL.itX, DL.un1, DL.notB, DL.orB, DL.andB, DL.notV, DL.andV, DL.orV, DL.ifV, DL.chn, DL.oNone, DL.oSome, DL.sl3, DL.mthV, DL.mkT, DL.mkTE, DL.mkL, DL.yesB, DL.gSh_eq, DL.gAny_eq, DL.gS_sh, DL.gA_sh, DL.gA_own, DL.gA_io, DL.ownL_eq, DL.oL_own, DL.oL_io, DL.put_own, DL.put_io, DL.bind_ok, DL.ofO_some, DL.at_ok, DL.ne_ok, DL.asB_bl', DL.asI_int', DL.tru_bl, DL.tru_int, DL.tru_lst, DL.len_tx, DL.len_lst, DL.len_tup, DL.ix_tx, DL.ix_lst, DL.ix_tup, DL.sl_tx, DL.sl_lst, DL.sl_tup, DL.plus_tx, DL.plus_int, DL.plus_lst, DL.plus_tup, DL.cat_lst, DL.rep_lst1, DL.zD_tx, DL.zD_lst, DL.zD_tup, DL.rev_tx, DL.en_tx, DL.asStr_tx, DL.tup_lst, DL.lst_tup, DL.isi_tx, DL.isi_int, DL.isi_intb, DL.isi_tt, DL.isi_lt, DL.sub_int', DL.add_ip, DL.sub_ip, DL.mul_int', DL.lt_int, DL.gt_int, DL.ge_int, DL.le_int, DL.eq_int, DL.ne_int, DL.eq_tx, DL.ne_tx, DL.isn_int, DL.isn_non, DL.isb, DL.neg_int, DL.int_int, DL.atI_nat, DL.atI_zero, DL.atI_one, DL.atI_two, DL.atI_three, DL.atI_succ, DL.atI_last, DL.cut_to, DL.cut_from, DL.cut_both, DL.cut_butlast, PySem.sizeLine_eq, DL.sum_nl, DL.sum_nt, DL.gSet, DL.gTupD, DL.gsCons, DL.gsNil, DL.ini, DL.setS, rg1_nat]) e) (ret_p (by simp (disch := first | omega | (simp; done) | (simp; omega)) [DL.withEnv, DL.tst, DL.tstE, DL.tru, DL.truE, DL.bin, DL.binE, DL.appN, DL.appNE, DL.aCons, DL.aNil, DL.aConsE, DL.kc, DL.itN, DL.itX, DL.un1, DL.notB, DL.orB, DL.andB, DL.notV, DL.andV, DL.orV, DL.ifV, DL.chn, DL.oNone, DL.oSome, DL.sl3, DL.mthV, DL.mkT, DL.mkTE, DL.mkL, DL.yesB, DL.gSh_eq, DL.gAny_eq, DL.gS_sh, DL.gA_sh, DL.gA_own, DL.gA_io, DL.ownL_eq, DL.oL_own, DL.oL_io, DL.put_own, DL.put_io, DL.bind_ok, DL.ofO_some, DL.at_ok, DL.ne_ok, DL.asB_bl', DL.asI_int', DL.tru_bl, DL.tru_int, DL.tru_lst, DL.len_tx, DL.len_lst, DL.len_tup, DL.ix_tx, DL.ix_lst, DL.ix_tup, DL.sl_tx, DL.sl_lst, DL.sl_tup, DL.plus_tx, DL.plus_int, DL.plus_lst, DL.plus_tup, DL.cat_lst, DL.rep_lst1, DL.zD_tx, DL.zD_lst, DL.zD_tup, DL.rev_tx, DL.en_tx, DL.asStr_tx, DL.tup_lst, DL.lst_tup, DL.isi_tx, DL.isi_int, DL.isi_intb, DL.isi_tt, DL.isi_lt, DL.sub_int', DL.add_ip, DL.sub_ip, DL.mul_int', DL.lt_int, DL.gt_int, DL.ge_int, DL.le_int, DL.eq_int, DL.ne_int, DL.eq_tx, DL.ne_tx, DL.isn_int, DL.isn_non, DL.isb, DL.neg_int, DL.int_int, DL.atI_nat, DL.atI_zero, DL.atI_one, DL.atI_two, DL.atI_three, DL.atI_succ, DL.atI_last, DL.cut_to, DL.cut_from, DL.cut_both, DL.cut_butlast, PySem.sizeLine_eq, DL.sum_nl, DL.sum_nt, DL.gSet, DL.gTupD, DL.gsCons, DL.gsNil, DL.ini, DL.setS]))
end LW

namespace LW
open PySem DL PT
/-! ### alike -/
theorem alike_int (j : Nat) (i : Int) : F__law_alike (j + 1) [.int i, .int i] = .ok (.bl true) := by
  refine fnD_rt (r1 := [.sh (.int i), .sh (.int i), .un]) rfl (show b__law_alike (F__law_alike j) [.sh (.int i), .sh (.int i), .un] = _ from ?_)
  unfold b__law_alike
  simp (disch := first | omega | (simp; done) | (simp; omega)) only [↓DL.we_e, DL.weB_ok, ↓DL.ts_e, DL.tsB_ok, ↓DL.tsE_e, DL.tsE_ok, DL.prB_ok, ↓DL.tr_e, DL.trB_ok, ↓DL.trE_e, DL.trE_ok, ↓DL.bn_e, DL.bnB_ok, ↓DL.bnE_e, DL.bnE_ok, DL.bnE2_ok, ↓DL.ap_e, DL.apB_ok, ↓DL.itN_e, ↓DL.apE_e, DL.apE_ok, ↓DL.itX_e, DL.apX_ok, ↓DL.un1_e, ↓DL.aNil_e, ↓DL.aCons_e, DL.acB_ok, ↓DL.aConsE_e, DL.acE_ok, DL.acE2_ok, ↓DL.kc_e, ↓DL.notB_e, DL.ntB_ok, ↓DL.notV_e, DL.ntV_ok, ↓DL.notE_e, DL.ntE_ok, ↓DL.andB_e, DL.anB_t, DL.anB_f, ↓DL.orB_e, DL.orB_t, DL.orB_f, ↓DL.andV_e, DL.anV_t, DL.anV_f, ↓DL.orV_e, DL.roV_t, DL.roV_f, ↓DL.ifV_e, DL.ivB_t, DL.ivB_f, ↓DL.ifVE_e, DL.ivE_t, DL.ivE_f, ↓DL.andE_e, DL.anE_t, DL.anE_f, ↓DL.orE_e, DL.roE_t, DL.roE_f, ↓DL.chn_e, DL.chB_ok, DL.chB2_t, DL.chB2_f, ↓DL.oNone_e, ↓DL.oSome_e, DL.osB_ok, ↓DL.sl3_e, DL.s3B_ok, ↓DL.mthV_e, DL.mvB_tx, ↓DL.mthL_e, DL.mlB_ok, ↓DL.mkT_e, DL.mtB_ok, ↓DL.mkL_e, DL.mlB'_ok, ↓DL.mkTE_e, DL.mtE_ok, ↓DL.gSet_e, ↓DL.gTup_e, ↓DL.gsCons_e, DL.gcB_ok, ↓DL.gsNil_e, ↓DL.seq_st, DL.sq_nx, DL.sq_rt, DL.sq_bk, DL.sq_ct, ↓DL.if_st, DL.ifB_y, DL.ifB_n, ↓DL.set_st, DL.stB_ok, ↓DL.ret_st, DL.rtB_ok, ↓DL.seto_st, DL.soB_ok, ↓DL.for_st', DL.frB_ok, DL.forD_nil, ↓DL.expr_st, DL.exB_ok, ↓DL.skip_st, ↓DL.retN_st, ↓DL.brk_st, ↓DL.call_st, DL.clB_ok, ↓DL.callE_st, DL.clE_ok, DL.R_at_ok, ↓DL.callIO_st, DL.ciB_ok, DL.ciC_ok, DL.ciD_ok, ↓DL.par_st, DL.psB_ok, ↓DL.asg_st, DL.asB1_ok, DL.asB2_ok, ↓DL.aug_st, DL.agB_ok, DL.agC_ok, ↓DL.app_st, DL.apS_ok, ↓DL.itm_st, DL.imB_ok, DL.imC_ok, ↓DL.rvs_st, DL.rvB_ok, ↓DL.retO_st, DL.roB_own, DL.roB_sh, ↓DL.frz_st, ↓DL.frzS_st, DL.fzB_own, DL.fzB_sh, DL.fzB_un, ↓DL.itR1_st, DL.r1B_ok, DL.rg1_ok, DL.rg2_ok, DL.tn_add1, DL.tn_succ, DL.tn_nat, DL.tn_pred, DL.tn_sub, DL.len0, DL.len1, DL.len2, DL.len3, DL.len4, DL.gSh_eq, DL.gAny_eq, DL.gS_sh, DL.gA_sh, DL.gA_own, DL.gA_io, DL.ownL_eq, DL.oL_own, DL.oL_io, DL.put_own, DL.put_io, DL.ofO_some, DL.tru_bl, DL.tru_int, DL.tru_lst, DL.len_tx, DL.len_lst, DL.len_tup, DL.ix_tx, DL.ix_lst, DL.ix_tup, DL.sl_tx, DL.sl_lst, DL.sl_tup, DL.plus_tx, DL.plus_int, DL.plus_lst, DL.plus_tup, DL.cat_lst, DL.rep_lst1, DL.zD_tx, DL.zD_lst, DL.zD_tup, DL.rev_tx, DL.en_tx, DL.tup_lst, DL.lst_tup, DL.isi_tx, DL.isi_int, DL.isi_intb, DL.isi_tt, DL.isi_lt, DL.isi_int_tl, DL.isi_non_tl, DL.isi_tup_tl, DL.isi_tup_l, DL.isi_int_s, DL.isi_non_s, DL.eq_bl, DL.ne_bl, DL.eq_non, DL.isn_i, DL.isn_n, DL.sub_int', DL.add_ip, DL.sub_ip, DL.mul_int', DL.lt_int, DL.gt_int, DL.ge_int, DL.le_int, DL.eq_int, DL.ne_int, DL.eq_tx, DL.ne_tx, DL.isn_int, DL.isn_non, DL.isb, DL.neg_int, DL.int_int, DL.atI_nat, DL.atI_zero, DL.atI_one, DL.atI_two, DL.atI_three, DL.atI_succ, DL.atI_last, DL.cut_to, DL.cut_from, DL.cut_both, DL.cut_butlast, DL.sum_nl, DL.sum_nt, DL.mul_tx1, DL.mul_tup, List.getElem?_cons_zero, List.getElem?_cons_succ, List.set_cons_zero, List.set_cons_succ, List.length_cons, List.length_nil, List.map_nil, List.length_map, List.cons.injEq, and_true, eq_self, decide_true, decide_false, Bool.not_true, Bool.not_false, Option.map_some, Int.reduceLT, Int.reduceLE, Int.reduceAdd, Int.reduceSub, Int.reduceMul, Int.reduceNeg, Int.reduceEq, Nat.reduceAdd, Nat.reduceSub, isi_int_tl, isi_int_s, isn_i, eq_bl]
theorem alike_non (j : Nat) : F__law_alike (j + 1) [.non, .non] = .ok (.bl true) := by
  refine fnD_rt (r1 := [.sh .non, .sh .non, .un]) rfl (show b__law_alike (F__law_alike j) [.sh .non, .sh .non, .un] = _ from ?_)
  unfold b__law_alike
  simp (disch := first | omega | (simp; done) | (simp; omega)) only [↓DL.we_e, DL.weB_ok, ↓DL.ts_e, DL.tsB_ok, ↓DL.tsE_e, DL.tsE_ok, DL.prB_ok, ↓DL.tr_e, DL.trB_ok, ↓DL.trE_e, DL.trE_ok, ↓DL.bn_e, DL.bnB_ok, ↓DL.bnE_e, DL.bnE_ok, DL.bnE2_ok, ↓DL.ap_e, DL.apB_ok, ↓DL.itN_e, ↓DL.apE_e, DL.apE_ok, ↓DL.itX_e, DL.apX_ok, ↓DL.un1_e, ↓DL.aNil_e, ↓DL.aCons_e, DL.acB_ok, ↓DL.aConsE_e, DL.acE_ok, DL.acE2_ok, ↓DL.kc_e, ↓DL.notB_e, DL.ntB_ok, ↓DL.notV_e, DL.ntV_ok, ↓DL.notE_e, DL.ntE_ok, ↓DL.andB_e, DL.anB_t, DL.anB_f, ↓DL.orB_e, DL.orB_t, DL.orB_f, ↓DL.andV_e, DL.anV_t, DL.anV_f, ↓DL.orV_e, DL.roV_t, DL.roV_f, ↓DL.ifV_e, DL.ivB_t, DL.ivB_f, ↓DL.ifVE_e, DL.ivE_t, DL.ivE_f, ↓DL.andE_e, DL.anE_t, DL.anE_f, ↓DL.orE_e, DL.roE_t, DL.roE_f, ↓DL.chn_e, DL.chB_ok, DL.chB2_t, DL.chB2_f, ↓DL.oNone_e, ↓DL.oSome_e, DL.osB_ok, ↓DL.sl3_e, DL.s3B_ok, ↓DL.mthV_e, DL.mvB_tx, ↓DL.mthL_e, DL.mlB_ok, ↓DL.mkT_e, DL.mtB_ok, ↓DL.mkL_e, DL.mlB'_ok, ↓DL.mkTE_e, DL.mtE_ok, ↓DL.gSet_e, ↓DL.gTup_e, ↓DL.gsCons_e, DL.gcB_ok, ↓DL.gsNil_e, ↓DL.seq_st, DL.sq_nx, DL.sq_rt, DL.sq_bk, DL.sq_ct, ↓DL.if_st, DL.ifB_y, DL.ifB_n, ↓DL.set_st, DL.stB_ok, ↓DL.ret_st, DL.rtB_ok, ↓DL.seto_st, DL.soB_ok, ↓DL.for_st', DL.frB_ok, DL.forD_nil, ↓DL.expr_st, DL.exB_ok, ↓DL.skip_st, ↓DL.retN_st, ↓DL.brk_st, ↓DL.call_st, DL.clB_ok, ↓DL.callE_st, DL.clE_ok, DL.R_at_ok, ↓DL.callIO_st, DL.ciB_ok, DL.ciC_ok, DL.ciD_ok, ↓DL.par_st, DL.psB_ok, ↓DL.asg_st, DL.asB1_ok, DL.asB2_ok, ↓DL.aug_st, DL.agB_ok, DL.agC_ok, ↓DL.app_st, DL.apS_ok, ↓DL.itm_st, DL.imB_ok, DL.imC_ok, ↓DL.rvs_st, DL.rvB_ok, ↓DL.retO_st, DL.roB_own, DL.roB_sh, ↓DL.frz_st, ↓DL.frzS_st, DL.fzB_own, DL.fzB_sh, DL.fzB_un, ↓DL.itR1_st, DL.r1B_ok, DL.rg1_ok, DL.rg2_ok, DL.tn_add1, DL.tn_succ, DL.tn_nat, DL.tn_pred, DL.tn_sub, DL.len0, DL.len1, DL.len2, DL.len3, DL.len4, DL.gSh_eq, DL.gAny_eq, DL.gS_sh, DL.gA_sh, DL.gA_own, DL.gA_io, DL.ownL_eq, DL.oL_own, DL.oL_io, DL.put_own, DL.put_io, DL.ofO_some, DL.tru_bl, DL.tru_int, DL.tru_lst, DL.len_tx, DL.len_lst, DL.len_tup, DL.ix_tx, DL.ix_lst, DL.ix_tup, DL.sl_tx, DL.sl_lst, DL.sl_tup, DL.plus_tx, DL.plus_int, DL.plus_lst, DL.plus_tup, DL.cat_lst, DL.rep_lst1, DL.zD_tx, DL.zD_lst, DL.zD_tup, DL.rev_tx, DL.en_tx, DL.tup_lst, DL.lst_tup, DL.isi_tx, DL.isi_int, DL.isi_intb, DL.isi_tt, DL.isi_lt, DL.isi_int_tl, DL.isi_non_tl, DL.isi_tup_tl, DL.isi_tup_l, DL.isi_int_s, DL.isi_non_s, DL.eq_bl, DL.ne_bl, DL.eq_non, DL.isn_i, DL.isn_n, DL.sub_int', DL.add_ip, DL.sub_ip, DL.mul_int', DL.lt_int, DL.gt_int, DL.ge_int, DL.le_int, DL.eq_int, DL.ne_int, DL.eq_tx, DL.ne_tx, DL.isn_int, DL.isn_non, DL.isb, DL.neg_int, DL.int_int, DL.atI_nat, DL.atI_zero, DL.atI_one, DL.atI_two, DL.atI_three, DL.atI_succ, DL.atI_last, DL.cut_to, DL.cut_from, DL.cut_both, DL.cut_butlast, DL.sum_nl, DL.sum_nt, DL.mul_tx1, DL.mul_tup, List.getElem?_cons_zero, List.getElem?_cons_succ, List.set_cons_zero, List.set_cons_succ, List.length_cons, List.length_nil, List.map_nil, List.length_map, List.cons.injEq, and_true, eq_self, decide_true, decide_false, Bool.not_true, Bool.not_false, Option.map_some, Int.reduceLT, Int.reduceLE, Int.reduceAdd, Int.reduceSub, Int.reduceMul, Int.reduceNeg, Int.reduceEq, Nat.reduceAdd, Nat.reduceSub, isi_non_tl, isi_non_s, isn_n, eq_bl, eq_non]
theorem rng_mem {n : Nat} {x : D} (h : x ∈ rngL 0 n) : ∃ i : Nat, i < n ∧ x = ni i := by
  obtain ⟨i, hi, e⟩ := List.getElem_of_mem h
  obtain ⟨h1, h2⟩ := rng_get 0 n i x (by rw [List.getElem?_eq_getElem hi, e])
  rw [Int.zero_add] at h2
  exact ⟨i, h1, h2⟩
theorem alike_tup (j : Nat) {l : List Nat} (hl : l.length ≤ 1000) : F__law_alike (j + 2) [tn l, tn l] = .ok (.bl true) := by
  refine fnD_rt (r1 := [.sh (tn l), .sh (tn l), .un]) rfl (show b__law_alike (F__law_alike (j + 1)) [.sh (tn l), .sh (tn l), .un] = _ from ?_)
  have c1 : itN rg1 (aCons (appN lenD (aCons (gAny 1) aNil)) aNil) [.sh (tn l), .sh (tn l), .un] = .ok (rngL 0 l.length) := by
    simp (disch := first | omega | (simp; done) | (simp; omega)) [DL.withEnv, DL.tst, DL.tstE, DL.tru, DL.truE, DL.bin, DL.binE, DL.appN, DL.appNE, DL.aCons, DL.aNil, DL.aConsE, DL.kc, DL.itN, DL.itX, DL.un1, DL.notB, DL.orB, DL.andB, DL.notV, DL.andV, DL.orV, DL.ifV, DL.chn, DL.oNone, DL.oSome, DL.sl3, DL.mthV, DL.mkT, DL.mkTE, DL.mkL, DL.yesB, DL.gSh_eq, DL.gAny_eq, DL.gS_sh, DL.gA_sh, DL.gA_own, DL.gA_io, DL.ownL_eq, DL.oL_own, DL.oL_io, DL.put_own, DL.put_io, DL.bind_ok, DL.ofO_some, DL.at_ok, DL.ne_ok, DL.asB_bl', DL.asI_int', DL.tru_bl, DL.tru_int, DL.tru_lst, DL.len_tx, DL.len_lst, DL.len_tup, DL.ix_tx, DL.ix_lst, DL.ix_tup, DL.sl_tx, DL.sl_lst, DL.sl_tup, DL.plus_tx, DL.plus_int, DL.plus_lst, DL.plus_tup, DL.cat_lst, DL.rep_lst1, DL.zD_tx, DL.zD_lst, DL.zD_tup, DL.rev_tx, DL.en_tx, DL.asStr_tx, DL.tup_lst, DL.lst_tup, DL.isi_tx, DL.isi_int, DL.isi_intb, DL.isi_tt, DL.isi_lt, DL.sub_int', DL.add_ip, DL.sub_ip, DL.mul_int', DL.lt_int, DL.gt_int, DL.ge_int, DL.le_int, DL.eq_int, DL.ne_int, DL.eq_tx, DL.ne_tx, DL.isn_int, DL.isn_non, DL.isb, DL.neg_int, DL.int_int, DL.atI_nat, DL.atI_zero, DL.atI_one, DL.atI_two, DL.atI_three, DL.atI_succ, DL.atI_last, DL.cut_to, DL.cut_from, DL.cut_both, DL.cut_butlast, PySem.sizeLine_eq, DL.sum_nl, DL.sum_nt, DL.gSet, DL.gTupD, DL.gsCons, DL.gsNil, DL.ini, DL.setS, rg1_nat]
  have c2 := lcV_ok (r := [.sh (tn l), .sh (tn l), .un]) (own := [("k", 2)]) (g := gSet 2) (c := notB (tru (callF 2 (F__law_alike (j + 1)) (aCons (bin ixD (gAny 0) (gAny 2)) (aCons (bin ixD (gAny 1) (gAny 2)) aNil))))) (f := gSh 2) (fun _ => false) (fun d => d) rfl c1 (by rw [rngL_length, sizeLine_eq]; omega) (fun x hx => by
    obtain ⟨i, hi, ex⟩ := rng_mem hx
    subst ex
    have e1 : (l.map ni)[i]? = some (ni l[i]) := by rw [List.getElem?_map, List.getElem?_eq_getElem hi]; rfl
    have e2 := alike_int j (l[i] : Nat)
    refine ⟨[.sh (tn l), .sh (tn l), .sh (ni i)], rfl, ?_, fun h => by cases h⟩
    simp (disch := first | omega | (simp; done) | (simp; omega)) only [↓DL.we_e, DL.weB_ok, ↓DL.ts_e, DL.tsB_ok, ↓DL.tsE_e, DL.tsE_ok, DL.prB_ok, ↓DL.tr_e, DL.trB_ok, ↓DL.trE_e, DL.trE_ok, ↓DL.bn_e, DL.bnB_ok, ↓DL.bnE_e, DL.bnE_ok, DL.bnE2_ok, ↓DL.ap_e, DL.apB_ok, ↓DL.itN_e, ↓DL.apE_e, DL.apE_ok, ↓DL.itX_e, DL.apX_ok, ↓DL.un1_e, ↓DL.aNil_e, ↓DL.aCons_e, DL.acB_ok, ↓DL.aConsE_e, DL.acE_ok, DL.acE2_ok, ↓DL.kc_e, ↓DL.notB_e, DL.ntB_ok, ↓DL.notV_e, DL.ntV_ok, ↓DL.notE_e, DL.ntE_ok, ↓DL.andB_e, DL.anB_t, DL.anB_f, ↓DL.orB_e, DL.orB_t, DL.orB_f, ↓DL.andV_e, DL.anV_t, DL.anV_f, ↓DL.orV_e, DL.roV_t, DL.roV_f, ↓DL.ifV_e, DL.ivB_t, DL.ivB_f, ↓DL.ifVE_e, DL.ivE_t, DL.ivE_f, ↓DL.andE_e, DL.anE_t, DL.anE_f, ↓DL.orE_e, DL.roE_t, DL.roE_f, ↓DL.chn_e, DL.chB_ok, DL.chB2_t, DL.chB2_f, ↓DL.oNone_e, ↓DL.oSome_e, DL.osB_ok, ↓DL.sl3_e, DL.s3B_ok, ↓DL.mthV_e, DL.mvB_tx, ↓DL.mthL_e, DL.mlB_ok, ↓DL.mkT_e, DL.mtB_ok, ↓DL.mkL_e, DL.mlB'_ok, ↓DL.mkTE_e, DL.mtE_ok, ↓DL.gSet_e, ↓DL.gTup_e, ↓DL.gsCons_e, DL.gcB_ok, ↓DL.gsNil_e, ↓DL.seq_st, DL.sq_nx, DL.sq_rt, DL.sq_bk, DL.sq_ct, ↓DL.if_st, DL.ifB_y, DL.ifB_n, ↓DL.set_st, DL.stB_ok, ↓DL.ret_st, DL.rtB_ok, ↓DL.seto_st, DL.soB_ok, ↓DL.for_st', DL.frB_ok, DL.forD_nil, ↓DL.expr_st, DL.exB_ok, ↓DL.skip_st, ↓DL.retN_st, ↓DL.brk_st, ↓DL.call_st, DL.clB_ok, ↓DL.callE_st, DL.clE_ok, DL.R_at_ok, ↓DL.callIO_st, DL.ciB_ok, DL.ciC_ok, DL.ciD_ok, ↓DL.par_st, DL.psB_ok, ↓DL.asg_st, DL.asB1_ok, DL.asB2_ok, ↓DL.aug_st, DL.agB_ok, DL.agC_ok, ↓DL.app_st, DL.apS_ok, ↓DL.itm_st, DL.imB_ok, DL.imC_ok, ↓DL.rvs_st, DL.rvB_ok, ↓DL.retO_st, DL.roB_own, DL.roB_sh, ↓DL.frz_st, ↓DL.frzS_st, DL.fzB_own, DL.fzB_sh, DL.fzB_un, ↓DL.itR1_st, DL.r1B_ok, DL.rg1_ok, DL.rg2_ok, DL.tn_add1, DL.tn_succ, DL.tn_nat, DL.tn_pred, DL.tn_sub, DL.len0, DL.len1, DL.len2, DL.len3, DL.len4, DL.gSh_eq, DL.gAny_eq, DL.gS_sh, DL.gA_sh, DL.gA_own, DL.gA_io, DL.ownL_eq, DL.oL_own, DL.oL_io, DL.put_own, DL.put_io, DL.ofO_some, DL.tru_bl, DL.tru_int, DL.tru_lst, DL.len_tx, DL.len_lst, DL.len_tup, DL.ix_tx, DL.ix_lst, DL.ix_tup, DL.sl_tx, DL.sl_lst, DL.sl_tup, DL.plus_tx, DL.plus_int, DL.plus_lst, DL.plus_tup, DL.cat_lst, DL.rep_lst1, DL.zD_tx, DL.zD_lst, DL.zD_tup, DL.rev_tx, DL.en_tx, DL.tup_lst, DL.lst_tup, DL.isi_tx, DL.isi_int, DL.isi_intb, DL.isi_tt, DL.isi_lt, DL.isi_int_tl, DL.isi_non_tl, DL.isi_tup_tl, DL.isi_tup_l, DL.isi_int_s, DL.isi_non_s, DL.eq_bl, DL.ne_bl, DL.eq_non, DL.isn_i, DL.isn_n, DL.sub_int', DL.add_ip, DL.sub_ip, DL.mul_int', DL.lt_int, DL.gt_int, DL.ge_int, DL.le_int, DL.eq_int, DL.ne_int, DL.eq_tx, DL.ne_tx, DL.isn_int, DL.isn_non, DL.isb, DL.neg_int, DL.int_int, DL.atI_nat, DL.atI_zero, DL.atI_one, DL.atI_two, DL.atI_three, DL.atI_succ, DL.atI_last, DL.cut_to, DL.cut_from, DL.cut_both, DL.cut_butlast, DL.sum_nl, DL.sum_nt, DL.mul_tx1, DL.mul_tup, List.getElem?_cons_zero, List.getElem?_cons_succ, List.set_cons_zero, List.set_cons_succ, List.length_cons, List.length_nil, List.map_nil, List.length_map, List.cons.injEq, and_true, eq_self, decide_true, decide_false, Bool.not_true, Bool.not_false, Option.map_some, Int.reduceLT, Int.reduceLE, Int.reduceAdd, Int.reduceSub, Int.reduceMul, Int.reduceNeg, Int.reduceEq, Nat.reduceAdd, Nat.reduceSub, e1, e2])
  rw [List.filter_eq_nil_iff.mpr (by simp)] at c2
  have e3 : eqD (.lst []) (.lst []) = some (.bl true) := eq_nil' shp_nil
  have e4 : lenD [tn l] = some (ni l.length) := by simp [len_tup]
  unfold b__law_alike
  simp (disch := first | omega | (simp; done) | (simp; omega)) only [↓DL.we_e, DL.weB_ok, ↓DL.ts_e, DL.tsB_ok, ↓DL.tsE_e, DL.tsE_ok, DL.prB_ok, ↓DL.tr_e, DL.trB_ok, ↓DL.trE_e, DL.trE_ok, ↓DL.bn_e, DL.bnB_ok, ↓DL.bnE_e, DL.bnE_ok, DL.bnE2_ok, ↓DL.ap_e, DL.apB_ok, ↓DL.itN_e, ↓DL.apE_e, DL.apE_ok, ↓DL.itX_e, DL.apX_ok, ↓DL.un1_e, ↓DL.aNil_e, ↓DL.aCons_e, DL.acB_ok, ↓DL.aConsE_e, DL.acE_ok, DL.acE2_ok, ↓DL.kc_e, ↓DL.notB_e, DL.ntB_ok, ↓DL.notV_e, DL.ntV_ok, ↓DL.notE_e, DL.ntE_ok, ↓DL.andB_e, DL.anB_t, DL.anB_f, ↓DL.orB_e, DL.orB_t, DL.orB_f, ↓DL.andV_e, DL.anV_t, DL.anV_f, ↓DL.orV_e, DL.roV_t, DL.roV_f, ↓DL.ifV_e, DL.ivB_t, DL.ivB_f, ↓DL.ifVE_e, DL.ivE_t, DL.ivE_f, ↓DL.andE_e, DL.anE_t, DL.anE_f, ↓DL.orE_e, DL.roE_t, DL.roE_f, ↓DL.chn_e, DL.chB_ok, DL.chB2_t, DL.chB2_f, ↓DL.oNone_e, ↓DL.oSome_e, DL.osB_ok, ↓DL.sl3_e, DL.s3B_ok, ↓DL.mthV_e, DL.mvB_tx, ↓DL.mthL_e, DL.mlB_ok, ↓DL.mkT_e, DL.mtB_ok, ↓DL.mkL_e, DL.mlB'_ok, ↓DL.mkTE_e, DL.mtE_ok, ↓DL.gSet_e, ↓DL.gTup_e, ↓DL.gsCons_e, DL.gcB_ok, ↓DL.gsNil_e, ↓DL.seq_st, DL.sq_nx, DL.sq_rt, DL.sq_bk, DL.sq_ct, ↓DL.if_st, DL.ifB_y, DL.ifB_n, ↓DL.set_st, DL.stB_ok, ↓DL.ret_st, DL.rtB_ok, ↓DL.seto_st, DL.soB_ok, ↓DL.for_st', DL.frB_ok, DL.forD_nil, ↓DL.expr_st, DL.exB_ok, ↓DL.skip_st, ↓DL.retN_st, ↓DL.brk_st, ↓DL.call_st, DL.clB_ok, ↓DL.callE_st, DL.clE_ok, DL.R_at_ok, ↓DL.callIO_st, DL.ciB_ok, DL.ciC_ok, DL.ciD_ok, ↓DL.par_st, DL.psB_ok, ↓DL.asg_st, DL.asB1_ok, DL.asB2_ok, ↓DL.aug_st, DL.agB_ok, DL.agC_ok, ↓DL.app_st, DL.apS_ok, ↓DL.itm_st, DL.imB_ok, DL.imC_ok, ↓DL.rvs_st, DL.rvB_ok, ↓DL.retO_st, DL.roB_own, DL.roB_sh, ↓DL.frz_st, ↓DL.frzS_st, DL.fzB_own, DL.fzB_sh, DL.fzB_un, ↓DL.itR1_st, DL.r1B_ok, DL.rg1_ok, DL.rg2_ok, DL.tn_add1, DL.tn_succ, DL.tn_nat, DL.tn_pred, DL.tn_sub, DL.len0, DL.len1, DL.len2, DL.len3, DL.len4, DL.gSh_eq, DL.gAny_eq, DL.gS_sh, DL.gA_sh, DL.gA_own, DL.gA_io, DL.ownL_eq, DL.oL_own, DL.oL_io, DL.put_own, DL.put_io, DL.ofO_some, DL.tru_bl, DL.tru_int, DL.tru_lst, DL.len_tx, DL.len_lst, DL.len_tup, DL.ix_tx, DL.ix_lst, DL.ix_tup, DL.sl_tx, DL.sl_lst, DL.sl_tup, DL.plus_tx, DL.plus_int, DL.plus_lst, DL.plus_tup, DL.cat_lst, DL.rep_lst1, DL.zD_tx, DL.zD_lst, DL.zD_tup, DL.rev_tx, DL.en_tx, DL.tup_lst, DL.lst_tup, DL.isi_tx, DL.isi_int, DL.isi_intb, DL.isi_tt, DL.isi_lt, DL.isi_int_tl, DL.isi_non_tl, DL.isi_tup_tl, DL.isi_tup_l, DL.isi_int_s, DL.isi_non_s, DL.eq_bl, DL.ne_bl, DL.eq_non, DL.isn_i, DL.isn_n, DL.sub_int', DL.add_ip, DL.sub_ip, DL.mul_int', DL.lt_int, DL.gt_int, DL.ge_int, DL.le_int, DL.eq_int, DL.ne_int, DL.eq_tx, DL.ne_tx, DL.isn_int, DL.isn_non, DL.isb, DL.neg_int, DL.int_int, DL.atI_nat, DL.atI_zero, DL.atI_one, DL.atI_two, DL.atI_three, DL.atI_succ, DL.atI_last, DL.cut_to, DL.cut_from, DL.cut_both, DL.cut_butlast, DL.sum_nl, DL.sum_nt, DL.mul_tx1, DL.mul_tup, List.getElem?_cons_zero, List.getElem?_cons_succ, List.set_cons_zero, List.set_cons_succ, List.length_cons, List.length_nil, List.map_nil, List.length_map, List.cons.injEq, and_true, eq_self, decide_true, decide_false, Bool.not_true, Bool.not_false, Option.map_some, Int.reduceLT, Int.reduceLE, Int.reduceAdd, Int.reduceSub, Int.reduceMul, Int.reduceNeg, Int.reduceEq, Nat.reduceAdd, Nat.reduceSub, isi_tup_tl, isi_tup_l, ne_bl, c2, e3, e4]
end LW

namespace LW
open PySem DL PT
theorem pickS_ok {row : List D} {f : List Nat} (h : RowOk row) (hf : f ≠ []) (hl : f.length ≤ 200) : ∃ (c : Nat) (row' : List D), F__law_pick row [tx f] = .ok (tx [c], row') ∧ RowOk row' ∧ c ∈ f := by
  have h0 : 0 < f.length := List.length_pos_iff.mpr hf
  obtain ⟨v, row', e, hr, hv⟩ := taken_ok h h0 (by omega)
  refine ⟨f[v], row', ?_, hr, List.getElem_mem hv⟩
  refine fnIO_rt (r1 := [.sh (tx f)]) rfl (show b__law_pick [.io (.lst row), .sh (tx f)] = _ from ?_)
  have ex : f[v]? = some f[v] := List.getElem?_eq_getElem hv
  unfold b__law_pick
  simp (disch := first | omega | (simp; done) | (simp; omega)) only [↓DL.we_e, DL.weB_ok, ↓DL.ts_e, DL.tsB_ok, ↓DL.tsE_e, DL.tsE_ok, DL.prB_ok, ↓DL.tr_e, DL.trB_ok, ↓DL.trE_e, DL.trE_ok, ↓DL.bn_e, DL.bnB_ok, ↓DL.bnE_e, DL.bnE_ok, DL.bnE2_ok, ↓DL.ap_e, DL.apB_ok, ↓DL.itN_e, ↓DL.apE_e, DL.apE_ok, ↓DL.itX_e, DL.apX_ok, ↓DL.un1_e, ↓DL.aNil_e, ↓DL.aCons_e, DL.acB_ok, ↓DL.aConsE_e, DL.acE_ok, DL.acE2_ok, ↓DL.kc_e, ↓DL.notB_e, DL.ntB_ok, ↓DL.notV_e, DL.ntV_ok, ↓DL.notE_e, DL.ntE_ok, ↓DL.andB_e, DL.anB_t, DL.anB_f, ↓DL.orB_e, DL.orB_t, DL.orB_f, ↓DL.andV_e, DL.anV_t, DL.anV_f, ↓DL.orV_e, DL.roV_t, DL.roV_f, ↓DL.ifV_e, DL.ivB_t, DL.ivB_f, ↓DL.ifVE_e, DL.ivE_t, DL.ivE_f, ↓DL.andE_e, DL.anE_t, DL.anE_f, ↓DL.orE_e, DL.roE_t, DL.roE_f, ↓DL.chn_e, DL.chB_ok, DL.chB2_t, DL.chB2_f, ↓DL.oNone_e, ↓DL.oSome_e, DL.osB_ok, ↓DL.sl3_e, DL.s3B_ok, ↓DL.mthV_e, DL.mvB_tx, ↓DL.mthL_e, DL.mlB_ok, ↓DL.mkT_e, DL.mtB_ok, ↓DL.mkL_e, DL.mlB'_ok, ↓DL.mkTE_e, DL.mtE_ok, ↓DL.gSet_e, ↓DL.gTup_e, ↓DL.gsCons_e, DL.gcB_ok, ↓DL.gsNil_e, ↓DL.seq_st, DL.sq_nx, DL.sq_rt, DL.sq_bk, DL.sq_ct, ↓DL.if_st, DL.ifB_y, DL.ifB_n, ↓DL.set_st, DL.stB_ok, ↓DL.ret_st, DL.rtB_ok, ↓DL.seto_st, DL.soB_ok, ↓DL.for_st', DL.frB_ok, DL.forD_nil, ↓DL.expr_st, DL.exB_ok, ↓DL.skip_st, ↓DL.retN_st, ↓DL.brk_st, ↓DL.call_st, DL.clB_ok, ↓DL.callE_st, DL.clE_ok, DL.R_at_ok, ↓DL.callIO_st, DL.ciB_ok, DL.ciC_ok, DL.ciD_ok, ↓DL.par_st, DL.psB_ok, ↓DL.asg_st, DL.asB1_ok, DL.asB2_ok, ↓DL.aug_st, DL.agB_ok, DL.agC_ok, ↓DL.app_st, DL.apS_ok, ↓DL.itm_st, DL.imB_ok, DL.imC_ok, ↓DL.rvs_st, DL.rvB_ok, ↓DL.retO_st, DL.roB_own, DL.roB_sh, ↓DL.frz_st, ↓DL.frzS_st, DL.fzB_own, DL.fzB_sh, DL.fzB_un, ↓DL.itR1_st, DL.r1B_ok, DL.rg1_ok, DL.rg2_ok, DL.tn_add1, DL.tn_succ, DL.tn_nat, DL.tn_pred, DL.tn_sub, DL.len0, DL.len1, DL.len2, DL.len3, DL.len4, DL.gSh_eq, DL.gAny_eq, DL.gS_sh, DL.gA_sh, DL.gA_own, DL.gA_io, DL.ownL_eq, DL.oL_own, DL.oL_io, DL.put_own, DL.put_io, DL.ofO_some, DL.tru_bl, DL.tru_int, DL.tru_lst, DL.len_tx, DL.len_lst, DL.len_tup, DL.ix_tx, DL.ix_lst, DL.ix_tup, DL.sl_tx, DL.sl_lst, DL.sl_tup, DL.plus_tx, DL.plus_int, DL.plus_lst, DL.plus_tup, DL.cat_lst, DL.rep_lst1, DL.zD_tx, DL.zD_lst, DL.zD_tup, DL.rev_tx, DL.en_tx, DL.tup_lst, DL.lst_tup, DL.isi_tx, DL.isi_int, DL.isi_intb, DL.isi_tt, DL.isi_lt, DL.isi_int_tl, DL.isi_non_tl, DL.isi_tup_tl, DL.isi_tup_l, DL.isi_int_s, DL.isi_non_s, DL.eq_bl, DL.ne_bl, DL.eq_non, DL.isn_i, DL.isn_n, DL.sub_int', DL.add_ip, DL.sub_ip, DL.mul_int', DL.lt_int, DL.gt_int, DL.ge_int, DL.le_int, DL.eq_int, DL.ne_int, DL.eq_tx, DL.ne_tx, DL.isn_int, DL.isn_non, DL.isb, DL.neg_int, DL.int_int, DL.atI_nat, DL.atI_zero, DL.atI_one, DL.atI_two, DL.atI_three, DL.atI_succ, DL.atI_last, DL.cut_to, DL.cut_from, DL.cut_both, DL.cut_butlast, DL.sum_nl, DL.sum_nt, DL.mul_tx1, DL.mul_tup, List.getElem?_cons_zero, List.getElem?_cons_succ, List.set_cons_zero, List.set_cons_succ, List.length_cons, List.length_nil, List.map_nil, List.length_map, List.cons.injEq, and_true, eq_self, decide_true, decide_false, Bool.not_true, Bool.not_false, Option.map_some, Int.reduceLT, Int.reduceLE, Int.reduceAdd, Int.reduceSub, Int.reduceMul, Int.reduceNeg, Int.reduceEq, Nat.reduceAdd, Nat.reduceSub, e, ex]
theorem goal_ok {row : List D} {f : List Nat} (h : RowOk row) (hF : Film f) : ∃ (g : List Nat) (row' : List D), F__law_goal row [tx f] = .ok (tx g, row') ∧ RowOk row' ∧ g ≠ [] ∧ g.length ≤ f.length ∧ ∀ c ∈ g, c ∈ f := by
  have h0 : 0 < f.length := List.length_pos_iff.mpr hF.1
  have hl := hF.2.1
  obtain ⟨v1, row1, e1, hr1, hv1⟩ := taken_ok (m := 3) h (by decide) (by decide)
  have e1' : F__law_taken row [.int 3] = .ok (.int (v1 : Int), row1) := e1
  by_cases hv : v1 = 0
  · subst hv
    have e1'' : F__law_taken row [.int 3] = .ok (.int 0, row1) := e1
    obtain ⟨n, row2, e2, hr2, hn⟩ := taken_ok hr1 h0 (by omega)
    obtain ⟨r', e3, g, row3, x, er, hr3, hgl, hg⟩ := for_inv (g := gSet 3) (b := setS 2 (binE plusD (withEnv (gSh 2)) (callIO 0 1 F__law_pick (withEnv (aCons (gSh 1) aNil)))))
      (items := rngL 0 (1 + n)) (r := [.io (.lst row2), .sh (tx f), .sh (tx []), .un]) (fun i r => ∃ g row' x, r = [.io (.lst row'), .sh (tx f), .sh (tx g), x] ∧ RowOk row' ∧ g.length = i ∧ ∀ c ∈ g, c ∈ f)
      ⟨[], row2, .un, rfl, hr2, rfl, fun c hc => nomatch hc⟩ (fun i x r e hI => by
        obtain ⟨g, row4, y, er, hr4, hgl, hg⟩ := hI
        obtain ⟨hi, ex⟩ := rng_get 0 (1 + n) i x e
        subst er
        obtain ⟨c, row5, e5, hr5, hc⟩ := pickS_ok hr4 hF.1 hl
        refine ⟨_, [.io (.lst row5), .sh (tx f), .sh (tx (g ++ [c])), .sh x], rfl, ?_, g ++ [c], row5, .sh x, rfl, hr5, by rw [List.length_append, List.length_singleton, hgl], fun d hd => ?_⟩
        · have hg2 : g.length ≤ 1000 := by omega
          simp (disch := first | omega | (simp; done) | (simp; omega)) only [↓DL.we_e, DL.weB_ok, ↓DL.ts_e, DL.tsB_ok, ↓DL.tsE_e, DL.tsE_ok, DL.prB_ok, ↓DL.tr_e, DL.trB_ok, ↓DL.trE_e, DL.trE_ok, ↓DL.bn_e, DL.bnB_ok, ↓DL.bnE_e, DL.bnE_ok, DL.bnE2_ok, ↓DL.ap_e, DL.apB_ok, ↓DL.itN_e, ↓DL.apE_e, DL.apE_ok, ↓DL.itX_e, DL.apX_ok, ↓DL.un1_e, ↓DL.aNil_e, ↓DL.aCons_e, DL.acB_ok, ↓DL.aConsE_e, DL.acE_ok, DL.acE2_ok, ↓DL.kc_e, ↓DL.notB_e, DL.ntB_ok, ↓DL.notV_e, DL.ntV_ok, ↓DL.notE_e, DL.ntE_ok, ↓DL.andB_e, DL.anB_t, DL.anB_f, ↓DL.orB_e, DL.orB_t, DL.orB_f, ↓DL.andV_e, DL.anV_t, DL.anV_f, ↓DL.orV_e, DL.roV_t, DL.roV_f, ↓DL.ifV_e, DL.ivB_t, DL.ivB_f, ↓DL.ifVE_e, DL.ivE_t, DL.ivE_f, ↓DL.andE_e, DL.anE_t, DL.anE_f, ↓DL.orE_e, DL.roE_t, DL.roE_f, ↓DL.chn_e, DL.chB_ok, DL.chB2_t, DL.chB2_f, ↓DL.oNone_e, ↓DL.oSome_e, DL.osB_ok, ↓DL.sl3_e, DL.s3B_ok, ↓DL.mthV_e, DL.mvB_tx, ↓DL.mthL_e, DL.mlB_ok, ↓DL.mkT_e, DL.mtB_ok, ↓DL.mkL_e, DL.mlB'_ok, ↓DL.mkTE_e, DL.mtE_ok, ↓DL.gSet_e, ↓DL.gTup_e, ↓DL.gsCons_e, DL.gcB_ok, ↓DL.gsNil_e, ↓DL.seq_st, DL.sq_nx, DL.sq_rt, DL.sq_bk, DL.sq_ct, ↓DL.if_st, DL.ifB_y, DL.ifB_n, ↓DL.set_st, DL.stB_ok, ↓DL.ret_st, DL.rtB_ok, ↓DL.seto_st, DL.soB_ok, ↓DL.for_st', DL.frB_ok, DL.forD_nil, ↓DL.expr_st, DL.exB_ok, ↓DL.skip_st, ↓DL.retN_st, ↓DL.brk_st, ↓DL.call_st, DL.clB_ok, ↓DL.callE_st, DL.clE_ok, DL.R_at_ok, ↓DL.callIO_st, DL.ciB_ok, DL.ciC_ok, DL.ciD_ok, ↓DL.par_st, DL.psB_ok, ↓DL.asg_st, DL.asB1_ok, DL.asB2_ok, ↓DL.aug_st, DL.agB_ok, DL.agC_ok, ↓DL.app_st, DL.apS_ok, ↓DL.itm_st, DL.imB_ok, DL.imC_ok, ↓DL.rvs_st, DL.rvB_ok, ↓DL.retO_st, DL.roB_own, DL.roB_sh, ↓DL.frz_st, ↓DL.frzS_st, DL.fzB_own, DL.fzB_sh, DL.fzB_un, ↓DL.itR1_st, DL.r1B_ok, DL.rg1_ok, DL.rg2_ok, DL.tn_add1, DL.tn_succ, DL.tn_nat, DL.tn_pred, DL.tn_sub, DL.len0, DL.len1, DL.len2, DL.len3, DL.len4, DL.gSh_eq, DL.gAny_eq, DL.gS_sh, DL.gA_sh, DL.gA_own, DL.gA_io, DL.ownL_eq, DL.oL_own, DL.oL_io, DL.put_own, DL.put_io, DL.ofO_some, DL.tru_bl, DL.tru_int, DL.tru_lst, DL.len_tx, DL.len_lst, DL.len_tup, DL.ix_tx, DL.ix_lst, DL.ix_tup, DL.sl_tx, DL.sl_lst, DL.sl_tup, DL.plus_tx, DL.plus_int, DL.plus_lst, DL.plus_tup, DL.cat_lst, DL.rep_lst1, DL.zD_tx, DL.zD_lst, DL.zD_tup, DL.rev_tx, DL.en_tx, DL.tup_lst, DL.lst_tup, DL.isi_tx, DL.isi_int, DL.isi_intb, DL.isi_tt, DL.isi_lt, DL.isi_int_tl, DL.isi_non_tl, DL.isi_tup_tl, DL.isi_tup_l, DL.isi_int_s, DL.isi_non_s, DL.eq_bl, DL.ne_bl, DL.eq_non, DL.isn_i, DL.isn_n, DL.sub_int', DL.add_ip, DL.sub_ip, DL.mul_int', DL.lt_int, DL.gt_int, DL.ge_int, DL.le_int, DL.eq_int, DL.ne_int, DL.eq_tx, DL.ne_tx, DL.isn_int, DL.isn_non, DL.isb, DL.neg_int, DL.int_int, DL.atI_nat, DL.atI_zero, DL.atI_one, DL.atI_two, DL.atI_three, DL.atI_succ, DL.atI_last, DL.cut_to, DL.cut_from, DL.cut_both, DL.cut_butlast, DL.sum_nl, DL.sum_nt, DL.mul_tx1, DL.mul_tup, List.getElem?_cons_zero, List.getElem?_cons_succ, List.set_cons_zero, List.set_cons_succ, List.length_cons, List.length_nil, List.map_nil, List.length_map, List.cons.injEq, and_true, eq_self, decide_true, decide_false, Bool.not_true, Bool.not_false, Option.map_some, Int.reduceLT, Int.reduceLE, Int.reduceAdd, Int.reduceSub, Int.reduceMul, Int.reduceNeg, Int.reduceEq, Nat.reduceAdd, Nat.reduceSub, e5]
        · rcases List.mem_append.mp hd with z | z
          · exact hg d z
          · rw [List.mem_singleton.mp z]
            exact hc)
    rw [rngL_length] at hgl
    subst er
    refine ⟨g, row3, ?_, hr3, ?_, by omega, hg⟩
    · refine fnIO_rt (r1 := [.sh (tx f), .sh (tx g), x]) rfl (show b__law_goal [.io (.lst row), .sh (tx f), .un, .un] = _ from ?_)
      have t0 : D.str "" = tx [] := rfl
      unfold b__law_goal
      simp (disch := first | omega | (simp; done) | (simp; omega)) only [↓DL.we_e, DL.weB_ok, ↓DL.ts_e, DL.tsB_ok, ↓DL.tsE_e, DL.tsE_ok, DL.prB_ok, ↓DL.tr_e, DL.trB_ok, ↓DL.trE_e, DL.trE_ok, ↓DL.bn_e, DL.bnB_ok, ↓DL.bnE_e, DL.bnE_ok, DL.bnE2_ok, ↓DL.ap_e, DL.apB_ok, ↓DL.itN_e, ↓DL.apE_e, DL.apE_ok, ↓DL.itX_e, DL.apX_ok, ↓DL.un1_e, ↓DL.aNil_e, ↓DL.aCons_e, DL.acB_ok, ↓DL.aConsE_e, DL.acE_ok, DL.acE2_ok, ↓DL.kc_e, ↓DL.notB_e, DL.ntB_ok, ↓DL.notV_e, DL.ntV_ok, ↓DL.notE_e, DL.ntE_ok, ↓DL.andB_e, DL.anB_t, DL.anB_f, ↓DL.orB_e, DL.orB_t, DL.orB_f, ↓DL.andV_e, DL.anV_t, DL.anV_f, ↓DL.orV_e, DL.roV_t, DL.roV_f, ↓DL.ifV_e, DL.ivB_t, DL.ivB_f, ↓DL.ifVE_e, DL.ivE_t, DL.ivE_f, ↓DL.andE_e, DL.anE_t, DL.anE_f, ↓DL.orE_e, DL.roE_t, DL.roE_f, ↓DL.chn_e, DL.chB_ok, DL.chB2_t, DL.chB2_f, ↓DL.oNone_e, ↓DL.oSome_e, DL.osB_ok, ↓DL.sl3_e, DL.s3B_ok, ↓DL.mthV_e, DL.mvB_tx, ↓DL.mthL_e, DL.mlB_ok, ↓DL.mkT_e, DL.mtB_ok, ↓DL.mkL_e, DL.mlB'_ok, ↓DL.mkTE_e, DL.mtE_ok, ↓DL.gSet_e, ↓DL.gTup_e, ↓DL.gsCons_e, DL.gcB_ok, ↓DL.gsNil_e, ↓DL.seq_st, DL.sq_nx, DL.sq_rt, DL.sq_bk, DL.sq_ct, ↓DL.if_st, DL.ifB_y, DL.ifB_n, ↓DL.set_st, DL.stB_ok, ↓DL.ret_st, DL.rtB_ok, ↓DL.seto_st, DL.soB_ok, ↓DL.for_st', DL.frB_ok, DL.forD_nil, ↓DL.expr_st, DL.exB_ok, ↓DL.skip_st, ↓DL.retN_st, ↓DL.brk_st, ↓DL.call_st, DL.clB_ok, ↓DL.callE_st, DL.clE_ok, DL.R_at_ok, ↓DL.callIO_st, DL.ciB_ok, DL.ciC_ok, DL.ciD_ok, ↓DL.par_st, DL.psB_ok, ↓DL.asg_st, DL.asB1_ok, DL.asB2_ok, ↓DL.aug_st, DL.agB_ok, DL.agC_ok, ↓DL.app_st, DL.apS_ok, ↓DL.itm_st, DL.imB_ok, DL.imC_ok, ↓DL.rvs_st, DL.rvB_ok, ↓DL.retO_st, DL.roB_own, DL.roB_sh, ↓DL.frz_st, ↓DL.frzS_st, DL.fzB_own, DL.fzB_sh, DL.fzB_un, ↓DL.itR1_st, DL.r1B_ok, DL.rg1_ok, DL.rg2_ok, DL.tn_add1, DL.tn_succ, DL.tn_nat, DL.tn_pred, DL.tn_sub, DL.len0, DL.len1, DL.len2, DL.len3, DL.len4, DL.gSh_eq, DL.gAny_eq, DL.gS_sh, DL.gA_sh, DL.gA_own, DL.gA_io, DL.ownL_eq, DL.oL_own, DL.oL_io, DL.put_own, DL.put_io, DL.ofO_some, DL.tru_bl, DL.tru_int, DL.tru_lst, DL.len_tx, DL.len_lst, DL.len_tup, DL.ix_tx, DL.ix_lst, DL.ix_tup, DL.sl_tx, DL.sl_lst, DL.sl_tup, DL.plus_tx, DL.plus_int, DL.plus_lst, DL.plus_tup, DL.cat_lst, DL.rep_lst1, DL.zD_tx, DL.zD_lst, DL.zD_tup, DL.rev_tx, DL.en_tx, DL.tup_lst, DL.lst_tup, DL.isi_tx, DL.isi_int, DL.isi_intb, DL.isi_tt, DL.isi_lt, DL.isi_int_tl, DL.isi_non_tl, DL.isi_tup_tl, DL.isi_tup_l, DL.isi_int_s, DL.isi_non_s, DL.eq_bl, DL.ne_bl, DL.eq_non, DL.isn_i, DL.isn_n, DL.sub_int', DL.add_ip, DL.sub_ip, DL.mul_int', DL.lt_int, DL.gt_int, DL.ge_int, DL.le_int, DL.eq_int, DL.ne_int, DL.eq_tx, DL.ne_tx, DL.isn_int, DL.isn_non, DL.isb, DL.neg_int, DL.int_int, DL.atI_nat, DL.atI_zero, DL.atI_one, DL.atI_two, DL.atI_three, DL.atI_succ, DL.atI_last, DL.cut_to, DL.cut_from, DL.cut_both, DL.cut_butlast, DL.sum_nl, DL.sum_nt, DL.mul_tx1, DL.mul_tup, List.getElem?_cons_zero, List.getElem?_cons_succ, List.set_cons_zero, List.set_cons_succ, List.length_cons, List.length_nil, List.map_nil, List.length_map, List.cons.injEq, and_true, eq_self, decide_true, decide_false, Bool.not_true, Bool.not_false, Option.map_some, Int.reduceLT, Int.reduceLE, Int.reduceAdd, Int.reduceSub, Int.reduceMul, Int.reduceNeg, Int.reduceEq, Nat.reduceAdd, Nat.reduceSub, e1'', e2, t0, e3]
    · intro z
      rw [z] at hgl
      simp at hgl
      omega
  · obtain ⟨v2, row2, e2, hr2, hv2⟩ := taken_ok (m := 4) hr1 (by decide) (by decide)
    have e2' : F__law_taken row1 [.int 4] = .ok (.int (v2 : Int), row2) := e2
    obtain ⟨ds, now, row3, e3, hr3, hn⟩ := drawn_ok (most := 1 + v2) hr2 hF (by omega)
    have e3' : F__law_drawn row2 [tx f, .int (1 + (v2 : Int))] = .ok (.tup [.tup ds, tx now], row3) := e3
    have hv' : (0 : Int) < (v1 : Int) := by omega
    refine ⟨now, row3, ?_, hr3, hn.1, hn.2.1, hn.2.2.1⟩
    refine fnIO_rt (r1 := [.sh (tx f), .un, .un]) rfl (show b__law_goal [.io (.lst row), .sh (tx f), .un, .un] = _ from ?_)
    unfold b__law_goal
    simp (disch := first | omega | (simp; done) | (simp; omega)) only [↓DL.we_e, DL.weB_ok, ↓DL.ts_e, DL.tsB_ok, ↓DL.tsE_e, DL.tsE_ok, DL.prB_ok, ↓DL.tr_e, DL.trB_ok, ↓DL.trE_e, DL.trE_ok, ↓DL.bn_e, DL.bnB_ok, ↓DL.bnE_e, DL.bnE_ok, DL.bnE2_ok, ↓DL.ap_e, DL.apB_ok, ↓DL.itN_e, ↓DL.apE_e, DL.apE_ok, ↓DL.itX_e, DL.apX_ok, ↓DL.un1_e, ↓DL.aNil_e, ↓DL.aCons_e, DL.acB_ok, ↓DL.aConsE_e, DL.acE_ok, DL.acE2_ok, ↓DL.kc_e, ↓DL.notB_e, DL.ntB_ok, ↓DL.notV_e, DL.ntV_ok, ↓DL.notE_e, DL.ntE_ok, ↓DL.andB_e, DL.anB_t, DL.anB_f, ↓DL.orB_e, DL.orB_t, DL.orB_f, ↓DL.andV_e, DL.anV_t, DL.anV_f, ↓DL.orV_e, DL.roV_t, DL.roV_f, ↓DL.ifV_e, DL.ivB_t, DL.ivB_f, ↓DL.ifVE_e, DL.ivE_t, DL.ivE_f, ↓DL.andE_e, DL.anE_t, DL.anE_f, ↓DL.orE_e, DL.roE_t, DL.roE_f, ↓DL.chn_e, DL.chB_ok, DL.chB2_t, DL.chB2_f, ↓DL.oNone_e, ↓DL.oSome_e, DL.osB_ok, ↓DL.sl3_e, DL.s3B_ok, ↓DL.mthV_e, DL.mvB_tx, ↓DL.mthL_e, DL.mlB_ok, ↓DL.mkT_e, DL.mtB_ok, ↓DL.mkL_e, DL.mlB'_ok, ↓DL.mkTE_e, DL.mtE_ok, ↓DL.gSet_e, ↓DL.gTup_e, ↓DL.gsCons_e, DL.gcB_ok, ↓DL.gsNil_e, ↓DL.seq_st, DL.sq_nx, DL.sq_rt, DL.sq_bk, DL.sq_ct, ↓DL.if_st, DL.ifB_y, DL.ifB_n, ↓DL.set_st, DL.stB_ok, ↓DL.ret_st, DL.rtB_ok, ↓DL.seto_st, DL.soB_ok, ↓DL.for_st', DL.frB_ok, DL.forD_nil, ↓DL.expr_st, DL.exB_ok, ↓DL.skip_st, ↓DL.retN_st, ↓DL.brk_st, ↓DL.call_st, DL.clB_ok, ↓DL.callE_st, DL.clE_ok, DL.R_at_ok, ↓DL.callIO_st, DL.ciB_ok, DL.ciC_ok, DL.ciD_ok, ↓DL.par_st, DL.psB_ok, ↓DL.asg_st, DL.asB1_ok, DL.asB2_ok, ↓DL.aug_st, DL.agB_ok, DL.agC_ok, ↓DL.app_st, DL.apS_ok, ↓DL.itm_st, DL.imB_ok, DL.imC_ok, ↓DL.rvs_st, DL.rvB_ok, ↓DL.retO_st, DL.roB_own, DL.roB_sh, ↓DL.frz_st, ↓DL.frzS_st, DL.fzB_own, DL.fzB_sh, DL.fzB_un, ↓DL.itR1_st, DL.r1B_ok, DL.rg1_ok, DL.rg2_ok, DL.tn_add1, DL.tn_succ, DL.tn_nat, DL.tn_pred, DL.tn_sub, DL.len0, DL.len1, DL.len2, DL.len3, DL.len4, DL.gSh_eq, DL.gAny_eq, DL.gS_sh, DL.gA_sh, DL.gA_own, DL.gA_io, DL.ownL_eq, DL.oL_own, DL.oL_io, DL.put_own, DL.put_io, DL.ofO_some, DL.tru_bl, DL.tru_int, DL.tru_lst, DL.len_tx, DL.len_lst, DL.len_tup, DL.ix_tx, DL.ix_lst, DL.ix_tup, DL.sl_tx, DL.sl_lst, DL.sl_tup, DL.plus_tx, DL.plus_int, DL.plus_lst, DL.plus_tup, DL.cat_lst, DL.rep_lst1, DL.zD_tx, DL.zD_lst, DL.zD_tup, DL.rev_tx, DL.en_tx, DL.tup_lst, DL.lst_tup, DL.isi_tx, DL.isi_int, DL.isi_intb, DL.isi_tt, DL.isi_lt, DL.isi_int_tl, DL.isi_non_tl, DL.isi_tup_tl, DL.isi_tup_l, DL.isi_int_s, DL.isi_non_s, DL.eq_bl, DL.ne_bl, DL.eq_non, DL.isn_i, DL.isn_n, DL.sub_int', DL.add_ip, DL.sub_ip, DL.mul_int', DL.lt_int, DL.gt_int, DL.ge_int, DL.le_int, DL.eq_int, DL.ne_int, DL.eq_tx, DL.ne_tx, DL.isn_int, DL.isn_non, DL.isb, DL.neg_int, DL.int_int, DL.atI_nat, DL.atI_zero, DL.atI_one, DL.atI_two, DL.atI_three, DL.atI_succ, DL.atI_last, DL.cut_to, DL.cut_from, DL.cut_both, DL.cut_butlast, DL.sum_nl, DL.sum_nt, DL.mul_tx1, DL.mul_tup, List.getElem?_cons_zero, List.getElem?_cons_succ, List.set_cons_zero, List.set_cons_succ, List.length_cons, List.length_nil, List.map_nil, List.length_map, List.cons.injEq, and_true, eq_self, decide_true, decide_false, Bool.not_true, Bool.not_false, Option.map_some, Int.reduceLT, Int.reduceLE, Int.reduceAdd, Int.reduceSub, Int.reduceMul, Int.reduceNeg, Int.reduceEq, Nat.reduceAdd, Nat.reduceSub, e1', e2', e3', hv']
end LW

namespace LW
open PySem DL PT
/-! ### the law's own list of all partings -/
abbrev pr (x : List Nat × Nat) : D := .tup [tn x.1, ni x.2]
def pot (F : List Nat) (fnd : List (List Nat × Nat)) : Nat := (fnd.map fun x => 2 ^ (F.length - x.2)).sum
theorem pot_len (F : List Nat) : ∀ fnd, fnd.length ≤ pot F fnd
  | [] => Nat.zero_le _
  | x :: t => by
    have := pot_len F t
    have h : 0 < 2 ^ (F.length - x.2) := Nat.two_pow_pos _
    unfold pot at this ⊢
    rw [List.length_cons, List.map_cons, List.sum_cons]
    omega
def one (F : List Nat) (c : Nat) (x : List Nat × Nat) : List (List Nat × Nat) := if F[x.2]? = some c then (pl F c x.2).map fun p => (x.1 ++ [p], p + 1) else []
theorem stp_one (F : List Nat) (fnd : List (List Nat × Nat)) (c : Nat) : stp F fnd c = fnd.flatMap (one F c) := rfl
theorem pot_one (F : List Nat) (c : Nat) (x : List Nat × Nat) : pot F (one F c x) ≤ 2 ^ (F.length - x.2) := by
  unfold one
  split
  · have h1 := pl_sum F c (fun f => 2 ^ f.length) _ x.2 rfl
    have h2 := acc_le c (fun f => 2 ^ f.length) (fun _ => Nat.le_refl _) (F.drop x.2)
    unfold pot
    rw [List.map_map]
    have e : ((pl F c x.2).map ((fun x => 2 ^ (F.length - x.2)) ∘ fun p => (x.1 ++ [p], p + 1))) = (pl F c x.2).map fun p => 2 ^ (F.drop (p + 1)).length := by
      apply List.map_congr_left
      intro p _
      show 2 ^ (F.length - (p + 1)) = _
      rw [List.length_drop]
    rw [e, h1]
    rw [List.length_drop] at h2
    exact Nat.le_trans h2 (Nat.sub_le _ _)
  · exact Nat.zero_le _
theorem pot_app (F : List Nat) (a b : List (List Nat × Nat)) : pot F (a ++ b) = pot F a + pot F b := by
  unfold pot
  rw [List.map_append, List.sum_append]
theorem pot_flat (F : List Nat) (c : Nat) : ∀ fnd : List (List Nat × Nat), pot F (fnd.flatMap (one F c)) ≤ pot F fnd
  | [] => Nat.le_refl _
  | x :: t => by
    have h1 := pot_flat F c t
    have h2 := pot_one F c x
    rw [List.flatMap_cons, pot_app]
    have e : pot F (x :: t) = 2 ^ (F.length - x.2) + pot F t := by
      unfold pot
      rw [List.map_cons, List.sum_cons]
    omega
theorem pot_fold (F : List Nat) : ∀ (g : List Nat) (fnd : List (List Nat × Nat)), pot F (g.foldl (stp F) fnd) ≤ pot F fnd
  | [], _ => Nat.le_refl _
  | c :: g, fnd => by
    rw [List.foldl_cons]
    exact Nat.le_trans (pot_fold F g _) (by rw [stp_one]; exact pot_flat F c fnd)
theorem ltL_lt : ∀ {a b : List Nat}, ltL a b → (a.map fun k : Nat => (k : Int)) < (b.map fun k : Nat => (k : Int))
  | [], _, h => by simp [ltL] at h
  | _ :: _, [], h => by simp [ltL] at h
  | x :: xs, y :: ys, h => by
    rw [List.map_cons, List.map_cons, List.cons_lt_cons_iff]
    rcases h with h | ⟨h1, h2⟩
    · exact .inl (by omega)
    · exact .inr ⟨by omega, ltL_lt h2⟩
theorem intsOf_ni : ∀ l : List Nat, intsOf (l.map ni) = some (l.map fun k : Nat => (k : Int))
  | [] => rfl
  | a :: t => by
    rw [List.map_cons]
    unfold intsOf
    rw [intsOf_ni t]
    rfl
theorem tupsOf_tn : ∀ L : List (List Nat), (∀ l ∈ L, l ≠ []) → tupsOf (L.map fun l => tn l) = some (L.map fun l => l.map fun k : Nat => (k : Int))
  | [], _ => rfl
  | a :: t, h => by
    rw [List.map_cons]
    unfold tupsOf
    rw [intsOf_ni, tupsOf_tn t fun l hl => h l (List.mem_cons_of_mem _ hl)]
    have h0 := h a (List.mem_cons_self ..)
    have h1 : ¬ (a.map fun k : Nat => (k : Int)) = [] := fun z => h0 (by simpa using z)
    show (if (a.map fun k : Nat => (k : Int)) = [] then none else _) = _
    rw [if_neg h1]
    rfl
theorem srt_tups {L : List (List Nat)} (h : ∀ l ∈ L, l ≠ []) (hp : L.Pairwise ltL) : srtD [.lst (L.map fun l => tn l)] = some (.lst (L.map fun l => tn l)) := by
  have e1 := tupsOf_tn L h
  have e2 : sortInts (L.map fun l => l.map fun k : Nat => (k : Int)) = L.map fun l => l.map fun k : Nat => (k : Int) := by
    refine (sortInts_uniq (List.Perm.refl _) ?_).symm
    rw [List.pairwise_map]
    exact hp.imp fun h => leI_iff.mpr (List.le_of_lt (ltL_lt h))
  have e3 : ((L.map fun l => l.map fun k : Nat => (k : Int)).map tupD) = L.map fun l => tn l := by
    rw [List.map_map]
    apply List.map_congr_left
    intro l _
    show D.tup ((l.map fun k : Nat => (k : Int)).map D.int) = _
    rw [List.map_map]
    rfl
  unfold srtD
  cases L with
  | nil =>
    show (some (D.lst ((sortStr []).map D.str))) = _
    simp [sortStr]
  | cons a t =>
    have e4 : srtStrD [.lst ((a :: t).map fun l => tn l)] = none := rfl
    rw [e4]
    show srtTupD _ = _
    unfold srtTupD
    simp only [e1, Option.map_some, e2, e3]
abbrev EP (f g found letter : D) (later told start place : Slot) : DL.Env := [.sh f, .sh g, .sh found, .sh letter, later, told, start, place]
theorem place_loop {F : List Nat} {c s : Nat} {t : List Nat} (hF : F.length ≤ 200) (ht : t.length ≤ 500) (g found : D) (base : List D) (hb : base.length ≤ 500000) (x7 : Slot) : ∃ y7, forD (gSet 7) (ifS (withEnv (tst (bin eqD (bin ixD (gAny 0) (gAny 7)) (gAny 3)))) (appS 4 (mkT (aCons (bin plusD (gAny 5) (mkT (aCons (gSh 7) aNil))) (aCons (bin plusD (gAny 7) (kc (.int 1))) aNil)))) skipS) ((List.range' s (F.length - s)).map ni)
    (EP (tx F) g found (tx [c]) (.own (.lst base)) (.sh (tn t)) (.sh (ni s)) x7) = .ok (.nx (EP (tx F) g found (tx [c]) (.own (.lst (base ++ ((pl F c s).map fun p => pr (t ++ [p], p + 1))))) (.sh (tn t)) (.sh (ni s)) y7)) := by
  obtain ⟨r', e, y7, er⟩ := for_inv (g := gSet 7) (b := ifS (withEnv (tst (bin eqD (bin ixD (gAny 0) (gAny 7)) (gAny 3)))) (appS 4 (mkT (aCons (bin plusD (gAny 5) (mkT (aCons (gSh 7) aNil))) (aCons (bin plusD (gAny 7) (kc (.int 1))) aNil)))) skipS)
    (items := (List.range' s (F.length - s)).map ni) (r := EP (tx F) g found (tx [c]) (.own (.lst base)) (.sh (tn t)) (.sh (ni s)) x7)
    (fun i r => ∃ y7, r = EP (tx F) g found (tx [c]) (.own (.lst (base ++ (((List.range' s i).filter fun p => decide (F[p]? = some c)).map fun p => pr (t ++ [p], p + 1))))) (.sh (tn t)) (.sh (ni s)) y7) ⟨x7, by simp⟩ (fun i x r e hI => by
      obtain ⟨y7, er⟩ := hI
      rw [List.getElem?_map] at e
      have hi : i < F.length - s := by
        cases q : (List.range' s (F.length - s))[i]? with
        | none => rw [q] at e; cases e
        | some z =>
          have := (List.getElem?_eq_some_iff.mp q).1
          rwa [List.length_range'] at this
      rw [List.getElem?_range' hi] at e
      simp only [Option.map_some, Option.some.injEq, Nat.one_mul] at e
      obtain ⟨p, hp⟩ : ∃ p, p = s + i := ⟨_, rfl⟩
      have ex : x = ni p := by rw [hp]; exact e.symm
      subst ex er
      have hpl : p < F.length := by omega
      have e1 : F[p]? = some F[p] := List.getElem?_eq_getElem hpl
      have hr : List.range' s (i + 1) = List.range' s i ++ [p] := by rw [List.range'_concat, Nat.one_mul, hp]
      have hbl : (base ++ (((List.range' s i).filter fun p => decide (F[p]? = some c)).map fun p => pr (t ++ [p], p + 1))).length < 1000000 := by
        rw [List.length_append, List.length_map]
        have := List.length_filter_le (fun p => decide (F[p]? = some c)) (List.range' s i)
        rw [List.length_range'] at this
        omega
      rw [hr, List.filter_append, List.map_append, ← List.append_assoc]
      generalize base ++ (((List.range' s i).filter fun p => decide (F[p]? = some c)).map fun p => pr (t ++ [p], p + 1)) = B at hbl ⊢
      generalize F[p] = c' at e1
      by_cases hc : c' = c
      · subst hc
        have e2 : [p].filter (fun p => decide (F[p]? = some c')) = [p] := by simp [e1]
        have e5 : D.tup (t.map ni ++ [ni p]) = tn (t ++ [p]) := by simp
        have e6 : D.int ((p : Int) + 1) = ni (p + 1) := rfl
        refine ⟨_, EP (tx F) g found (tx [c']) (.own (.lst (B ++ [pr (t ++ [p], p + 1)]))) (.sh (tn t)) (.sh (ni s)) (.sh (ni p)), rfl, ?_, .sh (ni p), by rw [e2]; rfl⟩
        show ifS _ _ _ (EP (tx F) g found (tx [c']) (.own (.lst B)) (.sh (tn t)) (.sh (ni s)) (.sh (ni p))) = _
        simp (disch := first | omega | (simp; done) | (simp; omega)) only [↓DL.we_e, DL.weB_ok, ↓DL.ts_e, DL.tsB_ok, ↓DL.tsE_e, DL.tsE_ok, DL.prB_ok, ↓DL.tr_e, DL.trB_ok, ↓DL.trE_e, DL.trE_ok, ↓DL.bn_e, DL.bnB_ok, ↓DL.bnE_e, DL.bnE_ok, DL.bnE2_ok, ↓DL.ap_e, DL.apB_ok, ↓DL.itN_e, ↓DL.apE_e, DL.apE_ok, ↓DL.itX_e, DL.apX_ok, ↓DL.un1_e, ↓DL.aNil_e, ↓DL.aCons_e, DL.acB_ok, ↓DL.aConsE_e, DL.acE_ok, DL.acE2_ok, ↓DL.kc_e, ↓DL.notB_e, DL.ntB_ok, ↓DL.notV_e, DL.ntV_ok, ↓DL.notE_e, DL.ntE_ok, ↓DL.andB_e, DL.anB_t, DL.anB_f, ↓DL.orB_e, DL.orB_t, DL.orB_f, ↓DL.andV_e, DL.anV_t, DL.anV_f, ↓DL.orV_e, DL.roV_t, DL.roV_f, ↓DL.ifV_e, DL.ivB_t, DL.ivB_f, ↓DL.ifVE_e, DL.ivE_t, DL.ivE_f, ↓DL.andE_e, DL.anE_t, DL.anE_f, ↓DL.orE_e, DL.roE_t, DL.roE_f, ↓DL.chn_e, DL.chB_ok, DL.chB2_t, DL.chB2_f, ↓DL.oNone_e, ↓DL.oSome_e, DL.osB_ok, ↓DL.sl3_e, DL.s3B_ok, ↓DL.mthV_e, DL.mvB_tx, ↓DL.mthL_e, DL.mlB_ok, ↓DL.mkT_e, DL.mtB_ok, ↓DL.mkL_e, DL.mlB'_ok, ↓DL.mkTE_e, DL.mtE_ok, ↓DL.gSet_e, ↓DL.gTup_e, ↓DL.gsCons_e, DL.gcB_ok, ↓DL.gsNil_e, ↓DL.seq_st, DL.sq_nx, DL.sq_rt, DL.sq_bk, DL.sq_ct, ↓DL.if_st, DL.ifB_y, DL.ifB_n, ↓DL.set_st, DL.stB_ok, ↓DL.ret_st, DL.rtB_ok, ↓DL.seto_st, DL.soB_ok, ↓DL.for_st', DL.frB_ok, DL.forD_nil, ↓DL.expr_st, DL.exB_ok, ↓DL.skip_st, ↓DL.retN_st, ↓DL.brk_st, ↓DL.call_st, DL.clB_ok, ↓DL.callE_st, DL.clE_ok, DL.R_at_ok, ↓DL.callIO_st, DL.ciB_ok, DL.ciC_ok, DL.ciD_ok, ↓DL.par_st, DL.psB_ok, ↓DL.asg_st, DL.asB1_ok, DL.asB2_ok, ↓DL.aug_st, DL.agB_ok, DL.agC_ok, ↓DL.app_st, DL.apS_ok, ↓DL.itm_st, DL.imB_ok, DL.imC_ok, ↓DL.rvs_st, DL.rvB_ok, ↓DL.retO_st, DL.roB_own, DL.roB_sh, ↓DL.frz_st, ↓DL.frzS_st, DL.fzB_own, DL.fzB_sh, DL.fzB_un, ↓DL.itR1_st, DL.r1B_ok, DL.rg1_ok, DL.rg2_ok, DL.tn_add1, DL.tn_succ, DL.tn_nat, DL.tn_pred, DL.tn_sub, DL.len0, DL.len1, DL.len2, DL.len3, DL.len4, DL.gSh_eq, DL.gAny_eq, DL.gS_sh, DL.gA_sh, DL.gA_own, DL.gA_io, DL.ownL_eq, DL.oL_own, DL.oL_io, DL.put_own, DL.put_io, DL.ofO_some, DL.tru_bl, DL.tru_int, DL.tru_lst, DL.len_tx, DL.len_lst, DL.len_tup, DL.ix_tx, DL.ix_lst, DL.ix_tup, DL.sl_tx, DL.sl_lst, DL.sl_tup, DL.plus_tx, DL.plus_int, DL.plus_lst, DL.plus_tup, DL.cat_lst, DL.rep_lst1, DL.zD_tx, DL.zD_lst, DL.zD_tup, DL.rev_tx, DL.en_tx, DL.tup_lst, DL.lst_tup, DL.isi_tx, DL.isi_int, DL.isi_intb, DL.isi_tt, DL.isi_lt, DL.isi_int_tl, DL.isi_non_tl, DL.isi_tup_tl, DL.isi_tup_l, DL.isi_int_s, DL.isi_non_s, DL.eq_bl, DL.ne_bl, DL.eq_non, DL.isn_i, DL.isn_n, DL.sub_int', DL.add_ip, DL.sub_ip, DL.mul_int', DL.lt_int, DL.gt_int, DL.ge_int, DL.le_int, DL.eq_int, DL.ne_int, DL.eq_tx, DL.ne_tx, DL.isn_int, DL.isn_non, DL.isb, DL.neg_int, DL.int_int, DL.atI_nat, DL.atI_zero, DL.atI_one, DL.atI_two, DL.atI_three, DL.atI_succ, DL.atI_last, DL.cut_to, DL.cut_from, DL.cut_both, DL.cut_butlast, DL.sum_nl, DL.sum_nt, DL.mul_tx1, DL.mul_tup, List.getElem?_cons_zero, List.getElem?_cons_succ, List.set_cons_zero, List.set_cons_succ, List.length_cons, List.length_nil, List.map_nil, List.length_map, List.cons.injEq, and_true, eq_self, decide_true, decide_false, Bool.not_true, Bool.not_false, Option.map_some, Int.reduceLT, Int.reduceLE, Int.reduceAdd, Int.reduceSub, Int.reduceMul, Int.reduceNeg, Int.reduceEq, Nat.reduceAdd, Nat.reduceSub, e1, e5, e6]
      · have e2 : [p].filter (fun p => decide (F[p]? = some c)) = [] := by simp [e1, hc]
        refine ⟨_, EP (tx F) g found (tx [c]) (.own (.lst B)) (.sh (tn t)) (.sh (ni s)) (.sh (ni p)), rfl, ?_, .sh (ni p), by rw [e2]; simp⟩
        show ifS _ _ _ (EP (tx F) g found (tx [c]) (.own (.lst B)) (.sh (tn t)) (.sh (ni s)) (.sh (ni p))) = _
        simp (disch := first | omega | (simp; done) | (simp; omega)) only [↓DL.we_e, DL.weB_ok, ↓DL.ts_e, DL.tsB_ok, ↓DL.tsE_e, DL.tsE_ok, DL.prB_ok, ↓DL.tr_e, DL.trB_ok, ↓DL.trE_e, DL.trE_ok, ↓DL.bn_e, DL.bnB_ok, ↓DL.bnE_e, DL.bnE_ok, DL.bnE2_ok, ↓DL.ap_e, DL.apB_ok, ↓DL.itN_e, ↓DL.apE_e, DL.apE_ok, ↓DL.itX_e, DL.apX_ok, ↓DL.un1_e, ↓DL.aNil_e, ↓DL.aCons_e, DL.acB_ok, ↓DL.aConsE_e, DL.acE_ok, DL.acE2_ok, ↓DL.kc_e, ↓DL.notB_e, DL.ntB_ok, ↓DL.notV_e, DL.ntV_ok, ↓DL.notE_e, DL.ntE_ok, ↓DL.andB_e, DL.anB_t, DL.anB_f, ↓DL.orB_e, DL.orB_t, DL.orB_f, ↓DL.andV_e, DL.anV_t, DL.anV_f, ↓DL.orV_e, DL.roV_t, DL.roV_f, ↓DL.ifV_e, DL.ivB_t, DL.ivB_f, ↓DL.ifVE_e, DL.ivE_t, DL.ivE_f, ↓DL.andE_e, DL.anE_t, DL.anE_f, ↓DL.orE_e, DL.roE_t, DL.roE_f, ↓DL.chn_e, DL.chB_ok, DL.chB2_t, DL.chB2_f, ↓DL.oNone_e, ↓DL.oSome_e, DL.osB_ok, ↓DL.sl3_e, DL.s3B_ok, ↓DL.mthV_e, DL.mvB_tx, ↓DL.mthL_e, DL.mlB_ok, ↓DL.mkT_e, DL.mtB_ok, ↓DL.mkL_e, DL.mlB'_ok, ↓DL.mkTE_e, DL.mtE_ok, ↓DL.gSet_e, ↓DL.gTup_e, ↓DL.gsCons_e, DL.gcB_ok, ↓DL.gsNil_e, ↓DL.seq_st, DL.sq_nx, DL.sq_rt, DL.sq_bk, DL.sq_ct, ↓DL.if_st, DL.ifB_y, DL.ifB_n, ↓DL.set_st, DL.stB_ok, ↓DL.ret_st, DL.rtB_ok, ↓DL.seto_st, DL.soB_ok, ↓DL.for_st', DL.frB_ok, DL.forD_nil, ↓DL.expr_st, DL.exB_ok, ↓DL.skip_st, ↓DL.retN_st, ↓DL.brk_st, ↓DL.call_st, DL.clB_ok, ↓DL.callE_st, DL.clE_ok, DL.R_at_ok, ↓DL.callIO_st, DL.ciB_ok, DL.ciC_ok, DL.ciD_ok, ↓DL.par_st, DL.psB_ok, ↓DL.asg_st, DL.asB1_ok, DL.asB2_ok, ↓DL.aug_st, DL.agB_ok, DL.agC_ok, ↓DL.app_st, DL.apS_ok, ↓DL.itm_st, DL.imB_ok, DL.imC_ok, ↓DL.rvs_st, DL.rvB_ok, ↓DL.retO_st, DL.roB_own, DL.roB_sh, ↓DL.frz_st, ↓DL.frzS_st, DL.fzB_own, DL.fzB_sh, DL.fzB_un, ↓DL.itR1_st, DL.r1B_ok, DL.rg1_ok, DL.rg2_ok, DL.tn_add1, DL.tn_succ, DL.tn_nat, DL.tn_pred, DL.tn_sub, DL.len0, DL.len1, DL.len2, DL.len3, DL.len4, DL.gSh_eq, DL.gAny_eq, DL.gS_sh, DL.gA_sh, DL.gA_own, DL.gA_io, DL.ownL_eq, DL.oL_own, DL.oL_io, DL.put_own, DL.put_io, DL.ofO_some, DL.tru_bl, DL.tru_int, DL.tru_lst, DL.len_tx, DL.len_lst, DL.len_tup, DL.ix_tx, DL.ix_lst, DL.ix_tup, DL.sl_tx, DL.sl_lst, DL.sl_tup, DL.plus_tx, DL.plus_int, DL.plus_lst, DL.plus_tup, DL.cat_lst, DL.rep_lst1, DL.zD_tx, DL.zD_lst, DL.zD_tup, DL.rev_tx, DL.en_tx, DL.tup_lst, DL.lst_tup, DL.isi_tx, DL.isi_int, DL.isi_intb, DL.isi_tt, DL.isi_lt, DL.isi_int_tl, DL.isi_non_tl, DL.isi_tup_tl, DL.isi_tup_l, DL.isi_int_s, DL.isi_non_s, DL.eq_bl, DL.ne_bl, DL.eq_non, DL.isn_i, DL.isn_n, DL.sub_int', DL.add_ip, DL.sub_ip, DL.mul_int', DL.lt_int, DL.gt_int, DL.ge_int, DL.le_int, DL.eq_int, DL.ne_int, DL.eq_tx, DL.ne_tx, DL.isn_int, DL.isn_non, DL.isb, DL.neg_int, DL.int_int, DL.atI_nat, DL.atI_zero, DL.atI_one, DL.atI_two, DL.atI_three, DL.atI_succ, DL.atI_last, DL.cut_to, DL.cut_from, DL.cut_both, DL.cut_butlast, DL.sum_nl, DL.sum_nt, DL.mul_tx1, DL.mul_tup, List.getElem?_cons_zero, List.getElem?_cons_succ, List.set_cons_zero, List.set_cons_succ, List.length_cons, List.length_nil, List.map_nil, List.length_map, List.cons.injEq, and_true, eq_self, decide_true, decide_false, Bool.not_true, Bool.not_false, Option.map_some, Int.reduceLT, Int.reduceLE, Int.reduceAdd, Int.reduceSub, Int.reduceMul, Int.reduceNeg, Int.reduceEq, Nat.reduceAdd, Nat.reduceSub, e1, hc])
  rw [List.length_map, List.length_range'] at er
  exact ⟨y7, by rw [e, er]; rfl⟩
theorem pot_take (F : List Nat) (fnd : List (List Nat × Nat)) (i : Nat) : pot F (fnd.take i) ≤ pot F fnd := by
  have := pot_app F (fnd.take i) (fnd.drop i)
  rw [List.take_append_drop] at this
  omega
abbrev placeB : DL.Env → DL.R Fl := ifS (withEnv (tst (bin eqD (bin ixD (gAny 0) (gAny 7)) (gAny 3)))) (appS 4 (mkT (aCons (bin plusD (gAny 5) (mkT (aCons (gSh 7) aNil))) (aCons (bin plusD (gAny 7) (kc (.int 1))) aNil)))) skipS
abbrev midB : DL.Env → DL.R Fl := ifS (withEnv (andB (tst (bin ltD (gAny 6) (appN lenD (aCons (gAny 0) aNil)))) (tst (bin eqD (bin ixD (gAny 0) (gAny 6)) (gAny 3))))) (forS (withEnv (itN rg2 (aCons (gAny 6) (aCons (appN lenD (aCons (gAny 0) aNil)) aNil)))) (gSet 7) placeB) skipS
abbrev NO (s : DL.Slot) : Prop := isOwn (some s) = false
theorem mid_loop {F : List Nat} {c : Nat} (hF : F.length ≤ 200) (g found : D) (fnd : List (List Nat × Nat)) (h1 : ∀ x ∈ fnd, x.1.length ≤ 500) (h2 : pot F fnd ≤ 100000) (x5 x6 x7 : Slot) (n5 : NO x5) (n6 : NO x6) : ∃ y5 y6 y7, NO y5 ∧ NO y6 ∧ forD (gTupD 2 (gsCons (gSet 5) (gsCons (gSet 6) gsNil))) midB (fnd.map pr)
    (EP (tx F) g found (tx [c]) (.own (.lst [])) x5 x6 x7) = .ok (.nx (EP (tx F) g found (tx [c]) (.own (.lst ((stp F fnd c).map pr))) y5 y6 y7)) := by
  obtain ⟨r', e, y5, y6, y7, m5, m6, er⟩ := for_inv (g := gTupD 2 (gsCons (gSet 5) (gsCons (gSet 6) gsNil))) (b := midB) (items := fnd.map pr) (r := EP (tx F) g found (tx [c]) (.own (.lst [])) x5 x6 x7)
    (fun i r => ∃ y5 y6 y7, NO y5 ∧ NO y6 ∧ r = EP (tx F) g found (tx [c]) (.own (.lst (((fnd.take i).flatMap (one F c)).map pr))) y5 y6 y7) ⟨x5, x6, x7, n5, n6, rfl⟩ (fun i x r e hI => by
      obtain ⟨y5, y6, y7, m5, m6, er⟩ := hI
      rw [List.getElem?_map] at e
      cases q : fnd[i]? with
      | none => rw [q] at e; cases e
      | some z =>
        rw [q] at e
        simp only [Option.map_some, Option.some.injEq] at e
        obtain ⟨t, s⟩ := z
        subst e er
        have ht := h1 _ (List.mem_of_getElem? q)
        have hb : (((fnd.take i).flatMap (one F c)).map pr).length ≤ 500000 := by
          rw [List.length_map]
          have a1 := pot_len F ((fnd.take i).flatMap (one F c))
          have a2 := pot_flat F c (fnd.take i)
          have a3 := pot_take F fnd i
          omega
        have hs : (fnd.take (i + 1)).flatMap (one F c) = (fnd.take i).flatMap (one F c) ++ one F c (t, s) := by
          rw [List.take_succ, q, List.flatMap_append]
          simp
        rw [hs, List.map_append]
        generalize ((fnd.take i).flatMap (one F c)).map pr = base at hb
        by_cases hc : F[s]? = some c
        · have e1 : one F c (t, s) = (pl F c s).map fun p => (t ++ [p], p + 1) := if_pos hc
          have hsl : s < F.length := (List.getElem?_eq_some_iff.mp hc).1
          obtain ⟨z7, e2⟩ := place_loop (c := c) (s := s) hF ht g found base hb y7
          rw [e1, List.map_map]
          have hsl' : (s : Int) < (F.length : Int) := by omega
          refine ⟨EP (tx F) g found (tx [c]) (.own (.lst base)) (.sh (tn t)) (.sh (ni s)) y7, EP (tx F) g found (tx [c]) (.own (.lst (base ++ ((pl F c s).map fun p => pr (t ++ [p], p + 1))))) (.sh (tn t)) (.sh (ni s)) z7, rfl, ?_, _, _, _, rfl, rfl, rfl⟩
          simp (disch := first | omega | (simp; done) | (simp; omega)) only [↓DL.we_e, DL.weB_ok, ↓DL.ts_e, DL.tsB_ok, ↓DL.tsE_e, DL.tsE_ok, DL.prB_ok, ↓DL.tr_e, DL.trB_ok, ↓DL.trE_e, DL.trE_ok, ↓DL.bn_e, DL.bnB_ok, ↓DL.bnE_e, DL.bnE_ok, DL.bnE2_ok, ↓DL.ap_e, DL.apB_ok, ↓DL.itN_e, ↓DL.apE_e, DL.apE_ok, ↓DL.itX_e, DL.apX_ok, ↓DL.un1_e, ↓DL.aNil_e, ↓DL.aCons_e, DL.acB_ok, ↓DL.aConsE_e, DL.acE_ok, DL.acE2_ok, ↓DL.kc_e, ↓DL.notB_e, DL.ntB_ok, ↓DL.notV_e, DL.ntV_ok, ↓DL.notE_e, DL.ntE_ok, ↓DL.andB_e, DL.anB_t, DL.anB_f, ↓DL.orB_e, DL.orB_t, DL.orB_f, ↓DL.andV_e, DL.anV_t, DL.anV_f, ↓DL.orV_e, DL.roV_t, DL.roV_f, ↓DL.ifV_e, DL.ivB_t, DL.ivB_f, ↓DL.ifVE_e, DL.ivE_t, DL.ivE_f, ↓DL.andE_e, DL.anE_t, DL.anE_f, ↓DL.orE_e, DL.roE_t, DL.roE_f, ↓DL.chn_e, DL.chB_ok, DL.chB2_t, DL.chB2_f, ↓DL.oNone_e, ↓DL.oSome_e, DL.osB_ok, ↓DL.sl3_e, DL.s3B_ok, ↓DL.mthV_e, DL.mvB_tx, ↓DL.mthL_e, DL.mlB_ok, ↓DL.mkT_e, DL.mtB_ok, ↓DL.mkL_e, DL.mlB'_ok, ↓DL.mkTE_e, DL.mtE_ok, ↓DL.gSet_e, ↓DL.gTup_e, ↓DL.gsCons_e, DL.gcB_ok, ↓DL.gsNil_e, ↓DL.seq_st, DL.sq_nx, DL.sq_rt, DL.sq_bk, DL.sq_ct, ↓DL.if_st, DL.ifB_y, DL.ifB_n, ↓DL.set_st, DL.stB_ok, ↓DL.ret_st, DL.rtB_ok, ↓DL.seto_st, DL.soB_ok, ↓DL.for_st', DL.frB_ok, DL.forD_nil, ↓DL.expr_st, DL.exB_ok, ↓DL.skip_st, ↓DL.retN_st, ↓DL.brk_st, ↓DL.call_st, DL.clB_ok, ↓DL.callE_st, DL.clE_ok, DL.R_at_ok, ↓DL.callIO_st, DL.ciB_ok, DL.ciC_ok, DL.ciD_ok, ↓DL.par_st, DL.psB_ok, ↓DL.asg_st, DL.asB1_ok, DL.asB2_ok, ↓DL.aug_st, DL.agB_ok, DL.agC_ok, ↓DL.app_st, DL.apS_ok, ↓DL.itm_st, DL.imB_ok, DL.imC_ok, ↓DL.rvs_st, DL.rvB_ok, ↓DL.retO_st, DL.roB_own, DL.roB_sh, ↓DL.frz_st, ↓DL.frzS_st, DL.fzB_own, DL.fzB_sh, DL.fzB_un, ↓DL.itR1_st, DL.r1B_ok, DL.rg1_ok, DL.rg2_ok, DL.tn_add1, DL.tn_succ, DL.tn_nat, DL.tn_pred, DL.tn_sub, DL.len0, DL.len1, DL.len2, DL.len3, DL.len4, DL.gSh_eq, DL.gAny_eq, DL.gS_sh, DL.gA_sh, DL.gA_own, DL.gA_io, DL.ownL_eq, DL.oL_own, DL.oL_io, DL.put_own, DL.put_io, DL.ofO_some, DL.tru_bl, DL.tru_int, DL.tru_lst, DL.len_tx, DL.len_lst, DL.len_tup, DL.ix_tx, DL.ix_lst, DL.ix_tup, DL.sl_tx, DL.sl_lst, DL.sl_tup, DL.plus_tx, DL.plus_int, DL.plus_lst, DL.plus_tup, DL.cat_lst, DL.rep_lst1, DL.zD_tx, DL.zD_lst, DL.zD_tup, DL.rev_tx, DL.en_tx, DL.tup_lst, DL.lst_tup, DL.isi_tx, DL.isi_int, DL.isi_intb, DL.isi_tt, DL.isi_lt, DL.isi_int_tl, DL.isi_non_tl, DL.isi_tup_tl, DL.isi_tup_l, DL.isi_int_s, DL.isi_non_s, DL.eq_bl, DL.ne_bl, DL.eq_non, DL.isn_i, DL.isn_n, DL.sub_int', DL.add_ip, DL.sub_ip, DL.mul_int', DL.lt_int, DL.gt_int, DL.ge_int, DL.le_int, DL.eq_int, DL.ne_int, DL.eq_tx, DL.ne_tx, DL.isn_int, DL.isn_non, DL.isb, DL.neg_int, DL.int_int, DL.atI_nat, DL.atI_zero, DL.atI_one, DL.atI_two, DL.atI_three, DL.atI_succ, DL.atI_last, DL.cut_to, DL.cut_from, DL.cut_both, DL.cut_butlast, DL.sum_nl, DL.sum_nt, DL.mul_tx1, DL.mul_tup, List.getElem?_cons_zero, List.getElem?_cons_succ, List.set_cons_zero, List.set_cons_succ, List.length_cons, List.length_nil, List.map_nil, List.length_map, List.cons.injEq, and_true, eq_self, decide_true, decide_false, Bool.not_true, Bool.not_false, Option.map_some, Int.reduceLT, Int.reduceLE, Int.reduceAdd, Int.reduceSub, Int.reduceMul, Int.reduceNeg, Int.reduceEq, Nat.reduceAdd, Nat.reduceSub, hc, hsl', rng_range', e2]
        · have e1 : one F c (t, s) = [] := if_neg hc
          rw [e1, List.map_nil, List.append_nil]
          refine ⟨EP (tx F) g found (tx [c]) (.own (.lst base)) (.sh (tn t)) (.sh (ni s)) y7, EP (tx F) g found (tx [c]) (.own (.lst base)) (.sh (tn t)) (.sh (ni s)) y7, rfl, ?_, _, _, _, rfl, rfl, rfl⟩
          by_cases hsl : s < F.length
          · have e3 : F[s]? = some F[s] := List.getElem?_eq_getElem hsl
            have hsl' : (s : Int) < (F.length : Int) := by omega
            rw [e3] at hc
            generalize F[s] = c' at hc e3
            have hc' : ¬ c' = c := fun z => hc (by rw [z])
            simp (disch := first | omega | (simp; done) | (simp; omega)) only [↓DL.we_e, DL.weB_ok, ↓DL.ts_e, DL.tsB_ok, ↓DL.tsE_e, DL.tsE_ok, DL.prB_ok, ↓DL.tr_e, DL.trB_ok, ↓DL.trE_e, DL.trE_ok, ↓DL.bn_e, DL.bnB_ok, ↓DL.bnE_e, DL.bnE_ok, DL.bnE2_ok, ↓DL.ap_e, DL.apB_ok, ↓DL.itN_e, ↓DL.apE_e, DL.apE_ok, ↓DL.itX_e, DL.apX_ok, ↓DL.un1_e, ↓DL.aNil_e, ↓DL.aCons_e, DL.acB_ok, ↓DL.aConsE_e, DL.acE_ok, DL.acE2_ok, ↓DL.kc_e, ↓DL.notB_e, DL.ntB_ok, ↓DL.notV_e, DL.ntV_ok, ↓DL.notE_e, DL.ntE_ok, ↓DL.andB_e, DL.anB_t, DL.anB_f, ↓DL.orB_e, DL.orB_t, DL.orB_f, ↓DL.andV_e, DL.anV_t, DL.anV_f, ↓DL.orV_e, DL.roV_t, DL.roV_f, ↓DL.ifV_e, DL.ivB_t, DL.ivB_f, ↓DL.ifVE_e, DL.ivE_t, DL.ivE_f, ↓DL.andE_e, DL.anE_t, DL.anE_f, ↓DL.orE_e, DL.roE_t, DL.roE_f, ↓DL.chn_e, DL.chB_ok, DL.chB2_t, DL.chB2_f, ↓DL.oNone_e, ↓DL.oSome_e, DL.osB_ok, ↓DL.sl3_e, DL.s3B_ok, ↓DL.mthV_e, DL.mvB_tx, ↓DL.mthL_e, DL.mlB_ok, ↓DL.mkT_e, DL.mtB_ok, ↓DL.mkL_e, DL.mlB'_ok, ↓DL.mkTE_e, DL.mtE_ok, ↓DL.gSet_e, ↓DL.gTup_e, ↓DL.gsCons_e, DL.gcB_ok, ↓DL.gsNil_e, ↓DL.seq_st, DL.sq_nx, DL.sq_rt, DL.sq_bk, DL.sq_ct, ↓DL.if_st, DL.ifB_y, DL.ifB_n, ↓DL.set_st, DL.stB_ok, ↓DL.ret_st, DL.rtB_ok, ↓DL.seto_st, DL.soB_ok, ↓DL.for_st', DL.frB_ok, DL.forD_nil, ↓DL.expr_st, DL.exB_ok, ↓DL.skip_st, ↓DL.retN_st, ↓DL.brk_st, ↓DL.call_st, DL.clB_ok, ↓DL.callE_st, DL.clE_ok, DL.R_at_ok, ↓DL.callIO_st, DL.ciB_ok, DL.ciC_ok, DL.ciD_ok, ↓DL.par_st, DL.psB_ok, ↓DL.asg_st, DL.asB1_ok, DL.asB2_ok, ↓DL.aug_st, DL.agB_ok, DL.agC_ok, ↓DL.app_st, DL.apS_ok, ↓DL.itm_st, DL.imB_ok, DL.imC_ok, ↓DL.rvs_st, DL.rvB_ok, ↓DL.retO_st, DL.roB_own, DL.roB_sh, ↓DL.frz_st, ↓DL.frzS_st, DL.fzB_own, DL.fzB_sh, DL.fzB_un, ↓DL.itR1_st, DL.r1B_ok, DL.rg1_ok, DL.rg2_ok, DL.tn_add1, DL.tn_succ, DL.tn_nat, DL.tn_pred, DL.tn_sub, DL.len0, DL.len1, DL.len2, DL.len3, DL.len4, DL.gSh_eq, DL.gAny_eq, DL.gS_sh, DL.gA_sh, DL.gA_own, DL.gA_io, DL.ownL_eq, DL.oL_own, DL.oL_io, DL.put_own, DL.put_io, DL.ofO_some, DL.tru_bl, DL.tru_int, DL.tru_lst, DL.len_tx, DL.len_lst, DL.len_tup, DL.ix_tx, DL.ix_lst, DL.ix_tup, DL.sl_tx, DL.sl_lst, DL.sl_tup, DL.plus_tx, DL.plus_int, DL.plus_lst, DL.plus_tup, DL.cat_lst, DL.rep_lst1, DL.zD_tx, DL.zD_lst, DL.zD_tup, DL.rev_tx, DL.en_tx, DL.tup_lst, DL.lst_tup, DL.isi_tx, DL.isi_int, DL.isi_intb, DL.isi_tt, DL.isi_lt, DL.isi_int_tl, DL.isi_non_tl, DL.isi_tup_tl, DL.isi_tup_l, DL.isi_int_s, DL.isi_non_s, DL.eq_bl, DL.ne_bl, DL.eq_non, DL.isn_i, DL.isn_n, DL.sub_int', DL.add_ip, DL.sub_ip, DL.mul_int', DL.lt_int, DL.gt_int, DL.ge_int, DL.le_int, DL.eq_int, DL.ne_int, DL.eq_tx, DL.ne_tx, DL.isn_int, DL.isn_non, DL.isb, DL.neg_int, DL.int_int, DL.atI_nat, DL.atI_zero, DL.atI_one, DL.atI_two, DL.atI_three, DL.atI_succ, DL.atI_last, DL.cut_to, DL.cut_from, DL.cut_both, DL.cut_butlast, DL.sum_nl, DL.sum_nt, DL.mul_tx1, DL.mul_tup, List.getElem?_cons_zero, List.getElem?_cons_succ, List.set_cons_zero, List.set_cons_succ, List.length_cons, List.length_nil, List.map_nil, List.length_map, List.cons.injEq, and_true, eq_self, decide_true, decide_false, Bool.not_true, Bool.not_false, Option.map_some, Int.reduceLT, Int.reduceLE, Int.reduceAdd, Int.reduceSub, Int.reduceMul, Int.reduceNeg, Int.reduceEq, Nat.reduceAdd, Nat.reduceSub, e3, hsl', hc']
          · have hsl' : ¬ (s : Int) < (F.length : Int) := by omega
            simp (disch := first | omega | (simp; done) | (simp; omega)) only [↓DL.we_e, DL.weB_ok, ↓DL.ts_e, DL.tsB_ok, ↓DL.tsE_e, DL.tsE_ok, DL.prB_ok, ↓DL.tr_e, DL.trB_ok, ↓DL.trE_e, DL.trE_ok, ↓DL.bn_e, DL.bnB_ok, ↓DL.bnE_e, DL.bnE_ok, DL.bnE2_ok, ↓DL.ap_e, DL.apB_ok, ↓DL.itN_e, ↓DL.apE_e, DL.apE_ok, ↓DL.itX_e, DL.apX_ok, ↓DL.un1_e, ↓DL.aNil_e, ↓DL.aCons_e, DL.acB_ok, ↓DL.aConsE_e, DL.acE_ok, DL.acE2_ok, ↓DL.kc_e, ↓DL.notB_e, DL.ntB_ok, ↓DL.notV_e, DL.ntV_ok, ↓DL.notE_e, DL.ntE_ok, ↓DL.andB_e, DL.anB_t, DL.anB_f, ↓DL.orB_e, DL.orB_t, DL.orB_f, ↓DL.andV_e, DL.anV_t, DL.anV_f, ↓DL.orV_e, DL.roV_t, DL.roV_f, ↓DL.ifV_e, DL.ivB_t, DL.ivB_f, ↓DL.ifVE_e, DL.ivE_t, DL.ivE_f, ↓DL.andE_e, DL.anE_t, DL.anE_f, ↓DL.orE_e, DL.roE_t, DL.roE_f, ↓DL.chn_e, DL.chB_ok, DL.chB2_t, DL.chB2_f, ↓DL.oNone_e, ↓DL.oSome_e, DL.osB_ok, ↓DL.sl3_e, DL.s3B_ok, ↓DL.mthV_e, DL.mvB_tx, ↓DL.mthL_e, DL.mlB_ok, ↓DL.mkT_e, DL.mtB_ok, ↓DL.mkL_e, DL.mlB'_ok, ↓DL.mkTE_e, DL.mtE_ok, ↓DL.gSet_e, ↓DL.gTup_e, ↓DL.gsCons_e, DL.gcB_ok, ↓DL.gsNil_e, ↓DL.seq_st, DL.sq_nx, DL.sq_rt, DL.sq_bk, DL.sq_ct, ↓DL.if_st, DL.ifB_y, DL.ifB_n, ↓DL.set_st, DL.stB_ok, ↓DL.ret_st, DL.rtB_ok, ↓DL.seto_st, DL.soB_ok, ↓DL.for_st', DL.frB_ok, DL.forD_nil, ↓DL.expr_st, DL.exB_ok, ↓DL.skip_st, ↓DL.retN_st, ↓DL.brk_st, ↓DL.call_st, DL.clB_ok, ↓DL.callE_st, DL.clE_ok, DL.R_at_ok, ↓DL.callIO_st, DL.ciB_ok, DL.ciC_ok, DL.ciD_ok, ↓DL.par_st, DL.psB_ok, ↓DL.asg_st, DL.asB1_ok, DL.asB2_ok, ↓DL.aug_st, DL.agB_ok, DL.agC_ok, ↓DL.app_st, DL.apS_ok, ↓DL.itm_st, DL.imB_ok, DL.imC_ok, ↓DL.rvs_st, DL.rvB_ok, ↓DL.retO_st, DL.roB_own, DL.roB_sh, ↓DL.frz_st, ↓DL.frzS_st, DL.fzB_own, DL.fzB_sh, DL.fzB_un, ↓DL.itR1_st, DL.r1B_ok, DL.rg1_ok, DL.rg2_ok, DL.tn_add1, DL.tn_succ, DL.tn_nat, DL.tn_pred, DL.tn_sub, DL.len0, DL.len1, DL.len2, DL.len3, DL.len4, DL.gSh_eq, DL.gAny_eq, DL.gS_sh, DL.gA_sh, DL.gA_own, DL.gA_io, DL.ownL_eq, DL.oL_own, DL.oL_io, DL.put_own, DL.put_io, DL.ofO_some, DL.tru_bl, DL.tru_int, DL.tru_lst, DL.len_tx, DL.len_lst, DL.len_tup, DL.ix_tx, DL.ix_lst, DL.ix_tup, DL.sl_tx, DL.sl_lst, DL.sl_tup, DL.plus_tx, DL.plus_int, DL.plus_lst, DL.plus_tup, DL.cat_lst, DL.rep_lst1, DL.zD_tx, DL.zD_lst, DL.zD_tup, DL.rev_tx, DL.en_tx, DL.tup_lst, DL.lst_tup, DL.isi_tx, DL.isi_int, DL.isi_intb, DL.isi_tt, DL.isi_lt, DL.isi_int_tl, DL.isi_non_tl, DL.isi_tup_tl, DL.isi_tup_l, DL.isi_int_s, DL.isi_non_s, DL.eq_bl, DL.ne_bl, DL.eq_non, DL.isn_i, DL.isn_n, DL.sub_int', DL.add_ip, DL.sub_ip, DL.mul_int', DL.lt_int, DL.gt_int, DL.ge_int, DL.le_int, DL.eq_int, DL.ne_int, DL.eq_tx, DL.ne_tx, DL.isn_int, DL.isn_non, DL.isb, DL.neg_int, DL.int_int, DL.atI_nat, DL.atI_zero, DL.atI_one, DL.atI_two, DL.atI_three, DL.atI_succ, DL.atI_last, DL.cut_to, DL.cut_from, DL.cut_both, DL.cut_butlast, DL.sum_nl, DL.sum_nt, DL.mul_tx1, DL.mul_tup, List.getElem?_cons_zero, List.getElem?_cons_succ, List.set_cons_zero, List.set_cons_succ, List.length_cons, List.length_nil, List.map_nil, List.length_map, List.cons.injEq, and_true, eq_self, decide_true, decide_false, Bool.not_true, Bool.not_false, Option.map_some, Int.reduceLT, Int.reduceLE, Int.reduceAdd, Int.reduceSub, Int.reduceMul, Int.reduceNeg, Int.reduceEq, Nat.reduceAdd, Nat.reduceSub, hsl'])
  rw [List.length_map, List.take_length] at er
  exact ⟨y5, y6, y7, m5, m6, by rw [e, er]; rfl⟩
theorem stp_lens {F : List Nat} {c n : Nat} {fnd : List (List Nat × Nat)} (h : ∀ x ∈ fnd, x.1.length = n) : ∀ x ∈ stp F fnd c, x.1.length = n + 1 := by
  intro x hx
  rw [stp_one] at hx
  obtain ⟨y, hy, hx⟩ := List.mem_flatMap.mp hx
  unfold one at hx
  split at hx
  · obtain ⟨p, _, e⟩ := List.mem_map.mp hx
    rw [← e]
    show (y.1 ++ [p]).length = _
    rw [List.length_append, h y hy]
    rfl
  · cases hx
theorem fold_lens (F : List Nat) : ∀ (g : List Nat) (fnd : List (List Nat × Nat)) (n : Nat), (∀ x ∈ fnd, x.1.length = n) → ∀ x ∈ g.foldl (stp F) fnd, x.1.length = n + g.length
  | [], fnd, n, h, x, hx => h x hx
  | c :: g, fnd, n, h, x, hx => by
    rw [List.foldl_cons] at hx
    have := fold_lens F g _ (n + 1) (stp_lens h) x hx
    rw [this, List.length_cons]
    omega
theorem partings_ok {F g : List Nat} (hF : Film F) (hg : Film g) (hF16 : F.length ≤ 16) : F__law_partings [tx F, tx g] = .ok (.lst ((E F g 0).map fun l => tn l)) := by
  have hFl := hF.2.1
  have hgl := hg.2.1
  have hpow : pot F [([], 0)] ≤ 100000 := by
    show 2 ^ (F.length - 0) + 0 ≤ _
    have : 2 ^ (F.length - 0) ≤ 2 ^ 16 := Nat.pow_le_pow_right (by decide) (by omega)
    omega
  obtain ⟨r', e, x3, x4, x5, x6, x7, n5, n6, er⟩ := for_inv (g := gSet 3) (b := seqS (setO 4 (mkL aNil)) (seqS (forS (withEnv (itX zD (gSh 2))) (gTupD 2 (gsCons (gSet 5) (gsCons (gSet 6) gsNil))) midB) (frzS 4 (setS 2 (withEnv (gSh 4))))))
    (items := g.map fun c => tx [c]) (r := [.sh (tx F), .sh (tx g), .sh (.lst [.tup [.tup [], ni 0]]), .un, .un, .un, .un, .un])
    (fun i r => ∃ x3 x4 x5 x6 x7, NO x5 ∧ NO x6 ∧ r = [.sh (tx F), .sh (tx g), .sh (.lst (((g.take i).foldl (stp F) [([], 0)]).map pr)), x3, x4, x5, x6, x7]) ⟨.un, .un, .un, .un, .un, rfl, rfl, rfl⟩ (fun i x r e hI => by
      obtain ⟨x3, x4, x5, x6, x7, n5, n6, er⟩ := hI
      obtain ⟨c, ec, ex⟩ := tx_get e
      subst er ex
      have hs : (g.take (i + 1)).foldl (stp F) [([], 0)] = stp F ((g.take i).foldl (stp F) [([], 0)]) c := by
        rw [List.take_succ, ec, List.foldl_append]
        rfl
      have a1 := fold_lens F (g.take i) [([], 0)] 0 (by simp)
      have a2 := pot_fold F (g.take i) [([], 0)]
      rw [hs]
      generalize (g.take i).foldl (stp F) [([], 0)] = fnd at a1 a2
      obtain ⟨y5, y6, y7, m5, m6, e2⟩ := mid_loop (c := c) hFl (tx g) (.lst (fnd.map pr)) fnd (fun x hx => by
        rw [a1 x hx, List.length_take]
        omega) (by omega) x5 x6 x7 n5 n6
      refine ⟨[.sh (tx F), .sh (tx g), .sh (.lst (fnd.map pr)), .sh (tx [c]), x4, x5, x6, x7], [.sh (tx F), .sh (tx g), .sh (.lst ((stp F fnd c).map pr)), .sh (tx [c]), .sh (.lst ((stp F fnd c).map pr)), y5, y6, y7], rfl, ?_, _, _, _, _, _, m5, m6, rfl⟩
      simp (disch := first | omega | (simp; done) | (simp; omega)) only [↓DL.we_e, DL.weB_ok, ↓DL.ts_e, DL.tsB_ok, ↓DL.tsE_e, DL.tsE_ok, DL.prB_ok, ↓DL.tr_e, DL.trB_ok, ↓DL.trE_e, DL.trE_ok, ↓DL.bn_e, DL.bnB_ok, ↓DL.bnE_e, DL.bnE_ok, DL.bnE2_ok, ↓DL.ap_e, DL.apB_ok, ↓DL.itN_e, ↓DL.apE_e, DL.apE_ok, ↓DL.itX_e, DL.apX_ok, ↓DL.un1_e, ↓DL.aNil_e, ↓DL.aCons_e, DL.acB_ok, ↓DL.aConsE_e, DL.acE_ok, DL.acE2_ok, ↓DL.kc_e, ↓DL.notB_e, DL.ntB_ok, ↓DL.notV_e, DL.ntV_ok, ↓DL.notE_e, DL.ntE_ok, ↓DL.andB_e, DL.anB_t, DL.anB_f, ↓DL.orB_e, DL.orB_t, DL.orB_f, ↓DL.andV_e, DL.anV_t, DL.anV_f, ↓DL.orV_e, DL.roV_t, DL.roV_f, ↓DL.ifV_e, DL.ivB_t, DL.ivB_f, ↓DL.ifVE_e, DL.ivE_t, DL.ivE_f, ↓DL.andE_e, DL.anE_t, DL.anE_f, ↓DL.orE_e, DL.roE_t, DL.roE_f, ↓DL.chn_e, DL.chB_ok, DL.chB2_t, DL.chB2_f, ↓DL.oNone_e, ↓DL.oSome_e, DL.osB_ok, ↓DL.sl3_e, DL.s3B_ok, ↓DL.mthV_e, DL.mvB_tx, ↓DL.mthL_e, DL.mlB_ok, ↓DL.mkT_e, DL.mtB_ok, ↓DL.mkL_e, DL.mlB'_ok, ↓DL.mkTE_e, DL.mtE_ok, ↓DL.gSet_e, ↓DL.gTup_e, ↓DL.gsCons_e, DL.gcB_ok, ↓DL.gsNil_e, ↓DL.seq_st, DL.sq_nx, DL.sq_rt, DL.sq_bk, DL.sq_ct, ↓DL.if_st, DL.ifB_y, DL.ifB_n, ↓DL.set_st, DL.stB_ok, ↓DL.ret_st, DL.rtB_ok, ↓DL.seto_st, DL.soB_ok, ↓DL.for_st', DL.frB_ok, DL.forD_nil, ↓DL.expr_st, DL.exB_ok, ↓DL.skip_st, ↓DL.retN_st, ↓DL.brk_st, ↓DL.call_st, DL.clB_ok, ↓DL.callE_st, DL.clE_ok, DL.R_at_ok, ↓DL.callIO_st, DL.ciB_ok, DL.ciC_ok, DL.ciD_ok, ↓DL.par_st, DL.psB_ok, ↓DL.asg_st, DL.asB1_ok, DL.asB2_ok, ↓DL.aug_st, DL.agB_ok, DL.agC_ok, ↓DL.app_st, DL.apS_ok, ↓DL.itm_st, DL.imB_ok, DL.imC_ok, ↓DL.rvs_st, DL.rvB_ok, ↓DL.retO_st, DL.roB_own, DL.roB_sh, ↓DL.frz_st, ↓DL.frzS_st, DL.fzB_own, DL.fzB_sh, DL.fzB_un, ↓DL.itR1_st, DL.r1B_ok, DL.rg1_ok, DL.rg2_ok, DL.tn_add1, DL.tn_succ, DL.tn_nat, DL.tn_pred, DL.tn_sub, DL.len0, DL.len1, DL.len2, DL.len3, DL.len4, DL.gSh_eq, DL.gAny_eq, DL.gS_sh, DL.gA_sh, DL.gA_own, DL.gA_io, DL.ownL_eq, DL.oL_own, DL.oL_io, DL.put_own, DL.put_io, DL.ofO_some, DL.tru_bl, DL.tru_int, DL.tru_lst, DL.len_tx, DL.len_lst, DL.len_tup, DL.ix_tx, DL.ix_lst, DL.ix_tup, DL.sl_tx, DL.sl_lst, DL.sl_tup, DL.plus_tx, DL.plus_int, DL.plus_lst, DL.plus_tup, DL.cat_lst, DL.rep_lst1, DL.zD_tx, DL.zD_lst, DL.zD_tup, DL.rev_tx, DL.en_tx, DL.tup_lst, DL.lst_tup, DL.isi_tx, DL.isi_int, DL.isi_intb, DL.isi_tt, DL.isi_lt, DL.isi_int_tl, DL.isi_non_tl, DL.isi_tup_tl, DL.isi_tup_l, DL.isi_int_s, DL.isi_non_s, DL.eq_bl, DL.ne_bl, DL.eq_non, DL.isn_i, DL.isn_n, DL.sub_int', DL.add_ip, DL.sub_ip, DL.mul_int', DL.lt_int, DL.gt_int, DL.ge_int, DL.le_int, DL.eq_int, DL.ne_int, DL.eq_tx, DL.ne_tx, DL.isn_int, DL.isn_non, DL.isb, DL.neg_int, DL.int_int, DL.atI_nat, DL.atI_zero, DL.atI_one, DL.atI_two, DL.atI_three, DL.atI_succ, DL.atI_last, DL.cut_to, DL.cut_from, DL.cut_both, DL.cut_butlast, DL.sum_nl, DL.sum_nt, DL.mul_tx1, DL.mul_tup, List.getElem?_cons_zero, List.getElem?_cons_succ, List.set_cons_zero, List.set_cons_succ, List.length_cons, List.length_nil, List.map_nil, List.length_map, List.cons.injEq, and_true, eq_self, decide_true, decide_false, Bool.not_true, Bool.not_false, Option.map_some, Int.reduceLT, Int.reduceLE, Int.reduceAdd, Int.reduceSub, Int.reduceMul, Int.reduceNeg, Int.reduceEq, Nat.reduceAdd, Nat.reduceSub, e2])
  rw [List.length_map, List.take_length] at er
  have a1 := fold_lens F g [([], 0)] 0 (by simp)
  have a2 := pot_fold F g [([], 0)]
  have a3 := pot_len F (g.foldl (stp F) [([], 0)])
  have a4 := stp_E F g
  subst er
  generalize g.foldl (stp F) [([], 0)] = fnd at *
  have c1 : itX zD (gSh 2) [.sh (tx F), .sh (tx g), .sh (.lst (fnd.map pr)), x3, x4, x5, x6, x7] = .ok (fnd.map pr) := by simp (disch := first | omega | (simp; done) | (simp; omega)) only [↓DL.we_e, DL.weB_ok, ↓DL.ts_e, DL.tsB_ok, ↓DL.tsE_e, DL.tsE_ok, DL.prB_ok, ↓DL.tr_e, DL.trB_ok, ↓DL.trE_e, DL.trE_ok, ↓DL.bn_e, DL.bnB_ok, ↓DL.bnE_e, DL.bnE_ok, DL.bnE2_ok, ↓DL.ap_e, DL.apB_ok, ↓DL.itN_e, ↓DL.apE_e, DL.apE_ok, ↓DL.itX_e, DL.apX_ok, ↓DL.un1_e, ↓DL.aNil_e, ↓DL.aCons_e, DL.acB_ok, ↓DL.aConsE_e, DL.acE_ok, DL.acE2_ok, ↓DL.kc_e, ↓DL.notB_e, DL.ntB_ok, ↓DL.notV_e, DL.ntV_ok, ↓DL.notE_e, DL.ntE_ok, ↓DL.andB_e, DL.anB_t, DL.anB_f, ↓DL.orB_e, DL.orB_t, DL.orB_f, ↓DL.andV_e, DL.anV_t, DL.anV_f, ↓DL.orV_e, DL.roV_t, DL.roV_f, ↓DL.ifV_e, DL.ivB_t, DL.ivB_f, ↓DL.ifVE_e, DL.ivE_t, DL.ivE_f, ↓DL.andE_e, DL.anE_t, DL.anE_f, ↓DL.orE_e, DL.roE_t, DL.roE_f, ↓DL.chn_e, DL.chB_ok, DL.chB2_t, DL.chB2_f, ↓DL.oNone_e, ↓DL.oSome_e, DL.osB_ok, ↓DL.sl3_e, DL.s3B_ok, ↓DL.mthV_e, DL.mvB_tx, ↓DL.mthL_e, DL.mlB_ok, ↓DL.mkT_e, DL.mtB_ok, ↓DL.mkL_e, DL.mlB'_ok, ↓DL.mkTE_e, DL.mtE_ok, ↓DL.gSet_e, ↓DL.gTup_e, ↓DL.gsCons_e, DL.gcB_ok, ↓DL.gsNil_e, ↓DL.seq_st, DL.sq_nx, DL.sq_rt, DL.sq_bk, DL.sq_ct, ↓DL.if_st, DL.ifB_y, DL.ifB_n, ↓DL.set_st, DL.stB_ok, ↓DL.ret_st, DL.rtB_ok, ↓DL.seto_st, DL.soB_ok, ↓DL.for_st', DL.frB_ok, DL.forD_nil, ↓DL.expr_st, DL.exB_ok, ↓DL.skip_st, ↓DL.retN_st, ↓DL.brk_st, ↓DL.call_st, DL.clB_ok, ↓DL.callE_st, DL.clE_ok, DL.R_at_ok, ↓DL.callIO_st, DL.ciB_ok, DL.ciC_ok, DL.ciD_ok, ↓DL.par_st, DL.psB_ok, ↓DL.asg_st, DL.asB1_ok, DL.asB2_ok, ↓DL.aug_st, DL.agB_ok, DL.agC_ok, ↓DL.app_st, DL.apS_ok, ↓DL.itm_st, DL.imB_ok, DL.imC_ok, ↓DL.rvs_st, DL.rvB_ok, ↓DL.retO_st, DL.roB_own, DL.roB_sh, ↓DL.frz_st, ↓DL.frzS_st, DL.fzB_own, DL.fzB_sh, DL.fzB_un, ↓DL.itR1_st, DL.r1B_ok, DL.rg1_ok, DL.rg2_ok, DL.tn_add1, DL.tn_succ, DL.tn_nat, DL.tn_pred, DL.tn_sub, DL.len0, DL.len1, DL.len2, DL.len3, DL.len4, DL.gSh_eq, DL.gAny_eq, DL.gS_sh, DL.gA_sh, DL.gA_own, DL.gA_io, DL.ownL_eq, DL.oL_own, DL.oL_io, DL.put_own, DL.put_io, DL.ofO_some, DL.tru_bl, DL.tru_int, DL.tru_lst, DL.len_tx, DL.len_lst, DL.len_tup, DL.ix_tx, DL.ix_lst, DL.ix_tup, DL.sl_tx, DL.sl_lst, DL.sl_tup, DL.plus_tx, DL.plus_int, DL.plus_lst, DL.plus_tup, DL.cat_lst, DL.rep_lst1, DL.zD_tx, DL.zD_lst, DL.zD_tup, DL.rev_tx, DL.en_tx, DL.tup_lst, DL.lst_tup, DL.isi_tx, DL.isi_int, DL.isi_intb, DL.isi_tt, DL.isi_lt, DL.isi_int_tl, DL.isi_non_tl, DL.isi_tup_tl, DL.isi_tup_l, DL.isi_int_s, DL.isi_non_s, DL.eq_bl, DL.ne_bl, DL.eq_non, DL.isn_i, DL.isn_n, DL.sub_int', DL.add_ip, DL.sub_ip, DL.mul_int', DL.lt_int, DL.gt_int, DL.ge_int, DL.le_int, DL.eq_int, DL.ne_int, DL.eq_tx, DL.ne_tx, DL.isn_int, DL.isn_non, DL.isb, DL.neg_int, DL.int_int, DL.atI_nat, DL.atI_zero, DL.atI_one, DL.atI_two, DL.atI_three, DL.atI_succ, DL.atI_last, DL.cut_to, DL.cut_from, DL.cut_both, DL.cut_butlast, DL.sum_nl, DL.sum_nt, DL.mul_tx1, DL.mul_tup, List.getElem?_cons_zero, List.getElem?_cons_succ, List.set_cons_zero, List.set_cons_succ, List.length_cons, List.length_nil, List.map_nil, List.length_map, List.cons.injEq, and_true, eq_self, decide_true, decide_false, Bool.not_true, Bool.not_false, Option.map_some, Int.reduceLT, Int.reduceLE, Int.reduceAdd, Int.reduceSub, Int.reduceMul, Int.reduceNeg, Int.reduceEq, Nat.reduceAdd, Nat.reduceSub]
  have c2 := lcV_ok (r := [.sh (tx F), .sh (tx g), .sh (.lst (fnd.map pr)), x3, x4, x5, x6, x7]) (own := [("told", 5), ("start", 6)]) (g := gTupD 2 (gsCons (gSet 5) (gsCons (gSet 6) gsNil))) (c := tst (bin eqD (gAny 6) (appN lenD (aCons (gAny 0) aNil)))) (f := gSh 5)
    (fun d => match d with | .tup [_, .int i] => decide (i = (F.length : Int)) | _ => false) (fun d => match d with | .tup [x, _] => x | _ => .non) (by
      show (List.all [5, 6] fun v => !isOwn _) = true
      simp only [List.all_cons, List.all_nil, List.getElem?_cons_succ, List.getElem?_cons_zero, n5, n6]
      rfl) c1 (by rw [List.length_map, sizeLine_eq]; omega) (fun x hx => by
      obtain ⟨z, hz, ex⟩ := List.mem_map.mp hx
      obtain ⟨t, s⟩ := z
      subst ex
      refine ⟨[.sh (tx F), .sh (tx g), .sh (.lst (fnd.map pr)), x3, x4, .sh (tn t), .sh (ni s), x7], rfl, ?_, fun _ => ?_⟩
      · simp (disch := first | omega | (simp; done) | (simp; omega)) only [↓DL.we_e, DL.weB_ok, ↓DL.ts_e, DL.tsB_ok, ↓DL.tsE_e, DL.tsE_ok, DL.prB_ok, ↓DL.tr_e, DL.trB_ok, ↓DL.trE_e, DL.trE_ok, ↓DL.bn_e, DL.bnB_ok, ↓DL.bnE_e, DL.bnE_ok, DL.bnE2_ok, ↓DL.ap_e, DL.apB_ok, ↓DL.itN_e, ↓DL.apE_e, DL.apE_ok, ↓DL.itX_e, DL.apX_ok, ↓DL.un1_e, ↓DL.aNil_e, ↓DL.aCons_e, DL.acB_ok, ↓DL.aConsE_e, DL.acE_ok, DL.acE2_ok, ↓DL.kc_e, ↓DL.notB_e, DL.ntB_ok, ↓DL.notV_e, DL.ntV_ok, ↓DL.notE_e, DL.ntE_ok, ↓DL.andB_e, DL.anB_t, DL.anB_f, ↓DL.orB_e, DL.orB_t, DL.orB_f, ↓DL.andV_e, DL.anV_t, DL.anV_f, ↓DL.orV_e, DL.roV_t, DL.roV_f, ↓DL.ifV_e, DL.ivB_t, DL.ivB_f, ↓DL.ifVE_e, DL.ivE_t, DL.ivE_f, ↓DL.andE_e, DL.anE_t, DL.anE_f, ↓DL.orE_e, DL.roE_t, DL.roE_f, ↓DL.chn_e, DL.chB_ok, DL.chB2_t, DL.chB2_f, ↓DL.oNone_e, ↓DL.oSome_e, DL.osB_ok, ↓DL.sl3_e, DL.s3B_ok, ↓DL.mthV_e, DL.mvB_tx, ↓DL.mthL_e, DL.mlB_ok, ↓DL.mkT_e, DL.mtB_ok, ↓DL.mkL_e, DL.mlB'_ok, ↓DL.mkTE_e, DL.mtE_ok, ↓DL.gSet_e, ↓DL.gTup_e, ↓DL.gsCons_e, DL.gcB_ok, ↓DL.gsNil_e, ↓DL.seq_st, DL.sq_nx, DL.sq_rt, DL.sq_bk, DL.sq_ct, ↓DL.if_st, DL.ifB_y, DL.ifB_n, ↓DL.set_st, DL.stB_ok, ↓DL.ret_st, DL.rtB_ok, ↓DL.seto_st, DL.soB_ok, ↓DL.for_st', DL.frB_ok, DL.forD_nil, ↓DL.expr_st, DL.exB_ok, ↓DL.skip_st, ↓DL.retN_st, ↓DL.brk_st, ↓DL.call_st, DL.clB_ok, ↓DL.callE_st, DL.clE_ok, DL.R_at_ok, ↓DL.callIO_st, DL.ciB_ok, DL.ciC_ok, DL.ciD_ok, ↓DL.par_st, DL.psB_ok, ↓DL.asg_st, DL.asB1_ok, DL.asB2_ok, ↓DL.aug_st, DL.agB_ok, DL.agC_ok, ↓DL.app_st, DL.apS_ok, ↓DL.itm_st, DL.imB_ok, DL.imC_ok, ↓DL.rvs_st, DL.rvB_ok, ↓DL.retO_st, DL.roB_own, DL.roB_sh, ↓DL.frz_st, ↓DL.frzS_st, DL.fzB_own, DL.fzB_sh, DL.fzB_un, ↓DL.itR1_st, DL.r1B_ok, DL.rg1_ok, DL.rg2_ok, DL.tn_add1, DL.tn_succ, DL.tn_nat, DL.tn_pred, DL.tn_sub, DL.len0, DL.len1, DL.len2, DL.len3, DL.len4, DL.gSh_eq, DL.gAny_eq, DL.gS_sh, DL.gA_sh, DL.gA_own, DL.gA_io, DL.ownL_eq, DL.oL_own, DL.oL_io, DL.put_own, DL.put_io, DL.ofO_some, DL.tru_bl, DL.tru_int, DL.tru_lst, DL.len_tx, DL.len_lst, DL.len_tup, DL.ix_tx, DL.ix_lst, DL.ix_tup, DL.sl_tx, DL.sl_lst, DL.sl_tup, DL.plus_tx, DL.plus_int, DL.plus_lst, DL.plus_tup, DL.cat_lst, DL.rep_lst1, DL.zD_tx, DL.zD_lst, DL.zD_tup, DL.rev_tx, DL.en_tx, DL.tup_lst, DL.lst_tup, DL.isi_tx, DL.isi_int, DL.isi_intb, DL.isi_tt, DL.isi_lt, DL.isi_int_tl, DL.isi_non_tl, DL.isi_tup_tl, DL.isi_tup_l, DL.isi_int_s, DL.isi_non_s, DL.eq_bl, DL.ne_bl, DL.eq_non, DL.isn_i, DL.isn_n, DL.sub_int', DL.add_ip, DL.sub_ip, DL.mul_int', DL.lt_int, DL.gt_int, DL.ge_int, DL.le_int, DL.eq_int, DL.ne_int, DL.eq_tx, DL.ne_tx, DL.isn_int, DL.isn_non, DL.isb, DL.neg_int, DL.int_int, DL.atI_nat, DL.atI_zero, DL.atI_one, DL.atI_two, DL.atI_three, DL.atI_succ, DL.atI_last, DL.cut_to, DL.cut_from, DL.cut_both, DL.cut_butlast, DL.sum_nl, DL.sum_nt, DL.mul_tx1, DL.mul_tup, List.getElem?_cons_zero, List.getElem?_cons_succ, List.set_cons_zero, List.set_cons_succ, List.length_cons, List.length_nil, List.map_nil, List.length_map, List.cons.injEq, and_true, eq_self, decide_true, decide_false, Bool.not_true, Bool.not_false, Option.map_some, Int.reduceLT, Int.reduceLE, Int.reduceAdd, Int.reduceSub, Int.reduceMul, Int.reduceNeg, Int.reduceEq, Nat.reduceAdd, Nat.reduceSub]
      · simp (disch := first | omega | (simp; done) | (simp; omega)) only [↓DL.we_e, DL.weB_ok, ↓DL.ts_e, DL.tsB_ok, ↓DL.tsE_e, DL.tsE_ok, DL.prB_ok, ↓DL.tr_e, DL.trB_ok, ↓DL.trE_e, DL.trE_ok, ↓DL.bn_e, DL.bnB_ok, ↓DL.bnE_e, DL.bnE_ok, DL.bnE2_ok, ↓DL.ap_e, DL.apB_ok, ↓DL.itN_e, ↓DL.apE_e, DL.apE_ok, ↓DL.itX_e, DL.apX_ok, ↓DL.un1_e, ↓DL.aNil_e, ↓DL.aCons_e, DL.acB_ok, ↓DL.aConsE_e, DL.acE_ok, DL.acE2_ok, ↓DL.kc_e, ↓DL.notB_e, DL.ntB_ok, ↓DL.notV_e, DL.ntV_ok, ↓DL.notE_e, DL.ntE_ok, ↓DL.andB_e, DL.anB_t, DL.anB_f, ↓DL.orB_e, DL.orB_t, DL.orB_f, ↓DL.andV_e, DL.anV_t, DL.anV_f, ↓DL.orV_e, DL.roV_t, DL.roV_f, ↓DL.ifV_e, DL.ivB_t, DL.ivB_f, ↓DL.ifVE_e, DL.ivE_t, DL.ivE_f, ↓DL.andE_e, DL.anE_t, DL.anE_f, ↓DL.orE_e, DL.roE_t, DL.roE_f, ↓DL.chn_e, DL.chB_ok, DL.chB2_t, DL.chB2_f, ↓DL.oNone_e, ↓DL.oSome_e, DL.osB_ok, ↓DL.sl3_e, DL.s3B_ok, ↓DL.mthV_e, DL.mvB_tx, ↓DL.mthL_e, DL.mlB_ok, ↓DL.mkT_e, DL.mtB_ok, ↓DL.mkL_e, DL.mlB'_ok, ↓DL.mkTE_e, DL.mtE_ok, ↓DL.gSet_e, ↓DL.gTup_e, ↓DL.gsCons_e, DL.gcB_ok, ↓DL.gsNil_e, ↓DL.seq_st, DL.sq_nx, DL.sq_rt, DL.sq_bk, DL.sq_ct, ↓DL.if_st, DL.ifB_y, DL.ifB_n, ↓DL.set_st, DL.stB_ok, ↓DL.ret_st, DL.rtB_ok, ↓DL.seto_st, DL.soB_ok, ↓DL.for_st', DL.frB_ok, DL.forD_nil, ↓DL.expr_st, DL.exB_ok, ↓DL.skip_st, ↓DL.retN_st, ↓DL.brk_st, ↓DL.call_st, DL.clB_ok, ↓DL.callE_st, DL.clE_ok, DL.R_at_ok, ↓DL.callIO_st, DL.ciB_ok, DL.ciC_ok, DL.ciD_ok, ↓DL.par_st, DL.psB_ok, ↓DL.asg_st, DL.asB1_ok, DL.asB2_ok, ↓DL.aug_st, DL.agB_ok, DL.agC_ok, ↓DL.app_st, DL.apS_ok, ↓DL.itm_st, DL.imB_ok, DL.imC_ok, ↓DL.rvs_st, DL.rvB_ok, ↓DL.retO_st, DL.roB_own, DL.roB_sh, ↓DL.frz_st, ↓DL.frzS_st, DL.fzB_own, DL.fzB_sh, DL.fzB_un, ↓DL.itR1_st, DL.r1B_ok, DL.rg1_ok, DL.rg2_ok, DL.tn_add1, DL.tn_succ, DL.tn_nat, DL.tn_pred, DL.tn_sub, DL.len0, DL.len1, DL.len2, DL.len3, DL.len4, DL.gSh_eq, DL.gAny_eq, DL.gS_sh, DL.gA_sh, DL.gA_own, DL.gA_io, DL.ownL_eq, DL.oL_own, DL.oL_io, DL.put_own, DL.put_io, DL.ofO_some, DL.tru_bl, DL.tru_int, DL.tru_lst, DL.len_tx, DL.len_lst, DL.len_tup, DL.ix_tx, DL.ix_lst, DL.ix_tup, DL.sl_tx, DL.sl_lst, DL.sl_tup, DL.plus_tx, DL.plus_int, DL.plus_lst, DL.plus_tup, DL.cat_lst, DL.rep_lst1, DL.zD_tx, DL.zD_lst, DL.zD_tup, DL.rev_tx, DL.en_tx, DL.tup_lst, DL.lst_tup, DL.isi_tx, DL.isi_int, DL.isi_intb, DL.isi_tt, DL.isi_lt, DL.isi_int_tl, DL.isi_non_tl, DL.isi_tup_tl, DL.isi_tup_l, DL.isi_int_s, DL.isi_non_s, DL.eq_bl, DL.ne_bl, DL.eq_non, DL.isn_i, DL.isn_n, DL.sub_int', DL.add_ip, DL.sub_ip, DL.mul_int', DL.lt_int, DL.gt_int, DL.ge_int, DL.le_int, DL.eq_int, DL.ne_int, DL.eq_tx, DL.ne_tx, DL.isn_int, DL.isn_non, DL.isb, DL.neg_int, DL.int_int, DL.atI_nat, DL.atI_zero, DL.atI_one, DL.atI_two, DL.atI_three, DL.atI_succ, DL.atI_last, DL.cut_to, DL.cut_from, DL.cut_both, DL.cut_butlast, DL.sum_nl, DL.sum_nt, DL.mul_tx1, DL.mul_tup, List.getElem?_cons_zero, List.getElem?_cons_succ, List.set_cons_zero, List.set_cons_succ, List.length_cons, List.length_nil, List.map_nil, List.length_map, List.cons.injEq, and_true, eq_self, decide_true, decide_false, Bool.not_true, Bool.not_false, Option.map_some, Int.reduceLT, Int.reduceLE, Int.reduceAdd, Int.reduceSub, Int.reduceMul, Int.reduceNeg, Int.reduceEq, Nat.reduceAdd, Nat.reduceSub])
  have c3 : ((fnd.map pr).filter (fun d => match d with | .tup [_, .int i] => decide (i = (F.length : Int)) | _ => false)).map (fun d => match d with | .tup [x, _] => x | _ => .non) = (E F g 0).map fun l => tn l := by
    rw [← a4, List.filter_map, List.map_map, List.map_map]
    have h5 : ((fun d : D => match d with | .tup [_, .int i] => decide (i = (F.length : Int)) | _ => false) ∘ pr) = fun x : List Nat × Nat => decide (x.2 = F.length) := by
      funext x
      show decide (((x.2 : Nat) : Int) = (F.length : Int)) = decide (x.2 = F.length)
      rw [Bool.eq_iff_iff, decide_eq_true_eq, decide_eq_true_eq]
      omega
    rw [h5]
    rfl
  rw [c3] at c2
  have c4 := srt_tups (L := E F g 0) (fun l hl z => by
    have h1 := (E_isP hl).2
    rw [z] at h1
    have h2 := List.length_pos_iff.mpr hg.1
    simp at h1
    omega) (E_pw F g)
  refine fnD_rt (r1 := [.sh (tx F), .sh (tx g), .sh (.lst (fnd.map pr)), x3, x4, x5, x6, x7]) rfl (show b__law_partings [.sh (tx F), .sh (tx g), .un, .un, .un, .un, .un, .un] = _ from ?_)
  have e' : forD (gSet 3) (seqS (setO 4 (mkL aNil)) (seqS (forS (withEnv (itX zD (gSh 2))) (gTupD 2 (gsCons (gSet 5) (gsCons (gSet 6) gsNil))) midB) (frzS 4 (setS 2 (withEnv (gSh 4)))))) (g.map fun c => tx [c]) [.sh (tx F), .sh (tx g), .sh (.lst [.tup [.tup [], .int 0]]), .un, .un, .un, .un, .un] = _ := e
  unfold b__law_partings
  simp (disch := first | omega | (simp; done) | (simp; omega)) only [↓DL.we_e, DL.weB_ok, ↓DL.ts_e, DL.tsB_ok, ↓DL.tsE_e, DL.tsE_ok, DL.prB_ok, ↓DL.tr_e, DL.trB_ok, ↓DL.trE_e, DL.trE_ok, ↓DL.bn_e, DL.bnB_ok, ↓DL.bnE_e, DL.bnE_ok, DL.bnE2_ok, ↓DL.ap_e, DL.apB_ok, ↓DL.itN_e, ↓DL.apE_e, DL.apE_ok, ↓DL.itX_e, DL.apX_ok, ↓DL.un1_e, ↓DL.aNil_e, ↓DL.aCons_e, DL.acB_ok, ↓DL.aConsE_e, DL.acE_ok, DL.acE2_ok, ↓DL.kc_e, ↓DL.notB_e, DL.ntB_ok, ↓DL.notV_e, DL.ntV_ok, ↓DL.notE_e, DL.ntE_ok, ↓DL.andB_e, DL.anB_t, DL.anB_f, ↓DL.orB_e, DL.orB_t, DL.orB_f, ↓DL.andV_e, DL.anV_t, DL.anV_f, ↓DL.orV_e, DL.roV_t, DL.roV_f, ↓DL.ifV_e, DL.ivB_t, DL.ivB_f, ↓DL.ifVE_e, DL.ivE_t, DL.ivE_f, ↓DL.andE_e, DL.anE_t, DL.anE_f, ↓DL.orE_e, DL.roE_t, DL.roE_f, ↓DL.chn_e, DL.chB_ok, DL.chB2_t, DL.chB2_f, ↓DL.oNone_e, ↓DL.oSome_e, DL.osB_ok, ↓DL.sl3_e, DL.s3B_ok, ↓DL.mthV_e, DL.mvB_tx, ↓DL.mthL_e, DL.mlB_ok, ↓DL.mkT_e, DL.mtB_ok, ↓DL.mkL_e, DL.mlB'_ok, ↓DL.mkTE_e, DL.mtE_ok, ↓DL.gSet_e, ↓DL.gTup_e, ↓DL.gsCons_e, DL.gcB_ok, ↓DL.gsNil_e, ↓DL.seq_st, DL.sq_nx, DL.sq_rt, DL.sq_bk, DL.sq_ct, ↓DL.if_st, DL.ifB_y, DL.ifB_n, ↓DL.set_st, DL.stB_ok, ↓DL.ret_st, DL.rtB_ok, ↓DL.seto_st, DL.soB_ok, ↓DL.for_st', DL.frB_ok, DL.forD_nil, ↓DL.expr_st, DL.exB_ok, ↓DL.skip_st, ↓DL.retN_st, ↓DL.brk_st, ↓DL.call_st, DL.clB_ok, ↓DL.callE_st, DL.clE_ok, DL.R_at_ok, ↓DL.callIO_st, DL.ciB_ok, DL.ciC_ok, DL.ciD_ok, ↓DL.par_st, DL.psB_ok, ↓DL.asg_st, DL.asB1_ok, DL.asB2_ok, ↓DL.aug_st, DL.agB_ok, DL.agC_ok, ↓DL.app_st, DL.apS_ok, ↓DL.itm_st, DL.imB_ok, DL.imC_ok, ↓DL.rvs_st, DL.rvB_ok, ↓DL.retO_st, DL.roB_own, DL.roB_sh, ↓DL.frz_st, ↓DL.frzS_st, DL.fzB_own, DL.fzB_sh, DL.fzB_un, ↓DL.itR1_st, DL.r1B_ok, DL.rg1_ok, DL.rg2_ok, DL.tn_add1, DL.tn_succ, DL.tn_nat, DL.tn_pred, DL.tn_sub, DL.len0, DL.len1, DL.len2, DL.len3, DL.len4, DL.gSh_eq, DL.gAny_eq, DL.gS_sh, DL.gA_sh, DL.gA_own, DL.gA_io, DL.ownL_eq, DL.oL_own, DL.oL_io, DL.put_own, DL.put_io, DL.ofO_some, DL.tru_bl, DL.tru_int, DL.tru_lst, DL.len_tx, DL.len_lst, DL.len_tup, DL.ix_tx, DL.ix_lst, DL.ix_tup, DL.sl_tx, DL.sl_lst, DL.sl_tup, DL.plus_tx, DL.plus_int, DL.plus_lst, DL.plus_tup, DL.cat_lst, DL.rep_lst1, DL.zD_tx, DL.zD_lst, DL.zD_tup, DL.rev_tx, DL.en_tx, DL.tup_lst, DL.lst_tup, DL.isi_tx, DL.isi_int, DL.isi_intb, DL.isi_tt, DL.isi_lt, DL.isi_int_tl, DL.isi_non_tl, DL.isi_tup_tl, DL.isi_tup_l, DL.isi_int_s, DL.isi_non_s, DL.eq_bl, DL.ne_bl, DL.eq_non, DL.isn_i, DL.isn_n, DL.sub_int', DL.add_ip, DL.sub_ip, DL.mul_int', DL.lt_int, DL.gt_int, DL.ge_int, DL.le_int, DL.eq_int, DL.ne_int, DL.eq_tx, DL.ne_tx, DL.isn_int, DL.isn_non, DL.isb, DL.neg_int, DL.int_int, DL.atI_nat, DL.atI_zero, DL.atI_one, DL.atI_two, DL.atI_three, DL.atI_succ, DL.atI_last, DL.cut_to, DL.cut_from, DL.cut_both, DL.cut_butlast, DL.sum_nl, DL.sum_nt, DL.mul_tx1, DL.mul_tup, List.getElem?_cons_zero, List.getElem?_cons_succ, List.set_cons_zero, List.set_cons_succ, List.length_cons, List.length_nil, List.map_nil, List.length_map, List.cons.injEq, and_true, eq_self, decide_true, decide_false, Bool.not_true, Bool.not_false, Option.map_some, Int.reduceLT, Int.reduceLE, Int.reduceAdd, Int.reduceSub, Int.reduceMul, Int.reduceNeg, Int.reduceEq, Nat.reduceAdd, Nat.reduceSub, ↓e', ↓c2, c4]
end LW

namespace LW
open PySem DL PT
theorem counts_eval {F g : List Nat} (hF : Film F) (hg : Film g) : F_counts_behind [tx F, tx g] = .ok (.lst (T F g)) := counts_behind_ok hF.2.1 hg.2.1
theorem parting_no {F g : List Nat} {r : Nat} (hF : Film F) (hg : Film g) (h : W g F ≤ r) : F_parting_at [tx F, tx g, ni r] = .ok .non := by
  refine fnD_rt (r1 := [.sh (tx F), .sh (tx g), .sh (ni r), .sh (.lst (T F g)), .un, .un, .un, .un, .un, .un]) rfl (show b_parting_at [.sh (tx F), .sh (tx g), .sh (ni r), .un, .un, .un, .un, .un, .un, .un] = _ from ?_)
  have e2 := T_get (F := F) (g := g) (k := 0) (Nat.zero_le _)
  have e3 := tb_get (G := W g) (F := F) (p := 0) (Nat.zero_le _)
  have h' : (((W g F : Nat) : Int)) ≤ (r : Int) := by omega
  unfold b_parting_at
  simp (disch := first | omega | (simp; done) | (simp; omega)) only [↓DL.we_e, DL.weB_ok, ↓DL.ts_e, DL.tsB_ok, ↓DL.tsE_e, DL.tsE_ok, DL.prB_ok, ↓DL.tr_e, DL.trB_ok, ↓DL.trE_e, DL.trE_ok, ↓DL.bn_e, DL.bnB_ok, ↓DL.bnE_e, DL.bnE_ok, DL.bnE2_ok, ↓DL.ap_e, DL.apB_ok, ↓DL.itN_e, ↓DL.apE_e, DL.apE_ok, ↓DL.itX_e, DL.apX_ok, ↓DL.un1_e, ↓DL.aNil_e, ↓DL.aCons_e, DL.acB_ok, ↓DL.aConsE_e, DL.acE_ok, DL.acE2_ok, ↓DL.kc_e, ↓DL.notB_e, DL.ntB_ok, ↓DL.notV_e, DL.ntV_ok, ↓DL.notE_e, DL.ntE_ok, ↓DL.andB_e, DL.anB_t, DL.anB_f, ↓DL.orB_e, DL.orB_t, DL.orB_f, ↓DL.andV_e, DL.anV_t, DL.anV_f, ↓DL.orV_e, DL.roV_t, DL.roV_f, ↓DL.ifV_e, DL.ivB_t, DL.ivB_f, ↓DL.ifVE_e, DL.ivE_t, DL.ivE_f, ↓DL.andE_e, DL.anE_t, DL.anE_f, ↓DL.orE_e, DL.roE_t, DL.roE_f, ↓DL.chn_e, DL.chB_ok, DL.chB2_t, DL.chB2_f, ↓DL.oNone_e, ↓DL.oSome_e, DL.osB_ok, ↓DL.sl3_e, DL.s3B_ok, ↓DL.mthV_e, DL.mvB_tx, ↓DL.mthL_e, DL.mlB_ok, ↓DL.mkT_e, DL.mtB_ok, ↓DL.mkL_e, DL.mlB'_ok, ↓DL.mkTE_e, DL.mtE_ok, ↓DL.gSet_e, ↓DL.gTup_e, ↓DL.gsCons_e, DL.gcB_ok, ↓DL.gsNil_e, ↓DL.seq_st, DL.sq_nx, DL.sq_rt, DL.sq_bk, DL.sq_ct, ↓DL.if_st, DL.ifB_y, DL.ifB_n, ↓DL.set_st, DL.stB_ok, ↓DL.ret_st, DL.rtB_ok, ↓DL.seto_st, DL.soB_ok, ↓DL.for_st', DL.frB_ok, DL.forD_nil, ↓DL.expr_st, DL.exB_ok, ↓DL.skip_st, ↓DL.retN_st, ↓DL.brk_st, ↓DL.call_st, DL.clB_ok, ↓DL.callE_st, DL.clE_ok, DL.R_at_ok, ↓DL.callIO_st, DL.ciB_ok, DL.ciC_ok, DL.ciD_ok, ↓DL.par_st, DL.psB_ok, ↓DL.asg_st, DL.asB1_ok, DL.asB2_ok, ↓DL.aug_st, DL.agB_ok, DL.agC_ok, ↓DL.app_st, DL.apS_ok, ↓DL.itm_st, DL.imB_ok, DL.imC_ok, ↓DL.rvs_st, DL.rvB_ok, ↓DL.retO_st, DL.roB_own, DL.roB_sh, ↓DL.frz_st, ↓DL.frzS_st, DL.fzB_own, DL.fzB_sh, DL.fzB_un, ↓DL.itR1_st, DL.r1B_ok, DL.rg1_ok, DL.rg2_ok, DL.tn_add1, DL.tn_succ, DL.tn_nat, DL.tn_pred, DL.tn_sub, DL.len0, DL.len1, DL.len2, DL.len3, DL.len4, DL.gSh_eq, DL.gAny_eq, DL.gS_sh, DL.gA_sh, DL.gA_own, DL.gA_io, DL.ownL_eq, DL.oL_own, DL.oL_io, DL.put_own, DL.put_io, DL.ofO_some, DL.tru_bl, DL.tru_int, DL.tru_lst, DL.len_tx, DL.len_lst, DL.len_tup, DL.ix_tx, DL.ix_lst, DL.ix_tup, DL.sl_tx, DL.sl_lst, DL.sl_tup, DL.plus_tx, DL.plus_int, DL.plus_lst, DL.plus_tup, DL.cat_lst, DL.rep_lst1, DL.zD_tx, DL.zD_lst, DL.zD_tup, DL.rev_tx, DL.en_tx, DL.tup_lst, DL.lst_tup, DL.isi_tx, DL.isi_int, DL.isi_intb, DL.isi_tt, DL.isi_lt, DL.isi_int_tl, DL.isi_non_tl, DL.isi_tup_tl, DL.isi_tup_l, DL.isi_int_s, DL.isi_non_s, DL.eq_bl, DL.ne_bl, DL.eq_non, DL.isn_i, DL.isn_n, DL.sub_int', DL.add_ip, DL.sub_ip, DL.mul_int', DL.lt_int, DL.gt_int, DL.ge_int, DL.le_int, DL.eq_int, DL.ne_int, DL.eq_tx, DL.ne_tx, DL.isn_int, DL.isn_non, DL.isb, DL.neg_int, DL.int_int, DL.atI_nat, DL.atI_zero, DL.atI_one, DL.atI_two, DL.atI_three, DL.atI_succ, DL.atI_last, DL.cut_to, DL.cut_from, DL.cut_both, DL.cut_butlast, DL.sum_nl, DL.sum_nt, DL.mul_tx1, DL.mul_tup, List.getElem?_cons_zero, List.getElem?_cons_succ, List.set_cons_zero, List.set_cons_succ, List.length_cons, List.length_nil, List.map_nil, List.length_map, List.cons.injEq, and_true, eq_self, decide_true, decide_false, Bool.not_true, Bool.not_false, Option.map_some, Int.reduceLT, Int.reduceLE, Int.reduceAdd, Int.reduceSub, Int.reduceMul, Int.reduceNeg, Int.reduceEq, Nat.reduceAdd, Nat.reduceSub, check_film_ok hF, check_film_ok hg, check_rank_ok, counts_eval hF hg, e2, e3, List.drop_zero, tb, h']
theorem ltL_irr : ∀ a : List Nat, ¬ ltL a a
  | [], h => h
  | x :: xs, h => by
    rcases h with h | ⟨_, h⟩
    · omega
    · exact ltL_irr xs h
theorem index_ok {F g es : List Nat} (h : es ∈ E F g 0) : indexLD ((E F g 0).map fun l => tn l) [tn es] = some (ni (rk F g 0 es)) := by
  have h0 := h
  rw [E_eq] at h
  obtain ⟨j, hj, e⟩ := List.mem_map.mp h
  have hj := List.mem_range.mp hj
  have hrk := (at_ok F g 0 j (Nat.zero_le _) (by rw [List.drop_zero]; exact hj)).2.1
  have hlen : (E F g 0).length = W g F := by rw [E_eq]; simp
  have hget : ∀ m (hm : m < W g F), ((E F g 0).map fun l => tn l)[m]'(by rw [List.length_map]; omega) = tn (at_ F g 0 m) := fun m hm => by
    rw [List.getElem_map]
    congr 2
    have := E_get F g 0 m (Nat.zero_le _) (by rw [List.drop_zero]; exact hm)
    rw [List.getElem?_eq_getElem (by omega)] at this
    exact Option.some.inj this
  have hf : ((E F g 0).map fun l => tn l).findIdx? (fun y => eqPy y (tn es)) = some j := by
    rw [List.findIdx?_eq_some_iff_getElem]
    refine ⟨by rw [List.length_map]; omega, ?_, fun m hm => ?_⟩
    · rw [hget j hj, e, eqPy_ints]
      simp
    · rw [hget m (by omega), eqPy_ints]
      have := at_mono F g 0 m j (Nat.zero_le _) hm (by rw [List.drop_zero]; exact hj)
      simp only [decide_eq_true_eq]
      intro z
      rw [e, z] at this
      exact ltL_irr _ this
  unfold indexLD
  simp only [shp_tups, shp_ints, Bool.and_self, if_true, hf, Option.map_some]
  rw [← e, hrk]
theorem in_ok (es : List Nat) (L : List (List Nat)) : inB false (tn es) (.lst (L.map fun l => tn l)) = some (.bl (decide (es ∈ L))) := by
  have h1 : flatD (tn es) = false := rfl
  have h2 : (L.map fun l => tn l).any (fun y => eqPy y (tn es)) = decide (es ∈ L) := by
    rw [Bool.eq_iff_iff, List.any_eq_true, decide_eq_true_eq]
    constructor
    · rintro ⟨x, hx, e⟩
      obtain ⟨l, hl, ex⟩ := List.mem_map.mp hx
      subst ex
      rw [eqPy_ints, decide_eq_true_eq] at e
      rw [← e]
      exact hl
    · intro h
      exact ⟨tn es, List.mem_map.mpr ⟨es, h, rfl⟩, by rw [eqPy_ints]; simp⟩
  unfold inB inD
  simp only [h1, shp_tups, shp_ints, Bool.and_self, Bool.false_and, if_true, Bool.false_eq_true, if_false, h2, Option.map_some]
theorem film_rep {n : Nat} (h : n < 200) : Film (List.replicate (n + 1) 97) := by
  refine ⟨by simp [List.replicate_succ], by rw [List.length_replicate]; omega, fun c hc => ?_⟩
  rw [(List.mem_replicate.mp hc).2]
  omega
end LW

namespace LW
open PySem DL PT
abbrev EL (sc : D) (row : List D) (x2 x3 x4 x5 x6 x7 x8 x9 x10 x11 x12 : Slot) : DL.Env := [.sh sc, .own (.lst row), x2, x3, x4, x5, x6, x7, x8, x9, x10, x11, x12]
theorem ways_loop (sc : D) (row : List D) (x2 x3 x4 x5 x6 x10 x11 x12 : Slot) (n k : Nat) (hk : k ≤ n) (hn : n < 200) : ∃ y10, forD (gSet 10) (setS 9 (withEnv (bin fdivD (bin mulD (gAny 9) (bin subD (bin subD (gAny 7) (kc (.int 1))) (gAny 10))) (bin plusD (gAny 10) (kc (.int 1)))))) (rngL 0 k)
    (EL sc row x2 x3 x4 x5 x6 (.sh (ni (n + 1))) (.sh (ni (k + 1))) (.sh (.int 1)) x10 x11 x12) = .ok (.nx (EL sc row x2 x3 x4 x5 x6 (.sh (ni (n + 1))) (.sh (ni (k + 1))) (.sh (ni (ch n k))) y10 x11 x12)) := by
  obtain ⟨r', e, y10, er⟩ := for_inv (g := gSet 10) (b := setS 9 (withEnv (bin fdivD (bin mulD (gAny 9) (bin subD (bin subD (gAny 7) (kc (.int 1))) (gAny 10))) (bin plusD (gAny 10) (kc (.int 1)))))) (items := rngL 0 k)
    (r := EL sc row x2 x3 x4 x5 x6 (.sh (ni (n + 1))) (.sh (ni (k + 1))) (.sh (.int 1)) x10 x11 x12)
    (fun i r => ∃ y10, r = EL sc row x2 x3 x4 x5 x6 (.sh (ni (n + 1))) (.sh (ni (k + 1))) (.sh (ni (ch n i))) y10 x11 x12) ⟨x10, by rw [ch_zero]; rfl⟩ (fun i x r e hI => by
      obtain ⟨y10, er⟩ := hI
      obtain ⟨hi, ex⟩ := rng_get 0 k i x e
      rw [Int.zero_add] at ex
      subst er ex
      have e1 : ((n + 1 : Nat) : Int) - 1 - (i : Int) = ((n - i : Nat) : Int) := by omega
      have e2 : ((ch n i : Nat) : Int) * ((n - i : Nat) : Int) / ((i : Int) + 1) = ((ch n (i + 1) : Nat) : Int) := by
        rw [← ch_step (show i ≤ n by omega), Int.natCast_ediv, Int.natCast_mul]
        rfl
      have e3 : fdivD (.int (((ch n i : Nat) : Int) * ((n - i : Nat) : Int))) (.int ((i : Int) + 1)) = some (ni (ch n (i + 1))) := by
        rw [fdiv_int' (by omega), e2]
      refine ⟨EL sc row x2 x3 x4 x5 x6 (.sh (ni (n + 1))) (.sh (ni (k + 1))) (.sh (ni (ch n i))) (.sh (ni i)) x11 x12, EL sc row x2 x3 x4 x5 x6 (.sh (ni (n + 1))) (.sh (ni (k + 1))) (.sh (ni (ch n (i + 1)))) (.sh (ni i)) x11 x12, rfl, ?_, _, rfl⟩
      simp (disch := first | omega | (simp; done) | (simp; omega)) only [↓DL.we_e, DL.weB_ok, ↓DL.ts_e, DL.tsB_ok, ↓DL.tsE_e, DL.tsE_ok, DL.prB_ok, ↓DL.tr_e, DL.trB_ok, ↓DL.trE_e, DL.trE_ok, ↓DL.bn_e, DL.bnB_ok, ↓DL.bnE_e, DL.bnE_ok, DL.bnE2_ok, ↓DL.ap_e, DL.apB_ok, ↓DL.itN_e, ↓DL.apE_e, DL.apE_ok, ↓DL.itX_e, DL.apX_ok, ↓DL.un1_e, ↓DL.aNil_e, ↓DL.aCons_e, DL.acB_ok, ↓DL.aConsE_e, DL.acE_ok, DL.acE2_ok, ↓DL.kc_e, ↓DL.notB_e, DL.ntB_ok, ↓DL.notV_e, DL.ntV_ok, ↓DL.notE_e, DL.ntE_ok, ↓DL.andB_e, DL.anB_t, DL.anB_f, ↓DL.orB_e, DL.orB_t, DL.orB_f, ↓DL.andV_e, DL.anV_t, DL.anV_f, ↓DL.orV_e, DL.roV_t, DL.roV_f, ↓DL.ifV_e, DL.ivB_t, DL.ivB_f, ↓DL.ifVE_e, DL.ivE_t, DL.ivE_f, ↓DL.andE_e, DL.anE_t, DL.anE_f, ↓DL.orE_e, DL.roE_t, DL.roE_f, ↓DL.chn_e, DL.chB_ok, DL.chB2_t, DL.chB2_f, ↓DL.oNone_e, ↓DL.oSome_e, DL.osB_ok, ↓DL.sl3_e, DL.s3B_ok, ↓DL.mthV_e, DL.mvB_tx, ↓DL.mthL_e, DL.mlB_ok, ↓DL.mkT_e, DL.mtB_ok, ↓DL.mkL_e, DL.mlB'_ok, ↓DL.mkTE_e, DL.mtE_ok, ↓DL.gSet_e, ↓DL.gTup_e, ↓DL.gsCons_e, DL.gcB_ok, ↓DL.gsNil_e, ↓DL.seq_st, DL.sq_nx, DL.sq_rt, DL.sq_bk, DL.sq_ct, ↓DL.if_st, DL.ifB_y, DL.ifB_n, ↓DL.set_st, DL.stB_ok, ↓DL.ret_st, DL.rtB_ok, ↓DL.seto_st, DL.soB_ok, ↓DL.for_st', DL.frB_ok, DL.forD_nil, ↓DL.expr_st, DL.exB_ok, ↓DL.skip_st, ↓DL.retN_st, ↓DL.brk_st, ↓DL.call_st, DL.clB_ok, ↓DL.callE_st, DL.clE_ok, DL.R_at_ok, ↓DL.callIO_st, DL.ciB_ok, DL.ciC_ok, DL.ciD_ok, ↓DL.par_st, DL.psB_ok, ↓DL.asg_st, DL.asB1_ok, DL.asB2_ok, ↓DL.aug_st, DL.agB_ok, DL.agC_ok, ↓DL.app_st, DL.apS_ok, ↓DL.itm_st, DL.imB_ok, DL.imC_ok, ↓DL.rvs_st, DL.rvB_ok, ↓DL.retO_st, DL.roB_own, DL.roB_sh, ↓DL.frz_st, ↓DL.frzS_st, DL.fzB_own, DL.fzB_sh, DL.fzB_un, ↓DL.itR1_st, DL.r1B_ok, DL.rg1_ok, DL.rg2_ok, DL.tn_add1, DL.tn_succ, DL.tn_nat, DL.tn_pred, DL.tn_sub, DL.len0, DL.len1, DL.len2, DL.len3, DL.len4, DL.gSh_eq, DL.gAny_eq, DL.gS_sh, DL.gA_sh, DL.gA_own, DL.gA_io, DL.ownL_eq, DL.oL_own, DL.oL_io, DL.put_own, DL.put_io, DL.ofO_some, DL.tru_bl, DL.tru_int, DL.tru_lst, DL.len_tx, DL.len_lst, DL.len_tup, DL.ix_tx, DL.ix_lst, DL.ix_tup, DL.sl_tx, DL.sl_lst, DL.sl_tup, DL.plus_tx, DL.plus_int, DL.plus_lst, DL.plus_tup, DL.cat_lst, DL.rep_lst1, DL.zD_tx, DL.zD_lst, DL.zD_tup, DL.rev_tx, DL.en_tx, DL.tup_lst, DL.lst_tup, DL.isi_tx, DL.isi_int, DL.isi_intb, DL.isi_tt, DL.isi_lt, DL.isi_int_tl, DL.isi_non_tl, DL.isi_tup_tl, DL.isi_tup_l, DL.isi_int_s, DL.isi_non_s, DL.eq_bl, DL.ne_bl, DL.eq_non, DL.isn_i, DL.isn_n, DL.sub_int', DL.add_ip, DL.sub_ip, DL.mul_int', DL.lt_int, DL.gt_int, DL.ge_int, DL.le_int, DL.eq_int, DL.ne_int, DL.eq_tx, DL.ne_tx, DL.isn_int, DL.isn_non, DL.isb, DL.neg_int, DL.int_int, DL.atI_nat, DL.atI_zero, DL.atI_one, DL.atI_two, DL.atI_three, DL.atI_succ, DL.atI_last, DL.cut_to, DL.cut_from, DL.cut_both, DL.cut_butlast, DL.sum_nl, DL.sum_nt, DL.mul_tx1, DL.mul_tup, List.getElem?_cons_zero, List.getElem?_cons_succ, List.set_cons_zero, List.set_cons_succ, List.length_cons, List.length_nil, List.map_nil, List.length_map, List.cons.injEq, and_true, eq_self, decide_true, decide_false, Bool.not_true, Bool.not_false, Option.map_some, Int.reduceLT, Int.reduceLE, Int.reduceAdd, Int.reduceSub, Int.reduceMul, Int.reduceNeg, Int.reduceEq, Nat.reduceAdd, Nat.reduceSub, e1, e3])
  rw [rngL_length] at er
  exact ⟨y10, by rw [e, er]⟩
theorem law_true (ns : List Int) (hns : ns.length ≤ 63) : F_law [.lst (ns.map D.int)] = .ok (.bl true) := by
  have hr0 : RowOk [.lst (ns.map D.int), .int 0, .int 5003, .int 0] := ⟨ns, 0, 5003, 0, hns, rfl⟩
  obtain ⟨v1, row1, e1, hr1, hv1⟩ := taken_ok (m := 3) hr0 (by decide) (by decide)
  have e1' : F__law_taken [.lst (ns.map D.int), .int 0, .int 5003, .int 0] [.int 3] = .ok (.int (v1 : Int), row1) := e1
  obtain ⟨f, row2, e2, hr2, hf1, hf2, hf3⟩ := film_ok (most := 10) (many := 1 + v1) hr1 (by decide) (by decide) (by omega) (by omega)
  have e2' : F__law_film row1 [.int 10, .int (1 + (v1 : Int))] = .ok (tx f, row2) := e2
  have hf : Film f := ⟨hf1, by omega, hf3⟩
  obtain ⟨g, row3, e3, hr3, hg1, hg2, hg3⟩ := goal_ok hr2 hf
  have hg : Film g := ⟨hg1, by omega, fun c hc => hf3 c (hg3 c hc)⟩
  have e4 := partings_ok hf hg (by omega)
  have hlen : (E f g 0).length = W g f := by rw [E_eq]; simp
  have hW : W g f ≤ 1024 := Nat.le_trans (W_le g f) (Nat.le_trans (Nat.pow_le_pow_right (by decide) hf2) (by decide))
  obtain ⟨v5, row4, e5, hr4, hv5⟩ := taken_ok (m := W g f + 2) hr3 (by omega) (by omega)
  have e5' : F__law_taken row3 [.int (((W g f : Nat) : Int) + 2)] = .ok (.int (v5 : Int), row4) := e5
  generalize hsc : D.lst (ns.map D.int) = sc at e1' hr0 ⊢
  generalize hso : D.lst ((E f g 0).map fun l => tn l) = so at e4
  have l4 : lenD [so] = some (ni (W g f)) := by rw [← hso, len_lst, List.length_map, hlen]
  -- rank
  have c7 : callF 2 (F__law_alike 5) (aCons (callF 3 F_parting_at (aCons (gSh 2) (aCons (gSh 3) (aCons (gSh 5) aNil)))) (aCons (ifV (tst (bin ltD (gAny 5) (appN lenD (aCons (gAny 4) aNil)))) (bin ixD (gAny 4) (gAny 5)) (kc .non)) aNil)) (EL sc row4 (.sh (tx f)) (.sh (tx g)) (.sh so) (.sh (ni v5)) .un .un .un .un .un .un .un) = .ok (.bl true) := by
    by_cases h : v5 < W g f
    · have a1 := parting_at_ok hf hg h
      have a2 : ixD so (ni v5) = some (tn (at_ f g 0 v5)) := by
        rw [← hso, ix_lst, atI_nat, List.getElem?_map, E_get f g 0 v5 (Nat.zero_le _) (by rw [List.drop_zero]; exact h)]
        rfl
      have a3 := alike_tup 3 (l := at_ f g 0 v5) (by rw [(at_ok f g 0 v5 (Nat.zero_le _) (by rw [List.drop_zero]; exact h)).2.2]; omega)
      have h' : (v5 : Int) < ((W g f : Nat) : Int) := by omega
      simp (disch := first | omega | (simp; done) | (simp; omega)) only [↓DL.we_e, DL.weB_ok, ↓DL.ts_e, DL.tsB_ok, ↓DL.tsE_e, DL.tsE_ok, DL.prB_ok, ↓DL.tr_e, DL.trB_ok, ↓DL.trE_e, DL.trE_ok, ↓DL.bn_e, DL.bnB_ok, ↓DL.bnE_e, DL.bnE_ok, DL.bnE2_ok, ↓DL.ap_e, DL.apB_ok, ↓DL.itN_e, ↓DL.apE_e, DL.apE_ok, ↓DL.itX_e, DL.apX_ok, ↓DL.un1_e, ↓DL.aNil_e, ↓DL.aCons_e, DL.acB_ok, ↓DL.aConsE_e, DL.acE_ok, DL.acE2_ok, ↓DL.kc_e, ↓DL.notB_e, DL.ntB_ok, ↓DL.notV_e, DL.ntV_ok, ↓DL.notE_e, DL.ntE_ok, ↓DL.andB_e, DL.anB_t, DL.anB_f, ↓DL.orB_e, DL.orB_t, DL.orB_f, ↓DL.andV_e, DL.anV_t, DL.anV_f, ↓DL.orV_e, DL.roV_t, DL.roV_f, ↓DL.ifV_e, DL.ivB_t, DL.ivB_f, ↓DL.ifVE_e, DL.ivE_t, DL.ivE_f, ↓DL.andE_e, DL.anE_t, DL.anE_f, ↓DL.orE_e, DL.roE_t, DL.roE_f, ↓DL.chn_e, DL.chB_ok, DL.chB2_t, DL.chB2_f, ↓DL.oNone_e, ↓DL.oSome_e, DL.osB_ok, ↓DL.sl3_e, DL.s3B_ok, ↓DL.mthV_e, DL.mvB_tx, ↓DL.mthL_e, DL.mlB_ok, ↓DL.mkT_e, DL.mtB_ok, ↓DL.mkL_e, DL.mlB'_ok, ↓DL.mkTE_e, DL.mtE_ok, ↓DL.gSet_e, ↓DL.gTup_e, ↓DL.gsCons_e, DL.gcB_ok, ↓DL.gsNil_e, ↓DL.seq_st, DL.sq_nx, DL.sq_rt, DL.sq_bk, DL.sq_ct, ↓DL.if_st, DL.ifB_y, DL.ifB_n, ↓DL.set_st, DL.stB_ok, ↓DL.ret_st, DL.rtB_ok, ↓DL.seto_st, DL.soB_ok, ↓DL.for_st', DL.frB_ok, DL.forD_nil, ↓DL.expr_st, DL.exB_ok, ↓DL.skip_st, ↓DL.retN_st, ↓DL.brk_st, ↓DL.call_st, DL.clB_ok, ↓DL.callE_st, DL.clE_ok, DL.R_at_ok, ↓DL.callIO_st, DL.ciB_ok, DL.ciC_ok, DL.ciD_ok, ↓DL.par_st, DL.psB_ok, ↓DL.asg_st, DL.asB1_ok, DL.asB2_ok, ↓DL.aug_st, DL.agB_ok, DL.agC_ok, ↓DL.app_st, DL.apS_ok, ↓DL.itm_st, DL.imB_ok, DL.imC_ok, ↓DL.rvs_st, DL.rvB_ok, ↓DL.retO_st, DL.roB_own, DL.roB_sh, ↓DL.frz_st, ↓DL.frzS_st, DL.fzB_own, DL.fzB_sh, DL.fzB_un, ↓DL.itR1_st, DL.r1B_ok, DL.rg1_ok, DL.rg2_ok, DL.tn_add1, DL.tn_succ, DL.tn_nat, DL.tn_pred, DL.tn_sub, DL.len0, DL.len1, DL.len2, DL.len3, DL.len4, DL.gSh_eq, DL.gAny_eq, DL.gS_sh, DL.gA_sh, DL.gA_own, DL.gA_io, DL.ownL_eq, DL.oL_own, DL.oL_io, DL.put_own, DL.put_io, DL.ofO_some, DL.tru_bl, DL.tru_int, DL.tru_lst, DL.len_tx, DL.len_lst, DL.len_tup, DL.ix_tx, DL.ix_lst, DL.ix_tup, DL.sl_tx, DL.sl_lst, DL.sl_tup, DL.plus_tx, DL.plus_int, DL.plus_lst, DL.plus_tup, DL.cat_lst, DL.rep_lst1, DL.zD_tx, DL.zD_lst, DL.zD_tup, DL.rev_tx, DL.en_tx, DL.tup_lst, DL.lst_tup, DL.isi_tx, DL.isi_int, DL.isi_intb, DL.isi_tt, DL.isi_lt, DL.isi_int_tl, DL.isi_non_tl, DL.isi_tup_tl, DL.isi_tup_l, DL.isi_int_s, DL.isi_non_s, DL.eq_bl, DL.ne_bl, DL.eq_non, DL.isn_i, DL.isn_n, DL.sub_int', DL.add_ip, DL.sub_ip, DL.mul_int', DL.lt_int, DL.gt_int, DL.ge_int, DL.le_int, DL.eq_int, DL.ne_int, DL.eq_tx, DL.ne_tx, DL.isn_int, DL.isn_non, DL.isb, DL.neg_int, DL.int_int, DL.atI_nat, DL.atI_zero, DL.atI_one, DL.atI_two, DL.atI_three, DL.atI_succ, DL.atI_last, DL.cut_to, DL.cut_from, DL.cut_both, DL.cut_butlast, DL.sum_nl, DL.sum_nt, DL.mul_tx1, DL.mul_tup, List.getElem?_cons_zero, List.getElem?_cons_succ, List.set_cons_zero, List.set_cons_succ, List.length_cons, List.length_nil, List.map_nil, List.length_map, List.cons.injEq, and_true, eq_self, decide_true, decide_false, Bool.not_true, Bool.not_false, Option.map_some, Int.reduceLT, Int.reduceLE, Int.reduceAdd, Int.reduceSub, Int.reduceMul, Int.reduceNeg, Int.reduceEq, Nat.reduceAdd, Nat.reduceSub, a1, a2, a3, l4, h']
    · have a1 := parting_no hf hg (Nat.le_of_not_lt h)
      have a3 := alike_non 4
      have h' : ¬ (v5 : Int) < ((W g f : Nat) : Int) := by omega
      simp (disch := first | omega | (simp; done) | (simp; omega)) only [↓DL.we_e, DL.weB_ok, ↓DL.ts_e, DL.tsB_ok, ↓DL.tsE_e, DL.tsE_ok, DL.prB_ok, ↓DL.tr_e, DL.trB_ok, ↓DL.trE_e, DL.trE_ok, ↓DL.bn_e, DL.bnB_ok, ↓DL.bnE_e, DL.bnE_ok, DL.bnE2_ok, ↓DL.ap_e, DL.apB_ok, ↓DL.itN_e, ↓DL.apE_e, DL.apE_ok, ↓DL.itX_e, DL.apX_ok, ↓DL.un1_e, ↓DL.aNil_e, ↓DL.aCons_e, DL.acB_ok, ↓DL.aConsE_e, DL.acE_ok, DL.acE2_ok, ↓DL.kc_e, ↓DL.notB_e, DL.ntB_ok, ↓DL.notV_e, DL.ntV_ok, ↓DL.notE_e, DL.ntE_ok, ↓DL.andB_e, DL.anB_t, DL.anB_f, ↓DL.orB_e, DL.orB_t, DL.orB_f, ↓DL.andV_e, DL.anV_t, DL.anV_f, ↓DL.orV_e, DL.roV_t, DL.roV_f, ↓DL.ifV_e, DL.ivB_t, DL.ivB_f, ↓DL.ifVE_e, DL.ivE_t, DL.ivE_f, ↓DL.andE_e, DL.anE_t, DL.anE_f, ↓DL.orE_e, DL.roE_t, DL.roE_f, ↓DL.chn_e, DL.chB_ok, DL.chB2_t, DL.chB2_f, ↓DL.oNone_e, ↓DL.oSome_e, DL.osB_ok, ↓DL.sl3_e, DL.s3B_ok, ↓DL.mthV_e, DL.mvB_tx, ↓DL.mthL_e, DL.mlB_ok, ↓DL.mkT_e, DL.mtB_ok, ↓DL.mkL_e, DL.mlB'_ok, ↓DL.mkTE_e, DL.mtE_ok, ↓DL.gSet_e, ↓DL.gTup_e, ↓DL.gsCons_e, DL.gcB_ok, ↓DL.gsNil_e, ↓DL.seq_st, DL.sq_nx, DL.sq_rt, DL.sq_bk, DL.sq_ct, ↓DL.if_st, DL.ifB_y, DL.ifB_n, ↓DL.set_st, DL.stB_ok, ↓DL.ret_st, DL.rtB_ok, ↓DL.seto_st, DL.soB_ok, ↓DL.for_st', DL.frB_ok, DL.forD_nil, ↓DL.expr_st, DL.exB_ok, ↓DL.skip_st, ↓DL.retN_st, ↓DL.brk_st, ↓DL.call_st, DL.clB_ok, ↓DL.callE_st, DL.clE_ok, DL.R_at_ok, ↓DL.callIO_st, DL.ciB_ok, DL.ciC_ok, DL.ciD_ok, ↓DL.par_st, DL.psB_ok, ↓DL.asg_st, DL.asB1_ok, DL.asB2_ok, ↓DL.aug_st, DL.agB_ok, DL.agC_ok, ↓DL.app_st, DL.apS_ok, ↓DL.itm_st, DL.imB_ok, DL.imC_ok, ↓DL.rvs_st, DL.rvB_ok, ↓DL.retO_st, DL.roB_own, DL.roB_sh, ↓DL.frz_st, ↓DL.frzS_st, DL.fzB_own, DL.fzB_sh, DL.fzB_un, ↓DL.itR1_st, DL.r1B_ok, DL.rg1_ok, DL.rg2_ok, DL.tn_add1, DL.tn_succ, DL.tn_nat, DL.tn_pred, DL.tn_sub, DL.len0, DL.len1, DL.len2, DL.len3, DL.len4, DL.gSh_eq, DL.gAny_eq, DL.gS_sh, DL.gA_sh, DL.gA_own, DL.gA_io, DL.ownL_eq, DL.oL_own, DL.oL_io, DL.put_own, DL.put_io, DL.ofO_some, DL.tru_bl, DL.tru_int, DL.tru_lst, DL.len_tx, DL.len_lst, DL.len_tup, DL.ix_tx, DL.ix_lst, DL.ix_tup, DL.sl_tx, DL.sl_lst, DL.sl_tup, DL.plus_tx, DL.plus_int, DL.plus_lst, DL.plus_tup, DL.cat_lst, DL.rep_lst1, DL.zD_tx, DL.zD_lst, DL.zD_tup, DL.rev_tx, DL.en_tx, DL.tup_lst, DL.lst_tup, DL.isi_tx, DL.isi_int, DL.isi_intb, DL.isi_tt, DL.isi_lt, DL.isi_int_tl, DL.isi_non_tl, DL.isi_tup_tl, DL.isi_tup_l, DL.isi_int_s, DL.isi_non_s, DL.eq_bl, DL.ne_bl, DL.eq_non, DL.isn_i, DL.isn_n, DL.sub_int', DL.add_ip, DL.sub_ip, DL.mul_int', DL.lt_int, DL.gt_int, DL.ge_int, DL.le_int, DL.eq_int, DL.ne_int, DL.eq_tx, DL.ne_tx, DL.isn_int, DL.isn_non, DL.isb, DL.neg_int, DL.int_int, DL.atI_nat, DL.atI_zero, DL.atI_one, DL.atI_two, DL.atI_three, DL.atI_succ, DL.atI_last, DL.cut_to, DL.cut_from, DL.cut_both, DL.cut_butlast, DL.sum_nl, DL.sum_nt, DL.mul_tx1, DL.mul_tup, List.getElem?_cons_zero, List.getElem?_cons_succ, List.set_cons_zero, List.set_cons_succ, List.length_cons, List.length_nil, List.map_nil, List.length_map, List.cons.injEq, and_true, eq_self, decide_true, decide_false, Bool.not_true, Bool.not_false, Option.map_some, Int.reduceLT, Int.reduceLE, Int.reduceAdd, Int.reduceSub, Int.reduceMul, Int.reduceNeg, Int.reduceEq, Nat.reduceAdd, Nat.reduceSub, a1, a3, l4, h']
  -- value
  obtain ⟨es, row5, hr5, hes, c8, hin⟩ : ∃ es row5, RowOk row5 ∧ es.length = g.length ∧ ifVE (withEnv (tst (bin neD (gAny 4) (mkL aNil)))) (callIO 1 1 F__law_pick (withEnv (aCons (gSh 4) aNil))) (withEnv (bin mulTD (mkT (aCons (kc (.int 0)) aNil)) (appN lenD (aCons (gAny 3) aNil)))) (EL sc row4 (.sh (tx f)) (.sh (tx g)) (.sh so) (.sh (ni v5)) .un .un .un .un .un .un .un) = .ok (tn es, EL sc row5 (.sh (tx f)) (.sh (tx g)) (.sh so) (.sh (ni v5)) .un .un .un .un .un .un .un) ∧ (es ∈ E f g 0 ∨ E f g 0 = []) := by
    have n1 : neD so (.lst []) = some (.bl (!(E f g 0).isEmpty)) := by
      rw [← hso, ne_nil' (shp_tups _)]
      congr 3
      cases E f g 0 <;> rfl
    by_cases h : E f g 0 = []
    · have hg0 : 1 ≤ g.length := List.length_pos_iff.mpr hg1
      have hg20 : g.length ≤ 1000 := by omega
      have n2 : (E f g 0).isEmpty = true := by rw [h]; rfl
      have t1 : D.tup (List.replicate g.length (.int 0)) = tn (List.replicate g.length 0) := by simp
      refine ⟨List.replicate g.length 0, row4, hr4, by simp, ?_, .inr h⟩
      simp (disch := first | omega | (simp; done) | (simp; omega)) only [↓DL.we_e, DL.weB_ok, ↓DL.ts_e, DL.tsB_ok, ↓DL.tsE_e, DL.tsE_ok, DL.prB_ok, ↓DL.tr_e, DL.trB_ok, ↓DL.trE_e, DL.trE_ok, ↓DL.bn_e, DL.bnB_ok, ↓DL.bnE_e, DL.bnE_ok, DL.bnE2_ok, ↓DL.ap_e, DL.apB_ok, ↓DL.itN_e, ↓DL.apE_e, DL.apE_ok, ↓DL.itX_e, DL.apX_ok, ↓DL.un1_e, ↓DL.aNil_e, ↓DL.aCons_e, DL.acB_ok, ↓DL.aConsE_e, DL.acE_ok, DL.acE2_ok, ↓DL.kc_e, ↓DL.notB_e, DL.ntB_ok, ↓DL.notV_e, DL.ntV_ok, ↓DL.notE_e, DL.ntE_ok, ↓DL.andB_e, DL.anB_t, DL.anB_f, ↓DL.orB_e, DL.orB_t, DL.orB_f, ↓DL.andV_e, DL.anV_t, DL.anV_f, ↓DL.orV_e, DL.roV_t, DL.roV_f, ↓DL.ifV_e, DL.ivB_t, DL.ivB_f, ↓DL.ifVE_e, DL.ivE_t, DL.ivE_f, ↓DL.andE_e, DL.anE_t, DL.anE_f, ↓DL.orE_e, DL.roE_t, DL.roE_f, ↓DL.chn_e, DL.chB_ok, DL.chB2_t, DL.chB2_f, ↓DL.oNone_e, ↓DL.oSome_e, DL.osB_ok, ↓DL.sl3_e, DL.s3B_ok, ↓DL.mthV_e, DL.mvB_tx, ↓DL.mthL_e, DL.mlB_ok, ↓DL.mkT_e, DL.mtB_ok, ↓DL.mkL_e, DL.mlB'_ok, ↓DL.mkTE_e, DL.mtE_ok, ↓DL.gSet_e, ↓DL.gTup_e, ↓DL.gsCons_e, DL.gcB_ok, ↓DL.gsNil_e, ↓DL.seq_st, DL.sq_nx, DL.sq_rt, DL.sq_bk, DL.sq_ct, ↓DL.if_st, DL.ifB_y, DL.ifB_n, ↓DL.set_st, DL.stB_ok, ↓DL.ret_st, DL.rtB_ok, ↓DL.seto_st, DL.soB_ok, ↓DL.for_st', DL.frB_ok, DL.forD_nil, ↓DL.expr_st, DL.exB_ok, ↓DL.skip_st, ↓DL.retN_st, ↓DL.brk_st, ↓DL.call_st, DL.clB_ok, ↓DL.callE_st, DL.clE_ok, DL.R_at_ok, ↓DL.callIO_st, DL.ciB_ok, DL.ciC_ok, DL.ciD_ok, ↓DL.par_st, DL.psB_ok, ↓DL.asg_st, DL.asB1_ok, DL.asB2_ok, ↓DL.aug_st, DL.agB_ok, DL.agC_ok, ↓DL.app_st, DL.apS_ok, ↓DL.itm_st, DL.imB_ok, DL.imC_ok, ↓DL.rvs_st, DL.rvB_ok, ↓DL.retO_st, DL.roB_own, DL.roB_sh, ↓DL.frz_st, ↓DL.frzS_st, DL.fzB_own, DL.fzB_sh, DL.fzB_un, ↓DL.itR1_st, DL.r1B_ok, DL.rg1_ok, DL.rg2_ok, DL.tn_add1, DL.tn_succ, DL.tn_nat, DL.tn_pred, DL.tn_sub, DL.len0, DL.len1, DL.len2, DL.len3, DL.len4, DL.gSh_eq, DL.gAny_eq, DL.gS_sh, DL.gA_sh, DL.gA_own, DL.gA_io, DL.ownL_eq, DL.oL_own, DL.oL_io, DL.put_own, DL.put_io, DL.ofO_some, DL.tru_bl, DL.tru_int, DL.tru_lst, DL.len_tx, DL.len_lst, DL.len_tup, DL.ix_tx, DL.ix_lst, DL.ix_tup, DL.sl_tx, DL.sl_lst, DL.sl_tup, DL.plus_tx, DL.plus_int, DL.plus_lst, DL.plus_tup, DL.cat_lst, DL.rep_lst1, DL.zD_tx, DL.zD_lst, DL.zD_tup, DL.rev_tx, DL.en_tx, DL.tup_lst, DL.lst_tup, DL.isi_tx, DL.isi_int, DL.isi_intb, DL.isi_tt, DL.isi_lt, DL.isi_int_tl, DL.isi_non_tl, DL.isi_tup_tl, DL.isi_tup_l, DL.isi_int_s, DL.isi_non_s, DL.eq_bl, DL.ne_bl, DL.eq_non, DL.isn_i, DL.isn_n, DL.sub_int', DL.add_ip, DL.sub_ip, DL.mul_int', DL.lt_int, DL.gt_int, DL.ge_int, DL.le_int, DL.eq_int, DL.ne_int, DL.eq_tx, DL.ne_tx, DL.isn_int, DL.isn_non, DL.isb, DL.neg_int, DL.int_int, DL.atI_nat, DL.atI_zero, DL.atI_one, DL.atI_two, DL.atI_three, DL.atI_succ, DL.atI_last, DL.cut_to, DL.cut_from, DL.cut_both, DL.cut_butlast, DL.sum_nl, DL.sum_nt, DL.mul_tx1, DL.mul_tup, List.getElem?_cons_zero, List.getElem?_cons_succ, List.set_cons_zero, List.set_cons_succ, List.length_cons, List.length_nil, List.map_nil, List.length_map, List.cons.injEq, and_true, eq_self, decide_true, decide_false, Bool.not_true, Bool.not_false, Option.map_some, Int.reduceLT, Int.reduceLE, Int.reduceAdd, Int.reduceSub, Int.reduceMul, Int.reduceNeg, Int.reduceEq, Nat.reduceAdd, Nat.reduceSub, n1, n2, t1]
    · have n2 : (E f g 0).isEmpty = false := by cases q : E f g 0 with | nil => exact absurd q h | cons _ _ => rfl
      obtain ⟨d, row5, p1, hr5, p2⟩ := pick_ok (xs := (E f g 0).map fun l => tn l) hr4 (by simpa using h) (by rw [List.length_map]; omega)
      obtain ⟨es, hes, ed⟩ := List.mem_map.mp p2
      subst ed
      rw [hso] at p1
      refine ⟨es, row5, hr5, (E_isP hes).2, ?_, .inl hes⟩
      simp (disch := first | omega | (simp; done) | (simp; omega)) only [↓DL.we_e, DL.weB_ok, ↓DL.ts_e, DL.tsB_ok, ↓DL.tsE_e, DL.tsE_ok, DL.prB_ok, ↓DL.tr_e, DL.trB_ok, ↓DL.trE_e, DL.trE_ok, ↓DL.bn_e, DL.bnB_ok, ↓DL.bnE_e, DL.bnE_ok, DL.bnE2_ok, ↓DL.ap_e, DL.apB_ok, ↓DL.itN_e, ↓DL.apE_e, DL.apE_ok, ↓DL.itX_e, DL.apX_ok, ↓DL.un1_e, ↓DL.aNil_e, ↓DL.aCons_e, DL.acB_ok, ↓DL.aConsE_e, DL.acE_ok, DL.acE2_ok, ↓DL.kc_e, ↓DL.notB_e, DL.ntB_ok, ↓DL.notV_e, DL.ntV_ok, ↓DL.notE_e, DL.ntE_ok, ↓DL.andB_e, DL.anB_t, DL.anB_f, ↓DL.orB_e, DL.orB_t, DL.orB_f, ↓DL.andV_e, DL.anV_t, DL.anV_f, ↓DL.orV_e, DL.roV_t, DL.roV_f, ↓DL.ifV_e, DL.ivB_t, DL.ivB_f, ↓DL.ifVE_e, DL.ivE_t, DL.ivE_f, ↓DL.andE_e, DL.anE_t, DL.anE_f, ↓DL.orE_e, DL.roE_t, DL.roE_f, ↓DL.chn_e, DL.chB_ok, DL.chB2_t, DL.chB2_f, ↓DL.oNone_e, ↓DL.oSome_e, DL.osB_ok, ↓DL.sl3_e, DL.s3B_ok, ↓DL.mthV_e, DL.mvB_tx, ↓DL.mthL_e, DL.mlB_ok, ↓DL.mkT_e, DL.mtB_ok, ↓DL.mkL_e, DL.mlB'_ok, ↓DL.mkTE_e, DL.mtE_ok, ↓DL.gSet_e, ↓DL.gTup_e, ↓DL.gsCons_e, DL.gcB_ok, ↓DL.gsNil_e, ↓DL.seq_st, DL.sq_nx, DL.sq_rt, DL.sq_bk, DL.sq_ct, ↓DL.if_st, DL.ifB_y, DL.ifB_n, ↓DL.set_st, DL.stB_ok, ↓DL.ret_st, DL.rtB_ok, ↓DL.seto_st, DL.soB_ok, ↓DL.for_st', DL.frB_ok, DL.forD_nil, ↓DL.expr_st, DL.exB_ok, ↓DL.skip_st, ↓DL.retN_st, ↓DL.brk_st, ↓DL.call_st, DL.clB_ok, ↓DL.callE_st, DL.clE_ok, DL.R_at_ok, ↓DL.callIO_st, DL.ciB_ok, DL.ciC_ok, DL.ciD_ok, ↓DL.par_st, DL.psB_ok, ↓DL.asg_st, DL.asB1_ok, DL.asB2_ok, ↓DL.aug_st, DL.agB_ok, DL.agC_ok, ↓DL.app_st, DL.apS_ok, ↓DL.itm_st, DL.imB_ok, DL.imC_ok, ↓DL.rvs_st, DL.rvB_ok, ↓DL.retO_st, DL.roB_own, DL.roB_sh, ↓DL.frz_st, ↓DL.frzS_st, DL.fzB_own, DL.fzB_sh, DL.fzB_un, ↓DL.itR1_st, DL.r1B_ok, DL.rg1_ok, DL.rg2_ok, DL.tn_add1, DL.tn_succ, DL.tn_nat, DL.tn_pred, DL.tn_sub, DL.len0, DL.len1, DL.len2, DL.len3, DL.len4, DL.gSh_eq, DL.gAny_eq, DL.gS_sh, DL.gA_sh, DL.gA_own, DL.gA_io, DL.ownL_eq, DL.oL_own, DL.oL_io, DL.put_own, DL.put_io, DL.ofO_some, DL.tru_bl, DL.tru_int, DL.tru_lst, DL.len_tx, DL.len_lst, DL.len_tup, DL.ix_tx, DL.ix_lst, DL.ix_tup, DL.sl_tx, DL.sl_lst, DL.sl_tup, DL.plus_tx, DL.plus_int, DL.plus_lst, DL.plus_tup, DL.cat_lst, DL.rep_lst1, DL.zD_tx, DL.zD_lst, DL.zD_tup, DL.rev_tx, DL.en_tx, DL.tup_lst, DL.lst_tup, DL.isi_tx, DL.isi_int, DL.isi_intb, DL.isi_tt, DL.isi_lt, DL.isi_int_tl, DL.isi_non_tl, DL.isi_tup_tl, DL.isi_tup_l, DL.isi_int_s, DL.isi_non_s, DL.eq_bl, DL.ne_bl, DL.eq_non, DL.isn_i, DL.isn_n, DL.sub_int', DL.add_ip, DL.sub_ip, DL.mul_int', DL.lt_int, DL.gt_int, DL.ge_int, DL.le_int, DL.eq_int, DL.ne_int, DL.eq_tx, DL.ne_tx, DL.isn_int, DL.isn_non, DL.isb, DL.neg_int, DL.int_int, DL.atI_nat, DL.atI_zero, DL.atI_one, DL.atI_two, DL.atI_three, DL.atI_succ, DL.atI_last, DL.cut_to, DL.cut_from, DL.cut_both, DL.cut_butlast, DL.sum_nl, DL.sum_nt, DL.mul_tx1, DL.mul_tup, List.getElem?_cons_zero, List.getElem?_cons_succ, List.set_cons_zero, List.set_cons_succ, List.length_cons, List.length_nil, List.map_nil, List.length_map, List.cons.injEq, and_true, eq_self, decide_true, decide_false, Bool.not_true, Bool.not_false, Option.map_some, Int.reduceLT, Int.reduceLE, Int.reduceAdd, Int.reduceSub, Int.reduceMul, Int.reduceNeg, Int.reduceEq, Nat.reduceAdd, Nat.reduceSub, n1, n2, p1]
  have c9 : callF 2 (F__law_alike 5) (aCons (callF 3 F_rank_of_parting (aCons (gSh 2) (aCons (gSh 3) (aCons (gSh 6) aNil)))) (aCons (ifV (tst (bin (inB false) (gAny 6) (gAny 4))) (mthL indexLD (gAny 4) (aCons (gAny 6) aNil)) (kc .non)) aNil)) (EL sc row5 (.sh (tx f)) (.sh (tx g)) (.sh so) (.sh (ni v5)) (.sh (tn es)) .un .un .un .un .un .un) = .ok (.bl true) := by
    have i1 : inB false (tn es) so = some (.bl (decide (es ∈ E f g 0))) := by rw [← hso]; exact in_ok _ _
    by_cases h : es ∈ E f g 0
    · have a1 := rank_ok hf hg hes (E_isP h).1
      have a2 := alike_int 4 ((rk f g 0 es : Nat) : Int)
      have a3 : mlB indexLD (.ok so) (.ok [tn es]) = .ok (ni (rk f g 0 es)) := by
        rw [← hso, mlB_ok, index_ok h, ofO_some]
      simp (disch := first | omega | (simp; done) | (simp; omega)) only [↓DL.we_e, DL.weB_ok, ↓DL.ts_e, DL.tsB_ok, ↓DL.tsE_e, DL.tsE_ok, DL.prB_ok, ↓DL.tr_e, DL.trB_ok, ↓DL.trE_e, DL.trE_ok, ↓DL.bn_e, DL.bnB_ok, ↓DL.bnE_e, DL.bnE_ok, DL.bnE2_ok, ↓DL.ap_e, DL.apB_ok, ↓DL.itN_e, ↓DL.apE_e, DL.apE_ok, ↓DL.itX_e, DL.apX_ok, ↓DL.un1_e, ↓DL.aNil_e, ↓DL.aCons_e, DL.acB_ok, ↓DL.aConsE_e, DL.acE_ok, DL.acE2_ok, ↓DL.kc_e, ↓DL.notB_e, DL.ntB_ok, ↓DL.notV_e, DL.ntV_ok, ↓DL.notE_e, DL.ntE_ok, ↓DL.andB_e, DL.anB_t, DL.anB_f, ↓DL.orB_e, DL.orB_t, DL.orB_f, ↓DL.andV_e, DL.anV_t, DL.anV_f, ↓DL.orV_e, DL.roV_t, DL.roV_f, ↓DL.ifV_e, DL.ivB_t, DL.ivB_f, ↓DL.ifVE_e, DL.ivE_t, DL.ivE_f, ↓DL.andE_e, DL.anE_t, DL.anE_f, ↓DL.orE_e, DL.roE_t, DL.roE_f, ↓DL.chn_e, DL.chB_ok, DL.chB2_t, DL.chB2_f, ↓DL.oNone_e, ↓DL.oSome_e, DL.osB_ok, ↓DL.sl3_e, DL.s3B_ok, ↓DL.mthV_e, DL.mvB_tx, ↓DL.mthL_e, DL.mlB_ok, ↓DL.mkT_e, DL.mtB_ok, ↓DL.mkL_e, DL.mlB'_ok, ↓DL.mkTE_e, DL.mtE_ok, ↓DL.gSet_e, ↓DL.gTup_e, ↓DL.gsCons_e, DL.gcB_ok, ↓DL.gsNil_e, ↓DL.seq_st, DL.sq_nx, DL.sq_rt, DL.sq_bk, DL.sq_ct, ↓DL.if_st, DL.ifB_y, DL.ifB_n, ↓DL.set_st, DL.stB_ok, ↓DL.ret_st, DL.rtB_ok, ↓DL.seto_st, DL.soB_ok, ↓DL.for_st', DL.frB_ok, DL.forD_nil, ↓DL.expr_st, DL.exB_ok, ↓DL.skip_st, ↓DL.retN_st, ↓DL.brk_st, ↓DL.call_st, DL.clB_ok, ↓DL.callE_st, DL.clE_ok, DL.R_at_ok, ↓DL.callIO_st, DL.ciB_ok, DL.ciC_ok, DL.ciD_ok, ↓DL.par_st, DL.psB_ok, ↓DL.asg_st, DL.asB1_ok, DL.asB2_ok, ↓DL.aug_st, DL.agB_ok, DL.agC_ok, ↓DL.app_st, DL.apS_ok, ↓DL.itm_st, DL.imB_ok, DL.imC_ok, ↓DL.rvs_st, DL.rvB_ok, ↓DL.retO_st, DL.roB_own, DL.roB_sh, ↓DL.frz_st, ↓DL.frzS_st, DL.fzB_own, DL.fzB_sh, DL.fzB_un, ↓DL.itR1_st, DL.r1B_ok, DL.rg1_ok, DL.rg2_ok, DL.tn_add1, DL.tn_succ, DL.tn_nat, DL.tn_pred, DL.tn_sub, DL.len0, DL.len1, DL.len2, DL.len3, DL.len4, DL.gSh_eq, DL.gAny_eq, DL.gS_sh, DL.gA_sh, DL.gA_own, DL.gA_io, DL.ownL_eq, DL.oL_own, DL.oL_io, DL.put_own, DL.put_io, DL.ofO_some, DL.tru_bl, DL.tru_int, DL.tru_lst, DL.len_tx, DL.len_lst, DL.len_tup, DL.ix_tx, DL.ix_lst, DL.ix_tup, DL.sl_tx, DL.sl_lst, DL.sl_tup, DL.plus_tx, DL.plus_int, DL.plus_lst, DL.plus_tup, DL.cat_lst, DL.rep_lst1, DL.zD_tx, DL.zD_lst, DL.zD_tup, DL.rev_tx, DL.en_tx, DL.tup_lst, DL.lst_tup, DL.isi_tx, DL.isi_int, DL.isi_intb, DL.isi_tt, DL.isi_lt, DL.isi_int_tl, DL.isi_non_tl, DL.isi_tup_tl, DL.isi_tup_l, DL.isi_int_s, DL.isi_non_s, DL.eq_bl, DL.ne_bl, DL.eq_non, DL.isn_i, DL.isn_n, DL.sub_int', DL.add_ip, DL.sub_ip, DL.mul_int', DL.lt_int, DL.gt_int, DL.ge_int, DL.le_int, DL.eq_int, DL.ne_int, DL.eq_tx, DL.ne_tx, DL.isn_int, DL.isn_non, DL.isb, DL.neg_int, DL.int_int, DL.atI_nat, DL.atI_zero, DL.atI_one, DL.atI_two, DL.atI_three, DL.atI_succ, DL.atI_last, DL.cut_to, DL.cut_from, DL.cut_both, DL.cut_butlast, DL.sum_nl, DL.sum_nt, DL.mul_tx1, DL.mul_tup, List.getElem?_cons_zero, List.getElem?_cons_succ, List.set_cons_zero, List.set_cons_succ, List.length_cons, List.length_nil, List.map_nil, List.length_map, List.cons.injEq, and_true, eq_self, decide_true, decide_false, Bool.not_true, Bool.not_false, Option.map_some, Int.reduceLT, Int.reduceLE, Int.reduceAdd, Int.reduceSub, Int.reduceMul, Int.reduceNeg, Int.reduceEq, Nat.reduceAdd, Nat.reduceSub, a1, a2, i1, h, a3]
    · have hE : E f g 0 = [] := hin.resolve_left h
      have hW0 : W g f = 0 := by rw [← hlen, hE]; rfl
      have hP : isP f g 0 es = false := by
        cases q : isP f g 0 es with
        | false => rfl
        | true =>
          have := isP_pos f g es 0 hes q
          rw [List.drop_zero] at this
          omega
      have a1 := rank_no hf hg hes hP
      have a2 := alike_non 4
      simp (disch := first | omega | (simp; done) | (simp; omega)) only [↓DL.we_e, DL.weB_ok, ↓DL.ts_e, DL.tsB_ok, ↓DL.tsE_e, DL.tsE_ok, DL.prB_ok, ↓DL.tr_e, DL.trB_ok, ↓DL.trE_e, DL.trE_ok, ↓DL.bn_e, DL.bnB_ok, ↓DL.bnE_e, DL.bnE_ok, DL.bnE2_ok, ↓DL.ap_e, DL.apB_ok, ↓DL.itN_e, ↓DL.apE_e, DL.apE_ok, ↓DL.itX_e, DL.apX_ok, ↓DL.un1_e, ↓DL.aNil_e, ↓DL.aCons_e, DL.acB_ok, ↓DL.aConsE_e, DL.acE_ok, DL.acE2_ok, ↓DL.kc_e, ↓DL.notB_e, DL.ntB_ok, ↓DL.notV_e, DL.ntV_ok, ↓DL.notE_e, DL.ntE_ok, ↓DL.andB_e, DL.anB_t, DL.anB_f, ↓DL.orB_e, DL.orB_t, DL.orB_f, ↓DL.andV_e, DL.anV_t, DL.anV_f, ↓DL.orV_e, DL.roV_t, DL.roV_f, ↓DL.ifV_e, DL.ivB_t, DL.ivB_f, ↓DL.ifVE_e, DL.ivE_t, DL.ivE_f, ↓DL.andE_e, DL.anE_t, DL.anE_f, ↓DL.orE_e, DL.roE_t, DL.roE_f, ↓DL.chn_e, DL.chB_ok, DL.chB2_t, DL.chB2_f, ↓DL.oNone_e, ↓DL.oSome_e, DL.osB_ok, ↓DL.sl3_e, DL.s3B_ok, ↓DL.mthV_e, DL.mvB_tx, ↓DL.mthL_e, DL.mlB_ok, ↓DL.mkT_e, DL.mtB_ok, ↓DL.mkL_e, DL.mlB'_ok, ↓DL.mkTE_e, DL.mtE_ok, ↓DL.gSet_e, ↓DL.gTup_e, ↓DL.gsCons_e, DL.gcB_ok, ↓DL.gsNil_e, ↓DL.seq_st, DL.sq_nx, DL.sq_rt, DL.sq_bk, DL.sq_ct, ↓DL.if_st, DL.ifB_y, DL.ifB_n, ↓DL.set_st, DL.stB_ok, ↓DL.ret_st, DL.rtB_ok, ↓DL.seto_st, DL.soB_ok, ↓DL.for_st', DL.frB_ok, DL.forD_nil, ↓DL.expr_st, DL.exB_ok, ↓DL.skip_st, ↓DL.retN_st, ↓DL.brk_st, ↓DL.call_st, DL.clB_ok, ↓DL.callE_st, DL.clE_ok, DL.R_at_ok, ↓DL.callIO_st, DL.ciB_ok, DL.ciC_ok, DL.ciD_ok, ↓DL.par_st, DL.psB_ok, ↓DL.asg_st, DL.asB1_ok, DL.asB2_ok, ↓DL.aug_st, DL.agB_ok, DL.agC_ok, ↓DL.app_st, DL.apS_ok, ↓DL.itm_st, DL.imB_ok, DL.imC_ok, ↓DL.rvs_st, DL.rvB_ok, ↓DL.retO_st, DL.roB_own, DL.roB_sh, ↓DL.frz_st, ↓DL.frzS_st, DL.fzB_own, DL.fzB_sh, DL.fzB_un, ↓DL.itR1_st, DL.r1B_ok, DL.rg1_ok, DL.rg2_ok, DL.tn_add1, DL.tn_succ, DL.tn_nat, DL.tn_pred, DL.tn_sub, DL.len0, DL.len1, DL.len2, DL.len3, DL.len4, DL.gSh_eq, DL.gAny_eq, DL.gS_sh, DL.gA_sh, DL.gA_own, DL.gA_io, DL.ownL_eq, DL.oL_own, DL.oL_io, DL.put_own, DL.put_io, DL.ofO_some, DL.tru_bl, DL.tru_int, DL.tru_lst, DL.len_tx, DL.len_lst, DL.len_tup, DL.ix_tx, DL.ix_lst, DL.ix_tup, DL.sl_tx, DL.sl_lst, DL.sl_tup, DL.plus_tx, DL.plus_int, DL.plus_lst, DL.plus_tup, DL.cat_lst, DL.rep_lst1, DL.zD_tx, DL.zD_lst, DL.zD_tup, DL.rev_tx, DL.en_tx, DL.tup_lst, DL.lst_tup, DL.isi_tx, DL.isi_int, DL.isi_intb, DL.isi_tt, DL.isi_lt, DL.isi_int_tl, DL.isi_non_tl, DL.isi_tup_tl, DL.isi_tup_l, DL.isi_int_s, DL.isi_non_s, DL.eq_bl, DL.ne_bl, DL.eq_non, DL.isn_i, DL.isn_n, DL.sub_int', DL.add_ip, DL.sub_ip, DL.mul_int', DL.lt_int, DL.gt_int, DL.ge_int, DL.le_int, DL.eq_int, DL.ne_int, DL.eq_tx, DL.ne_tx, DL.isn_int, DL.isn_non, DL.isb, DL.neg_int, DL.int_int, DL.atI_nat, DL.atI_zero, DL.atI_one, DL.atI_two, DL.atI_three, DL.atI_succ, DL.atI_last, DL.cut_to, DL.cut_from, DL.cut_both, DL.cut_butlast, DL.sum_nl, DL.sum_nt, DL.mul_tx1, DL.mul_tup, List.getElem?_cons_zero, List.getElem?_cons_succ, List.set_cons_zero, List.set_cons_succ, List.length_cons, List.length_nil, List.map_nil, List.length_map, List.cons.injEq, and_true, eq_self, decide_true, decide_false, Bool.not_true, Bool.not_false, Option.map_some, Int.reduceLT, Int.reduceLE, Int.reduceAdd, Int.reduceSub, Int.reduceMul, Int.reduceNeg, Int.reduceEq, Nat.reduceAdd, Nat.reduceSub, a1, a2, i1, h]
  -- like letters
  obtain ⟨n, row6, e6, hr6, hn⟩ := taken_ok (m := 199) hr5 (by decide) (by decide)
  have e6' : F__law_taken row5 [.int 199] = .ok (.int (n : Int), row6) := e6
  obtain ⟨k, row7, e7, hr7, hk⟩ := taken_ok (m := n + 1) hr6 (by omega) (by omega)
  obtain ⟨a, row8, e8, hr8, ha⟩ := taken_ok (m := 9999) hr7 (by decide) (by decide)
  have e8' : F__law_taken row7 [.int 9999] = .ok (.int (a : Int), row8) := e8
  obtain ⟨b, row9, e9, hr9, hb⟩ := taken_ok (m := 9999) hr8 (by decide) (by decide)
  have e9' : F__law_taken row8 [.int 9999] = .ok (.int (b : Int), row9) := e9
  have hcp := ch_pos n k (by omega)
  obtain ⟨y10, w1⟩ := ways_loop sc row7 (.sh (tx f)) (.sh (tx g)) (.sh so) (.sh (ni v5)) (.sh (tn es)) .un .un .un n k (by omega) (by omega)
  have hF := film_rep (n := n) (by omega)
  have hG := film_rep (n := k) (by omega)
  have q1 : D.int (1 + (n : Int)) = ni (n + 1) := congrArg D.int (by omega)
  have q2 : D.int (1 + (k : Int)) = ni (k + 1) := congrArg D.int (by omega)
  have q3 : ((a : Int) * 7919 + (b : Int)) % ((ch n k : Nat) : Int) = (((a * 7919 + b) % ch n k : Nat) : Int) := by
    rw [Int.natCast_emod]
    congr 1
  have q4 : modD (.int ((a : Int) * 7919 + (b : Int))) (ni (ch n k)) = some (ni ((a * 7919 + b) % ch n k)) := by
    rw [mod_int' (by omega), q3]
  have hr : (a * 7919 + b) % ch n k < ch n k := Nat.mod_lt _ hcp
  generalize (a * 7919 + b) % ch n k = far at q4 hr
  have hWr : W (List.replicate (k + 1) 97) (List.replicate (n + 1) 97) = ch n k := W_rep 97 n k
  have hfar : far < W (List.replicate (k + 1) 97) (List.replicate (n + 1) 97) := by rw [hWr]; exact hr
  have r1 := count_partings_ok hF hG
  rw [hWr] at r1
  have r2 := parting_at_ok hF hG hfar
  obtain ⟨o1, o2, o3⟩ := at_ok (List.replicate (n + 1) 97) (List.replicate (k + 1) 97) 0 far (Nat.zero_le _) (by rw [List.drop_zero]; exact hfar)
  have r3 := rank_ok hF hG o3 o1
  rw [o2] at r3
  rw [List.length_replicate] at o3
  generalize at_ (List.replicate (n + 1) 97) (List.replicate (k + 1) 97) 0 far = td at r2 r3 o3
  have l5 : lenD [tn td] = some (ni (k + 1)) := by rw [len_tup, List.length_map, o3]
  have m1 : mulSD (.str "a") (ni (n + 1)) = some (tx (List.replicate (n + 1) 97)) := mul_tx1 (c := 97) (by omega)
  have m2 : mulSD (.str "a") (ni (k + 1)) = some (tx (List.replicate (k + 1) 97)) := mul_tx1 (c := 97) (by omega)
  have cp := count_partings_ok hf hg
  have al := alike_int 4 ((W g f : Nat) : Int)
  have q5 : ((k + 1 : Nat) : Int) - 1 = (k : Int) := by omega
  have q6 : rg1 [.int (k : Int)] = some (rngL 0 k) := rg1_nat (by omega)
  refine fnD_rt (r1 := EL sc row9 (.sh (tx f)) (.sh (tx g)) (.sh so) (.sh (ni v5)) (.sh (tn es)) (.sh (ni (n + 1))) (.sh (ni (k + 1))) (.sh (ni (ch n k))) y10 (.sh (ni far)) (.sh (tn td))) rfl (show b_law [.sh sc, .un, .un, .un, .un, .un, .un, .un, .un, .un, .un, .un, .un] = _ from ?_)
  unfold b_law
  refine seq_nx (r1 := EL sc [sc, .int 0, .int 5003, .int 0] .un .un .un .un .un .un .un .un .un .un .un) (by simp (disch := first | omega | (simp; done) | (simp; omega)) only [↓DL.we_e, DL.weB_ok, ↓DL.ts_e, DL.tsB_ok, ↓DL.tsE_e, DL.tsE_ok, DL.prB_ok, ↓DL.tr_e, DL.trB_ok, ↓DL.trE_e, DL.trE_ok, ↓DL.bn_e, DL.bnB_ok, ↓DL.bnE_e, DL.bnE_ok, DL.bnE2_ok, ↓DL.ap_e, DL.apB_ok, ↓DL.itN_e, ↓DL.apE_e, DL.apE_ok, ↓DL.itX_e, DL.apX_ok, ↓DL.un1_e, ↓DL.aNil_e, ↓DL.aCons_e, DL.acB_ok, ↓DL.aConsE_e, DL.acE_ok, DL.acE2_ok, ↓DL.kc_e, ↓DL.notB_e, DL.ntB_ok, ↓DL.notV_e, DL.ntV_ok, ↓DL.notE_e, DL.ntE_ok, ↓DL.andB_e, DL.anB_t, DL.anB_f, ↓DL.orB_e, DL.orB_t, DL.orB_f, ↓DL.andV_e, DL.anV_t, DL.anV_f, ↓DL.orV_e, DL.roV_t, DL.roV_f, ↓DL.ifV_e, DL.ivB_t, DL.ivB_f, ↓DL.ifVE_e, DL.ivE_t, DL.ivE_f, ↓DL.andE_e, DL.anE_t, DL.anE_f, ↓DL.orE_e, DL.roE_t, DL.roE_f, ↓DL.chn_e, DL.chB_ok, DL.chB2_t, DL.chB2_f, ↓DL.oNone_e, ↓DL.oSome_e, DL.osB_ok, ↓DL.sl3_e, DL.s3B_ok, ↓DL.mthV_e, DL.mvB_tx, ↓DL.mthL_e, DL.mlB_ok, ↓DL.mkT_e, DL.mtB_ok, ↓DL.mkL_e, DL.mlB'_ok, ↓DL.mkTE_e, DL.mtE_ok, ↓DL.gSet_e, ↓DL.gTup_e, ↓DL.gsCons_e, DL.gcB_ok, ↓DL.gsNil_e, ↓DL.seq_st, DL.sq_nx, DL.sq_rt, DL.sq_bk, DL.sq_ct, ↓DL.if_st, DL.ifB_y, DL.ifB_n, ↓DL.set_st, DL.stB_ok, ↓DL.ret_st, DL.rtB_ok, ↓DL.seto_st, DL.soB_ok, ↓DL.for_st', DL.frB_ok, DL.forD_nil, ↓DL.expr_st, DL.exB_ok, ↓DL.skip_st, ↓DL.retN_st, ↓DL.brk_st, ↓DL.call_st, DL.clB_ok, ↓DL.callE_st, DL.clE_ok, DL.R_at_ok, ↓DL.callIO_st, DL.ciB_ok, DL.ciC_ok, DL.ciD_ok, ↓DL.par_st, DL.psB_ok, ↓DL.asg_st, DL.asB1_ok, DL.asB2_ok, ↓DL.aug_st, DL.agB_ok, DL.agC_ok, ↓DL.app_st, DL.apS_ok, ↓DL.itm_st, DL.imB_ok, DL.imC_ok, ↓DL.rvs_st, DL.rvB_ok, ↓DL.retO_st, DL.roB_own, DL.roB_sh, ↓DL.frz_st, ↓DL.frzS_st, DL.fzB_own, DL.fzB_sh, DL.fzB_un, ↓DL.itR1_st, DL.r1B_ok, DL.rg1_ok, DL.rg2_ok, DL.tn_add1, DL.tn_succ, DL.tn_nat, DL.tn_pred, DL.tn_sub, DL.len0, DL.len1, DL.len2, DL.len3, DL.len4, DL.gSh_eq, DL.gAny_eq, DL.gS_sh, DL.gA_sh, DL.gA_own, DL.gA_io, DL.ownL_eq, DL.oL_own, DL.oL_io, DL.put_own, DL.put_io, DL.ofO_some, DL.tru_bl, DL.tru_int, DL.tru_lst, DL.len_tx, DL.len_lst, DL.len_tup, DL.ix_tx, DL.ix_lst, DL.ix_tup, DL.sl_tx, DL.sl_lst, DL.sl_tup, DL.plus_tx, DL.plus_int, DL.plus_lst, DL.plus_tup, DL.cat_lst, DL.rep_lst1, DL.zD_tx, DL.zD_lst, DL.zD_tup, DL.rev_tx, DL.en_tx, DL.tup_lst, DL.lst_tup, DL.isi_tx, DL.isi_int, DL.isi_intb, DL.isi_tt, DL.isi_lt, DL.isi_int_tl, DL.isi_non_tl, DL.isi_tup_tl, DL.isi_tup_l, DL.isi_int_s, DL.isi_non_s, DL.eq_bl, DL.ne_bl, DL.eq_non, DL.isn_i, DL.isn_n, DL.sub_int', DL.add_ip, DL.sub_ip, DL.mul_int', DL.lt_int, DL.gt_int, DL.ge_int, DL.le_int, DL.eq_int, DL.ne_int, DL.eq_tx, DL.ne_tx, DL.isn_int, DL.isn_non, DL.isb, DL.neg_int, DL.int_int, DL.atI_nat, DL.atI_zero, DL.atI_one, DL.atI_two, DL.atI_three, DL.atI_succ, DL.atI_last, DL.cut_to, DL.cut_from, DL.cut_both, DL.cut_butlast, DL.sum_nl, DL.sum_nt, DL.mul_tx1, DL.mul_tup, List.getElem?_cons_zero, List.getElem?_cons_succ, List.set_cons_zero, List.set_cons_succ, List.length_cons, List.length_nil, List.map_nil, List.length_map, List.cons.injEq, and_true, eq_self, decide_true, decide_false, Bool.not_true, Bool.not_false, Option.map_some, Int.reduceLT, Int.reduceLE, Int.reduceAdd, Int.reduceSub, Int.reduceMul, Int.reduceNeg, Int.reduceEq, Nat.reduceAdd, Nat.reduceSub]) ?_
  refine seq_nx (r1 := EL sc row2 (.sh (tx f)) .un .un .un .un .un .un .un .un .un .un) (by simp (disch := first | omega | (simp; done) | (simp; omega)) only [↓DL.we_e, DL.weB_ok, ↓DL.ts_e, DL.tsB_ok, ↓DL.tsE_e, DL.tsE_ok, DL.prB_ok, ↓DL.tr_e, DL.trB_ok, ↓DL.trE_e, DL.trE_ok, ↓DL.bn_e, DL.bnB_ok, ↓DL.bnE_e, DL.bnE_ok, DL.bnE2_ok, ↓DL.ap_e, DL.apB_ok, ↓DL.itN_e, ↓DL.apE_e, DL.apE_ok, ↓DL.itX_e, DL.apX_ok, ↓DL.un1_e, ↓DL.aNil_e, ↓DL.aCons_e, DL.acB_ok, ↓DL.aConsE_e, DL.acE_ok, DL.acE2_ok, ↓DL.kc_e, ↓DL.notB_e, DL.ntB_ok, ↓DL.notV_e, DL.ntV_ok, ↓DL.notE_e, DL.ntE_ok, ↓DL.andB_e, DL.anB_t, DL.anB_f, ↓DL.orB_e, DL.orB_t, DL.orB_f, ↓DL.andV_e, DL.anV_t, DL.anV_f, ↓DL.orV_e, DL.roV_t, DL.roV_f, ↓DL.ifV_e, DL.ivB_t, DL.ivB_f, ↓DL.ifVE_e, DL.ivE_t, DL.ivE_f, ↓DL.andE_e, DL.anE_t, DL.anE_f, ↓DL.orE_e, DL.roE_t, DL.roE_f, ↓DL.chn_e, DL.chB_ok, DL.chB2_t, DL.chB2_f, ↓DL.oNone_e, ↓DL.oSome_e, DL.osB_ok, ↓DL.sl3_e, DL.s3B_ok, ↓DL.mthV_e, DL.mvB_tx, ↓DL.mthL_e, DL.mlB_ok, ↓DL.mkT_e, DL.mtB_ok, ↓DL.mkL_e, DL.mlB'_ok, ↓DL.mkTE_e, DL.mtE_ok, ↓DL.gSet_e, ↓DL.gTup_e, ↓DL.gsCons_e, DL.gcB_ok, ↓DL.gsNil_e, ↓DL.seq_st, DL.sq_nx, DL.sq_rt, DL.sq_bk, DL.sq_ct, ↓DL.if_st, DL.ifB_y, DL.ifB_n, ↓DL.set_st, DL.stB_ok, ↓DL.ret_st, DL.rtB_ok, ↓DL.seto_st, DL.soB_ok, ↓DL.for_st', DL.frB_ok, DL.forD_nil, ↓DL.expr_st, DL.exB_ok, ↓DL.skip_st, ↓DL.retN_st, ↓DL.brk_st, ↓DL.call_st, DL.clB_ok, ↓DL.callE_st, DL.clE_ok, DL.R_at_ok, ↓DL.callIO_st, DL.ciB_ok, DL.ciC_ok, DL.ciD_ok, ↓DL.par_st, DL.psB_ok, ↓DL.asg_st, DL.asB1_ok, DL.asB2_ok, ↓DL.aug_st, DL.agB_ok, DL.agC_ok, ↓DL.app_st, DL.apS_ok, ↓DL.itm_st, DL.imB_ok, DL.imC_ok, ↓DL.rvs_st, DL.rvB_ok, ↓DL.retO_st, DL.roB_own, DL.roB_sh, ↓DL.frz_st, ↓DL.frzS_st, DL.fzB_own, DL.fzB_sh, DL.fzB_un, ↓DL.itR1_st, DL.r1B_ok, DL.rg1_ok, DL.rg2_ok, DL.tn_add1, DL.tn_succ, DL.tn_nat, DL.tn_pred, DL.tn_sub, DL.len0, DL.len1, DL.len2, DL.len3, DL.len4, DL.gSh_eq, DL.gAny_eq, DL.gS_sh, DL.gA_sh, DL.gA_own, DL.gA_io, DL.ownL_eq, DL.oL_own, DL.oL_io, DL.put_own, DL.put_io, DL.ofO_some, DL.tru_bl, DL.tru_int, DL.tru_lst, DL.len_tx, DL.len_lst, DL.len_tup, DL.ix_tx, DL.ix_lst, DL.ix_tup, DL.sl_tx, DL.sl_lst, DL.sl_tup, DL.plus_tx, DL.plus_int, DL.plus_lst, DL.plus_tup, DL.cat_lst, DL.rep_lst1, DL.zD_tx, DL.zD_lst, DL.zD_tup, DL.rev_tx, DL.en_tx, DL.tup_lst, DL.lst_tup, DL.isi_tx, DL.isi_int, DL.isi_intb, DL.isi_tt, DL.isi_lt, DL.isi_int_tl, DL.isi_non_tl, DL.isi_tup_tl, DL.isi_tup_l, DL.isi_int_s, DL.isi_non_s, DL.eq_bl, DL.ne_bl, DL.eq_non, DL.isn_i, DL.isn_n, DL.sub_int', DL.add_ip, DL.sub_ip, DL.mul_int', DL.lt_int, DL.gt_int, DL.ge_int, DL.le_int, DL.eq_int, DL.ne_int, DL.eq_tx, DL.ne_tx, DL.isn_int, DL.isn_non, DL.isb, DL.neg_int, DL.int_int, DL.atI_nat, DL.atI_zero, DL.atI_one, DL.atI_two, DL.atI_three, DL.atI_succ, DL.atI_last, DL.cut_to, DL.cut_from, DL.cut_both, DL.cut_butlast, DL.sum_nl, DL.sum_nt, DL.mul_tx1, DL.mul_tup, List.getElem?_cons_zero, List.getElem?_cons_succ, List.set_cons_zero, List.set_cons_succ, List.length_cons, List.length_nil, List.map_nil, List.length_map, List.cons.injEq, and_true, eq_self, decide_true, decide_false, Bool.not_true, Bool.not_false, Option.map_some, Int.reduceLT, Int.reduceLE, Int.reduceAdd, Int.reduceSub, Int.reduceMul, Int.reduceNeg, Int.reduceEq, Nat.reduceAdd, Nat.reduceSub, e1', e2']) ?_
  refine seq_nx (r1 := EL sc row3 (.sh (tx f)) (.sh (tx g)) .un .un .un .un .un .un .un .un .un) (by simp (disch := first | omega | (simp; done) | (simp; omega)) only [↓DL.we_e, DL.weB_ok, ↓DL.ts_e, DL.tsB_ok, ↓DL.tsE_e, DL.tsE_ok, DL.prB_ok, ↓DL.tr_e, DL.trB_ok, ↓DL.trE_e, DL.trE_ok, ↓DL.bn_e, DL.bnB_ok, ↓DL.bnE_e, DL.bnE_ok, DL.bnE2_ok, ↓DL.ap_e, DL.apB_ok, ↓DL.itN_e, ↓DL.apE_e, DL.apE_ok, ↓DL.itX_e, DL.apX_ok, ↓DL.un1_e, ↓DL.aNil_e, ↓DL.aCons_e, DL.acB_ok, ↓DL.aConsE_e, DL.acE_ok, DL.acE2_ok, ↓DL.kc_e, ↓DL.notB_e, DL.ntB_ok, ↓DL.notV_e, DL.ntV_ok, ↓DL.notE_e, DL.ntE_ok, ↓DL.andB_e, DL.anB_t, DL.anB_f, ↓DL.orB_e, DL.orB_t, DL.orB_f, ↓DL.andV_e, DL.anV_t, DL.anV_f, ↓DL.orV_e, DL.roV_t, DL.roV_f, ↓DL.ifV_e, DL.ivB_t, DL.ivB_f, ↓DL.ifVE_e, DL.ivE_t, DL.ivE_f, ↓DL.andE_e, DL.anE_t, DL.anE_f, ↓DL.orE_e, DL.roE_t, DL.roE_f, ↓DL.chn_e, DL.chB_ok, DL.chB2_t, DL.chB2_f, ↓DL.oNone_e, ↓DL.oSome_e, DL.osB_ok, ↓DL.sl3_e, DL.s3B_ok, ↓DL.mthV_e, DL.mvB_tx, ↓DL.mthL_e, DL.mlB_ok, ↓DL.mkT_e, DL.mtB_ok, ↓DL.mkL_e, DL.mlB'_ok, ↓DL.mkTE_e, DL.mtE_ok, ↓DL.gSet_e, ↓DL.gTup_e, ↓DL.gsCons_e, DL.gcB_ok, ↓DL.gsNil_e, ↓DL.seq_st, DL.sq_nx, DL.sq_rt, DL.sq_bk, DL.sq_ct, ↓DL.if_st, DL.ifB_y, DL.ifB_n, ↓DL.set_st, DL.stB_ok, ↓DL.ret_st, DL.rtB_ok, ↓DL.seto_st, DL.soB_ok, ↓DL.for_st', DL.frB_ok, DL.forD_nil, ↓DL.expr_st, DL.exB_ok, ↓DL.skip_st, ↓DL.retN_st, ↓DL.brk_st, ↓DL.call_st, DL.clB_ok, ↓DL.callE_st, DL.clE_ok, DL.R_at_ok, ↓DL.callIO_st, DL.ciB_ok, DL.ciC_ok, DL.ciD_ok, ↓DL.par_st, DL.psB_ok, ↓DL.asg_st, DL.asB1_ok, DL.asB2_ok, ↓DL.aug_st, DL.agB_ok, DL.agC_ok, ↓DL.app_st, DL.apS_ok, ↓DL.itm_st, DL.imB_ok, DL.imC_ok, ↓DL.rvs_st, DL.rvB_ok, ↓DL.retO_st, DL.roB_own, DL.roB_sh, ↓DL.frz_st, ↓DL.frzS_st, DL.fzB_own, DL.fzB_sh, DL.fzB_un, ↓DL.itR1_st, DL.r1B_ok, DL.rg1_ok, DL.rg2_ok, DL.tn_add1, DL.tn_succ, DL.tn_nat, DL.tn_pred, DL.tn_sub, DL.len0, DL.len1, DL.len2, DL.len3, DL.len4, DL.gSh_eq, DL.gAny_eq, DL.gS_sh, DL.gA_sh, DL.gA_own, DL.gA_io, DL.ownL_eq, DL.oL_own, DL.oL_io, DL.put_own, DL.put_io, DL.ofO_some, DL.tru_bl, DL.tru_int, DL.tru_lst, DL.len_tx, DL.len_lst, DL.len_tup, DL.ix_tx, DL.ix_lst, DL.ix_tup, DL.sl_tx, DL.sl_lst, DL.sl_tup, DL.plus_tx, DL.plus_int, DL.plus_lst, DL.plus_tup, DL.cat_lst, DL.rep_lst1, DL.zD_tx, DL.zD_lst, DL.zD_tup, DL.rev_tx, DL.en_tx, DL.tup_lst, DL.lst_tup, DL.isi_tx, DL.isi_int, DL.isi_intb, DL.isi_tt, DL.isi_lt, DL.isi_int_tl, DL.isi_non_tl, DL.isi_tup_tl, DL.isi_tup_l, DL.isi_int_s, DL.isi_non_s, DL.eq_bl, DL.ne_bl, DL.eq_non, DL.isn_i, DL.isn_n, DL.sub_int', DL.add_ip, DL.sub_ip, DL.mul_int', DL.lt_int, DL.gt_int, DL.ge_int, DL.le_int, DL.eq_int, DL.ne_int, DL.eq_tx, DL.ne_tx, DL.isn_int, DL.isn_non, DL.isb, DL.neg_int, DL.int_int, DL.atI_nat, DL.atI_zero, DL.atI_one, DL.atI_two, DL.atI_three, DL.atI_succ, DL.atI_last, DL.cut_to, DL.cut_from, DL.cut_both, DL.cut_butlast, DL.sum_nl, DL.sum_nt, DL.mul_tx1, DL.mul_tup, List.getElem?_cons_zero, List.getElem?_cons_succ, List.set_cons_zero, List.set_cons_succ, List.length_cons, List.length_nil, List.map_nil, List.length_map, List.cons.injEq, and_true, eq_self, decide_true, decide_false, Bool.not_true, Bool.not_false, Option.map_some, Int.reduceLT, Int.reduceLE, Int.reduceAdd, Int.reduceSub, Int.reduceMul, Int.reduceNeg, Int.reduceEq, Nat.reduceAdd, Nat.reduceSub, e3]) ?_
  refine seq_nx (r1 := EL sc row3 (.sh (tx f)) (.sh (tx g)) (.sh so) .un .un .un .un .un .un .un .un) (by simp (disch := first | omega | (simp; done) | (simp; omega)) only [↓DL.we_e, DL.weB_ok, ↓DL.ts_e, DL.tsB_ok, ↓DL.tsE_e, DL.tsE_ok, DL.prB_ok, ↓DL.tr_e, DL.trB_ok, ↓DL.trE_e, DL.trE_ok, ↓DL.bn_e, DL.bnB_ok, ↓DL.bnE_e, DL.bnE_ok, DL.bnE2_ok, ↓DL.ap_e, DL.apB_ok, ↓DL.itN_e, ↓DL.apE_e, DL.apE_ok, ↓DL.itX_e, DL.apX_ok, ↓DL.un1_e, ↓DL.aNil_e, ↓DL.aCons_e, DL.acB_ok, ↓DL.aConsE_e, DL.acE_ok, DL.acE2_ok, ↓DL.kc_e, ↓DL.notB_e, DL.ntB_ok, ↓DL.notV_e, DL.ntV_ok, ↓DL.notE_e, DL.ntE_ok, ↓DL.andB_e, DL.anB_t, DL.anB_f, ↓DL.orB_e, DL.orB_t, DL.orB_f, ↓DL.andV_e, DL.anV_t, DL.anV_f, ↓DL.orV_e, DL.roV_t, DL.roV_f, ↓DL.ifV_e, DL.ivB_t, DL.ivB_f, ↓DL.ifVE_e, DL.ivE_t, DL.ivE_f, ↓DL.andE_e, DL.anE_t, DL.anE_f, ↓DL.orE_e, DL.roE_t, DL.roE_f, ↓DL.chn_e, DL.chB_ok, DL.chB2_t, DL.chB2_f, ↓DL.oNone_e, ↓DL.oSome_e, DL.osB_ok, ↓DL.sl3_e, DL.s3B_ok, ↓DL.mthV_e, DL.mvB_tx, ↓DL.mthL_e, DL.mlB_ok, ↓DL.mkT_e, DL.mtB_ok, ↓DL.mkL_e, DL.mlB'_ok, ↓DL.mkTE_e, DL.mtE_ok, ↓DL.gSet_e, ↓DL.gTup_e, ↓DL.gsCons_e, DL.gcB_ok, ↓DL.gsNil_e, ↓DL.seq_st, DL.sq_nx, DL.sq_rt, DL.sq_bk, DL.sq_ct, ↓DL.if_st, DL.ifB_y, DL.ifB_n, ↓DL.set_st, DL.stB_ok, ↓DL.ret_st, DL.rtB_ok, ↓DL.seto_st, DL.soB_ok, ↓DL.for_st', DL.frB_ok, DL.forD_nil, ↓DL.expr_st, DL.exB_ok, ↓DL.skip_st, ↓DL.retN_st, ↓DL.brk_st, ↓DL.call_st, DL.clB_ok, ↓DL.callE_st, DL.clE_ok, DL.R_at_ok, ↓DL.callIO_st, DL.ciB_ok, DL.ciC_ok, DL.ciD_ok, ↓DL.par_st, DL.psB_ok, ↓DL.asg_st, DL.asB1_ok, DL.asB2_ok, ↓DL.aug_st, DL.agB_ok, DL.agC_ok, ↓DL.app_st, DL.apS_ok, ↓DL.itm_st, DL.imB_ok, DL.imC_ok, ↓DL.rvs_st, DL.rvB_ok, ↓DL.retO_st, DL.roB_own, DL.roB_sh, ↓DL.frz_st, ↓DL.frzS_st, DL.fzB_own, DL.fzB_sh, DL.fzB_un, ↓DL.itR1_st, DL.r1B_ok, DL.rg1_ok, DL.rg2_ok, DL.tn_add1, DL.tn_succ, DL.tn_nat, DL.tn_pred, DL.tn_sub, DL.len0, DL.len1, DL.len2, DL.len3, DL.len4, DL.gSh_eq, DL.gAny_eq, DL.gS_sh, DL.gA_sh, DL.gA_own, DL.gA_io, DL.ownL_eq, DL.oL_own, DL.oL_io, DL.put_own, DL.put_io, DL.ofO_some, DL.tru_bl, DL.tru_int, DL.tru_lst, DL.len_tx, DL.len_lst, DL.len_tup, DL.ix_tx, DL.ix_lst, DL.ix_tup, DL.sl_tx, DL.sl_lst, DL.sl_tup, DL.plus_tx, DL.plus_int, DL.plus_lst, DL.plus_tup, DL.cat_lst, DL.rep_lst1, DL.zD_tx, DL.zD_lst, DL.zD_tup, DL.rev_tx, DL.en_tx, DL.tup_lst, DL.lst_tup, DL.isi_tx, DL.isi_int, DL.isi_intb, DL.isi_tt, DL.isi_lt, DL.isi_int_tl, DL.isi_non_tl, DL.isi_tup_tl, DL.isi_tup_l, DL.isi_int_s, DL.isi_non_s, DL.eq_bl, DL.ne_bl, DL.eq_non, DL.isn_i, DL.isn_n, DL.sub_int', DL.add_ip, DL.sub_ip, DL.mul_int', DL.lt_int, DL.gt_int, DL.ge_int, DL.le_int, DL.eq_int, DL.ne_int, DL.eq_tx, DL.ne_tx, DL.isn_int, DL.isn_non, DL.isb, DL.neg_int, DL.int_int, DL.atI_nat, DL.atI_zero, DL.atI_one, DL.atI_two, DL.atI_three, DL.atI_succ, DL.atI_last, DL.cut_to, DL.cut_from, DL.cut_both, DL.cut_butlast, DL.sum_nl, DL.sum_nt, DL.mul_tx1, DL.mul_tup, List.getElem?_cons_zero, List.getElem?_cons_succ, List.set_cons_zero, List.set_cons_succ, List.length_cons, List.length_nil, List.map_nil, List.length_map, List.cons.injEq, and_true, eq_self, decide_true, decide_false, Bool.not_true, Bool.not_false, Option.map_some, Int.reduceLT, Int.reduceLE, Int.reduceAdd, Int.reduceSub, Int.reduceMul, Int.reduceNeg, Int.reduceEq, Nat.reduceAdd, Nat.reduceSub, e4]) ?_
  refine seq_nx (r1 := EL sc row3 (.sh (tx f)) (.sh (tx g)) (.sh so) .un .un .un .un .un .un .un .un) (by simp (disch := first | omega | (simp; done) | (simp; omega)) only [↓DL.we_e, DL.weB_ok, ↓DL.ts_e, DL.tsB_ok, ↓DL.tsE_e, DL.tsE_ok, DL.prB_ok, ↓DL.tr_e, DL.trB_ok, ↓DL.trE_e, DL.trE_ok, ↓DL.bn_e, DL.bnB_ok, ↓DL.bnE_e, DL.bnE_ok, DL.bnE2_ok, ↓DL.ap_e, DL.apB_ok, ↓DL.itN_e, ↓DL.apE_e, DL.apE_ok, ↓DL.itX_e, DL.apX_ok, ↓DL.un1_e, ↓DL.aNil_e, ↓DL.aCons_e, DL.acB_ok, ↓DL.aConsE_e, DL.acE_ok, DL.acE2_ok, ↓DL.kc_e, ↓DL.notB_e, DL.ntB_ok, ↓DL.notV_e, DL.ntV_ok, ↓DL.notE_e, DL.ntE_ok, ↓DL.andB_e, DL.anB_t, DL.anB_f, ↓DL.orB_e, DL.orB_t, DL.orB_f, ↓DL.andV_e, DL.anV_t, DL.anV_f, ↓DL.orV_e, DL.roV_t, DL.roV_f, ↓DL.ifV_e, DL.ivB_t, DL.ivB_f, ↓DL.ifVE_e, DL.ivE_t, DL.ivE_f, ↓DL.andE_e, DL.anE_t, DL.anE_f, ↓DL.orE_e, DL.roE_t, DL.roE_f, ↓DL.chn_e, DL.chB_ok, DL.chB2_t, DL.chB2_f, ↓DL.oNone_e, ↓DL.oSome_e, DL.osB_ok, ↓DL.sl3_e, DL.s3B_ok, ↓DL.mthV_e, DL.mvB_tx, ↓DL.mthL_e, DL.mlB_ok, ↓DL.mkT_e, DL.mtB_ok, ↓DL.mkL_e, DL.mlB'_ok, ↓DL.mkTE_e, DL.mtE_ok, ↓DL.gSet_e, ↓DL.gTup_e, ↓DL.gsCons_e, DL.gcB_ok, ↓DL.gsNil_e, ↓DL.seq_st, DL.sq_nx, DL.sq_rt, DL.sq_bk, DL.sq_ct, ↓DL.if_st, DL.ifB_y, DL.ifB_n, ↓DL.set_st, DL.stB_ok, ↓DL.ret_st, DL.rtB_ok, ↓DL.seto_st, DL.soB_ok, ↓DL.for_st', DL.frB_ok, DL.forD_nil, ↓DL.expr_st, DL.exB_ok, ↓DL.skip_st, ↓DL.retN_st, ↓DL.brk_st, ↓DL.call_st, DL.clB_ok, ↓DL.callE_st, DL.clE_ok, DL.R_at_ok, ↓DL.callIO_st, DL.ciB_ok, DL.ciC_ok, DL.ciD_ok, ↓DL.par_st, DL.psB_ok, ↓DL.asg_st, DL.asB1_ok, DL.asB2_ok, ↓DL.aug_st, DL.agB_ok, DL.agC_ok, ↓DL.app_st, DL.apS_ok, ↓DL.itm_st, DL.imB_ok, DL.imC_ok, ↓DL.rvs_st, DL.rvB_ok, ↓DL.retO_st, DL.roB_own, DL.roB_sh, ↓DL.frz_st, ↓DL.frzS_st, DL.fzB_own, DL.fzB_sh, DL.fzB_un, ↓DL.itR1_st, DL.r1B_ok, DL.rg1_ok, DL.rg2_ok, DL.tn_add1, DL.tn_succ, DL.tn_nat, DL.tn_pred, DL.tn_sub, DL.len0, DL.len1, DL.len2, DL.len3, DL.len4, DL.gSh_eq, DL.gAny_eq, DL.gS_sh, DL.gA_sh, DL.gA_own, DL.gA_io, DL.ownL_eq, DL.oL_own, DL.oL_io, DL.put_own, DL.put_io, DL.ofO_some, DL.tru_bl, DL.tru_int, DL.tru_lst, DL.len_tx, DL.len_lst, DL.len_tup, DL.ix_tx, DL.ix_lst, DL.ix_tup, DL.sl_tx, DL.sl_lst, DL.sl_tup, DL.plus_tx, DL.plus_int, DL.plus_lst, DL.plus_tup, DL.cat_lst, DL.rep_lst1, DL.zD_tx, DL.zD_lst, DL.zD_tup, DL.rev_tx, DL.en_tx, DL.tup_lst, DL.lst_tup, DL.isi_tx, DL.isi_int, DL.isi_intb, DL.isi_tt, DL.isi_lt, DL.isi_int_tl, DL.isi_non_tl, DL.isi_tup_tl, DL.isi_tup_l, DL.isi_int_s, DL.isi_non_s, DL.eq_bl, DL.ne_bl, DL.eq_non, DL.isn_i, DL.isn_n, DL.sub_int', DL.add_ip, DL.sub_ip, DL.mul_int', DL.lt_int, DL.gt_int, DL.ge_int, DL.le_int, DL.eq_int, DL.ne_int, DL.eq_tx, DL.ne_tx, DL.isn_int, DL.isn_non, DL.isb, DL.neg_int, DL.int_int, DL.atI_nat, DL.atI_zero, DL.atI_one, DL.atI_two, DL.atI_three, DL.atI_succ, DL.atI_last, DL.cut_to, DL.cut_from, DL.cut_both, DL.cut_butlast, DL.sum_nl, DL.sum_nt, DL.mul_tx1, DL.mul_tup, List.getElem?_cons_zero, List.getElem?_cons_succ, List.set_cons_zero, List.set_cons_succ, List.length_cons, List.length_nil, List.map_nil, List.length_map, List.cons.injEq, and_true, eq_self, decide_true, decide_false, Bool.not_true, Bool.not_false, Option.map_some, Int.reduceLT, Int.reduceLE, Int.reduceAdd, Int.reduceSub, Int.reduceMul, Int.reduceNeg, Int.reduceEq, Nat.reduceAdd, Nat.reduceSub, cp, l4, al]) ?_
  refine seq_nx (r1 := EL sc row4 (.sh (tx f)) (.sh (tx g)) (.sh so) (.sh (ni v5)) .un .un .un .un .un .un .un) (by simp (disch := first | omega | (simp; done) | (simp; omega)) only [↓DL.we_e, DL.weB_ok, ↓DL.ts_e, DL.tsB_ok, ↓DL.tsE_e, DL.tsE_ok, DL.prB_ok, ↓DL.tr_e, DL.trB_ok, ↓DL.trE_e, DL.trE_ok, ↓DL.bn_e, DL.bnB_ok, ↓DL.bnE_e, DL.bnE_ok, DL.bnE2_ok, ↓DL.ap_e, DL.apB_ok, ↓DL.itN_e, ↓DL.apE_e, DL.apE_ok, ↓DL.itX_e, DL.apX_ok, ↓DL.un1_e, ↓DL.aNil_e, ↓DL.aCons_e, DL.acB_ok, ↓DL.aConsE_e, DL.acE_ok, DL.acE2_ok, ↓DL.kc_e, ↓DL.notB_e, DL.ntB_ok, ↓DL.notV_e, DL.ntV_ok, ↓DL.notE_e, DL.ntE_ok, ↓DL.andB_e, DL.anB_t, DL.anB_f, ↓DL.orB_e, DL.orB_t, DL.orB_f, ↓DL.andV_e, DL.anV_t, DL.anV_f, ↓DL.orV_e, DL.roV_t, DL.roV_f, ↓DL.ifV_e, DL.ivB_t, DL.ivB_f, ↓DL.ifVE_e, DL.ivE_t, DL.ivE_f, ↓DL.andE_e, DL.anE_t, DL.anE_f, ↓DL.orE_e, DL.roE_t, DL.roE_f, ↓DL.chn_e, DL.chB_ok, DL.chB2_t, DL.chB2_f, ↓DL.oNone_e, ↓DL.oSome_e, DL.osB_ok, ↓DL.sl3_e, DL.s3B_ok, ↓DL.mthV_e, DL.mvB_tx, ↓DL.mthL_e, DL.mlB_ok, ↓DL.mkT_e, DL.mtB_ok, ↓DL.mkL_e, DL.mlB'_ok, ↓DL.mkTE_e, DL.mtE_ok, ↓DL.gSet_e, ↓DL.gTup_e, ↓DL.gsCons_e, DL.gcB_ok, ↓DL.gsNil_e, ↓DL.seq_st, DL.sq_nx, DL.sq_rt, DL.sq_bk, DL.sq_ct, ↓DL.if_st, DL.ifB_y, DL.ifB_n, ↓DL.set_st, DL.stB_ok, ↓DL.ret_st, DL.rtB_ok, ↓DL.seto_st, DL.soB_ok, ↓DL.for_st', DL.frB_ok, DL.forD_nil, ↓DL.expr_st, DL.exB_ok, ↓DL.skip_st, ↓DL.retN_st, ↓DL.brk_st, ↓DL.call_st, DL.clB_ok, ↓DL.callE_st, DL.clE_ok, DL.R_at_ok, ↓DL.callIO_st, DL.ciB_ok, DL.ciC_ok, DL.ciD_ok, ↓DL.par_st, DL.psB_ok, ↓DL.asg_st, DL.asB1_ok, DL.asB2_ok, ↓DL.aug_st, DL.agB_ok, DL.agC_ok, ↓DL.app_st, DL.apS_ok, ↓DL.itm_st, DL.imB_ok, DL.imC_ok, ↓DL.rvs_st, DL.rvB_ok, ↓DL.retO_st, DL.roB_own, DL.roB_sh, ↓DL.frz_st, ↓DL.frzS_st, DL.fzB_own, DL.fzB_sh, DL.fzB_un, ↓DL.itR1_st, DL.r1B_ok, DL.rg1_ok, DL.rg2_ok, DL.tn_add1, DL.tn_succ, DL.tn_nat, DL.tn_pred, DL.tn_sub, DL.len0, DL.len1, DL.len2, DL.len3, DL.len4, DL.gSh_eq, DL.gAny_eq, DL.gS_sh, DL.gA_sh, DL.gA_own, DL.gA_io, DL.ownL_eq, DL.oL_own, DL.oL_io, DL.put_own, DL.put_io, DL.ofO_some, DL.tru_bl, DL.tru_int, DL.tru_lst, DL.len_tx, DL.len_lst, DL.len_tup, DL.ix_tx, DL.ix_lst, DL.ix_tup, DL.sl_tx, DL.sl_lst, DL.sl_tup, DL.plus_tx, DL.plus_int, DL.plus_lst, DL.plus_tup, DL.cat_lst, DL.rep_lst1, DL.zD_tx, DL.zD_lst, DL.zD_tup, DL.rev_tx, DL.en_tx, DL.tup_lst, DL.lst_tup, DL.isi_tx, DL.isi_int, DL.isi_intb, DL.isi_tt, DL.isi_lt, DL.isi_int_tl, DL.isi_non_tl, DL.isi_tup_tl, DL.isi_tup_l, DL.isi_int_s, DL.isi_non_s, DL.eq_bl, DL.ne_bl, DL.eq_non, DL.isn_i, DL.isn_n, DL.sub_int', DL.add_ip, DL.sub_ip, DL.mul_int', DL.lt_int, DL.gt_int, DL.ge_int, DL.le_int, DL.eq_int, DL.ne_int, DL.eq_tx, DL.ne_tx, DL.isn_int, DL.isn_non, DL.isb, DL.neg_int, DL.int_int, DL.atI_nat, DL.atI_zero, DL.atI_one, DL.atI_two, DL.atI_three, DL.atI_succ, DL.atI_last, DL.cut_to, DL.cut_from, DL.cut_both, DL.cut_butlast, DL.sum_nl, DL.sum_nt, DL.mul_tx1, DL.mul_tup, List.getElem?_cons_zero, List.getElem?_cons_succ, List.set_cons_zero, List.set_cons_succ, List.length_cons, List.length_nil, List.map_nil, List.length_map, List.cons.injEq, and_true, eq_self, decide_true, decide_false, Bool.not_true, Bool.not_false, Option.map_some, Int.reduceLT, Int.reduceLE, Int.reduceAdd, Int.reduceSub, Int.reduceMul, Int.reduceNeg, Int.reduceEq, Nat.reduceAdd, Nat.reduceSub, l4, e5']) ?_
  refine seq_nx (if_n (cond_p (b := false) (by rw [notB_e, tr_e, c7]; simp (disch := first | omega | (simp; done) | (simp; omega)) only [↓DL.we_e, DL.weB_ok, ↓DL.ts_e, DL.tsB_ok, ↓DL.tsE_e, DL.tsE_ok, DL.prB_ok, ↓DL.tr_e, DL.trB_ok, ↓DL.trE_e, DL.trE_ok, ↓DL.bn_e, DL.bnB_ok, ↓DL.bnE_e, DL.bnE_ok, DL.bnE2_ok, ↓DL.ap_e, DL.apB_ok, ↓DL.itN_e, ↓DL.apE_e, DL.apE_ok, ↓DL.itX_e, DL.apX_ok, ↓DL.un1_e, ↓DL.aNil_e, ↓DL.aCons_e, DL.acB_ok, ↓DL.aConsE_e, DL.acE_ok, DL.acE2_ok, ↓DL.kc_e, ↓DL.notB_e, DL.ntB_ok, ↓DL.notV_e, DL.ntV_ok, ↓DL.notE_e, DL.ntE_ok, ↓DL.andB_e, DL.anB_t, DL.anB_f, ↓DL.orB_e, DL.orB_t, DL.orB_f, ↓DL.andV_e, DL.anV_t, DL.anV_f, ↓DL.orV_e, DL.roV_t, DL.roV_f, ↓DL.ifV_e, DL.ivB_t, DL.ivB_f, ↓DL.ifVE_e, DL.ivE_t, DL.ivE_f, ↓DL.andE_e, DL.anE_t, DL.anE_f, ↓DL.orE_e, DL.roE_t, DL.roE_f, ↓DL.chn_e, DL.chB_ok, DL.chB2_t, DL.chB2_f, ↓DL.oNone_e, ↓DL.oSome_e, DL.osB_ok, ↓DL.sl3_e, DL.s3B_ok, ↓DL.mthV_e, DL.mvB_tx, ↓DL.mthL_e, DL.mlB_ok, ↓DL.mkT_e, DL.mtB_ok, ↓DL.mkL_e, DL.mlB'_ok, ↓DL.mkTE_e, DL.mtE_ok, ↓DL.gSet_e, ↓DL.gTup_e, ↓DL.gsCons_e, DL.gcB_ok, ↓DL.gsNil_e, ↓DL.seq_st, DL.sq_nx, DL.sq_rt, DL.sq_bk, DL.sq_ct, ↓DL.if_st, DL.ifB_y, DL.ifB_n, ↓DL.set_st, DL.stB_ok, ↓DL.ret_st, DL.rtB_ok, ↓DL.seto_st, DL.soB_ok, ↓DL.for_st', DL.frB_ok, DL.forD_nil, ↓DL.expr_st, DL.exB_ok, ↓DL.skip_st, ↓DL.retN_st, ↓DL.brk_st, ↓DL.call_st, DL.clB_ok, ↓DL.callE_st, DL.clE_ok, DL.R_at_ok, ↓DL.callIO_st, DL.ciB_ok, DL.ciC_ok, DL.ciD_ok, ↓DL.par_st, DL.psB_ok, ↓DL.asg_st, DL.asB1_ok, DL.asB2_ok, ↓DL.aug_st, DL.agB_ok, DL.agC_ok, ↓DL.app_st, DL.apS_ok, ↓DL.itm_st, DL.imB_ok, DL.imC_ok, ↓DL.rvs_st, DL.rvB_ok, ↓DL.retO_st, DL.roB_own, DL.roB_sh, ↓DL.frz_st, ↓DL.frzS_st, DL.fzB_own, DL.fzB_sh, DL.fzB_un, ↓DL.itR1_st, DL.r1B_ok, DL.rg1_ok, DL.rg2_ok, DL.tn_add1, DL.tn_succ, DL.tn_nat, DL.tn_pred, DL.tn_sub, DL.len0, DL.len1, DL.len2, DL.len3, DL.len4, DL.gSh_eq, DL.gAny_eq, DL.gS_sh, DL.gA_sh, DL.gA_own, DL.gA_io, DL.ownL_eq, DL.oL_own, DL.oL_io, DL.put_own, DL.put_io, DL.ofO_some, DL.tru_bl, DL.tru_int, DL.tru_lst, DL.len_tx, DL.len_lst, DL.len_tup, DL.ix_tx, DL.ix_lst, DL.ix_tup, DL.sl_tx, DL.sl_lst, DL.sl_tup, DL.plus_tx, DL.plus_int, DL.plus_lst, DL.plus_tup, DL.cat_lst, DL.rep_lst1, DL.zD_tx, DL.zD_lst, DL.zD_tup, DL.rev_tx, DL.en_tx, DL.tup_lst, DL.lst_tup, DL.isi_tx, DL.isi_int, DL.isi_intb, DL.isi_tt, DL.isi_lt, DL.isi_int_tl, DL.isi_non_tl, DL.isi_tup_tl, DL.isi_tup_l, DL.isi_int_s, DL.isi_non_s, DL.eq_bl, DL.ne_bl, DL.eq_non, DL.isn_i, DL.isn_n, DL.sub_int', DL.add_ip, DL.sub_ip, DL.mul_int', DL.lt_int, DL.gt_int, DL.ge_int, DL.le_int, DL.eq_int, DL.ne_int, DL.eq_tx, DL.ne_tx, DL.isn_int, DL.isn_non, DL.isb, DL.neg_int, DL.int_int, DL.atI_nat, DL.atI_zero, DL.atI_one, DL.atI_two, DL.atI_three, DL.atI_succ, DL.atI_last, DL.cut_to, DL.cut_from, DL.cut_both, DL.cut_butlast, DL.sum_nl, DL.sum_nt, DL.mul_tx1, DL.mul_tup, List.getElem?_cons_zero, List.getElem?_cons_succ, List.set_cons_zero, List.set_cons_succ, List.length_cons, List.length_nil, List.map_nil, List.length_map, List.cons.injEq, and_true, eq_self, decide_true, decide_false, Bool.not_true, Bool.not_false, Option.map_some, Int.reduceLT, Int.reduceLE, Int.reduceAdd, Int.reduceSub, Int.reduceMul, Int.reduceNeg, Int.reduceEq, Nat.reduceAdd, Nat.reduceSub])) rfl) ?_
  refine seq_nx (r1 := EL sc row5 (.sh (tx f)) (.sh (tx g)) (.sh so) (.sh (ni v5)) (.sh (tn es)) .un .un .un .un .un .un) (set_e c8) ?_
  refine seq_nx (if_n (cond_p (b := false) (by rw [notB_e, tr_e, c9]; simp (disch := first | omega | (simp; done) | (simp; omega)) only [↓DL.we_e, DL.weB_ok, ↓DL.ts_e, DL.tsB_ok, ↓DL.tsE_e, DL.tsE_ok, DL.prB_ok, ↓DL.tr_e, DL.trB_ok, ↓DL.trE_e, DL.trE_ok, ↓DL.bn_e, DL.bnB_ok, ↓DL.bnE_e, DL.bnE_ok, DL.bnE2_ok, ↓DL.ap_e, DL.apB_ok, ↓DL.itN_e, ↓DL.apE_e, DL.apE_ok, ↓DL.itX_e, DL.apX_ok, ↓DL.un1_e, ↓DL.aNil_e, ↓DL.aCons_e, DL.acB_ok, ↓DL.aConsE_e, DL.acE_ok, DL.acE2_ok, ↓DL.kc_e, ↓DL.notB_e, DL.ntB_ok, ↓DL.notV_e, DL.ntV_ok, ↓DL.notE_e, DL.ntE_ok, ↓DL.andB_e, DL.anB_t, DL.anB_f, ↓DL.orB_e, DL.orB_t, DL.orB_f, ↓DL.andV_e, DL.anV_t, DL.anV_f, ↓DL.orV_e, DL.roV_t, DL.roV_f, ↓DL.ifV_e, DL.ivB_t, DL.ivB_f, ↓DL.ifVE_e, DL.ivE_t, DL.ivE_f, ↓DL.andE_e, DL.anE_t, DL.anE_f, ↓DL.orE_e, DL.roE_t, DL.roE_f, ↓DL.chn_e, DL.chB_ok, DL.chB2_t, DL.chB2_f, ↓DL.oNone_e, ↓DL.oSome_e, DL.osB_ok, ↓DL.sl3_e, DL.s3B_ok, ↓DL.mthV_e, DL.mvB_tx, ↓DL.mthL_e, DL.mlB_ok, ↓DL.mkT_e, DL.mtB_ok, ↓DL.mkL_e, DL.mlB'_ok, ↓DL.mkTE_e, DL.mtE_ok, ↓DL.gSet_e, ↓DL.gTup_e, ↓DL.gsCons_e, DL.gcB_ok, ↓DL.gsNil_e, ↓DL.seq_st, DL.sq_nx, DL.sq_rt, DL.sq_bk, DL.sq_ct, ↓DL.if_st, DL.ifB_y, DL.ifB_n, ↓DL.set_st, DL.stB_ok, ↓DL.ret_st, DL.rtB_ok, ↓DL.seto_st, DL.soB_ok, ↓DL.for_st', DL.frB_ok, DL.forD_nil, ↓DL.expr_st, DL.exB_ok, ↓DL.skip_st, ↓DL.retN_st, ↓DL.brk_st, ↓DL.call_st, DL.clB_ok, ↓DL.callE_st, DL.clE_ok, DL.R_at_ok, ↓DL.callIO_st, DL.ciB_ok, DL.ciC_ok, DL.ciD_ok, ↓DL.par_st, DL.psB_ok, ↓DL.asg_st, DL.asB1_ok, DL.asB2_ok, ↓DL.aug_st, DL.agB_ok, DL.agC_ok, ↓DL.app_st, DL.apS_ok, ↓DL.itm_st, DL.imB_ok, DL.imC_ok, ↓DL.rvs_st, DL.rvB_ok, ↓DL.retO_st, DL.roB_own, DL.roB_sh, ↓DL.frz_st, ↓DL.frzS_st, DL.fzB_own, DL.fzB_sh, DL.fzB_un, ↓DL.itR1_st, DL.r1B_ok, DL.rg1_ok, DL.rg2_ok, DL.tn_add1, DL.tn_succ, DL.tn_nat, DL.tn_pred, DL.tn_sub, DL.len0, DL.len1, DL.len2, DL.len3, DL.len4, DL.gSh_eq, DL.gAny_eq, DL.gS_sh, DL.gA_sh, DL.gA_own, DL.gA_io, DL.ownL_eq, DL.oL_own, DL.oL_io, DL.put_own, DL.put_io, DL.ofO_some, DL.tru_bl, DL.tru_int, DL.tru_lst, DL.len_tx, DL.len_lst, DL.len_tup, DL.ix_tx, DL.ix_lst, DL.ix_tup, DL.sl_tx, DL.sl_lst, DL.sl_tup, DL.plus_tx, DL.plus_int, DL.plus_lst, DL.plus_tup, DL.cat_lst, DL.rep_lst1, DL.zD_tx, DL.zD_lst, DL.zD_tup, DL.rev_tx, DL.en_tx, DL.tup_lst, DL.lst_tup, DL.isi_tx, DL.isi_int, DL.isi_intb, DL.isi_tt, DL.isi_lt, DL.isi_int_tl, DL.isi_non_tl, DL.isi_tup_tl, DL.isi_tup_l, DL.isi_int_s, DL.isi_non_s, DL.eq_bl, DL.ne_bl, DL.eq_non, DL.isn_i, DL.isn_n, DL.sub_int', DL.add_ip, DL.sub_ip, DL.mul_int', DL.lt_int, DL.gt_int, DL.ge_int, DL.le_int, DL.eq_int, DL.ne_int, DL.eq_tx, DL.ne_tx, DL.isn_int, DL.isn_non, DL.isb, DL.neg_int, DL.int_int, DL.atI_nat, DL.atI_zero, DL.atI_one, DL.atI_two, DL.atI_three, DL.atI_succ, DL.atI_last, DL.cut_to, DL.cut_from, DL.cut_both, DL.cut_butlast, DL.sum_nl, DL.sum_nt, DL.mul_tx1, DL.mul_tup, List.getElem?_cons_zero, List.getElem?_cons_succ, List.set_cons_zero, List.set_cons_succ, List.length_cons, List.length_nil, List.map_nil, List.length_map, List.cons.injEq, and_true, eq_self, decide_true, decide_false, Bool.not_true, Bool.not_false, Option.map_some, Int.reduceLT, Int.reduceLE, Int.reduceAdd, Int.reduceSub, Int.reduceMul, Int.reduceNeg, Int.reduceEq, Nat.reduceAdd, Nat.reduceSub])) rfl) ?_
  refine seq_nx (r1 := EL sc row6 (.sh (tx f)) (.sh (tx g)) (.sh so) (.sh (ni v5)) (.sh (tn es)) (.sh (ni (n + 1))) (.sh (.int 1)) .un .un .un .un) (by simp (disch := first | omega | (simp; done) | (simp; omega)) only [↓DL.we_e, DL.weB_ok, ↓DL.ts_e, DL.tsB_ok, ↓DL.tsE_e, DL.tsE_ok, DL.prB_ok, ↓DL.tr_e, DL.trB_ok, ↓DL.trE_e, DL.trE_ok, ↓DL.bn_e, DL.bnB_ok, ↓DL.bnE_e, DL.bnE_ok, DL.bnE2_ok, ↓DL.ap_e, DL.apB_ok, ↓DL.itN_e, ↓DL.apE_e, DL.apE_ok, ↓DL.itX_e, DL.apX_ok, ↓DL.un1_e, ↓DL.aNil_e, ↓DL.aCons_e, DL.acB_ok, ↓DL.aConsE_e, DL.acE_ok, DL.acE2_ok, ↓DL.kc_e, ↓DL.notB_e, DL.ntB_ok, ↓DL.notV_e, DL.ntV_ok, ↓DL.notE_e, DL.ntE_ok, ↓DL.andB_e, DL.anB_t, DL.anB_f, ↓DL.orB_e, DL.orB_t, DL.orB_f, ↓DL.andV_e, DL.anV_t, DL.anV_f, ↓DL.orV_e, DL.roV_t, DL.roV_f, ↓DL.ifV_e, DL.ivB_t, DL.ivB_f, ↓DL.ifVE_e, DL.ivE_t, DL.ivE_f, ↓DL.andE_e, DL.anE_t, DL.anE_f, ↓DL.orE_e, DL.roE_t, DL.roE_f, ↓DL.chn_e, DL.chB_ok, DL.chB2_t, DL.chB2_f, ↓DL.oNone_e, ↓DL.oSome_e, DL.osB_ok, ↓DL.sl3_e, DL.s3B_ok, ↓DL.mthV_e, DL.mvB_tx, ↓DL.mthL_e, DL.mlB_ok, ↓DL.mkT_e, DL.mtB_ok, ↓DL.mkL_e, DL.mlB'_ok, ↓DL.mkTE_e, DL.mtE_ok, ↓DL.gSet_e, ↓DL.gTup_e, ↓DL.gsCons_e, DL.gcB_ok, ↓DL.gsNil_e, ↓DL.seq_st, DL.sq_nx, DL.sq_rt, DL.sq_bk, DL.sq_ct, ↓DL.if_st, DL.ifB_y, DL.ifB_n, ↓DL.set_st, DL.stB_ok, ↓DL.ret_st, DL.rtB_ok, ↓DL.seto_st, DL.soB_ok, ↓DL.for_st', DL.frB_ok, DL.forD_nil, ↓DL.expr_st, DL.exB_ok, ↓DL.skip_st, ↓DL.retN_st, ↓DL.brk_st, ↓DL.call_st, DL.clB_ok, ↓DL.callE_st, DL.clE_ok, DL.R_at_ok, ↓DL.callIO_st, DL.ciB_ok, DL.ciC_ok, DL.ciD_ok, ↓DL.par_st, DL.psB_ok, ↓DL.asg_st, DL.asB1_ok, DL.asB2_ok, ↓DL.aug_st, DL.agB_ok, DL.agC_ok, ↓DL.app_st, DL.apS_ok, ↓DL.itm_st, DL.imB_ok, DL.imC_ok, ↓DL.rvs_st, DL.rvB_ok, ↓DL.retO_st, DL.roB_own, DL.roB_sh, ↓DL.frz_st, ↓DL.frzS_st, DL.fzB_own, DL.fzB_sh, DL.fzB_un, ↓DL.itR1_st, DL.r1B_ok, DL.rg1_ok, DL.rg2_ok, DL.tn_add1, DL.tn_succ, DL.tn_nat, DL.tn_pred, DL.tn_sub, DL.len0, DL.len1, DL.len2, DL.len3, DL.len4, DL.gSh_eq, DL.gAny_eq, DL.gS_sh, DL.gA_sh, DL.gA_own, DL.gA_io, DL.ownL_eq, DL.oL_own, DL.oL_io, DL.put_own, DL.put_io, DL.ofO_some, DL.tru_bl, DL.tru_int, DL.tru_lst, DL.len_tx, DL.len_lst, DL.len_tup, DL.ix_tx, DL.ix_lst, DL.ix_tup, DL.sl_tx, DL.sl_lst, DL.sl_tup, DL.plus_tx, DL.plus_int, DL.plus_lst, DL.plus_tup, DL.cat_lst, DL.rep_lst1, DL.zD_tx, DL.zD_lst, DL.zD_tup, DL.rev_tx, DL.en_tx, DL.tup_lst, DL.lst_tup, DL.isi_tx, DL.isi_int, DL.isi_intb, DL.isi_tt, DL.isi_lt, DL.isi_int_tl, DL.isi_non_tl, DL.isi_tup_tl, DL.isi_tup_l, DL.isi_int_s, DL.isi_non_s, DL.eq_bl, DL.ne_bl, DL.eq_non, DL.isn_i, DL.isn_n, DL.sub_int', DL.add_ip, DL.sub_ip, DL.mul_int', DL.lt_int, DL.gt_int, DL.ge_int, DL.le_int, DL.eq_int, DL.ne_int, DL.eq_tx, DL.ne_tx, DL.isn_int, DL.isn_non, DL.isb, DL.neg_int, DL.int_int, DL.atI_nat, DL.atI_zero, DL.atI_one, DL.atI_two, DL.atI_three, DL.atI_succ, DL.atI_last, DL.cut_to, DL.cut_from, DL.cut_both, DL.cut_butlast, DL.sum_nl, DL.sum_nt, DL.mul_tx1, DL.mul_tup, List.getElem?_cons_zero, List.getElem?_cons_succ, List.set_cons_zero, List.set_cons_succ, List.length_cons, List.length_nil, List.map_nil, List.length_map, List.cons.injEq, and_true, eq_self, decide_true, decide_false, Bool.not_true, Bool.not_false, Option.map_some, Int.reduceLT, Int.reduceLE, Int.reduceAdd, Int.reduceSub, Int.reduceMul, Int.reduceNeg, Int.reduceEq, Nat.reduceAdd, Nat.reduceSub, e6', q1]) ?_
  refine seq_nx (r1 := EL sc row7 (.sh (tx f)) (.sh (tx g)) (.sh so) (.sh (ni v5)) (.sh (tn es)) (.sh (ni (n + 1))) (.sh (ni (k + 1))) .un .un .un .un) (by simp (disch := first | omega | (simp; done) | (simp; omega)) only [↓DL.we_e, DL.weB_ok, ↓DL.ts_e, DL.tsB_ok, ↓DL.tsE_e, DL.tsE_ok, DL.prB_ok, ↓DL.tr_e, DL.trB_ok, ↓DL.trE_e, DL.trE_ok, ↓DL.bn_e, DL.bnB_ok, ↓DL.bnE_e, DL.bnE_ok, DL.bnE2_ok, ↓DL.ap_e, DL.apB_ok, ↓DL.itN_e, ↓DL.apE_e, DL.apE_ok, ↓DL.itX_e, DL.apX_ok, ↓DL.un1_e, ↓DL.aNil_e, ↓DL.aCons_e, DL.acB_ok, ↓DL.aConsE_e, DL.acE_ok, DL.acE2_ok, ↓DL.kc_e, ↓DL.notB_e, DL.ntB_ok, ↓DL.notV_e, DL.ntV_ok, ↓DL.notE_e, DL.ntE_ok, ↓DL.andB_e, DL.anB_t, DL.anB_f, ↓DL.orB_e, DL.orB_t, DL.orB_f, ↓DL.andV_e, DL.anV_t, DL.anV_f, ↓DL.orV_e, DL.roV_t, DL.roV_f, ↓DL.ifV_e, DL.ivB_t, DL.ivB_f, ↓DL.ifVE_e, DL.ivE_t, DL.ivE_f, ↓DL.andE_e, DL.anE_t, DL.anE_f, ↓DL.orE_e, DL.roE_t, DL.roE_f, ↓DL.chn_e, DL.chB_ok, DL.chB2_t, DL.chB2_f, ↓DL.oNone_e, ↓DL.oSome_e, DL.osB_ok, ↓DL.sl3_e, DL.s3B_ok, ↓DL.mthV_e, DL.mvB_tx, ↓DL.mthL_e, DL.mlB_ok, ↓DL.mkT_e, DL.mtB_ok, ↓DL.mkL_e, DL.mlB'_ok, ↓DL.mkTE_e, DL.mtE_ok, ↓DL.gSet_e, ↓DL.gTup_e, ↓DL.gsCons_e, DL.gcB_ok, ↓DL.gsNil_e, ↓DL.seq_st, DL.sq_nx, DL.sq_rt, DL.sq_bk, DL.sq_ct, ↓DL.if_st, DL.ifB_y, DL.ifB_n, ↓DL.set_st, DL.stB_ok, ↓DL.ret_st, DL.rtB_ok, ↓DL.seto_st, DL.soB_ok, ↓DL.for_st', DL.frB_ok, DL.forD_nil, ↓DL.expr_st, DL.exB_ok, ↓DL.skip_st, ↓DL.retN_st, ↓DL.brk_st, ↓DL.call_st, DL.clB_ok, ↓DL.callE_st, DL.clE_ok, DL.R_at_ok, ↓DL.callIO_st, DL.ciB_ok, DL.ciC_ok, DL.ciD_ok, ↓DL.par_st, DL.psB_ok, ↓DL.asg_st, DL.asB1_ok, DL.asB2_ok, ↓DL.aug_st, DL.agB_ok, DL.agC_ok, ↓DL.app_st, DL.apS_ok, ↓DL.itm_st, DL.imB_ok, DL.imC_ok, ↓DL.rvs_st, DL.rvB_ok, ↓DL.retO_st, DL.roB_own, DL.roB_sh, ↓DL.frz_st, ↓DL.frzS_st, DL.fzB_own, DL.fzB_sh, DL.fzB_un, ↓DL.itR1_st, DL.r1B_ok, DL.rg1_ok, DL.rg2_ok, DL.tn_add1, DL.tn_succ, DL.tn_nat, DL.tn_pred, DL.tn_sub, DL.len0, DL.len1, DL.len2, DL.len3, DL.len4, DL.gSh_eq, DL.gAny_eq, DL.gS_sh, DL.gA_sh, DL.gA_own, DL.gA_io, DL.ownL_eq, DL.oL_own, DL.oL_io, DL.put_own, DL.put_io, DL.ofO_some, DL.tru_bl, DL.tru_int, DL.tru_lst, DL.len_tx, DL.len_lst, DL.len_tup, DL.ix_tx, DL.ix_lst, DL.ix_tup, DL.sl_tx, DL.sl_lst, DL.sl_tup, DL.plus_tx, DL.plus_int, DL.plus_lst, DL.plus_tup, DL.cat_lst, DL.rep_lst1, DL.zD_tx, DL.zD_lst, DL.zD_tup, DL.rev_tx, DL.en_tx, DL.tup_lst, DL.lst_tup, DL.isi_tx, DL.isi_int, DL.isi_intb, DL.isi_tt, DL.isi_lt, DL.isi_int_tl, DL.isi_non_tl, DL.isi_tup_tl, DL.isi_tup_l, DL.isi_int_s, DL.isi_non_s, DL.eq_bl, DL.ne_bl, DL.eq_non, DL.isn_i, DL.isn_n, DL.sub_int', DL.add_ip, DL.sub_ip, DL.mul_int', DL.lt_int, DL.gt_int, DL.ge_int, DL.le_int, DL.eq_int, DL.ne_int, DL.eq_tx, DL.ne_tx, DL.isn_int, DL.isn_non, DL.isb, DL.neg_int, DL.int_int, DL.atI_nat, DL.atI_zero, DL.atI_one, DL.atI_two, DL.atI_three, DL.atI_succ, DL.atI_last, DL.cut_to, DL.cut_from, DL.cut_both, DL.cut_butlast, DL.sum_nl, DL.sum_nt, DL.mul_tx1, DL.mul_tup, List.getElem?_cons_zero, List.getElem?_cons_succ, List.set_cons_zero, List.set_cons_succ, List.length_cons, List.length_nil, List.map_nil, List.length_map, List.cons.injEq, and_true, eq_self, decide_true, decide_false, Bool.not_true, Bool.not_false, Option.map_some, Int.reduceLT, Int.reduceLE, Int.reduceAdd, Int.reduceSub, Int.reduceMul, Int.reduceNeg, Int.reduceEq, Nat.reduceAdd, Nat.reduceSub, e7, q2]) ?_
  refine seq_nx (r1 := EL sc row7 (.sh (tx f)) (.sh (tx g)) (.sh so) (.sh (ni v5)) (.sh (tn es)) (.sh (ni (n + 1))) (.sh (ni (k + 1))) (.sh (.int 1)) .un .un .un) (by simp (disch := first | omega | (simp; done) | (simp; omega)) only [↓DL.we_e, DL.weB_ok, ↓DL.ts_e, DL.tsB_ok, ↓DL.tsE_e, DL.tsE_ok, DL.prB_ok, ↓DL.tr_e, DL.trB_ok, ↓DL.trE_e, DL.trE_ok, ↓DL.bn_e, DL.bnB_ok, ↓DL.bnE_e, DL.bnE_ok, DL.bnE2_ok, ↓DL.ap_e, DL.apB_ok, ↓DL.itN_e, ↓DL.apE_e, DL.apE_ok, ↓DL.itX_e, DL.apX_ok, ↓DL.un1_e, ↓DL.aNil_e, ↓DL.aCons_e, DL.acB_ok, ↓DL.aConsE_e, DL.acE_ok, DL.acE2_ok, ↓DL.kc_e, ↓DL.notB_e, DL.ntB_ok, ↓DL.notV_e, DL.ntV_ok, ↓DL.notE_e, DL.ntE_ok, ↓DL.andB_e, DL.anB_t, DL.anB_f, ↓DL.orB_e, DL.orB_t, DL.orB_f, ↓DL.andV_e, DL.anV_t, DL.anV_f, ↓DL.orV_e, DL.roV_t, DL.roV_f, ↓DL.ifV_e, DL.ivB_t, DL.ivB_f, ↓DL.ifVE_e, DL.ivE_t, DL.ivE_f, ↓DL.andE_e, DL.anE_t, DL.anE_f, ↓DL.orE_e, DL.roE_t, DL.roE_f, ↓DL.chn_e, DL.chB_ok, DL.chB2_t, DL.chB2_f, ↓DL.oNone_e, ↓DL.oSome_e, DL.osB_ok, ↓DL.sl3_e, DL.s3B_ok, ↓DL.mthV_e, DL.mvB_tx, ↓DL.mthL_e, DL.mlB_ok, ↓DL.mkT_e, DL.mtB_ok, ↓DL.mkL_e, DL.mlB'_ok, ↓DL.mkTE_e, DL.mtE_ok, ↓DL.gSet_e, ↓DL.gTup_e, ↓DL.gsCons_e, DL.gcB_ok, ↓DL.gsNil_e, ↓DL.seq_st, DL.sq_nx, DL.sq_rt, DL.sq_bk, DL.sq_ct, ↓DL.if_st, DL.ifB_y, DL.ifB_n, ↓DL.set_st, DL.stB_ok, ↓DL.ret_st, DL.rtB_ok, ↓DL.seto_st, DL.soB_ok, ↓DL.for_st', DL.frB_ok, DL.forD_nil, ↓DL.expr_st, DL.exB_ok, ↓DL.skip_st, ↓DL.retN_st, ↓DL.brk_st, ↓DL.call_st, DL.clB_ok, ↓DL.callE_st, DL.clE_ok, DL.R_at_ok, ↓DL.callIO_st, DL.ciB_ok, DL.ciC_ok, DL.ciD_ok, ↓DL.par_st, DL.psB_ok, ↓DL.asg_st, DL.asB1_ok, DL.asB2_ok, ↓DL.aug_st, DL.agB_ok, DL.agC_ok, ↓DL.app_st, DL.apS_ok, ↓DL.itm_st, DL.imB_ok, DL.imC_ok, ↓DL.rvs_st, DL.rvB_ok, ↓DL.retO_st, DL.roB_own, DL.roB_sh, ↓DL.frz_st, ↓DL.frzS_st, DL.fzB_own, DL.fzB_sh, DL.fzB_un, ↓DL.itR1_st, DL.r1B_ok, DL.rg1_ok, DL.rg2_ok, DL.tn_add1, DL.tn_succ, DL.tn_nat, DL.tn_pred, DL.tn_sub, DL.len0, DL.len1, DL.len2, DL.len3, DL.len4, DL.gSh_eq, DL.gAny_eq, DL.gS_sh, DL.gA_sh, DL.gA_own, DL.gA_io, DL.ownL_eq, DL.oL_own, DL.oL_io, DL.put_own, DL.put_io, DL.ofO_some, DL.tru_bl, DL.tru_int, DL.tru_lst, DL.len_tx, DL.len_lst, DL.len_tup, DL.ix_tx, DL.ix_lst, DL.ix_tup, DL.sl_tx, DL.sl_lst, DL.sl_tup, DL.plus_tx, DL.plus_int, DL.plus_lst, DL.plus_tup, DL.cat_lst, DL.rep_lst1, DL.zD_tx, DL.zD_lst, DL.zD_tup, DL.rev_tx, DL.en_tx, DL.tup_lst, DL.lst_tup, DL.isi_tx, DL.isi_int, DL.isi_intb, DL.isi_tt, DL.isi_lt, DL.isi_int_tl, DL.isi_non_tl, DL.isi_tup_tl, DL.isi_tup_l, DL.isi_int_s, DL.isi_non_s, DL.eq_bl, DL.ne_bl, DL.eq_non, DL.isn_i, DL.isn_n, DL.sub_int', DL.add_ip, DL.sub_ip, DL.mul_int', DL.lt_int, DL.gt_int, DL.ge_int, DL.le_int, DL.eq_int, DL.ne_int, DL.eq_tx, DL.ne_tx, DL.isn_int, DL.isn_non, DL.isb, DL.neg_int, DL.int_int, DL.atI_nat, DL.atI_zero, DL.atI_one, DL.atI_two, DL.atI_three, DL.atI_succ, DL.atI_last, DL.cut_to, DL.cut_from, DL.cut_both, DL.cut_butlast, DL.sum_nl, DL.sum_nt, DL.mul_tx1, DL.mul_tup, List.getElem?_cons_zero, List.getElem?_cons_succ, List.set_cons_zero, List.set_cons_succ, List.length_cons, List.length_nil, List.map_nil, List.length_map, List.cons.injEq, and_true, eq_self, decide_true, decide_false, Bool.not_true, Bool.not_false, Option.map_some, Int.reduceLT, Int.reduceLE, Int.reduceAdd, Int.reduceSub, Int.reduceMul, Int.reduceNeg, Int.reduceEq, Nat.reduceAdd, Nat.reduceSub]) ?_
  refine seq_nx (for_p (by simp (disch := first | omega | (simp; done) | (simp; omega)) only [↓DL.we_e, DL.weB_ok, ↓DL.ts_e, DL.tsB_ok, ↓DL.tsE_e, DL.tsE_ok, DL.prB_ok, ↓DL.tr_e, DL.trB_ok, ↓DL.trE_e, DL.trE_ok, ↓DL.bn_e, DL.bnB_ok, ↓DL.bnE_e, DL.bnE_ok, DL.bnE2_ok, ↓DL.ap_e, DL.apB_ok, ↓DL.itN_e, ↓DL.apE_e, DL.apE_ok, ↓DL.itX_e, DL.apX_ok, ↓DL.un1_e, ↓DL.aNil_e, ↓DL.aCons_e, DL.acB_ok, ↓DL.aConsE_e, DL.acE_ok, DL.acE2_ok, ↓DL.kc_e, ↓DL.notB_e, DL.ntB_ok, ↓DL.notV_e, DL.ntV_ok, ↓DL.notE_e, DL.ntE_ok, ↓DL.andB_e, DL.anB_t, DL.anB_f, ↓DL.orB_e, DL.orB_t, DL.orB_f, ↓DL.andV_e, DL.anV_t, DL.anV_f, ↓DL.orV_e, DL.roV_t, DL.roV_f, ↓DL.ifV_e, DL.ivB_t, DL.ivB_f, ↓DL.ifVE_e, DL.ivE_t, DL.ivE_f, ↓DL.andE_e, DL.anE_t, DL.anE_f, ↓DL.orE_e, DL.roE_t, DL.roE_f, ↓DL.chn_e, DL.chB_ok, DL.chB2_t, DL.chB2_f, ↓DL.oNone_e, ↓DL.oSome_e, DL.osB_ok, ↓DL.sl3_e, DL.s3B_ok, ↓DL.mthV_e, DL.mvB_tx, ↓DL.mthL_e, DL.mlB_ok, ↓DL.mkT_e, DL.mtB_ok, ↓DL.mkL_e, DL.mlB'_ok, ↓DL.mkTE_e, DL.mtE_ok, ↓DL.gSet_e, ↓DL.gTup_e, ↓DL.gsCons_e, DL.gcB_ok, ↓DL.gsNil_e, ↓DL.seq_st, DL.sq_nx, DL.sq_rt, DL.sq_bk, DL.sq_ct, ↓DL.if_st, DL.ifB_y, DL.ifB_n, ↓DL.set_st, DL.stB_ok, ↓DL.ret_st, DL.rtB_ok, ↓DL.seto_st, DL.soB_ok, ↓DL.for_st', DL.frB_ok, DL.forD_nil, ↓DL.expr_st, DL.exB_ok, ↓DL.skip_st, ↓DL.retN_st, ↓DL.brk_st, ↓DL.call_st, DL.clB_ok, ↓DL.callE_st, DL.clE_ok, DL.R_at_ok, ↓DL.callIO_st, DL.ciB_ok, DL.ciC_ok, DL.ciD_ok, ↓DL.par_st, DL.psB_ok, ↓DL.asg_st, DL.asB1_ok, DL.asB2_ok, ↓DL.aug_st, DL.agB_ok, DL.agC_ok, ↓DL.app_st, DL.apS_ok, ↓DL.itm_st, DL.imB_ok, DL.imC_ok, ↓DL.rvs_st, DL.rvB_ok, ↓DL.retO_st, DL.roB_own, DL.roB_sh, ↓DL.frz_st, ↓DL.frzS_st, DL.fzB_own, DL.fzB_sh, DL.fzB_un, ↓DL.itR1_st, DL.r1B_ok, DL.rg1_ok, DL.rg2_ok, DL.tn_add1, DL.tn_succ, DL.tn_nat, DL.tn_pred, DL.tn_sub, DL.len0, DL.len1, DL.len2, DL.len3, DL.len4, DL.gSh_eq, DL.gAny_eq, DL.gS_sh, DL.gA_sh, DL.gA_own, DL.gA_io, DL.ownL_eq, DL.oL_own, DL.oL_io, DL.put_own, DL.put_io, DL.ofO_some, DL.tru_bl, DL.tru_int, DL.tru_lst, DL.len_tx, DL.len_lst, DL.len_tup, DL.ix_tx, DL.ix_lst, DL.ix_tup, DL.sl_tx, DL.sl_lst, DL.sl_tup, DL.plus_tx, DL.plus_int, DL.plus_lst, DL.plus_tup, DL.cat_lst, DL.rep_lst1, DL.zD_tx, DL.zD_lst, DL.zD_tup, DL.rev_tx, DL.en_tx, DL.tup_lst, DL.lst_tup, DL.isi_tx, DL.isi_int, DL.isi_intb, DL.isi_tt, DL.isi_lt, DL.isi_int_tl, DL.isi_non_tl, DL.isi_tup_tl, DL.isi_tup_l, DL.isi_int_s, DL.isi_non_s, DL.eq_bl, DL.ne_bl, DL.eq_non, DL.isn_i, DL.isn_n, DL.sub_int', DL.add_ip, DL.sub_ip, DL.mul_int', DL.lt_int, DL.gt_int, DL.ge_int, DL.le_int, DL.eq_int, DL.ne_int, DL.eq_tx, DL.ne_tx, DL.isn_int, DL.isn_non, DL.isb, DL.neg_int, DL.int_int, DL.atI_nat, DL.atI_zero, DL.atI_one, DL.atI_two, DL.atI_three, DL.atI_succ, DL.atI_last, DL.cut_to, DL.cut_from, DL.cut_both, DL.cut_butlast, DL.sum_nl, DL.sum_nt, DL.mul_tx1, DL.mul_tup, List.getElem?_cons_zero, List.getElem?_cons_succ, List.set_cons_zero, List.set_cons_succ, List.length_cons, List.length_nil, List.map_nil, List.length_map, List.cons.injEq, and_true, eq_self, decide_true, decide_false, Bool.not_true, Bool.not_false, Option.map_some, Int.reduceLT, Int.reduceLE, Int.reduceAdd, Int.reduceSub, Int.reduceMul, Int.reduceNeg, Int.reduceEq, Nat.reduceAdd, Nat.reduceSub, q5, q6]) w1) ?_
  refine seq_nx (if_n (cond_p (b := false) (by simp (disch := first | omega | (simp; done) | (simp; omega)) only [↓DL.we_e, DL.weB_ok, ↓DL.ts_e, DL.tsB_ok, ↓DL.tsE_e, DL.tsE_ok, DL.prB_ok, ↓DL.tr_e, DL.trB_ok, ↓DL.trE_e, DL.trE_ok, ↓DL.bn_e, DL.bnB_ok, ↓DL.bnE_e, DL.bnE_ok, DL.bnE2_ok, ↓DL.ap_e, DL.apB_ok, ↓DL.itN_e, ↓DL.apE_e, DL.apE_ok, ↓DL.itX_e, DL.apX_ok, ↓DL.un1_e, ↓DL.aNil_e, ↓DL.aCons_e, DL.acB_ok, ↓DL.aConsE_e, DL.acE_ok, DL.acE2_ok, ↓DL.kc_e, ↓DL.notB_e, DL.ntB_ok, ↓DL.notV_e, DL.ntV_ok, ↓DL.notE_e, DL.ntE_ok, ↓DL.andB_e, DL.anB_t, DL.anB_f, ↓DL.orB_e, DL.orB_t, DL.orB_f, ↓DL.andV_e, DL.anV_t, DL.anV_f, ↓DL.orV_e, DL.roV_t, DL.roV_f, ↓DL.ifV_e, DL.ivB_t, DL.ivB_f, ↓DL.ifVE_e, DL.ivE_t, DL.ivE_f, ↓DL.andE_e, DL.anE_t, DL.anE_f, ↓DL.orE_e, DL.roE_t, DL.roE_f, ↓DL.chn_e, DL.chB_ok, DL.chB2_t, DL.chB2_f, ↓DL.oNone_e, ↓DL.oSome_e, DL.osB_ok, ↓DL.sl3_e, DL.s3B_ok, ↓DL.mthV_e, DL.mvB_tx, ↓DL.mthL_e, DL.mlB_ok, ↓DL.mkT_e, DL.mtB_ok, ↓DL.mkL_e, DL.mlB'_ok, ↓DL.mkTE_e, DL.mtE_ok, ↓DL.gSet_e, ↓DL.gTup_e, ↓DL.gsCons_e, DL.gcB_ok, ↓DL.gsNil_e, ↓DL.seq_st, DL.sq_nx, DL.sq_rt, DL.sq_bk, DL.sq_ct, ↓DL.if_st, DL.ifB_y, DL.ifB_n, ↓DL.set_st, DL.stB_ok, ↓DL.ret_st, DL.rtB_ok, ↓DL.seto_st, DL.soB_ok, ↓DL.for_st', DL.frB_ok, DL.forD_nil, ↓DL.expr_st, DL.exB_ok, ↓DL.skip_st, ↓DL.retN_st, ↓DL.brk_st, ↓DL.call_st, DL.clB_ok, ↓DL.callE_st, DL.clE_ok, DL.R_at_ok, ↓DL.callIO_st, DL.ciB_ok, DL.ciC_ok, DL.ciD_ok, ↓DL.par_st, DL.psB_ok, ↓DL.asg_st, DL.asB1_ok, DL.asB2_ok, ↓DL.aug_st, DL.agB_ok, DL.agC_ok, ↓DL.app_st, DL.apS_ok, ↓DL.itm_st, DL.imB_ok, DL.imC_ok, ↓DL.rvs_st, DL.rvB_ok, ↓DL.retO_st, DL.roB_own, DL.roB_sh, ↓DL.frz_st, ↓DL.frzS_st, DL.fzB_own, DL.fzB_sh, DL.fzB_un, ↓DL.itR1_st, DL.r1B_ok, DL.rg1_ok, DL.rg2_ok, DL.tn_add1, DL.tn_succ, DL.tn_nat, DL.tn_pred, DL.tn_sub, DL.len0, DL.len1, DL.len2, DL.len3, DL.len4, DL.gSh_eq, DL.gAny_eq, DL.gS_sh, DL.gA_sh, DL.gA_own, DL.gA_io, DL.ownL_eq, DL.oL_own, DL.oL_io, DL.put_own, DL.put_io, DL.ofO_some, DL.tru_bl, DL.tru_int, DL.tru_lst, DL.len_tx, DL.len_lst, DL.len_tup, DL.ix_tx, DL.ix_lst, DL.ix_tup, DL.sl_tx, DL.sl_lst, DL.sl_tup, DL.plus_tx, DL.plus_int, DL.plus_lst, DL.plus_tup, DL.cat_lst, DL.rep_lst1, DL.zD_tx, DL.zD_lst, DL.zD_tup, DL.rev_tx, DL.en_tx, DL.tup_lst, DL.lst_tup, DL.isi_tx, DL.isi_int, DL.isi_intb, DL.isi_tt, DL.isi_lt, DL.isi_int_tl, DL.isi_non_tl, DL.isi_tup_tl, DL.isi_tup_l, DL.isi_int_s, DL.isi_non_s, DL.eq_bl, DL.ne_bl, DL.eq_non, DL.isn_i, DL.isn_n, DL.sub_int', DL.add_ip, DL.sub_ip, DL.mul_int', DL.lt_int, DL.gt_int, DL.ge_int, DL.le_int, DL.eq_int, DL.ne_int, DL.eq_tx, DL.ne_tx, DL.isn_int, DL.isn_non, DL.isb, DL.neg_int, DL.int_int, DL.atI_nat, DL.atI_zero, DL.atI_one, DL.atI_two, DL.atI_three, DL.atI_succ, DL.atI_last, DL.cut_to, DL.cut_from, DL.cut_both, DL.cut_butlast, DL.sum_nl, DL.sum_nt, DL.mul_tx1, DL.mul_tup, List.getElem?_cons_zero, List.getElem?_cons_succ, List.set_cons_zero, List.set_cons_succ, List.length_cons, List.length_nil, List.map_nil, List.length_map, List.cons.injEq, and_true, eq_self, decide_true, decide_false, Bool.not_true, Bool.not_false, Option.map_some, Int.reduceLT, Int.reduceLE, Int.reduceAdd, Int.reduceSub, Int.reduceMul, Int.reduceNeg, Int.reduceEq, Nat.reduceAdd, Nat.reduceSub, m1, m2, r1])) rfl) ?_
  refine seq_nx (r1 := EL sc row9 (.sh (tx f)) (.sh (tx g)) (.sh so) (.sh (ni v5)) (.sh (tn es)) (.sh (ni (n + 1))) (.sh (ni (k + 1))) (.sh (ni (ch n k))) y10 (.sh (ni far)) .un) (by simp (disch := first | omega | (simp; done) | (simp; omega)) only [↓DL.we_e, DL.weB_ok, ↓DL.ts_e, DL.tsB_ok, ↓DL.tsE_e, DL.tsE_ok, DL.prB_ok, ↓DL.tr_e, DL.trB_ok, ↓DL.trE_e, DL.trE_ok, ↓DL.bn_e, DL.bnB_ok, ↓DL.bnE_e, DL.bnE_ok, DL.bnE2_ok, ↓DL.ap_e, DL.apB_ok, ↓DL.itN_e, ↓DL.apE_e, DL.apE_ok, ↓DL.itX_e, DL.apX_ok, ↓DL.un1_e, ↓DL.aNil_e, ↓DL.aCons_e, DL.acB_ok, ↓DL.aConsE_e, DL.acE_ok, DL.acE2_ok, ↓DL.kc_e, ↓DL.notB_e, DL.ntB_ok, ↓DL.notV_e, DL.ntV_ok, ↓DL.notE_e, DL.ntE_ok, ↓DL.andB_e, DL.anB_t, DL.anB_f, ↓DL.orB_e, DL.orB_t, DL.orB_f, ↓DL.andV_e, DL.anV_t, DL.anV_f, ↓DL.orV_e, DL.roV_t, DL.roV_f, ↓DL.ifV_e, DL.ivB_t, DL.ivB_f, ↓DL.ifVE_e, DL.ivE_t, DL.ivE_f, ↓DL.andE_e, DL.anE_t, DL.anE_f, ↓DL.orE_e, DL.roE_t, DL.roE_f, ↓DL.chn_e, DL.chB_ok, DL.chB2_t, DL.chB2_f, ↓DL.oNone_e, ↓DL.oSome_e, DL.osB_ok, ↓DL.sl3_e, DL.s3B_ok, ↓DL.mthV_e, DL.mvB_tx, ↓DL.mthL_e, DL.mlB_ok, ↓DL.mkT_e, DL.mtB_ok, ↓DL.mkL_e, DL.mlB'_ok, ↓DL.mkTE_e, DL.mtE_ok, ↓DL.gSet_e, ↓DL.gTup_e, ↓DL.gsCons_e, DL.gcB_ok, ↓DL.gsNil_e, ↓DL.seq_st, DL.sq_nx, DL.sq_rt, DL.sq_bk, DL.sq_ct, ↓DL.if_st, DL.ifB_y, DL.ifB_n, ↓DL.set_st, DL.stB_ok, ↓DL.ret_st, DL.rtB_ok, ↓DL.seto_st, DL.soB_ok, ↓DL.for_st', DL.frB_ok, DL.forD_nil, ↓DL.expr_st, DL.exB_ok, ↓DL.skip_st, ↓DL.retN_st, ↓DL.brk_st, ↓DL.call_st, DL.clB_ok, ↓DL.callE_st, DL.clE_ok, DL.R_at_ok, ↓DL.callIO_st, DL.ciB_ok, DL.ciC_ok, DL.ciD_ok, ↓DL.par_st, DL.psB_ok, ↓DL.asg_st, DL.asB1_ok, DL.asB2_ok, ↓DL.aug_st, DL.agB_ok, DL.agC_ok, ↓DL.app_st, DL.apS_ok, ↓DL.itm_st, DL.imB_ok, DL.imC_ok, ↓DL.rvs_st, DL.rvB_ok, ↓DL.retO_st, DL.roB_own, DL.roB_sh, ↓DL.frz_st, ↓DL.frzS_st, DL.fzB_own, DL.fzB_sh, DL.fzB_un, ↓DL.itR1_st, DL.r1B_ok, DL.rg1_ok, DL.rg2_ok, DL.tn_add1, DL.tn_succ, DL.tn_nat, DL.tn_pred, DL.tn_sub, DL.len0, DL.len1, DL.len2, DL.len3, DL.len4, DL.gSh_eq, DL.gAny_eq, DL.gS_sh, DL.gA_sh, DL.gA_own, DL.gA_io, DL.ownL_eq, DL.oL_own, DL.oL_io, DL.put_own, DL.put_io, DL.ofO_some, DL.tru_bl, DL.tru_int, DL.tru_lst, DL.len_tx, DL.len_lst, DL.len_tup, DL.ix_tx, DL.ix_lst, DL.ix_tup, DL.sl_tx, DL.sl_lst, DL.sl_tup, DL.plus_tx, DL.plus_int, DL.plus_lst, DL.plus_tup, DL.cat_lst, DL.rep_lst1, DL.zD_tx, DL.zD_lst, DL.zD_tup, DL.rev_tx, DL.en_tx, DL.tup_lst, DL.lst_tup, DL.isi_tx, DL.isi_int, DL.isi_intb, DL.isi_tt, DL.isi_lt, DL.isi_int_tl, DL.isi_non_tl, DL.isi_tup_tl, DL.isi_tup_l, DL.isi_int_s, DL.isi_non_s, DL.eq_bl, DL.ne_bl, DL.eq_non, DL.isn_i, DL.isn_n, DL.sub_int', DL.add_ip, DL.sub_ip, DL.mul_int', DL.lt_int, DL.gt_int, DL.ge_int, DL.le_int, DL.eq_int, DL.ne_int, DL.eq_tx, DL.ne_tx, DL.isn_int, DL.isn_non, DL.isb, DL.neg_int, DL.int_int, DL.atI_nat, DL.atI_zero, DL.atI_one, DL.atI_two, DL.atI_three, DL.atI_succ, DL.atI_last, DL.cut_to, DL.cut_from, DL.cut_both, DL.cut_butlast, DL.sum_nl, DL.sum_nt, DL.mul_tx1, DL.mul_tup, List.getElem?_cons_zero, List.getElem?_cons_succ, List.set_cons_zero, List.set_cons_succ, List.length_cons, List.length_nil, List.map_nil, List.length_map, List.cons.injEq, and_true, eq_self, decide_true, decide_false, Bool.not_true, Bool.not_false, Option.map_some, Int.reduceLT, Int.reduceLE, Int.reduceAdd, Int.reduceSub, Int.reduceMul, Int.reduceNeg, Int.reduceEq, Nat.reduceAdd, Nat.reduceSub, e8', e9', q4]) ?_
  refine seq_nx (r1 := EL sc row9 (.sh (tx f)) (.sh (tx g)) (.sh so) (.sh (ni v5)) (.sh (tn es)) (.sh (ni (n + 1))) (.sh (ni (k + 1))) (.sh (ni (ch n k))) y10 (.sh (ni far)) (.sh (tn td))) (by simp (disch := first | omega | (simp; done) | (simp; omega)) only [↓DL.we_e, DL.weB_ok, ↓DL.ts_e, DL.tsB_ok, ↓DL.tsE_e, DL.tsE_ok, DL.prB_ok, ↓DL.tr_e, DL.trB_ok, ↓DL.trE_e, DL.trE_ok, ↓DL.bn_e, DL.bnB_ok, ↓DL.bnE_e, DL.bnE_ok, DL.bnE2_ok, ↓DL.ap_e, DL.apB_ok, ↓DL.itN_e, ↓DL.apE_e, DL.apE_ok, ↓DL.itX_e, DL.apX_ok, ↓DL.un1_e, ↓DL.aNil_e, ↓DL.aCons_e, DL.acB_ok, ↓DL.aConsE_e, DL.acE_ok, DL.acE2_ok, ↓DL.kc_e, ↓DL.notB_e, DL.ntB_ok, ↓DL.notV_e, DL.ntV_ok, ↓DL.notE_e, DL.ntE_ok, ↓DL.andB_e, DL.anB_t, DL.anB_f, ↓DL.orB_e, DL.orB_t, DL.orB_f, ↓DL.andV_e, DL.anV_t, DL.anV_f, ↓DL.orV_e, DL.roV_t, DL.roV_f, ↓DL.ifV_e, DL.ivB_t, DL.ivB_f, ↓DL.ifVE_e, DL.ivE_t, DL.ivE_f, ↓DL.andE_e, DL.anE_t, DL.anE_f, ↓DL.orE_e, DL.roE_t, DL.roE_f, ↓DL.chn_e, DL.chB_ok, DL.chB2_t, DL.chB2_f, ↓DL.oNone_e, ↓DL.oSome_e, DL.osB_ok, ↓DL.sl3_e, DL.s3B_ok, ↓DL.mthV_e, DL.mvB_tx, ↓DL.mthL_e, DL.mlB_ok, ↓DL.mkT_e, DL.mtB_ok, ↓DL.mkL_e, DL.mlB'_ok, ↓DL.mkTE_e, DL.mtE_ok, ↓DL.gSet_e, ↓DL.gTup_e, ↓DL.gsCons_e, DL.gcB_ok, ↓DL.gsNil_e, ↓DL.seq_st, DL.sq_nx, DL.sq_rt, DL.sq_bk, DL.sq_ct, ↓DL.if_st, DL.ifB_y, DL.ifB_n, ↓DL.set_st, DL.stB_ok, ↓DL.ret_st, DL.rtB_ok, ↓DL.seto_st, DL.soB_ok, ↓DL.for_st', DL.frB_ok, DL.forD_nil, ↓DL.expr_st, DL.exB_ok, ↓DL.skip_st, ↓DL.retN_st, ↓DL.brk_st, ↓DL.call_st, DL.clB_ok, ↓DL.callE_st, DL.clE_ok, DL.R_at_ok, ↓DL.callIO_st, DL.ciB_ok, DL.ciC_ok, DL.ciD_ok, ↓DL.par_st, DL.psB_ok, ↓DL.asg_st, DL.asB1_ok, DL.asB2_ok, ↓DL.aug_st, DL.agB_ok, DL.agC_ok, ↓DL.app_st, DL.apS_ok, ↓DL.itm_st, DL.imB_ok, DL.imC_ok, ↓DL.rvs_st, DL.rvB_ok, ↓DL.retO_st, DL.roB_own, DL.roB_sh, ↓DL.frz_st, ↓DL.frzS_st, DL.fzB_own, DL.fzB_sh, DL.fzB_un, ↓DL.itR1_st, DL.r1B_ok, DL.rg1_ok, DL.rg2_ok, DL.tn_add1, DL.tn_succ, DL.tn_nat, DL.tn_pred, DL.tn_sub, DL.len0, DL.len1, DL.len2, DL.len3, DL.len4, DL.gSh_eq, DL.gAny_eq, DL.gS_sh, DL.gA_sh, DL.gA_own, DL.gA_io, DL.ownL_eq, DL.oL_own, DL.oL_io, DL.put_own, DL.put_io, DL.ofO_some, DL.tru_bl, DL.tru_int, DL.tru_lst, DL.len_tx, DL.len_lst, DL.len_tup, DL.ix_tx, DL.ix_lst, DL.ix_tup, DL.sl_tx, DL.sl_lst, DL.sl_tup, DL.plus_tx, DL.plus_int, DL.plus_lst, DL.plus_tup, DL.cat_lst, DL.rep_lst1, DL.zD_tx, DL.zD_lst, DL.zD_tup, DL.rev_tx, DL.en_tx, DL.tup_lst, DL.lst_tup, DL.isi_tx, DL.isi_int, DL.isi_intb, DL.isi_tt, DL.isi_lt, DL.isi_int_tl, DL.isi_non_tl, DL.isi_tup_tl, DL.isi_tup_l, DL.isi_int_s, DL.isi_non_s, DL.eq_bl, DL.ne_bl, DL.eq_non, DL.isn_i, DL.isn_n, DL.sub_int', DL.add_ip, DL.sub_ip, DL.mul_int', DL.lt_int, DL.gt_int, DL.ge_int, DL.le_int, DL.eq_int, DL.ne_int, DL.eq_tx, DL.ne_tx, DL.isn_int, DL.isn_non, DL.isb, DL.neg_int, DL.int_int, DL.atI_nat, DL.atI_zero, DL.atI_one, DL.atI_two, DL.atI_three, DL.atI_succ, DL.atI_last, DL.cut_to, DL.cut_from, DL.cut_both, DL.cut_butlast, DL.sum_nl, DL.sum_nt, DL.mul_tx1, DL.mul_tup, List.getElem?_cons_zero, List.getElem?_cons_succ, List.set_cons_zero, List.set_cons_succ, List.length_cons, List.length_nil, List.map_nil, List.length_map, List.cons.injEq, and_true, eq_self, decide_true, decide_false, Bool.not_true, Bool.not_false, Option.map_some, Int.reduceLT, Int.reduceLE, Int.reduceAdd, Int.reduceSub, Int.reduceMul, Int.reduceNeg, Int.reduceEq, Nat.reduceAdd, Nat.reduceSub, m1, m2, r2]) ?_
  exact ret_p (by simp (disch := first | omega | (simp; done) | (simp; omega)) only [↓DL.we_e, DL.weB_ok, ↓DL.ts_e, DL.tsB_ok, ↓DL.tsE_e, DL.tsE_ok, DL.prB_ok, ↓DL.tr_e, DL.trB_ok, ↓DL.trE_e, DL.trE_ok, ↓DL.bn_e, DL.bnB_ok, ↓DL.bnE_e, DL.bnE_ok, DL.bnE2_ok, ↓DL.ap_e, DL.apB_ok, ↓DL.itN_e, ↓DL.apE_e, DL.apE_ok, ↓DL.itX_e, DL.apX_ok, ↓DL.un1_e, ↓DL.aNil_e, ↓DL.aCons_e, DL.acB_ok, ↓DL.aConsE_e, DL.acE_ok, DL.acE2_ok, ↓DL.kc_e, ↓DL.notB_e, DL.ntB_ok, ↓DL.notV_e, DL.ntV_ok, ↓DL.notE_e, DL.ntE_ok, ↓DL.andB_e, DL.anB_t, DL.anB_f, ↓DL.orB_e, DL.orB_t, DL.orB_f, ↓DL.andV_e, DL.anV_t, DL.anV_f, ↓DL.orV_e, DL.roV_t, DL.roV_f, ↓DL.ifV_e, DL.ivB_t, DL.ivB_f, ↓DL.ifVE_e, DL.ivE_t, DL.ivE_f, ↓DL.andE_e, DL.anE_t, DL.anE_f, ↓DL.orE_e, DL.roE_t, DL.roE_f, ↓DL.chn_e, DL.chB_ok, DL.chB2_t, DL.chB2_f, ↓DL.oNone_e, ↓DL.oSome_e, DL.osB_ok, ↓DL.sl3_e, DL.s3B_ok, ↓DL.mthV_e, DL.mvB_tx, ↓DL.mthL_e, DL.mlB_ok, ↓DL.mkT_e, DL.mtB_ok, ↓DL.mkL_e, DL.mlB'_ok, ↓DL.mkTE_e, DL.mtE_ok, ↓DL.gSet_e, ↓DL.gTup_e, ↓DL.gsCons_e, DL.gcB_ok, ↓DL.gsNil_e, ↓DL.seq_st, DL.sq_nx, DL.sq_rt, DL.sq_bk, DL.sq_ct, ↓DL.if_st, DL.ifB_y, DL.ifB_n, ↓DL.set_st, DL.stB_ok, ↓DL.ret_st, DL.rtB_ok, ↓DL.seto_st, DL.soB_ok, ↓DL.for_st', DL.frB_ok, DL.forD_nil, ↓DL.expr_st, DL.exB_ok, ↓DL.skip_st, ↓DL.retN_st, ↓DL.brk_st, ↓DL.call_st, DL.clB_ok, ↓DL.callE_st, DL.clE_ok, DL.R_at_ok, ↓DL.callIO_st, DL.ciB_ok, DL.ciC_ok, DL.ciD_ok, ↓DL.par_st, DL.psB_ok, ↓DL.asg_st, DL.asB1_ok, DL.asB2_ok, ↓DL.aug_st, DL.agB_ok, DL.agC_ok, ↓DL.app_st, DL.apS_ok, ↓DL.itm_st, DL.imB_ok, DL.imC_ok, ↓DL.rvs_st, DL.rvB_ok, ↓DL.retO_st, DL.roB_own, DL.roB_sh, ↓DL.frz_st, ↓DL.frzS_st, DL.fzB_own, DL.fzB_sh, DL.fzB_un, ↓DL.itR1_st, DL.r1B_ok, DL.rg1_ok, DL.rg2_ok, DL.tn_add1, DL.tn_succ, DL.tn_nat, DL.tn_pred, DL.tn_sub, DL.len0, DL.len1, DL.len2, DL.len3, DL.len4, DL.gSh_eq, DL.gAny_eq, DL.gS_sh, DL.gA_sh, DL.gA_own, DL.gA_io, DL.ownL_eq, DL.oL_own, DL.oL_io, DL.put_own, DL.put_io, DL.ofO_some, DL.tru_bl, DL.tru_int, DL.tru_lst, DL.len_tx, DL.len_lst, DL.len_tup, DL.ix_tx, DL.ix_lst, DL.ix_tup, DL.sl_tx, DL.sl_lst, DL.sl_tup, DL.plus_tx, DL.plus_int, DL.plus_lst, DL.plus_tup, DL.cat_lst, DL.rep_lst1, DL.zD_tx, DL.zD_lst, DL.zD_tup, DL.rev_tx, DL.en_tx, DL.tup_lst, DL.lst_tup, DL.isi_tx, DL.isi_int, DL.isi_intb, DL.isi_tt, DL.isi_lt, DL.isi_int_tl, DL.isi_non_tl, DL.isi_tup_tl, DL.isi_tup_l, DL.isi_int_s, DL.isi_non_s, DL.eq_bl, DL.ne_bl, DL.eq_non, DL.isn_i, DL.isn_n, DL.sub_int', DL.add_ip, DL.sub_ip, DL.mul_int', DL.lt_int, DL.gt_int, DL.ge_int, DL.le_int, DL.eq_int, DL.ne_int, DL.eq_tx, DL.ne_tx, DL.isn_int, DL.isn_non, DL.isb, DL.neg_int, DL.int_int, DL.atI_nat, DL.atI_zero, DL.atI_one, DL.atI_two, DL.atI_three, DL.atI_succ, DL.atI_last, DL.cut_to, DL.cut_from, DL.cut_both, DL.cut_butlast, DL.sum_nl, DL.sum_nt, DL.mul_tx1, DL.mul_tup, List.getElem?_cons_zero, List.getElem?_cons_succ, List.set_cons_zero, List.set_cons_succ, List.length_cons, List.length_nil, List.map_nil, List.length_map, List.cons.injEq, and_true, eq_self, decide_true, decide_false, Bool.not_true, Bool.not_false, Option.map_some, Int.reduceLT, Int.reduceLE, Int.reduceAdd, Int.reduceSub, Int.reduceMul, Int.reduceNeg, Int.reduceEq, Nat.reduceAdd, Nat.reduceSub, m1, m2, r3, l5])
end LW

namespace LW
open PySem L2 DL
def d__law_taken : He.DefD := ⟨("_law_taken", none), "_law_taken", "_law_taken", defArgs s__law_taken, defBody s__law_taken, defScope s__law_taken, [], []⟩
def d__law_film : He.DefD := ⟨("_law_film", none), "_law_film", "_law_film", defArgs s__law_film, defBody s__law_film, defScope s__law_film, [], []⟩
def d__law_pick : He.DefD := ⟨("_law_pick", none), "_law_pick", "_law_pick", defArgs s__law_pick, defBody s__law_pick, defScope s__law_pick, [], []⟩
def d__law_drawn : He.DefD := ⟨("_law_drawn", none), "_law_drawn", "_law_drawn", defArgs s__law_drawn, defBody s__law_drawn, defScope s__law_drawn, [], []⟩
def d__law_goal : He.DefD := ⟨("_law_goal", none), "_law_goal", "_law_goal", defArgs s__law_goal, defBody s__law_goal, defScope s__law_goal, [], []⟩
def d__law_partings : He.DefD := ⟨("_law_partings", none), "_law_partings", "_law_partings", defArgs s__law_partings, defBody s__law_partings, defScope s__law_partings, [], []⟩
def d__law_alike : He.DefD := ⟨("_law_alike", none), "_law_alike", "_law_alike", defArgs s__law_alike, defBody s__law_alike, defScope s__law_alike, [], []⟩
def d_is_letter : He.DefD := ⟨("is_letter", none), "is_letter", "is_letter", defArgs s_is_letter, defBody s_is_letter, defScope s_is_letter, [], []⟩
def d_check_film : He.DefD := ⟨("check_film", none), "check_film", "check_film", defArgs s_check_film, defBody s_check_film, defScope s_check_film, [], []⟩
def d_counts_of_block : He.DefD := ⟨("counts_of_block", none), "counts_of_block", "counts_of_block", defArgs s_counts_of_block, defBody s_counts_of_block, defScope s_counts_of_block, [], []⟩
def d_counts_behind : He.DefD := ⟨("counts_behind", none), "counts_behind", "counts_behind", defArgs s_counts_behind, defBody s_counts_behind, defScope s_counts_behind, [], []⟩
def d_count_partings : He.DefD := ⟨("count_partings", none), "count_partings", "count_partings", defArgs s_count_partings, defBody s_count_partings, defScope s_count_partings, [], []⟩
def d_is_whole : He.DefD := ⟨("is_whole", none), "is_whole", "is_whole", defArgs s_is_whole, defBody s_is_whole, defScope s_is_whole, [], []⟩
def d_check_rank : He.DefD := ⟨("check_rank", none), "check_rank", "check_rank", defArgs s_check_rank, defBody s_check_rank, defScope s_check_rank, [], []⟩
def d_places_from : He.DefD := ⟨("places_from", none), "places_from", "places_from", defArgs s_places_from, defBody s_places_from, defScope s_places_from, [], []⟩
def d_parting_at : He.DefD := ⟨("parting_at", none), "parting_at", "parting_at", defArgs s_parting_at, defBody s_parting_at, defScope s_parting_at, [], []⟩
def d_is_parting_for : He.DefD := ⟨("is_parting_for", none), "is_parting_for", "is_parting_for", defArgs s_is_parting_for, defBody s_is_parting_for, defScope s_is_parting_for, [], []⟩
def d_rank_of_parting : He.DefD := ⟨("rank_of_parting", none), "rank_of_parting", "rank_of_parting", defArgs s_rank_of_parting, defBody s_rank_of_parting, defScope s_rank_of_parting, [], []⟩
def d_law : He.DefD := ⟨("law", none), "law", "law", defArgs s_law, defBody s_law, defScope s_law, [], []⟩
def fns : List He.DefD := [d__law_taken, d__law_film, d__law_pick, d__law_drawn, d__law_goal, d__law_partings, d__law_alike, d_is_letter, d_check_film, d_counts_of_block, d_counts_behind, d_count_partings, d_is_whole, d_check_rank, d_places_from, d_parting_at, d_is_parting_for, d_rank_of_parting, d_law]
def fas : List He.Fa := [.glo "_law_taken", .glo "_law_film", .glo "_law_pick", .glo "_law_drawn", .glo "_law_goal", .glo "_law_partings", .glo "_law_alike", .glo "is_letter", .glo "check_film", .glo "counts_of_block", .glo "counts_behind", .glo "count_partings", .glo "is_whole", .glo "check_rank", .glo "places_from", .glo "parting_at", .glo "is_parting_for", .glo "rank_of_parting", .glo "law", .free "bool", .free "enumerate", .free "int", .free "isinstance", .free "len", .free "list", .free "range", .free "reversed", .free "sorted", .free "str", .free "sum", .free "tuple", .free "zip", .str "LETTERS" "abcdefgh", .int "MOST_LETTERS" 200]
abbrev Rw : PySem.W.OpenRow := PySem.W.OpenLaw.row PySem.Challenge.rw_jumpcuts_k03_whole_partings
abbrev hk : PySem.W.Hook := He.hookD 4 fas fns
def ob (s : PySem.W.SharedT) : He.AlD := He.obsDG 4 fas fns (HandSHeadRun.getT s)
theorem ob_eq (s : PySem.W.SharedT) : ob s = hk.obs s.abs := He.obsDG_eq (HandSHeadRun.getT_eq s)
def lo0 : List Str := ["CutError", "BadFilm", "BadNumber", "LETTERS", "MOST_LETTERS", "is_whole", "is_letter", "check_film", "check_rank", "places_from", "is_parting_for", "counts_of_block", "counts_behind", "count_partings", "parting_at", "rank_of_parting", "_law_taken", "_law_pick", "_law_alike", "_law_film", "_law_drawn", "_law_partings", "_law_goal"]
def loose : List Str := lo0
set_option maxHeartbeats 0 in
theorem run (w : World) : HandSHeadRun.RunEq Rw (PySem.W.view Rw.prog [27]) hk ob 4000 loose w := by
  intro os
  kernel_rfl
theorem gs_of {K : PySem.W.Frag} {h : Heap} {mg : Str → Option Value} (X : K.In h) (G : h.Ns mainGlobals mg) (c : He.SaysD fas fns K) : Gs mg where
  f_bool := He.free_ok X G (c.fact 19 (f := .free "bool") rfl)
  f_enumerate := He.free_ok X G (c.fact 20 (f := .free "enumerate") rfl)
  f_int := He.free_ok X G (c.fact 21 (f := .free "int") rfl)
  f_isinstance := He.free_ok X G (c.fact 22 (f := .free "isinstance") rfl)
  f_len := He.free_ok X G (c.fact 23 (f := .free "len") rfl)
  f_list := He.free_ok X G (c.fact 24 (f := .free "list") rfl)
  f_range := He.free_ok X G (c.fact 25 (f := .free "range") rfl)
  f_reversed := He.free_ok X G (c.fact 26 (f := .free "reversed") rfl)
  f_sorted := He.free_ok X G (c.fact 27 (f := .free "sorted") rfl)
  f_str := He.free_ok X G (c.fact 28 (f := .free "str") rfl)
  f_sum := He.free_ok X G (c.fact 29 (f := .free "sum") rfl)
  f_tuple := He.free_ok X G (c.fact 30 (f := .free "tuple") rfl)
  f_zip := He.free_ok X G (c.fact 31 (f := .free "zip") rfl)
  c_LETTERS := He.str_ok X G (c.fact 32 (f := .str "LETTERS" "abcdefgh") rfl)
  c_MOST_LETTERS := He.int_ok X G (c.fact 33 (f := .int "MOST_LETTERS" 200) rfl)
theorem facts {P : Program} {w : World} {K : PySem.W.Frag} {h : Heap} {mg : Str → Option Value} {f : Addr} (X : K.In h) (G : h.Ns mainGlobals mg) (hfa : mg ("law" : Str) = some (.ref f)) (c : He.SaysD fas fns K) :
    ∃ fd : FuncData, (∀ (s : Shared) (v : Value), BindsTo s fd ⟨[v], []⟩ [("script", v)]) ∧ ∀ base : Heap, K.In base → base.Ns mainGlobals mg → FnOk P w K mg base (L2.CX P w) 7 f fd ["script"] (SpF K mg 1 F_law) := by
  have g := gs_of X G c
  obtain ⟨e__law_taken, D__law_taken⟩ := c.def_ 0 (d := d__law_taken) rfl
  have m__law_taken := He.glo_ok X G (c.fact 0 (f := .glo "_law_taken") rfl)
  obtain ⟨e__law_film, D__law_film⟩ := c.def_ 1 (d := d__law_film) rfl
  have m__law_film := He.glo_ok X G (c.fact 1 (f := .glo "_law_film") rfl)
  obtain ⟨e__law_pick, D__law_pick⟩ := c.def_ 2 (d := d__law_pick) rfl
  have m__law_pick := He.glo_ok X G (c.fact 2 (f := .glo "_law_pick") rfl)
  obtain ⟨e__law_drawn, D__law_drawn⟩ := c.def_ 3 (d := d__law_drawn) rfl
  have m__law_drawn := He.glo_ok X G (c.fact 3 (f := .glo "_law_drawn") rfl)
  obtain ⟨e__law_goal, D__law_goal⟩ := c.def_ 4 (d := d__law_goal) rfl
  have m__law_goal := He.glo_ok X G (c.fact 4 (f := .glo "_law_goal") rfl)
  obtain ⟨e__law_partings, D__law_partings⟩ := c.def_ 5 (d := d__law_partings) rfl
  have m__law_partings := He.glo_ok X G (c.fact 5 (f := .glo "_law_partings") rfl)
  obtain ⟨e__law_alike, D__law_alike⟩ := c.def_ 6 (d := d__law_alike) rfl
  have m__law_alike := He.glo_ok X G (c.fact 6 (f := .glo "_law_alike") rfl)
  obtain ⟨e_is_letter, D_is_letter⟩ := c.def_ 7 (d := d_is_letter) rfl
  have m_is_letter := He.glo_ok X G (c.fact 7 (f := .glo "is_letter") rfl)
  obtain ⟨e_check_film, D_check_film⟩ := c.def_ 8 (d := d_check_film) rfl
  have m_check_film := He.glo_ok X G (c.fact 8 (f := .glo "check_film") rfl)
  obtain ⟨e_counts_of_block, D_counts_of_block⟩ := c.def_ 9 (d := d_counts_of_block) rfl
  have m_counts_of_block := He.glo_ok X G (c.fact 9 (f := .glo "counts_of_block") rfl)
  obtain ⟨e_counts_behind, D_counts_behind⟩ := c.def_ 10 (d := d_counts_behind) rfl
  have m_counts_behind := He.glo_ok X G (c.fact 10 (f := .glo "counts_behind") rfl)
  obtain ⟨e_count_partings, D_count_partings⟩ := c.def_ 11 (d := d_count_partings) rfl
  have m_count_partings := He.glo_ok X G (c.fact 11 (f := .glo "count_partings") rfl)
  obtain ⟨e_is_whole, D_is_whole⟩ := c.def_ 12 (d := d_is_whole) rfl
  have m_is_whole := He.glo_ok X G (c.fact 12 (f := .glo "is_whole") rfl)
  obtain ⟨e_check_rank, D_check_rank⟩ := c.def_ 13 (d := d_check_rank) rfl
  have m_check_rank := He.glo_ok X G (c.fact 13 (f := .glo "check_rank") rfl)
  obtain ⟨e_places_from, D_places_from⟩ := c.def_ 14 (d := d_places_from) rfl
  have m_places_from := He.glo_ok X G (c.fact 14 (f := .glo "places_from") rfl)
  obtain ⟨e_parting_at, D_parting_at⟩ := c.def_ 15 (d := d_parting_at) rfl
  have m_parting_at := He.glo_ok X G (c.fact 15 (f := .glo "parting_at") rfl)
  obtain ⟨e_is_parting_for, D_is_parting_for⟩ := c.def_ 16 (d := d_is_parting_for) rfl
  have m_is_parting_for := He.glo_ok X G (c.fact 16 (f := .glo "is_parting_for") rfl)
  obtain ⟨e_rank_of_parting, D_rank_of_parting⟩ := c.def_ 17 (d := d_rank_of_parting) rfl
  have m_rank_of_parting := He.glo_ok X G (c.fact 17 (f := .glo "rank_of_parting") rfl)
  obtain ⟨e_law, D_law⟩ := c.def_ 18 (d := d_law) rfl
  have e := hfa.symm.trans (He.glo_ok X G (c.fact 18 (f := .glo "law") rfl))
  cases e
  have b := FunD.bindsA (ps := ["script"]) D_law fun _ _ _ _ _ _ us hl => match us, hl with | [_], _ => rfl
  refine ⟨e_law, fun s v => b s [v] rfl, fun base _ _ => ?_⟩
  have c__law_taken := ok__law_taken (P := P) (w := w) (base := base) g D__law_taken m__law_taken 
  have c__law_film := ok__law_film (P := P) (w := w) (base := base) g D__law_film m__law_film c__law_taken
  have c__law_pick := ok__law_pick (P := P) (w := w) (base := base) g D__law_pick m__law_pick c__law_taken
  have c__law_drawn := ok__law_drawn (P := P) (w := w) (base := base) g D__law_drawn m__law_drawn c__law_pick
  have c__law_goal := ok__law_goal (P := P) (w := w) (base := base) g D__law_goal m__law_goal c__law_taken c__law_drawn c__law_pick
  have c__law_partings := ok__law_partings (P := P) (w := w) (base := base) g D__law_partings m__law_partings 
  have c__law_alike := ok__law_alike (P := P) (w := w) (base := base) g D__law_alike m__law_alike 
  have c_is_letter := ok_is_letter (P := P) (w := w) (base := base) g D_is_letter m_is_letter 
  have c_check_film := ok_check_film (P := P) (w := w) (base := base) g D_check_film m_check_film c_is_letter
  have c_counts_of_block := ok_counts_of_block (P := P) (w := w) (base := base) g D_counts_of_block m_counts_of_block 
  have c_counts_behind := ok_counts_behind (P := P) (w := w) (base := base) g D_counts_behind m_counts_behind c_counts_of_block
  have c_count_partings := ok_count_partings (P := P) (w := w) (base := base) g D_count_partings m_count_partings c_check_film c_counts_behind
  have c_is_whole := ok_is_whole (P := P) (w := w) (base := base) g D_is_whole m_is_whole 
  have c_check_rank := ok_check_rank (P := P) (w := w) (base := base) g D_check_rank m_check_rank c_is_whole
  have c_places_from := ok_places_from (P := P) (w := w) (base := base) g D_places_from m_places_from 
  have c_parting_at := ok_parting_at (P := P) (w := w) (base := base) g D_parting_at m_parting_at c_check_film c_check_rank c_counts_behind c_places_from
  have c_is_parting_for := ok_is_parting_for (P := P) (w := w) (base := base) g D_is_parting_for m_is_parting_for c_is_whole
  have c_rank_of_parting := ok_rank_of_parting (P := P) (w := w) (base := base) g D_rank_of_parting m_rank_of_parting c_check_film c_is_parting_for c_counts_behind c_places_from
  exact law_fn g D_law c__law_film c__law_taken c__law_goal c__law_partings c__law_alike c_count_partings c_parting_at c__law_pick c_rank_of_parting
end LW
open PySem PySem.W PySem.Calls PyProof.Rows
theorem PySem.Challenge.cw_jumpcuts_k03_whole_partings_holds : PySem.Challenge.rw_jumpcuts_k03_whole_partings.Holds := by
  w_on; o_law
  refine HandSHeadRun.head_any (r := OpenLaw.row PySem.Challenge.rw_jumpcuts_k03_whole_partings) (q := view (OpenLaw.row PySem.Challenge.rw_jumpcuts_k03_whole_partings).prog [27]) (H := LW.hk) (ob := LW.ob) (M := 4000) (loose := LW.loose) (d := HandSHeadRun.topDef (OpenLaw.row PySem.Challenge.rw_jumpcuts_k03_whole_partings).prog 27) (kwd := []) LW.ob_eq
    (by kernel_rfl) (fun s => by kernel_rfl) LW.run (by kernel_rfl) (by kernel_rfl) (by kernel_rfl) (by rfl) (by first | assumption | decide +kernel) (by decide +kernel) ⟨rfl, rfl, rfl, rfl, rfl, by decide +kernel⟩ ?hw ?hc
  case hw => w_witness2
  case hc =>
    refine DL.walk_data (l := PySem.Challenge.rw_jumpcuts_k03_whole_partings) (n := 63) (k := 7) (x := "script") (G := LW.F_law) rfl (by decide) (by kernel_rfl) ⟨rfl, by decide, by decide⟩ ?F LW.law_true
    intro w mg fa h Y G hmg0
    obtain ⟨K, KX, c⟩ := Y
    have hmg : mg ("law" : PySem.Str) = some (.ref fa) := by
      have e : (HandSHeadRun.topDef (OpenLaw.row PySem.Challenge.rw_jumpcuts_k03_whole_partings).prog 27).name = ("law" : PySem.Str) := by kernel_rfl
      rw [← e] <;> exact hmg0
    obtain ⟨fd, hb, hF⟩ := LW.facts (P := (PySem.Challenge.rw_jumpcuts_k03_whole_partings).prog) (w := w) KX G hmg c
    exact ⟨K, fd, KX, hb, hF⟩
