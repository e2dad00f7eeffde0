import PyProof.Rows.All
import Wide.All
import OpenK.AllK
import Wide.FinOn
import HandS.ForMost
import HandS.Walk
import HandS.Exc
import HandS.ExcOwn
import HandS.WordsExc
import HandS.IsInst
import HandS.Flow
import HandS.WideBits
import HandS.StrMore
import HandS.TupAny
import HandS.Deep
import HandS.TupLe
import HandS.SortInts
import HandS.Defaults
import HandS.HeadHook2
import KE.GoesEnum
import KE.GoesMore
import HandS.Zip
import HandS.Rev
import HandS.RevRange
import HandS.TupMul
import HandS.Style
import HandS.HeadEnd
import HandS.Ends
import HandS.Dict
import HandS.More
import HandS.SortRule
import HandS.TupSets
import PyProof.StrBlock2
import HandS.Text
import KE.KDictZip
import HandS.SetFor
import HandS.Replace
import HandS.Conv
import HandS.SetTxt0
import HandS.SetBool
import HandS.SortOrd
import KE.DataEq
import HandS.DictComp
import HandS.ListItems
import HandS.Comp
import PyProof.StrLawsIn
import HandS.Flt
import KE.KDictList
import HandS.Strs
import PyProof.DelItemList
import KE.GoesEnumKw
import HandS.SortKw
import KE.DataMinMax
import PyProof.Rows.TupReads
import HandS.FltList
import PyProof.WalkInts
import PyProof.StrWalks
import PyProof.SliceSyntax
import PySem.Challenge.RW_jumpcuts_k75_across_least_and_greatest
import HandS.Head0
import HandS.Head1
import HandS.Head2
import HandS.HeadHook1
set_option Elab.async false
set_option linter.all false
set_option maxRecDepth 100000
set_option autoImplicit false
section
namespace DL
open PySem L2

/-! ### data: values as trees -/
inductive D where
  | non | bl (b : Bool) | int (i : Int) | str (x : Str) | tup (xs : List D) | lst (xs : List D) | dct (kvs : List (Key × D)) | dctT (kvs : List (List Key × D)) | obj (fs : List (Str × D)) | dctF (kvs : List (Key × D)) | ref (a : Addr) | ty (n : String)

/-- a slot of a def: unknown; a value that nothing changes any more; a list or dict that this slot alone holds -/
inductive Slot where
  | un | sh (d : D) | own (d : D) | io (d : D)
/-- what a slot holds that it may change -/
def Slot.cont : Slot → Option D
  | .own d => some d
  | .io d => some d
  | _ => none
def Slot.put : Slot → D → Slot
  | .own _, d => .own d
  | .io _, d => .io d
  | s, _ => s
abbrev Env := List Slot
structure Ex where
  name : Str
  fs : List (Str × D)
/-- a value, an error (with the slots as they stand then), or no word -/
inductive R (α : Type) where
  | ok (a : α) | err (x : Ex) (r : Env) | stk
def R.bind {α β : Type} : R α → (α → R β) → R β
  | .ok a, g => g a
  | .err x r, _ => .err x r
  | .stk, _ => .stk
def R.ofO {α : Type} : Option α → R α
  | some a => .ok a
  | none => .stk
@[simp] def Sat {α : Type} (p : α → Prop) (q : Ex → Env → Prop) : R α → Prop
  | .ok a => p a
  | .err x r => q x r
  | .stk => False
theorem Sat.bind {α β : Type} {p : β → Prop} {q : Ex → Env → Prop} {r : R α} {g : α → R β} (h : Sat p q (r.bind g)) : Sat (fun a => Sat p q (g a)) q r := by
  cases r <;> exact h
theorem Sat.mono {α : Type} {p p' : α → Prop} {q q' : Ex → Env → Prop} {r : R α} (h : Sat p q r) (hp : ∀ a, p a → p' a) (hq : ∀ x e, q x e → q' x e) : Sat p' q' r := by
  cases r with
  | ok a => exact hp a h
  | err x e => exact hq x e h
  | stk => exact h
theorem Sat.imp {α : Type} {p p' : α → Prop} {q : Ex → Env → Prop} {r : R α} (h : Sat p q r) (hp : ∀ a, p a → p' a) : Sat p' q r := h.mono hp fun _ _ z => z
theorem Sat.ofO {α : Type} {p : α → Prop} {q : Ex → Env → Prop} {o : Option α} (h : Sat p q (R.ofO o)) : ∃ a, o = some a ∧ p a := by
  cases o with
  | none => exact h.elim
  | some a => exact ⟨a, rfl, h⟩

/-! ### how data stand in the abstract heap -/
def isT : HO → Bool
  | .tup _ => true
  | .frz _ u => isT u
  | _ => false
/-- a list of the written part -/
def WrL (K : PySem.W.Frag) (a : Addr) (xs : List V) : Prop :=
  ∃ (o : Obj) (its : Array Value) (n : Nat), K.lookup a = some o ∧ o.cls = .type "list" ∧ o.dict = none ∧ o.data = .seq its n ∧ its.size ≤ sizeLine ∧ Vals xs its.toList
/-- a tuple of the written part -/
def WrT (K : PySem.W.Frag) (a : Addr) (xs : List V) : Prop :=
  ∃ (o : Obj) (its : Array Value) (n : Nat), K.lookup a = some o ∧ o.cls = .type "tuple" ∧ o.data = .seq its n ∧ its.size ≤ sizeLine ∧ Vals xs its.toList
mutual
/-- the value v stands for d; no list or dict of it is one of A -/
def Rep (K : PySem.W.Frag) (H : Hp) (A : Addr → Prop) : D → V → Prop
  | .non, v => v = .non
  | .bl b, v => v = .bl b
  | .int i, v => v = .int i
  | .str x, v => v = .str x
  | .ref a, v => v = .ref a
  | .ty n, v => v = .ty n
  | .tup ds, v => ∃ a xs, v = .ref a ∧ (H a = some (.tup xs) ∨ WrT K a xs) ∧ RepL K H A ds xs
  | .lst ds, v => ∃ a xs, v = .ref a ∧ ((Rd H a (.lst xs) ∧ ¬ A a) ∨ WrL K a xs) ∧ RepL K H A ds xs
  | .dct kvs, v => ∃ a vs, v = .ref a ∧ H a = some (.dK vs) ∧ ¬ A a ∧ RepK K H A kvs vs
  | .dctT kvs, v => ∃ a vs, v = .ref a ∧ H a = some (.dT vs) ∧ ¬ A a ∧ RepM K H A kvs vs
  | .dctF kvs, v => ∃ a o vs, v = .ref a ∧ H a = some (.frz o (.dK vs)) ∧ ¬ A a ∧ RepK K H A kvs vs
  | .obj fs, v => ∃ a C dx vs, v = .ref a ∧ H a = some (.ins C dx vs) ∧ ¬ A a ∧ Cls K C ∧ (∀ p ∈ fs, NoAttr K C p.1) ∧ RepF K H A fs vs
def RepL (K : PySem.W.Frag) (H : Hp) (A : Addr → Prop) : List D → List V → Prop
  | [], vs => vs = []
  | d :: ds, vs => ∃ v r, vs = v :: r ∧ Rep K H A d v ∧ RepL K H A ds r
def RepK (K : PySem.W.Frag) (H : Hp) (A : Addr → Prop) : List (Key × D) → List (Key × V) → Prop
  | [], vs => vs = []
  | (k, d) :: ds, vs => ∃ v r, vs = (k, v) :: r ∧ Rep K H A d v ∧ RepK K H A ds r
def RepM (K : PySem.W.Frag) (H : Hp) (A : Addr → Prop) : List (List Key × D) → List (List Key × V) → Prop
  | [], vs => vs = []
  | (k, d) :: ds, vs => ∃ v r, vs = (k, v) :: r ∧ Rep K H A d v ∧ RepM K H A ds r
def RepF (K : PySem.W.Frag) (H : Hp) (A : Addr → Prop) : List (Str × D) → List (Str × V) → Prop
  | [], vs => vs = []
  | (k, d) :: ds, vs => ∃ v r, vs = (k, v) :: r ∧ Rep K H A d v ∧ RepF K H A ds r
end
def AOk (A : Addr → Prop) (H : Hp) : Prop := ∀ a, A a → ∃ o, H a = some o ∧ isT o = false
/-- what is not A's stays, and does not become A''s -/
def Keep (A A' : Addr → Prop) (H H' : Hp) : Prop := ∀ b o, H b = some o → ¬ A b → H' b = some o ∧ ¬ A' b
theorem Keep.refl {A : Addr → Prop} {H : Hp} : Keep A A H H := fun _ _ h n => ⟨h, n⟩
theorem Keep.trans {A A' A'' : Addr → Prop} {H H' H'' : Hp} (a : Keep A A' H H') (b : Keep A' A'' H' H'') : Keep A A'' H H'' := fun c o h n => by
  obtain ⟨h1, n1⟩ := a c o h n
  exact b c o h1 n1
theorem Keep.of {A : Addr → Prop} {H H' : Hp} (s : Same H H') : Keep A A H H' := fun b o h n => ⟨s b o h, n⟩
section
variable {K : PySem.W.Frag} {H H' : Hp} {A A' : Addr → Prop}
theorem AOk.tup (a : AOk A H) {b : Addr} {o : HO} (h : H b = some o) (t : isT o = true) : ¬ A b := fun z => by
  obtain ⟨u, e, f⟩ := a b z
  rw [h] at e
  cases e
  rw [t] at f
  cases f
theorem AOk.fresh (a : AOk A H) {p : Addr} (h : H p = none) : ¬ A p := fun z => by
  obtain ⟨u, e, f⟩ := a p z
  rw [h] at e
  cases e
theorem tup_keep (k : Keep A A' H H') (a : AOk A H) {b : Addr} {xs : List V} (h : H b = some (.tup xs) ∨ WrT K b xs) : H' b = some (.tup xs) ∨ WrT K b xs := by
  rcases h with h | h
  · exact .inl (k _ _ h (a.tup h rfl)).1
  · exact .inr h
theorem tup_sq {b : Addr} {xs : List V} (h : H b = some (.tup xs) ∨ WrT K b xs) : SqT K H b xs := by
  rcases h with h | h
  · exact .inl (.inl h)
  · exact .inr h
theorem Rd.keep (k : Keep A A' H H') {b : Addr} {u : HO} (h : Rd H b u) (n : ¬ A b) : Rd H' b u ∧ ¬ A' b := by
  rcases h with h | ⟨o, h⟩
  · exact ⟨.inl (k _ _ h n).1, (k _ _ h n).2⟩
  · exact ⟨.inr ⟨o, (k _ _ h n).1⟩, (k _ _ h n).2⟩
mutual
theorem Rep.keep (k : Keep A A' H H') (a : AOk A H) : ∀ (d : D) (v : V), Rep K H A d v → Rep K H' A' d v
  | .non, _, h => h
  | .bl _, _, h => h
  | .int _, _, h => h
  | .str _, _, h => h
  | .ref _, _, h => h
  | .ty _, _, h => h
  | .tup ds, v, h => by
    unfold Rep at h ⊢
    obtain ⟨b, xs, e, hs, hr⟩ := h
    exact ⟨b, xs, e, tup_keep k a hs, RepL.keep k a ds xs hr⟩
  | .lst ds, v, h => by
    unfold Rep at h ⊢
    obtain ⟨b, xs, e, hs, hr⟩ := h
    refine ⟨b, xs, e, ?_, RepL.keep k a ds xs hr⟩
    rcases hs with ⟨h1, h2⟩ | hs
    · exact .inl (Rd.keep k h1 h2)
    · exact .inr hs
  | .dct ds, v, h => by
    unfold Rep at h ⊢
    obtain ⟨b, xs, e, hs, hn, hr⟩ := h
    exact ⟨b, xs, e, (k _ _ hs hn).1, (k _ _ hs hn).2, RepK.keep k a ds xs hr⟩
  | .dctT ds, v, h => by
    unfold Rep at h ⊢
    obtain ⟨b, xs, e, hs, hn, hr⟩ := h
    exact ⟨b, xs, e, (k _ _ hs hn).1, (k _ _ hs hn).2, RepM.keep k a ds xs hr⟩
  | .dctF ds, v, h => by
    unfold Rep at h ⊢
    obtain ⟨b, o, xs, e, hs, hn, hr⟩ := h
    exact ⟨b, o, xs, e, (k _ _ hs hn).1, (k _ _ hs hn).2, RepK.keep k a ds xs hr⟩
  | .obj ds, v, h => by
    unfold Rep at h ⊢
    obtain ⟨b, C, dx, xs, e, hs, hn, hc, hno, hr⟩ := h
    exact ⟨b, C, dx, xs, e, (k _ _ hs hn).1, (k _ _ hs hn).2, hc, hno, RepF.keep k a ds xs hr⟩
theorem RepL.keep (k : Keep A A' H H') (a : AOk A H) : ∀ (ds : List D) (vs : List V), RepL K H A ds vs → RepL K H' A' ds vs
  | [], _, h => h
  | d :: ds, vs, h => by
    unfold RepL at h ⊢
    obtain ⟨v, r, e, h1, h2⟩ := h
    exact ⟨v, r, e, Rep.keep k a d v h1, RepL.keep k a ds r h2⟩
theorem RepK.keep (k : Keep A A' H H') (a : AOk A H) : ∀ (ds : List (Key × D)) (vs : List (Key × V)), RepK K H A ds vs → RepK K H' A' ds vs
  | [], _, h => h
  | (q, d) :: ds, vs, h => by
    unfold RepK at h ⊢
    obtain ⟨v, r, e, h1, h2⟩ := h
    exact ⟨v, r, e, Rep.keep k a d v h1, RepK.keep k a ds r h2⟩
theorem RepM.keep (k : Keep A A' H H') (a : AOk A H) : ∀ (ds : List (List Key × D)) (vs : List (List Key × V)), RepM K H A ds vs → RepM K H' A' ds vs
  | [], _, h => h
  | (q, d) :: ds, vs, h => by
    unfold RepM at h ⊢
    obtain ⟨v, r, e, h1, h2⟩ := h
    exact ⟨v, r, e, Rep.keep k a d v h1, RepM.keep k a ds r h2⟩
theorem RepF.keep (k : Keep A A' H H') (a : AOk A H) : ∀ (ds : List (Str × D)) (vs : List (Str × V)), RepF K H A ds vs → RepF K H' A' ds vs
  | [], _, h => h
  | (q, d) :: ds, vs, h => by
    unfold RepF at h ⊢
    obtain ⟨v, r, e, h1, h2⟩ := h
    exact ⟨v, r, e, Rep.keep k a d v h1, RepF.keep k a ds r h2⟩
end
theorem Rep.same (s : Same H H') (a : AOk A H) {d : D} {v : V} (h : Rep K H A d v) : Rep K H' A d v := Rep.keep (Keep.of s) a d v h
theorem RepL.same (s : Same H H') (a : AOk A H) {d : List D} {v : List V} (h : RepL K H A d v) : RepL K H' A d v := RepL.keep (Keep.of s) a d v h
end
/-- the list or dict at a, a slot's own -/
def RepO (K : PySem.W.Frag) (H : Hp) (A : Addr → Prop) : D → Addr → Prop
  | .lst ds, a => ∃ xs, H a = some (.lst xs) ∧ RepL K H A ds xs
  | .dct kvs, a => ∃ vs, H a = some (.dK vs) ∧ RepK K H A kvs vs
  | .dctT kvs, a => ∃ vs, H a = some (.dT vs) ∧ RepM K H A kvs vs
  | _, _ => False
/-- a value that is only looked at: it may be a slot's own -/
def RepB (K : PySem.W.Frag) (H : Hp) (A : Addr → Prop) (d : D) (v : V) : Prop := Rep K H A d v ∨ ∃ a, v = .ref a ∧ RepO K H A d a
section
variable {K : PySem.W.Frag} {H H' : Hp} {A A' : Addr → Prop}
theorem RepO.same (s : Same H H') (a : AOk A H) {d : D} {b : Addr} (h : RepO K H A d b) : RepO K H' A d b := by
  cases d with
  | lst ds => obtain ⟨xs, e, r⟩ := h; exact ⟨xs, s _ _ e, RepL.keep (Keep.of s) a _ _ r⟩
  | dct ds => obtain ⟨xs, e, r⟩ := h; exact ⟨xs, s _ _ e, RepK.keep (Keep.of s) a _ _ r⟩
  | dctT ds => obtain ⟨xs, e, r⟩ := h; exact ⟨xs, s _ _ e, RepM.keep (Keep.of s) a _ _ r⟩
  | _ => exact h.elim
theorem RepB.same (s : Same H H') (a : AOk A H) {d : D} {v : V} (h : RepB K H A d v) : RepB K H' A d v := by
  rcases h with h | ⟨b, e, h⟩
  · exact .inl (h.same s a)
  · exact .inr ⟨b, e, RepO.same s a h⟩
theorem RepO.isT {d : D} {b : Addr} (h : RepO K H A d b) : ∃ o, H b = some o ∧ isT o = false := by
  cases d with
  | lst ds => obtain ⟨xs, e, r⟩ := h; exact ⟨_, e, rfl⟩
  | dct ds => obtain ⟨xs, e, r⟩ := h; exact ⟨_, e, rfl⟩
  | dctT ds => obtain ⟨xs, e, r⟩ := h; exact ⟨_, e, rfl⟩
  | _ => exact h.elim
theorem RepO.keepNe (k : Keep A A' H H') (a : AOk A H) {d : D} {b : Addr} (h : RepO K H A d b) (hb : H' b = H b) : RepO K H' A' d b := by
  cases d with
  | lst ds => obtain ⟨xs, e, r⟩ := h; exact ⟨xs, hb.trans e, RepL.keep k a _ _ r⟩
  | dct ds => obtain ⟨xs, e, r⟩ := h; exact ⟨xs, hb.trans e, RepK.keep k a _ _ r⟩
  | dctT ds => obtain ⟨xs, e, r⟩ := h; exact ⟨xs, hb.trans e, RepM.keep k a _ _ r⟩
  | _ => exact h.elim
end

/-! ### the slots -/
def Av (A0 : Addr → Prop) (os : List (Option Addr)) (a : Addr) : Prop := A0 a ∨ some a ∈ os
def SlotOk (K : PySem.W.Frag) (H : Hp) (A : Addr → Prop) (io : Addr → Prop) : Slot → Option V → Option Addr → Prop
  | .un, _, o => o = none
  | .sh d, v, o => o = none ∧ ∃ u, v = some u ∧ Rep K H A d u
  | .own d, v, o => ∃ a, o = some a ∧ v = some (.ref a) ∧ RepO K H A d a
  | .io d, v, o => ∃ a, o = some a ∧ v = some (.ref a) ∧ RepO K H A d a ∧ io a
theorem SlotOk.cont {K : PySem.W.Frag} {H : Hp} {A io : Addr → Prop} {s : Slot} {d : D} {v : Option V} {o : Option Addr} (q : SlotOk K H A io s v o) (e : s.cont = some d) : ∃ a, o = some a ∧ v = some (.ref a) ∧ RepO K H A d a ∧ ∀ H' A' d', RepO K H' A' d' a → SlotOk K H' A' io (s.put d') v o := by
  cases s with
  | own d0 =>
    cases e
    obtain ⟨a, e1, e2, h⟩ := q
    exact ⟨a, e1, e2, h, fun H' A' d' h' => ⟨a, e1, e2, h'⟩⟩
  | io d0 =>
    cases e
    obtain ⟨a, e1, e2, h, i⟩ := q
    exact ⟨a, e1, e2, h, fun H' A' d' h' => ⟨a, e1, e2, h', i⟩⟩
  | _ => cases e
/-- a def's frame: the lists and dicts of its callers' slots, the heap at the entry, what it may change of it -/
structure Fm where
  A0 : Addr → Prop
  H0 : Hp
  io : Addr → Prop
structure Rel (K : PySem.W.Frag) (F : Fm) (os : List (Option Addr)) (r : Env) (σ : St) (H : Hp) : Prop where
  lens : σ.length = r.length
  leno : os.length = r.length
  slot : ∀ (i : Nat) (s : Slot) (v : Option V) (o : Option Addr), r[i]? = some s → σ[i]? = some v → os[i]? = some o → SlotOk K H (Av F.A0 os) F.io s v o
  inj : ∀ (i j : Nat) (a : Addr), os[i]? = some (some a) → os[j]? = some (some a) → i = j
  out : ∀ (i : Nat) (a : Addr), os[i]? = some (some a) → ¬ F.A0 a
  aok : ∀ (a : Addr), F.A0 a → ∃ o, H a = some o ∧ isT o = false
  same : ∀ (b : Addr) (o : HO), F.H0 b = some o → ¬ F.io b → H b = some o
  new : ∀ (i : Nat) (a : Addr), os[i]? = some (some a) → F.H0 a = none ∨ F.io a
theorem getElem?_set_cases {α : Type} {l : List α} {i j : Nat} {x y : α} (h : (l.set i x)[j]? = some y) : (i = j ∧ y = x) ∨ (i ≠ j ∧ l[j]? = some y) := by
  by_cases e : i = j
  · subst e
    by_cases hl : i < l.length
    · rw [List.getElem?_set_self hl] at h
      exact .inl ⟨rfl, (Option.some.inj h).symm⟩
    · rw [List.getElem?_eq_none (by simpa using hl)] at h
      cases h
  · rw [List.getElem?_set_ne e] at h
    exact .inr ⟨e, h⟩
theorem mem_set_cases {os : List (Option Addr)} {i : Nat} {o : Option Addr} {a : Addr} (h : some a ∈ os.set i o) : some a ∈ os ∨ o = some a := by
  rcases List.mem_or_eq_of_mem_set h with h | h
  · exact .inl h
  · exact .inr h.symm
section
variable {K : PySem.W.Frag} {F : Fm} {os : List (Option Addr)} {r : Env} {σ : St} {H H' : Hp}
theorem Rel.get (R : Rel K F os r σ H) {i : Nat} {s : Slot} (e : r[i]? = some s) : ∃ v o, σ[i]? = some v ∧ os[i]? = some o ∧ SlotOk K H (Av F.A0 os) F.io s v o := by
  have hi : i < r.length := (List.getElem?_eq_some_iff.mp e).1
  have h1 : i < σ.length := by rw [R.lens]; exact hi
  have h2 : i < os.length := by rw [R.leno]; exact hi
  exact ⟨σ[i], os[i], List.getElem?_eq_getElem h1, List.getElem?_eq_getElem h2, R.slot i s _ _ e (List.getElem?_eq_getElem h1) (List.getElem?_eq_getElem h2)⟩
theorem Rel.own (R : Rel K F os r σ H) {i : Nat} {a : Addr} (e : os[i]? = some (some a)) : ∃ s d, r[i]? = some s ∧ s.cont = some d ∧ σ[i]? = some (some (.ref a)) ∧ RepO K H (Av F.A0 os) d a := by
  have hi : i < os.length := (List.getElem?_eq_some_iff.mp e).1
  have hr : i < r.length := by rw [← R.leno]; exact hi
  have er : r[i]? = some r[i] := List.getElem?_eq_getElem hr
  obtain ⟨v, o, e1, e2, s⟩ := R.get er
  rw [e] at e2
  cases e2
  cases q : r[i] with
  | un =>
    rw [q] at s
    have z : some a = (none : Option Addr) := s
    cases z
  | sh d =>
    rw [q] at s
    have z : some a = (none : Option Addr) := s.1
    cases z
  | own d =>
    rw [q] at s
    obtain ⟨a', e3, e4, s⟩ := s
    cases e3
    exact ⟨.own d, d, by rw [er, q], rfl, by rw [e1, e4], s⟩
  | io d =>
    rw [q] at s
    obtain ⟨a', e3, e4, s, _⟩ := s
    cases e3
    exact ⟨.io d, d, by rw [er, q], rfl, by rw [e1, e4], s⟩
theorem Rel.AOk (R : Rel K F os r σ H) : AOk (Av F.A0 os) H := fun a h => by
  rcases h with h | h
  · exact R.aok a h
  · obtain ⟨i, hi, e⟩ := List.getElem_of_mem h
    obtain ⟨_, d, _, _, _, s⟩ := R.own (i := i) (a := a) (by rw [List.getElem?_eq_getElem hi, e])
    exact s.isT
theorem Rel.same' (R : Rel K F os r σ H) (s : Same H H') : Rel K F os r σ H' := by
  have ak := R.AOk
  refine ⟨R.lens, R.leno, fun i sl v o e1 e2 e3 => ?_, R.inj, R.out, fun a h => ?_, fun b o e n => s _ _ (R.same b o e n), R.new⟩
  · have q := R.slot i sl v o e1 e2 e3
    cases sl with
    | un => exact q
    | sh d =>
      obtain ⟨q1, u, q2, q3⟩ := q
      exact ⟨q1, u, q2, q3.same s ak⟩
    | own d =>
      obtain ⟨a, q1, q2, q3⟩ := q
      exact ⟨a, q1, q2, RepO.same s ak q3⟩
    | io d =>
      obtain ⟨a, q1, q2, q3, q4⟩ := q
      exact ⟨a, q1, q2, RepO.same s ak q3, q4⟩
  · obtain ⟨o, h1, h2⟩ := R.aok a h
    exact ⟨o, s _ _ h1, h2⟩
theorem Rel.notIn (R : Rel K F os r σ H) {p : Addr} (h : H p = none) : ¬ Av F.A0 os p := R.AOk.fresh h
theorem SlotOk.keep {A A' io : Addr → Prop} (k : Keep A A' H H') (ak : DL.AOk A H) {sl : Slot} {v : Option V} {o : Option Addr} (q : SlotOk K H A io sl v o) (ho : ∀ a, o = some a → H' a = H a) : SlotOk K H' A' io sl v o := by
  cases sl with
  | un => exact q
  | sh d =>
    obtain ⟨q1, u, q2, q3⟩ := q
    exact ⟨q1, u, q2, Rep.keep k ak _ _ q3⟩
  | own d =>
    obtain ⟨a, q1, q2, q3⟩ := q
    exact ⟨a, q1, q2, RepO.keepNe k ak q3 (ho a q1)⟩
  | io d =>
    obtain ⟨a, q1, q2, q3, q4⟩ := q
    exact ⟨a, q1, q2, RepO.keepNe k ak q3 (ho a q1), q4⟩
/-- a slot takes a new value: shared -/
theorem Rel.setSh (R : Rel K F os r σ H) {i : Nat} {d : D} {v : V} (h : Rep K H (Av F.A0 os) d v) :
    Rel K F (os.set i none) (r.set i (.sh d)) (σ.set i (some v)) H ∧ Keep (Av F.A0 os) (Av F.A0 (os.set i none)) H H := by
  have ak := R.AOk
  have kp : Keep (Av F.A0 os) (Av F.A0 (os.set i none)) H H := fun b o e n => ⟨e, fun z => n (by
    rcases z with z | z
    · exact .inl z
    · rcases mem_set_cases z with z | z
      · exact .inr z
      · cases z)⟩
  refine ⟨⟨by simp [R.lens], by simp [R.leno], fun j sl w o e1 e2 e3 => ?_, fun j k a e1 e2 => ?_, fun j a e => ?_, R.aok, R.same, fun j a e => ?_⟩, kp⟩
  · rcases getElem?_set_cases e1 with ⟨e, z1⟩ | ⟨e, e1⟩
    · subst e
      subst z1
      rcases getElem?_set_cases e2 with ⟨_, z2⟩ | ⟨z, _⟩
      · rcases getElem?_set_cases e3 with ⟨_, z3⟩ | ⟨z, _⟩
        · exact ⟨z3, v, z2, Rep.keep kp ak d v h⟩
        · exact absurd rfl z
      · exact absurd rfl z
    · rw [List.getElem?_set_ne e] at e2 e3
      exact (R.slot j sl w o e1 e2 e3).keep kp ak fun _ _ => rfl
  · rcases getElem?_set_cases e1 with ⟨_, z⟩ | ⟨_, e1⟩
    · cases z
    · rcases getElem?_set_cases e2 with ⟨_, z⟩ | ⟨_, e2⟩
      · cases z
      · exact R.inj j k a e1 e2
  · rcases getElem?_set_cases e with ⟨_, z⟩ | ⟨_, e⟩
    · cases z
    · exact R.out j a e
  · rcases getElem?_set_cases e with ⟨_, z⟩ | ⟨_, e⟩
    · cases z
    · exact R.new j a e
def Ad (A : Addr → Prop) (p : Addr) (a : Addr) : Prop := A a ∨ a = p
/-- a slot takes a new list or dict, its own from now on -/
theorem Rel.setOwn (R : Rel K F os r σ H) {i : Nat} {d : D} {p : Addr} (s : Same H H') (n : H p = none) (h : RepO K H' (Ad (Av F.A0 os) p) d p) :
    Rel K F (os.set i (some p)) (r.set i (.own d)) (σ.set i (some (.ref p))) H' ∧ Keep (Av F.A0 os) (Av F.A0 (os.set i (some p))) H H' := by
  have ak := R.AOk
  have np := R.notIn n
  have nos : some p ∉ os := fun z => np (.inr z)
  have kp : Keep (Av F.A0 os) (Av F.A0 (os.set i (some p))) H H' := fun b o e nb => ⟨s b o e, fun z => nb (by
    rcases z with z | z
    · exact .inl z
    · rcases mem_set_cases z with z | z
      · exact .inr z
      · cases z
        rw [n] at e
        cases e)⟩
  obtain ⟨oT, hT, fT⟩ := h.isT
  have ak2 : DL.AOk (Ad (Av F.A0 os) p) H' := fun a z => by
    rcases z with z | z
    · obtain ⟨o, h1, h2⟩ := ak a z
      exact ⟨o, s _ _ h1, h2⟩
    · subst z
      exact ⟨oT, hT, fT⟩
  have kp2 : Keep (Ad (Av F.A0 os) p) (Av F.A0 (os.set i (some p))) H' H' := fun b o e nb => ⟨e, fun z => nb (by
    rcases z with z | z
    · exact .inl (.inl z)
    · rcases mem_set_cases z with z | z
      · exact .inl (.inr z)
      · cases z
        exact .inr rfl)⟩
  have ho : ∀ (j : Nat) (a : Addr), os[j]? = some (some a) → H' a = H a := fun j a e => by
    obtain ⟨_, _, _, _, _, q⟩ := R.own e
    obtain ⟨o, h1, _⟩ := q.isT
    rw [h1]
    exact s _ _ h1
  refine ⟨⟨by simp [R.lens], by simp [R.leno], fun j sl w o e1 e2 e3 => ?_, fun j k a e1 e2 => ?_, fun j a e => ?_, fun a z => ?_, fun b o e nb => s _ _ (R.same b o e nb), fun j a e => ?_⟩, kp⟩
  · rcases getElem?_set_cases e1 with ⟨e, z1⟩ | ⟨e, e1⟩
    · subst e
      subst z1
      rcases getElem?_set_cases e2 with ⟨_, z2⟩ | ⟨z, _⟩
      · rcases getElem?_set_cases e3 with ⟨_, z3⟩ | ⟨z, _⟩
        · exact ⟨p, z3, z2, RepO.keepNe kp2 ak2 h rfl⟩
        · exact absurd rfl z
      · exact absurd rfl z
    · rw [List.getElem?_set_ne e] at e2 e3
      exact (R.slot j sl w o e1 e2 e3).keep kp ak fun a z => ho j a (by rw [e3, z])
  · rcases getElem?_set_cases e1 with ⟨q1, z1⟩ | ⟨q1, e1⟩
    · rcases getElem?_set_cases e2 with ⟨q2, z2⟩ | ⟨q2, e2⟩
      · rw [← q1, ← q2]
      · cases z1
        exact absurd (List.mem_of_getElem? e2) nos
    · rcases getElem?_set_cases e2 with ⟨q2, z2⟩ | ⟨q2, e2⟩
      · cases z2
        exact absurd (List.mem_of_getElem? e1) nos
      · exact R.inj j k a e1 e2
  · rcases getElem?_set_cases e with ⟨_, z⟩ | ⟨_, e⟩
    · cases z
      exact fun z => np (.inl z)
    · exact R.out j a e
  · obtain ⟨o, h1, h2⟩ := R.aok a z
    exact ⟨o, s _ _ h1, h2⟩
  · rcases getElem?_set_cases e with ⟨_, z⟩ | ⟨_, e⟩
    · cases z
      by_cases hio : F.io p
      · exact .inr hio
      · cases q : F.H0 p with
        | none => exact .inl rfl
        | some o =>
          have := R.same p o q hio
          rw [n] at this
          cases this
    · exact R.new j a e
/-- a slot's own list or dict changes -/
theorem Rel.updOwn (R : Rel K F os r σ H) {i : Nat} {s : Slot} {d d' : D} {a : Addr} {o' : HO} (e : r[i]? = some s) (ec : s.cont = some d) (ea : σ[i]? = some (some (.ref a))) (h : RepO K (upd H a o') (Av F.A0 os) d' a) :
    Rel K F os (r.set i (s.put d')) σ (upd H a o') ∧ Keep (Av F.A0 os) (Av F.A0 os) H (upd H a o') := by
  have ak := R.AOk
  obtain ⟨v, o, e1, e2, q0⟩ := R.get e
  obtain ⟨a', z1, z2, q, qq⟩ := q0.cont ec
  subst z1
  rw [ea] at e1
  cases e1
  cases z2
  have inA : Av F.A0 os a := .inr (List.mem_of_getElem? e2)
  have kp : Keep (Av F.A0 os) (Av F.A0 os) H (upd H a o') := fun b u eb nb => ⟨by
    rw [upd_ne (fun z => nb (by rw [z]; exact inA))]
    exact eb, nb⟩
  refine ⟨⟨by simp [R.lens], by simp [R.leno], fun j sl w u e1 e2' e3 => ?_, R.inj, R.out, fun b z => ?_, fun b u eb nb => ?_, R.new⟩, kp⟩
  · rcases getElem?_set_cases e1 with ⟨ej, z1⟩ | ⟨ej, e1⟩
    · subst ej
      subst z1
      rw [e2] at e3
      cases e3
      rw [ea] at e2'
      cases e2'
      exact qq _ _ _ h
    · refine (R.slot j sl w u e1 e2' e3).keep kp ak fun b z => upd_ne fun zz => ej ?_
      subst z
      subst zz
      exact R.inj i j b e2 e3
  · obtain ⟨u, h1, h2⟩ := R.aok b z
    have hne : b ≠ a := fun zz => R.out i a e2 (by rw [← zz]; exact z)
    exact ⟨u, by rw [upd_ne hne]; exact h1, h2⟩
  · have hne : b ≠ a := fun zz => by
      subst zz
      rcases R.new i b e2 with h1 | h1
      · rw [h1] at eb
        cases eb
      · exact nb h1
    rw [upd_ne hne]
    exact R.same b u eb nb
/-- a slot's own list or dict becomes a value as others -/
theorem Rel.freeze (R : Rel K F os r σ H) {i : Nat} {d : D} (e : r[i]? = some (.own d)) :
    Rel K F (os.set i none) (r.set i (.sh d)) σ H ∧ Keep (Av F.A0 os) (Av F.A0 (os.set i none)) H H ∧ ∃ a, σ[i]? = some (some (.ref a)) ∧ Rep K H (Av F.A0 (os.set i none)) d (.ref a) := by
  have ak := R.AOk
  obtain ⟨v, o, e1, e2, a, z1, z2, q⟩ := R.get e
  subst z1
  subst z2
  have kp : Keep (Av F.A0 os) (Av F.A0 (os.set i none)) H H := fun b o e n => ⟨e, fun z => n (by
    rcases z with z | z
    · exact .inl z
    · rcases mem_set_cases z with z | z
      · exact .inr z
      · cases z)⟩
  have na : ¬ Av F.A0 (os.set i none) a := fun z => by
    rcases z with z | z
    · exact R.out i a e2 z
    · obtain ⟨j, hj, ej⟩ := List.getElem_of_mem z
      have ej' : (os.set i none)[j]? = some (some a) := by rw [List.getElem?_eq_getElem hj, ej]
      rcases getElem?_set_cases ej' with ⟨_, z⟩ | ⟨nij, z⟩
      · cases z
      · exact nij (R.inj i j a e2 z)
  have rep : Rep K H (Av F.A0 (os.set i none)) d (.ref a) := by
    cases d with
    | lst ds =>
      obtain ⟨xs, h1, h2⟩ := q
      unfold Rep
      exact ⟨a, xs, rfl, .inl ⟨.inl h1, na⟩, RepL.keep kp ak _ _ h2⟩
    | dct ds =>
      obtain ⟨xs, h1, h2⟩ := q
      unfold Rep
      exact ⟨a, xs, rfl, h1, na, RepK.keep kp ak _ _ h2⟩
    | dctT ds =>
      obtain ⟨xs, h1, h2⟩ := q
      unfold Rep
      exact ⟨a, xs, rfl, h1, na, RepM.keep kp ak _ _ h2⟩
    | _ => exact q.elim
  refine ⟨⟨by simp [R.lens], by simp [R.leno], fun j sl w u e3 e4 e5 => ?_, fun j k b e3 e4 => ?_, fun j b e3 => ?_, R.aok, R.same, fun j b e3 => ?_⟩, kp, a, e1, rep⟩
  · rcases getElem?_set_cases e3 with ⟨ej, z1⟩ | ⟨ej, e3⟩
    · subst ej
      subst z1
      rw [e1] at e4
      cases e4
      rcases getElem?_set_cases e5 with ⟨_, z3⟩ | ⟨z, _⟩
      · exact ⟨z3, _, rfl, rep⟩
      · exact absurd rfl z
    · rw [List.getElem?_set_ne ej] at e5
      exact (R.slot j sl w u e3 e4 e5).keep kp ak fun _ _ => rfl
  · rcases getElem?_set_cases e3 with ⟨_, z⟩ | ⟨_, e3⟩
    · cases z
    · rcases getElem?_set_cases e4 with ⟨_, z⟩ | ⟨_, e4⟩
      · cases z
      · exact R.inj j k b e3 e4
  · rcases getElem?_set_cases e3 with ⟨_, z⟩ | ⟨_, e3⟩
    · cases z
    · exact R.out j b e3
  · rcases getElem?_set_cases e3 with ⟨_, z⟩ | ⟨_, e3⟩
    · cases z
    · exact R.new j b e3
end
end DL

end
section
namespace DL
open PySem L2

/-! ### errors in the air, wishes -/
def XRep (K : PySem.W.Frag) (mg : Str → Option Value) (H : Hp) (x : Ex) (cls : Value) (dd : Option Addr) : Prop :=
  ∃ C, mg x.name = some (.ref C) ∧ cls = .ref C ∧ (x.fs = [] ∨ ∃ d vs, dd = some d ∧ H d = some (.xd vs) ∧ x.fs.map (·.1) = vs.map (·.1) ∧ ∀ (i : Nat) p q, x.fs[i]? = some p → vs[i]? = some q → Rep K H (fun _ => False) p.2 q.2)
def ErK (K : PySem.W.Frag) (mg : Str → Option Value) (W : WX) (F : Fm) (x : Ex) (r : Env) : Prop :=
  ∀ (os : List (Option Addr)) (σ : St) (cls : Value) (dd : Option Addr) (H : Hp), Rel K F os r σ H → XRep K mg H x cls dd → W cls dd σ H
abbrev Er (X : Cx) (W : WX) (F : Fm) (x : Ex) (r : Env) : Prop := ErK X.K X.mg W F x r
/-- a value that is only looked at; the slots stay -/
structure DB (X : Cx) (W : WX) (e : Expr) (f : Env → R D) : Prop where
  ex : ∃ t, PE X e t ∧ ∀ (F : Fm) (os : List (Option Addr)) (r : Env) (σ : St) (H : Hp) (Q : VK), Rel X.K F os r σ H →
    Sat (fun d => ∀ v H', Same H H' → RepB X.K H' (Av F.A0 os) d v → Q v H') (Er X W F) (f r) → t σ H Q
/-- a value; the slots stay -/
structure DP (X : Cx) (W : WX) (e : Expr) (f : Env → R D) : Prop where
  ex : ∃ t, PE X e t ∧ ∀ (F : Fm) (os : List (Option Addr)) (r : Env) (σ : St) (H : Hp) (Q : VK), Rel X.K F os r σ H →
    Sat (fun d => ∀ v H', Same H H' → Rep X.K H' (Av F.A0 os) d v → Q v H') (Er X W F) (f r) → t σ H Q
/-- a new list or dict; the slots stay -/
structure DF (X : Cx) (W : WX) (e : Expr) (f : Env → R D) : Prop where
  ex : ∃ t, PE X e t ∧ ∀ (F : Fm) (os : List (Option Addr)) (r : Env) (σ : St) (H : Hp) (Q : VK), Rel X.K F os r σ H →
    Sat (fun d => ∀ p H', Same H H' → H p = none → RepO X.K H' (Ad (Av F.A0 os) p) d p → Q (.ref p) H') (Er X W F) (f r) → t σ H Q
/-- a value; the lists that slots hold may change -/
structure DE (X : Cx) (W : WX) (e : Expr) (f : Env → R (D × Env)) : Prop where
  ex : ∃ t, PE X e t ∧ ∀ (F : Fm) (os : List (Option Addr)) (r : Env) (σ : St) (H : Hp) (Q : VK), Rel X.K F os r σ H →
    Sat (fun p => ∀ v H', Rel X.K F os p.2 σ H' → Keep (Av F.A0 os) (Av F.A0 os) H H' → Rep X.K H' (Av F.A0 os) p.1 v → Q v H') (Er X W F) (f r) → t σ H Q
/-- tests -/
structure DT (X : Cx) (W : WX) (e : Expr) (f : Env → R Bool) : Prop where
  ex : ∃ t, PT X e t ∧ ∀ (F : Fm) (os : List (Option Addr)) (r : Env) (σ : St) (H : Hp) (Q : Bool → Hp → Prop), Rel X.K F os r σ H →
    Sat (fun b => ∀ H', Same H H' → Q b H') (Er X W F) (f r) → t σ H Q
structure DTE (X : Cx) (W : WX) (e : Expr) (f : Env → R (Bool × Env)) : Prop where
  ex : ∃ t, PT X e t ∧ ∀ (F : Fm) (os : List (Option Addr)) (r : Env) (σ : St) (H : Hp) (Q : Bool → Hp → Prop), Rel X.K F os r σ H →
    Sat (fun p => ∀ H', Rel X.K F os p.2 σ H' → Keep (Av F.A0 os) (Av F.A0 os) H H' → Q p.1 H') (Er X W F) (f r) → t σ H Q
/-- arguments -/
structure DBs (X : Cx) (W : WX) (es : List Expr) (f : Env → R (List D)) : Prop where
  ex : ∃ t, PA X es t ∧ ∀ (F : Fm) (os : List (Option Addr)) (r : Env) (σ : St) (H : Hp) (Q : List V → Hp → Prop), Rel X.K F os r σ H →
    Sat (fun ds => ∀ vs H', Same H H' → Paired (RepB X.K H' (Av F.A0 os)) ds vs → Q vs H') (Er X W F) (f r) → t σ H Q
structure DPs (X : Cx) (W : WX) (es : List Expr) (f : Env → R (List D)) : Prop where
  ex : ∃ t, PA X es t ∧ ∀ (F : Fm) (os : List (Option Addr)) (r : Env) (σ : St) (H : Hp) (Q : List V → Hp → Prop), Rel X.K F os r σ H →
    Sat (fun ds => ∀ vs H', Same H H' → RepL X.K H' (Av F.A0 os) ds vs → Q vs H') (Er X W F) (f r) → t σ H Q
structure DEs (X : Cx) (W : WX) (es : List Expr) (f : Env → R (List D × Env)) : Prop where
  ex : ∃ t, PA X es t ∧ ∀ (F : Fm) (os : List (Option Addr)) (r : Env) (σ : St) (H : Hp) (Q : List V → Hp → Prop), Rel X.K F os r σ H →
    Sat (fun p => ∀ vs H', Rel X.K F os p.2 σ H' → Keep (Av F.A0 os) (Av F.A0 os) H H' → RepL X.K H' (Av F.A0 os) p.1 vs → Q vs H') (Er X W F) (f r) → t σ H Q
section
variable {X : Cx} {W : WX} {e a b c : Expr} {es : List Expr} {f fa fb fc : Env → R D}

theorem Same.of_eq {H : Hp} : Same H H := Same.refl H
theorem same_upd {H : Hp} {p : Addr} {o : HO} (n : H p = none) : Same H (upd H p o) := fun b u e => by rw [upd_ne (ne_of_none e n)]; exact e

theorem DP.toB (h : DP X W e f) : DB X W e f := by
  obtain ⟨t, pe, w⟩ := h
  exact ⟨t, pe, fun F os r σ H Q R S => w F os r σ H Q R (S.imp fun d q v H' s h => q v H' s (.inl h))⟩
theorem repO_rep {K : PySem.W.Frag} {H : Hp} {A A' : Addr → Prop} {d : D} {p : Addr} (h : RepO K H A d p) (k : Keep A A' H H) (ak : AOk A H) (n : ¬ A' p) : Rep K H A' d (.ref p) := by
  cases d with
  | lst ds =>
    obtain ⟨xs, h1, h2⟩ := h
    unfold Rep
    exact ⟨p, xs, rfl, .inl ⟨.inl h1, n⟩, RepL.keep k ak _ _ h2⟩
  | dct ds =>
    obtain ⟨xs, h1, h2⟩ := h
    unfold Rep
    exact ⟨p, xs, rfl, h1, n, RepK.keep k ak _ _ h2⟩
  | dctT ds =>
    obtain ⟨xs, h1, h2⟩ := h
    unfold Rep
    exact ⟨p, xs, rfl, h1, n, RepM.keep k ak _ _ h2⟩
  | _ => exact h.elim
theorem ad_keep {H : Hp} {A : Addr → Prop} {p : Addr} : Keep (Ad A p) A H H := fun b o e n => ⟨e, fun z => n (.inl z)⟩
theorem ad_ok {K : PySem.W.Frag} {H H' : Hp} {A : Addr → Prop} {d : D} {p : Addr} (ak : AOk A H) (s : Same H H') (h : RepO K H' (Ad A p) d p) : AOk (Ad A p) H' := fun b z => by
  rcases z with z | z
  · obtain ⟨o, h1, h2⟩ := ak b z
    exact ⟨o, s _ _ h1, h2⟩
  · subst z
    exact h.isT
theorem DF.toP (h : DF X W e f) : DP X W e f := by
  obtain ⟨t, pe, w⟩ := h
  refine ⟨t, pe, fun F os r σ H Q R S => w F os r σ H Q R (S.imp fun d q p H' s n h => q _ H' s ?_)⟩
  exact repO_rep h ad_keep (ad_ok R.AOk s h) (R.notIn n)
def withEnv {α : Type} (f : Env → R α) : Env → R (α × Env) := fun r => (f r).bind fun a => .ok (a, r)
theorem DP.toE (h : DP X W e f) : DE X W e (withEnv f) := by
  obtain ⟨t, pe, w⟩ := h
  exact ⟨t, pe, fun F os r σ H Q R S => w F os r σ H Q R (S.bind.imp fun d q v H' s h => q v H' (R.same' s) (Keep.of s) h)⟩
theorem DT.toE {g : Env → R Bool} (h : DT X W e g) : DTE X W e (withEnv g) := by
  obtain ⟨t, pe, w⟩ := h
  exact ⟨t, pe, fun F os r σ H Q R S => w F os r σ H Q R (S.bind.imp fun d q H' s => q H' (R.same' s) (Keep.of s))⟩
theorem DPs.toE {g : Env → R (List D)} (h : DPs X W es g) : DEs X W es (withEnv g) := by
  obtain ⟨t, pe, w⟩ := h
  exact ⟨t, pe, fun F os r σ H Q R S => w F os r σ H Q R (S.bind.imp fun d q v H' s h => q v H' (R.same' s) (Keep.of s) h)⟩

/-! ### names, constants -/
def gSh (i : Nat) : Env → R D := fun r => match r[i]? with
  | some (.sh d) => .ok d
  | _ => .stk
def gAny (i : Nat) : Env → R D := fun r => match r[i]? with
  | some (.sh d) => .ok d
  | some (.own d) => .ok d
  | some (.io d) => .ok d
  | _ => .stk
theorem d_var (i : Nat) {x : Str} {pos : Pos} (hN : X.N[i]? = some x := by rfl) (hv : Vis X.env.scope x := by first | exact Or.inl rfl | exact Or.inr (Or.inl rfl) | exact Or.inr (Or.inr rfl)) (hd : (x == ("__debug__" : Str)) = false := by decide)
    (hcd : (x == ("__classdict__" : Str)) = false := by decide) : DP X W (.Name x pos) (gSh i) := by
  refine ⟨_, pe_var (i := i) hN hv hd hcd, fun F os r σ H Q R S => ?_⟩
  unfold gSh at S
  cases e : r[i]? with
  | none => rw [e] at S; exact S.elim
  | some sl =>
    rw [e] at S
    cases sl with
    | sh d =>
      obtain ⟨v, o, e1, e2, z, u, e3, h⟩ := R.get e
      subst e3
      exact ⟨u, e1, S u H (Same.refl H) h⟩
    | _ => exact S.elim
theorem b_var (i : Nat) {x : Str} {pos : Pos} (hN : X.N[i]? = some x := by rfl) (hv : Vis X.env.scope x := by first | exact Or.inl rfl | exact Or.inr (Or.inl rfl) | exact Or.inr (Or.inr rfl)) (hd : (x == ("__debug__" : Str)) = false := by decide)
    (hcd : (x == ("__classdict__" : Str)) = false := by decide) : DB X W (.Name x pos) (gAny i) := by
  refine ⟨_, pe_var (i := i) hN hv hd hcd, fun F os r σ H Q R S => ?_⟩
  unfold gAny at S
  cases e : r[i]? with
  | none => rw [e] at S; exact S.elim
  | some sl =>
    rw [e] at S
    cases sl with
    | sh d =>
      obtain ⟨v, o, e1, e2, z, u, e3, h⟩ := R.get e
      subst e3
      exact ⟨u, e1, S u H (Same.refl H) (.inl h)⟩
    | own d =>
      obtain ⟨v, o, e1, e2, a, z, e3, h⟩ := R.get e
      subst e3
      exact ⟨_, e1, S _ H (Same.refl H) (.inr ⟨a, rfl, h⟩)⟩
    | io d =>
      obtain ⟨v, o, e1, e2, a, z, e3, h, _⟩ := R.get e
      subst e3
      exact ⟨_, e1, S _ H (Same.refl H) (.inr ⟨a, rfl, h⟩)⟩
    | un => exact S.elim
@[simp] def kc (d : D) : Env → R D := fun _ => .ok d
theorem d_int {i : Int} {j : Nat} {pos : Pos} : DP X W (.Constant (.int i) j pos) (kc (.int i)) := ⟨_, pe_int, fun F os r σ H Q R S => S _ H (Same.refl H) (by unfold Rep; rfl)⟩
theorem d_bl {i : Bool} {j : Nat} {pos : Pos} : DP X W (.Constant (.bool i) j pos) (kc (.bl i)) := ⟨_, pe_bl, fun F os r σ H Q R S => S _ H (Same.refl H) (by unfold Rep; rfl)⟩
theorem d_non {j : Nat} {pos : Pos} : DP X W (.Constant .none j pos) (kc .non) := ⟨_, pe_non, fun F os r σ H Q R S => S _ H (Same.refl H) (by unfold Rep; rfl)⟩
theorem d_str {i : Str} {j : Nat} {pos : Pos} : DP X W (.Constant (.str i) j pos) (kc (.str i)) := ⟨_, pe_str, fun F os r σ H Q R S => S _ H (Same.refl H) (by unfold Rep; rfl)⟩
/-- a module's constant -/
theorem d_glob {x : Str} {d : D} {v : V} {u : Value} {pos : Pos} (hg : Gl X x) (hm : X.mg x = some u) (r : RelV v u) (hd : ∀ H A, Rep X.K H A d v) (hdb : (x == ("__debug__" : Str)) = false := by decide) : DP X W (.Name x pos) (kc d) :=
  ⟨_, pe_glob hg hm r hdb, fun F os r σ H Q R S => S v H (Same.refl H) (hd _ _)⟩

/-! ### arguments -/
@[simp] def aNil : Env → R (List D) := fun _ => .ok []
@[simp] def aCons (f : Env → R D) (g : Env → R (List D)) : Env → R (List D) := fun r => (f r).bind fun d => (g r).bind fun ds => .ok (d :: ds)
@[simp] def aConsE (f : Env → R (D × Env)) (g : Env → R (List D × Env)) : Env → R (List D × Env) := fun r => (f r).bind fun p => (g p.2).bind fun q => .ok (p.1 :: q.1, q.2)
theorem b_nil : DBs X W [] aNil := ⟨_, pa_nil, fun F os r σ H Q R S => S [] H (Same.refl H) .nil⟩
theorem p_nil : DPs X W [] aNil := ⟨_, pa_nil, fun F os r σ H Q R S => S [] H (Same.refl H) (by unfold RepL; rfl)⟩
theorem b_cons {g : Env → R (List D)} (h : DB X W e f) (h2 : DBs X W es g) (hs : starEach (e :: es) X.env = (false, eval e X.env) :: starEach es X.env := by rfl) : DBs X W (e :: es) (aCons f g) := by
  obtain ⟨t, pe, w⟩ := h
  obtain ⟨u, pa, z⟩ := h2
  refine ⟨_, pa_cons pe pa hs, fun F os r σ H Q R S => ?_⟩
  refine w F os r σ H _ R (S.bind.imp fun d S v H1 s1 h1 => ?_)
  refine z F os r σ H1 _ (R.same' s1) (S.bind.imp fun ds S vs H2 s2 h2 => ?_)
  exact S _ H2 (s1.trans s2) (.cons (h1.same s2 (R.same' s1).AOk) h2)
theorem p_cons {g : Env → R (List D)} (h : DP X W e f) (h2 : DPs X W es g) (hs : starEach (e :: es) X.env = (false, eval e X.env) :: starEach es X.env := by rfl) : DPs X W (e :: es) (aCons f g) := by
  obtain ⟨t, pe, w⟩ := h
  obtain ⟨u, pa, z⟩ := h2
  refine ⟨_, pa_cons pe pa hs, fun F os r σ H Q R S => ?_⟩
  refine w F os r σ H _ R (S.bind.imp fun d S v H1 s1 h1 => ?_)
  refine z F os r σ H1 _ (R.same' s1) (S.bind.imp fun ds S vs H2 s2 h2 => ?_)
  exact S _ H2 (s1.trans s2) (by unfold RepL; exact ⟨v, vs, rfl, h1.same s2 (R.same' s1).AOk, h2⟩)
theorem e_cons {h : Env → R (D × Env)} {g : Env → R (List D × Env)} (h1 : DE X W e h) (h2 : DEs X W es g) (hs : starEach (e :: es) X.env = (false, eval e X.env) :: starEach es X.env := by rfl) : DEs X W (e :: es) (aConsE h g) := by
  obtain ⟨t, pe, w⟩ := h1
  obtain ⟨u, pa, z⟩ := h2
  refine ⟨_, pa_cons pe pa hs, fun F os r σ H Q R S => ?_⟩
  refine w F os r σ H _ R (S.bind.imp fun d S v H1 R1 k1 h1 => ?_)
  refine z F os _ σ H1 _ R1 (S.bind.imp fun ds S vs H2 R2 k2 h2 => ?_)
  exact S _ H2 R2 (k1.trans k2) (by unfold RepL; exact ⟨v, vs, rfl, Rep.keep k2 R1.AOk _ _ h1, h2⟩)

/-! ### an operation of two values, of several, of one -/
/-- r asks no more than the data say -/
def Op2 (X : Cx) (r : R2) (op : D → D → Option D) : Prop := ∀ (A : Addr → Prop) (H : Hp) (x y : D) (v w : V) (d : D) (Q : VK), AOk A H → op x y = some d → RepB X.K H A x v → RepB X.K H A y w →
  (∀ u H', Same H H' → Rep X.K H' A d u → Q u H') → r v w H Q
/-- .. with a new list -/
def Op2F (X : Cx) (r : R2) (op : D → D → Option D) : Prop := ∀ (A : Addr → Prop) (H : Hp) (x y : D) (v w : V) (d : D) (Q : VK), AOk A H → op x y = some d → RepB X.K H A x v → RepB X.K H A y w →
  (∀ p H', Same H H' → H p = none → RepO X.K H' (Ad A p) d p → Q (.ref p) H') → r v w H Q
@[simp] def bin (op : D → D → Option D) (fa fb : Env → R D) : Env → R D := fun r => (fa r).bind fun x => (fb r).bind fun y => R.ofO (op x y)
@[simp] def binE (op : D → D → Option D) (fa fb : Env → R (D × Env)) : Env → R (D × Env) := fun r => (fa r).bind fun x => (fb x.2).bind fun y => (R.ofO (op x.1 y.1)).bind fun d => .ok (d, y.2)
theorem d_bin {mk : Expr} {r : R2} {op : D → D → Option D} (m : ∀ {ta tb : TE}, PE X a ta → PE X b tb → PE X mk (tOp r ta tb)) (o : Op2 X r op) (ha : DB X W a fa) (hb : DB X W b fb) : DP X W mk (bin op fa fb) := by
  obtain ⟨ta, pa, wa⟩ := ha
  obtain ⟨tb, pb, wb⟩ := hb
  refine ⟨_, m pa pb, fun F os r σ H Q R S => ?_⟩
  refine wa F os r σ H _ R (S.bind.imp fun x S v H1 s1 h1 => ?_)
  refine wb F os r σ H1 _ (R.same' s1) (S.bind.imp fun y S w H2 s2 h2 => ?_)
  obtain ⟨d, ed, S⟩ := S.ofO
  have R2 := (R.same' s1).same' s2
  exact o _ H2 x y v w d Q R2.AOk ed (h1.same s2 (R.same' s1).AOk) h2 fun u H3 s3 h3 => S u H3 ((s1.trans s2).trans s3) h3
theorem d_binE {mk : Expr} {r : R2} {op : D → D → Option D} {ga gb : Env → R (D × Env)} (m : ∀ {ta tb : TE}, PE X a ta → PE X b tb → PE X mk (tOp r ta tb)) (o : Op2 X r op) (ha : DE X W a ga) (hb : DE X W b gb) : DE X W mk (binE op ga gb) := by
  obtain ⟨ta, pa, wa⟩ := ha
  obtain ⟨tb, pb, wb⟩ := hb
  refine ⟨_, m pa pb, fun F os r σ H Q R S => ?_⟩
  refine wa F os r σ H _ R (S.bind.imp fun x S v H1 R1 k1 h1 => ?_)
  refine wb F os _ σ H1 _ R1 (S.bind.imp fun y S w H2 R2 k2 h2 => ?_)
  obtain ⟨d, ed, S⟩ := S.bind.ofO
  exact o _ H2 x.1 y.1 v w d Q R2.AOk ed (.inl (Rep.keep k2 R1.AOk _ _ h1)) (.inl h2) fun u H3 s3 h3 => S u H3 (R2.same' s3) ((k1.trans k2).trans (Keep.of s3)) h3
/-- n arguments -/
def OpN (X : Cx) (r : List V → Hp → VK → Prop) (op : List D → Option D) : Prop := ∀ (A : Addr → Prop) (H : Hp) (xs : List D) (vs : List V) (d : D) (Q : VK), AOk A H → op xs = some d → Paired (RepB X.K H A) xs vs →
  (∀ u H', Same H H' → Rep X.K H' A d u → Q u H') → r vs H Q
def OpNF (X : Cx) (r : List V → Hp → VK → Prop) (op : List D → Option D) : Prop := ∀ (A : Addr → Prop) (H : Hp) (xs : List D) (vs : List V) (d : D) (Q : VK), AOk A H → op xs = some d → Paired (RepB X.K H A) xs vs →
  (∀ p H', Same H H' → H p = none → RepO X.K H' (Ad A p) d p → Q (.ref p) H') → r vs H Q
theorem repL_b {K : PySem.W.Frag} {H : Hp} {A : Addr → Prop} : ∀ {ds : List D} {vs : List V}, RepL K H A ds vs → Paired (RepB K H A) ds vs
  | [], vs, h => by
    unfold RepL at h
    subst h
    exact .nil
  | d :: ds, vs, h => by
    unfold RepL at h
    obtain ⟨v, r, e, h1, h2⟩ := h
    subst e
    exact .cons (.inl h1) (repL_b h2)
@[simp] def appN (op : List D → Option D) (g : Env → R (List D)) : Env → R D := fun r => (g r).bind fun ds => R.ofO (op ds)
@[simp] def appNE (op : List D → Option D) (g : Env → R (List D × Env)) : Env → R (D × Env) := fun r => (g r).bind fun p => (R.ofO (op p.1)).bind fun d => .ok (d, p.2)
theorem d_app {mk : Expr} {r : List V → Hp → VK → Prop} {op : List D → Option D} {g : Env → R (List D)} (m : ∀ {ta : TA}, PA X es ta → PE X mk (tCB r ta)) (o : OpN X r op) (ha : DBs X W es g) : DP X W mk (appN op g) := by
  obtain ⟨ta, pa, wa⟩ := ha
  refine ⟨_, m pa, fun F os r σ H Q R S => ?_⟩
  refine wa F os r σ H _ R (S.bind.imp fun xs S vs H1 s1 h1 => ?_)
  obtain ⟨d, ed, S⟩ := S.ofO
  exact o _ H1 xs vs d Q (R.same' s1).AOk ed h1 fun u H3 s3 h3 => S u H3 (s1.trans s3) h3
theorem d_appF {mk : Expr} {r : List V → Hp → VK → Prop} {op : List D → Option D} {g : Env → R (List D)} (m : ∀ {ta : TA}, PA X es ta → PE X mk (tCB r ta)) (o : OpNF X r op) (ha : DBs X W es g) : DF X W mk (appN op g) := by
  obtain ⟨ta, pa, wa⟩ := ha
  refine ⟨_, m pa, fun F os r σ H Q R S => ?_⟩
  refine wa F os r σ H _ R (S.bind.imp fun xs S vs H1 s1 h1 => ?_)
  obtain ⟨d, ed, S⟩ := S.ofO
  exact o _ H1 xs vs d Q (R.same' s1).AOk ed h1 fun p H3 s3 n3 h3 => S p H3 (s1.trans s3) (s1.free n3) h3
theorem d_appE {mk : Expr} {r : List V → Hp → VK → Prop} {op : List D → Option D} {g : Env → R (List D × Env)} (m : ∀ {ta : TA}, PA X es ta → PE X mk (tCB r ta)) (o : OpN X r op) (ha : DEs X W es g) : DE X W mk (appNE op g) := by
  obtain ⟨ta, pa, wa⟩ := ha
  refine ⟨_, m pa, fun F os r σ H Q R S => ?_⟩
  refine wa F os r σ H _ R (S.bind.imp fun xs S vs H1 R1 k1 h1 => ?_)
  obtain ⟨d, ed, S⟩ := S.bind.ofO
  exact o _ H1 xs.1 vs d Q R1.AOk ed (repL_b h1) fun u H3 s3 h3 => S u H3 (R1.same' s3) (k1.trans (Keep.of s3)) h3

/-! ### tests -/
def asB : D → Option Bool
  | .bl b => some b
  | _ => none
@[simp] def tst (f : Env → R D) : Env → R Bool := fun r => (f r).bind fun d => R.ofO (asB d)
@[simp] def tstE (f : Env → R (D × Env)) : Env → R (Bool × Env) := fun r => (f r).bind fun p => (R.ofO (asB p.1)).bind fun b => .ok (b, p.2)
theorem asB_bl {K : PySem.W.Frag} {H : Hp} {A : Addr → Prop} {d : D} {v : V} {k : Bool} (e : asB d = some k) (h : RepB K H A d v) : v = .bl k := by
  cases d with
  | bl b =>
    cases e
    rcases h with h | ⟨a, _, h⟩
    · unfold Rep at h
      exact h
    · exact h.elim
  | _ => cases e
/-- a comparison as a test -/
theorem t_cmp {op : CmpOp} {r : R2} {g : D → D → Option D} {pos : Pos} (ho : OpR X (compareOp op) r) (o : Op2 X r g) (ha : DB X W a fa) (hb : DB X W b fb) (hm : behindInMarks op b = false) : DT X W (.Compare a [op] [b] pos) (tst (bin g fa fb)) := by
  obtain ⟨ta, pa, wa⟩ := ha
  obtain ⟨tb, pb, wb⟩ := hb
  refine ⟨_, pt_cmpR ho pa pb hm, fun F os r σ H Q R S => ?_⟩
  have S := S.bind
  show ta σ H _
  refine wa F os r σ H _ R (S.bind.imp fun x S v H1 s1 h1 => ?_)
  refine wb F os r σ H1 _ (R.same' s1) (S.bind.imp fun y S w H2 s2 h2 => ?_)
  obtain ⟨d, ed, S⟩ := S.ofO
  obtain ⟨k, ek, S⟩ := S.ofO
  have R2 := (R.same' s1).same' s2
  exact o _ H2 x y v w d _ R2.AOk ed (h1.same s2 (R.same' s1).AOk) h2 fun u H3 s3 h3 => ⟨k, asB_bl ek (.inl h3), S H3 ((s1.trans s2).trans s3)⟩
/-- truth -/
def truD : D → Option Bool
  | .non => some false
  | .bl b => some b
  | .int i => some (i != 0)
  | .str y => if y.length ≤ sizeLine then some ((y.length : Int) != 0) else none
  | .lst xs => some (!xs.isEmpty)
  | .tup xs => some (!xs.isEmpty)
  | .dct xs => some (!xs.isEmpty)
  | _ => none
theorem repL_empty {K : PySem.W.Frag} {H : Hp} {A : Addr → Prop} {ds : List D} {vs : List V} (h : RepL K H A ds vs) : ds.isEmpty = vs.isEmpty := by
  cases ds with
  | nil => unfold RepL at h; subst h; rfl
  | cons d ds => unfold RepL at h; obtain ⟨v, r, e, _, _⟩ := h; subst e; rfl
theorem repL_length {K : PySem.W.Frag} {H : Hp} {A : Addr → Prop} : ∀ {ds : List D} {vs : List V}, RepL K H A ds vs → vs.length = ds.length
  | [], vs, h => by unfold RepL at h; subst h; rfl
  | d :: ds, vs, h => by
    unfold RepL at h
    obtain ⟨v, r, e, _, h2⟩ := h
    subst e
    simp [repL_length h2]
theorem repK_empty {K : PySem.W.Frag} {H : Hp} {A : Addr → Prop} {ds : List (Key × D)} {vs : List (Key × V)} (h : RepK K H A ds vs) : ds.isEmpty = vs.isEmpty := by
  cases ds with
  | nil => unfold RepK at h; subst h; rfl
  | cons d ds => obtain ⟨k, d⟩ := d; unfold RepK at h; obtain ⟨v, r, e, _, _⟩ := h; subst e; rfl
/-- a list that may be read: where it stands, its values -/
theorem RepB.lst {K : PySem.W.Frag} {H : Hp} {A : Addr → Prop} {ds : List D} {v : V} (h : RepB K H A (.lst ds) v) : ∃ a xs, v = .ref a ∧ SqL K H a xs ∧ RepL K H A ds xs := by
  rcases h with h | ⟨a, e, xs, h1, h2⟩
  · unfold Rep at h
    obtain ⟨a, xs, e, h1, h2⟩ := h
    rcases h1 with ⟨h1, _⟩ | h1
    · exact ⟨a, xs, e, .inl h1, h2⟩
    · exact ⟨a, xs, e, .inr h1, h2⟩
  · exact ⟨a, xs, e, SqL.of h1, h2⟩
theorem RepB.tup {K : PySem.W.Frag} {H : Hp} {A : Addr → Prop} {ds : List D} {v : V} (h : RepB K H A (.tup ds) v) : ∃ a xs, v = .ref a ∧ SqT K H a xs ∧ RepL K H A ds xs := by
  rcases h with h | ⟨a, e, h⟩
  · unfold Rep at h
    obtain ⟨a, xs, e, h1, h2⟩ := h
    exact ⟨a, xs, e, tup_sq h1, h2⟩
  · exact h.elim
theorem RepB.dct {K : PySem.W.Frag} {H : Hp} {A : Addr → Prop} {ds : List (Key × D)} {v : V} (h : RepB K H A (.dct ds) v) : ∃ a xs, v = .ref a ∧ H a = some (.dK xs) ∧ RepK K H A ds xs := by
  rcases h with h | ⟨a, e, xs, h1, h2⟩
  · unfold Rep at h
    obtain ⟨a, xs, e, h1, h2, h3⟩ := h
    exact ⟨a, xs, e, h1, h3⟩
  · exact ⟨a, xs, e, h1, h2⟩
theorem RepB.int {K : PySem.W.Frag} {H : Hp} {A : Addr → Prop} {i : Int} {v : V} (h : RepB K H A (.int i) v) : v = .int i := by
  rcases h with h | ⟨a, e, h⟩
  · unfold Rep at h; exact h
  · exact h.elim
theorem RepB.str {K : PySem.W.Frag} {H : Hp} {A : Addr → Prop} {i : Str} {v : V} (h : RepB K H A (.str i) v) : v = .str i := by
  rcases h with h | ⟨a, e, h⟩
  · unfold Rep at h; exact h
  · exact h.elim
theorem RepB.bl {K : PySem.W.Frag} {H : Hp} {A : Addr → Prop} {i : Bool} {v : V} (h : RepB K H A (.bl i) v) : v = .bl i := by
  rcases h with h | ⟨a, e, h⟩
  · unfold Rep at h; exact h
  · exact h.elim
theorem RepB.non {K : PySem.W.Frag} {H : Hp} {A : Addr → Prop} {v : V} (h : RepB K H A .non v) : v = .non := by
  rcases h with h | ⟨a, e, h⟩
  · unfold Rep at h; exact h
  · exact h.elim
theorem tru_of {K : PySem.W.Frag} {H : Hp} {A : Addr → Prop} {d : D} {v : V} {k : Bool} (e : truD d = some k) (h : RepB K H A d v) : TruV K v H k := by
  cases d with
  | non => cases e; rw [h.non]; rfl
  | bl b => cases e; rw [h.bl]; rfl
  | int i => cases e; rw [h.int]; rfl
  | str y =>
    simp only [truD] at e
    split at e
    · rename_i hy
      cases e
      rw [h.str]
      exact ⟨hy, rfl⟩
    · cases e
  | lst xs =>
    cases e
    obtain ⟨a, ys, e1, h1, h2⟩ := h.lst
    subst e1
    exact .inl ⟨ys, h1, by rw [repL_empty h2]⟩
  | tup xs =>
    cases e
    obtain ⟨a, ys, e1, h1, h2⟩ := h.tup
    subst e1
    exact .inr (.inl ⟨ys, h1, by rw [repL_empty h2]⟩)
  | dct xs =>
    cases e
    obtain ⟨a, ys, e1, h1, h2⟩ := h.dct
    subst e1
    exact .inr (.inr ⟨ys, h1, by rw [repK_empty h2]⟩)
  | _ => cases e
@[simp] def tru (f : Env → R D) : Env → R Bool := fun r => (f r).bind fun d => R.ofO (truD d)
@[simp] def truE (f : Env → R (D × Env)) : Env → R (Bool × Env) := fun r => (f r).bind fun p => (R.ofO (truD p.1)).bind fun b => .ok (b, p.2)
theorem t_tru (ha : DB X W a fa) (he : ∀ whole, isTrue a X.env whole = (do let v ← whole; standAt a.pos; holding [v] (truthy v)) := by intro _; rfl) : DT X W a (tru fa) := by
  obtain ⟨ta, pa, wa⟩ := ha
  refine ⟨_, pt_truth pa he, fun F os r σ H Q R S => ?_⟩
  show ta σ H _
  refine wa F os r σ H _ R (S.bind.imp fun x S v H1 s1 h1 => ?_)
  obtain ⟨k, ek, S⟩ := S.ofO
  exact ⟨k, tru_of ek h1, S H1 s1⟩
end
end DL

end
section
namespace DL
open PySem L2
section
variable {X : Cx}
theorem repL_append {K : PySem.W.Frag} {H : Hp} {A : Addr → Prop} : ∀ {ds es : List D} {vs ws : List V}, RepL K H A ds vs → RepL K H A es ws → RepL K H A (ds ++ es) (vs ++ ws)
  | [], es, vs, ws, h, h2 => by
    unfold RepL at h
    subst h
    exact h2
  | d :: ds, es, vs, ws, h, h2 => by
    unfold RepL at h
    obtain ⟨v, r, e, h1, h3⟩ := h
    subst e
    show RepL K H A (d :: (ds ++ es)) (v :: (r ++ ws))
    unfold RepL
    exact ⟨v, r ++ ws, rfl, h1, repL_append h3 h2⟩
theorem repL_get {K : PySem.W.Frag} {H : Hp} {A : Addr → Prop} : ∀ {ds : List D} {vs : List V} {i : Nat} {d : D}, RepL K H A ds vs → ds[i]? = some d → ∃ v, vs[i]? = some v ∧ Rep K H A d v
  | [], vs, i, d, h, e => by simp at e
  | d :: ds, vs, 0, d', h, e => by
    unfold RepL at h
    obtain ⟨v, r, e1, h1, h3⟩ := h
    subst e1
    simp at e
    subst e
    exact ⟨v, rfl, h1⟩
  | d :: ds, vs, i + 1, d', h, e => by
    unfold RepL at h
    obtain ⟨v, r, e1, h1, h3⟩ := h
    subst e1
    obtain ⟨u, h4, h5⟩ := repL_get (i := i) h3 (by simpa using e)
    exact ⟨u, by simpa using h4, h5⟩
theorem repL_take {K : PySem.W.Frag} {H : Hp} {A : Addr → Prop} : ∀ {ds : List D} {vs : List V} (n : Nat), RepL K H A ds vs → RepL K H A (ds.take n) (vs.take n)
  | ds, vs, 0, h => by simp only [List.take_zero]; unfold RepL; rfl
  | [], vs, n + 1, h => by
    unfold RepL at h
    subst h
    simp only [List.take_nil]
    unfold RepL; rfl
  | d :: ds, vs, n + 1, h => by
    unfold RepL at h
    obtain ⟨v, r, e1, h1, h3⟩ := h
    subst e1
    simp only [List.take_succ_cons]
    unfold RepL
    exact ⟨v, _, rfl, h1, repL_take n h3⟩
theorem repL_rev {K : PySem.W.Frag} {H : Hp} {A : Addr → Prop} : ∀ {ds : List D} {vs : List V}, RepL K H A ds vs → RepL K H A ds.reverse vs.reverse
  | [], vs, h => by
    unfold RepL at h
    subst h
    simp only [List.reverse_nil]
    unfold RepL; rfl
  | d :: ds, vs, h => by
    unfold RepL at h
    obtain ⟨v, r, e1, h1, h3⟩ := h
    subst e1
    simp only [List.reverse_cons]
    exact repL_append (repL_rev h3) (by unfold RepL; exact ⟨v, [], rfl, h1, by unfold RepL; rfl⟩)
/-- a new tuple, a new list -/
theorem rep_newtup {K : PySem.W.Frag} {H : Hp} {A : Addr → Prop} {ds : List D} {vs : List V} {p : Addr} (ak : AOk A H) (h : RepL K H A ds vs) (n : H p = none) : Rep K (upd H p (.tup vs)) A (.tup ds) (.ref p) := by
  unfold Rep
  exact ⟨p, vs, rfl, .inl upd_same, h.same (same_upd n) ak⟩
theorem repO_newlst {K : PySem.W.Frag} {H : Hp} {A : Addr → Prop} {ds : List D} {vs : List V} {p : Addr} (ak : AOk A H) (h : RepL K H A ds vs) (n : H p = none) : RepO K (upd H p (.lst vs)) (Ad A p) (.lst ds) p := by
  refine ⟨vs, upd_same, RepL.keep (A := A) (fun b o e nb => ⟨by rw [upd_ne (ne_of_none e n)]; exact e, fun z => ?_⟩) ak _ _ h⟩
  rcases z with z | z
  · exact nb z
  · rw [z, n] at e
    cases e

/-! ### + -/
@[simp] def addD : D → D → Option D
  | .int i, .int j => some (.int (i + j))
  | .str x, .str y => if x.length + y.length ≤ sizeLine then some (.str (x ++ y)) else none
  | .tup xs, .tup ys => if xs.length + ys.length ≤ sizeLine then some (.tup (xs ++ ys)) else none
  | _, _ => none
def rAddS : R2 := fun x y H Q => ∃ i j, x = .str i ∧ y = .str j ∧ i.length + j.length ≤ sizeLine ∧ Q (.str (i ++ j)) H
def rAdd3 (K : PySem.W.Frag) : R2 := fun x y H Q => rI0 (fun i j => .int (i + j)) x y H Q ∨ rAddS x y H Q ∨ rCatA K x y H Q
theorem op_add3 : OpR X (binaryOp .Add) (rAdd3 X.K) := op_add.or (OpR.or (r := rAddS) op_add_str op_catA)
theorem o_add : Op2 X (rAdd3 X.K) addD := by
  intro A H x y v w d Q ak e hx hy q
  cases x with
  | int i =>
    cases y with
    | int j => cases e; exact .inl ⟨i, j, hx.int, hy.int, q _ H (Same.refl H) (by unfold Rep; rfl)⟩
    | _ => cases e
  | str i =>
    cases y with
    | str j =>
      simp only [addD] at e
      split at e
      · rename_i hl
        cases e
        exact .inr (.inl ⟨i, j, hx.str, hy.str, hl, q _ H (Same.refl H) (by unfold Rep; rfl)⟩)
      · cases e
    | _ => cases e
  | tup i =>
    cases y with
    | tup j =>
      simp only [addD] at e
      split at e
      · rename_i hl
        cases e
        have hx0 := hx
        have hy0 := hy
        obtain ⟨a, xs, e1, h1, h2⟩ := hx.tup
        obtain ⟨b, ys, e2, h3, h4⟩ := hy.tup
        have l1 := repL_length h2
        have l2 := repL_length h4
        have rx : Rep X.K H A (.tup i) v := by
          rcases hx0 with z | ⟨_, _, z⟩
          · exact z
          · exact z.elim
        have ry : Rep X.K H A (.tup j) w := by
          rcases hy0 with z | ⟨_, _, z⟩
          · exact z
          · exact z.elim
        refine .inr (.inr ⟨a, b, xs, ys, e1, e2, h1, h3, by omega, fun z => ?_, fun z1 z2 => ?_, fun z1 z2 p n => ?_⟩)
        · subst z
          have : i = [] := List.eq_nil_of_length_eq_zero (by simpa using l1.symm)
          subst this
          exact q _ H (Same.refl H) (by rw [← e2]; exact ry)
        · subst z2
          have : j = [] := List.eq_nil_of_length_eq_zero (by simpa using l2.symm)
          subst this
          exact q _ H (Same.refl H) (by rw [List.append_nil, ← e1]; exact rx)
        · exact q _ _ (same_upd n) (rep_newtup ak (repL_append h2 h4) n)
      · cases e
    | _ => cases e
  | _ => cases e
/-- list + list -/
def catD : D → D → Option D
  | .lst xs, .lst ys => if xs.length + ys.length ≤ sizeLine then some (.lst (xs ++ ys)) else none
  | _, _ => none
def rCatL (K : PySem.W.Frag) : R2 := fun x y H Q => ∃ l b xs zs, x = .ref l ∧ y = .ref b ∧ SqL K H l xs ∧ SqL K H b zs ∧ xs.length + zs.length ≤ sizeLine ∧ ∀ p, H p = none → Q (.ref p) (upd H p (.lst (xs ++ zs)))
theorem op_catL : OpR X (binaryOp .Add) (rCatL X.K) := by
  intro pins s σ H x y v u Q I rx ry h
  obtain ⟨l, b, xs, zs, rfl, rfl, hH, hB, hz, q⟩ := h
  cases rx
  cases ry
  obtain ⟨its, r, ⟨⟨cls, dd, data, sl⟩, n, ho, hc, hdn, hd⟩, hl⟩ := I.list hH
  obtain ⟨its2, r2, ⟨⟨cls2, dd2, data2, sl2⟩, n2, ho2, hc2, hdn2, hd2⟩, hl2⟩ := I.list hB
  simp only at hc hd hc2 hd2
  subst hc hd hc2 hd2
  have e1 := r.length
  have e2 := r2.length
  have ea : its.toArray ++ its2.toArray = (its ++ its2).toArray := by simp
  refine PySem.concat_meets ⟨_, ho, rfl⟩ ⟨_, ho2, rfl⟩ PySem.noFill_list_add PySem.seq_list_add PySem.F.slot_list_add PySem.F.entry_list_add (PySem.F.args_list_add_2 _ _) (PyProof.Rows.list_addW l b its.toArray its2.toArray n n2 dd dd2 sl sl2 (by simp; omega)) ⟨ho, ho2, ?_⟩
  rw [ea]
  exact ⟨.ref _, _, I.lnew (t' := s.toks) (r.append r2) (by rw [List.length_append]; omega), rfl, q _ I.fresh⟩
theorem o_cat : Op2F X (rCatL X.K) catD := by
  intro A H x y v w d Q ak e hx hy q
  cases x with
  | lst i =>
    cases y with
    | lst j =>
      simp only [catD] at e
      split at e
      · rename_i hl
        cases e
        obtain ⟨a, xs, e1, h1, h2⟩ := hx.lst
        obtain ⟨b, ys, e2, h3, h4⟩ := hy.lst
        have l1 := repL_length h2
        have l2 := repL_length h4
        exact ⟨a, b, xs, ys, e1, e2, h1, h3, by omega, fun p n => q p _ (same_upd n) n (repO_newlst ak (repL_append h2 h4) n)⟩
      · cases e
    | _ => cases e
  | _ => cases e

/-! ### other arithmetic -/
theorem rep_int {K : PySem.W.Frag} {H : Hp} {A : Addr → Prop} {i : Int} : Rep K H A (.int i) (.int i) := by unfold Rep; rfl
theorem rep_bl {K : PySem.W.Frag} {H : Hp} {A : Addr → Prop} {i : Bool} : Rep K H A (.bl i) (.bl i) := by unfold Rep; rfl
theorem rep_str {K : PySem.W.Frag} {H : Hp} {A : Addr → Prop} {i : Str} : Rep K H A (.str i) (.str i) := by unfold Rep; rfl
theorem rep_non {K : PySem.W.Frag} {H : Hp} {A : Addr → Prop} : Rep K H A .non .non := by unfold Rep; rfl
def intOp (C : Int → Int → Bool) (g : Int → Int → Int) : D → D → Option D
  | .int i, .int j => if C i j then some (.int (g i j)) else none
  | _, _ => none
theorem o_int {P : Int → Int → Prop} {C : Int → Int → Bool} {g : Int → Int → Int} (h : ∀ i j, C i j = true → P i j) : Op2 X (rI P fun i j => .int (g i j)) (intOp C g) := by
  intro A H x y v w d Q ak e hx hy q
  cases x with
  | int i =>
    cases y with
    | int j =>
      simp only [intOp] at e
      split at e
      · rename_i hc
        cases e
        exact ⟨i, j, hx.int, hy.int, h i j hc, q _ H (Same.refl H) rep_int⟩
      · cases e
    | _ => cases e
  | _ => cases e
theorem o_int0 {g : Int → Int → Int} : Op2 X (rI0 fun i j => .int (g i j)) (intOp (fun _ _ => true) g) := by
  intro A H x y v w d Q ak e hx hy q
  cases x with
  | int i =>
    cases y with
    | int j =>
      cases e
      exact ⟨i, j, hx.int, hy.int, q _ H (Same.refl H) rep_int⟩
    | _ => cases e
  | _ => cases e
abbrev subD : D → D → Option D := intOp (fun _ _ => true) fun i j => i - j
theorem o_sub : Op2 X (rI0 fun i j => .int (i - j)) subD := o_int0
abbrev mulD : D → D → Option D := intOp (fun i j => decide (-(2 ^ 64) < i ∧ i < 2 ^ 64) || decide (-(2 ^ 64) < j ∧ j < 2 ^ 64)) fun i j => i * j
theorem o_mul : Op2 X (rI CMul fun i j => .int (i * j)) mulD := o_int fun i j h => by
  rcases Bool.or_eq_true_iff.mp h with h | h
  · exact .inl (of_decide_eq_true h)
  · exact .inr (of_decide_eq_true h)
abbrev fdivD : D → D → Option D := intOp (fun _ j => decide (0 < j ∧ j < 1073741824)) fun i j => i / j
theorem o_fdiv : Op2 X (rI CDiv fun i j => .int (i / j)) fdivD := o_int fun i j h => show 0 < j ∧ j < 1073741824 from of_decide_eq_true h
abbrev modD : D → D → Option D := intOp (fun _ j => decide (0 < j)) fun i j => i % j
theorem o_mod : Op2 X (rI (fun _ j => 0 < j) fun i j => .int (i % j)) modD := o_int fun i j h => of_decide_eq_true h
abbrev powD : D → D → Option D := intOp (fun i j => decide (0 ≤ j ∧ j ≤ 1000000 ∧ i.natAbs < 2 ^ 64)) fun i j => i ^ j.toNat
theorem o_pow : Op2 X (rI CPow fun i j => .int (i ^ j.toNat)) powD := o_int fun i j h => show 0 ≤ j ∧ j ≤ 1000000 ∧ i.natAbs < 2 ^ 64 from of_decide_eq_true h

/-! ### comparisons -/
mutual
def toPy : D → PyData
  | .non => .none
  | .bl b => .bool b
  | .int i => .int i
  | .str x => .str x
  | .tup xs => .tuple (toPyL xs)
  | .lst xs => .list (toPyL xs)
  | .dct _ => .dict []
  | .dctT _ => .dict []
  | .obj _ => .dict []
  | .dctF _ => .dict []
  | .ref _ => .dict []
  | .ty _ => .dict []
def toPyL : List D → List PyData
  | [] => []
  | x :: xs => toPy x :: toPyL xs
end
mutual
theorem dp_of {K : PySem.W.Frag} {H : Hp} {A : Addr → Prop} : ∀ (d : D) (v : V), PyData.canLay0 (toPy d) = true → Rep K H A d v → Dp K H v (toPy d)
  | .non, v, _, h => by unfold Rep at h; subst h; exact .non
  | .bl b, v, _, h => by unfold Rep at h; subst h; exact .bl b
  | .int b, v, _, h => by unfold Rep at h; subst h; exact .int b
  | .str b, v, _, h => by unfold Rep at h; subst h; exact .str b
  | .tup ds, v, l, h => by
    unfold Rep at h
    obtain ⟨a, xs, e, h1, h2⟩ := h
    subst e
    exact .tup (tup_sq h1) (dp_ofL ds xs (by simpa [toPy, PyData.canLay0] using l) h2)
  | .lst ds, v, l, h => by
    unfold Rep at h
    obtain ⟨a, xs, e, h1, h2⟩ := h
    subst e
    refine .lst ?_ (dp_ofL ds xs (by simpa [toPy, PyData.canLay0] using l) h2)
    rcases h1 with ⟨h1, _⟩ | h1
    · exact .inl h1
    · exact .inr h1
  | .dct _, _, l, _ => by simp [toPy, PyData.canLay0] at l
  | .dctT _, _, l, _ => by simp [toPy, PyData.canLay0] at l
  | .obj _, _, l, _ => by simp [toPy, PyData.canLay0] at l
  | .dctF _, _, l, _ => by simp [toPy, PyData.canLay0] at l
  | .ref _, _, l, _ => by simp [toPy, PyData.canLay0] at l
  | .ty _, _, l, _ => by simp [toPy, PyData.canLay0] at l
theorem dp_ofL {K : PySem.W.Frag} {H : Hp} {A : Addr → Prop} : ∀ (ds : List D) (vs : List V), PyData.canLayAll0 (toPyL ds) = true → RepL K H A ds vs → DpAll K H vs (toPyL ds)
  | [], vs, _, h => by unfold RepL at h; subst h; exact .nil
  | d :: ds, vs, l, h => by
    unfold RepL at h
    obtain ⟨v, r, e, h1, h2⟩ := h
    subst e
    have l' : PyData.canLay0 (toPy d) = true ∧ PyData.canLayAll0 (toPyL ds) = true := by simpa [toPyL, PyData.canLayAll0] using l
    exact .cons (dp_of d v l'.1 h1) (dp_ofL ds r l'.2 h2)
end
theorem dp_ofB {K : PySem.W.Frag} {H : Hp} {A : Addr → Prop} {d : D} {v : V} (l : PyData.canLay0 (toPy d) = true) (h : RepB K H A d v) : Dp K H v (toPy d) := by
  rcases h with h | ⟨a, e, h⟩
  · exact dp_of d v l h
  · subst e
    cases d with
    | lst ds =>
      obtain ⟨xs, h1, h2⟩ := h
      exact .lst (SqL.of h1) (dp_ofL ds xs (by simpa [toPy, PyData.canLay0] using l) h2)
    | dct ds => simp [toPy, PyData.canLay0] at l
    | dctT ds => simp [toPy, PyData.canLay0] at l
    | _ => exact h.elim
def shp (d : D) : Bool := SeqAt.shaped (toPy d)
/-- == of what Python compares by content -/
def eqPy (x y : D) : Bool := PyData.eqv (toPy x) (toPy y)
def eqD : D → D → Option D
  | .int i, .int j => some (.bl (decide (i = j)))
  | .str i, .str j => some (.bl (decide (i = j)))
  | x, y => if shp x && shp y then some (.bl (eqPy x y)) else none
def neD : D → D → Option D
  | .int i, .int j => some (.bl (!decide (i = j)))
  | .str i, .str j => some (.bl (!decide (i = j)))
  | x, y => if shp x && shp y then some (.bl (!eqPy x y)) else none
def rEq2 (K : PySem.W.Frag) : R2 := fun x y H Q => rEq x y H Q ∨ rEqD K x y H Q
def rNe2 (K : PySem.W.Frag) : R2 := fun x y H Q => rNe x y H Q ∨ rNeD K x y H Q
theorem op_eq2 (hu : X.A.units + 64 < cLine) : OpR X (compareOp .Eq) (rEq2 X.K) := op_eq.or (op_eqD hu)
theorem op_ne2 (hu : X.A.units + 64 < cLine) : OpR X (compareOp .NotEq) (rNe2 X.K) := op_ne.or (op_neD hu)
theorem eqD_gen {x y d : D} (e : eqD x y = some d) : (∃ i j, x = .int i ∧ y = .int j ∧ d = .bl (decide (i = j))) ∨ (∃ i j, x = .str i ∧ y = .str j ∧ d = .bl (decide (i = j))) ∨ (shp x = true ∧ shp y = true ∧ d = .bl (eqPy x y)) := by
  unfold eqD at e
  split at e
  · cases e; exact .inl ⟨_, _, rfl, rfl, rfl⟩
  · cases e; exact .inr (.inl ⟨_, _, rfl, rfl, rfl⟩)
  · split at e
    · rename_i hc
      cases e
      rw [Bool.and_eq_true] at hc
      exact .inr (.inr ⟨hc.1, hc.2, rfl⟩)
    · cases e
theorem neD_gen {x y d : D} (e : neD x y = some d) : (∃ i j, x = .int i ∧ y = .int j ∧ d = .bl (!decide (i = j))) ∨ (∃ i j, x = .str i ∧ y = .str j ∧ d = .bl (!decide (i = j))) ∨ (shp x = true ∧ shp y = true ∧ d = .bl (!eqPy x y)) := by
  unfold neD at e
  split at e
  · cases e; exact .inl ⟨_, _, rfl, rfl, rfl⟩
  · cases e; exact .inr (.inl ⟨_, _, rfl, rfl, rfl⟩)
  · split at e
    · rename_i hc
      cases e
      rw [Bool.and_eq_true] at hc
      exact .inr (.inr ⟨hc.1, hc.2, rfl⟩)
    · cases e
theorem o_eq : Op2 X (rEq2 X.K) eqD := by
  intro A H x y v w d Q ak e hx hy q
  rcases eqD_gen e with ⟨i, j, rfl, rfl, rfl⟩ | ⟨i, j, rfl, rfl, rfl⟩ | ⟨h1, h2, rfl⟩
  · refine .inl ⟨by rw [hx.int, hy.int]; rfl, ?_⟩
    rw [hx.int, hy.int, show decide (V.int i = V.int j) = decide (i = j) by simp]
    exact q _ H (Same.refl H) rep_bl
  · refine .inl ⟨by rw [hx.str, hy.str]; rfl, ?_⟩
    rw [hx.str, hy.str, show decide (V.str i = V.str j) = decide (i = j) by simp]
    exact q _ H (Same.refl H) rep_bl
  · exact .inr ⟨toPy x, toPy y, dp_ofB (SeqAt.canLay_of_shaped h1) hx, dp_ofB (SeqAt.canLay_of_shaped h2) hy, h1, h2, q _ H (Same.refl H) rep_bl⟩
theorem o_ne : Op2 X (rNe2 X.K) neD := by
  intro A H x y v w d Q ak e hx hy q
  rcases neD_gen e with ⟨i, j, rfl, rfl, rfl⟩ | ⟨i, j, rfl, rfl, rfl⟩ | ⟨h1, h2, rfl⟩
  · refine .inl ⟨by rw [hx.int, hy.int]; rfl, ?_⟩
    rw [hx.int, hy.int, show decide (V.int i = V.int j) = decide (i = j) by simp]
    exact q _ H (Same.refl H) rep_bl
  · refine .inl ⟨by rw [hx.str, hy.str]; rfl, ?_⟩
    rw [hx.str, hy.str, show decide (V.str i = V.str j) = decide (i = j) by simp]
    exact q _ H (Same.refl H) rep_bl
  · exact .inr ⟨toPy x, toPy y, dp_ofB (SeqAt.canLay_of_shaped h1) hx, dp_ofB (SeqAt.canLay_of_shaped h2) hy, h1, h2, q _ H (Same.refl H) rep_bl⟩
def cmpI (p : Int → Int → Bool) : D → D → Option D
  | .int i, .int j => some (.bl (p i j))
  | _, _ => none
theorem o_cmpI {p : Int → Int → Bool} : Op2 X (rI0 fun i j => .bl (p i j)) (cmpI p) := by
  intro A H x y v w d Q ak e hx hy q
  cases x with
  | int i =>
    cases y with
    | int j =>
      cases e
      exact ⟨i, j, hx.int, hy.int, q _ H (Same.refl H) rep_bl⟩
    | _ => cases e
  | _ => cases e
abbrev ltD := cmpI fun i j => decide (i < j)
abbrev leD := cmpI fun i j => decide (i ≤ j)
abbrev gtD := cmpI fun i j => decide (j < i)
abbrev geD := cmpI fun i j => decide (j ≤ i)
/-- x is None, x is not None -/
def isND : D → Bool
  | .non => true
  | _ => false
def isN2 : D → D → Option D
  | x, .non => some (.bl (isND x))
  | _, _ => none
def notN2 : D → D → Option D
  | x, .non => some (.bl (!isND x))
  | _, _ => none
theorem isND_of {K : PySem.W.Frag} {H : Hp} {A : Addr → Prop} {x : D} {v : V} (h : RepB K H A x v) : decide (v = .non) = isND x := by
  cases x with
  | non => rw [h.non]; rfl
  | bl b => rw [h.bl]; rfl
  | int b => rw [h.int]; rfl
  | str b => rw [h.str]; rfl
  | tup b => obtain ⟨a, xs, e, _⟩ := h.tup; rw [e]; rfl
  | lst b => obtain ⟨a, xs, e, _⟩ := h.lst; rw [e]; rfl
  | dct b => obtain ⟨a, xs, e, _⟩ := h.dct; rw [e]; rfl
  | dctF b =>
    rcases h with h | ⟨a, e, _⟩
    · unfold Rep at h
      obtain ⟨a, o, xs, e, _⟩ := h
      rw [e]; rfl
    · rw [e]; rfl
  | obj b =>
    rcases h with h | ⟨a, e, _⟩
    · unfold Rep at h
      obtain ⟨a, C, dx, xs, e, _⟩ := h
      rw [e]; rfl
    · rw [e]; rfl
  | dctT b =>
    rcases h with h | ⟨a, e, _⟩
    · unfold Rep at h
      obtain ⟨a, xs, e, _⟩ := h
      rw [e]; rfl
    · rw [e]; rfl
  | ref b =>
    rcases h with h | ⟨a, e, _⟩
    · unfold Rep at h
      rw [h]; rfl
    · rw [e]; rfl
  | ty b =>
    rcases h with h | ⟨a, e, h⟩
    · unfold Rep at h
      rw [h]; rfl
    · exact h.elim
theorem o_isN : Op2 X (fun x y H Q => y = .non ∧ Q (.bl (decide (x = .non))) H) isN2 := by
  intro A H x y v w d Q ak e hx hy q
  cases y with
  | non =>
    cases e
    refine ⟨hy.non, ?_⟩
    rw [isND_of hx]
    exact q _ H (Same.refl H) rep_bl
  | _ => cases e
theorem o_notN : Op2 X (fun x y H Q => y = .non ∧ Q (.bl (!decide (x = .non))) H) notN2 := by
  intro A H x y v w d Q ak e hx hy q
  cases y with
  | non =>
    cases e
    refine ⟨hy.non, ?_⟩
    rw [isND_of hx]
    exact q _ H (Same.refl H) rep_bl
  | _ => cases e

/-! ### in -/
/-- a text within a text; an item of a list or tuple of plain things -/
def flatD : D → Bool
  | .non => true | .bl _ => true | .int _ => true | .str _ => true
  | _ => false
def inStr (x y : Str) : Bool := !(Builtin.Str.occurrences y x 0 y.length 1).isEmpty
def inD : D → D → Option Bool
  | .str x, .str y => some (inStr x y)
  | x, .lst ys => if flatD x && ys.all flatD then some (ys.any fun y => eqPy y x) else if shp x && shp (.lst ys) then some (ys.any fun y => eqPy y x) else none
  | x, .tup ys => if flatD x && ys.all flatD then some (ys.any fun y => eqPy y x) else none
  | _, _ => none
def inB (n : Bool) (x y : D) : Option D := (inD x y).map fun b => .bl (if n then !b else b)
def rInS (n : Bool) : R2 := fun x y H Q => ∃ i j, x = .str i ∧ y = .str j ∧ Q (.bl (if n then !(inStr i j) else inStr i j)) H
def rIn3 (K : PySem.W.Frag) (n : Bool) : R2 := fun x y H Q => rInS n x y H Q ∨ rIn K n x y H Q ∨ (∃ d ds, Dp K H x d ∧ Dp K H y (.list ds) ∧ SeqAt.shaped d = true ∧ SeqAt.shaped (.list ds) = true ∧ Q (.bl (if n then !ds.any fun z => PyData.eqv z d else ds.any fun z => PyData.eqv z d)) H)
theorem op_in3 (hu : X.A.units + 65 < cLine) : OpR X (compareOp .In) (rIn3 X.K false) := OpR.or (r := rInS false) op_in_str (op_in_seq.or (op_inD hu))
theorem op_notIn3 (hu : X.A.units + 65 < cLine) : OpR X (compareOp .NotIn) (rIn3 X.K true) := OpR.or (r := rInS true) op_notIn_str (op_notIn_seq.or (op_notInD hu))
theorem flat_of {K : PySem.W.Frag} {H : Hp} {A : Addr → Prop} {x : D} {v : V} (f : flatD x = true) (h : RepB K H A x v) : flatV v = true := by
  cases x with
  | non => rw [h.non]; rfl
  | bl b => rw [h.bl]; rfl
  | int b => rw [h.int]; rfl
  | str b => rw [h.str]; rfl
  | _ => cases f
theorem eqV_of {K : PySem.W.Frag} {H : Hp} {A : Addr → Prop} {x y : D} {v w : V} (f : flatD x = true) (g : flatD y = true) (h : RepB K H A x v) (h2 : RepB K H A y w) : eqV v w = eqPy x y := by
  cases x with
  | non =>
    rw [h.non]
    cases y with
    | non => rw [h2.non]; simp [eqV, eqPy, toPy, PyData.eqv]
    | bl b => rw [h2.bl]; simp [eqV, eqPy, toPy, PyData.eqv]
    | int b => rw [h2.int]; simp [eqV, eqPy, toPy, PyData.eqv]
    | str b => rw [h2.str]; simp [eqV, eqPy, toPy, PyData.eqv]
    | _ => cases g
  | bl a =>
    rw [h.bl]
    cases y with
    | non => rw [h2.non]; simp [eqV, eqPy, toPy, PyData.eqv]
    | bl b => rw [h2.bl]; simp [eqV, eqPy, toPy, PyData.eqv]
    | int b => rw [h2.int]; simp [eqV, eqPy, toPy, PyData.eqv]
    | str b => rw [h2.str]; simp [eqV, eqPy, toPy, PyData.eqv]
    | _ => cases g
  | int a =>
    rw [h.int]
    cases y with
    | non => rw [h2.non]; simp [eqV, eqPy, toPy, PyData.eqv]
    | bl b => rw [h2.bl]; simp [eqV, eqPy, toPy, PyData.eqv]
    | int b => rw [h2.int]; simp [eqV, eqPy, toPy, PyData.eqv]
    | str b => rw [h2.str]; simp [eqV, eqPy, toPy, PyData.eqv]
    | _ => cases g
  | str a =>
    rw [h.str]
    cases y with
    | non => rw [h2.non]; simp [eqV, eqPy, toPy, PyData.eqv]
    | bl b => rw [h2.bl]; simp [eqV, eqPy, toPy, PyData.eqv]
    | int b => rw [h2.int]; simp [eqV, eqPy, toPy, PyData.eqv]
    | str b => rw [h2.str]; simp [eqV, eqPy, toPy, PyData.eqv]
    | _ => cases g
  | _ => cases f
theorem flats_of {K : PySem.W.Frag} {H : Hp} {A : Addr → Prop} : ∀ {ds : List D} {vs : List V}, ds.all flatD = true → RepL K H A ds vs → vs.all flatV = true
  | [], vs, f, h => by unfold RepL at h; subst h; rfl
  | d :: ds, vs, f, h => by
    unfold RepL at h
    obtain ⟨v, r, e, h1, h2⟩ := h
    subst e
    rw [List.all_cons, Bool.and_eq_true] at f ⊢
    exact ⟨flat_of f.1 (.inl h1), flats_of f.2 h2⟩
theorem inV_of {K : PySem.W.Frag} {H : Hp} {A : Addr → Prop} {x : D} {v : V} (f : flatD x = true) (h : RepB K H A x v) : ∀ {ds : List D} {vs : List V}, ds.all flatD = true → RepL K H A ds vs → inV v vs = ds.any fun y => eqPy y x
  | [], vs, g, h2 => by unfold RepL at h2; subst h2; rfl
  | d :: ds, vs, g, h2 => by
    unfold RepL at h2
    obtain ⟨w, r, e, h3, h4⟩ := h2
    subst e
    rw [List.all_cons, Bool.and_eq_true] at g
    have ih := inV_of f h g.2 h4
    show (eqV w v || inV v r) = _
    rw [List.any_cons, ih, eqV_of g.1 f (.inl h3) h]
theorem any_py (x : D) : ∀ ys : List D, (toPyL ys).any (fun z => PyData.eqv z (toPy x)) = ys.any fun y => eqPy y x
  | [] => rfl
  | y :: ys => by
    show (PyData.eqv (toPy y) (toPy x) || (toPyL ys).any _) = _
    rw [any_py x ys]
    rfl
theorem o_in {n : Bool} : Op2 X (rIn3 X.K n) (inB n) := by
  intro A H x y v w d Q ak e hx hy q
  unfold inB at e
  cases q' : inD x y with
  | none => rw [q'] at e; cases e
  | some b =>
    rw [q'] at e
    cases e
    unfold inD at q'
    split at q'
    · cases q'
      exact .inl ⟨_, _, hx.str, hy.str, q _ H (Same.refl H) rep_bl⟩
    · rename_i ys
      obtain ⟨a, xs, e1, h1, h2⟩ := hy.lst
      split at q'
      · rename_i hf
        cases q'
        rw [Bool.and_eq_true] at hf
        refine .inr (.inl ⟨a, xs, e1, .inl h1, flat_of hf.1 hx, flats_of hf.2 h2, ?_⟩)
        rw [inV_of hf.1 hx hf.2 h2]
        exact q _ H (Same.refl H) rep_bl
      · split at q'
        · rename_i hs
          cases q'
          rw [Bool.and_eq_true] at hs
          refine .inr (.inr ⟨toPy x, toPyL ys, dp_ofB (SeqAt.canLay_of_shaped hs.1) hx, ?_, hs.1, ?_, ?_⟩)
          · exact dp_ofB (SeqAt.canLay_of_shaped hs.2) hy
          · exact hs.2
          · rw [any_py]
            exact q _ H (Same.refl H) rep_bl
        · cases q'
    · rename_i ys
      obtain ⟨a, xs, e1, h1, h2⟩ := hy.tup
      split at q'
      · rename_i hf
        cases q'
        rw [Bool.and_eq_true] at hf
        refine .inr (.inl ⟨a, xs, e1, .inr h1, flat_of hf.1 hx, flats_of hf.2 h2, ?_⟩)
        rw [inV_of hf.1 hx hf.2 h2]
        exact q _ H (Same.refl H) rep_bl
      · cases q'
    · cases q'

/-! ### items, slices -/
def ixD : D → D → Option D
  | .lst xs, .int i => atI xs i
  | .tup xs, .int i => atI xs i
  | .str z, .int i => if z.length ≤ sizeLine then (atI z.cps.toList i).map fun c => .str ⟨#[c]⟩ else none
  | _, _ => none
theorem atI_rep {K : PySem.W.Frag} {H : Hp} {A : Addr → Prop} {ds : List D} {vs : List V} {i : Int} {d : D} (h : RepL K H A ds vs) (e : atI ds i = some d) : ∃ v, atI vs i = some v ∧ Rep K H A d v := by
  unfold atI at e ⊢
  rw [repL_length h]
  cases q : ixN ds.length i with
  | none => rw [q] at e; cases e
  | some j =>
    rw [q] at e
    exact repL_get h e
theorem o_ix : Op2 X (rIx X.K) ixD := by
  intro A H x y v w d Q ak e hx hy q
  cases y with
  | int i =>
    cases x with
    | lst xs =>
      obtain ⟨a, ys, e1, h1, h2⟩ := hx.lst
      obtain ⟨z, h3, h4⟩ := atI_rep h2 e
      exact .inl ⟨a, ys, i, z, e1, hy.int, h1, h3, q _ H (Same.refl H) h4⟩
    | tup xs =>
      obtain ⟨a, ys, e1, h1, h2⟩ := hx.tup
      obtain ⟨z, h3, h4⟩ := atI_rep h2 e
      exact .inr (.inl ⟨a, ys, i, z, e1, hy.int, h1, h3, q _ H (Same.refl H) h4⟩)
    | str z =>
      simp only [ixD] at e
      split at e
      · rename_i hz
        cases q' : atI z.cps.toList i with
        | none => rw [q'] at e; cases e
        | some c =>
          rw [q'] at e
          cases e
          exact .inr (.inr ⟨z, i, c, hx.str, hy.int, hz, q', q _ H (Same.refl H) rep_str⟩)
      · cases e
    | _ => cases e
  | _ => cases x <;> cases e
theorem d_ix {W : WX} {a b : Expr} {fa fb : Env → R D} {pos : Pos} (ha : DB X W a fa) (hb : DB X W b fb) (hs : PlainIx b := by exact fun _ _ => rfl) : DP X W (.Subscript a b pos) (bin ixD fa fb) := d_bin (fun pa pb => pe_ix ix_seq pa pb hs) o_ix ha hb
theorem e_ix {W : WX} {a b : Expr} {fa fb : Env → R (D × Env)} {pos : Pos} (ha : DE X W a fa) (hb : DE X W b fb) (hs : PlainIx b := by exact fun _ _ => rfl) : DE X W (.Subscript a b pos) (binE ixD fa fb) := d_binE (fun pa pb => pe_ix ix_seq pa pb hs) o_ix ha hb
/-- a part of a slice -/
structure DO (X : Cx) (W : WX) (e : Option Expr) (f : Env → R (Option Int)) : Prop where
  ex : ∃ t, PO X e t ∧ ∀ (F : Fm) (os : List (Option Addr)) (r : Env) (σ : St) (H : Hp) (Q : Option Int → Hp → Prop), Rel X.K F os r σ H →
    Sat (fun o => ∀ H', Same H H' → Q o H') (Er X W F) (f r) → t σ H Q
@[simp] def oNone : Env → R (Option Int) := fun _ => .ok none
def asI : D → Option Int
  | .int i => some i
  | _ => none
@[simp] def oSome (f : Env → R D) : Env → R (Option Int) := fun r => (f r).bind fun d => (R.ofO (asI d)).bind fun i => .ok (some i)
def cutL {α : Type} (xs : List α) (lo hi : Option Int) : List α := (xs.drop (HT.sIx xs.length 0 lo)).take (HT.sIx xs.length xs.length hi - HT.sIx xs.length 0 lo)
@[simp] def slD : D → Option Int → Option Int → Option D
  | .str z, lo, hi => if z.length ≤ sizeLine then some (.str (cutS z lo hi)) else none
  | .tup xs, lo, hi => some (.tup (cutL xs lo hi))
  | _, _, _ => none
@[simp] def slLD : D → Option Int → Option Int → Option D
  | .lst xs, lo, hi => some (.lst (cutL xs lo hi))
  | _, _, _ => none
def rSl2 (K : PySem.W.Frag) : V → Option Int → Option Int → Hp → VK → Prop := fun x lo hi H Q => rSlS x lo hi H Q ∨ rSlA K x lo hi H Q
@[simp] def sl3 (op : D → Option Int → Option Int → Option D) (fa : Env → R D) (fl fh : Env → R (Option Int)) : Env → R D := fun r => (fa r).bind fun x => (fl r).bind fun l => (fh r).bind fun h => R.ofO (op x l h)
/-! ### tuples and lists written out -/
def mkT (g : Env → R (List D)) : Env → R D := fun r => (g r).bind fun ds => if ds.length ≤ sizeLine then .ok (.tup ds) else .stk
def mkTE (g : Env → R (List D × Env)) : Env → R (D × Env) := fun r => (g r).bind fun p => if p.1.length ≤ sizeLine then .ok (.tup p.1, p.2) else .stk
def mkL (g : Env → R (List D)) : Env → R D := fun r => (g r).bind fun ds => if ds.length ≤ sizeLine then .ok (.lst ds) else .stk
theorem d_tup {W : WX} {es : List Expr} {g : Env → R (List D)} {k : Nat} {pos : Pos} (h : DPs X W es g) : DP X W (.Tuple es k pos) (mkT g) := by
  obtain ⟨t, pe, w⟩ := h
  refine ⟨_, pe_tup pe, fun F os r σ H Q R S => ?_⟩
  refine w F os r σ H _ R (S.bind.imp fun ds S vs H1 s1 h1 => ?_)
  by_cases hl : ds.length ≤ sizeLine
  · rw [if_pos hl] at S
    exact ⟨by rw [repL_length h1]; exact hl, fun p n => S _ _ (s1.trans (same_upd n)) (rep_newtup (R.same' s1).AOk h1 n)⟩
  · rw [if_neg hl] at S
    exact S.elim
theorem e_tup {W : WX} {es : List Expr} {g : Env → R (List D × Env)} {k : Nat} {pos : Pos} (h : DEs X W es g) : DE X W (.Tuple es k pos) (mkTE g) := by
  obtain ⟨t, pe, w⟩ := h
  refine ⟨_, pe_tup pe, fun F os r σ H Q R S => ?_⟩
  refine w F os r σ H _ R (S.bind.imp fun ds S vs H1 R1 k1 h1 => ?_)
  by_cases hl : ds.1.length ≤ sizeLine
  · rw [if_pos hl] at S
    exact ⟨by rw [repL_length h1]; exact hl, fun p n => S _ _ (R1.same' (same_upd n)) (k1.trans (Keep.of (same_upd n))) (rep_newtup R1.AOk h1 n)⟩
  · rw [if_neg hl] at S
    exact S.elim
theorem d_lst {W : WX} {es : List Expr} {g : Env → R (List D)} {pos : Pos} (h : DPs X W es g) : DF X W (.List es pos) (mkL g) := by
  obtain ⟨t, pe, w⟩ := h
  refine ⟨_, pe_lst pe, fun F os r σ H Q R S => ?_⟩
  refine w F os r σ H _ R (S.bind.imp fun ds S vs H1 s1 h1 => ?_)
  by_cases hl : ds.length ≤ sizeLine
  · rw [if_pos hl] at S
    exact ⟨by rw [repL_length h1]; exact hl, fun p n => S _ _ (s1.trans (same_upd n)) (s1.free n) (repO_newlst (R.same' s1).AOk h1 n)⟩
  · rw [if_neg hl] at S
    exact S.elim
end
end DL

end
section
namespace DL
open PySem L2
section
variable {X : Cx} {W : WX} {e a b c : Expr} {es rest : List Expr} {f fa fb fc : Env → R D} {pos : Pos}

/-! ### readings by the data alone -/
def cE (K : PySem.W.Frag) (mg : Str → Option Value) (W : WX) (f : Env → R (D × Env)) : TE := fun σ H Q => ∃ F os r, Rel K F os r σ H ∧
  Sat (fun p => ∀ v H', Rel K F os p.2 σ H' → Keep (Av F.A0 os) (Av F.A0 os) H H' → Rep K H' (Av F.A0 os) p.1 v → Q v H') (ErK K mg W F) (f r)
theorem DE.can {g : Env → R (D × Env)} (h : DE X W e g) : PE X e (cE X.K X.mg W g) := by
  obtain ⟨t, pe, w⟩ := h
  exact ⟨fun pins s σ H Q I ⟨F, os, r, R, S⟩ => pe.run pins s σ H Q I (w F os r σ H Q R S)⟩
def cT (K : PySem.W.Frag) (mg : Str → Option Value) (W : WX) (f : Env → R (Bool × Env)) : TT := fun σ H Q => ∃ F os r, Rel K F os r σ H ∧
  Sat (fun p => ∀ H', Rel K F os p.2 σ H' → Keep (Av F.A0 os) (Av F.A0 os) H H' → Q p.1 H') (ErK K mg W F) (f r)
theorem DTE.can {g : Env → R (Bool × Env)} (h : DTE X W e g) : PT X e (cT X.K X.mg W g) := by
  obtain ⟨t, pe, w⟩ := h
  exact ⟨fun pins s σ H Q I ⟨F, os, r, R, S⟩ => pe.run pins s σ H Q I (w F os r σ H Q R S)⟩

/-! ### not, and, or, if else: tests -/
def notB (g : Env → R Bool) : Env → R Bool := fun r => (g r).bind fun b => .ok (!b)
def andB (g h : Env → R Bool) : Env → R Bool := fun r => (g r).bind fun b => if b = true then h r else .ok false
def orB (g h : Env → R Bool) : Env → R Bool := fun r => (g r).bind fun b => if b = true then .ok true else h r
@[simp] def notBE (g : Env → R (Bool × Env)) : Env → R (Bool × Env) := fun r => (g r).bind fun b => .ok (!b.1, b.2)
@[simp] def andBE (g h : Env → R (Bool × Env)) : Env → R (Bool × Env) := fun r => (g r).bind fun b => if b.1 = true then h b.2 else .ok (false, b.2)
@[simp] def orBE (g h : Env → R (Bool × Env)) : Env → R (Bool × Env) := fun r => (g r).bind fun b => if b.1 = true then .ok (true, b.2) else h b.2
/-- and, or: a chain -/
structure DW (X : Cx) (W : WX) (e : Expr) (f : Env → R Bool) : Prop where
  ex : ∃ t, PW X e t ∧ ∀ (F : Fm) (os : List (Option Addr)) (r : Env) (σ : St) (H : Hp) (Q : Bool → Hp → Prop), Rel X.K F os r σ H →
    Sat (fun b => ∀ H', Same H H' → Q b H') (Er X W F) (f r) → t σ H Q
structure DWE (X : Cx) (W : WX) (e : Expr) (f : Env → R (Bool × Env)) : Prop where
  ex : ∃ t, PW X e t ∧ ∀ (F : Fm) (os : List (Option Addr)) (r : Env) (σ : St) (H : Hp) (Q : Bool → Hp → Prop), Rel X.K F os r σ H →
    Sat (fun p => ∀ H', Rel X.K F os p.2 σ H' → Keep (Av F.A0 os) (Av F.A0 os) H H' → Q p.1 H') (Er X W F) (f r) → t σ H Q
variable {ga gb : Env → R Bool} {gaE gbE : Env → R (Bool × Env)}
theorem t_not (h : DT X W a ga) : DT X W (.UnaryOp .Not a pos) (notB ga) := by
  obtain ⟨t, pe, w⟩ := h
  exact ⟨_, pt_not pe, fun F os r σ H Q R S => w F os r σ H _ R (S.bind.imp fun b S H' s => S H' s)⟩
theorem w_and1 (h : DT X W a ga) : DW X W (.BoolOp .And [a] pos) ga := by
  obtain ⟨t, pe, w⟩ := h
  exact ⟨_, pw_and1 pe, w⟩
theorem w_or1 (h : DT X W a ga) : DW X W (.BoolOp .Or [a] pos) ga := by
  obtain ⟨t, pe, w⟩ := h
  exact ⟨_, pw_or1 pe, w⟩
theorem w_and (h : DT X W a ga) (h2 : DW X W (.BoolOp .And (b :: rest) pos) gb) : DW X W (.BoolOp .And (a :: b :: rest) pos) (andB ga gb) := by
  obtain ⟨t, pe, w⟩ := h
  obtain ⟨u, pu, z⟩ := h2
  refine ⟨_, pw_and pe pu, fun F os r σ H Q R S => w F os r σ H _ R (S.bind.imp fun b S H' s => ?_)⟩
  by_cases hb : b = true
  · rw [if_pos hb] at S ⊢
    exact z F os r σ H' Q (R.same' s) (S.imp fun b q H2 s2 => q H2 (s.trans s2))
  · rw [if_neg hb] at S ⊢
    exact S H' s
theorem w_or (h : DT X W a ga) (h2 : DW X W (.BoolOp .Or (b :: rest) pos) gb) : DW X W (.BoolOp .Or (a :: b :: rest) pos) (orB ga gb) := by
  obtain ⟨t, pe, w⟩ := h
  obtain ⟨u, pu, z⟩ := h2
  refine ⟨_, pw_or pe pu, fun F os r σ H Q R S => w F os r σ H _ R (S.bind.imp fun b S H' s => ?_)⟩
  by_cases hb : b = true
  · rw [if_pos hb] at S ⊢
    exact S H' s
  · rw [if_neg hb] at S ⊢
    exact z F os r σ H' Q (R.same' s) (S.imp fun b q H2 s2 => q H2 (s.trans s2))
theorem DW.t (h : DW X W e ga) : DT X W e ga := by
  obtain ⟨t, pe, w⟩ := h
  exact ⟨_, pe.pt, w⟩
theorem DWE.t (h : DWE X W e gaE) : DTE X W e gaE := by
  obtain ⟨t, pe, w⟩ := h
  exact ⟨_, pe.pt, w⟩

/-! ### the same as values -/
def notV (g : Env → R D) : Env → R D := fun r => (g r).bind fun d => (R.ofO (asB d)).bind fun b => .ok (.bl (!b))
def andV (g h : Env → R D) : Env → R D := fun r => (g r).bind fun d => (R.ofO (asB d)).bind fun b => if b = true then h r else .ok (.bl false)
def orV (g h : Env → R D) : Env → R D := fun r => (g r).bind fun d => (R.ofO (asB d)).bind fun b => if b = true then .ok (.bl true) else h r
def ifV (g : Env → R Bool) (h k : Env → R D) : Env → R D := fun r => (g r).bind fun b => if b = true then h r else k r
@[simp] def ifVE (g : Env → R (Bool × Env)) (h k : Env → R (D × Env)) : Env → R (D × Env) := fun r => (g r).bind fun b => if b.1 = true then h b.2 else k b.2
theorem d_not (h : DP X W a fa) : DP X W (.UnaryOp .Not a pos) (notV fa) := by
  obtain ⟨t, pe, w⟩ := h
  refine ⟨_, pe_not pe, fun F os r σ H Q R S => w F os r σ H _ R (S.bind.imp fun d S v H' s h => ?_)⟩
  obtain ⟨k, ek, S⟩ := S.bind.ofO
  exact ⟨k, asB_bl ek (.inl h), S _ H' s rep_bl⟩
theorem d_one {op : BoolOp} (h : DP X W a fa) : DP X W (.BoolOp op [a] pos) fa := by
  obtain ⟨t, pe, w⟩ := h
  exact ⟨_, pe_one pe, w⟩
theorem d_and (h : DP X W a fa) (h2 : DP X W (.BoolOp .And (b :: rest) pos) fb) : DP X W (.BoolOp .And (a :: b :: rest) pos) (andV fa fb) := by
  obtain ⟨t, pe, w⟩ := h
  obtain ⟨u, pu, z⟩ := h2
  refine ⟨_, pe_and pe pu, fun F os r σ H Q R S => w F os r σ H _ R (S.bind.imp fun d S v H' s h => ?_)⟩
  obtain ⟨k, ek, S⟩ := S.bind.ofO
  refine ⟨k, asB_bl ek (.inl h), ?_⟩
  by_cases hb : k = true
  · rw [if_pos hb] at S ⊢
    exact z F os r σ H' Q (R.same' s) (S.imp fun b q u H2 s2 => q u H2 (s.trans s2))
  · rw [if_neg hb] at S ⊢
    exact S _ H' s rep_bl
theorem d_or (h : DP X W a fa) (h2 : DP X W (.BoolOp .Or (b :: rest) pos) fb) : DP X W (.BoolOp .Or (a :: b :: rest) pos) (orV fa fb) := by
  obtain ⟨t, pe, w⟩ := h
  obtain ⟨u, pu, z⟩ := h2
  refine ⟨_, pe_or pe pu, fun F os r σ H Q R S => w F os r σ H _ R (S.bind.imp fun d S v H' s h => ?_)⟩
  obtain ⟨k, ek, S⟩ := S.bind.ofO
  refine ⟨k, asB_bl ek (.inl h), ?_⟩
  by_cases hb : k = true
  · rw [if_pos hb] at S ⊢
    exact S _ H' s rep_bl
  · rw [if_neg hb] at S ⊢
    exact z F os r σ H' Q (R.same' s) (S.imp fun b q u H2 s2 => q u H2 (s.trans s2))
theorem d_if (hc : DT X W c ga) (ha : DP X W a fa) (hb : DP X W b fb) : DP X W (.IfExp c a b pos) (ifV ga fa fb) := by
  obtain ⟨t, pe, w⟩ := hc
  obtain ⟨u, pu, z⟩ := ha
  obtain ⟨u2, pu2, z2⟩ := hb
  refine ⟨_, pe_ifExp pe pu pu2, fun F os r σ H Q R S => w F os r σ H _ R (S.bind.imp fun k S H' s => ?_)⟩
  by_cases hb : k = true
  · rw [if_pos hb] at S ⊢
    exact z F os r σ H' Q (R.same' s) (S.imp fun b q u H2 s2 => q u H2 (s.trans s2))
  · rw [if_neg hb] at S ⊢
    exact z2 F os r σ H' Q (R.same' s) (S.imp fun b q u H2 s2 => q u H2 (s.trans s2))
/-- a op1 b op2 c -/
def chn (o1 o2 : D → D → Option D) (fa fb fc : Env → R D) : Env → R D := fun r => (fa r).bind fun x => (fb r).bind fun y => (R.ofO (o1 x y)).bind fun d => (R.ofO (asB d)).bind fun k =>
  if k = true then (fc r).bind fun z => R.ofO (o2 y z) else .ok (.bl false)
theorem chain_go {ta tb tc : TE} {r1 r2 : R2} {o1 o2 : D → D → Option D} (h1 : Op2 X r1 o1) (h2 : Op2 X r2 o2)
    (wa : ∀ (F : Fm) (os : List (Option Addr)) (r : Env) (σ : St) (H : Hp) (Q : VK), Rel X.K F os r σ H → Sat (fun d => ∀ v H', Same H H' → RepB X.K H' (Av F.A0 os) d v → Q v H') (Er X W F) (fa r) → ta σ H Q)
    (wb : ∀ (F : Fm) (os : List (Option Addr)) (r : Env) (σ : St) (H : Hp) (Q : VK), Rel X.K F os r σ H → Sat (fun d => ∀ v H', Same H H' → RepB X.K H' (Av F.A0 os) d v → Q v H') (Er X W F) (fb r) → tb σ H Q)
    (wc : ∀ (F : Fm) (os : List (Option Addr)) (r : Env) (σ : St) (H : Hp) (Q : VK), Rel X.K F os r σ H → Sat (fun d => ∀ v H', Same H H' → RepB X.K H' (Av F.A0 os) d v → Q v H') (Er X W F) (fc r) → tc σ H Q)
    {F : Fm} {os : List (Option Addr)} {r : Env} {σ : St} {H : Hp} {Q : VK} (R : Rel X.K F os r σ H) (S : Sat (fun d => ∀ v H', Same H H' → Rep X.K H' (Av F.A0 os) d v → Q v H') (Er X W F) (chn o1 o2 fa fb fc r)) :
    tChain r1 r2 ta tb tc σ H Q := by
  refine wa F os r σ H _ R (S.bind.imp fun x S v H1 s1 e1 => ?_)
  have R1 := R.same' s1
  refine wb F os r σ H1 _ R1 (S.bind.imp fun y S w H2 s2 e2 => ?_)
  have R2 := R1.same' s2
  obtain ⟨d, ed, S⟩ := S.bind.ofO
  obtain ⟨k, ek, S⟩ := S.bind.ofO
  refine h1 _ H2 x y v w d _ R2.AOk ed (e1.same s2 R1.AOk) e2 fun u H3 s3 e3 => ?_
  have R3 := R2.same' s3
  refine ⟨k, asB_bl ek (.inl e3), ?_⟩
  have s13 := (s1.trans s2).trans s3
  by_cases hb : k = true
  · rw [if_pos hb] at S ⊢
    refine wc F os r σ H3 _ R3 (S.bind.imp fun z S zv H4 s4 e4 => ?_)
    obtain ⟨d2, ed2, S⟩ := S.ofO
    exact h2 _ H4 y z w zv d2 Q (R3.same' s4).AOk ed2 ((e2.same s3 R2.AOk).same s4 R3.AOk) e4 fun u2 H5 s5 e5 => S u2 H5 ((s13.trans s4).trans s5) e5
  · rw [if_neg hb] at S ⊢
    exact S _ H3 s13 rep_bl
theorem t_chain {op op' : CmpOp} {r1 r2 : R2} {o1 o2 : D → D → Option D} (ho : OpR X (compareOp op) r1) (ho' : OpR X (compareOp op') r2) (h1 : Op2 X r1 o1) (h2 : Op2 X r2 o2) (ha : DB X W a fa) (hb : DB X W b fb) (hc : DB X W c fc)
    (hm : lastMarks [op, op'] [b, c] = false := by with_unfolding_all rfl) : DT X W (.Compare a [op, op'] [b, c] pos) (tst (chn o1 o2 fa fb fc)) := by
  obtain ⟨ta, pa, wa⟩ := ha
  obtain ⟨tb, pb, wb⟩ := hb
  obtain ⟨tc, pc, wc⟩ := hc
  refine ⟨_, pt_chain ho ho' pa pb pc hm, fun F os r σ H Q R S => ?_⟩
  show tChain r1 r2 ta tb tc σ H _
  refine chain_go (W := W) h1 h2 wa wb wc R (S.bind.imp fun d S v H' s h => ?_)
  obtain ⟨k, ek, S⟩ := S.ofO
  exact ⟨k, asB_bl ek (.inl h), S H' s⟩
/-- a comparison as a value -/
theorem d_cmp {op : CmpOp} {r : R2} {g : D → D → Option D} (ho : OpR X (compareOp op) r) (o : Op2 X r g) (ha : DB X W a fa) (hb : DB X W b fb) (hm : behindInMarks op b = false) : DP X W (.Compare a [op] [b] pos) (bin g fa fb) :=
  d_bin (fun pa pb => pe_cmpR ho pa pb hm) o ha hb
theorem d_op {op : Operator} {r : R2} {g : D → D → Option D} (ho : OpR X (binaryOp op) r) (o : Op2 X r g) (ha : DB X W a fa) (hb : DB X W b fb) : DP X W (.BinOp a op b pos) (bin g fa fb) :=
  d_bin (fun pa pb => pe_op ho pa pb) o ha hb
theorem e_op {op : Operator} {r : R2} {g : D → D → Option D} {ha' hb' : Env → R (D × Env)} (ho : OpR X (binaryOp op) r) (o : Op2 X r g) (ha : DE X W a ha') (hb : DE X W b hb') : DE X W (.BinOp a op b pos) (binE g ha' hb') :=
  d_binE (fun pa pb => pe_op ho pa pb) o ha hb

/-! ### built-in functions and types called -/
variable {g : Env → R (List D)} {x : Str} {id T : String} {p : Pos} {rr : List V → Hp → VK → Prop} {op : List D → Option D}
theorem d_callB (hc : CallR X (.builtin id) rr) (o : OpN X rr op) (hg : Gl X x) (hm : X.mg x = none) (hv : bootBuiltins x = some (.builtin id)) (ha : DBs X W (e :: es) g) (hn : x ≠ "__name__" := by decide) (hdb : (x == ("__debug__" : Str)) = false := by decide)
    (he : starEach (e :: es) X.env = (false, eval e X.env) :: starEach es X.env := by rfl) (hpl : (backTo pos (starEach es X.env)).any (·.1) = false := by rfl) : DP X W (.Call (.Name x p) (e :: es) [] pos) (appN op g) :=
  d_app (fun pa => pe_callB hc hg hm hv pa hn hdb he hpl) o ha
theorem d_callBF (hc : CallR X (.builtin id) rr) (o : OpNF X rr op) (hg : Gl X x) (hm : X.mg x = none) (hv : bootBuiltins x = some (.builtin id)) (ha : DBs X W (e :: es) g) (hn : x ≠ "__name__" := by decide) (hdb : (x == ("__debug__" : Str)) = false := by decide)
    (he : starEach (e :: es) X.env = (false, eval e X.env) :: starEach es X.env := by rfl) (hpl : (backTo pos (starEach es X.env)).any (·.1) = false := by rfl) : DF X W (.Call (.Name x p) (e :: es) [] pos) (appN op g) :=
  d_appF (fun pa => pe_callB hc hg hm hv pa hn hdb he hpl) o ha
theorem d_callT (hc : CallR X (.type T) rr) (o : OpN X rr op) (hg : Gl X x) (hm : X.mg x = none) (hv : bootBuiltins x = some (.type T)) (ha : DBs X W (e :: es) g) (hn : x ≠ "__name__" := by decide) (hdb : (x == ("__debug__" : Str)) = false := by decide)
    (he : starEach (e :: es) X.env = (false, eval e X.env) :: starEach es X.env := by rfl) (hpl : (backTo pos (starEach es X.env)).any (·.1) = false := by rfl) : DP X W (.Call (.Name x p) (e :: es) [] pos) (appN op g) :=
  d_app (fun pa => pe_callTy hc hg hm hv pa hn hdb he hpl) o ha
theorem e_callT {gE : Env → R (List D × Env)} (hc : CallR X (.type T) rr) (o : OpN X rr op) (hg : Gl X x) (hm : X.mg x = none) (hv : bootBuiltins x = some (.type T)) (ha : DEs X W (e :: es) gE) (hn : x ≠ "__name__" := by decide) (hdb : (x == ("__debug__" : Str)) = false := by decide)
    (he : starEach (e :: es) X.env = (false, eval e X.env) :: starEach es X.env := by rfl) (hpl : (backTo pos (starEach es X.env)).any (·.1) = false := by rfl) : DE X W (.Call (.Name x p) (e :: es) [] pos) (appNE op gE) :=
  d_appE (fun pa => pe_callTy hc hg hm hv pa hn hdb he hpl) o ha
/-- a built-in type's name as a value -/
theorem b_ty {n : String} (hg : Gl X x) (hm : X.mg x = none) (hv : bootBuiltins x = some (.type n)) (hn : x ≠ "__name__" := by decide) (hd : (x == ("__debug__" : Str)) = false := by decide) : DP X W (.Name x p) (kc (.ty n)) :=
  ⟨_, pe_bltn (v := .ty n) hg hm hv rfl hn hd, fun F os r σ H Q R S => S _ H (Same.refl H) (by unfold Rep; rfl)⟩
end
section
variable {X : Cx}
theorem rep1 {K : PySem.W.Frag} {H : Hp} {A : Addr → Prop} {x : D} {vs : List V} (h : Paired (RepB K H A) [x] vs) : ∃ v, vs = [v] ∧ RepB K H A x v := by
  cases h with
  | cons a b => cases b; exact ⟨_, rfl, a⟩
theorem rep2 {K : PySem.W.Frag} {H : Hp} {A : Addr → Prop} {x y : D} {vs : List V} (h : Paired (RepB K H A) [x, y] vs) : ∃ v w, vs = [v, w] ∧ RepB K H A x v ∧ RepB K H A y w := by
  cases h with
  | cons a b =>
    cases b with
    | cons c d => cases d; exact ⟨_, _, rfl, a, c⟩
def lenD : List D → Option D
  | [.str z] => if z.length ≤ sizeLine then some (.int z.length) else none
  | [.lst xs] => some (.int xs.length)
  | [.tup xs] => some (.int xs.length)
  | _ => none
def rLen3 (K : PySem.W.Frag) : List V → Hp → VK → Prop := fun xs H Q => ∃ x n, xs = [x] ∧ LenV K x H n ∧ Q (.int n) H
theorem call_len3 : CallR X (.builtin "len") (rLen3 X.K) := call_len
theorem o_len : OpN X (rLen3 X.K) lenD := by
  intro A H xs vs d Q ak e h q
  unfold lenD at e
  split at e
  · rename_i z
    obtain ⟨v, rfl, h1⟩ := rep1 h
    split at e
    · rename_i hz
      cases e
      exact ⟨v, z.length, rfl, by rw [h1.str]; exact ⟨hz, rfl⟩, q _ H (Same.refl H) rep_int⟩
    · cases e
  · rename_i ys
    obtain ⟨v, rfl, h1⟩ := rep1 h
    cases e
    obtain ⟨a, ws, rfl, h2, h3⟩ := h1.lst
    exact ⟨_, ys.length, rfl, .inl ⟨ws, h2, (repL_length h3).symm⟩, q _ H (Same.refl H) rep_int⟩
  · rename_i ys
    obtain ⟨v, rfl, h1⟩ := rep1 h
    cases e
    obtain ⟨a, ws, rfl, h2, h3⟩ := h1.tup
    exact ⟨_, ys.length, rfl, .inr ⟨ws, h2, (repL_length h3).symm⟩, q _ H (Same.refl H) rep_int⟩
  · cases e
def intD : List D → Option D
  | [.int i] => some (.int i)
  | [.bl b] => some (.int (if b then 1 else 0))
  | _ => none
def rInt1 : List V → Hp → VK → Prop := fun xs H Q => (∃ i, xs = [.int i] ∧ Q (.int i) H) ∨ ∃ k, xs = [.bl k] ∧ Q (.int (if k then 1 else 0)) H
theorem call_int3 : CallR X (.type "int") rInt1 := call_int1
theorem o_intc : OpN X rInt1 intD := by
  intro A H xs vs d Q ak e h q
  unfold intD at e
  split at e
  · rename_i i
    obtain ⟨v, rfl, h1⟩ := rep1 h
    cases e
    exact .inl ⟨i, by rw [h1.int], q _ H (Same.refl H) rep_int⟩
  · rename_i i
    obtain ⟨v, rfl, h1⟩ := rep1 h
    cases e
    exact .inr ⟨i, by rw [h1.bl], q _ H (Same.refl H) rep_int⟩
  · cases e
/-- tuple(list), tuple(tuple) -/
def tupC : List D → Option D
  | [.lst xs] => some (.tup xs)
  | [.tup xs] => some (.tup xs)
  | _ => none
def rTupC (K : PySem.W.Frag) : List V → Hp → VK → Prop := fun xs H Q => ∃ p ys, xs = [.ref p] ∧ ((SqL K H p ys ∧ ∀ l, H l = none → Q (.ref l) (upd H l (.tup ys))) ∨ (SqT K H p ys ∧ Q (.ref p) H))
theorem call_tup3 : CallR X (.type "tuple") (rTupC X.K) := call_tuple_of
theorem o_tupc : OpN X (rTupC X.K) tupC := by
  intro A H xs vs d Q ak e h q
  unfold tupC at e
  split at e
  · rename_i i
    obtain ⟨v, rfl, h1⟩ := rep1 h
    cases e
    obtain ⟨a, ws, rfl, h2, h3⟩ := h1.lst
    exact ⟨a, ws, rfl, .inl ⟨h2, fun l n => q _ _ (same_upd n) (rep_newtup ak h3 n)⟩⟩
  · rename_i i
    obtain ⟨v, rfl, h1⟩ := rep1 h
    cases e
    obtain ⟨a, ws, e1, h2, h3⟩ := h1.tup
    have rx : Rep X.K H A (.tup i) v := by
      rcases h1 with z | ⟨_, _, z⟩
      · exact z
      · exact z.elim
    subst e1
    exact ⟨a, ws, rfl, .inr ⟨h2, q _ H (Same.refl H) rx⟩⟩
  · cases e
def lstC : List D → Option D
  | [.lst xs] => some (.lst xs)
  | [.tup xs] => some (.lst xs)
  | _ => none
def rLstC (K : PySem.W.Frag) : List V → Hp → VK → Prop := fun xs H Q => ∃ p ys, xs = [.ref p] ∧ (SqL K H p ys ∨ SqT K H p ys) ∧ ∀ l, H l = none → Q (.ref l) (upd H l (.lst ys))
/-- isinstance of a built-in type, of a tuple of such -/
def tyD : D → String
  | .non => "NoneType" | .bl _ => "bool" | .int _ => "int" | .str _ => "str" | .tup _ => "tuple" | .lst _ => "list" | .dct _ => "dict" | .dctT _ => "dict" | .obj _ => "" | .dctF _ => "" | .ref _ => "" | .ty _ => ""
def isTy (x : D) (n : String) : Option Bool := if tyD x = "" then none else kitB (tyD x) n
def allN : List D → Option (List String)
  | [] => some []
  | .ty n :: r => (allN r).map fun l => n :: l
  | _ :: _ => none
def isAny (x : D) : List String → Option Bool
  | [] => some false
  | n :: r => match isTy x n with
    | some true => some true
    | some false => isAny x r
    | none => none
def isiD : List D → Option D
  | [x, .ty n] => (isTy x n).map .bl
  | [x, .tup ts] => if tyD x = "" then none else ((allN ts).bind (isAny x)).map .bl
  | _ => none
def rIsi3 (K : PySem.W.Frag) : List V → Hp → VK → Prop := fun xs H Q => rIsi K xs H Q ∨ rIsiT K xs H Q ∨ rIsiK K xs H Q
theorem call_isi3 : CallR X (.builtin "isinstance") (rIsi3 X.K) := call_isi.or (call_isiT.or call_isiK)
theorem tyx_of {K : PySem.W.Frag} {H : Hp} {A : Addr → Prop} {x : D} {v : V} (h : RepB K H A x v) (t : tyD x ≠ "") : TyX K H v (.type (tyD x)) := by
  cases x with
  | non => rw [h.non]; exact .base .non
  | bl b => rw [h.bl]; exact .base (.bl b)
  | int b => rw [h.int]; exact .base (.int b)
  | str b => rw [h.str]; exact .base (.str b)
  | tup b =>
    rcases h with h | ⟨a, e, h⟩
    · unfold Rep at h
      obtain ⟨a, xs, e, h1, h2⟩ := h
      subst e
      rcases h1 with h1 | ⟨o, its, n, h1, h3, _⟩
      · exact .base (.tup h1)
      · exact .kTuple h1 h3
    · exact h.elim
  | lst b =>
    rcases h with h | ⟨a, e, h⟩
    · unfold Rep at h
      obtain ⟨a, xs, e, h1, h2⟩ := h
      subst e
      rcases h1 with ⟨h1 | ⟨o, h1⟩, _⟩ | ⟨o, its, n, h1, h3, _⟩
      · exact .base (.lst h1)
      · exact .base (.frz h1)
      · exact .kList h1 h3
    · subst e
      obtain ⟨xs, h1, h2⟩ := h
      exact .base (.lst h1)
  | dct b => obtain ⟨a, xs, e, h1, _⟩ := h.dct; subst e; exact .base (.dK h1)
  | dctT b =>
    rcases h with h | ⟨a, e, h⟩
    · unfold Rep at h
      obtain ⟨a, xs, e, h1, h2, h3⟩ := h
      subst e
      exact .base (.dT h1)
    · subst e
      obtain ⟨xs, h1, h2⟩ := h
      exact .base (.dT h1)
  | obj b => exact absurd rfl t
  | dctF b => exact absurd rfl t
  | ref b => exact absurd rfl t
  | ty b => exact absurd rfl t
theorem allN_ok {K : PySem.W.Frag} {H : Hp} {A : Addr → Prop} : ∀ {ts : List D} {cs : List V} {ns : List String}, allN ts = some ns → RepL K H A ts cs → Paired ClsV cs (ns.map Value.type)
  | [], cs, ns, e, h => by
    unfold RepL at h
    subst h
    cases e
    exact .nil
  | t :: ts, cs, ns, e, h => by
    unfold RepL at h
    obtain ⟨v, r, ev, h1, h2⟩ := h
    subst ev
    cases t with
    | ty n =>
      unfold Rep at h1
      subst h1
      unfold allN at e
      cases q : allN ts with
      | none => rw [q] at e; cases e
      | some l =>
        rw [q] at e
        cases e
        exact .cons (.ty n) (allN_ok q h2)
    | _ => cases e
theorem isTy_kit {x : D} {n : String} {k : Bool} (q : isTy x n = some k) : kitB (tyD x) n = some k ∧ tyD x ≠ "" := by
  unfold isTy at q
  split at q
  · cases q
  · rename_i h
    exact ⟨q, h⟩
theorem isAny_ok {K : PySem.W.Frag} {x : D} : ∀ {ns : List String} {b : Bool}, isAny x ns = some b → PySem.W.kitAny K (.type (tyD x)) (ns.map Value.type) = some b
  | [], b, e => by cases e; rfl
  | n :: ns, b, e => by
    unfold isAny at e
    cases q : isTy x n with
    | none => rw [q] at e; cases e
    | some k =>
      rw [q] at e
      obtain ⟨q2, _⟩ := isTy_kit q
      cases k with
      | true =>
        cases e
        exact kitAny_cons (kit_ty q2) (fun z => nomatch z) (fun _ => rfl)
      | false => exact kitAny_cons (kit_ty q2) (fun _ => isAny_ok e) (fun z => nomatch z)
theorem o_isi : OpN X (rIsi3 X.K) isiD := by
  intro A H xs vs d Q ak e h q
  unfold isiD at e
  split at e
  · rename_i x n
    obtain ⟨v, w, rfl, h1, h2⟩ := rep2 h
    cases q' : isTy x n with
    | none => rw [q'] at e; cases e
    | some k =>
      rw [q'] at e
      cases e
      obtain ⟨k1, k2⟩ := isTy_kit q'
      have ew : w = .ty n := by
        rcases h2 with z | ⟨_, _, z⟩
        · unfold Rep at z; exact z
        · exact z.elim
      subst ew
      exact .inl ⟨v, _, _, _, k, rfl, .ty n, tyx_of h1 k2, kit_ty k1, q _ H (Same.refl H) rep_bl⟩
  · rename_i x ts
    obtain ⟨v, w, rfl, h1, h2⟩ := rep2 h
    split at e
    · cases e
    · rename_i hn
      cases q1 : allN ts with
      | none => rw [q1] at e; cases e
      | some ns =>
        rw [q1] at e
        cases q2 : isAny x ns with
        | none => simp [q2] at e
        | some k =>
          simp [q2] at e
          subst e
          have hw : Rep X.K H A (.tup ts) w := by
            rcases h2 with z | ⟨_, _, z⟩
            · exact z
            · exact z.elim
          unfold Rep at hw
          obtain ⟨a, cs, ea, h3, h4⟩ := hw
          subst ea
          rcases h3 with h3 | ⟨o, its, n, h3, h5, h6, h7, h8⟩
          · exact .inr (.inl ⟨v, a, cs, _, _, k, rfl, h3, allN_ok q1 h4, tyx_of h1 hn, isAny_ok q2, q _ H (Same.refl H) rep_bl⟩)
          · obtain ⟨oc, od, dt, sl⟩ := o
            simp only at h5 h6
            subst h5 h6
            have e3 := ClsV.all (allN_ok q1 h4) h8
            have e4 : its = (ns.map Value.type).toArray := by rw [← e3]
            rw [e4] at h3
            exact .inr (.inr ⟨v, a, od, ns.map Value.type, n, sl, _, k, rfl, h3, tyx_of h1 hn, isAny_ok q2, q _ H (Same.refl H) rep_bl⟩)
  · cases e
end
end DL

end
section
namespace DL
open PySem L2

/-! ### what a def promises, by data -/
def SpF (K : PySem.W.Frag) (mg : Str → Option Value) (n : Nat) (F : List D → R D) : Sp := fun vs H Q E => vs.length = n ∧ ∃ (A : Addr → Prop) (ds : List D), AOk A H ∧ RepL K H A ds vs ∧
  Sat (fun d => ∀ v H', Same H H' → Rep K H' A d v → Q v H') (fun x _ => ∀ cls dd H', Same H H' → XRep K mg H' x cls dd → E cls dd H') (F ds)
def But (a : Addr) (H H' : Hp) : Prop := ∀ b o, H b = some o → b ≠ a → H' b = some o
/-- the first argument: a list of the caller's own that the def changes -/
def SpIO (K : PySem.W.Frag) (n : Nat) (F : List D → List D → R (D × List D)) : Sp := fun vs H Q _ => ∃ (A : Addr → Prop) (a : Addr) (xs rest : List V) (row ds : List D), vs = .ref a :: rest ∧ rest.length = n ∧ H a = some (.lst xs) ∧ A a ∧ AOk A H ∧ RepL K H A row xs ∧ RepL K H A ds rest ∧
  Sat (fun p => ∀ v H' xs', But a H H' → H' a = some (.lst xs') → RepL K H' A p.2 xs' → Rep K H' A p.1 v → Q v H') (fun _ _ => False) (F row ds)
def R.at {α : Type} (r : Env) : R α → R α
  | .ok a => .ok a
  | .err x _ => .err x r
  | .stk => .stk
def R.ne {α : Type} : R α → R α
  | .ok a => .ok a
  | .err _ _ => .stk
  | .stk => .stk
def callF (n : Nat) (F : List D → R D) (g : Env → R (List D)) : Env → R D := fun r => (g r).bind fun ds => if ds.length = n then R.at r (F ds) else .stk
def callFE (n : Nat) (F : List D → R D) (g : Env → R (List D × Env)) : Env → R (D × Env) := fun r => (g r).bind fun p => if p.1.length = n then (R.at p.2 (F p.1)).bind fun d => .ok (d, p.2) else .stk
/-- the list that a slot holds and may change -/
def ownL (r : Env) (i : Nat) : Option (Slot × List D) := match r[i]? with
  | some s => match s.cont with
    | some (.lst xs) => some (s, xs)
    | _ => none
  | none => none
theorem ownL_ok {r : Env} {i : Nat} {s : Slot} {xs : List D} (e : ownL r i = some (s, xs)) : r[i]? = some s ∧ s.cont = some (.lst xs) := by
  unfold ownL at e
  cases q : r[i]? with
  | none => rw [q] at e; cases e
  | some t =>
    rw [q] at e
    cases q2 : t.cont with
    | none => simp only [q2] at e; cases e
    | some d =>
      cases d with
      | lst ys => simp only [q2] at e; cases e; exact ⟨rfl, q2⟩
      | _ => simp only [q2] at e; cases e
def callIO (i : Nat) (n : Nat) (F : List D → List D → R (D × List D)) (g : Env → R (List D × Env)) : Env → R (D × Env) := fun r => (R.ofO (ownL r i)).bind fun _ => (g r).bind fun p => (R.ofO (ownL p.2 i)).bind fun s =>
  if p.1.length = n then (R.ne (F s.2 p.1)).bind fun q => .ok (q.1, p.2.set i (s.1.put (.lst q.2))) else .stk
section
variable {X : Cx} {W : WX} {e : Expr} {es : List Expr} {x : Str} {p pos : Pos} {k : Nat} {f : Addr} {fd : FuncData} {ps : List Str}
theorem d_call {g : Env → R (List D)} {n : Nat} {F : List D → R D} (G : FnOk X.prog X.w X.K X.mg X.base (L2.CX X.prog X.w) k f fd ps (SpF X.K X.mg n F)) (hr : Room k X.A) (hg : Gl X x) (hm : X.mg x = some (.ref f)) (hk : PySem.W.keepIn X.K (.ref f) = true) (hb : Binds X.K fd ps [])
    (tk : Takes X W) (ha : DPs X W (e :: es) g) (hdb : (x == ("__debug__" : Str)) = false := by decide) (he : starEach (e :: es) X.env = (false, eval e X.env) :: starEach es X.env := by rfl) (hpl : (backTo pos (starEach es X.env)).any (·.1) = false := by rfl) :
    DP X W (.Call (.Name x p) (e :: es) [] pos) (callF n F g) := by
  obtain ⟨ta, pa, wa⟩ := ha
  refine ⟨_, pe_callS (E := WE W) G hr hg hm hk hb (passAt tk) pa hdb he hpl, fun Fm os r σ H Q Rl S => ?_⟩
  refine wa Fm os r σ H _ Rl (S.bind.imp fun ds S vs H1 s1 h1 => ?_)
  have R1 := Rl.same' s1
  by_cases hl : ds.length = n
  · rw [if_pos hl] at S
    refine ⟨by rw [repL_length h1]; exact hl, _, ds, R1.AOk, h1, ?_⟩
    cases q : F ds with
    | ok d =>
      rw [q] at S
      exact fun v H' s h => S v H' (s1.trans s) h
    | err x r' =>
      rw [q] at S
      exact fun cls dd H' s h => S os σ cls dd H' (R1.same' s) h
    | stk =>
      rw [q] at S
      exact S.elim
  · rw [if_neg hl] at S
    exact S.elim
/-- an own list changed by a callee -/
theorem Rel.but {K : PySem.W.Frag} {F : Fm} {os : List (Option Addr)} {r : Env} {σ : St} {H H' : Hp} {i : Nat} {s : Slot} {d d' : D} {a : Addr} (R : Rel K F os r σ H) (e : r[i]? = some s) (ec : s.cont = some d) (ea : σ[i]? = some (some (.ref a))) (b : But a H H') (h : RepO K H' (Av F.A0 os) d' a) :
    Rel K F os (r.set i (s.put d')) σ H' ∧ Keep (Av F.A0 os) (Av F.A0 os) H H' := by
  have ak := R.AOk
  obtain ⟨v, o, e1, e2, q0⟩ := R.get e
  obtain ⟨a', z1, z2, q, qq⟩ := q0.cont ec
  subst z1
  rw [ea] at e1
  cases e1
  cases z2
  have inA : Av F.A0 os a := .inr (List.mem_of_getElem? e2)
  have kp : Keep (Av F.A0 os) (Av F.A0 os) H H' := fun c u ec nc => ⟨b c u ec fun z => nc (by rw [z]; exact inA), nc⟩
  refine ⟨⟨by simp [R.lens], by simp [R.leno], fun j sl w u e1 e2' e3 => ?_, R.inj, R.out, fun c z => ?_, fun c u ec nc => ?_, R.new⟩, kp⟩
  · rcases getElem?_set_cases e1 with ⟨ej, z1⟩ | ⟨ej, e1⟩
    · subst ej
      subst z1
      rw [e2] at e3
      cases e3
      rw [ea] at e2'
      cases e2'
      exact qq _ _ _ h
    · refine (R.slot j sl w u e1 e2' e3).keep kp ak fun c z => ?_
      subst z
      obtain ⟨_, _, _, _, _, q⟩ := R.own e3
      obtain ⟨o, h1, _⟩ := q.isT
      rw [h1]
      refine b c o h1 fun zz => ej ?_
      subst zz
      exact R.inj i j c e2 e3
  · obtain ⟨u, h1, h2⟩ := R.aok c z
    exact ⟨u, b c u h1 fun zz => R.out i a e2 (by rw [← zz]; exact z), h2⟩
  · refine b c u (R.same c u ec nc) fun zz => ?_
    subst zz
    rcases R.new i c e2 with h1 | h1
    · rw [h1] at ec
      cases ec
    · exact nc h1
theorem Rel.ownA {K : PySem.W.Frag} {F : Fm} {os : List (Option Addr)} {r : Env} {σ : St} {H : Hp} (R : Rel K F os r σ H) {i : Nat} {s : Slot} {d : D} (e : r[i]? = some s) (ec : s.cont = some d) : ∃ a, σ[i]? = some (some (.ref a)) ∧ Av F.A0 os a ∧ RepO K H (Av F.A0 os) d a := by
  obtain ⟨v, o, e1, e2, q0⟩ := R.get e
  obtain ⟨a, z1, z2, q, _⟩ := q0.cont ec
  subst z1
  subst z2
  exact ⟨a, e1, .inr (List.mem_of_getElem? e2), q⟩
theorem e_callIO {i : Nat} {y : Str} {py : Pos} {g : Env → R (List D × Env)} {n : Nat} {F : List D → List D → R (D × List D)} (G : FnOk X.prog X.w X.K X.mg X.base (L2.CX X.prog X.w) k f fd ps (SpIO X.K n F)) (hr : Room k X.A) (hg : Gl X x) (hm : X.mg x = some (.ref f)) (hk : PySem.W.keepIn X.K (.ref f) = true) (hb : Binds X.K fd ps [])
    (tk : Takes X W) (hN : X.N[i]? = some y) (hv : Vis X.env.scope y) (ha : DEs X W es g) (hd : (y == ("__debug__" : Str)) = false := by decide) (hcd : (y == ("__classdict__" : Str)) = false := by decide)
    (hdb : (x == ("__debug__" : Str)) = false := by decide) (he : starEach (.Name y py :: es) X.env = (false, eval (.Name y py) X.env) :: starEach es X.env := by rfl) (hpl : (backTo pos (starEach es X.env)).any (·.1) = false := by rfl) :
    DE X W (.Call (.Name x p) (.Name y py :: es) [] pos) (callIO i n F g) := by
  obtain ⟨ta, pa, wa⟩ := ha
  refine ⟨_, pe_callS (E := WE W) G hr hg hm hk hb (passAt tk) (pa_cons (pe_var (i := i) hN hv hd hcd) pa he) hdb he hpl, fun Fm os r σ H Q Rl S => ?_⟩
  obtain ⟨s0, e0, S⟩ := S.bind.ofO
  obtain ⟨e00, e01⟩ := ownL_ok (s := s0.1) (xs := s0.2) e0
  obtain ⟨a, e1, _, _⟩ := Rl.ownA e00 e01
  refine ⟨_, e1, wa Fm os r σ H _ Rl (S.bind.imp fun p S vs H1 R1 k1 h1 => ?_)⟩
  obtain ⟨s3, e3, S⟩ := S.bind.ofO
  obtain ⟨e30, e31⟩ := ownL_ok (s := s3.1) (xs := s3.2) e3
  obtain ⟨a', e4, inA, xs, hx, hxr⟩ := R1.ownA e30 e31
  rw [e1] at e4
  cases e4
  by_cases hl : p.1.length = n
  · rw [if_pos hl] at S
    refine ⟨_, a, xs, vs, s3.2, p.1, rfl, by rw [repL_length h1]; exact hl, hx, inA, R1.AOk, hxr, h1, ?_⟩
    cases q2 : F s3.2 p.1 with
    | ok w =>
      rw [q2] at S
      intro u H' xs' bt hx' hr' hu
      obtain ⟨R2, k2⟩ := Rel.but R1 e30 e31 e1 bt (d' := .lst w.2) ⟨xs', hx', hr'⟩
      exact S u H' R2 (k1.trans k2) hu
    | err x r' =>
      rw [q2] at S
      exact S.elim
    | stk =>
      rw [q2] at S
      exact S.elim
  · rw [if_neg hl] at S
    exact S.elim
end
/-! ### statements -/
/-- how a statement ends -/
inductive Fl where
  | nx (r : Env) | rt (d : D) (r : Env) | bk (r : Env) | ct (r : Env)
def SPost (K : PySem.W.Frag) (F : Fm) (os : List (Option Addr)) (H : Hp) (D : Ends) : Fl → Prop
  | .nx r => ∀ os' σ' H', Rel K F os' r σ' H' → Keep (Av F.A0 os) (Av F.A0 os') H H' → D.nx σ' H'
  | .bk r => ∀ os' σ' H', Rel K F os' r σ' H' → Keep (Av F.A0 os) (Av F.A0 os') H H' → D.bk σ' H'
  | .ct r => ∀ os' σ' H', Rel K F os' r σ' H' → Keep (Av F.A0 os) (Av F.A0 os') H H' → D.ct σ' H'
  | .rt d r => ∀ os' v σ' H', Rel K F os' r σ' H' → Rep K H' (Av F.A0 os') d v → D.rt v H'
structure DS (X : Cx) (W : WX) (st : Stmt) (f : Env → R Fl) : Prop where
  ex : ∃ t, PS X st t ∧ ∀ (F : Fm) (os : List (Option Addr)) (r : Env) (σ : St) (H : Hp) (D : Ends), Rel X.K F os r σ H → Sat (SPost X.K F os H D) (Er X W F) (f r) → t D σ H
structure DSs (X : Cx) (W : WX) (st : List Stmt) (f : Env → R Fl) : Prop where
  ex : ∃ t, PSs X st t ∧ ∀ (F : Fm) (os : List (Option Addr)) (r : Env) (σ : St) (H : Hp) (D : Ends), Rel X.K F os r σ H → Sat (SPost X.K F os H D) (Er X W F) (f r) → t D σ H
/-- only the slots of ks differ -/
def Off (ks : List Nat) (σ σ' : St) (os os' : List (Option Addr)) : Prop := σ'.length = σ.length ∧ ∀ i, i ∉ ks → σ'[i]? = σ[i]? ∧ os'[i]? = os[i]?
structure DG (X : Cx) (W : WX) (ks : List Nat) (tg : Expr) (g : D → Env → R Env) : Prop where
  ex : ∃ t, PG X tg t ∧ ∀ (F : Fm) (os : List (Option Addr)) (r : Env) (σ : St) (H : Hp) (v : V) (d : D) (Q : St → Hp → Prop), Rel X.K F os r σ H → Rep X.K H (Av F.A0 os) d v →
    Sat (fun r' => ∀ os' σ' H', Rel X.K F os' r' σ' H' → Keep (Av F.A0 os) (Av F.A0 os') H H' → Same H H' → Off ks σ σ' os os' → Q σ' H') (Er X W F) (g d r) → t v σ H Q
structure DGs (X : Cx) (W : WX) (ks : List Nat) (tg : List Expr) (g : List D → Env → R Env) : Prop where
  ex : ∃ t, PGs X tg t ∧ ∀ (F : Fm) (os : List (Option Addr)) (r : Env) (σ : St) (H : Hp) (vs : List V) (ds : List D) (Q : St → Hp → Prop), Rel X.K F os r σ H → RepL X.K H (Av F.A0 os) ds vs →
    Sat (fun r' => ∀ os' σ' H', Rel X.K F os' r' σ' H' → Keep (Av F.A0 os) (Av F.A0 os') H H' → Same H H' → Off ks σ σ' os os' → Q σ' H') (Er X W F) (g ds r) → t vs σ H Q
@[simp] def gSet (i : Nat) : D → Env → R Env := fun d r => .ok (r.set i (.sh d))
def gsNil : List D → Env → R Env := fun ds r => match ds with
  | [] => .ok r
  | _ => .stk
def gsCons (g : D → Env → R Env) (h : List D → Env → R Env) : List D → Env → R Env := fun ds r => match ds with
  | d :: r' => (g d r).bind fun r1 => h r' r1
  | [] => .stk
def gTupD (n : Nat) (g : List D → Env → R Env) : D → Env → R Env := fun d r => match d with
  | .tup ds => if ds.length = n then g ds r else .stk
  | _ => .stk
section
variable {X : Cx} {W : WX} {e : Expr} {pos pos' : Pos} {st : Stmt} {sts : List Stmt} {x : Str}
theorem SPost.from {K : PySem.W.Frag} {F : Fm} {os os1 : List (Option Addr)} {H H1 : Hp} {D : Ends} (k : Keep (Av F.A0 os) (Av F.A0 os1) H H1) : ∀ {fl : Fl}, SPost K F os H D fl → SPost K F os1 H1 D fl
  | .nx r, h => fun os' σ' H' R k2 => h os' σ' H' R (k.trans k2)
  | .bk r, h => fun os' σ' H' R k2 => h os' σ' H' R (k.trans k2)
  | .ct r, h => fun os' σ' H' R k2 => h os' σ' H' R (k.trans k2)
  | .rt d r, h => h
theorem g_name {i : Nat} (hN : X.N.Nodup) (hi : X.N[i]? = some x := by rfl) (hx : Loc X.env.scope x := by first | exact Or.inl rfl | exact Or.inr rfl) (hf : X.fn x = true ∨ X.env.scope.names.lookup x = some .local := by first | exact .inl rfl | exact .inr rfl) : DG X W [i] (.Name x pos) (gSet i) := by
  refine ⟨_, pg_name (i := i) hN hi hx hf, fun F os r σ H v d Q R h S => ?_⟩
  obtain ⟨R1, k1⟩ := R.setSh (i := i) h
  exact S _ _ _ R1 k1 (Same.refl H) ⟨by simp, fun j hj => ⟨List.getElem?_set_ne (fun z => hj (by simp [z])), List.getElem?_set_ne (fun z => hj (by simp [z]))⟩⟩
theorem gs_nil : DGs X W [] [] gsNil := by
  refine ⟨_, pgs_nil, fun F os r σ H vs ds Q R h S => ?_⟩
  cases ds with
  | nil =>
    unfold RepL at h
    exact ⟨h, S os σ H R Keep.refl (Same.refl H) ⟨rfl, fun _ _ => ⟨rfl, rfl⟩⟩⟩
  | cons d ds => exact S.elim
theorem Off.trans {a b : List Nat} {σ σ1 σ2 : St} {o o1 o2 : List (Option Addr)} (h : Off a σ σ1 o o1) (h2 : Off b σ1 σ2 o1 o2) : Off (a ++ b) σ σ2 o o2 := ⟨h2.1.trans h.1, fun i hi => by
  rw [List.mem_append, not_or] at hi
  exact ⟨(h2.2 i hi.2).1.trans (h.2 i hi.1).1, (h2.2 i hi.2).2.trans (h.2 i hi.1).2⟩⟩
theorem gs_cons {es : List Expr} {ka kb : List Nat} {g : D → Env → R Env} {h : List D → Env → R Env} (h1 : DG X W ka e g) (h2 : DGs X W kb es h) (hs : (assignEach (e :: es) X.env).map (·.2) = assign e X.env :: (assignEach es X.env).map (·.2) := by rfl) : DGs X W (ka ++ kb) (e :: es) (gsCons g h) := by
  obtain ⟨t, pe, w⟩ := h1
  obtain ⟨u, pu, z⟩ := h2
  refine ⟨_, pgs_cons pe pu hs, fun F os r σ H vs ds Q R h S => ?_⟩
  cases ds with
  | nil => exact S.elim
  | cons d ds =>
    unfold RepL at h
    obtain ⟨v, rs, e1, h3, h4⟩ := h
    refine ⟨v, rs, e1, w F os r σ H v d _ R h3 (S.bind.imp fun r1 S os1 σ1 H1 R1 k1 s1 o1 => ?_)⟩
    exact z F os1 r1 σ1 H1 rs ds Q R1 (RepL.keep k1 R.AOk _ _ h4) (S.imp fun r2 q os2 σ2 H2 R2 k2 s2 o2 => q os2 σ2 H2 R2 (k1.trans k2) (s1.trans s2) (o1.trans o2))
theorem g_tup {es : List Expr} {ks : List Nat} {k n : Nat} {h : List D → Env → R Env} (hc : X.calm = true) (h2 : DGs X W ks es h) (hn : (assignEach es X.env).length = n := by rfl) (hst : (assignEach es X.env).findIdx? (·.1) = none := by rfl) : DG X W ks (.Tuple es k pos) (gTupD n h) := by
  obtain ⟨u, pu, z⟩ := h2
  refine ⟨_, pg_tup hc pu hn hst, fun F os r σ H v d Q R h S => ?_⟩
  cases d with
  | tup ds =>
    simp only [gTupD] at S
    by_cases hl : ds.length = n
    · rw [if_pos hl] at S
      unfold Rep at h
      obtain ⟨a, xs, e1, h1, h2⟩ := h
      exact ⟨a, xs, e1, tup_sq h1, by rw [repL_length h2]; exact hl, z F os r σ H xs ds Q R h2 S⟩
    · rw [if_neg hl] at S
      exact S.elim
  | _ => exact S.elim

def seqS (f g : Env → R Fl) : Env → R Fl := fun r => (f r).bind fun fl => match fl with
  | .nx r1 => g r1
  | .rt d r1 => .ok (.rt d r1)
  | .bk r1 => .ok (.bk r1)
  | .ct r1 => .ok (.ct r1)
@[simp] def skipS : Env → R Fl := fun r => .ok (.nx r)
theorem s_nil : DSs X W [] skipS := ⟨_, pss_nil, fun F os r σ H D R S => S os σ H R Keep.refl⟩
theorem s_one {f : Env → R Fl} (h : DS X W st f) : DSs X W [st] f := by
  obtain ⟨t, p, w⟩ := h
  exact ⟨_, pss_one p, w⟩
theorem s_cons {f g : Env → R Fl} (h : DS X W st f) (h2 : DSs X W sts g) : DSs X W (st :: sts) (seqS f g) := by
  obtain ⟨t, p, w⟩ := h
  obtain ⟨u, q, z⟩ := h2
  refine ⟨_, pss_cons p q, fun F os r σ H D R S => w F os r σ H _ R (S.bind.imp fun fl S => ?_)⟩
  cases fl with
  | nx r1 => exact fun os1 σ1 H1 R1 k1 => z F os1 r1 σ1 H1 D R1 (S.imp fun fl q => q.from k1)
  | rt d r1 => exact S
  | bk r1 => exact S
  | ct r1 => exact S
@[simp] def brkS : Env → R Fl := fun r => .ok (.bk r)
@[simp] def cntS : Env → R Fl := fun r => .ok (.ct r)
theorem s_break : DS X W (.Break pos) brkS := ⟨_, ps_break, fun F os r σ H D R S => S os σ H R Keep.refl⟩
/-- a statement that the data never reach -/
@[simp] def nvrS : Env → R Fl := fun _ => .stk
theorem s_never : DS X W st nvrS := ⟨_, ps_never, fun F os r σ H D R S => S.elim⟩
def exprS (f : Env → R (D × Env)) : Env → R Fl := fun r => (f r).bind fun p => .ok (.nx p.2)
theorem s_expr {f : Env → R (D × Env)} (h : DE X W e f) (hs : swapsWith e none pos.line X.env = pure false := by rfl) : DS X W (.Expr e pos) (exprS f) := by
  obtain ⟨t, pe, w⟩ := h
  exact ⟨_, ps_expr pe hs, fun F os r σ H D R S => w F os r σ H _ R (S.bind.imp fun p S v H1 R1 k1 h1 => S os σ H1 R1 k1)⟩
def retS (f : Env → R (D × Env)) : Env → R Fl := fun r => (f r).bind fun p => .ok (.rt p.1 p.2)
theorem s_ret {f : Env → R (D × Env)} (h : DE X W e f) : DS X W (.Return (some e) pos) (retS f) := by
  obtain ⟨t, pe, w⟩ := h
  exact ⟨_, ps_ret pe, fun F os r σ H D R S => w F os r σ H _ R (S.bind.imp fun p S v H1 R1 k1 h1 => S os v σ H1 R1 h1)⟩
@[simp] def retN : Env → R Fl := fun r => .ok (.rt .non r)
/-- return x, x a slot's own list -/
def retO (i : Nat) : Env → R Fl := fun r => match r[i]? with
  | some (.own d) => .ok (.rt d (r.set i (.sh d)))
  | some (.sh d) => .ok (.rt d r)
  | _ => .stk
theorem s_retO (i : Nat) {p : Pos} (hN : X.N[i]? = some x := by rfl) (hv : Vis X.env.scope x := by first | exact Or.inl rfl | exact Or.inr (Or.inl rfl) | exact Or.inr (Or.inr rfl)) (hd : (x == ("__debug__" : Str)) = false := by decide)
    (hcd : (x == ("__classdict__" : Str)) = false := by decide) : DS X W (.Return (some (.Name x p)) pos) (retO i) := by
  refine ⟨_, ps_ret (pe_var (i := i) hN hv hd hcd), fun F os r σ H D R S => ?_⟩
  unfold retO at S
  split at S
  · rename_i d e
    obtain ⟨R1, k1, a, ea, h1⟩ := R.freeze e
    exact ⟨_, ea, S _ _ σ H R1 h1⟩
  · rename_i d e
    obtain ⟨v, o, e1, e2, z, u, e3, h⟩ := R.get e
    subst e3
    exact ⟨u, e1, S os u σ H R h⟩
  · exact S.elim
def ifS (c : Env → R (Bool × Env)) (f g : Env → R Fl) : Env → R Fl := fun r => (c r).bind fun p => if p.1 = true then f p.2 else g p.2
theorem s_if {c : Env → R (Bool × Env)} {f g : Env → R Fl} {a b : List Stmt} (hc : DTE X W e c) (ha : DSs X W a f) (hb : DSs X W b g) : DS X W (.If e a b pos) (ifS c f g) := by
  obtain ⟨t, pe, w⟩ := hc
  obtain ⟨u, pu, z⟩ := ha
  obtain ⟨u2, pu2, z2⟩ := hb
  refine ⟨_, ps_if pe pu pu2, fun F os r σ H D R S => w F os r σ H _ R (S.bind.imp fun p S H1 R1 k1 => ?_)⟩
  by_cases hp : p.1 = true
  · rw [if_pos hp] at S ⊢
    exact z F os p.2 σ H1 D R1 (S.imp fun fl q => q.from k1)
  · rw [if_neg hp] at S ⊢
    exact z2 F os p.2 σ H1 D R1 (S.imp fun fl q => q.from k1)
/-- x = e -/
def setS (i : Nat) (f : Env → R (D × Env)) : Env → R Fl := fun r => (f r).bind fun p => .ok (.nx (p.2.set i (.sh p.1)))
theorem s_set (i : Nat) {p : Pos} {f : Env → R (D × Env)} (hN : X.N.Nodup) (h : DE X W e f) (hi : X.N[i]? = some x := by rfl) (hx : Loc X.env.scope x := by first | exact Or.inl rfl | exact Or.inr rfl) (hs : swapsWith e (some (.Name x p)) pos.line X.env = pure false := by rfl)
    (hf : X.fn x = true ∨ X.env.scope.names.lookup x = some .local := by first | exact .inl rfl | exact .inr rfl) : DS X W (.Assign [.Name x p] e pos) (setS i f) := by
  obtain ⟨t, pe, w⟩ := h
  refine ⟨_, ps_set (i := i) hN hi hx pe hs hf, fun F os r σ H D R S => w F os r σ H _ R (S.bind.imp fun q S v H1 R1 k1 h1 => ?_)⟩
  obtain ⟨R2, k2⟩ := R1.setSh (i := i) h1
  exact S _ _ _ R2 (k1.trans k2)
/-- x = a new list or dict that is x's own -/
def setO (i : Nat) (f : Env → R D) : Env → R Fl := fun r => (f r).bind fun d => .ok (.nx (r.set i (.own d)))
theorem s_setO (i : Nat) {p : Pos} {f : Env → R D} (hN : X.N.Nodup) (h : DF X W e f) (hi : X.N[i]? = some x := by rfl) (hx : Loc X.env.scope x := by first | exact Or.inl rfl | exact Or.inr rfl) (hs : swapsWith e (some (.Name x p)) pos.line X.env = pure false := by rfl)
    (hf : X.fn x = true ∨ X.env.scope.names.lookup x = some .local := by first | exact .inl rfl | exact .inr rfl) : DS X W (.Assign [.Name x p] e pos) (setO i f) := by
  obtain ⟨t, pe, w⟩ := h
  refine ⟨_, ps_set (i := i) hN hi hx pe hs hf, fun F os r σ H D R S => w F os r σ H _ R (S.bind.imp fun q S v H1 s1 n1 h1 => ?_)⟩
  obtain ⟨R2, k2⟩ := R.setOwn (i := i) s1 n1 h1
  exact S _ _ _ R2 k2
/-- target = e, any target -/
def asgS (g : D → Env → R Env) (f : Env → R (D × Env)) : Env → R Fl := fun r => (f r).bind fun p => (g p.1 p.2).bind fun r2 => .ok (.nx r2)
theorem s_asg {tg : Expr} {ks : List Nat} {g : D → Env → R Env} {f : Env → R (D × Env)} (h : DE X W e f) (h2 : DG X W ks tg g) (hs : swapsWithSole [tg] e pos.line X.env = pure false := by rfl) (hw : swappedStores [tg] e X.env = pure none := by rfl)
    (h1 : (assignEach [tg] X.env).map (·.2) = [assign tg X.env] := by rfl) : DS X W (.Assign [tg] e pos) (asgS g f) := by
  obtain ⟨t, pe, w⟩ := h
  obtain ⟨u, pu, z⟩ := h2
  refine ⟨_, ps_asg pe pu hs hw h1, fun F os r σ H D R S => w F os r σ H _ R (S.bind.imp fun q S v H1 R1 k1 h1 => ?_)⟩
  exact z F os q.2 σ H1 v q.1 _ R1 h1 (S.bind.imp fun r2 S os' σ' H' R' k' _ _ => S os' σ' H' R' (k1.trans k'))
/-- x, y = a, b: two local names -/
def parS (i j : Nat) (f : Env → R (List D × Env)) : Env → R Fl := fun r => (f r).bind fun p => match p.1 with
  | [d, e] => .ok (.nx ((p.2.set i (.sh d)).set j (.sh e)))
  | _ => .stk
/-- x += e, by the operator's in-place rule -/
def augS (i : Nat) (op : D → D → Option D) (f : Env → R D) : Env → R Fl := fun r => match r[i]? with
  | some (.sh x) => (f r).bind fun y => (R.ofO (op x y)).bind fun d => .ok (.nx (r.set i (.sh d)))
  | _ => .stk
def OpIp (X : Cx) (r : TIp) (op : D → D → Option D) : Prop := ∀ (A : Addr → Prop) (H : Hp) (x y : D) (v w : V) (d : D) (Q : VK), AOk A H → op x y = some d → Rep X.K H A x v → RepB X.K H A y w →
  (∀ u H', Same H H' → Rep X.K H' A d u → Q u H') → r v w H Q
theorem s_aug (i : Nat) {op : Operator} {ti : TIp} {g : D → D → Option D} {p : Pos} {f : Env → R D} (hN : X.N.Nodup) (ho : PIp X op ti) (o : OpIp X ti g) (h : DB X W e f) (hi : X.N[i]? = some x := by rfl) (hx : Loc X.env.scope x := by first | exact Or.inl rfl | exact Or.inr rfl)
    (hf : X.fn x = true ∨ X.env.scope.names.lookup x = some .local := by first | exact .inl rfl | exact .inr rfl) : DS X W (.AugAssign (.Name x p) op e pos) (augS i g f) := by
  obtain ⟨t, pe, w⟩ := h
  refine ⟨_, ps_aug (i := i) hN hi hx pe ho hf, fun F os r σ H D R S => ?_⟩
  unfold augS at S
  split at S
  · rename_i d0 e0
    obtain ⟨v, o', e1, e2, z, u, e3, h0⟩ := R.get e0
    subst e3
    refine ⟨u, e1, w F os r σ H _ R (S.bind.imp fun y S v1 H1 s1 h1 => ?_)⟩
    obtain ⟨d, ed, S⟩ := S.bind.ofO
    have R1 := R.same' s1
    refine o _ H1 d0 y u v1 d _ R1.AOk ed (h0.same s1 R.AOk) h1 fun w2 H2 s2 h2 => ?_
    obtain ⟨R3, k3⟩ := (R1.same' s2).setSh (i := i) h2
    exact S _ _ _ R3 ((Keep.of (s1.trans s2)).trans k3)
  · exact S.elim

/-! ### a slot's own list changes -/
/-- x[k] = e -/
def itmS (i : Nat) (fk : Env → R D) (fe : Env → R D) : Env → R Fl := fun r => (fe r).bind fun d => (R.ofO (ownL r i)).bind fun s => (fk r).bind fun k => (R.ofO (asI k)).bind fun k => (R.ofO (ixN s.2.length k)).bind fun j => .ok (.nx (r.set i (s.1.put (.lst (s.2.set j d)))))
theorem repL_set {K : PySem.W.Frag} {H : Hp} {A : Addr → Prop} {d : D} {v : V} (h2 : Rep K H A d v) : ∀ {ds : List D} {vs : List V} (j : Nat), RepL K H A ds vs → RepL K H A (ds.set j d) (vs.set j v)
  | [], vs, j, h => by
    unfold RepL at h
    subst h
    simp only [List.set_nil]
    unfold RepL; rfl
  | x :: ds, vs, 0, h => by
    unfold RepL at h
    obtain ⟨w, r, e, h1, h3⟩ := h
    subst e
    simp only [List.set_cons_zero]
    unfold RepL
    exact ⟨v, r, rfl, h2, h3⟩
  | x :: ds, vs, j + 1, h => by
    unfold RepL at h
    obtain ⟨w, r, e, h1, h3⟩ := h
    subst e
    simp only [List.set_cons_succ]
    unfold RepL
    exact ⟨w, _, rfl, h1, repL_set h2 j h3⟩
/-- the values of an own list, kept when the list alone changes -/
theorem own_upd {K : PySem.W.Frag} {A : Addr → Prop} {H : Hp} {a : Addr} {o' : HO} {ds : List D} {vs : List V} (ak : AOk A H) (ha : A a) (h : RepL K H A ds vs) : RepL K (upd H a o') A ds vs :=
  RepL.keep (fun b u eb nb => ⟨by rw [upd_ne (fun z => nb (by rw [z]; exact ha))]; exact eb, nb⟩) ak _ _ h
theorem s_item (i : Nat) {ix : Expr} {p p2 : Pos} {fk fe : Env → R D} (h : DP X W e fe) (h2 : DB X W ix fk) (hN : X.N[i]? = some x := by rfl) (hv : Vis X.env.scope x := by first | exact Or.inl rfl | exact Or.inr (Or.inl rfl) | exact Or.inr (Or.inr rfl)) (hd : (x == ("__debug__" : Str)) = false := by decide)
    (hcd : (x == ("__classdict__" : Str)) = false := by decide)
    (ha : ∀ v, assign (.Subscript (.Name x p) ix p2) X.env v = (do
      let ov ← holding [v] (eval (.Name x p) X.env)
      let iv ← holding [v, ov] (eval ix X.env)
      standAt p2
      holding [v, ov, iv] (setItem ov iv v)
      release [v, ov, iv] []) := by intro _; rfl)
    (hs : swapsWithSole [.Subscript (.Name x p) ix p2] e pos.line X.env = pure false := by rfl) (hw : swappedStores [.Subscript (.Name x p) ix p2] e X.env = pure none := by rfl)
    (h1 : (assignEach [.Subscript (.Name x p) ix p2] X.env).map (·.2) = [assign (.Subscript (.Name x p) ix p2) X.env] := by rfl) : DS X W (.Assign [.Subscript (.Name x p) ix p2] e pos) (itmS i fk fe) := by
  obtain ⟨t, pe, w⟩ := h
  obtain ⟨u, pu, z⟩ := h2
  refine ⟨_, ps_asg pe (pg_sub (pe_var (i := i) hN hv hd hcd) pu set_list ha) hs hw h1, fun F os r σ H D R S => w F os r σ H _ R (S.bind.imp fun d S v H1 s1 h1 => ?_)⟩
  have R1 := R.same' s1
  obtain ⟨s0, e0, S⟩ := S.bind.ofO
  obtain ⟨e00, e01⟩ := ownL_ok (s := s0.1) (xs := s0.2) e0
  obtain ⟨a, ea, inA, _⟩ := R1.ownA e00 e01
  refine ⟨_, ea, z F os r σ H1 _ R1 (S.bind.imp fun k S v2 H2 s2 h2 => ?_)⟩
  have R2 := R1.same' s2
  obtain ⟨k', ek, S2⟩ := S.bind.ofO
  clear S
  obtain ⟨j, ej, S3⟩ := S2.bind.ofO
  obtain ⟨a', ea', inA', ys, hy, hr⟩ := R2.ownA e00 e01
  rw [ea] at ea'
  cases ea'
  cases k with
  | int k0 =>
    cases ek
    refine ⟨a, ys, _, j, rfl, h2.int, hy, by rw [repL_length hr]; exact ej, ?_⟩
    have rep' : RepO X.K (upd H2 a (.lst (ys.set j v))) (Av F.A0 os) (.lst (s0.2.set j d)) a := ⟨_, upd_same, own_upd R2.AOk inA (repL_set (h1.same s2 R1.AOk) j hr)⟩
    obtain ⟨R3, k3⟩ := R2.updOwn e00 e01 ea rep'
    exact S3 os σ _ R3 ((Keep.of (s1.trans s2)).trans k3)
  | _ => cases ek
/-- x.append(e) -/
def appS (i : Nat) (fe : Env → R D) : Env → R Fl := fun r => (R.ofO (ownL r i)).bind fun s => (fe r).bind fun d => if s.2.length < sizeLine then .ok (.nx (r.set i (s.1.put (.lst (s.2 ++ [d]))))) else .stk
theorem s_append (i : Nat) {p apos cpos : Pos} {fe : Env → R D} (h : DP X W e fe) (hN : X.N[i]? = some x := by rfl) (hv : Vis X.env.scope x := by first | exact Or.inl rfl | exact Or.inr (Or.inl rfl) | exact Or.inr (Or.inr rfl)) (hd : (x == ("__debug__" : Str)) = false := by decide)
    (hcd : (x == ("__classdict__" : Str)) = false := by decide)
    (hbase : attributeBase (.Name x p) "append" X.env (eval (.Name x p) X.env) = eval (.Name x p) X.env := by rfl)
    (hfew : ((backTo cpos (starEach [e] X.env)).all (fun x => !x.1) && (backToKw cpos (keywordEach [] X.env)).all (fun x => x.1.isSome)
      && decide ([e].length + ([] : List Keyword).length + (if ([] : List Keyword).isEmpty then 0 else 1) < 30)) = true := by rfl)
    (hline : (apos.endLine == cpos.line) = true := by rfl) (he : starEach [e] X.env = [(false, eval e X.env)] := by rfl)
    (hs : swapsWith (.Call (.Attribute (.Name x p) "append" apos) [e] [] cpos) none pos.line X.env = pure false := by rfl) :
    DS X W (.Expr (.Call (.Attribute (.Name x p) "append" apos) [e] [] cpos) pos) (appS i fe) := by
  obtain ⟨t, pe, w⟩ := h
  refine ⟨_, ps_expr (pe_bm PySem.F.plainAttrs_list PySem.F.slot_list_append PySem.F.type_list_append mt_append (pe_var (i := i) hN hv hd hcd) (pa_cons pe pa_nil he) hbase hfew hline he rfl) hs, fun F os r σ H D R S => ?_⟩
  obtain ⟨s0, e0, S⟩ := S.bind.ofO
  obtain ⟨e00, e01⟩ := ownL_ok (s := s0.1) (xs := s0.2) e0
  obtain ⟨a, ea, inA, ys, hy, hr⟩ := R.ownA e00 e01
  refine ⟨_, ea, .inl ⟨rfl, ys, SqL.of hy⟩, w F os r σ H _ R (S.bind.imp fun d S v H1 s1 h1 => ?_)⟩
  have R1 := R.same' s1
  obtain ⟨a', ea', inA', ys', hy', hr'⟩ := R1.ownA e00 e01
  rw [ea] at ea'
  cases ea'
  by_cases hl : s0.2.length < sizeLine
  · rw [if_pos hl] at S
    refine ⟨a, ys', v, rfl, rfl, hy', by rw [repL_length hr']; exact hl, ?_⟩
    have rep' : RepO X.K (upd H1 a (.lst (ys' ++ [v]))) (Av F.A0 os) (.lst (s0.2 ++ [d])) a := ⟨_, upd_same, own_upd R1.AOk inA (repL_append hr' (by unfold RepL; exact ⟨v, [], rfl, h1, by unfold RepL; rfl⟩))⟩
    obtain ⟨R3, k3⟩ := R1.updOwn e00 e01 ea rep'
    exact S os σ _ R3 ((Keep.of s1).trans k3)
  · rw [if_neg hl] at S
    exact S.elim
/-- from here on the list is a value as others -/
@[simp] def frz1 (i : Nat) (r : Env) : Env := match r[i]? with
  | some (.own d) => r.set i (.sh d)
  | _ => r
theorem s_frz (i : Nat) {f : Env → R Fl} (h : DSs X W sts f) : DSs X W sts (fun r => f (frz1 i r)) := by
  obtain ⟨t, p, w⟩ := h
  refine ⟨t, p, fun F os r σ H D R S => ?_⟩
  cases q : r[i]? with
  | none =>
    have e1 : frz1 i r = r := by unfold frz1; rw [q]
    simp only [e1] at S
    exact w F os r σ H D R S
  | some sl =>
    cases sl with
    | own d =>
      have e1 : frz1 i r = r.set i (.sh d) := by unfold frz1; rw [q]
      simp only [e1] at S
      obtain ⟨R1, k1, _⟩ := R.freeze q
      exact w F _ _ σ H D R1 (S.imp fun fl q => q.from k1)
    | sh d =>
      have e1 : frz1 i r = r := by unfold frz1; rw [q]
      simp only [e1] at S
      exact w F os r σ H D R S
    | io d =>
      have e1 : frz1 i r = r := by unfold frz1; rw [q]
      simp only [e1] at S
      exact w F os r σ H D R S
    | un =>
      have e1 : frz1 i r = r := by unfold frz1; rw [q]
      simp only [e1] at S
      exact w F os r σ H D R S
end
end DL

end
section
namespace DL
open PySem L2

/-! ### what is walked -/
/-- J gives the items, while G holds (of what a slot owns, and the heap) -/
structure Src (K : PySem.W.Frag) (J : It) (items : List D) (G : (Addr → Prop) → Hp → Prop) : Prop where
  keep : ∀ (A A' : Addr → Prop) (H H' : Hp), AOk A H → Keep A A' H H' → G A H → G A' H'
  goes : ∀ (A : Addr → Prop) (i : Nat) (H : Hp), AOk A H → i < items.length → G A H → J.go i H
  stops : ∀ (A : Addr → Prop) (H : Hp), AOk A H → G A H → J.stop items.length H
  yields : ∀ (A : Addr → Prop) (i : Nat) (H : Hp) (x : V) (H' : Hp), AOk A H → i < items.length → G A H → J.yld i H x H' → Same H H' ∧ ∃ d, items[i]? = some d ∧ Rep K H' A d x
structure DI (X : Cx) (W : WX) (tg iter : Expr) (f : Env → R (List D × Env)) : Prop where
  ex : ∃ t, PI X tg iter t ∧ ∀ (F : Fm) (os : List (Option Addr)) (r : Env) (σ : St) (H : Hp) (Q : It → Hp → Prop), Rel X.K F os r σ H →
    Sat (fun p => ∀ J H' G, Src X.K J p.1 G → Rel X.K F os p.2 σ H' → Keep (Av F.A0 os) (Av F.A0 os) H H' → G (Av F.A0 os) H' → Q J H') (Er X W F) (f r) → t σ H Q
def cI (K : PySem.W.Frag) (mg : Str → Option Value) (W : WX) (f : Env → R (List D × Env)) : TI := fun σ H Q => ∃ F os r, Rel K F os r σ H ∧
  Sat (fun p => ∀ J H' G, Src K J p.1 G → Rel K F os p.2 σ H' → Keep (Av F.A0 os) (Av F.A0 os) H H' → G (Av F.A0 os) H' → Q J H') (ErK K mg W F) (f r)
theorem DI.can {X : Cx} {W : WX} {tg iter : Expr} {f : Env → R (List D × Env)} (h : DI X W tg iter f) : PI X tg iter (cI X.K X.mg W f) := by
  obtain ⟨t, pe, w⟩ := h
  exact ⟨fun pins s σ H Q I ⟨F, os, r, R, S⟩ => pe.run pins s σ H Q I (w F os r σ H Q R S)⟩
section
variable {X : Cx} {W : WX} {e tg : Expr} {es : List Expr} {pos p : Pos}
theorem src_list {K : PySem.W.Frag} {a : Addr} {ds : List D} : Src K (Itl K a) ds (fun A H => Rep K H A (.lst ds) (.ref a)) := by
  have rd : ∀ {A : Addr → Prop} {H : Hp}, Rep K H A (.lst ds) (.ref a) → ∃ xs, SqL K H a xs ∧ RepL K H A ds xs := fun {A H} h => by
    obtain ⟨b, xs, e, h1, h2⟩ := RepB.lst (.inl h)
    cases e
    exact ⟨xs, h1, h2⟩
  refine ⟨fun A A' H H' ak k h => Rep.keep k ak _ _ h, fun A i H ak hi h => ?_, fun A H ak h => ?_, fun A i H x H' ak hi h y => ?_⟩
  · obtain ⟨xs, h1, h2⟩ := rd h
    obtain ⟨v, h3, _⟩ := repL_get h2 (List.getElem?_eq_getElem hi)
    exact ⟨xs, v, h1, h3⟩
  · obtain ⟨xs, h1, h2⟩ := rd h
    exact ⟨xs, h1, by rw [repL_length h2]; exact Nat.le_refl _⟩
  · obtain ⟨xs, h1, h2⟩ := rd h
    obtain ⟨e1, y⟩ := y
    subst e1
    obtain ⟨v, h3, h4⟩ := repL_get h2 (List.getElem?_eq_getElem hi)
    have e3 := y xs h1
    rw [h3] at e3
    cases e3
    exact ⟨Same.refl _, _, List.getElem?_eq_getElem hi, h4⟩
theorem src_tup {K : PySem.W.Frag} {a : Addr} {ds : List D} : Src K (Itt K a) ds (fun A H => Rep K H A (.tup ds) (.ref a)) := by
  have rd : ∀ {A : Addr → Prop} {H : Hp}, Rep K H A (.tup ds) (.ref a) → ∃ xs, SqT K H a xs ∧ RepL K H A ds xs := fun {A H} h => by
    obtain ⟨b, xs, e, h1, h2⟩ := RepB.tup (.inl h)
    cases e
    exact ⟨xs, h1, h2⟩
  refine ⟨fun A A' H H' ak k h => Rep.keep k ak _ _ h, fun A i H ak hi h => ?_, fun A H ak h => ?_, fun A i H x H' ak hi h y => ?_⟩
  · obtain ⟨xs, h1, h2⟩ := rd h
    obtain ⟨v, h3, _⟩ := repL_get h2 (List.getElem?_eq_getElem hi)
    exact ⟨xs, v, h1, h3⟩
  · obtain ⟨xs, h1, h2⟩ := rd h
    exact ⟨xs, h1, by rw [repL_length h2]; exact Nat.le_refl _⟩
  · obtain ⟨xs, h1, h2⟩ := rd h
    obtain ⟨e1, y⟩ := y
    subst e1
    obtain ⟨v, h3, h4⟩ := repL_get h2 (List.getElem?_eq_getElem hi)
    have e3 := y xs h1
    rw [h3] at e3
    cases e3
    exact ⟨Same.refl _, _, List.getElem?_eq_getElem hi, h4⟩
/-- the ints lo, lo + 1, .. -/
def rngL (lo : Int) (n : Nat) : List D := (List.range n).map fun i => D.int (lo + (i : Nat))
theorem rngL_length (lo : Int) (n : Nat) : (rngL lo n).length = n := by simp [rngL]
theorem src_range {K : PySem.W.Frag} {lo : Int} {n : Nat} : Src K (Itr lo n) (rngL lo n) (fun _ _ => True) := by
  refine ⟨fun _ _ _ _ _ _ h => h, fun A i H ak hi h => ?_, fun A H ak h => ?_, fun A i H x H' ak hi h y => ?_⟩
  · rw [rngL_length] at hi
    exact hi
  · rw [rngL_length]
    exact Nat.le_refl _
  · obtain ⟨e1, e2⟩ := y
    subst e1 e2
    rw [rngL_length] at hi
    exact ⟨Same.refl _, .int (lo + (i : Nat)), by simp [rngL, hi], rep_int⟩
/-- the signs of a text -/
def sgs (z : Str) : List D := z.cps.toList.map fun c => D.str ⟨#[c]⟩
theorem src_str {K : PySem.W.Frag} {z : Str} : Src K (Its z) (sgs z) (fun _ _ => True) := by
  have hl : (sgs z).length = z.cps.size := by simp [sgs]
  refine ⟨fun _ _ _ _ _ _ h => h, fun A i H ak hi h => ?_, fun A H ak h => ?_, fun A i H x H' ak hi h y => ?_⟩
  · rw [hl] at hi
    exact hi
  · rw [hl]
    exact Nat.le_refl _
  · obtain ⟨e1, c, e2, e3⟩ := y
    subst e1 e3
    refine ⟨Same.refl _, .str ⟨#[c]⟩, ?_, rep_str⟩
    unfold sgs
    rw [List.getElem?_map]
    have : z.cps.toList[i]? = some c := by rw [Array.getElem?_toList]; exact e2
    rw [this]
    rfl
@[simp] def itL (f : Env → R (D × Env)) : Env → R (List D × Env) := fun r => (f r).bind fun p => match p.1 with
  | .lst ds => .ok (ds, p.2)
  | _ => .stk
@[simp] def itT (f : Env → R (D × Env)) : Env → R (List D × Env) := fun r => (f r).bind fun p => match p.1 with
  | .tup ds => .ok (ds, p.2)
  | _ => .stk
@[simp] def itS (f : Env → R (D × Env)) : Env → R (List D × Env) := fun r => (f r).bind fun p => match p.1 with
  | .str z => .ok (sgs z, p.2)
  | _ => .stk
@[simp] def itR1 (g : Env → R (List D × Env)) : Env → R (List D × Env) := fun r => (g r).bind fun p => match p.1 with
  | [.int j] => if -(2 ^ 62) ≤ j ∧ j < 2 ^ 62 then .ok (rngL 0 j.toNat, p.2) else .stk
  | _ => .stk
@[simp] def itR2 (g : Env → R (List D × Env)) : Env → R (List D × Env) := fun r => (g r).bind fun p => match p.1 with
  | [.int i, .int j] => if -(2 ^ 62) ≤ i ∧ i < 2 ^ 62 ∧ -(2 ^ 62) ≤ j ∧ j < 2 ^ 62 then .ok (rngL i (j - i).toNat, p.2) else .stk
  | _ => .stk
theorem i_range1 {g : Env → R (List D × Env)} (hg : Gl X "range") (hm : X.mg "range" = none) (h : DEs X W [e] g) (hs : starEach [e] X.env = [(false, eval e X.env)] := by rfl) : DI X W tg (.Call (.Name "range" p) [e] [] pos) (itR1 g) := by
  obtain ⟨t, pe, w⟩ := h
  refine ⟨_, pi_range1 hg hm pe hs, fun F os r σ H Q R S => w F os r σ H _ R (S.bind.imp fun q S vs H1 R1 k1 h1 => ?_)⟩
  obtain ⟨ds, r1⟩ := q
  match ds, S, h1 with
  | [.int j], S, h1 =>
    unfold RepL at h1
    obtain ⟨v, rs, e1, h3, h4⟩ := h1
    unfold RepL at h4
    subst h4 e1
    unfold Rep at h3
    subst h3
    by_cases hj : -(2 ^ 62) ≤ j ∧ j < 2 ^ 62
    · simp only [if_pos hj] at S
      exact ⟨j, rfl, hj.1, hj.2, S _ H1 _ src_range R1 k1 trivial⟩
    · simp only [if_neg hj] at S
      exact S.elim
/-! the same, the slots staying as they are -/
structure DIp (X : Cx) (W : WX) (tg iter : Expr) (f : Env → R (List D)) : Prop where
  ex : ∃ t, PI X tg iter t ∧ ∀ (F : Fm) (os : List (Option Addr)) (r : Env) (σ : St) (H : Hp) (Q : It → Hp → Prop), Rel X.K F os r σ H →
    Sat (fun items => ∀ J H' G, Src X.K J items G → Same H H' → G (Av F.A0 os) H' → Q J H') (Er X W F) (f r) → t σ H Q
def cIp (K : PySem.W.Frag) (mg : Str → Option Value) (W : WX) (f : Env → R (List D)) : TI := fun σ H Q => ∃ F os r, Rel K F os r σ H ∧
  Sat (fun items => ∀ J H' G, Src K J items G → Same H H' → G (Av F.A0 os) H' → Q J H') (ErK K mg W F) (f r)
theorem DIp.can {f : Env → R (List D)} (h : DIp X W tg e f) : PI X tg e (cIp X.K X.mg W f) := by
  obtain ⟨t, pe, w⟩ := h
  exact ⟨fun pins s σ H Q I ⟨F, os, r, R, S⟩ => pe.run pins s σ H Q I (w F os r σ H Q R S)⟩
theorem DIp.toI {f : Env → R (List D)} (h : DIp X W tg e f) : DI X W tg e (withEnv f) := by
  obtain ⟨t, pe, w⟩ := h
  exact ⟨t, pe, fun F os r σ H Q R S => w F os r σ H Q R (S.bind.imp fun d q J H' G src s g => q J H' G src (R.same' s) (Keep.of s) g)⟩
@[simp] def asL : D → Option (List D)
  | .lst ds => some ds
  | _ => none
@[simp] def asT : D → Option (List D)
  | .tup ds => some ds
  | _ => none
@[simp] def asS : D → Option (List D)
  | .str z => some (sgs z)
  | _ => none
@[simp] def itX (p : D → Option (List D)) (f : Env → R D) : Env → R (List D) := fun r => (f r).bind fun d => R.ofO (p d)
def rg1 : List D → Option (List D)
  | [.int j] => if -(2 ^ 62) ≤ j ∧ j < 2 ^ 62 then some (rngL 0 j.toNat) else none
  | _ => none
def rg2 : List D → Option (List D)
  | [.int i, .int j] => if -(2 ^ 62) ≤ i ∧ i < 2 ^ 62 ∧ -(2 ^ 62) ≤ j ∧ j < 2 ^ 62 then some (rngL i (j - i).toNat) else none
  | _ => none
@[simp] def itN (p : List D → Option (List D)) (g : Env → R (List D)) : Env → R (List D) := fun r => (g r).bind fun d => R.ofO (p d)
theorem p_range1 {g : Env → R (List D)} (hg : Gl X "range") (hm : X.mg "range" = none) (h : DBs X W [e] g) (hs : starEach [e] X.env = [(false, eval e X.env)] := by rfl) : DIp X W tg (.Call (.Name "range" p) [e] [] pos) (itN rg1 g) := by
  obtain ⟨t, pe, w⟩ := h
  refine ⟨_, pi_range1 hg hm pe hs, fun F os r σ H Q R S => w F os r σ H _ R (S.bind.imp fun ds S vs H1 s1 h1 => ?_)⟩
  obtain ⟨items, ei, S⟩ := S.ofO
  unfold rg1 at ei
  split at ei
  · rename_i j
    obtain ⟨v, e1, h3⟩ := rep1 h1
    subst e1
    split at ei
    · rename_i hj
      cases ei
      rw [h3.int]
      exact ⟨j, rfl, hj.1, hj.2, S _ H1 _ src_range s1 trivial⟩
    · cases ei
  · cases ei
/-! ### for -/
def forD (g : D → Env → R Env) (b : Env → R Fl) : List D → Env → R Fl
  | [], r => .ok (.nx r)
  | x :: xs, r => (g x r).bind fun r1 => (b r1).bind fun fl => match fl with
    | .nx r2 => forD g b xs r2
    | .ct r2 => forD g b xs r2
    | .bk r2 => .ok (.nx r2)
    | .rt d r2 => .ok (.rt d r2)
def forS (f : Env → R (List D × Env)) (g : D → Env → R Env) (b : Env → R Fl) : Env → R Fl := fun r => (f r).bind fun p => forD g b p.1 p.2
theorem s_for {iter : Expr} {ks : List Nat} {body : List Stmt} {f : Env → R (List D × Env)} {g : D → Env → R Env} {b : Env → R Fl} (hp : PassesOwn (model X.prog X.w) X.A X.env X.xe) (hc : X.calm = true) (hi : DI X W tg iter f) (hg : DG X W ks tg g) (hb : DSs X W body b)
    (hs : ∀ x, foldedSetIterable iter X.env x = pure x := by intro _; rfl) : DS X W (.For tg iter body [] pos) (forS f g b) := by
  obtain ⟨ti, pi, wi⟩ := hi
  obtain ⟨tG, pg, wg⟩ := hg
  obtain ⟨tb, pb, wb⟩ := hb
  refine ⟨_, ps_for hp hc pi pg pb hs, fun F os r σ H D R S => wi F os r σ H _ R (S.bind.imp fun q S J H1 G src R1 k1 g1 => ?_)⟩
  obtain ⟨items, r1⟩ := q
  have wk : Walk J items.length (fun H => ∃ A, AOk A H ∧ G A H) (fun i H x H' => i < items.length ∧ J.yld i H x H') :=
    ⟨fun i H hi ⟨A, ak, h⟩ => src.goes A i H ak hi h, fun H ⟨A, ak, h⟩ => src.stops A H ak h, fun i H x H' hi _ y => ⟨hi, y⟩⟩
  refine for_it wk (fun i σ' H' => ∃ os' r', Rel X.K F os' r' σ' H' ∧ Keep (Av F.A0 os) (Av F.A0 os') H1 H' ∧ G (Av F.A0 os') H' ∧ Sat (SPost X.K F os H D) (Er X W F) (forD g b (items.drop i) r')) ⟨os, r1, R1, Keep.refl, g1, S⟩ ?_ ?_ ?_
  · rintro i σ' H' hi ⟨os', r', R', k', g', S'⟩
    exact ⟨_, R'.AOk, g'⟩
  · rintro i x σ' H2 H3 hi ⟨os', r', R', k', g', S'⟩ ⟨_, y⟩
    obtain ⟨s3, d, ed, hd⟩ := src.yields _ i H2 x H3 R'.AOk hi g' y
    have ei : items.drop i = d :: items.drop (i + 1) := by
      rw [List.drop_eq_getElem_cons hi]
      rw [List.getElem?_eq_getElem hi] at ed
      cases ed
      rfl
    rw [ei] at S'
    have S'' : Sat (SPost X.K F os H D) (Er X W F) ((g d r').bind fun r1 => (b r1).bind fun fl => match fl with
      | .nx r2 => forD g b (items.drop (i + 1)) r2
      | .ct r2 => forD g b (items.drop (i + 1)) r2
      | .bk r2 => .ok (.nx r2)
      | .rt d r2 => .ok (.rt d r2)) := S'
    have R3 := R'.same' s3
    have g3 := src.keep _ _ _ _ R'.AOk (Keep.of s3) g'
    refine wg F os' r' σ' H3 x d _ R3 hd (S''.bind.imp fun r4 S4 os4 σ4 H4 R4 k4 _ _ => ?_)
    have g4 := src.keep _ _ _ _ R3.AOk k4 g3
    have k14 : Keep (Av F.A0 os) (Av F.A0 os4) H1 H4 := (k'.trans (Keep.of s3)).trans k4
    refine wb F os4 r4 σ4 H4 _ R4 (S4.bind.imp fun fl S5 => ?_)
    cases fl with
    | nx r5 => exact fun os5 σ5 H5 R5 k5 => ⟨os5, r5, R5, k14.trans k5, src.keep _ _ _ _ R4.AOk k5 g4, S5⟩
    | ct r5 => exact fun os5 σ5 H5 R5 k5 => ⟨os5, r5, R5, k14.trans k5, src.keep _ _ _ _ R4.AOk k5 g4, S5⟩
    | bk r5 => exact fun os5 σ5 H5 R5 k5 => S5 os5 σ5 H5 R5 (k1.trans (k14.trans k5))
    | rt d r5 => exact fun os5 v σ5 H5 R5 h5 => S5 os5 v σ5 H5 R5 h5
  · rintro σ' H' ⟨os', r', R', k', g', S'⟩
    rw [List.drop_length] at S'
    exact S' os' σ' H' R' (k1.trans k')

/-! ### while: n bounds the turns -/
def whlD (c : Env → R (Bool × Env)) (b : Env → R Fl) : Nat → Env → R Fl
  | 0, _ => .stk
  | n + 1, r => (c r).bind fun p => if p.1 = true then (b p.2).bind fun fl => match fl with
    | .nx r2 => whlD c b n r2
    | .ct r2 => whlD c b n r2
    | .bk r2 => .ok (.nx r2)
    | .rt d r2 => .ok (.rt d r2)
    else .ok (.nx p.2)
@[simp] def whlS (n : Env → Nat) (c : Env → R (Bool × Env)) (b : Env → R Fl) : Env → R Fl := fun r => whlD c b (n r) r
theorem s_while {body : List Stmt} {c : Env → R (Bool × Env)} {b : Env → R Fl} (n : Env → Nat) (hp : PassesOwn (model X.prog X.w) X.A X.env X.xe) (hc : DTE X W e c) (hb : DSs X W body b) : DS X W (.While e body [] pos) (whlS n c b) := by
  obtain ⟨tc, pc, wc⟩ := hc
  obtain ⟨tb, pb, wb⟩ := hb
  refine ⟨_, ps_while hp pc pb, fun F os r σ H D R S => ?_⟩
  refine ⟨fun m σ' H' => ∃ os' r', Rel X.K F os' r' σ' H' ∧ Keep (Av F.A0 os) (Av F.A0 os') H H' ∧ Sat (SPost X.K F os H D) (Er X W F) (whlD c b m r'), ⟨n r, os, r, R, Keep.refl, S⟩, ?_⟩
  rintro m σ' H' ⟨os', r', R', k', S'⟩
  cases m with
  | zero => exact S'.elim
  | succ m =>
    have S'' : Sat (SPost X.K F os H D) (Er X W F) ((c r').bind fun p => if p.1 = true then (b p.2).bind fun fl => match fl with
      | .nx r2 => whlD c b m r2
      | .ct r2 => whlD c b m r2
      | .bk r2 => .ok (.nx r2)
      | .rt d r2 => .ok (.rt d r2)
      else .ok (.nx p.2)) := S'
    refine wc F os' r' σ' H' _ R' (S''.bind.imp fun q S1 H1 R1 k1 => ?_)
    obtain ⟨bb, r1⟩ := q
    cases bb with
    | false => exact S1 os' σ' H1 R1 (k'.trans k1)
    | true =>
      simp only [if_true] at S1 ⊢
      refine ⟨fun σ2 H2 => ∃ os2 r2, Rel X.K F os2 r2 σ2 H2 ∧ Keep (Av F.A0 os) (Av F.A0 os2) H H2 ∧ Sat (SPost X.K F os H D) (Er X W F) (whlD c b m r2), fun σ2 H2 h => ⟨m, Nat.lt_succ_self m, h⟩, ?_⟩
      refine wb F os' r1 σ' H1 _ R1 (S1.bind.imp fun fl S5 => ?_)
      have k01 := k'.trans k1
      cases fl with
      | nx r5 => exact fun os5 σ5 H5 R5 k5 => ⟨os5, r5, R5, k01.trans k5, S5⟩
      | ct r5 => exact fun os5 σ5 H5 R5 k5 => ⟨os5, r5, R5, k01.trans k5, S5⟩
      | bk r5 => exact fun os5 σ5 H5 R5 k5 => S5 os5 σ5 H5 R5 (k01.trans k5)
      | rt d r5 => exact fun os5 v σ5 H5 R5 h5 => S5 os5 v σ5 H5 R5 h5
end
end DL

end
section
namespace DL
open PySem L2

/-! ### list comprehensions that change nothing -/
def wipeE (r : Env) : List Nat → Env
  | [] => r
  | v :: vs => (wipeE r vs).set v .un
def lcP (g : D → Env → R Env) (c : Env → R Bool) (f : Env → R D) (r0 : Env) : List D → R (List D)
  | [] => .ok []
  | x :: xs => (R.ne (g x r0)).bind fun r1 => (R.ne (c r1)).bind fun b => if b = true then (R.ne (f r1)).bind fun d => (lcP g c f r0 xs).bind fun ds => .ok (d :: ds) else lcP g c f r0 xs
@[simp] def lcV (vs : List Nat) (h : Env → R (List D)) (g : D → Env → R Env) (c : Env → R Bool) (f : Env → R D) : Env → R D := fun r => (h r).bind fun items => if items.length ≤ sizeLine then (lcP g c f (wipeE r vs) items).bind fun ds => .ok (.lst ds) else .stk
@[simp] def yesB : Env → R Bool := fun _ => .ok true
theorem Sat.ne {α : Type} {p : α → Prop} {q : Ex → Env → Prop} {r : R α} (h : Sat p q (R.ne r)) {q' : Ex → Env → Prop} : Sat p q' r := by
  cases r with
  | ok a => exact h
  | err x e => exact h.elim
  | stk => exact h
theorem Sat.neB {α β : Type} {p : β → Prop} {q q' : Ex → Env → Prop} {r : R α} {g : α → R β} (h : Sat p q ((R.ne r).bind g)) : Sat (fun a => Sat p q (g a)) q' r := by
  cases r with
  | ok a => exact h
  | err x e => exact h.elim
  | stk => exact h
def cG (K : PySem.W.Frag) (mg : Str → Option Value) (W : WX) (ks : List Nat) (g : D → Env → R Env) : TG := fun v σ H Q => ∃ F os r d, Rel K F os r σ H ∧ Rep K H (Av F.A0 os) d v ∧
  Sat (fun r' => ∀ os' σ' H', Rel K F os' r' σ' H' → Keep (Av F.A0 os) (Av F.A0 os') H H' → Same H H' → Off ks σ σ' os os' → Q σ' H') (ErK K mg W F) (g d r)
theorem DG.can {X : Cx} {W : WX} {ks : List Nat} {tg : Expr} {g : D → Env → R Env} (h : DG X W ks tg g) : PG X tg (cG X.K X.mg W ks g) := by
  obtain ⟨t, pe, w⟩ := h
  exact ⟨fun pins s σ H v u Q I rv ⟨F, os, r, d, R, rd, S⟩ => pe.run pins s σ H v u Q I rv (w F os r σ H v d Q R rd S)⟩
def cP (K : PySem.W.Frag) (mg : Str → Option Value) (W : WX) (f : Env → R D) : TE := fun σ H Q => ∃ F os r, Rel K F os r σ H ∧
  Sat (fun d => ∀ v H', Same H H' → Rep K H' (Av F.A0 os) d v → Q v H') (ErK K mg W F) (f r)
theorem DP.can {X : Cx} {W : WX} {e : Expr} {f : Env → R D} (h : DP X W e f) : PE X e (cP X.K X.mg W f) := by
  obtain ⟨t, pe, w⟩ := h
  exact ⟨fun pins s σ H Q I ⟨F, os, r, R, S⟩ => pe.run pins s σ H Q I (w F os r σ H Q R S)⟩
def cTp (K : PySem.W.Frag) (mg : Str → Option Value) (W : WX) (f : Env → R Bool) : TT := fun σ H Q => ∃ F os r, Rel K F os r σ H ∧
  Sat (fun b => ∀ H', Same H H' → Q b H') (ErK K mg W F) (f r)
/-- a clause's tests -/
structure DC (X : Cx) (W : WX) (ifs : List Expr) (f : Env → R Bool) : Prop where
  ex : ∃ t, PTs X ifs t ∧ ∀ (F : Fm) (os : List (Option Addr)) (r : Env) (σ : St) (H : Hp) (Q : Bool → Hp → Prop), Rel X.K F os r σ H →
    Sat (fun b => ∀ H', Same H H' → Q b H') (Er X W F) (f r) → t σ H Q
theorem DC.can {X : Cx} {W : WX} {ifs : List Expr} {f : Env → R Bool} (h : DC X W ifs f) : PTs X ifs (cTp X.K X.mg W f) := by
  obtain ⟨t, pe, w⟩ := h
  exact ⟨fun pins s σ H Q I ⟨F, os, r, R, S⟩ => pe.run pins s σ H Q I (w F os r σ H Q R S)⟩
theorem c_nil {X : Cx} {W : WX} : DC X W [] yesB := ⟨_, pts_nil, fun F os r σ H Q R S => S H (Same.refl H)⟩
theorem c_one {X : Cx} {W : WX} {e : Expr} {f : Env → R Bool} (h : DT X W e f) : DC X W [e] f := by
  obtain ⟨t, pe, w⟩ := h
  exact ⟨_, pts_one pe, w⟩
abbrev WF : WX := fun _ _ _ _ => False
section
variable {K : PySem.W.Frag} {F : Fm} {os : List (Option Addr)} {r : Env} {σ : St} {H H' : Hp}
/-- a new object that is nobody's -/
theorem Rel.ext (R : Rel K F os r σ H) {p : Addr} {o : HO} (n : H p = none) (ho : isT o = false) : Rel K ⟨Ad F.A0 p, F.H0, F.io⟩ os r σ (upd H p o) := by
  have ak := R.AOk
  have np := R.notIn n
  have kp : Keep (Av F.A0 os) (Av (Ad F.A0 p) os) H (upd H p o) := fun b u e nb => ⟨by rw [upd_ne (ne_of_none e n)]; exact e, fun z => by
    rcases z with (z | z) | z
    · exact nb (.inl z)
    · rw [z, n] at e
      cases e
    · exact nb (.inr z)⟩
  refine ⟨R.lens, R.leno, fun i s v u e1 e2 e3 => (R.slot i s v u e1 e2 e3).keep kp ak fun a z => ?_, R.inj, fun i a e z => ?_, fun a z => ?_, fun b u e nb => ?_, R.new⟩
  · subst z
    refine upd_ne fun z => np (.inr ?_)
    rw [← z]
    exact List.mem_of_getElem? e3
  · rcases z with z | z
    · exact R.out i a e z
    · refine np (.inr ?_)
      rw [← z]
      exact List.mem_of_getElem? e
  · rcases z with z | z
    · obtain ⟨u, h1, h2⟩ := R.aok a z
      exact ⟨u, by rw [upd_ne (ne_of_none h1 n)]; exact h1, h2⟩
    · exact ⟨o, by rw [z, upd_same], ho⟩
  · have h1 := R.same b u e nb
    rw [upd_ne (ne_of_none h1 n)]
    exact h1
/-- what nobody holds changes -/
theorem Rel.updA (R : Rel K F os r σ H) {p : Addr} {o : HO} (hp : F.A0 p) (ho : isT o = false) (n : F.H0 p = none ∨ F.io p) : Rel K F os r σ (upd H p o) ∧ Keep (Av F.A0 os) (Av F.A0 os) H (upd H p o) := by
  have ak := R.AOk
  have kp : Keep (Av F.A0 os) (Av F.A0 os) H (upd H p o) := fun b u e nb => ⟨by rw [upd_ne (fun z => nb (.inl (by rw [z]; exact hp)))]; exact e, nb⟩
  refine ⟨⟨R.lens, R.leno, fun i s v u e1 e2 e3 => (R.slot i s v u e1 e2 e3).keep kp ak fun a z => ?_, R.inj, R.out, fun a z => ?_, fun b u e nb => ?_, R.new⟩, kp⟩
  · subst z
    exact upd_ne fun z => R.out i a e3 (by rw [z]; exact hp)
  · by_cases e : a = p
    · subst e
      exact ⟨o, upd_same, ho⟩
    · rw [upd_ne e]
      exact R.aok a z
  · have h1 := R.same b u e nb
    rw [upd_ne (fun z => by
      subst z
      rcases n with n | n
      · rw [n] at e
        cases e
      · exact nb n)]
    exact h1
theorem Rel.wipe (R : Rel K F os r σ H) : ∀ (vs : List Nat), (∀ v ∈ vs, ∀ (s : Slot) (d : D), r[v]? = some s → s.cont ≠ some d) → Rel K F os (wipeE r vs) (L2.wipe σ vs) H
  | [], _ => R
  | v :: vs, hv => by
    have R1 := Rel.wipe R vs fun u hu => hv u (List.mem_cons_of_mem _ hu)
    have hvo : ∀ a, os[v]? ≠ some (some a) := fun a e => by
      obtain ⟨s, d, e1, e2, _⟩ := R.own e
      exact hv v (List.mem_cons_self ..) s d e1 e2
    show Rel K F os ((wipeE r vs).set v .un) ((L2.wipe σ vs).set v none) H
    refine ⟨by simp [R1.lens], by simp [R1.leno], fun i s u o e1 e2 e3 => ?_, R1.inj, R1.out, R1.aok, R1.same, R1.new⟩
    rcases getElem?_set_cases e1 with ⟨e, z1⟩ | ⟨e, e1⟩
    · subst e
      subst z1
      show o = none
      cases o with
      | none => rfl
      | some a => exact absurd e3 (hvo a)
    · rw [List.getElem?_set_ne e] at e2
      exact R1.slot i s u o e1 e2 e3
end
theorem wipe_get {σ : St} {vs : List Nat} {i : Nat} : i ∉ vs → (L2.wipe σ vs)[i]? = σ[i]? := by
  induction vs with
  | nil => intro _; rfl
  | cons v vs ih =>
    intro h
    rw [List.mem_cons, not_or] at h
    unfold L2.wipe
    rw [List.getElem?_set_ne (Ne.symm h.1)]
    exact ih h.2
theorem wipe_in {σ : St} {vs : List Nat} {i : Nat} : i ∈ vs → i < σ.length → (L2.wipe σ vs)[i]? = some none := by
  induction vs with
  | nil => intro h; simp at h
  | cons v vs ih =>
    intro h hl
    unfold L2.wipe
    by_cases e : v = i
    · subst e
      rw [List.getElem?_set_self (by rw [L2.wipe_length]; exact hl)]
    · rw [List.getElem?_set_ne e]
      rcases List.mem_cons.mp h with z | z
      · exact absurd z.symm e
      · exact ih z hl
theorem wipe_off {σ σ2 : St} {o o2 : List (Option Addr)} {vs ks : List Nat} (h : Off ks (L2.wipe σ vs) σ2 o o2) (hk : ∀ k ∈ ks, k ∈ vs) : L2.wipe σ2 vs = L2.wipe σ vs := by
  have hl : σ2.length = σ.length := by rw [h.1, L2.wipe_length]
  refine List.ext_getElem? fun i => ?_
  by_cases hi : i ∈ vs
  · by_cases hn : i < σ.length
    · rw [wipe_in hi hn, wipe_in hi (by omega)]
    · rw [List.getElem?_eq_none (by rw [L2.wipe_length]; omega), List.getElem?_eq_none (by rw [L2.wipe_length]; omega)]
  · rw [wipe_get hi, (h.2 i (fun z => hi (hk i z))).1]
@[simp] def isOwn : Option Slot → Bool
  | some (.own _) => true
  | some (.io _) => true
  | _ => false
def noOwn (vs : List Nat) (r : Env) : Bool := vs.all fun v => !isOwn r[v]?
theorem noOwn_ok {vs : List Nat} {r : Env} (h : noOwn vs r = true) : ∀ v ∈ vs, ∀ (s : Slot) (d : D), r[v]? = some s → s.cont ≠ some d := fun v hm s d e z => by
  have := List.all_eq_true.mp h v hm
  rw [e] at this
  cases s with
  | own _ => cases this
  | io _ => cases this
  | _ => cases z
theorem wipeE_un {r : Env} {vs : List Nat} {i : Nat} (h : i ∈ vs) : ∀ (s : Slot) (d : D), (wipeE r vs)[i]? = some s → s.cont ≠ some d := by
  induction vs with
  | nil => simp at h
  | cons v vs ih =>
    intro s d e
    unfold wipeE at e
    rcases getElem?_set_cases e with ⟨_, z⟩ | ⟨ne, e⟩
    · subst z
      exact fun z => nomatch z
    · rcases List.mem_cons.mp h with z | z
      · exact absurd z.symm ne
      · exact ih z s d e
theorem av_ad {A0 : Addr → Prop} {os : List (Option Addr)} {p : Addr} {H : Hp} : Keep (Av (Ad A0 p) os) (Ad (Av A0 os) p) H H := fun b o e n => ⟨e, fun z => n (by
  rcases z with (z | z) | z
  · exact .inl (.inl z)
  · exact .inr z
  · exact .inl (.inr z))⟩
/-- one turn of a comprehension's block, for both forms -/
def lcD (own : List (Str × Nat)) (h : Env → R (List D)) (g : D → Env → R Env) (c : Env → R Bool) (f : Env → R D) : Env → R D := fun r => if noOwn (own.map (·.2)) r = true then lcV (own.map (·.2)) h g c f r else .stk
theorem lc_snd {X : Cx} {W : WX} {own : List (Str × Nat)} {ks : List Nat} {h : Env → R (List D)} {g : D → Env → R Env} {c : Env → R Bool} {f : Env → R D}
    (hk : ∀ k ∈ ks, k ∈ own.map (·.2)) (F : Fm) (os : List (Option Addr)) (r : Env) (σ : St) (H : Hp) (Q : VK) (R : Rel X.K F os r σ H)
    (S : Sat (fun d => ∀ p H', Same H H' → H p = none → RepO X.K H' (Ad (Av F.A0 os) p) d p → Q (.ref p) H') (Er X W F) (lcD own h g c f r)) :
    tLc (cIp X.K X.mg W h) (cG X.K X.mg WF ks g) (cTp X.K X.mg WF c) (cP X.K X.mg WF f) (own.map (·.2)) σ H Q := by
  unfold lcD at S
  by_cases hv : noOwn (own.map (·.2)) r = true
  · rw [if_pos hv] at S
    have hv' := noOwn_ok hv
    refine ⟨F, os, r, R, Sat.mono (p := fun items => Sat (fun d => ∀ p H', Same H H' → H p = none → RepO X.K H' (Ad (Av F.A0 os) p) d p → Q (.ref p) H') (Er X W F)
      (if items.length ≤ sizeLine then (lcP g c f (wipeE r (own.map (·.2))) items).bind fun ds => .ok (.lst ds) else .stk)) S.bind (fun items S2 => ?_) (fun _ _ z => z)⟩
    intro J H1 G src s1 g1 D hD
    by_cases hl : items.length ≤ sizeLine
    · rw [if_pos hl] at S2
      have R1 := R.same' s1
      have nD : ¬ Av F.A0 os D := R1.notIn hD
      have hDH : H D = none := s1.free hD
      have F0 : F.H0 D = none ∨ F.io D := by
        by_cases hio : F.io D
        · exact .inr hio
        · cases q : F.H0 D with
          | none => exact .inl rfl
          | some o =>
            have := R1.same D o q hio
            rw [hD] at this
            cases this
      have R2 : Rel X.K ⟨Ad F.A0 D, F.H0, F.io⟩ os (wipeE r (own.map (·.2))) (L2.wipe σ (own.map (·.2))) (upd H1 D (.lst [])) := (R1.ext (p := D) (o := .lst []) hD rfl).wipe _ hv'
      have kp0 : Keep (Av F.A0 os) (Av (Ad F.A0 D) os) H1 (upd H1 D (.lst [])) := fun b u e nb => ⟨by rw [upd_ne (ne_of_none e hD)]; exact e, fun z => by
        rcases z with (z | z) | z
        · exact nb (.inl z)
        · rw [z, hD] at e
          cases e
        · exact nb (.inr z)⟩
      have g2 : G (Av (Ad F.A0 D) os) (upd H1 D (.lst [])) := src.keep _ _ _ _ R1.AOk kp0 g1
      have wk : Walk J items.length (fun H => ∃ A, AOk A H ∧ G A H) (fun i H x H' => i < items.length ∧ J.yld i H x H') :=
        ⟨fun i H hi ⟨A, ak, h⟩ => src.goes A i H ak hi h, fun H ⟨A, ak, h⟩ => src.stops A H ak h, fun i H x H' hi _ y => ⟨hi, y⟩⟩
      refine lc_it wk (fun i H' => ∃ acc vacc, Rel X.K ⟨Ad F.A0 D, F.H0, F.io⟩ os (wipeE r (own.map (·.2))) (L2.wipe σ (own.map (·.2))) H' ∧ H' D = some (.lst vacc) ∧ RepL X.K H' (Av (Ad F.A0 D) os) acc vacc ∧ G (Av (Ad F.A0 D) os) H' ∧ Same H H' ∧ acc.length ≤ i ∧
        Sat (fun ds => ∀ p H', Same H H' → H p = none → RepO X.K H' (Ad (Av F.A0 os) p) (.lst (acc ++ ds)) p → Q (.ref p) H') (fun _ _ => False) (lcP g c f (wipeE r (own.map (·.2))) (items.drop i)))
        ⟨[], [], R2, upd_same, by unfold RepL; rfl, g2, s1.trans (same_upd hD), Nat.le_refl _, ?_⟩ ?_ ?_ ?_
      · have : ∀ {rr : DL.R (List DL.D)}, Sat (fun d => ∀ p H', Same H H' → H p = none → RepO X.K H' (Ad (Av F.A0 os) p) d p → Q (.ref p) H') (Er X W F) (rr.bind fun ds => .ok (.lst ds)) → (∀ x e, rr ≠ .err x e) →
            Sat (fun ds => ∀ p H', Same H H' → H p = none → RepO X.K H' (Ad (Av F.A0 os) p) (.lst ([] ++ ds)) p → Q (.ref p) H') (fun _ _ => False) rr := by
          intro rr z ne
          cases rr with
          | ok ds => exact z
          | err x e => exact absurd rfl (ne x e)
          | stk => exact z
        refine this S2 ?_
        have noerr : ∀ (r0 : Env) (l : List DL.D) x e, lcP g c f r0 l ≠ .err x e := by
          intro r0 l
          induction l with
          | nil => intro x e z; cases z
          | cons y l ih =>
            intro x e z
            unfold lcP at z
            cases q1 : g y r0 with
            | err _ _ => rw [q1] at z; cases z
            | stk => rw [q1] at z; cases z
            | ok r1 =>
              rw [q1] at z
              simp only [DL.R.ne, DL.R.bind] at z
              cases q2 : c r1 with
              | err _ _ => rw [q2] at z; cases z
              | stk => rw [q2] at z; cases z
              | ok b =>
                rw [q2] at z
                simp only [DL.R.bind] at z
                cases b with
                | false =>
                  simp only [Bool.false_eq_true, if_false] at z
                  exact ih x e z
                | true =>
                  simp only [if_true] at z
                  cases q3 : f r1 with
                  | err _ _ => rw [q3] at z; cases z
                  | stk => rw [q3] at z; cases z
                  | ok d =>
                    rw [q3] at z
                    simp only [DL.R.bind] at z
                    cases q4 : lcP g c f r0 l with
                    | err x' e' => exact absurd q4 (ih x' e')
                    | stk => rw [q4] at z; cases z
                    | ok ds => rw [q4] at z; cases z
        exact noerr _ _
      · rintro i H' hi ⟨acc, vacc, R', _, _, g', _⟩
        exact ⟨_, R'.AOk, g'⟩
      · rintro i x H2 H3 hi ⟨acc, vacc, R', hDa, hacc, g', sm, hlen, S'⟩ ⟨_, y⟩
        obtain ⟨s3, d, ed, hd⟩ := src.yields _ i H2 x H3 R'.AOk hi g' y
        have ei : items.drop i = d :: items.drop (i + 1) := by
          rw [List.drop_eq_getElem_cons hi]
          rw [List.getElem?_eq_getElem hi] at ed
          cases ed
          rfl
        rw [ei] at S'
        unfold lcP at S'
        have R3 := R'.same' s3
        have g3 := src.keep _ _ _ _ R'.AOk (Keep.of s3) g'
        have hacc3 := hacc.same s3 R'.AOk
        refine ⟨_, os, _, d, R3, hd, (Sat.neB S').imp fun r4 S4 os4 σ4 H4 R4 k4 s4 o4 => ⟨wipe_off o4 hk, _, os4, r4, R4, (Sat.neB S4).imp fun b S5 H5 s5 => ?_⟩⟩
        have R5 := R4.same' s5
        have sm5 : Same H H5 := ((sm.trans s3).trans s4).trans s5
        have s35 : Same H3 H5 := s4.trans s5
        have R35 := R3.same' s35
        have hD5 : H5 D = some (.lst vacc) := s35 _ _ (s3 _ _ hDa)
        have hacc5 := hacc3.same s35 R3.AOk
        have g5 := src.keep _ _ _ _ R3.AOk (Keep.of s35) g3
        cases b with
        | false =>
          simp only [Bool.false_eq_true, if_false] at S5 ⊢
          exact ⟨acc, vacc, R35, hD5, hacc5, g5, sm5, Nat.le_succ_of_le hlen, S5⟩
        | true =>
          simp only [if_true] at S5 ⊢
          refine ⟨_, os4, r4, R5, (Sat.neB S5).imp fun dd S6 v H6 s6 h6 => ?_⟩
          have s36 : Same H3 H6 := s35.trans s6
          have R36 := R3.same' s36
          have hD6 : H6 D = some (.lst vacc) := s6 _ _ hD5
          have hacc6 := hacc3.same s36 R3.AOk
          have g6 := src.keep _ _ _ _ R3.AOk (Keep.of s36) g3
          have hdd : Rep X.K H6 (Av (Ad F.A0 D) os) dd v := by
            have kk : Keep (Av (Ad F.A0 D) os4) (Av (Ad F.A0 D) os) H6 H6 := fun b u e nb => ⟨e, fun z => nb (by
              rcases z with z | z
              · exact .inl z
              · obtain ⟨j, hj, ej⟩ := List.getElem_of_mem z
                have ej' : os[j]? = some (some b) := by rw [List.getElem?_eq_getElem hj, ej]
                have nk : j ∉ ks := fun hjk => by
                  obtain ⟨s0, d0, e0, e0', _⟩ := R'.own ej'
                  exact wipeE_un (hk j hjk) s0 d0 e0 e0'
                exact .inr (List.mem_of_getElem? (((o4.2 j nk).2).trans ej')))⟩
            exact Rep.keep kk (R5.same' s6).AOk _ _ h6
          obtain ⟨R7, k7⟩ := R36.updA (p := D) (o := .lst (vacc ++ [v])) (.inr rfl) rfl F0
          refine ⟨vacc, hD6, ?_, acc ++ [dd], vacc ++ [v], R7, upd_same, ?_, src.keep _ _ _ _ R36.AOk k7 g6, ?_, ?_, ?_⟩
          · rw [repL_length hacc6]
            omega
          · exact RepL.keep k7 R36.AOk _ _ (repL_append hacc6 (by unfold RepL; exact ⟨v, [], rfl, hdd, by unfold RepL; rfl⟩))
          · intro b u e
            rw [upd_ne (fun z => by rw [z, hDH] at e; cases e)]
            exact s6 _ _ (sm5 _ _ e)
          · rw [List.length_append, List.length_singleton]
            omega
          · refine (Sat.mono (p := fun ds => ∀ p H', Same H H' → H p = none → RepO X.K H' (Ad (Av F.A0 os) p) (.lst (acc ++ (dd :: ds))) p → Q (.ref p) H') (q := fun _ _ => False) ?_ (fun ds z => ?_) fun _ _ z => z)
            · cases q : lcP g c f (wipeE r (own.map (·.2))) (items.drop (i + 1)) with
              | ok ds => rw [q] at S6; exact S6
              | err x e => rw [q] at S6; exact S6
              | stk => rw [q] at S6; exact S6
            · have e : acc ++ [dd] ++ ds = acc ++ dd :: ds := by simp
              rw [e]
              exact z
      · rintro H' ⟨acc, vacc, R', hDa, hacc, g', sm, hlen, S'⟩
        rw [List.drop_length] at S'
        refine S' D H' sm hDH ⟨vacc, hDa, ?_⟩
        rw [List.append_nil]
        exact RepL.keep av_ad R'.AOk _ _ hacc
    · rw [if_neg hl] at S2
      exact S2.elim
  · rw [if_neg hv] at S
    exact S.elim
section
variable {X : Cx} {W : WX} {elt tg iter : Expr} {ifs : List Expr} {scope : Scope} {own : List (Str × Nat)} {pos : Pos} {ks : List Nat} {h : Env → R (List D)} {g : D → Env → R Env} {c : Env → R Bool} {f : Env → R D}
theorem d_lc (hc : X.calm = true) (hN : X.N.Nodup) (hi : DIp X W tg iter h) (ok : BlkOk X.N X.env.scope scope own)
    (hg : ∀ (s : Shared) (H : Hp) (C : Addr) (cl : List (Str × Addr)) (fp : List Addr), DG (X.blk s H scope (compEnvC scope cl C X.env) fp) WF ks tg g)
    (ht : ∀ (s : Shared) (H : Hp) (C : Addr) (cl : List (Str × Addr)) (fp : List Addr), DC (X.blk s H scope (compEnvC scope cl C X.env) fp) WF ifs c)
    (he : ∀ (s : Shared) (H : Hp) (C : Addr) (cl : List (Str × Addr)) (fp : List Addr), DP (X.blk s H scope (compEnvC scope cl C X.env) fp) WF elt f)
    (hk : ∀ k ∈ ks, k ∈ own.map (·.2) := by decide) (hs : ∀ x, foldedSetIterable iter X.env x = pure x := by intro _; rfl) : DF X W (.ListComp elt [⟨tg, iter, ifs, 0⟩] scope pos) (lcD own h g c f) :=
  ⟨_, pe_lc hc hN hi.can ok (fun s H C cl fp => (hg s H C cl fp).can) (fun s H C cl fp => (ht s H C cl fp).can) (fun s H C cl fp => (he s H C cl fp).can) hs, fun F os r σ H Q R S => lc_snd hk F os r σ H Q R S⟩
variable {y : Str} {py spos : Pos}
theorem s_setLc (i : Nat) (hc : X.calm = true) (hN : X.N.Nodup) (hi : DIp X W tg iter h) (ok : BlkOk X.N X.env.scope scope own)
    (hg : ∀ (s : Shared) (H : Hp) (C : Addr) (cl : List (Str × Addr)) (fp : List Addr), DG (X.blk s H scope (compEnvC scope cl C X.env) fp) WF ks tg g)
    (ht : ∀ (s : Shared) (H : Hp) (C : Addr) (cl : List (Str × Addr)) (fp : List Addr), DC (X.blk s H scope (compEnvC scope cl C X.env) fp) WF ifs c)
    (he : ∀ (s : Shared) (H : Hp) (C : Addr) (cl : List (Str × Addr)) (fp : List Addr), DP (X.blk s H scope (compEnvC scope cl C X.env) fp) WF elt f)
    (hy : X.N[i]? = some y := by rfl) (hyl : X.env.scope.names.lookup y = some .local := by rfl) (hsw : swapsWith (.ListComp elt [⟨tg, iter, ifs, 0⟩] scope pos) (some (.Name y py)) spos.line X.env = pure true := by rfl)
    (hk : ∀ k ∈ ks, k ∈ own.map (·.2) := by decide) (hs : ∀ x, foldedSetIterable iter X.env x = pure x := by intro _; rfl) : DS X W (.Assign [.Name y py] (.ListComp elt [⟨tg, iter, ifs, 0⟩] scope pos) spos) (setS i (withEnv (lcD own h g c f))) := by
  refine ⟨_, ps_setLc (i := i) hc hN hy hyl hsw hi.can ok (fun s H C cl fp => (hg s H C cl fp).can) (fun s H C cl fp => (ht s H C cl fp).can) (fun s H C cl fp => (he s H C cl fp).can) hs, fun F os r σ H D R S => lc_snd hk F os r σ H _ R ?_⟩
  refine S.bind.bind.imp fun q S p H1 s1 n1 h1 => ?_
  have R1 := R.same' s1
  have rp : Rep X.K H1 (Av F.A0 os) q (.ref p) := repO_rep h1 ad_keep (ad_ok R.AOk s1 h1) (R.notIn n1)
  obtain ⟨R2, k2⟩ := R1.setSh (i := i) rp
  exact S _ _ _ R2 ((Keep.of s1).trans k2)
end
end DL

end
section
namespace DL
open PySem L2

/-! ### a def by its body -/
def ini (n : Nat) (ds : List D) : Env := ds.map Slot.sh ++ List.replicate (n - ds.length) .un
/-- what a body's end is worth -/
@[simp] def Fl.val : Fl → R D
  | .rt d _ => .ok d
  | .nx _ => .ok .non
  | _ => .stk
/-- the def as a function of data: N slots, n parameters -/
def fnD (N n : Nat) (f : Env → R Fl) : List D → R D := fun ds => if ds.length = n then (f (ini N ds)).bind Fl.val else .stk
section
variable {P : Program} {w : World} {K : PySem.W.Frag} {mg : Str → Option Value} {base : Heap} {x qual : Str} {params : Arguments} {body : List Stmt} {scope : Scope} {f : Addr} {fd : FuncData}
theorem rel_start {N : List Str} {A : Addr → Prop} {ds : List D} {vs : List V} {H : Hp} (ak : AOk A H) (h : RepL K H A ds vs) (hn : ds.length ≤ N.length) :
    Rel K ⟨A, H, fun _ => False⟩ (List.replicate N.length none) (ini N.length ds) (L2.start N vs) H := by
  have hl := repL_length h
  have nos : ∀ (i : Nat) (a : Addr), (List.replicate N.length (none : Option Addr))[i]? ≠ some (some a) := fun i a e => by
    rw [List.getElem?_replicate] at e
    split at e
    · cases e
    · cases e
  refine ⟨?_, ?_, fun i s v o e1 e2 e3 => ?_, fun i j a e => absurd e (nos i a), fun i a e => absurd e (nos i a), ak, fun b o e _ => e, fun i a e => absurd e (nos i a)⟩
  · simp [L2.start, ini, hl]
  · simp only [List.length_replicate, ini, List.length_append, List.length_map]
    omega
  · have eo : o = none := by
      rw [List.getElem?_replicate] at e3
      split at e3
      · cases e3; rfl
      · cases e3
    subst eo
    unfold ini at e1
    by_cases hi : i < ds.length
    · rw [List.getElem?_append_left (by simpa using hi), List.getElem?_map] at e1
      rw [List.getElem?_eq_getElem hi] at e1
      cases e1
      obtain ⟨u, h1, h2⟩ := repL_get h (List.getElem?_eq_getElem hi)
      unfold L2.start at e2
      have hi2 : i < vs.length := by omega
      rw [List.getElem?_append_left (by simpa using hi2), List.getElem?_map, h1] at e2
      cases e2
      refine ⟨rfl, u, rfl, Rep.keep (fun b o e nb => ⟨e, fun z => nb ?_⟩) ak _ _ h2⟩
      rcases z with z | z
      · exact z
      · exact absurd z (by simp [List.mem_replicate])
    · rw [List.getElem?_append_right (by simpa using hi)] at e1
      rw [List.getElem?_replicate] at e1
      split at e1
      · cases e1; rfl
      · cases e1
/-- THE RULE for a def of data -/
theorem fn_ok {N ps : List Str} {k : Nat} {dvs : List V} {kws : List (Str × V)} {b : Env → R Fl} (F : FunD K x qual params body scope dvs kws f fd) (S : FnScope N ps scope) (hp : ps.length ≤ N.length)
    (hb : ∀ (cdv : Value) (A : Around) (outer : List PySem.Env) (s : Shared) (H : Hp) (E : XK), Room k (A.deeper (PyProof.Rows.envOfC qual scope s.heap.objs.size f cdv)) →
      DSs (cxOf (L2.CX P w) P w K mg base N qual scope f cdv A outer s H E) (fun cls d _ H' => E cls d H') body b) :
    FnOk P w K mg base (L2.CX P w) (k + 1) f fd ps (SpF K mg ps.length (fnD N.length ps.length b)) := by
  refine F.ok S (fun vs H Q E h => h.1) fun cdv A outer s H vs Q E hr h => ?_
  obtain ⟨hl, A0, ds, ak, rp, S1⟩ := h
  obtain ⟨t, pt, wt⟩ := hb cdv A outer s H E hr
  refine ⟨t, pt, ?_⟩
  have hd : ds.length = ps.length := by rw [← repL_length rp]; exact hl
  have S2 : Sat (fun d => ∀ v H', Same H H' → Rep K H' A0 d v → Q v H') (fun x _ => ∀ cls dd H', Same H H' → XRep K mg H' x cls dd → E cls dd H') ((b (ini N.length ds)).bind Fl.val) := by
    unfold fnD at S1
    rw [if_pos hd] at S1
    exact S1
  have R0 : Rel K ⟨A0, H, fun _ => False⟩ (List.replicate N.length none) (ini N.length ds) (L2.start N vs) H := rel_start ak rp (by omega)
  refine wt ⟨A0, H, fun _ => False⟩ _ _ _ H _ R0 (S2.bind.mono (fun fl S3 => ?_) fun x r S3 => ?_)
  · have sm : ∀ {os' r' σ' H'}, Rel K ⟨A0, H, fun _ => False⟩ os' r' σ' H' → Same H H' := fun R b o e => R.same b o e fun z => z
    cases fl with
    | nx r => exact fun os' σ' H' R' k' => S3 .non H' (sm R') rep_non
    | rt d r => exact fun os' v σ' H' R' h' => S3 v H' (sm R') (Rep.keep (fun b o e nb => ⟨e, fun z => nb (.inl z)⟩) R'.AOk _ _ h')
    | bk r => exact S3.elim
    | ct r => exact S3.elim
  · exact fun os σ cls dd H' R' xr => S3 cls dd H' (fun b o e => R'.same b o e fun z => z) xr
/-- the def as a function of data whose first argument is a list that it changes -/
def fnIO (N n : Nat) (f : Env → R Fl) : List D → List D → R (D × List D) := fun row ds => if ds.length = n then (f (.io (.lst row) :: ini (N - 1) ds)).bind fun fl => match fl with
  | .rt d (.io (.lst row') :: _) => .ok (d, row')
  | .nx (.io (.lst row') :: _) => .ok (.non, row')
  | _ => .stk else .stk
theorem fnio_ok {N ps : List Str} {p : Str} {k : Nat} {dvs : List V} {kws : List (Str × V)} {b : Env → R Fl} (F : FunD K x qual params body scope dvs kws f fd) (S : FnScope N (p :: ps) scope) (hp : ps.length + 1 ≤ N.length)
    (hb : ∀ (cdv : Value) (A : Around) (outer : List PySem.Env) (s : Shared) (H : Hp) (E : XK), Room k (A.deeper (PyProof.Rows.envOfC qual scope s.heap.objs.size f cdv)) →
      DSs (cxOf (L2.CX P w) P w K mg base N qual scope f cdv A outer s H E) (fun cls d _ H' => E cls d H') body b) :
    FnOk P w K mg base (L2.CX P w) (k + 1) f fd (p :: ps) (SpIO K ps.length (fnIO N.length ps.length b)) := by
  refine F.ok S (fun vs H Q E h => ?_) fun cdv A outer s H vs Q E hr h => ?_
  · obtain ⟨_, _, _, rest, _, _, rfl, hl, _⟩ := h
    rw [List.length_cons, List.length_cons, hl]
  obtain ⟨A0, a, xs, rest, row, ds, rfl, hl, hx, inA, ak, rrow, rp, S1⟩ := h
  obtain ⟨t, pt, wt⟩ := hb cdv A outer s H E hr
  refine ⟨t, pt, ?_⟩
  have hd : ds.length = ps.length := by rw [← repL_length rp]; exact hl
  have S2 := S1
  unfold fnIO at S2
  rw [if_pos hd] at S2
  let A1 : Addr → Prop := fun c => A0 c ∧ c ≠ a
  have avA : ∀ c, Av A1 (some a :: List.replicate (N.length - 1) none) c ↔ A0 c := fun c => by
    constructor
    · intro z
      rcases z with z | z
      · exact z.1
      · rcases List.mem_cons.mp z with z | z
        · cases z; exact inA
        · simp [List.mem_replicate] at z
    · intro z
      by_cases e : c = a
      · exact .inr (by rw [e]; exact List.mem_cons_self ..)
      · exact .inl ⟨z, e⟩
  have kp : Keep A0 (Av A1 (some a :: List.replicate (N.length - 1) none)) H H := fun c o e n => ⟨e, fun z => n ((avA c).mp z)⟩
  have R0 : Rel K ⟨A1, H, fun c => c = a⟩ (some a :: List.replicate (N.length - 1) none) (.io (.lst row) :: ini (N.length - 1) ds) (L2.start N (.ref a :: rest)) H := by
    have nos : ∀ (i : Nat) (c : Addr), (List.replicate (N.length - 1) (none : Option Addr))[i]? ≠ some (some c) := fun i c e => by
      rw [List.getElem?_replicate] at e
      split at e
      · cases e
      · cases e
    have only : ∀ (i : Nat) (c : Addr), (some a :: List.replicate (N.length - 1) (none : Option Addr))[i]? = some (some c) → i = 0 ∧ c = a := fun i c e => by
      cases i with
      | zero => cases e; exact ⟨rfl, rfl⟩
      | succ i => exact absurd (by simpa using e) (nos i c)
    have hr0 := repL_length rp
    refine ⟨?_, ?_, fun i s v o e1 e2 e3 => ?_, fun i j c e1 e2 => ?_, fun i c e z => ?_, fun c z => ak c z.1, fun c o e n => e, fun i c e => .inr (only i c e).2⟩
    · simp [L2.start, ini, hl, hd]
      omega
    · simp only [List.length_cons, List.length_replicate, ini, List.length_append, List.length_map]
      omega
    · cases i with
      | zero =>
        cases e1
        cases e3
        have e4 : v = some (.ref a) := by
          unfold L2.start at e2
          simpa using e2.symm
        subst e4
        exact ⟨a, rfl, rfl, ⟨xs, hx, RepL.keep kp ak _ _ rrow⟩, rfl⟩
      | succ i =>
        have eo : o = none := by
          have e3' : (List.replicate (N.length - 1) (none : Option Addr))[i]? = some o := by simpa using e3
          rw [List.getElem?_replicate] at e3'
          split at e3'
          · cases e3'; rfl
          · cases e3'
        subst eo
        have e1' : (ini (N.length - 1) ds)[i]? = some s := by simpa using e1
        unfold ini at e1'
        by_cases hi : i < ds.length
        · rw [List.getElem?_append_left (by simpa using hi), List.getElem?_map, List.getElem?_eq_getElem hi] at e1'
          cases e1'
          obtain ⟨u, h1, h2⟩ := repL_get rp (List.getElem?_eq_getElem hi)
          have e2' : v = some u := by
            unfold L2.start at e2
            have hi2 : i < rest.length := by omega
            rw [List.map_cons, List.cons_append, List.getElem?_cons_succ, List.getElem?_append_left (by simpa using hi2), List.getElem?_map, h1] at e2
            cases e2
            rfl
          subst e2'
          exact ⟨rfl, u, rfl, Rep.keep kp ak _ _ h2⟩
        · rw [List.getElem?_append_right (by simpa using hi), List.getElem?_replicate] at e1'
          split at e1'
          · cases e1'; rfl
          · cases e1'
    · rw [(only i c e1).1, (only j c e2).1]
    · exact z.2 (only i c e).2
  refine wt ⟨A1, H, fun c => c = a⟩ _ _ _ H _ R0 (S2.bind.mono (fun fl S3 => ?_) fun x r S3 => S3.elim)
  have fin : ∀ {os' r' σ' H' row'} {d : D} {v : V}, Rel K ⟨A1, H, fun c => c = a⟩ os' (.io (.lst row') :: r') σ' H' → Rep K H' (Av A1 os') d v → (∀ v H' xs', But a H H' → H' a = some (.lst xs') → RepL K H' A0 row' xs' → Rep K H' A0 d v → Q v H') → Q v H' := by
    intro os' r' σ' H' row' d v R' h' q
    obtain ⟨v0, o0, e1, e2, a', z1, z2, ⟨xs', hx', hr'⟩, z3⟩ := R'.get (i := 0) (s := .io (.lst row')) rfl
    have z4 : a' = a := z3
    subst z4
    subst z1
    have kk : Keep (Av A1 os') A0 H' H' := fun b o e nb => ⟨e, fun z => nb (by
      by_cases eb : b = a'
      · rw [eb]
        exact .inr (List.mem_of_getElem? e2)
      · exact .inl ⟨z, eb⟩)⟩
    exact q v H' xs' (fun b o e nb => R'.same b o e nb) hx' (RepL.keep kk R'.AOk _ _ hr') (Rep.keep kk R'.AOk _ _ h')
  cases fl with
  | nx r =>
    match r, S3 with
    | .io (.lst row') :: r', S3 => exact fun os' σ' H' R' k' => fin (d := .non) R' rep_non S3
  | rt d r =>
    match r, S3 with
    | .io (.lst row') :: r', S3 => exact fun os' v σ' H' R' h' => fin R' h' S3
  | bk r => exact S3.elim
  | ct r => exact S3.elim
end
end DL

end
section
namespace DL
open PySem L2

/-! ### things that are drawn from: lists, tuples, texts -/
inductive Zs where
  | l (a : Addr) | t (a : Addr) | s (x : Str)
def Zs.val : Zs → V
  | .l a => .ref a
  | .t a => .ref a
  | .s x => .str x
def Zs.fp : Zs → List Addr
  | .l a => [a]
  | .t a => [a]
  | .s _ => []
def sgV (z : Str) : List V := z.cps.toList.map fun c => V.str ⟨#[c]⟩
def Zs.has (K : PySem.W.Frag) (H : Hp) : Zs → List V → Prop
  | .l a, xs => SqL K H a xs
  | .t a, xs => SqT K H a xs
  | .s x, xs => xs = sgV x
def Zs.st (it : Addr) (i : Nat) (h : Heap) : Zs → Prop
  | .l a => h.IsListIter it a i
  | .t a => h.IsTupleIter it a i
  | .s x => ∃ t, h.IsStrIter it (strIterType x) x t i
theorem Zs.obj {it : Addr} {i : Nat} {h : Heap} : ∀ {z : Zs}, z.st it i h → ∃ o, h.get? it = some o ∧ ∀ v, o.data ≠ .cell v
  | .l a, st => by
    obtain ⟨o, e, _, d⟩ := st
    exact ⟨o, e, fun v q => by rw [d] at q; cases q⟩
  | .t a, st => by
    obtain ⟨o, e, _, d⟩ := st
    exact ⟨o, e, fun v q => by rw [d] at q; cases q⟩
  | .s x, st => by
    obtain ⟨t, o, e, _, d⟩ := st
    exact ⟨o, e, fun v q => by rw [d] at q; cases q⟩
theorem Zs.kp {it : Addr} {i : Nat} {h h' : Heap} (k : ∀ o, h.get? it = some o → h'.get? it = some o) : ∀ {z : Zs}, z.st it i h → z.st it i h'
  | .l a, st => by
    obtain ⟨o, e, r⟩ := st
    exact ⟨o, k o e, r⟩
  | .t a, st => by
    obtain ⟨o, e, r⟩ := st
    exact ⟨o, k o e, r⟩
  | .s x, st => by
    obtain ⟨t, o, e, r⟩ := st
    exact ⟨t, o, k o e, r⟩
section
variable {X : Cx} {pins : List (Addr × Obj)} {σ : St} {H : Hp} {s : Shared}
theorem vals_at {xs : List V} {us : List Value} {i : Nat} {u : Value} (r : Vals xs us) (h : us[i]? = some u) : ∃ x, xs[i]? = some x ∧ RelV x u := by
  have hi : i < us.length := (List.getElem?_eq_some_iff.mp h).1
  have hx : xs[i]? = some (xs[i]'(by rw [r.length]; exact hi)) := List.getElem?_eq_getElem _
  obtain ⟨u', hu, ru⟩ := r.get hx
  rw [h] at hu
  cases hu
  exact ⟨_, hx, ru⟩
theorem Zs.inj (I : Inv X pins σ H s) : ∀ {z : Zs} {xs ys : List V}, z.has X.K H xs → z.has X.K H ys → xs = ys
  | .l _, _, _, h, h2 => I.list_inj h h2
  | .t _, _, _, h, h2 => I.tuple_inj h h2
  | .s _, _, _, h, h2 => h.trans h2.symm
theorem Zs.low (I : Inv X pins σ H s) : ∀ {z : Zs} {xs : List V}, z.has X.K H xs → ∀ b ∈ z.fp, b < s.heap.objs.size
  | .l a, xs, h, b, hb => by
    obtain ⟨its, _, p, _⟩ := I.list h
    cases List.mem_singleton.mp hb
    exact p.lt
  | .t a, xs, h, b, hb => by
    obtain ⟨its, _, ⟨o, ho, _⟩, _⟩ := I.tuple h
    cases List.mem_singleton.mp hb
    exact Heap.lt_size ho
  | .s _, _, _, b, hb => nomatch hb
theorem Zs.draws (I : Inv X pins σ H s) (hh : X.A.handled = none) {it : Addr} {i : Nat} : ∀ {z : Zs} {xs : List V}, z.has X.K H xs → it ∉ z.fp → z.st it i s.heap →
    ∃ P Q, Draws X.prog X.w X.A.in1 it (it :: z.fp) xs.length P Q ∧ Q i s.heap ∧ (∀ j h, Q j h → z.st it j h) ∧ ∀ j v, P j v → ∃ x, xs[j]? = some x ∧ RelV x v
  | .l a, xs, h, hn, st => by
    obtain ⟨its, r, p, _⟩ := I.list h
    have D := Draws.list (prog := X.prog) (w := X.w) (A := X.A.in1) hh it a (fun e => hn (List.mem_singleton.mpr e.symm)) its.toArray
    have e : its.toArray.size = xs.length := by rw [List.size_toArray, r.length]
    rw [e] at D
    exact ⟨_, _, D, ⟨st, p.isList⟩, fun j h q => q.1, fun j v q => vals_at r (by simpa using q)⟩
  | .t a, xs, h, hn, st => by
    obtain ⟨its, r, ⟨o, ho, p⟩, _⟩ := I.tuple h
    have D := Draws.tuple (prog := X.prog) (w := X.w) (A := X.A.in1) hh it a (fun e => hn (List.mem_singleton.mpr e.symm)) its.toArray
    have e : its.toArray.size = xs.length := by rw [List.size_toArray, r.length]
    rw [e] at D
    exact ⟨_, _, D, ⟨st, ⟨o, ho, p⟩⟩, fun j h q => q.1, fun j v q => vals_at r (by simpa using q)⟩
  | .s x, xs, h, hn, st => by
    obtain ⟨t, st⟩ := st
    cases h
    have D := Draws.text (prog := X.prog) (w := X.w) (A := X.A.in1) hh it x t
    have e : x.cps.size = (sgV x).length := by simp [sgV]
    rw [e] at D
    refine ⟨_, _, D, st, fun j h q => ⟨t, q⟩, fun j v q => ?_⟩
    obtain ⟨c, u, e1, e2⟩ := q
    subst e2
    refine ⟨.str ⟨#[c]⟩, ?_, u, rfl⟩
    unfold sgV
    rw [List.getElem?_map, Array.getElem?_toList, e1]
    rfl
theorem Zs.begins (I : Inv X pins σ H s) {u : Value} : ∀ {z : Zs} {xs : List V}, z.has X.K H xs → RelV z.val u → ∃ o Hh, Begins u o Hh ∧ Hh s.heap ∧ ∀ (h' : Heap) it, h'.get? it = some o → z.st it 0 h'
  | .l a, xs, h, r => by
    obtain ⟨its, _, p, _⟩ := I.list h
    cases r
    exact ⟨_, _, begins_list a its.toArray, p.isList, fun h' it e => ⟨_, e, rfl, rfl⟩⟩
  | .t a, xs, h, r => by
    obtain ⟨its, _, ⟨o, ho, p⟩, _⟩ := I.tuple h
    cases r
    exact ⟨_, _, begins_tuple a its.toArray, ⟨o, ho, p⟩, fun h' it e => ⟨_, e, rfl, rfl⟩⟩
  | .s x, xs, h, r => by
    obtain ⟨t, e⟩ := r
    subst e
    exact ⟨_, _, begins_text x t, trivial, fun h' it e => ⟨t, _, e, rfl, rfl⟩⟩
end

/-! ### what gives a new tuple at each turn -/
def ItR (has : Hp → List (List V) → Prop) : It :=
  ⟨fun i H => ∃ rows, has H rows ∧ i < rows.length, fun i H v H' => ∃ T row, v = .ref T ∧ H T = none ∧ H' = upd H T (.tup row) ∧ ∀ rows, has H rows → rows[i]? = some row, fun i H => ∃ rows, has H rows ∧ rows.length = i⟩
theorem turn_rows {P : Program} {w : World} {K : PySem.W.Frag} {elts : List Expr} {kk : Nat} {tpos : Pos} {has : Hp → List (List V) → Prop} {fp wr : List Addr} {it : Addr} {tn : Nat → Heap → Prop}
    (hm : it ∈ fp) (hwr : ∀ b ∈ wr, b ∈ fp) (hobj : ∀ i h, tn i h → ∀ b ∈ fp, ∃ o, h.get? b = some o ∧ ∀ v, o.data ≠ .cell v)
    (hkeep : ∀ i h h', tn i h → (∀ b ∈ fp, ∀ o, h.get? b = some o → h'.get? b = some o) → tn i h')
    (hself : ∀ (A : Around) (i : Nat) (s : Shared) (Q : Value → Shared → Prop) (E : Value → Shared → Prop), tn i s.heap → Q (.ref it) s → wpAny (model P w) A (pyIter (.ref it)) Q E s)
    (hW : ∀ (X : Cx), X.prog = P → X.w = w → X.K = K → X.calm = true → ∀ (i : Nat) (pins : List (Addr × Obj)) (s : Shared) (σ : St) (H : Hp), Inv X pins σ H s → tn i s.heap → ∀ rows, has H rows →
      ∃ fpw Pt Q Mid, WalksT X.prog X.w X.A it fpw wr rows.length Pt Q Mid ∧ Q i s.heap ∧ (∀ j h, Q j h → tn j h) ∧ ∀ j vals, Pt j vals → ∃ row, rows[j]? = some row ∧ Vals row vals.toList ∧ row.length ≤ 3)
    (hinj : ∀ (X : Cx), X.K = K → ∀ (pins : List (Addr × Obj)) (s : Shared) (σ : St) (H : Hp), Inv X pins σ H s → ∀ r1 r2, has H r1 → has H r2 → r1 = r2) : Turn P w K (.Tuple elts kk tpos) (ItR has) fp it tn where
  mem := hm
  obj := hobj
  keep := hkeep
  self := fun A i s Q E st h => hself A i s Q E st h
  item := by
    intro X hP hw hK hc i pins s σ H E I hf st hg
    obtain ⟨rows, hr, hlt⟩ := hg
    obtain ⟨fpw, Pt, Q, Mid, W, q0, down, vals⟩ := hW X hP hw hK hc i pins s σ H I st rows hr
    have hi := hinj X hK pins s σ H I
    subst hP hw hK
    refine W.item i s _ E hlt q0 fun T vs h' tk pt lT isT mid k1 => ⟨.ref T, rfl, W.go elts kk tpos i T _ _ E mid fun h2 q1 k2 => ?_⟩
    obtain ⟨row, e1, rv, l3⟩ := vals i vs pt
    obtain ⟨oT, g1, g2, g3⟩ := isT
    have g4 : h2.get? T = some oT := k2 T oT (W.apart i T h' mid) g1
    obtain ⟨nT, g5⟩ := g3
    have ot : ObjOk X.prog X.w (upd H T (.tup row)) h2 T (.tup row) := ⟨Nat.le_trans l3 (by decide), vs.toList, rv, ⟨oT, g4, g2, nT, by simpa using g5⟩⟩
    have I1 : Inv X pins σ (upd H T (.tup row)) { s with heap := h2, toks := tk } := I.turnedNew (ch := wr) (fun b o hb e => k2 b o hb (k1 b o hb e)) (fun b hb => hf b (hwr b hb)) lT ot
    refine ⟨.ref T, _, I1, rfl, ⟨T, row, rfl, I.hok.fresh lT, rfl, fun rows' h3 => ?_⟩, down _ _ q1, fun b hb => ?_⟩
    · rw [hi _ _ h3 hr]
      exact e1
    · obtain ⟨ob, hob, _⟩ := hobj i _ st b hb
      rw [upd_ne (Nat.ne_of_lt (Nat.lt_of_lt_of_le (Heap.lt_size hob) lT))]
      exact (hf b hb).1
  done := by
    intro X hP hw hK hc i pins s σ H E I hf st hg
    obtain ⟨rows, hr, hl⟩ := hg
    obtain ⟨fpw, Pt, Q, Mid, W, q0, down, vals⟩ := hW X hP hw hK hc i pins s σ H I st rows hr
    subst hP hw hK
    subst hl
    exact W.done s _ E q0 fun h' tk k => ⟨rfl, I.turnedL k fun b hb => hf b (hwr b hb)⟩

/-! ### zip of two -/
def has2 (K : PySem.W.Frag) (z1 z2 : Zs) (H : Hp) (rows : List (List V)) : Prop := ∃ xs ys, z1.has K H xs ∧ z2.has K H ys ∧ rows = List.zipWith (fun x y => [x, y]) xs ys
def tnZ2 (N : Addr) (z1 z2 : Zs) (i : Nat) (h : Heap) : Prop := IsZip h (N + 4) (N + 2) (N + 3) .none ∧ IsTupOf2 h (N + 2) (.ref N) (.ref (N + 1)) ∧ (∃ a b, IsTupOf2 h (N + 3) a b) ∧ z1.st N i h ∧ z2.st (N + 1) i h
theorem mem5 {b N : Addr} (h : b ∈ [N, N + 1, N + 2, N + 3, N + 4]) : b = N ∨ b = N + 1 ∨ b = N + 2 ∨ b = N + 3 ∨ b = N + 4 := by simpa using h
theorem turn_z2 {P : Program} {w : World} {K : PySem.W.Frag} {elts : List Expr} {kk : Nat} {tpos : Pos} {N : Addr} {z1 z2 : Zs} (l1 : ∀ b ∈ z1.fp, b < N) (l2 : ∀ b ∈ z2.fp, b < N) :
    Turn P w K (.Tuple elts kk tpos) (ItR (has2 K z1 z2)) [N, N + 1, N + 2, N + 3, N + 4] (N + 4) (tnZ2 N z1 z2) := by
  refine turn_rows (wr := [N + 4, N + 3, N, N + 1]) (by simp) (fun b hb => ?_) (fun i h st b hb => ?_) (fun i h h' st k => ?_) (fun A i s Q E st h => wpAny_pyIter_zip st.1 h) (fun X hP hw hK hc i pins s σ H I st rows hr => ?_) (fun X hK pins s σ H I r1 r2 h1 h2 => ?_)
  · have : b = N + 4 ∨ b = N + 3 ∨ b = N ∨ b = N + 1 := by simpa using hb
    rcases this with q | q | q | q <;> simp [q]
  · obtain ⟨q1, q2, ⟨a, c, q3⟩, q4, q5⟩ := st
    rcases mem5 hb with e | e | e | e | e <;> subst e
    · exact Zs.obj q4
    · exact Zs.obj q5
    · exact ⟨_, q2, fun v z => nomatch z⟩
    · exact ⟨_, q3, fun v z => nomatch z⟩
    · exact ⟨_, q1, fun v z => nomatch z⟩
  · obtain ⟨q1, q2, ⟨a, c, q3⟩, q4, q5⟩ := st
    exact ⟨k _ (by simp) _ q1, k _ (by simp) _ q2, ⟨a, c, k _ (by simp) _ q3⟩, Zs.kp (k _ (by simp)) q4, Zs.kp (k _ (by simp)) q5⟩
  · subst hP hw hK
    obtain ⟨xs, ys, h1, h2, e⟩ := hr
    obtain ⟨q1, q2, q3, q4, q5⟩ := st
    have hh := I.ok.hd hc
    obtain ⟨P1, Q1, D1, s1, t1, v1⟩ := Zs.draws I hh h1 (fun z => Nat.lt_irrefl N (l1 _ z)) q4
    obtain ⟨P2, Q2, D2, s2, t2, v2⟩ := Zs.draws I hh h2 (fun z => absurd (l2 _ z) (Nat.not_lt.mpr (Nat.le_add_right _ _))) q5
    have W := WalksT.zipD2 (A := X.A) (zip_sep2 l1 l2) D1 D2
    have el : rows.length = min xs.length ys.length := by rw [e, List.length_zipWith]
    rw [← el] at W
    refine ⟨_, _, _, _, W, ⟨q1, q2, q3, s1, s2⟩, fun j h ⟨a1, a2, a3, a4, a5⟩ => ⟨a1, a2, a3, t1 _ _ a4, t2 _ _ a5⟩, ?_⟩
    rintro j vals ⟨x1, x2, p1, p2, ev⟩
    subst ev
    obtain ⟨y1, g1, r1⟩ := v1 j x1 p1
    obtain ⟨y2, g2, r2⟩ := v2 j x2 p2
    refine ⟨[y1, y2], ?_, .cons r1 (.cons r2 .nil), by simp⟩
    rw [e, List.getElem?_zipWith, g1, g2]
  · subst hK
    obtain ⟨xs, ys, a1, a2, a3⟩ := h1
    obtain ⟨xs', ys', b1, b2, b3⟩ := h2
    rw [a3, b3, Zs.inj I a1 b1, Zs.inj I a2 b2]
def iZ2 (K : PySem.W.Frag) (ta : TA) : TI := fun σ H R => ta σ H fun vs H1 => ∃ z1 z2 xs ys, vs = [Zs.val z1, Zs.val z2] ∧ z1.has K H1 xs ∧ z2.has K H1 ys ∧ R (ItR (has2 K z1 z2)) H1
theorem pi_z2 {X : Cx} {e e2 : Expr} {ta : TA} {p pos tpos : Pos} {elts : List Expr} {kk : Nat} (hg : Gl X "zip") (hm : X.mg "zip" = none) (ha : PA X [e, e2] ta)
    (hs : starEach [e, e2] X.env = (false, eval e X.env) :: starEach [e2] X.env := by rfl) (hpl : (backTo pos (starEach [e2] X.env)).any (·.1) = false := by rfl) :
    PI X (.Tuple elts kk tpos) (.Call (.Name "zip" p) [e, e2] [] pos) (iZ2 X.K ta) := by
  refine ⟨fun pins s σ H R I h => ?_⟩
  refine PyProof.Rows.Call_ (ld_blt I hg hm PyProof.Rows.boot_zip (PyProof.Rows.callWith_type1 (thn (ha.run pos pins s σ H _ I h) fun us s1 q0 => ?_) hs hpl))
  obtain ⟨vs, H1, I1, r1, z1, z2, xs, ys, ev, h1, h2, q⟩ := q0
  subst ev
  cases r1 with
  | cons r rr =>
    cases rr with
    | cons r' rr =>
      cases rr
      obtain ⟨o1, G1, B1, g1, t1⟩ := Zs.begins I1 h1 r
      obtain ⟨o2, G2, B2, g2, t2⟩ := Zs.begins I1 h2 r'
      refine zip_begins2 B1 B2 g1 g2 fun h' hz hT hO e1 e2 hsz k => wpAny_pyIter_zip hz ?_
      have I2 : Inv X pins σ H1 { s1 with heap := h' } := I1.kept (t' := s1.toks) k
      refine ⟨s1.heap.objs.size + 4, _, _, _, H1, rfl, I2, turn_z2 (Zs.low I1 h1) (Zs.low I1 h2), ⟨hz, hT, ⟨_, _, hO⟩, t1 _ _ e1, t2 _ _ e2⟩, fun c hc => ?_, q⟩
      have hle : s1.heap.objs.size ≤ c := by
        rcases mem5 hc with z | z | z | z | z <;> rw [z] <;> first | exact Nat.le_refl _ | exact Nat.le_add_right _ _
      exact I1.fpOk hle (I1.hok.fresh hle)
end DL

end
section
namespace DL
open PySem L2

/-! ### zip of three -/
def has3 (K : PySem.W.Frag) (z1 z2 z3 : Zs) (H : Hp) (rows : List (List V)) : Prop := ∃ xs ys us, z1.has K H xs ∧ z2.has K H ys ∧ z3.has K H us ∧ rows = List.zipWith (fun x r => x :: r) xs (List.zipWith (fun y u => [y, u]) ys us)
def tnZ3 (N : Addr) (z1 z2 z3 : Zs) (i : Nat) (h : Heap) : Prop := IsZip h (N + 5) (N + 3) (N + 4) .none ∧ IsTupOf3 h (N + 3) (.ref N) (.ref (N + 1)) (.ref (N + 2)) ∧ (∃ a b c, IsTupOf3 h (N + 4) a b c) ∧ z1.st N i h ∧ z2.st (N + 1) i h ∧ z3.st (N + 2) i h
def iZ3 (K : PySem.W.Frag) (ta : TA) : TI := fun σ H R => ta σ H fun vs H1 => ∃ z1 z2 z3 xs ys us, vs = [Zs.val z1, Zs.val z2, Zs.val z3] ∧ z1.has K H1 xs ∧ z2.has K H1 ys ∧ z3.has K H1 us ∧ R (ItR (has3 K z1 z2 z3)) H1
/-! ### enumerate -/
def enV (xs : List V) : List (List V) := xs.zipIdx.map fun p => [V.int (p.2 : Nat), p.1]
def hasE (K : PySem.W.Frag) (z : Zs) (H : Hp) (rows : List (List V)) : Prop := ∃ xs, z.has K H xs ∧ rows = enV xs
def tnE (N : Addr) (z : Zs) (i : Nat) (h : Heap) : Prop := (∃ old, IsEnum h (N + 1) N (0 + (i : Int)) old) ∧ z.st N i h
theorem ne1 {N : Addr} : N + 1 ≠ N := Nat.succ_ne_self _
theorem turn_en {P : Program} {w : World} {K : PySem.W.Frag} {elts : List Expr} {kk : Nat} {tpos : Pos} {N : Addr} {z : Zs} (l1 : ∀ b ∈ z.fp, b < N) :
    Turn P w K (.Tuple elts kk tpos) (ItR (hasE K z)) [N, N + 1] (N + 1) (tnE N z) := by
  refine turn_rows (wr := [N + 1, N]) (by simp) (fun b hb => ?_) (fun i h st b hb => ?_) (fun i h h' st k => ?_) (fun A i s Q E st h => ?_) (fun X hP hw hK hc i pins s σ H I st rows hr => ?_) (fun X hK pins s σ H I r1 r2 h1 h2 => ?_)
  · have : b = N + 1 ∨ b = N := by simpa using hb
    rcases this with q | q <;> simp [q]
  · obtain ⟨⟨old, q1⟩, q2⟩ := st
    have : b = N ∨ b = N + 1 := by simpa using hb
    rcases this with e | e <;> subst e
    · exact Zs.obj q2
    · exact ⟨_, q1, fun v z => nomatch z⟩
  · obtain ⟨⟨old, q1⟩, q2⟩ := st
    exact ⟨⟨old, k _ (by simp) _ q1⟩, Zs.kp (k _ (by simp)) q2⟩
  · obtain ⟨⟨old, q1⟩, q2⟩ := st
    exact wpAny_pyIter_enum q1 h
  · subst hP hw hK
    obtain ⟨xs, h1, e⟩ := hr
    obtain ⟨q1, q2⟩ := st
    have hh := I.ok.hd hc
    obtain ⟨P1, Q1, D1, s1, t1, v1⟩ := Zs.draws I hh h1 (fun z => Nat.lt_irrefl N (l1 _ z)) q2
    have hni : N + 1 ∉ N :: z.fp := fun m => by
      rcases List.mem_cons.mp m with q | q
      · exact ne1 q
      · exact absurd (l1 _ q) (Nat.not_lt.mpr (Nat.le_add_right _ _))
    have W := WalksT.enumFrom (A := X.A) 0 D1 (N + 1) ne1 hni (List.mem_cons_self ..)
    have el : rows.length = xs.length := by rw [e]; simp [enV]
    rw [← el] at W
    refine ⟨_, _, _, _, W, ⟨q1, s1⟩, fun j h ⟨a1, a2⟩ => ⟨a1, t1 _ _ a2⟩, ?_⟩
    rintro j vals ⟨t, x1, p1, ev⟩
    subst ev
    obtain ⟨y1, g1, r1⟩ := v1 j x1 p1
    refine ⟨[.int (j : Nat), y1], ?_, .cons ⟨t, by simp⟩ (.cons r1 .nil), by simp⟩
    rw [e]
    unfold enV
    rw [List.getElem?_map, List.getElem?_zipIdx, g1]
    simp
  · subst hK
    obtain ⟨xs, a1, a2⟩ := h1
    obtain ⟨xs', b1, b2⟩ := h2
    rw [a2, b2, Zs.inj I a1 b1]
def Zs.nt : Zs → Prop
  | .t _ => False
  | _ => True
def iEn (K : PySem.W.Frag) (ta : TA) : TI := fun σ H R => ta σ H fun vs H1 => ∃ z xs, vs = [Zs.val z] ∧ z.has K H1 xs ∧ z.nt ∧ R (ItR (hasE K z)) H1
theorem pi_en {X : Cx} {e : Expr} {ta : TA} {p pos tpos : Pos} {elts : List Expr} {kk : Nat} (hg : Gl X "enumerate") (hm : X.mg "enumerate" = none) (ha : PA X [e] ta) (hs : starEach [e] X.env = [(false, eval e X.env)] := by rfl) :
    PI X (.Tuple elts kk tpos) (.Call (.Name "enumerate" p) [e] [] pos) (iEn X.K ta) := by
  refine ⟨fun pins s σ H R I h => ?_⟩
  refine PyProof.Rows.Call_ (ld_blt I hg hm PyProof.Rows.boot_enumerate (PyProof.Rows.callWith_type1 (thn (ha.run pos pins s σ H _ I h) fun us s1 q0 => ?_) hs rfl))
  obtain ⟨vs, H1, I1, r1, z, xs, ev, h1, nt, q⟩ := q0
  subst ev
  cases r1 with
  | cons r rr =>
    cases rr
    have go : ∀ {h' : Heap}, IsEnum h' (s1.heap.objs.size + 1) s1.heap.objs.size 0 .none → z.st s1.heap.objs.size 0 h' → (∀ b o, s1.heap.get? b = some o → h'.get? b = some o) →
        wpAny (model X.prog X.w) X.A (pyIter (.ref (s1.heap.objs.size + 1))) (PIE X pins σ (.Tuple elts kk tpos) R) X.xe { s1 with heap := h' } := fun {h'} he st k => by
      refine wpAny_pyIter_enum he ?_
      have I2 : Inv X pins σ H1 { s1 with heap := h' } := I1.kept (t' := s1.toks) k
      refine ⟨s1.heap.objs.size + 1, _, _, _, H1, rfl, I2, turn_en (Zs.low I1 h1), ⟨⟨.none, by simpa using he⟩, st⟩, fun c hc => ?_, q⟩
      have hle : s1.heap.objs.size ≤ c := by
        have : c = s1.heap.objs.size ∨ c = s1.heap.objs.size + 1 := by simpa using hc
        rcases this with z | z <;> rw [z] <;> first | exact Nat.le_refl _ | exact Nat.le_add_right _ _
      exact I1.fpOk hle (I1.hok.fresh hle)
    cases z with
    | t a => exact nt.elim
    | l a =>
      obtain ⟨its, _, p1, _⟩ := I1.list h1
      cases r
      exact call_enumerate_list p1.isList fun h' he hit hsz k => go he hit k
    | s x =>
      obtain ⟨t, e⟩ := r
      subst e
      exact call_enumerate_str fun h' he hit hsz k => go he ⟨t, hit⟩ k

/-! ### by data -/
def zD : D → Option (List D)
  | .lst ds => some ds
  | .tup ds => some ds
  | .str z => some (sgs z)
  | _ => none
def zOf : D → V → Zs
  | .lst _, .ref a => .l a
  | .tup _, .ref a => .t a
  | .str x, _ => .s x
  | _, _ => .s ⟨#[]⟩
theorem sgs_rep {K : PySem.W.Frag} {H : Hp} {A : Addr → Prop} : ∀ cs : List Nat, RepL K H A (cs.map fun c => D.str ⟨#[c]⟩) (cs.map fun c => V.str ⟨#[c]⟩)
  | [] => by unfold RepL; rfl
  | c :: cs => by
    rw [List.map_cons, List.map_cons]
    unfold RepL
    exact ⟨_, _, rfl, by unfold Rep; rfl, sgs_rep cs⟩
theorem rep_zs {K : PySem.W.Frag} {H : Hp} {A : Addr → Prop} {d : D} {ds : List D} {v : V} (e : zD d = some ds) (h : Rep K H A d v) : v = (zOf d v).val ∧ ∃ xs, (zOf d v).has K H xs ∧ RepL K H A ds xs := by
  cases d with
  | lst ds' =>
    cases e
    obtain ⟨a, xs, e1, h1, h2⟩ := RepB.lst (.inl h)
    subst e1
    exact ⟨rfl, xs, h1, h2⟩
  | tup ds' =>
    cases e
    obtain ⟨a, xs, e1, h1, h2⟩ := RepB.tup (.inl h)
    subst e1
    exact ⟨rfl, xs, h1, h2⟩
  | str x =>
    cases e
    obtain rfl := RepB.str (.inl h)
    exact ⟨rfl, _, rfl, sgs_rep _⟩
  | _ => cases e
theorem src_rows {K : PySem.W.Frag} {has : Hp → List (List V) → Prop} {items : List D} {G : (Addr → Prop) → Hp → Prop} (hk : ∀ (A A' : Addr → Prop) (H H' : Hp), AOk A H → Keep A A' H H' → G A H → G A' H')
    (hr : ∀ (A : Addr → Prop) (H : Hp), AOk A H → G A H → ∃ rows, has H rows ∧ rows.length = items.length ∧ ∀ (i : Nat) row, rows[i]? = some row → ∃ ds, items[i]? = some (.tup ds) ∧ RepL K H A ds row) : Src K (ItR has) items G := by
  refine ⟨hk, fun A i H ak hi g => ?_, fun A H ak g => ?_, fun A i H x H' ak hi g y => ?_⟩
  · obtain ⟨rows, h1, h2, _⟩ := hr A H ak g
    exact ⟨rows, h1, by rw [h2]; exact hi⟩
  · obtain ⟨rows, h1, h2, _⟩ := hr A H ak g
    exact ⟨rows, h1, h2⟩
  · obtain ⟨rows, h1, h2, h3⟩ := hr A H ak g
    obtain ⟨T, row, e1, n, e2, f⟩ := y
    obtain ⟨ds, e3, h4⟩ := h3 i row (f rows h1)
    subst e1 e2
    exact ⟨same_upd n, _, e3, rep_newtup ak h4 n⟩
theorem repL_getR {K : PySem.W.Frag} {H : Hp} {A : Addr → Prop} {ds : List D} {vs : List V} {i : Nat} {v : V} (h : RepL K H A ds vs) (e : vs[i]? = some v) : ∃ d, ds[i]? = some d ∧ Rep K H A d v := by
  have hi : i < ds.length := by rw [← repL_length h]; exact (List.getElem?_eq_some_iff.mp e).1
  obtain ⟨v', e', r⟩ := repL_get h (List.getElem?_eq_getElem hi)
  rw [e] at e'
  cases e'
  exact ⟨_, List.getElem?_eq_getElem hi, r⟩
theorem repL2 {K : PySem.W.Frag} {H : Hp} {A : Addr → Prop} {d e : D} {v u : V} (h : Rep K H A d v) (h2 : Rep K H A e u) : RepL K H A [d, e] [v, u] := by
  unfold RepL
  refine ⟨v, [u], rfl, h, ?_⟩
  unfold RepL
  refine ⟨u, [], rfl, h2, ?_⟩
  unfold RepL
  rfl
def zip2D : List D → Option (List D)
  | [d, e] => (zD d).bind fun xs => (zD e).bind fun ys => some (List.zipWith (fun x y => D.tup [x, y]) xs ys)
  | _ => none
def zip3D : List D → Option (List D)
  | [d, e, f] => (zD d).bind fun xs => (zD e).bind fun ys => (zD f).bind fun us => some (List.zipWith (fun x (r : D × D) => D.tup [x, r.1, r.2]) xs (List.zipWith (fun y u => (y, u)) ys us))
  | _ => none
def enD : List D → Option (List D)
  | [.lst xs] => some (xs.zipIdx.map fun p => D.tup [.int (p.2 : Nat), p.1])
  | [.str z] => some ((sgs z).zipIdx.map fun p => D.tup [.int (p.2 : Nat), p.1])
  | _ => none
section
variable {X : Cx} {W : WX} {a b c : Expr} {elts : List Expr} {kk : Nat} {p pos tpos : Pos} {g : Env → R (List D)}
theorem src_z2 {K : PySem.W.Frag} {d1 d2 : D} {v1 v2 : V} {xs ys : List D} (e1 : zD d1 = some xs) (e2 : zD d2 = some ys) :
    Src K (ItR (has2 K (zOf d1 v1) (zOf d2 v2))) (List.zipWith (fun x y => D.tup [x, y]) xs ys) (fun A H => Rep K H A d1 v1 ∧ Rep K H A d2 v2) := by
  refine src_rows (fun A A' H H' ak k h => ⟨Rep.keep k ak _ _ h.1, Rep.keep k ak _ _ h.2⟩) fun A H ak h => ?_
  obtain ⟨h1, h2⟩ := h
  obtain ⟨_, us, g1, g2⟩ := rep_zs e1 h1
  obtain ⟨_, ws, g3, g4⟩ := rep_zs e2 h2
  refine ⟨_, ⟨us, ws, g1, g3, rfl⟩, by simp [repL_length g2, repL_length g4], fun i row e => ?_⟩
  rw [List.getElem?_zipWith] at e
  cases q1 : us[i]? with
  | none => rw [q1] at e; cases e
  | some u =>
    cases q2 : ws[i]? with
    | none => rw [q1, q2] at e; cases e
    | some u' =>
      rw [q1, q2] at e
      cases e
      obtain ⟨x, f1, r1⟩ := repL_getR g2 q1
      obtain ⟨y, f2, r2⟩ := repL_getR g4 q2
      exact ⟨[x, y], by rw [List.getElem?_zipWith, f1, f2], repL2 r1 r2⟩
theorem repL_two {K : PySem.W.Frag} {H : Hp} {A : Addr → Prop} {d e : D} {vs : List V} (h : RepL K H A [d, e] vs) : ∃ v w, vs = [v, w] ∧ Rep K H A d v ∧ Rep K H A e w := by
  unfold RepL at h
  obtain ⟨v, r, e1, h1, h2⟩ := h
  unfold RepL at h2
  obtain ⟨w, r', e2, h3, h4⟩ := h2
  unfold RepL at h4
  subst h4 e2 e1
  exact ⟨v, w, rfl, h1, h3⟩
theorem p_zip2 (hg : Gl X "zip") (hm : X.mg "zip" = none) (h : DPs X W [a, b] g)
    (hs : starEach [a, b] X.env = (false, eval a X.env) :: starEach [b] X.env := by rfl) (hpl : (backTo pos (starEach [b] X.env)).any (·.1) = false := by rfl) :
    DIp X W (.Tuple elts kk tpos) (.Call (.Name "zip" p) [a, b] [] pos) (itN zip2D g) := by
  obtain ⟨t, pe, w⟩ := h
  refine ⟨_, pi_z2 hg hm pe hs hpl, fun F os r σ H Q R S => w F os r σ H _ R (S.bind.imp fun ds S vs H1 s1 h1 => ?_)⟩
  obtain ⟨its, e, S⟩ := Sat.ofO S
  match ds, e with
  | [d, e'], e =>
    obtain ⟨v, w', ev, r1, r2⟩ := repL_two h1
    subst ev
    obtain ⟨xs, e1, e⟩ := Option.bind_eq_some_iff.mp e
    obtain ⟨ys, e2, e⟩ := Option.bind_eq_some_iff.mp e
    cases e
    obtain ⟨q1, us, g1, g2⟩ := rep_zs e1 r1
    obtain ⟨q2, ws, g3, g4⟩ := rep_zs e2 r2
    exact ⟨_, _, us, ws, by rw [← q1, ← q2], g1, g3, S _ H1 _ (src_z2 e1 e2) s1 ⟨r1, r2⟩⟩
end
end DL

end
section
set_option maxHeartbeats 2000000
namespace DL
open PySem PyProof.Rows

/-! ### reversed(text) -/
theorem str_norev : typeLookup (.type "str") "__reversed__" = pure none := by
  rw [typeLookup_type, builtinLookup_eq_fast] <;> kernel_rfl
theorem str_getit : typeLookup (.type "str") "__getitem__" = pure (some (.builtin "str.__getitem__")) := by
  rw [typeLookup_type, builtinLookup_eq_fast] <;> kernel_rfl
theorem str_nodict : isSubtype (.type "str") (.type "dict") = pure false := by
  rw [isSubtype_type] <;> kernel_rfl
def rvO (x : Str) (t : Tok) (i : Int) : Obj := { cls := .type "reversed", data := .fields #[.str x t, rawInt i] }
def IsRv (h : Heap) (a : Addr) (x : Str) (t : Tok) (i : Int) : Prop := ∃ o, h.get? a = some o ∧ o.cls = .type "reversed" ∧ o.data = .fields #[.str x t, rawInt i]
section
variable {prog : Program} {w : World} {A : Around} {E : Value → Shared → Prop} {s : Shared} {x : Str} {t : Tok}
theorem IsRv.ty {a : Addr} {i : Int} (q : IsRv s.heap a x t i) : s.TypeIs (.ref a) "reversed" := let ⟨o, ho, hc, _⟩ := q; ⟨o, ho, hc⟩
theorem rv_code {Q : Value → Shared → Prop} (hfit : ¬ (x.length : Int) ≥ 2 ^ 63) (h : Q (.ref s.heap.objs.size) { s with heap := s.heap.push (rvO x t ((x.length : Int) - 1)), toks := s.toks + 1 + 1 }) :
    codeAny (model prog w) A (.call (.builtin "reversed.__new__") ⟨[.type "reversed", .str x t], []⟩) (wants Q E) s := by
  have hT := typeIs_str s x t
  refine codeAny_of_tree ?_
  show wpAny _ A.in1 (do checkBuiltinCall "reversed.__new__" ⟨[.type "reversed", .str x t], []⟩; again (.builtin "reversed.__new__" ⟨[.type "reversed", .str x t], []⟩)) _ _ s
  refine wpAny_bind (wpAny_of_eq (F.newCall_reversed_1 _) (wpAny_pure ⟨plainId_quiet F.plain_reversed_new _, codeAny_builtin F.entry_reversed_new ?_⟩)); rw [Around.under_plainId F.plain_reversed_new _]
  unfold Builtin.«reversed.__new__»
  refine wpAny_bind (wpAny_of_eq (newClass_reversed _) ?_); try dsimp only
  refine wpAny_bind (wpAny_of_eq (a := ()) (by first | rfl | kernel_rfl) ?_); try dsimp only
  refine wpAny_bind (wpAny_of_eq (a := ()) (by first | rfl | kernel_rfl) ?_); try dsimp only
  refine wpAny_bind (wpAny_specialOf hT str_norev ?_); try dsimp only
  refine wpAny_bind ?_; wp_delta
  refine wpAny_bind (wpAny_isInstance (T := "str") (U := "dict") (b := false) hT str_nodict ?_); try dsimp only
  try rw [if_neg Bool.false_ne_true]
  try dsimp only
  refine wpAny_bind (wpAny_specialOf hT str_getit ?_); try dsimp only
  try rw [if_pos (by decide +kernel)]
  refine wpAny_pure ?_; try dsimp only
  try rw [if_neg (by decide)]
  try dsimp only
  refine wpAny_bind (len_str hfit ?_)
  refine wpAny_bind (wpAny_of_eq (a := some ((x.length : Nat) : Int)) rfl ?_); try dsimp only
  refine wpAny_bind ?_
  show wpAny _ _ (newObj (.type "reversed") (.fields #[.str x t, rawInt ((x.length : Int) - 1)])) _ _ _
  exact wpAny_newObj_type (wpAny_pure h)
theorem call_rv {Q : Value → Shared → Prop} (hfit : ¬ (x.length : Int) ≥ 2 ^ 63) (h : Q (.ref s.heap.objs.size) { s with heap := s.heap.push (rvO x t ((x.length : Int) - 1)), toks := s.toks + 1 + 1 }) :
    wpAny (model prog w) A (call (.type "reversed") [.str x t]) Q E s := by
  refine callType_codes (Q₁ := fun ob s' => s'.TypeIs ob "reversed" ∧ Q ob s') RT.called_rt (F.typeCall_reversed_1 _) F.entry_object_init (rv_code (A := A.in1) hfit ⟨⟨_, Heap.get?_push_size _ rfl, rfl⟩, h⟩) fun ob s' h' => ?_
  exact ⟨h'.1, F.args_object_init_2 ob _, object_init_meets RT.called_rt.init.lookup RT.called_rt.made (by decide) prog w A.in1 _ s' ⟨h'.1, rfl, h'.2⟩⟩
theorem rv_item {it : Addr} {i c : Nat} {Q : Option Value → Shared → Prop} (hit : IsRv s.heap it x t (i : Int)) (hx : x.cps[i]? = some c) (hsz : x.length ≤ sizeLine)
    (hQ : ∀ h', IsRv h' it x t ((i : Int) - 1) → Heap.SameBut it s.heap h' → Q (some (.str ⟨#[c]⟩ (s.toks + 1))) { s with heap := h', toks := s.toks + 1 + 1 }) : wpAny (model prog w) A (pyNext (.ref it)) Q E s := by
  obtain ⟨o, ho, hc, hd⟩ := id hit
  have hi : i < x.cps.size := (Array.getElem?_eq_some_iff.mp hx).1
  have hT := typeIs_str s x t
  rw [sizeLine_eq] at hsz
  unfold pyNext
  refine wpAny_bind (wpAny_attempt (wpAny_callSpecial?_slot (name := Str.ofString "__next__") hit.ty RT.slot_rt_next (wpAny_call_entry RT.slot_rt_next hit.ty RT.entry_rt_next ?_ (RT.args_rt_next _))))
  unfold Builtin.«reversed.__next__»
  refine wpAny_bind (wpAny_of_eq (a := (Value.ref it, [])) rfl ?_); try dsimp only
  refine wpAny_bind (wpAny_field ho hd (x := .str x t) rfl ?_); try dsimp only
  refine wpAny_bind (wpAny_field ho hd (x := rawInt (i : Int)) rfl ?_)
  show wpAny _ _ (if (i : Int) < 0 then _ else _) _ _ s
  rw [if_neg (by omega)]
  try dsimp only
  refine wpAny_bind (wpAny_specialOf hT str_getit ?_); try dsimp only
  try rw [if_neg (by decide)]
  try dsimp only
  refine wpAny_bind (wpAny_mkInt (wpAny_bind (wpAny_attempt ?_)))
  have hi' : i < x.length := hi
  have h1 : ¬ ((i : Int) < -(2 ^ 63)) := by omega
  have h2 : ¬ ((i : Int) ≥ 2 ^ 63) := by omega
  have fin : (seqIndex? (i : Int) x.length).bind (x.cps[·]?) = some c := by
    rw [seqIndex_of (k := (i : Int)) (n := x.length) (by omega) (by omega)]
    exact hx
  refine getItem_str (s := { s with toks := s.toks + 1 }) (by rw [decide_eq_false h1, decide_eq_false h2] <;> rfl) fin ?_
  try dsimp only
  refine wpAny_bind (wpAny_field (s := { s with toks := s.toks + 1 + 1 }) ho hd (x := rawInt (i : Int)) rfl ?_); try dsimp only
  refine wpAny_bind (wpAny_setField (s := { s with toks := s.toks + 1 + 1 }) ho hd (by simp) ?_)
  first
  | refine wpAny_pure ⟨_, rfl, wpAny_pure (hQ _ ?_ (Heap.SameBut.update ..))⟩
  | refine wpAny_bind (wpAny_pure (wpAny_pure ⟨_, rfl, wpAny_pure (hQ _ ?_ (Heap.SameBut.update ..))⟩))
  exact ⟨_, Heap.get?_update_self _ ho (Obj.isFreed_of_fields (Obj.data_mapFields hd _)), (Obj.cls_mapFields ..).trans hc, by rw [Obj.data_mapFields hd] <;> simp⟩
theorem rv_end {it : Addr} {Q : Option Value → Shared → Prop} (hh : A.handled = none) (hit : IsRv s.heap it x t (-1)) (hQ : ∀ h', Heap.ExtBut it s.heap h' → Q none { s with heap := h' }) : wpAny (model prog w) A (pyNext (.ref it)) Q E s := by
  obtain ⟨o, ho, hc, hd⟩ := id hit
  unfold pyNext
  refine wpAny_bind (wpAny_attempt (wpAny_callSpecial?_slot (name := Str.ofString "__next__") hit.ty RT.slot_rt_next (wpAny_call_entry RT.slot_rt_next hit.ty RT.entry_rt_next ?_ (RT.args_rt_next _))))
  unfold Builtin.«reversed.__next__»
  refine wpAny_bind (wpAny_of_eq (a := (Value.ref it, [])) rfl ?_); try dsimp only
  refine wpAny_bind (wpAny_field ho hd (x := .str x t) rfl ?_); try dsimp only
  refine wpAny_bind (wpAny_field ho hd (x := rawInt (-1)) rfl ?_)
  show wpAny _ _ (if (-1 : Int) < 0 then _ else _) _ _ s
  rw [if_pos (by decide)]
  try dsimp only
  refine wpAny_bind (wpAny_rule (wpAny_bind ?_)); wp_delta
  have d2 := Obj.data_mapFields hd fun vs => vs.setIfInBounds 1 (rawInt (-1))
  have ho2 := Heap.get?_update_self (Obj.mapFields (·.setIfInBounds 1 (rawInt (-1)))) ho (Obj.isFreed_of_fields (Obj.data_mapFields hd _))
  refine wpAny_bind (wpAny_setField ho hd (by simp) (wpAny_setField (s := { s with heap := s.heap.update it (Obj.mapFields (·.setIfInBounds 1 (rawInt (-1)))) }) ho2 (Obj.data_mapFields hd _) (by simp) ?_)); try dsimp only
  have fin : ∀ {k : Nat}, True := fun {_} => trivial
  first
  | (refine wpAny_bind (wpAny_letGo ?_); show wpAny _ _ (newExc (.type "StopIteration") [] >>= _) _ _ _)
  | show wpAny _ _ (newExc (.type "StopIteration") [] >>= _) _ _ _
  | (refine wpAny_bind ?_; show wpAny _ _ (newExc (.type "StopIteration") [] >>= _) _ _ _)
  | (refine wpAny_bind ?_; wp_delta; show wpAny _ _ (newExc (.type "StopIteration") [] >>= _) _ _ _)
  refine wpAny_bind ?_; simp only [newExc, newTuple]
  refine wpAny_bind (wpAny_newObj_type ?_ (by size_fits)); refine wpAny_bind (m := firstArgMember _ _) (wpAny_of_eq (a := Value.none) (by first | rfl | (simp only [firstArgMember]; rfl)) ?_)
  refine wpAny_newObj_type ?_ (by size_fits); simp only [raiseNew]
  refine wpAny_bind (wpAny_handled ?_)
  first | rw [show A.in1.handled = none from hh] | rw [hh]
  refine wpAny_bind (wpAny_pure (wpAny_throw ?_)); refine wpAny_bind (wpAny_isInstance (T := "StopIteration") (b := true) ⟨_, Heap.get?_push_size _ rfl, rfl⟩ isSubtype_stop ?_); refine wpAny_pure (hQ _ ?_)
  refine ((?_ : Heap.ExtBut it s.heap _).push _).push _
  exact fun b ob hb e => (Heap.get?_update_other _ _ (Ne.symm hb)).trans ((Heap.get?_update_other _ _ (Ne.symm hb)).trans e)
theorem rv_iter {it : Addr} {i : Int} {Q : Value → Shared → Prop} (hit : IsRv s.heap it x t i) (h : Q (.ref it) s) : wpAny (model prog w) A (pyIter (.ref it)) Q E s := by
  refine wpAny_pyIter_slot hit.ty RT.slot_rt_iter (wpAny_call_entry RT.slot_rt_iter hit.ty RT.entry_rt_iter ?_ (RT.args_rt_iter _))
  show wpAny _ _ (ret (.ref it)) _ _ s
  exact wpAny_pure ⟨_, rfl, "reversed", _, hit.ty, RT.slot_rt_next.lookup, h⟩
end
end DL

end
section
namespace DL
open PySem L2

/-! ### reversed(text), as items -/
def ItvS (x : Str) : It := ⟨fun i _ => i < x.length, fun i H v H' => H' = H ∧ ∃ c, x.cps[x.length - 1 - i]? = some c ∧ v = .str ⟨#[c]⟩, fun i _ => x.length ≤ i⟩
theorem turn_rv {P : Program} {w : World} {K : PySem.W.Frag} {tg : Expr} (it : Addr) (x : Str) (t : Tok) (hx : x.length ≤ sizeLine) : Turn P w K tg (ItvS x) [it] it (fun i h => i ≤ x.length ∧ IsRv h it x t ((x.length : Int) - 1 - (i : Nat))) where
  mem := by simp
  obj := fun i h st b hb => by
    cases List.mem_singleton.mp hb
    obtain ⟨_, o, e, c, d⟩ := st
    exact ⟨o, e, fun v z => by rw [d] at z; cases z⟩
  keep := fun i h h' st k => by
    obtain ⟨q, o, e, r⟩ := st
    exact ⟨q, o, k it (by simp) o e, r⟩
  item := by
    intro X hP hw hK hc i pins s σ H E I hf st hg
    subst hP hw hK
    obtain ⟨hin, hit⟩ := st
    have hlt : i < x.length := hg
    have hlt2 : x.length - 1 - i < x.cps.size := by
      show x.length - 1 - i < x.length
      omega
    obtain ⟨f0, f1, f2, f3, f4, f5⟩ := hf it (by simp)
    have e1 : (x.length : Int) - 1 - ((i : Nat) : Int) = ((x.length - 1 - i : Nat) : Int) := by omega
    rw [e1] at hit
    have hcx : x.cps[x.length - 1 - i]? = some (x.cps[x.length - 1 - i]'hlt2) := Array.getElem?_eq_getElem hlt2
    refine rv_item hit hcx hx fun h' st' sb => ?_
    have e2 : ((x.length - 1 - i : Nat) : Int) - 1 = (x.length : Int) - 1 - ((i + 1 : Nat) : Int) := by omega
    rw [e2] at st'
    have I1 : Inv X pins σ H { s with heap := h', toks := s.toks + 1 + 1 } := I.turned (t' := s.toks + 1 + 1) (fun b o hb e => (sb.2 b hb).trans e) f0 f1 f3 f4 f5
    obtain ⟨o, e, c, d⟩ := id st'
    exact ⟨_, rfl, go_of (s := { s with heap := h', toks := s.toks + 1 + 1 }) e c d (by decide) ⟨.str ⟨#[_]⟩, H, I1, ⟨_, rfl⟩, ⟨rfl, _, hcx, rfl⟩, ⟨hlt, st'⟩, fun b hb => (hf b hb).1⟩⟩
  done := by
    intro X hP hw hK hc i pins s σ H E I hf st hg
    subst hP hw hK
    obtain ⟨f0, f1, f2, f3, f4, f5⟩ := hf it (by simp)
    obtain ⟨hin, hit⟩ := st
    have hge : x.length ≤ i := hg
    have e1 : (x.length : Int) - 1 - ((i : Nat) : Int) = -1 := by omega
    rw [e1] at hit
    exact rv_end (I.ok.hd hc) hit fun h' eb => ⟨rfl, I.turned (t' := s.toks) (fun b o hb e => eb b o hb e) f0 f1 f3 f4 f5⟩
  self := fun A i s Q E st h => rv_iter st.2 h
def iRevS (te : TE) : TI := fun σ H R => te σ H fun v H1 => ∃ x : Str, v = .str x ∧ x.length ≤ sizeLine ∧ R (ItvS x) H1
section
variable {X : Cx} {W : WX} {tg e a b c : Expr} {p pos tpos : Pos} {elts : List Expr} {kk : Nat} {g : Env → R (List D)} {f fa fb : Env → R D}
theorem pi_revS {te : TE} (hg : Gl X "reversed") (hm : X.mg "reversed" = none) (he : PE X e te) (hs : starEach [e] X.env = (false, eval e X.env) :: starEach [] X.env := by rfl) : PI X tg (.Call (.Name "reversed" p) [e] [] pos) (iRevS te) := by
  refine ⟨fun pins s σ H R I h => ?_⟩
  refine PyProof.Rows.Call_ (ld_blt I hg hm PyProof.Rows.boot_reversed (PyProof.Rows.callWith_type1 (PyProof.Rows.args_cons (thn (he.run pins s σ H _ I h) fun u s1 q0 => PyProof.Rows.args_nil ?_) hs) hs rfl))
  obtain ⟨v, H1, I1, r1, x, ev, hx, q⟩ := q0
  subst ev
  obtain ⟨t, eu⟩ := r1
  subst eu
  have hl : ¬ (x.length : Int) ≥ 2 ^ 63 := by
    rw [sizeLine_eq] at hx
    omega
  refine call_rv hl (rv_iter (x := x) (t := t) (i := (x.length : Int) - 1) ⟨_, Heap.get?_push_size _ rfl, rfl, rfl⟩ ?_)
  refine pi_one (tk := s1.toks + 1 + 1) I1 _ (turn_rv _ x t hx) ⟨Nat.zero_le _, ?_⟩ q
  have e0 : (x.length : Int) - 1 - ((0 : Nat) : Int) = (x.length : Int) - 1 := by omega
  rw [e0]
  exact ⟨_, Heap.get?_push_size _ rfl, rfl, rfl⟩
theorem src_rv {K : PySem.W.Frag} {x : Str} : Src K (ItvS x) (sgs x).reverse (fun _ _ => True) := by
  have hl : (sgs x).length = x.length := by simp [sgs]; rfl
  refine ⟨fun _ _ _ _ _ _ h => h, fun A i H ak hi h => ?_, fun A H ak h => ?_, fun A i H v H' ak hi h y => ?_⟩
  · show i < x.length
    rw [List.length_reverse, hl] at hi
    exact hi
  · show x.length ≤ _
    rw [List.length_reverse, hl]
    exact Nat.le_refl _
  · obtain ⟨e1, c, e2, e3⟩ := y
    subst e1 e3
    rw [List.length_reverse, hl] at hi
    refine ⟨Same.of_eq, .str ⟨#[c]⟩, ?_, by unfold Rep; rfl⟩
    rw [List.getElem?_reverse (by rw [hl]; exact hi), hl]
    unfold sgs
    rw [List.getElem?_map, Array.getElem?_toList, e2]
    rfl
theorem src_rl {K : PySem.W.Frag} {a : Addr} {ds : List D} : Src K (Itv K a ds.length) ds.reverse (fun A H => Rep K H A (.lst ds) (.ref a)) := by
  have rd : ∀ {A : Addr → Prop} {H : Hp}, Rep K H A (.lst ds) (.ref a) → ∃ xs, SqL K H a xs ∧ RepL K H A ds xs := fun {A H} h => by
    obtain ⟨b, xs, e, h1, h2⟩ := RepB.lst (.inl h)
    cases e
    exact ⟨xs, h1, h2⟩
  refine ⟨fun A A' H H' ak k h => Rep.keep k ak _ _ h, fun A i H ak hi h => ?_, fun A H ak h => ?_, fun A i H x H' ak hi h y => ?_⟩
  · obtain ⟨xs, h1, h2⟩ := rd h
    rw [List.length_reverse] at hi
    have hj : ds.length - 1 - i < ds.length := by omega
    obtain ⟨v, h3, _⟩ := repL_get h2 (List.getElem?_eq_getElem hj)
    exact ⟨hi, xs, v, h1, h3⟩
  · rw [List.length_reverse]
    exact Nat.le_refl ds.length
  · obtain ⟨xs, h1, h2⟩ := rd h
    obtain ⟨e1, y⟩ := y
    subst e1
    rw [List.length_reverse] at hi
    obtain ⟨d, h3, h4⟩ := repL_getR h2 (y xs h1)
    exact ⟨Same.of_eq, d, by rw [List.getElem?_reverse hi]; exact h3, h4⟩
theorem src_rt {K : PySem.W.Frag} {a : Addr} {ds : List D} : Src K (RT.ItvT K a ds.length) ds.reverse (fun A H => Rep K H A (.tup ds) (.ref a)) := by
  have rd : ∀ {A : Addr → Prop} {H : Hp}, Rep K H A (.tup ds) (.ref a) → ∃ xs, SqT K H a xs ∧ RepL K H A ds xs := fun {A H} h => by
    obtain ⟨b, xs, e, h1, h2⟩ := RepB.tup (.inl h)
    cases e
    exact ⟨xs, h1, h2⟩
  refine ⟨fun A A' H H' ak k h => Rep.keep k ak _ _ h, fun A i H ak hi h => ?_, fun A H ak h => ?_, fun A i H x H' ak hi h y => ?_⟩
  · obtain ⟨xs, h1, h2⟩ := rd h
    rw [List.length_reverse] at hi
    have hj : ds.length - 1 - i < ds.length := by omega
    obtain ⟨v, h3, _⟩ := repL_get h2 (List.getElem?_eq_getElem hj)
    exact ⟨hi, xs, v, h1, h3⟩
  · rw [List.length_reverse]
    exact Nat.le_refl ds.length
  · obtain ⟨xs, h1, h2⟩ := rd h
    obtain ⟨e1, y⟩ := y
    subst e1
    rw [List.length_reverse] at hi
    obtain ⟨d, h3, h4⟩ := repL_getR h2 (y xs h1)
    exact ⟨Same.of_eq, d, by rw [List.getElem?_reverse hi]; exact h3, h4⟩
theorem pi_or {w1 w2 : TI} (h1 : PI X tg e w1) (h2 : PI X tg e w2) : PI X tg e (fun σ H R => w1 σ H R ∨ w2 σ H R) :=
  ⟨fun pins s σ H R I h => h.elim (h1.run pins s σ H R I) (h2.run pins s σ H R I)⟩
def revZ (d : D) : Option (List D) := match d with
  | .str x => if x.length ≤ sizeLine then some (sgs x).reverse else none
  | d => (zD d).map List.reverse
theorem p_rev (hg : Gl X "reversed") (hm : X.mg "reversed" = none) (h : DP X W e f) (hs : starEach [e] X.env = (false, eval e X.env) :: starEach [] X.env := by rfl) : DIp X W tg (.Call (.Name "reversed" p) [e] [] pos) (itX revZ f) := by
  obtain ⟨t, pe, w⟩ := h
  refine ⟨_, pi_or (pi_revS hg hm pe hs) (RT.pi_revA hg hm pe hs), fun F os r σ H Q R S => ?_⟩
  have S0 := S.bind
  cases ef : f r with
  | stk => rw [ef] at S0; exact S0.elim
  | err x r' => exact .inl (w F os r σ H _ R (by rw [ef] at S0 ⊢; exact S0))
  | ok d =>
    rw [ef] at S0
    obtain ⟨its, e0, S⟩ := Sat.ofO S0
    cases d with
    | str x =>
      refine .inl (w F os r σ H _ R ?_)
      rw [ef]
      intro v H1 s1 h1
      rw [RepB.str (.inl h1)]
      unfold revZ at e0
      by_cases hx : x.length ≤ sizeLine
      · simp only [if_pos hx] at e0
        cases e0
        exact ⟨x, rfl, hx, S _ H1 _ src_rv s1 trivial⟩
      · simp only [if_neg hx] at e0
        cases e0
    | lst ds =>
      refine .inr (w F os r σ H _ R ?_)
      rw [ef]
      intro v H1 s1 h1
      cases e0
      obtain ⟨a, xs, ev, h2, h3⟩ := RepB.lst (.inl h1)
      subst ev
      refine ⟨a, xs, rfl, .inl ⟨h2, ?_⟩⟩
      rw [repL_length h3]
      exact S _ H1 _ src_rl s1 h1
    | tup ds =>
      refine .inr (w F os r σ H _ R ?_)
      rw [ef]
      intro v H1 s1 h1
      cases e0
      obtain ⟨a, xs, ev, h2, h3⟩ := RepB.tup (.inl h1)
      subst ev
      refine ⟨a, xs, rfl, .inr ⟨h2, ?_⟩⟩
      rw [repL_length h3]
      exact S _ H1 _ src_rt s1 h1
    | _ => cases e0
theorem src_rc {K : PySem.W.Frag} {lo c : Int} {n : Nat} : Src K (Itc lo c n) ((List.range n).map fun i => D.int (lo + (i : Nat) * c)) (fun _ _ => True) := by
  refine ⟨fun _ _ _ _ _ _ h => h, fun A i H ak hi h => ?_, fun A H ak h => ?_, fun A i H v H' ak hi h y => ?_⟩
  · show i < n
    simpa using hi
  · show n ≤ _
    simp
  · obtain ⟨e1, e2⟩ := y
    subst e1 e2
    have hi' : i < n := by simpa using hi
    exact ⟨Same.of_eq, .int (lo + (i : Nat) * c), by rw [List.getElem?_map, List.getElem?_range hi']; rfl, by unfold Rep; rfl⟩
def rvR (a b : D) : Option (List D) := match a, b with
  | .int i, .int j => if -(2 ^ 62) ≤ i ∧ i < 2 ^ 62 ∧ -(2 ^ 62) ≤ j ∧ j < 2 ^ 62 then some (rngL i (j - i).toNat).reverse else none
  | _, _ => none
theorem rng_rev (lo : Int) (n : Nat) : ((List.range n).map fun i => D.int (lo + (n : Nat) - 1 + (i : Nat) * (-1))) = (rngL lo n).reverse := by
  apply List.ext_getElem?
  intro i
  by_cases h : i < n
  · rw [List.getElem?_map, List.getElem?_range h, List.getElem?_reverse (by rw [rngL_length]; exact h), rngL_length]
    unfold rngL
    rw [List.getElem?_map, List.getElem?_range (by omega)]
    simp only [Option.map_some, Option.some.injEq, D.int.injEq]
    omega
  · rw [List.getElem?_eq_none (by simp; omega), List.getElem?_eq_none (by rw [List.length_reverse, rngL_length]; omega)]
theorem src_rr {K : PySem.W.Frag} {lo hi : Int} : Src K (Itc (lo + (((hi - lo).toNat : Nat) : Int) - 1) (-1) (hi - lo).toNat) (rngL lo (hi - lo).toNat).reverse (fun _ _ => True) := by
  rw [← rng_rev]
  exact src_rc
theorem p_revR1 {p2 pos2 : Pos} (hg : Gl X "reversed") (hm : X.mg "reversed" = none) (hg2 : Gl X "range") (hm2 : X.mg "range" = none) (h : DB X W e f) (na : starEach [e] X.env = (false, eval e X.env) :: starEach [] X.env := by rfl)
    (hs : starEach [.Call (.Name "range" p2) [e] [] pos2] X.env = (false, eval (.Call (.Name "range" p2) [e] [] pos2) X.env) :: starEach [] X.env := by rfl) : DIp X W tg (.Call (.Name "reversed" p) [.Call (.Name "range" p2) [e] [] pos2] [] pos) (itX (rvR (.int 0)) f) := by
  obtain ⟨t, pe, w⟩ := h
  refine ⟨_, pi_revR hg hm (prg_1 hg2 hm2 pe na) hs, fun F os r σ H Q R S => w F os r σ H _ R (S.bind.imp fun d S v H1 s1 h1 => ?_)⟩
  obtain ⟨its, e0, S⟩ := Sat.ofO S
  cases d with
  | int n =>
    rw [RepB.int h1]
    unfold rvR at e0
    by_cases c : -(2 ^ 62) ≤ (0 : Int) ∧ (0 : Int) < 2 ^ 62 ∧ -(2 ^ 62) ≤ n ∧ n < 2 ^ 62
    · simp only [if_pos c] at e0
      cases e0
      exact ⟨n, rfl, c.1, c.2.1, c.2.2.1, c.2.2.2, S _ H1 _ src_rr s1 trivial⟩
    · simp only [if_neg c] at e0
      cases e0
  | _ => cases e0
/-- what a list, a tuple or a text gives -/
theorem p_any (h : DP X W e f) : DIp X W tg e (itX zD f) := by
  obtain ⟨t, pe, w⟩ := h
  refine ⟨_, pi_or (pi_list pe) (pi_or (pi_tup pe) (pi_str pe)), fun F os r σ H Q R S => ?_⟩
  have S0 := S.bind
  cases ef : f r with
  | stk => rw [ef] at S0; exact S0.elim
  | err x r' => exact .inl (w F os r σ H _ R (by rw [ef] at S0 ⊢; exact S0))
  | ok d =>
    rw [ef] at S0
    obtain ⟨its, e0, S⟩ := Sat.ofO S0
    cases d with
    | str x =>
      refine .inr (.inr (w F os r σ H _ R ?_))
      rw [ef]
      intro v H1 s1 h1
      cases e0
      rw [RepB.str (.inl h1)]
      exact ⟨x, rfl, S _ H1 _ src_str s1 trivial⟩
    | lst ds =>
      refine .inl (w F os r σ H _ R ?_)
      rw [ef]
      intro v H1 s1 h1
      cases e0
      obtain ⟨a, xs, ev, h2, h3⟩ := RepB.lst (.inl h1)
      subst ev
      exact ⟨a, rfl, ⟨xs, h2⟩, S _ H1 _ src_list s1 h1⟩
    | tup ds =>
      refine .inr (.inl (w F os r σ H _ R ?_))
      rw [ef]
      intro v H1 s1 h1
      cases e0
      obtain ⟨a, xs, ev, h2, h3⟩ := RepB.tup (.inl h1)
      subst ev
      exact ⟨a, rfl, ⟨xs, h2⟩, S _ H1 _ src_tup s1 h1⟩
    | _ => cases e0
theorem src_en {K : PySem.W.Frag} {d : D} {v : V} {xs : List D} (e1 : zD d = some xs) : Src K (ItR (hasE K (zOf d v))) (xs.zipIdx.map fun p => D.tup [.int (p.2 : Nat), p.1]) (fun A H => Rep K H A d v) := by
  refine src_rows (fun A A' H H' ak k h => Rep.keep k ak _ _ h) fun A H ak h => ?_
  obtain ⟨_, ts, g1, g2⟩ := rep_zs e1 h
  refine ⟨_, ⟨ts, g1, rfl⟩, by simp [enV, repL_length g2], fun i row e => ?_⟩
  unfold enV at e
  rw [List.getElem?_map, List.getElem?_zipIdx] at e
  cases q1 : ts[i]? with
  | none => rw [q1] at e; cases e
  | some u =>
    rw [q1] at e
    cases e
    obtain ⟨x, f1, r1⟩ := repL_getR g2 q1
    exact ⟨[.int ((0 + i : Nat) : Int), x], by rw [List.getElem?_map, List.getElem?_zipIdx, f1]; rfl, repL2 rep_int r1⟩
theorem repL_one {K : PySem.W.Frag} {H : Hp} {A : Addr → Prop} {d : D} {vs : List V} (h : RepL K H A [d] vs) : ∃ v, vs = [v] ∧ Rep K H A d v := by
  unfold RepL at h
  obtain ⟨v, r, e1, h1, h2⟩ := h
  unfold RepL at h2
  subst h2 e1
  exact ⟨v, rfl, h1⟩
theorem p_en (hg : Gl X "enumerate") (hm : X.mg "enumerate" = none) (h : DPs X W [a] g) (hs : starEach [a] X.env = [(false, eval a X.env)] := by rfl) :
    DIp X W (.Tuple elts kk tpos) (.Call (.Name "enumerate" p) [a] [] pos) (itN enD g) := by
  obtain ⟨t, pe, w⟩ := h
  refine ⟨_, pi_en hg hm pe hs, fun F os r σ H Q R S => w F os r σ H _ R (S.bind.imp fun ds S vs H1 s1 h1 => ?_)⟩
  obtain ⟨its, e, S⟩ := Sat.ofO S
  match ds, e with
  | [.lst xs], e =>
    obtain ⟨v, ev, r1⟩ := repL_one h1
    subst ev
    cases e
    obtain ⟨q1, ts, g1, g2⟩ := rep_zs (d := .lst xs) rfl r1
    refine ⟨_, ts, by rw [← q1], g1, ?_, S _ H1 _ (src_en rfl) s1 r1⟩
    cases v <;> trivial
  | [.str z], e =>
    obtain ⟨v, ev, r1⟩ := repL_one h1
    subst ev
    cases e
    obtain ⟨q1, ts, g1, g2⟩ := rep_zs (d := .str z) rfl r1
    exact ⟨_, ts, by rw [← q1], g1, trivial, S _ H1 _ (src_en rfl) s1 r1⟩
end
end DL

end
section
namespace DL
open PySem L2
section
variable {X : Cx} {W : WX} {e a b c o : Expr} {es : List Expr} {p pos apos cpos : Pos} {f fa fb fc fo : Env → R D} {g : Env → R (List D)}

theorem Op2F.two {r : R2} {op : D → D → Option D} (h : Op2F X r op) : Op2 X r op := by
  intro A H x y v w d Q ak e h1 h2 k
  refine h A H x y v w d _ ak e h1 h2 fun p H' s n r => k _ H' s ?_
  refine repO_rep r ad_keep (ad_ok ak s r) fun z => ?_
  obtain ⟨o, e2, _⟩ := ak p z
  rw [n] at e2
  cases e2
theorem Op2.or {r1 r2 : R2} {op1 op2 op : D → D → Option D} (h1 : Op2 X r1 op1) (h2 : Op2 X r2 op2) (h : ∀ x y d, op x y = some d → op1 x y = some d ∨ op2 x y = some d) : Op2 X (fun x y H Q => r1 x y H Q ∨ r2 x y H Q) op := by
  intro A H x y v w d Q ak e q1 q2 k
  rcases h x y d e with z | z
  · exact .inl (h1 A H x y v w d Q ak z q1 q2 k)
  · exact .inr (h2 A H x y v w d Q ak z q1 q2 k)
theorem opR_or {op : Value → Value → Sem Value} {r1 r2 : R2} (h1 : OpR X op r1) (h2 : OpR X op r2) : OpR X op (fun x y H Q => r1 x y H Q ∨ r2 x y H Q) :=
  fun pins s σ H x y v u Q I rx ry h => h.elim (h1 pins s σ H x y v u Q I rx ry) (h2 pins s σ H x y v u Q I rx ry)
/-- + of ints, texts, tuples, lists -/
def plusD : D → D → Option D
  | .int i, .int j => some (.int (i + j))
  | .str x, .str y => if x.length + y.length ≤ sizeLine then some (.str (x ++ y)) else none
  | .tup xs, .tup ys => if xs.length + ys.length ≤ sizeLine then some (.tup (xs ++ ys)) else none
  | .lst xs, .lst ys => if xs.length + ys.length ≤ sizeLine then some (.lst (xs ++ ys)) else none
  | _, _ => none
theorem op_plus : OpR X (binaryOp .Add) (fun x y H Q => rAdd3 X.K x y H Q ∨ rCatL X.K x y H Q) := opR_or op_add3 op_catL
theorem o_plus : Op2 X (fun x y H Q => rAdd3 X.K x y H Q ∨ rCatL X.K x y H Q) plusD :=
  Op2.or o_add o_cat.two fun x y d e => by
    cases x with
    | int i => cases y with
      | int j => exact .inl e
      | _ => cases e
    | str i => cases y with
      | str j => exact .inl e
      | _ => cases e
    | tup i => cases y with
      | tup j => exact .inl e
      | _ => cases e
    | lst i => cases y with
      | lst j => exact .inr e
      | _ => cases e
    | _ => cases e
/-- <= of ints, of tuples of ints -/
def intsD : List D → Option (List Int)
  | [] => some []
  | .int i :: r => (intsD r).map fun l => i :: l
  | _ :: _ => none
theorem intsD_rep {K : PySem.W.Frag} {H : Hp} {A : Addr → Prop} : ∀ {ds : List D} {vs : List V} {ns : List Int}, intsD ds = some ns → RepL K H A ds vs → vs = ns.map V.int
  | [], vs, ns, e, h => by
    unfold RepL at h
    subst h
    cases e
    rfl
  | d :: ds, vs, ns, e, h => by
    unfold RepL at h
    obtain ⟨v, r, ev, h1, h2⟩ := h
    subst ev
    cases d with
    | int i =>
      obtain ⟨l, e1, e2⟩ := Option.map_eq_some_iff.mp e
      subst e2
      rw [RepB.int (.inl h1), intsD_rep e1 h2]
      rfl
    | _ => cases e
def lexLe (ns ms : List Int) : Bool := Ob.lexAt (fun j => decide (ns.getD j 0 = ms.getD j 0)) (fun j => decide (ns.getD j 0 ≤ ms.getD j 0)) (decide (ns.length ≤ ms.length)) 0 (min ns.length ms.length)
def leTT : D → D → Option D
  | .tup xs, .tup ys => (intsD xs).bind fun ns => (intsD ys).bind fun ms => some (.bl (lexLe ns ms))
  | _, _ => none
def le2D : D → D → Option D
  | .int i, .int j => some (.bl (decide (i ≤ j)))
  | .tup xs, .tup ys => (intsD xs).bind fun ns => (intsD ys).bind fun ms => some (.bl (lexLe ns ms))
  | _, _ => none
theorem o_leTT : Op2 X (rLeT X.K) leTT := by
  intro A H x y v w d Q ak e h1 h2 k
  cases x with
  | tup xs =>
    cases y with
    | tup ys =>
      obtain ⟨ns, e1, e⟩ := Option.bind_eq_some_iff.mp e
      obtain ⟨ms, e2, e⟩ := Option.bind_eq_some_iff.mp e
      cases e
      obtain ⟨a, us, ev, q1, q2⟩ := RepB.tup h1
      obtain ⟨b, ws, ew, q3, q4⟩ := RepB.tup h2
      rw [intsD_rep e1 q2] at q1
      rw [intsD_rep e2 q4] at q3
      exact ⟨a, b, ns, ms, ev, ew, q1, q3, k _ H Same.of_eq (by unfold Rep; rfl)⟩
    | _ => cases e
  | _ => cases e
theorem op_le2 (hu : X.A.units < cLine) : OpR X (compareOp .LtE) (fun x y H Q => rI0 (fun i j => .bl (decide (i ≤ j))) x y H Q ∨ rLeT X.K x y H Q) := opR_or op_le (op_leT hu)
theorem o_le2 : Op2 X (fun x y H Q => rI0 (fun i j => .bl (decide (i ≤ j))) x y H Q ∨ rLeT X.K x y H Q) le2D :=
  Op2.or o_cmpI o_leTT fun x y d e => by
    cases x with
    | int i => cases y with
      | int j => exact .inl e
      | _ => cases e
    | tup i => cases y with
      | tup j => exact .inr e
      | _ => cases e
    | _ => cases e
def isBD : D → D → Option D
  | .bl i, .bl j => some (.bl (decide (i = j)))
  | _, _ => none
def notBD : D → D → Option D
  | .bl i, .bl j => some (.bl (!decide (i = j)))
  | _, _ => none
/-- x[i:j] of any of them -/
def slA : D → Option Int → Option Int → Option D
  | .str z, lo, hi => if z.length ≤ sizeLine then some (.str (cutS z lo hi)) else none
  | .tup xs, lo, hi => some (.tup (cutL xs lo hi))
  | .lst xs, lo, hi => some (.lst (cutL xs lo hi))
  | _, _, _ => none
/-- [..] * n -/
def repD : D → D → Option D
  | .lst xs, .int k => if -(2 ^ 63) ≤ k ∧ k < 2 ^ 63 ∧ xs.length * k.toNat ≤ sizeLine then some (.lst (List.replicate k.toNat xs).flatten) else none
  | _, _ => none
theorem repL_rep {K : PySem.W.Frag} {H : Hp} {A : Addr → Prop} {ds : List D} {vs : List V} (h : RepL K H A ds vs) : ∀ n : Nat, RepL K H A (List.replicate n ds).flatten (List.replicate n vs).flatten
  | 0 => by unfold RepL; rfl
  | n + 1 => by
    rw [List.replicate_succ, List.replicate_succ, List.flatten_cons, List.flatten_cons]
    exact repL_append h (repL_rep h n)
theorem d_repF (ha : DF X W a fa) (hb : DB X W b fb) : DF X W (.BinOp a .Mult b pos) (bin repD fa fb) := by
  obtain ⟨ta, pa, wa⟩ := ha
  obtain ⟨tb, pb, wb⟩ := hb
  refine ⟨_, pe_op op_rep pa pb, fun F os r σ H Q R S => wa F os r σ H _ R (S.bind.imp fun d S q H1 s1 n1 h1 => wb F os r σ H1 _ (R.same' s1) (S.bind.imp fun d2 S v2 H2 s2 h2 => ?_))⟩
  obtain ⟨d3, e, S⟩ := Sat.ofO S
  cases d with
  | lst xs =>
    cases d2 with
    | int k =>
      rw [RepB.int h2]
      unfold repD at e
      by_cases c : -(2 ^ 63) ≤ k ∧ k < 2 ^ 63 ∧ xs.length * k.toNat ≤ sizeLine
      · simp only [if_pos c] at e
        cases e
        have ak1 : AOk (Ad (Av F.A0 os) q) H1 := ad_ok R.AOk s1 h1
        obtain ⟨vs, e1, r1⟩ := h1.same s2 ak1
        have h2' : RepO X.K H2 (Ad (Av F.A0 os) q) (.lst xs) q := ⟨vs, e1, r1⟩
        have ak2 : AOk (Ad (Av F.A0 os) q) H2 := ad_ok R.AOk (s1.trans s2) h2'
        refine ⟨q, k, vs, rfl, rfl, e1, c.1, c.2.1, by rw [repL_length r1]; exact c.2.2, fun p np => ?_⟩
        have s3 : Same H2 (upd H2 p (.lst (List.replicate k.toNat vs).flatten)) := same_upd np
        have hpn : p ≠ q := fun z => by rw [z, e1] at np; cases np
        refine S p _ (s1.trans (s2.trans s3)) ?_ ?_
        · cases hp : H p with
          | none => rfl
          | some o =>
            rw [(s1.trans s2) p o hp] at np
            cases np
        · refine ⟨_, upd_same, repL_rep (RepL.keep (A := Ad (Av F.A0 os) q) (fun b ob eb nb => ⟨by rw [upd_ne (ne_of_none eb np)]; exact eb, fun z => ?_⟩) ak2 _ _ r1) _⟩
          rcases z with z | z
          · exact nb (.inl z)
          · rw [z] at eb
            rw [eb] at np
            cases np
      · simp only [if_neg c] at e
        cases e
    | _ => cases e
  | _ => cases e

/-! ### methods of texts -/
def OpS (X : Cx) (r : V → List V → Hp → VK → Prop) (op : Str → List D → Option D) : Prop := ∀ (A : Addr → Prop) (H : Hp) (x : Str) (xs : List D) (vs : List V) (d : D) (Q : VK), AOk A H → op x xs = some d → Paired (RepB X.K H A) xs vs →
  (∀ u H', Same H H' → Rep X.K H' A d u → Q u H') → r (.str x) vs H Q
def asStr : D → Option Str
  | .str x => some x
  | _ => none
def mthV (op : Str → List D → Option D) (fo : Env → R D) (g : Env → R (List D)) : Env → R D := fun r => (fo r).bind fun x => (R.ofO (asStr x)).bind fun z => (g r).bind fun ds => R.ofO (op z ds)
theorem d_bm {name : Str} {id : String} {rr : V → List V → Hp → VK → Prop} {op : Str → List D → Option D} (slot : PySem.Slot "str" name id) (hty : typeOf (.builtin id) = pure (.type "method_descriptor")) (hm : MtR X id rr) (h : OpS X rr op) (ho : DB X W o fo) (ha : DBs X W (e :: es) g)
    (hbase : attributeBase o name X.env (eval o X.env) = eval o X.env := by rfl)
    (hfew : ((backTo cpos (starEach (e :: es) X.env)).all (fun x => !x.1) && (backToKw cpos (keywordEach [] X.env)).all (fun x => x.1.isSome)
      && decide ((e :: es).length + ([] : List Keyword).length + (if ([] : List Keyword).isEmpty then 0 else 1) < 30)) = true := by rfl)
    (hline : (apos.endLine == cpos.line) = true := by rfl) (hs : starEach (e :: es) X.env = (false, eval e X.env) :: starEach es X.env := by rfl) (hplain : (backTo cpos (starEach es X.env)).any (·.1) = false := by rfl) :
    DP X W (.Call (.Attribute o name apos) (e :: es) [] cpos) (mthV op fo g) := by
  obtain ⟨to, po, wo⟩ := ho
  obtain ⟨ta, pa, wa⟩ := ha
  refine ⟨_, pe_bm PySem.F.plainAttrs_str slot hty hm po pa hbase hfew hline hs hplain, fun F os r σ H Q R S => wo F os r σ H _ R (S.bind.imp fun d S v H1 s1 h1 => ?_)⟩
  obtain ⟨z, ez, S2⟩ := Sat.ofO S.bind
  clear S
  cases d with
  | str z' =>
    cases ez
    rw [RepB.str h1]
    refine ⟨rfl, wa F os r σ H1 _ (R.same' s1) (S2.bind.imp fun ds S vs H2 s2 h2 => ?_)⟩
    obtain ⟨d, e0, S⟩ := Sat.ofO S
    have R2 := (R.same' s1).same' s2
    exact h _ H2 z ds vs d Q R2.AOk e0 h2 fun u H3 s3 h3 => S u H3 (s1.trans (s2.trans s3)) h3
  | _ => cases ez
def find3D (x : Str) : List D → Option D
  | [.str y, .int i] => some (.int (Txt.find3 x y i))
  | _ => none
/-! ### sum, min, max -/
theorem sumT_raw {prog : Program} {w : World} {A : Around} {E : Value → Shared → Prop} {s : Shared} {l : Addr} {its : List Value} {ns : List Int} {Q : Value → Shared → Prop} (hh : A.handled = none) (hl : s.heap.IsTuple l its.toArray) (hi : PyProof.Rows.IntsAre its ns)
    (h : ∀ h' tk t', (∀ b o, s.heap.get? b = some o → h'.get? b = some o) → Q (.int ns.sum t') { s with heap := h', toks := tk }) : wpAny (model prog w) A (call (.builtin "sum") [.ref l]) Q E s := by
  obtain ⟨xs, e⟩ := hi.allInts.items
  have hn : numsOf (intItems xs).toList = ns := by rw [← e]; exact hi.numsOf
  rw [nums_intItems] at hn
  rw [e] at hl
  have hlt : l < s.heap.objs.size := by
    obtain ⟨_, q, _⟩ := hl
    exact Heap.lt_size q
  have tl : (s.heap.push { cls := .type "tuple_iterator", data := .fields #[.ref l, .int 0 0] }).IsTuple l (intItems xs) := hl.push _
  have ti : (s.heap.push { cls := .type "tuple_iterator", data := .fields #[.ref l, .int 0 0] }).IsTupleIter s.heap.objs.size l 0 := ⟨_, Heap.get?_push_size _ rfl, rfl, rfl⟩
  refine call_sum_walkG (wpAny_pyIter_tuple hl ⟨_, _, _, _, _, _, numAt xs, rfl, Walks.tuple (A := A.in1) hh s.heap.objs.size l (Nat.ne_of_lt hlt) (intItems xs), ⟨ti, tl⟩, fun b hb => ?_, fun _ _ => intItems_at, fun h' tk t' hk => ?_⟩)
  · show b < (s.heap.push _).objs.size
    rw [Heap.size_push]
    rcases List.mem_cons.mp hb with z | z
    · rw [z]; exact Nat.lt_succ_self _
    · rw [List.mem_singleton.mp z]; exact Nat.lt_succ_of_lt hlt
  · have z := h h' tk t' fun b o eb => hk b o (fun hm => by
      rw [List.mem_singleton.mp hm] at eb
      exact Nat.lt_irrefl _ (Heap.lt_size eb)) (Heap.get?_push_of_some _ eb)
    have e3 : (intItems xs).size = xs.size := by simp [intItems]
    rw [e3, preSum_eq, List.take_of_length_le (by simp), hn]
    exact z
def rSum2 (K : PySem.W.Frag) : List V → Hp → VK → Prop := fun vs H Q => ∃ (a : Addr) (ns : List Int), vs = [V.ref a] ∧ (SqL K H a (ns.map V.int) ∨ SqT K H a (ns.map V.int)) ∧ Q (.int ns.sum) H
theorem cr_sum2 (hc : X.calm = true) : CallR X (.builtin "sum") (rSum2 X.K) := by
  intro pins s σ H vs us Q I r h
  obtain ⟨a, ns, e, hs, q⟩ := h
  rcases hs with hs | hs
  · exact cr_sum hc pins s σ H vs us Q I r ⟨a, ns, e, hs, q⟩
  · subst e
    obtain ⟨its, rv, hl, _⟩ := I.tuple hs
    rw [Vals.ref1 r]
    exact sumT_raw (I.ok.hd hc) hl rv.ints fun h' tk t' hk => ⟨.int _, H, I.kept hk, ⟨_, rfl⟩, q⟩
def sumD : List D → Option D
  | [.lst xs] => (intsD xs).map fun ns => .int ns.sum
  | [.tup xs] => (intsD xs).map fun ns => .int ns.sum
  | _ => none
theorem o_sum : OpN X (rSum2 X.K) sumD := by
  intro A H xs vs d Q ak e h k
  match xs, e with
  | [.lst xs], e =>
    obtain ⟨v, ev, h1⟩ := rep1 h
    subst ev
    obtain ⟨ns, e1, e2⟩ := Option.map_eq_some_iff.mp e
    obtain ⟨a, us, ev, q1, q2⟩ := RepB.lst h1
    rw [intsD_rep e1 q2] at q1
    subst e2 ev
    exact ⟨a, ns, rfl, .inl q1, k _ H Same.of_eq (by unfold Rep; rfl)⟩
  | [.tup xs], e =>
    obtain ⟨v, ev, h1⟩ := rep1 h
    subst ev
    obtain ⟨ns, e1, e2⟩ := Option.map_eq_some_iff.mp e
    obtain ⟨a, us, ev, q1, q2⟩ := RepB.tup h1
    rw [intsD_rep e1 q2] at q1
    subst e2 ev
    exact ⟨a, ns, rfl, .inr q1, k _ H Same.of_eq (by unfold Rep; rfl)⟩
def mm2D (F : Int → Int → Int) : List D → Option D
  | [.int i, .int j] => some (.int (F i j))
  | _ => none
/-! ### x.reverse() of an own list -/
variable {x : Str}
def rvsS (i : Nat) : Env → R Fl := fun r => (R.ofO (ownL r i)).bind fun s => .ok (.nx (r.set i (s.1.put (.lst s.2.reverse))))
theorem s_reverse (i : Nat) (hN : X.N[i]? = some x := by rfl) (hv : Vis X.env.scope x := by first | exact Or.inl rfl | exact Or.inr (Or.inl rfl) | exact Or.inr (Or.inr rfl)) (hd : (x == ("__debug__" : Str)) = false := by decide)
    (hcd : (x == ("__classdict__" : Str)) = false := by decide)
    (hbase : attributeBase (.Name x p) "reverse" X.env (eval (.Name x p) X.env) = eval (.Name x p) X.env := by rfl)
    (hline : (apos.endLine == cpos.line) = true := by rfl)
    (hs : swapsWith (.Call (.Attribute (.Name x p) "reverse" apos) [] [] cpos) none pos.line X.env = pure false := by rfl) :
    DS X W (.Expr (.Call (.Attribute (.Name x p) "reverse" apos) [] [] cpos) pos) (rvsS i) := by
  refine ⟨_, ps_expr (pe_bm0 PySem.F.plainAttrs_list PySem.F.slot_list_reverse PySem.F.type_list_reverse mt_reverse (pe_var (i := i) hN hv hd hcd) hbase hline) hs, fun F os r σ H D R S => ?_⟩
  obtain ⟨s0, e0, S⟩ := S.bind.ofO
  obtain ⟨e00, e01⟩ := ownL_ok (s := s0.1) (xs := s0.2) e0
  obtain ⟨a, ea, inA, ys, hy, hr⟩ := R.ownA e00 e01
  refine ⟨_, ea, .inl ⟨rfl, ys, SqL.of hy⟩, a, ys, rfl, rfl, hy, ?_⟩
  have rep' : RepO X.K (upd H a (.lst ys.reverse)) (Av F.A0 os) (.lst s0.2.reverse) a := ⟨_, upd_same, own_upd R.AOk inA (repL_rev hr)⟩
  obtain ⟨R3, k3⟩ := R.updOwn e00 e01 ea rep'
  exact S os σ _ R3 k3
end
end DL

end
section
namespace DL
open PySem L2

/-! ### what a name of the top is good for -/
def Cal (P : Program) (w : World) (K : PySem.W.Frag) (mg : Str → Option Value) (base : Heap) (k : Nat) (x : Str) (n : Nat) (F : List D → R D) : Prop :=
  ∃ (f : Addr) (fd : FuncData) (ps : List Str), FnOk P w K mg base (L2.CX P w) k f fd ps (SpF K mg n F) ∧ mg x = some (.ref f) ∧ PySem.W.keepIn K (.ref f) = true ∧ Binds K fd ps []
def CalIO (P : Program) (w : World) (K : PySem.W.Frag) (mg : Str → Option Value) (base : Heap) (k : Nat) (x : Str) (n : Nat) (F : List D → List D → R (D × List D)) : Prop :=
  ∃ (f : Addr) (fd : FuncData) (ps : List Str), FnOk P w K mg base (L2.CX P w) k f fd ps (SpIO K n F) ∧ mg x = some (.ref f) ∧ PySem.W.keepIn K (.ref f) = true ∧ Binds K fd ps []
section
variable {X : Cx} {W : WX} {e a : Expr} {es : List Expr} {x y : Str} {p py pos : Pos} {k n : Nat} {fa : Env → R D}
theorem takes_no : Takes X WF := fun u s' ⟨_, _, _, _, _, _, _, _, _, _, _, _, _, _, _, _, w⟩ => w.elim
theorem d_fn {F : List D → R D} {g : Env → R (List D)} (c : Cal X.prog X.w X.K X.mg X.base k x n F) (hr : Room k X.A) (hg : Gl X x) (tk : Takes X W) (ha : DPs X W (e :: es) g) (hdb : (x == ("__debug__" : Str)) = false := by decide) (he : starEach (e :: es) X.env = (false, eval e X.env) :: starEach es X.env := by rfl)
    (hpl : (backTo pos (starEach es X.env)).any (·.1) = false := by rfl) : DP X W (.Call (.Name x p) (e :: es) [] pos) (callF n F g) := by
  obtain ⟨f, fd, ps, G, hm, hk, hb⟩ := c
  exact d_call G hr hg hm hk hb tk ha hdb he hpl
theorem e_fnIO (i : Nat) {F : List D → List D → R (D × List D)} {g : Env → R (List D × Env)} (c : CalIO X.prog X.w X.K X.mg X.base k x n F) (hr : Room k X.A) (hg : Gl X x) (tk : Takes X W) (ha : DEs X W es g) (hN : X.N[i]? = some y := by rfl)
    (hv : Vis X.env.scope y := by first | exact Or.inl rfl | exact Or.inr (Or.inl rfl) | exact Or.inr (Or.inr rfl)) (hd : (y == ("__debug__" : Str)) = false := by decide) (hcd : (y == ("__classdict__" : Str)) = false := by decide)
    (hdb : (x == ("__debug__" : Str)) = false := by decide) (he : starEach (.Name y py :: es) X.env = (false, eval (.Name y py) X.env) :: starEach es X.env := by rfl) (hpl : (backTo pos (starEach es X.env)).any (·.1) = false := by rfl) :
    DE X W (.Call (.Name x p) (.Name y py :: es) [] pos) (callIO i n F g) := by
  obtain ⟨f, fd, ps, G, hm, hk, hb⟩ := c
  exact e_callIO G hr hg hm hk hb tk hN hv ha hd hcd hdb he hpl
/-- constants of the top -/
theorem d_gstr {z : Str} (hm : ∃ t, X.mg x = some (.str z t)) (hg : Gl X x) (hdb : (x == ("__debug__" : Str)) = false := by decide) : DP X W (.Name x p) (kc (.str z)) := by
  obtain ⟨t, hm⟩ := hm
  exact d_glob (v := V.str z) hg hm ⟨t, rfl⟩ (fun H A => rep_str) hdb
theorem d_gint {z : Int} (hm : ∃ t, X.mg x = some (.int z t)) (hg : Gl X x) (hdb : (x == ("__debug__" : Str)) = false := by decide) : DP X W (.Name x p) (kc (.int z)) := by
  obtain ⟨t, hm⟩ := hm
  exact d_glob (v := V.int z) hg hm ⟨t, rfl⟩ (fun H A => rep_int) hdb
def negD : D → Option D
  | .int i => some (.int (-i))
  | _ => none
@[simp] def un1 (op : D → Option D) (f : Env → R D) : Env → R D := fun r => (f r).bind fun d => R.ofO (op d)
theorem d_neg (h : DB X W a fa) : DP X W (.UnaryOp .USub a pos) (un1 negD fa) := by
  obtain ⟨t, pe, w⟩ := h
  refine ⟨_, pe_un un_neg pe, fun F os r σ H Q R S => w F os r σ H _ R (S.bind.imp fun d S v H1 s1 h1 => ?_)⟩
  obtain ⟨d2, e2, S⟩ := Sat.ofO S
  cases d with
  | int i =>
    cases e2
    exact ⟨i, RepB.int h1, S _ H1 s1 rep_int⟩
  | _ => cases e2
theorem o_ipI {F : Int → Int → Int} : OpIp X (ipI F) (intOp (fun _ _ => true) F) := by
  intro A H x y v w d Q ak e h1 h2 k
  cases x with
  | int i => cases y with
    | int j =>
      simp only [intOp, if_true] at e
      cases e
      exact ⟨i, j, RepB.int (.inl h1), RepB.int h2, k _ H Same.of_eq rep_int⟩
    | _ => cases e
  | _ => cases e
theorem u65 (hr : Room k X.A) : X.A.units + 65 < cLine := by
  have := hr.un
  omega
end
section
variable {P : Program} {w : World} {K : PySem.W.Frag} {mg : Str → Option Value} {base : Heap} {x qual : Str} {params : Arguments} {body : List Stmt} {scope : Scope} {f : Addr} {fd : FuncData}
theorem cal_of {N ps : List Str} {k : Nat} {b : Env → R Fl} (F : FunD K x qual params body scope [] [] f fd) (S : FnScope N ps scope) (hm : mg x = some (.ref f)) (hp : ps.length ≤ N.length)
    (hbi : ∀ (kV doc pm : Value) (an : Option Addr) (cdv ct : Value) (us : List Value), us.length = ps.length → bindArgs (PySem.W.fnOf x qual params body scope .none kV doc pm an cdv ct) ⟨us, []⟩ = pure (ps.zip us))
    (hb : ∀ (cdv : Value) (A : Around) (outer : List PySem.Env) (s : Shared) (H : Hp) (E : XK), Room k (A.deeper (PyProof.Rows.envOfC qual scope s.heap.objs.size f cdv)) →
      DSs (cxOf (L2.CX P w) P w K mg base N qual scope f cdv A outer s H E) (fun cls d _ H' => E cls d H') body b) : Cal P w K mg base (k + 1) x ps.length (fnD N.length ps.length b) :=
  ⟨f, fd, ps, fn_ok F S hp hb, hm, F.kp, F.bindsN hbi⟩
theorem calio_of {N ps : List Str} {q : Str} {k : Nat} {b : Env → R Fl} (F : FunD K x qual params body scope [] [] f fd) (S : FnScope N (q :: ps) scope) (hm : mg x = some (.ref f)) (hp : ps.length + 1 ≤ N.length)
    (hbi : ∀ (kV doc pm : Value) (an : Option Addr) (cdv ct : Value) (us : List Value), us.length = (q :: ps).length → bindArgs (PySem.W.fnOf x qual params body scope .none kV doc pm an cdv ct) ⟨us, []⟩ = pure ((q :: ps).zip us))
    (hb : ∀ (cdv : Value) (A : Around) (outer : List PySem.Env) (s : Shared) (H : Hp) (E : XK), Room k (A.deeper (PyProof.Rows.envOfC qual scope s.heap.objs.size f cdv)) →
      DSs (cxOf (L2.CX P w) P w K mg base N qual scope f cdv A outer s H E) (fun cls d _ H' => E cls d H') body b) : CalIO P w K mg base (k + 1) x ps.length (fnIO N.length ps.length b) :=
  ⟨f, fd, q :: ps, fnio_ok F S hp hb, hm, F.kp, F.bindsN hbi⟩
end
end DL

end
section
namespace DL
open PySem L2
/-- a law that is a function of data: true of every list of ints -/
theorem walk_data {l : PySem.W.OpenLaw} {n k : Nat} {q : Program} {loose : List Str} {XP : (Str → Option Value) → Heap → Prop} {YP : World → Heap → Prop} {d : DefRec} {x : Str} {G : List D → R D}
    (hn : l.most = some n) (hn2 : n ≤ sizeLine) (hdf : d.params.defaults = []) (hr : Room k PySem.callerA)
    (hF : ∀ (w : World) (mg : Str → Option Value) (fa : Addr) (h : Heap), YP w h → h.Ns mainGlobals mg → mg d.name = some (.ref fa) →
      ∃ (K : PySem.W.Frag) (fd : FuncData), K.In h ∧ (∀ (s : Shared) (u : Value), BindsTo s fd ⟨[u], []⟩ [(x, u)]) ∧ ∀ base : Heap, K.In base → base.Ns mainGlobals mg → FnOk l.prog w K mg base (L2.CX l.prog w) k fa fd [x] (SpF K mg 1 G))
    (hG : ∀ ns : List Int, ns.length ≤ n → G [.lst (ns.map D.int)] = .ok (.bl true)) : PySem.W.WalkO q loose XP YP l.row.toRowW d [] (fun f vs => PySem.call f vs) := by
  refine Att.attach_call hn hdf fun w s0 s1 mg mb fa o pm cd doc a vs ns Gr Y ho hd hcd hmg hob hin hle hge => ?_
  obtain ⟨K, fd, KX, hb, hok⟩ := hF w mg fa _ Y Gr.T.g hmg
  refine law_call KX Gr.T.g Gr.T.b Gr.T.builtins Gr.T.nolimit hge hob hin (Nat.le_trans hle hn2) hr hok hb (fun H _ hS => ?_) fun H e s' c => ?_
  · refine ⟨rfl, fun _ => False, [.lst (ns.map D.int)], fun a z => z.elim, ?_, ?_⟩
    · unfold RepL
      refine ⟨.ref a, [], rfl, ?_, by unfold RepL; rfl⟩
      unfold Rep
      refine ⟨a, ns.map V.int, rfl, ?_, ?_⟩
      · rcases hS with z | z
        · exact .inl ⟨z, id⟩
        · exact .inr z
      · clear hS hle hin
        induction ns with
        | nil => unfold RepL; rfl
        | cons i r ih =>
          rw [List.map_cons, List.map_cons]
          unfold RepL
          exact ⟨_, _, rfl, by unfold Rep; rfl, ih⟩
    · rw [hG ns hle]
      intro v H' _ h
      unfold Rep at h
      exact h
  · obtain ⟨_, _, _, _, _, _, _, _, _, _, _, _, z⟩ := c
    exact z
end DL

end
section
namespace DL
open PySem L2

/-! ### dicts of ints and texts -/
def keyD : D → Option Key
  | .int i => some (.inl i)
  | .str x => some (.inr x)
  | _ => none
def getD_ (kvs : List (Key × D)) (k : Key) : Option D := (kvs.find? fun kv => decide (kv.1 = k)).map (·.2)
def putD (kvs : List (Key × D)) (k : Key) (v : D) : List (Key × D) :=
  if (kvs.any fun kv => decide (kv.1 = k)) = true then kvs.map (fun kv => if kv.1 = k then (kv.1, v) else kv) else kvs ++ [(k, v)]
section
variable {K : PySem.W.Frag} {H : Hp} {A : Addr → Prop}
theorem keyD_v {d : D} {k : Key} {v : V} (e : keyD d = some k) (h : RepB K H A d v) : v = kV k := by
  cases d with
  | int i => cases e; rw [RepB.int h]; rfl
  | str i => cases e; rw [RepB.str h]; rfl
  | _ => cases e
theorem repK_cons {k : Key} {d : D} {ds : List (Key × D)} {vs : List (Key × V)} (h : RepK K H A ((k, d) :: ds) vs) : ∃ v r, vs = (k, v) :: r ∧ Rep K H A d v ∧ RepK K H A ds r := by
  unfold RepK at h
  exact h
theorem repK_mk {k : Key} {d : D} {ds : List (Key × D)} {v : V} {r : List (Key × V)} (h : Rep K H A d v) (h2 : RepK K H A ds r) : RepK K H A ((k, d) :: ds) ((k, v) :: r) := by
  unfold RepK
  exact ⟨v, r, rfl, h, h2⟩
theorem repK_get : ∀ {ds : List (Key × D)} {vs : List (Key × V)} (k : Key), RepK K H A ds vs → (∀ d, getD_ ds k = some d → ∃ v, valV vs k = some v ∧ Rep K H A d v) ∧ (getD_ ds k = none → valV vs k = none)
  | [], vs, k, h => by
    unfold RepK at h
    subst h
    exact ⟨fun d e => (nomatch e), fun _ => rfl⟩
  | (q, d) :: ds, vs, k, h => by
    obtain ⟨v, r, e, h1, h2⟩ := repK_cons h
    subst e
    obtain ⟨i1, i2⟩ := repK_get k h2
    by_cases hq : q = k
    · have e1 : getD_ ((q, d) :: ds) k = some d := by simp [getD_, List.find?_cons, hq]
      have e2 : valV ((q, v) :: r) k = some v := valV_pos hq
      rw [e1, e2]
      exact ⟨fun d' e => by cases e; exact ⟨v, rfl, h1⟩, fun e => (nomatch e)⟩
    · have e1 : getD_ ((q, d) :: ds) k = getD_ ds k := by simp [getD_, List.find?_cons, hq]
      have e2 : valV ((q, v) :: r) k = valV r k := valV_neg hq
      rw [e1, e2]
      exact ⟨i1, i2⟩
theorem repK_any : ∀ {ds : List (Key × D)} {vs : List (Key × V)} (k : Key), RepK K H A ds vs → (vs.any fun kv => decide (kv.1 = k)) = ds.any fun kv => decide (kv.1 = k)
  | [], vs, k, h => by unfold RepK at h; subst h; rfl
  | (q, d) :: ds, vs, k, h => by
    obtain ⟨v, r, e, h1, h2⟩ := repK_cons h
    subst e
    rw [List.any_cons, List.any_cons, repK_any k h2]
theorem repK_map {d : D} {v : V} (k : Key) (hd : Rep K H A d v) : ∀ {ds : List (Key × D)} {vs : List (Key × V)}, RepK K H A ds vs → RepK K H A (ds.map fun kv => if kv.1 = k then (kv.1, d) else kv) (vs.map fun kv => if kv.1 = k then (kv.1, v) else kv)
  | [], vs, h => by unfold RepK at h; subst h; unfold RepK; rfl
  | (q, e) :: ds, vs, h => by
    obtain ⟨u, r, ev, h1, h2⟩ := repK_cons h
    subst ev
    rw [List.map_cons, List.map_cons]
    by_cases hq : q = k
    · simp only [if_pos hq]
      exact repK_mk hd (repK_map k hd h2)
    · simp only [if_neg hq]
      exact repK_mk h1 (repK_map k hd h2)
theorem repK_snoc {d : D} {v : V} (k : Key) (hd : Rep K H A d v) : ∀ {ds : List (Key × D)} {vs : List (Key × V)}, RepK K H A ds vs → RepK K H A (ds ++ [(k, d)]) (vs ++ [(k, v)])
  | [], vs, h => by
    unfold RepK at h
    subst h
    exact repK_mk hd (by unfold RepK; rfl)
  | (q, e) :: ds, vs, h => by
    obtain ⟨u, r, ev, h1, h2⟩ := repK_cons h
    subst ev
    exact repK_mk h1 (repK_snoc k hd h2)
theorem repK_put {ds : List (Key × D)} {vs : List (Key × V)} {d : D} {v : V} (k : Key) (h : RepK K H A ds vs) (hd : Rep K H A d v) : RepK K H A (putD ds k d) (putK vs k v) := by
  unfold putD putK
  rw [repK_any k h]
  split
  · exact repK_map k hd h
  · exact repK_snoc k hd h
theorem repK_len : ∀ {ds : List (Key × D)} {vs : List (Key × V)}, RepK K H A ds vs → vs.length = ds.length
  | [], vs, h => by unfold RepK at h; subst h; rfl
  | (q, e) :: ds, vs, h => by
    obtain ⟨u, r, ev, h1, h2⟩ := repK_cons h
    subst ev
    rw [List.length_cons, List.length_cons, repK_len h2]
end
section
variable {X : Cx} {W : WX} {e a b c o : Expr} {es : List Expr} {p pos apos cpos : Pos} {f fa fb fc fo : Env → R D} {g : Env → R (List D)} {x : Str} {k : Nat}
/-- the dict that a slot holds and may change -/
def ownK (r : Env) (i : Nat) : Option (Slot × List (Key × D)) := match r[i]? with
  | some s => match s.cont with
    | some (.dct xs) => some (s, xs)
    | _ => none
  | none => none
theorem ownK_ok {r : Env} {i : Nat} {s : Slot} {xs : List (Key × D)} (e : ownK r i = some (s, xs)) : r[i]? = some s ∧ s.cont = some (.dct xs) := by
  unfold ownK at e
  cases q : r[i]? with
  | none => rw [q] at e; cases e
  | some s' =>
    rw [q] at e
    simp only at e
    split at e
    · rename_i xs' q2
      cases e
      exact ⟨rfl, q2⟩
    · cases e
def putS (i : Nat) (fk : Env → R D) (fe : Env → R D) : Env → R Fl := fun r => (fe r).bind fun d => (R.ofO (ownK r i)).bind fun s => (fk r).bind fun k => (R.ofO (keyD k)).bind fun k => if s.2.length < sizeLine then .ok (.nx (r.set i (s.1.put (.dct (putD s.2 k d))))) else .stk
theorem s_dput (i : Nat) {ix : Expr} {p2 : Pos} {fk fe : Env → R D} (hr : Room k X.A) (h : DP X W e fe) (h2 : DB X W ix fk) (hN : X.N[i]? = some x := by rfl) (hv : Vis X.env.scope x := by first | exact Or.inl rfl | exact Or.inr (Or.inl rfl) | exact Or.inr (Or.inr rfl)) (hd : (x == ("__debug__" : Str)) = false := by decide)
    (hcd : (x == ("__classdict__" : Str)) = false := by decide) (hs : swapsWith e (some (.Subscript (.Name x p) ix p2)) pos.line X.env = pure false := by rfl) : DS X W (.Assign [.Subscript (.Name x p) ix p2] e pos) (putS i fk fe) := by
  obtain ⟨t, pe, w⟩ := h
  obtain ⟨t2, pe2, w2⟩ := h2
  refine ⟨_, ps_dput (by have := hr.units0; have := hr.units; omega) (pe_var (i := i) hN hv hd hcd) pe2 pe hs, fun F os r σ H D R S => w F os r σ H _ R (S.bind.imp fun d S v H1 s1 h1 => ?_)⟩
  obtain ⟨s0, e0, S⟩ := S.bind.ofO
  obtain ⟨e00, e01⟩ := ownK_ok (s := s0.1) (xs := s0.2) e0
  have R1 := R.same' s1
  obtain ⟨ad, ea, inA, rp⟩ := R1.ownA e00 e01
  refine ⟨_, ea, w2 F os r σ H1 _ R1 (S.bind.imp fun dk S vk H2 s2 h2 => ?_)⟩
  obtain ⟨kk, ek, S2⟩ := Sat.ofO S.bind
  have R2 := R1.same' s2
  obtain ⟨ad', ea', inA', vs, hy, hrk⟩ := R2.ownA e00 e01
  rw [ea] at ea'
  cases ea'
  by_cases hl : s0.2.length < sizeLine
  · rw [if_pos hl] at S2
    have rep' : RepO X.K (upd H2 ad (.dK (putK vs kk v))) (Av F.A0 os) (.dct (putD s0.2 kk d)) ad := ⟨_, upd_same, RepK.keep (fun b o eb nb => ⟨by rw [upd_ne (fun z => nb (by rw [z]; exact inA'))]; exact eb, nb⟩) R2.AOk _ _ (repK_put kk hrk (h1.same s2 R1.AOk))⟩
    obtain ⟨R3, k3⟩ := R2.updOwn e00 e01 ea rep'
    exact ⟨ad, _, rfl, by rw [keyD_v ek h2]; exact DPut.k hy (by rw [repK_len hrk]; exact hl), S2 os σ _ R3 ((Keep.of (s1.trans s2)).trans k3)⟩
  · rw [if_neg hl] at S2
    exact S2.elim
/-- d[k], there -/
def dgetD : D → D → Option D
  | .dct kvs, k => (keyD k).bind fun k => getD_ kvs k
  | .dctF kvs, k => (keyD k).bind fun k => getD_ kvs k
  | _, _ => none
theorem RepB.dctF {K : PySem.W.Frag} {H : Hp} {A : Addr → Prop} {ds : List (Key × D)} {v : V} (h : RepB K H A (.dctF ds) v) : ∃ a o xs, v = .ref a ∧ H a = some (.frz o (.dK xs)) ∧ ¬ A a ∧ RepK K H A ds xs := by
  rcases h with h | ⟨a, e, h⟩
  · unfold Rep at h
    exact h
  · exact h.elim
theorem d_dget (hr : Room k X.A) (ha : DB X W a fa) (hb : DB X W b fb) (hs : NoSl b := by exact fun _ _ => rfl) : DP X W (.Subscript a b pos) (bin dgetD fa fb) := by
  obtain ⟨ta, pa, wa⟩ := ha
  obtain ⟨tb, pb, wb⟩ := hb
  refine ⟨_, pe_dget (by have := hr.units; omega) pa pb hs, fun F os r σ H Q R S => wa F os r σ H _ R (S.bind.imp fun d S v H1 s1 h1 => wb F os r σ H1 _ (R.same' s1) (S.bind.imp fun d2 S v2 H2 s2 h2 => ?_))⟩
  obtain ⟨d3, e3, S3⟩ := Sat.ofO S
  clear S
  cases d with
  | dct kvs =>
    obtain ⟨kk, ek, e3⟩ := Option.bind_eq_some_iff.mp e3
    have R1 := R.same' s1
    obtain ⟨ad, vs, ev, hy, hrk⟩ := RepB.dct (h1.same s2 R1.AOk)
    obtain ⟨u, e4, h4⟩ := (repK_get kk hrk).1 d3 e3
    refine ⟨ad, u, ev, ?_, S3 u H2 (s1.trans s2) h4⟩
    rw [keyD_v ek h2]
    have := DGet.k (k := kk) hy
    rw [e4] at this
    exact this
  | dctF kvs =>
    obtain ⟨kk, ek, e3⟩ := Option.bind_eq_some_iff.mp e3
    have R1 := R.same' s1
    obtain ⟨ad, o, vs, ev, hy, _, hrk⟩ := RepB.dctF (h1.same s2 R1.AOk)
    obtain ⟨u, e4, h4⟩ := (repK_get kk hrk).1 d3 e3
    refine ⟨ad, u, ev, ?_, S3 u H2 (s1.trans s2) h4⟩
    rw [keyD_v ek h2, ← e4]
    exact .inl ⟨vs, kk, .inr ⟨o, hy⟩, rfl, rfl⟩
  | _ => cases e3
def rInDict (n : Bool) : R2 := fun y x H Q => ∃ a o, x = V.ref a ∧ DGet H a y o ∧ Q (.bl (if n then !o.isSome else o.isSome)) H
def inDictD (n : Bool) : D → D → Option D
  | k, .dct kvs => (keyD k).map fun k => .bl (if n then !(getD_ kvs k).isSome else (getD_ kvs k).isSome)
  | k, .dctF kvs => (keyD k).map fun k => .bl (if n then !(getD_ kvs k).isSome else (getD_ kvs k).isSome)
  | _, _ => none
/-- in, not in: of texts, lists, tuples, dicts -/
def inA (n : Bool) (x y : D) : Option D := match y with
  | .dct _ => inDictD n x y
  | .dctF _ => inDictD n x y
  | _ => inB n x y
/-- list(d): its keys -/
def keyV : Key → D
  | .inl i => .int i
  | .inr x => .str x
def lstKD : List D → Option D
  | [.dct kvs] => some (.lst (kvs.map fun kv => keyV kv.1))
  | [.dctF kvs] => some (.lst (kvs.map fun kv => keyV kv.1))
  | _ => none
def rLstD : List V → Hp → VK → Prop := fun xs H Q => ∃ (a : Addr) (kvs : List (Key × V)), xs = [V.ref a] ∧ Rd H a (.dK kvs) ∧ ∀ p, H p = none → Q (.ref p) (upd H p (.lst (kvs.map fun kv => kV kv.1)))
end
end DL

end
section
namespace DL
open PySem L2

/-! ### sorted, of texts, any number -/
/-- what a sort of values is asked -/
def SortOk (X : Cx) (vs : List Value) (ltv : Value → Value → Bool) (h : Heap) : Prop :=
  ∀ (A : Around) (s : Shared), (∀ b o, h.get? b = some o → s.heap.get? b = some o) → ∃ κ,
    (∀ (Q : PyProof.Rows.SortKind → Shared → Prop) (E : Value → Shared → Prop), Q κ s → wpAny (model X.prog X.w) A (PyProof.Rows.keyKind' vs.toArray) Q E s) ∧
    SrtO.Cmp X.prog X.w A s κ (fun p => p.fst ∈ vs) (SrtO.lt2 ltv)
/-- the order of texts -/
def cpsV : Value → List Nat
  | .str a _ => a.cps.toList
  | _ => []
def ltS (u v : Value) : Bool := decide (cpsV u < cpsV v)
theorem swoS : SrtO.Swo ltS where
  asym x y h := by
    have := of_decide_eq_true h
    exact decide_eq_false (List.lt_asymm this)
  tr x y z h1 h2 := by
    have h1 := of_decide_eq_false h1
    have h2 := of_decide_eq_false h2
    exact decide_eq_false fun h => (List.not_lt.mpr (List.le_trans (List.not_lt.mp h1) (List.not_lt.mp h2))) h
def leS (a b : Str) : Bool := !decide (b.cps.toList < a.cps.toList)
theorem leS_iff {a b : Str} : leS a b = true ↔ a.cps.toList ≤ b.cps.toList := by
  unfold leS
  rw [Bool.not_eq_true', decide_eq_false_iff_not]
  exact List.not_lt
theorem leS_antisymm {a b : Str} (h1 : leS a b = true) (h2 : leS b a = true) : a = b := by
  have e := List.le_antisymm (leS_iff.mp h1) (leS_iff.mp h2)
  cases a
  cases b
  congr 1
  exact Array.toList_inj.mp e
def sortStr (l : List Str) : List Str := l.mergeSort leS
theorem sortStr_pw (l : List Str) : (sortStr l).Pairwise fun a b => leS a b = true :=
  List.pairwise_mergeSort (le := leS) (fun a b c h1 h2 => leS_iff.mpr (List.le_trans (leS_iff.mp h1) (leS_iff.mp h2))) (fun a b => by
    have : leS a b = true ∨ leS b a = true := by rw [leS_iff, leS_iff]; exact List.le_total _ _
    cases this with
    | inl e => rw [e]; rfl
    | inr e => rw [e]; exact Bool.or_true _) l
theorem sortStr_uniq {l ys : List Str} (p : ys.Perm l) (h : ys.Pairwise fun a b => leS a b = true) : ys = sortStr l :=
  List.Perm.eq_of_pairwise (fun a b _ _ h1 h2 => leS_antisymm h1 h2) h (sortStr_pw l) (p.trans (List.mergeSort_perm l leS).symm)
def rSortedSA (K : PySem.W.Frag) : List V → Hp → VK → Prop := fun vs H Q => ∃ (a : Addr) (xs : List Str), vs = [V.ref a] ∧ SqL K H a (xs.map V.str) ∧ ∀ p : Addr, H p = none → Q (.ref p) (upd H p (.lst ((sortStr xs).map V.str)))
/-- sorted(list of texts) -/
def strsOf : List D → Option (List Str)
  | [] => some []
  | .str x :: r => (strsOf r).map fun l => x :: l
  | _ :: _ => none
def srtStrD : List D → Option D
  | [.lst ds] => (strsOf ds).map fun ss => .lst ((sortStr ss).map D.str)
  | _ => none
theorem strsOf_map : ∀ {ds : List D} {ss : List Str}, strsOf ds = some ss → ds = ss.map D.str
  | [], ss, h => by cases h; rfl
  | d :: ds, ss, h => by
    cases d with
    | str x =>
      obtain ⟨r, e, e2⟩ := Option.map_eq_some_iff.mp h
      subst e2
      rw [strsOf_map e]
      rfl
    | _ => cases h
theorem repL_strs' {K : PySem.W.Frag} {H : Hp} {A : Addr → Prop} : ∀ ss : List Str, RepL K H A (ss.map D.str) (ss.map V.str)
  | [] => by unfold RepL; rfl
  | s :: r => by
    rw [List.map_cons, List.map_cons]
    unfold RepL
    exact ⟨_, _, rfl, by unfold Rep; rfl, repL_strs' r⟩
end DL

end
section
namespace DL
open PySem L2

/-! ### sorted, of tuples of ints that are not empty, any number -/
def ltI (h : Heap) (u v : Value) : Bool := decide (TS.intsOf h u < TS.intsOf h v)
def TupsNe (h : Heap) (vs : List Value) : Prop := ∀ v ∈ vs, ∃ ns, TS.TupInts h v ns ∧ ns ≠ []
def TupI (K : PySem.W.Frag) (H : Hp) (x : V) (ns : List Int) : Prop := ∃ t, x = .ref t ∧ SqT K H t (ns.map V.int)
def rSortedTA (K : PySem.W.Frag) : List V → Hp → VK → Prop := fun vs H Q => ∃ (a : Addr) (xs : List V), vs = [V.ref a] ∧ SqL K H a xs ∧ (∀ x ∈ xs, ∃ ns, DL.TupI K H x ns ∧ ns ≠ []) ∧
  ∀ (ys : List V) (p : Addr), ys.Perm xs → (ys.Pairwise fun x y => ∀ n m, DL.TupI K H x n → DL.TupI K H y m → n ≤ m) → H p = none → Q (.ref p) (upd H p (.lst ys))
/-- sorted(list of tuples of ints) -/
def intsOf : List D → Option (List Int)
  | [] => some []
  | .int x :: r => (intsOf r).map fun l => x :: l
  | _ :: _ => none
def tupsOf : List D → Option (List (List Int))
  | [] => some []
  | .tup x :: r => (intsOf x).bind fun ns => if ns = [] then none else (tupsOf r).map fun l => ns :: l
  | _ :: _ => none
def leI (a b : List Int) : Bool := !decide (b < a)
def sortInts (l : List (List Int)) : List (List Int) := l.mergeSort leI
def tupD (ns : List Int) : D := .tup (ns.map D.int)
def srtTupD : List D → Option D
  | [.lst ds] => (tupsOf ds).map fun ss => .lst ((sortInts ss).map tupD)
  | _ => none
def srtD (l : List D) : Option D := match srtStrD l with
  | some d => some d
  | none => srtTupD l
end DL

end
section
namespace DL
open PySem L2

/-! ### x[::-1] of a text -/
def revStr (x : Str) : Str := ⟨x.cps.toList.reverse.toArray⟩
def tRevS (te : TE) : TE := fun σ H Q => te σ H fun x H1 => ∃ a, x = V.str a ∧ a.length ≤ sizeLine ∧ Q (.str (revStr a)) H1
section
variable {X : Cx} {e : Expr} {te : TE} {k : Nat} {p1 p2 p3 pos : Pos}
def revSD : D → Option D
  | .str x => if x.length ≤ sizeLine then some (.str (revStr x)) else none
  | _ => none
end
end DL

end
section
namespace DL
open PySem L2

/-! ### max of a list of ints -/
def maxLD : List D → Option D
  | [.lst xs] => (intsD xs).bind fun ns => ns.max?.map D.int
  | _ => none
theorem max_uniq {ns : List Int} {m z : Int} (h : ns.max? = some m) (i : z ∈ ns) (g : ∀ y ∈ ns, y ≤ z) : z = m := by
  obtain ⟨h1, h2⟩ := List.max?_eq_some_iff.mp h
  exact Int.le_antisymm (h2 z i) (g m h1)
theorem o_maxL {X : Cx} : OpN X (rMax X.K) maxLD := by
  intro A H xs vs d Q ak e h k
  match xs, e with
  | [.lst xs], e =>
    obtain ⟨v, ev, h1⟩ := rep1 h
    subst ev
    obtain ⟨ns, e1, e2⟩ := Option.bind_eq_some_iff.mp e
    obtain ⟨m, e3, e4⟩ := Option.map_eq_some_iff.mp e2
    obtain ⟨a, us, ev, q1, q2⟩ := RepB.lst h1
    rw [intsD_rep e1 q2] at q1
    subst e4 ev
    refine ⟨a, ns, rfl, q1, ?_, fun z i g => ?_⟩
    · cases ns with
      | nil => cases e3
      | cons _ _ => exact Nat.succ_pos _
    · rw [max_uniq e3 i g]
      exact k _ H Same.of_eq (by unfold Rep; rfl)
end DL

end
section
namespace DL
open PySem L2

/-! ### a text times a number -/
def rMulS : R2 := fun x y H Q => ∃ (a : Str) (k : Int), x = .str a ∧ y = .int k ∧ k ≤ 1000 ∧ -1000 ≤ k ∧ a.length ≤ 1000 ∧ Q (.str (Txt.mul a k)) H
def mulSD : D → D → Option D
  | .str a, .int k => if k ≤ 1000 ∧ -1000 ≤ k ∧ a.length ≤ 1000 then some (.str (Txt.mul a k)) else none
  | _, _ => none
/-! ### a tuple times a number -/
theorem tuple_mul1 (l : Addr) (items : Array Value) (n : Nat) (dd : Option Addr) (sl : Array (Option Value)) (u : Tok) :
    Meets (Builtin.«tuple.__mul__» ⟨[.ref l, .int 1 u], []⟩) (fun _ R s => s.heap.get? l = some { cls := .type "tuple", dict := dd, data := .seq items n, slots := sl } ∧ R (.ok (.ret (Value.ref l))) s) :=
  .of_wp fun prog w A R s h => by
    obtain ⟨hp, g, d, tk, os⟩ := s
    obtain ⟨hl, h⟩ := h
    have f1 := AutoSeq1.idx_int
    wp_walk using wpAny_loadPart' hl
    repeat (first
      | (refine wpAny_ite_false (by decide) ?_; wp_walk using wpAny_loadPart' hl)
      | (refine wpAny_ite_true (by simp) ?_; wp_walk using wpAny_loadPart' hl))
    exact ⟨_, rfl, h⟩
def rMulT (K : PySem.W.Frag) : R2 := fun x y H Q => rRepT K x y H Q ∨ ∃ (l : Addr) (xs : List V), x = .ref l ∧ y = .int 1 ∧ SqT K H l xs ∧ Q (.ref l) H
theorem op_mul1 {X : Cx} : OpR X (binaryOp .Mult) (fun x y H Q => ∃ (l : Addr) (xs : List V), x = .ref l ∧ y = .int 1 ∧ SqT X.K H l xs ∧ Q (.ref l) H) := by
  intro pins s σ H x y v u Q I rx ry h
  obtain ⟨l, xs, rfl, rfl, hT, q⟩ := h
  cases rx
  obtain ⟨t, rfl⟩ := ry
  obtain ⟨its, r, ⟨⟨cls, dd, data, sl⟩, ho, hc, n, hd⟩, hs⟩ := I.tuple hT
  simp only at hc hd
  subst hc hd
  exact wpAny_binaryOp_repeat_ref (T := "tuple") (U := "int") (by decide) ⟨_, ho, rfl⟩ (fun s' => typeIs_int s' 1 t) noFill_tuple_mul F.fills_int_mul F.slot_int_rmul repeat_tuple F.slot_int_index.lookup
    (PySem.call_meets F.slot_int_rmul (typeIs_int s 1 t) F.entry_int_rmul (F.args_int_rmul_2 _ _) (int_rmul_tuple 1 t l its.toArray n dd sl)
      ⟨ho, rfl, ⟨_, ho, rfl⟩, PySem.call_meets F.slot_tuple_mul ⟨_, ho, rfl⟩ F.entry_tuple_mul (F.args_tuple_mul_2 _ _) (tuple_mul1 l its.toArray n dd sl t) ⟨ho, ⟨.ref l, H, I, rfl, q⟩⟩⟩)
theorem op_mulT {X : Cx} : OpR X (binaryOp .Mult) (rMulT X.K) := op_repT.or op_mul1
def mulTD : D → D → Option D
  | .tup xs, .int k => if xs.isEmpty = false ∧ 1 ≤ k ∧ k ≤ 1000 ∧ xs.length ≤ 1000 then some (.tup (List.replicate k.toNat xs).flatten) else none
  | _, _ => none
theorem o_mulT {X : Cx} : Op2 X (rMulT X.K) mulTD := by
  intro A H x y v w d Q ak e hx hy q
  cases x with
  | tup xs =>
    cases y with
    | int k =>
      unfold mulTD at e
      simp only at e
      split at e
      · rename_i h
        cases e
        obtain ⟨a, vs, e1, h1, h2⟩ := hx.tup
        have hl := repL_length h2
        have hne : vs ≠ [] := fun z => by
          rw [z] at hl
          cases xs with
          | nil => simp at h
          | cons _ _ => simp at hl
        by_cases hk : k = 1
        · subst hk
          refine .inr ⟨a, vs, e1, hy.int, h1, q _ H (Same.refl H) ?_⟩
          have e2 : (List.replicate (1 : Int).toNat xs).flatten = xs := by simp
          rw [e2, ← e1]
          rcases hx with z | ⟨_, _, z⟩
          · exact z
          · exact z.elim
        · refine .inl ⟨a, k, vs, e1, hy.int, h1, hne, by omega, h.2.2.1, by omega, fun p np => q _ _ (same_upd np) (rep_newtup ak (repL_rep h2 _) np)⟩
      · cases e
    | _ => cases e
  | _ => cases e

/-! ### methods of lists -/
def OpL (X : Cx) (r : V → List V → Hp → VK → Prop) (op : List D → List D → Option D) : Prop := ∀ (A : Addr → Prop) (H : Hp) (x : List D) (xs : List D) (v : V) (vs : List V) (d : D) (Q : VK), AOk A H → op x xs = some d → RepB X.K H A (.lst x) v → Paired (RepB X.K H A) xs vs →
  (∀ u H', Same H H' → Rep X.K H' A d u → Q u H') → r v vs H Q
def asLst : D → Option (List D)
  | .lst x => some x
  | _ => none
def mthL (op : List D → List D → Option D) (fo : Env → R D) (g : Env → R (List D)) : Env → R D := fun r => (fo r).bind fun x => (R.ofO (asLst x)).bind fun z => (g r).bind fun ds => R.ofO (op z ds)
section
variable {X : Cx} {W : WX} {o e : Expr} {es : List Expr} {name : Str} {id : String} {apos cpos : Pos} {fo : Env → R D} {g : Env → R (List D)}
theorem d_ml {rr : V → List V → Hp → VK → Prop} {op : List D → List D → Option D} (slot : PySem.Slot "list" name id) (hty : typeOf (.builtin id) = pure (.type "method_descriptor")) (hm : MtR X id rr) (h : OpL X rr op) (ho : DB X W o fo) (ha : DBs X W (e :: es) g)
    (hbase : attributeBase o name X.env (eval o X.env) = eval o X.env := by rfl)
    (hfew : ((backTo cpos (starEach (e :: es) X.env)).all (fun x => !x.1) && (backToKw cpos (keywordEach [] X.env)).all (fun x => x.1.isSome)
      && decide ((e :: es).length + ([] : List Keyword).length + (if ([] : List Keyword).isEmpty then 0 else 1) < 30)) = true := by rfl)
    (hline : (apos.endLine == cpos.line) = true := by rfl) (hs : starEach (e :: es) X.env = (false, eval e X.env) :: starEach es X.env := by rfl) (hplain : (backTo cpos (starEach es X.env)).any (·.1) = false := by rfl) :
    DP X W (.Call (.Attribute o name apos) (e :: es) [] cpos) (mthL op fo g) := by
  obtain ⟨to, po, wo⟩ := ho
  obtain ⟨ta, pa, wa⟩ := ha
  refine ⟨_, pe_bm PySem.F.plainAttrs_list slot hty hm po pa hbase hfew hline hs hplain, fun F os r σ H Q R S => wo F os r σ H _ R (S.bind.imp fun d S v H1 s1 h1 => ?_)⟩
  obtain ⟨z, ez, S2⟩ := Sat.ofO S.bind
  clear S
  cases d with
  | lst z' =>
    cases ez
    obtain ⟨a, us, ev, q1, q2⟩ := RepB.lst h1
    subst ev
    refine ⟨.inl ⟨rfl, us, q1⟩, wa F os r σ H1 _ (R.same' s1) (S2.bind.imp fun ds S vs H2 s2 h2 => ?_)⟩
    obtain ⟨d, e0, S⟩ := Sat.ofO S
    have R1 := R.same' s1
    have R2 := R1.same' s2
    exact h _ H2 z ds (.ref a) vs d Q R2.AOk e0 (h1.same s2 R1.AOk) h2 fun u H3 s3 h3 => S u H3 (s1.trans (s2.trans s3)) h3
  | _ => cases ez
end
/-- l.index(x) -/
def indexLD : List D → List D → Option D
  | ds, [x] => if shp (.lst ds) && shp x then (ds.findIdx? fun y => eqPy y x).map fun j => .int (j : Nat) else none
  | _, _ => none
theorem toPyL_get : ∀ (ds : List D) (i : Nat), (toPyL ds)[i]? = ds[i]?.map toPy
  | [], i => by simp [toPyL]
  | d :: ds, 0 => by simp [toPyL]
  | d :: ds, i + 1 => by
    simp only [toPyL, List.getElem?_cons_succ]
    exact toPyL_get ds i
theorem o_indexL {X : Cx} : OpL X (rIndexD X.K) indexLD := by
  intro A H x xs v vs d Q ak e hx h k
  match xs, e with
  | [y], e =>
    unfold indexLD at e
    simp only at e
    split at e
    · rename_i hs
      rw [Bool.and_eq_true] at hs
      cases q : x.findIdx? fun z => eqPy z y with
      | none => rw [q] at e; cases e
      | some j =>
        rw [q] at e
        cases e
        obtain ⟨w, ew, h1⟩ := rep1 h
        subst ew
        obtain ⟨a, us, ev, q1, q2⟩ := RepB.lst hx
        subst ev
        obtain ⟨hj, e1, e2⟩ := List.findIdx?_eq_some_iff_getElem.mp q
        refine ⟨a, w, toPy y, toPyL x, j, toPy x[j], rfl, rfl, ?_, dp_ofB (SeqAt.canLay_of_shaped hs.2) h1, hs.1, hs.2, ?_, e1, fun m z' hm ez => ?_, k _ H (Same.refl H) (by unfold Rep; rfl)⟩
        · have := dp_ofB (K := X.K) (H := H) (A := A) (SeqAt.canLay_of_shaped hs.1) hx
          exact this
        · rw [toPyL_get, List.getElem?_eq_getElem hj]
          rfl
        · rw [toPyL_get, List.getElem?_eq_getElem (by omega)] at ez
          cases ez
          have := e2 m hm
          show eqPy x[m] y = false
          simpa using this
    · cases e
/-- freezing, as a closed term -/
def frzS (i : Nat) (f : Env → R Fl) : Env → R Fl := fun r => f (frz1 i r)
theorem s_frzS {X : Cx} {W : WX} {sts : List Stmt} (i : Nat) {f : Env → R Fl} (h : DSs X W sts f) : DSs X W sts (frzS i f) := s_frz i h
end DL

end
section
namespace DL
open PySem L2

/-! ### {k: v}, one pair, v plain -/
def dispD (fk fv : Env → R D) : Env → R D := fun r => (fk r).bind fun k => (R.ofO (keyD k)).bind fun k => (fv r).bind fun d => if flatD d = true then .ok (.dct [(k, d)]) else .stk
theorem rep_flat {K : PySem.W.Frag} {H H' : Hp} {A A' : Addr → Prop} {d : D} {v : V} (f : flatD d = true) (h : Rep K H A d v) : Rep K H' A' d v := by
  cases d with
  | non => unfold Rep at h ⊢; exact h
  | bl b => unfold Rep at h ⊢; exact h
  | int b => unfold Rep at h ⊢; exact h
  | str b => unfold Rep at h ⊢; exact h
  | _ => cases f
section
variable {X : Cx} {W : WX} {e a b : Expr} {p pos apos cpos : Pos} {f fa fb : Env → R D} {x y : Str} {k : Nat}
theorem d_disp (ha : DP X W a fa) (hb : DP X W b fb) : DF X W (.Dict [some a] [b] pos) (dispD fa fb) := by
  obtain ⟨ta, pa, wa⟩ := ha
  obtain ⟨tb, pb, wb⟩ := hb
  refine ⟨_, pe_disp (pps_cons pa pb pps_nil) rfl rfl (by simp) (by simp), fun F os r σ H Q R S => ?_⟩
  intro p np
  have R0 := R.same' (same_upd (o := .dK []) np)
  refine wa F os r σ _ _ R0 (S.bind.imp fun d S v H1 s1 h1 => ?_)
  obtain ⟨kk, ek, S2⟩ := Sat.ofO S.bind
  refine wb F os r σ H1 _ (R0.same' s1) (S2.bind.imp fun d2 S v2 H2 s2 h2 => ?_)
  by_cases hf : flatD d2 = true
  · rw [if_pos hf] at S
    have e2 : H2 p = some (.dK []) := (s1.trans s2) p _ upd_same
    have ev : v = kV kk := keyD_v ek (.inl h1)
    refine ⟨e2, [(kk, v2)], by rw [ev]; rfl, by simp, ?_⟩
    refine S p _ (fun b o eb => ?_) np ⟨[(kk, v2)], upd_same, repK_mk (rep_flat hf h2) (by unfold RepK; rfl)⟩
    have hb : b ≠ p := fun z => by rw [z, np] at eb; cases eb
    rw [upd_ne hb]
    exact (s1.trans s2) b o (by rw [upd_ne hb]; exact eb)
  · rw [if_neg hf] at S
    exact S.elim

/-! ### x.pop() of an own list -/
def popE (i : Nat) : Env → R (D × Env) := fun r => (R.ofO (ownL r i)).bind fun s => match s.2.getLast? with
  | some d => .ok (d, r.set i (s.1.put (.lst s.2.dropLast)))
  | none => .stk
theorem repL_dropLast {K : PySem.W.Frag} {H : Hp} {A : Addr → Prop} {ds : List D} {vs : List V} (h : RepL K H A ds vs) : RepL K H A ds.dropLast vs.dropLast := by
  rw [List.dropLast_eq_take, List.dropLast_eq_take, repL_length h]
  exact repL_take _ h
theorem e_pop (i : Nat) (hN : X.N[i]? = some x := by rfl) (hv : Vis X.env.scope x := by first | exact Or.inl rfl | exact Or.inr (Or.inl rfl) | exact Or.inr (Or.inr rfl)) (hd : (x == ("__debug__" : Str)) = false := by decide)
    (hcd : (x == ("__classdict__" : Str)) = false := by decide)
    (hbase : attributeBase (.Name x p) "pop" X.env (eval (.Name x p) X.env) = eval (.Name x p) X.env := by rfl)
    (hline : (apos.endLine == cpos.line) = true := by rfl) :
    DE X W (.Call (.Attribute (.Name x p) "pop" apos) [] [] cpos) (popE i) := by
  refine ⟨_, pe_bm0 PySem.F.plainAttrs_list PySem.F.slot_list_pop PySem.F.type_list_pop mt_pop (pe_var (i := i) hN hv hd hcd) hbase hline, fun F os r σ H Q R S => ?_⟩
  obtain ⟨s0, e0, S⟩ := S.bind.ofO
  obtain ⟨e00, e01⟩ := ownL_ok (s := s0.1) (xs := s0.2) e0
  obtain ⟨a, ea, inA, ys, hy, hr⟩ := R.ownA e00 e01
  refine ⟨_, ea, .inl ⟨rfl, ys, SqL.of hy⟩, ?_⟩
  cases q : s0.2.getLast? with
  | none => rw [q] at S; exact S.elim
  | some d =>
    rw [q] at S
    have hl := repL_length hr
    rw [List.getLast?_eq_getElem?] at q
    obtain ⟨v, e1, h1⟩ := repL_get hr q
    refine ⟨a, ys, v, rfl, rfl, hy, by rw [hl]; exact e1, ?_⟩
    have rep' : RepO X.K (upd H a (.lst ys.dropLast)) (Av F.A0 os) (.lst s0.2.dropLast) a := ⟨_, upd_same, own_upd R.AOk inA (repL_dropLast hr)⟩
    obtain ⟨R3, k3⟩ := R.updOwn e00 e01 ea rep'
    exact S v _ R3 k3 (Rep.keep k3 R.AOk _ _ h1)

/-! ### x, y = a, b: two new lists or dicts, the slots' own -/
def parO (i j : Nat) (fa fb : Env → R D) : Env → R Fl := fun r => (fa r).bind fun d => (R.ne (fb r)).bind fun e => .ok (.nx ((r.set i (.own d)).set j (.own e)))
def Fm.more (F : Fm) (p : Addr) : Fm := ⟨fun a => F.A0 a ∨ a = p, F.H0, F.io⟩
theorem Rel.hold {K : PySem.W.Frag} {F : Fm} {os : List (Option Addr)} {r : Env} {σ : St} {H H' : Hp} (R : Rel K F os r σ H) {p : Addr} (s : Same H H') (n : H p = none) (hT : ∃ o, H' p = some o ∧ isT o = false) : Rel K (F.more p) os r σ H' := by
  have ak := R.AOk
  have np := R.notIn n
  have k : Keep (Av F.A0 os) (Av (F.more p).A0 os) H H' := fun b o e nb => ⟨s b o e, fun z => by
    rcases z with z | z
    · rcases z with z | z
      · exact nb (.inl z)
      · rw [z, n] at e
        cases e
    · exact nb (.inr z)⟩
  have ho : ∀ (j : Nat) (a : Addr), os[j]? = some (some a) → H' a = H a := fun j a e => by
    obtain ⟨o, h1, _⟩ := ak a (.inr (List.mem_of_getElem? e))
    rw [h1]
    exact s _ _ h1
  refine ⟨R.lens, R.leno, fun i sl v o e1 e2 e3 => (R.slot i sl v o e1 e2 e3).keep k ak fun a z => ho i a (by rw [e3, z]), R.inj, fun i a e z => ?_, fun a z => ?_, fun b o e nb => s _ _ (R.same b o e nb), R.new⟩
  · rcases z with z | z
    · exact R.out i a e z
    · exact np (.inr (by rw [← z]; exact List.mem_of_getElem? e))
  · rcases z with z | z
    · obtain ⟨o, h1, h2⟩ := R.aok a z
      exact ⟨o, s _ _ h1, h2⟩
    · subst z
      exact hT
/-- x, y = a, b: a new list or dict, x's own, and a value -/
def parOS (i j : Nat) (fa fb : Env → R D) : Env → R Fl := fun r => (fa r).bind fun d => (R.ne (fb r)).bind fun e => .ok (.nx ((r.set i (.own d)).set j (.sh e)))
end
end DL

end
section
namespace DL
open PySem L2 PyProof.Rows
/-! ### a op1 b op2 c op3 d -/
def tChain3 (r r' r'' : R2) (ta tb tc td : TE) : TE := fun σ H Q => ta σ H fun x H1 => tb σ H1 fun y H2 => r x y H2 fun z H3 => ∃ k, z = .bl k ∧
  (if k = true then tc σ H3 fun w' H4 => r' y w' H4 fun z2 H5 => ∃ k2, z2 = .bl k2 ∧ (if k2 = true then td σ H5 fun u H6 => r'' w' u H6 Q else Q (.bl false) H5) else Q (.bl false) H3)
section
variable {X : Cx} {W : WX} {a b c d : Expr} {pos : Pos} {fa fb fc fd : Env → R D}
def chn3 (o1 o2 o3 : D → D → Option D) (fa fb fc fd : Env → R D) : Env → R D := fun r => (fa r).bind fun x => (fb r).bind fun y => (R.ofO (o1 x y)).bind fun d => (R.ofO (asB d)).bind fun k =>
  if k = true then (fc r).bind fun z => (R.ofO (o2 y z)).bind fun d => (R.ofO (asB d)).bind fun k2 => if k2 = true then (fd r).bind fun u => R.ofO (o3 z u) else .ok (.bl false) else .ok (.bl false)
end
/-! ### x.join(texts) -/
def joinD (x : Str) : List D → Option D
  | [.lst ds] => (strsOf ds).bind fun ys => if (ys.map (·.length)).sum + ys.length * x.length ≤ 16777216 then some (.str (Txt.join x ys)) else none
  | [.tup ds] => (strsOf ds).bind fun ys => if (ys.map (·.length)).sum + ys.length * x.length ≤ 16777216 then some (.str (Txt.join x ys)) else none
  | _ => none
theorem strs_rep {K : PySem.W.Frag} {H : Hp} {A : Addr → Prop} : ∀ {ds : List D} {ss : List Str} {vs : List V}, strsOf ds = some ss → RepL K H A ds vs → vs = ss.map V.str := by
  intro ds ss vs e h
  have e1 := strsOf_map e
  subst e1
  clear e
  induction ss generalizing vs with
  | nil => unfold RepL at h; exact h
  | cons a t ih =>
    rw [List.map_cons] at h
    unfold RepL at h
    obtain ⟨v, r, e, h1, h2⟩ := h
    unfold Rep at h1
    rw [e, h1, ih h2]
    rfl
theorem o_join {X : Cx} : OpS X (fun x xs H Q => ∃ a p, ∃ ys : List Str, x = .str a ∧ xs = [.ref p] ∧ (SqL X.K H p (ys.map V.str) ∨ SqT X.K H p (ys.map V.str)) ∧ (ys.map (·.length)).sum + ys.length * a.length ≤ 16777216 ∧ Q (.str (Txt.join a ys)) H) joinD := by
  intro A H x xs vs d Q ak e h k
  match xs, e with
  | [.lst ds], e =>
    obtain ⟨ys, e1, e2⟩ := Option.bind_eq_some_iff.mp e
    obtain ⟨v, ev, h1⟩ := rep1 h
    subst ev
    obtain ⟨a, us, ew, q1, q2⟩ := RepB.lst h1
    subst ew
    rw [strs_rep e1 q2] at q1
    split at e2
    · rename_i hl
      cases e2
      exact ⟨x, a, ys, rfl, rfl, .inl q1, hl, k _ H (Same.refl H) (by unfold Rep; rfl)⟩
    · cases e2
  | [.tup ds], e =>
    obtain ⟨ys, e1, e2⟩ := Option.bind_eq_some_iff.mp e
    obtain ⟨v, ev, h1⟩ := rep1 h
    subst ev
    obtain ⟨a, us, ew, q1, q2⟩ := RepB.tup h1
    subst ew
    rw [strs_rep e1 q2] at q1
    split at e2
    · rename_i hl
      cases e2
      exact ⟨x, a, ys, rfl, rfl, .inr q1, hl, k _ H (Same.refl H) (by unfold Rep; rfl)⟩
    · cases e2
end DL

end
section
set_option maxHeartbeats 2000000
namespace DL
open PySem L2

/-! ### list(zip(a, b)) of two lists -/
abbrev lsO (acc : Array Value) (c : Nat) : Obj := { cls := .type "list", dict := none, data := .seq acc c, slots := #[] }
section
variable {prog : Program} {w : World} {A : Around} {s : Shared} {R : Result → Shared → Prop} {S z TI TO : Addr} {f0 : Value}
end
section
variable {prog : Program} {w : World} {A : Around} {E : Value → Shared → Prop} {s : Shared} {z TI TO : Addr} {f0 : Value}
end

/-- what the zip is like, its tuple held or not -/
def ZlSt (h : Heap) (z TI TO i1 i2 l1 l2 S : Addr) (i : Nat) : Prop :=
  IsPair h TI (.ref i1) (.ref i2) ∧ h.IsListIter i1 l1 i ∧ h.IsListIter i2 l2 i ∧
  ((IsZip h z TI TO .none ∧ ∃ a b, IsPair h TO a b) ∨ ∃ T f oT, IsZipHeld h z TI TO T f ∧ h.get? T = some oT ∧ T ≠ z ∧ T ≠ i1 ∧ T ≠ i2 ∧ T ≠ S)
section
variable {prog : Program} {w : World} {A : Around} {E : Value → Shared → Prop} {s : Shared} {z TI TO i1 i2 l1 l2 S : Addr} {i : Nat} {xs ys : Array Value}
theorem ZlSt.keep {h h' : Heap} (st : ZlSt h z TI TO i1 i2 l1 l2 S i) (hS : S ∉ [z, TI, TO, i1, i2]) (k : ∀ b o, b ≠ S → h.get? b = some o → h'.get? b = some o) : ZlSt h' z TI TO i1 i2 l1 l2 S i := by
  simp only [List.mem_cons, List.not_mem_nil, or_false, not_or] at hS
  obtain ⟨a1, a2, a3, a4, a5⟩ := hS
  obtain ⟨q1, q2, q3, q4⟩ := st
  refine ⟨k _ _ (Ne.symm a2) q1, q2.at fun o e => k _ o (Ne.symm a4) e, q3.at fun o e => k _ o (Ne.symm a5) e, ?_⟩
  rcases q4 with ⟨hz, a, b, hTO⟩ | ⟨T, f, oT, hz, hT, r1, r2, r3, r4⟩
  · exact .inl ⟨k _ _ (Ne.symm a1) hz, a, b, k _ _ (Ne.symm a3) hTO⟩
  · exact .inr ⟨T, f, oT, k _ _ (Ne.symm a1) hz, k _ _ r4 hT, r1, r2, r3, r4⟩
end

/-- new tuples, one a row -/
inductive Laid (H0 : Hp) : Hp → List V → List (List V) → Prop
  | nil : Laid H0 H0 [] []
  | snoc {H : Hp} {vs : List V} {rows : List (List V)} {T : Addr} {row : List V} : Laid H0 H vs rows → H T = none → Laid H0 (upd H T (.tup row)) (vs ++ [.ref T]) (rows ++ [row])
theorem Laid.same {H0 H : Hp} {vs : List V} {rows : List (List V)} (l : Laid H0 H vs rows) : Same H0 H := by
  induction l with
  | nil => exact Same.refl _
  | snoc l n ih => exact ih.trans (same_upd n)
theorem Laid.len {H0 H : Hp} {vs : List V} {rows : List (List V)} (l : Laid H0 H vs rows) : vs.length = rows.length := by
  induction l with
  | nil => rfl
  | snoc l n ih => simp [ih]
theorem AOk.same' {A : Addr → Prop} {H H' : Hp} (a : AOk A H) (s : Same H H') : AOk A H' := fun b hb => by
  obtain ⟨o, e, t⟩ := a b hb
  exact ⟨o, s _ _ e, t⟩
theorem Laid.rep {K : PySem.W.Frag} {H0 H : Hp} {A : Addr → Prop} {vs : List V} {rows : List (List V)} (l : Laid H0 H vs rows) (ak : AOk A H0) : ∀ {ds : List (List D)}, ds.length = rows.length → (∀ (i : Nat) row d, rows[i]? = some row → ds[i]? = some d → RepL K H0 A d row) → RepL K H A (ds.map D.tup) vs := by
  induction l with
  | nil =>
    intro ds e _
    have : ds = [] := List.length_eq_zero_iff.mp e
    subst this
    unfold RepL; rfl
  | @snoc H vs rows T row l n ih =>
    intro ds e h
    rcases List.eq_nil_or_concat ds with z | ⟨ds', d, z⟩
    · subst z
      simp at e
    · rw [List.concat_eq_append] at z
      subst z
      have el : ds'.length = rows.length := by simpa using e
      have ak1 := AOk.same' ak l.same
      have h1 := ih el fun i r d' e1 e2 => h i r d' (by rw [List.getElem?_append_left (List.getElem?_eq_some_iff.mp e1).1]; exact e1) (by rw [List.getElem?_append_left (List.getElem?_eq_some_iff.mp e2).1]; exact e2)
      have h2 := h rows.length row d (by simp) (by rw [← el]; simp)
      rw [List.map_append]
      refine repL_append (h1.same (same_upd n) ak1) ?_
      show RepL K _ A [D.tup d] [V.ref T]
      unfold RepL
      exact ⟨_, [], rfl, rep_newtup ak1 (h2.same l.same ak) n, by unfold RepL; rfl⟩

section
variable {X : Cx} {pins : List (Addr × Obj)} {σ : St}
def iLz (K : PySem.W.Frag) (ta : TA) : TE := fun σ H Q => ta σ H fun vs H1 => ∃ l1 l2 xs ys, vs = [V.ref l1, V.ref l2] ∧ SqL K H1 l1 xs ∧ SqL K H1 l2 ys ∧ ∀ H2 us p, Laid H1 H2 us (List.zipWith (fun x y => [x, y]) xs ys) → H2 p = none → Q (.ref p) (upd H2 p (.lst us))
end
def lzD : List D → Option D
  | [.lst xs, .lst ys] => some (.lst (List.zipWith (fun x y => D.tup [x, y]) xs ys))
  | _ => none
section
variable {X : Cx} {W : WX} {a b : Expr} {p p2 pos pos2 : Pos} {g : Env → R (List D)}
end
end DL

end
section
namespace DL
open PySem L2
/-! ### min of a list of ints, l.count(int) -/
def minLD : List D → Option D
  | [.lst xs] => (intsD xs).bind fun ns => ns.min?.map D.int
  | _ => none
theorem min_uniq {ns : List Int} {m z : Int} (h : ns.min? = some m) (i : z ∈ ns) (g : ∀ y ∈ ns, z ≤ y) : z = m := by
  obtain ⟨h1, h2⟩ := List.min?_eq_some_iff.mp h
  exact Int.le_antisymm (g m h1) (h2 z i)
theorem o_minL {X : Cx} : OpN X (rMin X.K) minLD := by
  intro A H xs vs d Q ak e h k
  match xs, e with
  | [.lst xs], e =>
    obtain ⟨v, ev, h1⟩ := rep1 h
    subst ev
    obtain ⟨ns, e1, e2⟩ := Option.bind_eq_some_iff.mp e
    obtain ⟨m, e3, e4⟩ := Option.map_eq_some_iff.mp e2
    obtain ⟨a, us, ev, q1, q2⟩ := RepB.lst h1
    rw [intsD_rep e1 q2] at q1
    subst e4 ev
    refine ⟨a, ns, rfl, q1, ?_, fun z i g => ?_⟩
    · cases ns with
      | nil => cases e3
      | cons _ _ => exact Nat.succ_pos _
    · rw [min_uniq e3 i g]
      exact k _ H Same.of_eq (by unfold Rep; rfl)
def countLD : List D → List D → Option D
  | ds, [.int k] => (intsD ds).map fun ns => .int (ns.count k : Nat)
  | _, _ => none
end DL

end
section
set_option maxHeartbeats 1000000
namespace DL
open PySem L2
/-! ### x, y, z, w = a, b, c, d: a value and three new lists or dicts, the slots' own -/
def par4 (i j k l : Nat) (fa fb fc fd : Env → R D) : Env → R Fl := fun r => (fa r).bind fun a => (fb r).bind fun b => (R.ne (fc r)).bind fun c => (R.ne (fd r)).bind fun d => .ok (.nx ((((r.set i (.sh a)).set j (.own b)).set k (.own c)).set l (.own d)))
theorem RepO.sub {K : PySem.W.Frag} {H : Hp} {A A' : Addr → Prop} {d : D} {b : Addr} (h : RepO K H A d b) (ak : AOk A H) (s : ∀ a, A' a → A a) : RepO K H A' d b :=
  RepO.keepNe (fun c o e nc => ⟨e, fun z => nc (s c z)⟩) ak h rfl
section
variable {X : Cx} {W : WX} {a b c d : Expr} {fa fb fc fd : Env → R D} {x y z u : Str} {pos : Pos}
end
end DL

end
section
namespace DL
open PySem L2
section
variable {X : Cx} {W : WX}
/-! ### s.find(t), s.endswith(t), s.index(t) -/
def find1D (x : Str) : List D → Option D
  | [.str y] => some (.int (Txt.find x y))
  | _ => none
theorem o_find1 : OpS X (fun x xs H Q => ∃ a b, x = .str a ∧ xs = [.str b] ∧ Q (.int (Txt.find a b)) H) find1D := by
  intro A H x xs vs d Q ak e h k
  match xs, e with
  | [.str y], e =>
    obtain ⟨v, ev, h1⟩ := rep1 h
    cases e
    subst ev
    rw [RepB.str h1]
    exact ⟨x, y, rfl, rfl, k _ H Same.of_eq rep_int⟩
def endsD (x : Str) : List D → Option D
  | [.str y] => some (.bl (Txt.endswith x y))
  | _ => none
def sindexD (x : Str) : List D → Option D
  | [.str y] => (Builtin.Str.occurrences x y 0 x.length 1).head?.map fun i => .int (i : Nat)
  | _ => none
/-! ### any, all of a list of truth values -/
def blsD : List D → Option (List Bool)
  | [] => some []
  | .bl i :: r => (blsD r).map fun l => i :: l
  | _ :: _ => none
def anyD : List D → Option D
  | [.lst xs] => (blsD xs).map fun l => .bl (l.any id)
  | _ => none
def allD : List D → Option D
  | [.lst xs] => (blsD xs).map fun l => .bl (l.all id)
  | _ => none
/-! ### list(range(..)), tuple(range(..)) -/
def rgOk (i j : Int) : Bool := decide (0 ≤ i ∧ i ≤ 16777216 ∧ 0 ≤ j ∧ j ≤ 16777216)
def lrg1D : List D → Option D
  | [.int n] => if rgOk 0 n = true then some (.lst (rngL 0 (n - 0).toNat)) else none
  | _ => none
def lrg2D : List D → Option D
  | [.int i, .int j] => if rgOk i j = true then some (.lst (rngL i (j - i).toNat)) else none
  | _ => none
def trg1D : List D → Option D
  | [.int n] => if rgOk 0 n = true then some (.tup (rngL 0 (n - 0).toNat)) else none
  | _ => none
def trg2D : List D → Option D
  | [.int i, .int j] => if rgOk i j = true then some (.tup (rngL i (j - i).toNat)) else none
  | _ => none
section
variable {a b : Expr} {p p2 pos pos2 : Pos} {fa fb : Env → R D}
end
end
end DL

end
section
namespace DL
open PySem L2

/-! ### list comprehensions of two clauses -/
def lc2P (g : D → Env → R Env) (c : Env → R Bool) (h1 : Env → R (List D)) (vs1 : List Nat) (g1 : D → Env → R Env) (c1 : Env → R Bool) (f : Env → R D) (r0 : Env) : List D → R (List D)
  | [] => .ok []
  | x :: xs => (R.ne (g x r0)).bind fun r1 => (R.ne (c r1)).bind fun b => if b = true then (R.ne (h1 r1)).bind fun its => if noOwn vs1 r1 = true then (R.ne (lcP g1 c1 f (wipeE r1 vs1) its)).bind fun ds => (R.ne (lc2P g c h1 vs1 g1 c1 f r0 xs)).bind fun es => .ok (ds ++ es) else .stk
      else R.ne (lc2P g c h1 vs1 g1 c1 f r0 xs)
def lc2D (own : List (Str × Nat)) (h : Env → R (List D)) (g : D → Env → R Env) (c : Env → R Bool) (h1 : Env → R (List D)) (vs1 : List Nat) (g1 : D → Env → R Env) (c1 : Env → R Bool) (f : Env → R D) : Env → R D := fun r =>
  if noOwn (own.map (·.2)) r = true then (h r).bind fun items => (R.ne (lc2P g c h1 vs1 g1 c1 f (wipeE r (own.map (·.2))) items)).bind fun ds => if ds.length ≤ sizeLine then .ok (.lst ds) else .stk else .stk
theorem walk_src {K : PySem.W.Frag} {J : It} {items : List D} {G : (Addr → Prop) → Hp → Prop} (src : Src K J items G) : Walk J items.length (fun H => ∃ A, AOk A H ∧ G A H) (fun i H x H' => i < items.length ∧ J.yld i H x H') :=
  ⟨fun i H hi ⟨A, ak, h⟩ => src.goes A i H ak hi h, fun H ⟨A, ak, h⟩ => src.stops A H ak h, fun i H x H' hi _ y => ⟨hi, y⟩⟩
theorem drop_get {α : Type} {l : List α} {i : Nat} {d : α} (h : l[i]? = some d) : l.drop i = d :: l.drop (i + 1) := by
  obtain ⟨hi, e⟩ := List.getElem?_eq_some_iff.mp h
  rw [List.drop_eq_getElem_cons hi, e]
section
variable {X : Cx} {W : WX} {elt tg iter tg1 iter1 : Expr} {ifs ifs1 : List Expr} {scope : Scope} {own : List (Str × Nat)} {pos : Pos} {ks k1 vs1 : List Nat} {h h1 : Env → R (List D)} {g g1 : D → Env → R Env} {c c1 : Env → R Bool} {f : Env → R D}
variable {y : Str} {py spos : Pos}
end
/-! ### a comprehension of two clauses, evaluated -/
end DL

end
section
set_option maxHeartbeats 2000000
namespace DL
open PySem PySem.Spec PyProof.Rows L2 PySem.Froz

/-! ### sets of texts -/
def insT (l : List Str) (k : Str) : List Str := if k ∈ l then l else k :: l
/-- the set of texts at a: its members l, unlike, in some order -/
def SetT (P : Program) (w : World) (h : Heap) (a : Addr) (l : List Str) : Prop :=
  ∃ D : SD, h.get? a = some (sObj "set" D) ∧ TxOk P w D l ∧ l.Nodup ∧ Ris D.2.2.place.toList ∧ (w.params.followText "set-order" = true ∨ D.2.2.led = true)
theorem nodup_insT {l : List Str} {k : Str} (h : l.Nodup) : (insT l k).Nodup := by
  unfold insT
  by_cases z : k ∈ l
  · rw [if_pos z]; exact h
  · rw [if_neg z]; exact List.nodup_cons.mpr ⟨z, h⟩
theorem mem_insT {l : List Str} {k x : Str} : x ∈ insT l k ↔ x ∈ l ∨ x = k := by
  unfold insT
  by_cases z : k ∈ l
  · rw [if_pos z]; exact ⟨.inl, fun e => e.elim id fun e => e ▸ z⟩
  · rw [if_neg z, List.mem_cons]; exact ⟨fun e => e.symm, fun e => e.symm⟩
theorem len_insT {l : List Str} {k : Str} : (insT l k).length ≤ l.length + 1 := by
  unfold insT
  by_cases z : k ∈ l
  · rw [if_pos z]; exact Nat.le_succ _
  · rw [if_neg z]; exact Nat.le_refl _
section
variable {P : Program} {w : World} {A : Around} {E : Value → Shared → Prop} {s : Shared} {h h' : Heap} {a : Addr} {l : List Str}
theorem SetT.at (R : SetT P w h a l) (k : ∀ o, h.get? a = some o → h'.get? a = some o) : SetT P w h' a l := by
  obtain ⟨D, e, r⟩ := R
  exact ⟨D, k _ e, r⟩
theorem tailTx_order {ep : Nat} {es1 : Array (Int × Value)} {t2 : SetTable} {wd : Bool} (r : Ris t2.place.toList) : Ris (tailTx ep es1 t2 wd).2.2.place.toList ∧ (tailTx ep es1 t2 wd).2.2.led = t2.led := by
  unfold tailTx
  by_cases z : (!wd && t2.tooFull) = true
  · rw [if_pos z]
    exact ⟨relayAll_ris _ _ _, relayAll_led _ _ _⟩
  · rw [if_neg z]
    exact ⟨r, rfl⟩
theorem addTx_order {hs : Int} {v : Value} {D : SD} (r : Ris D.2.2.place.toList) : Ris (addTx hs v D).2.2.place.toList ∧ (addTx hs v D).2.2.led = D.2.2.led := by
  obtain ⟨es, ep, t⟩ := D
  have h1 := layNew_ris t es hs v r
  have h2 := layNew_led t es hs v
  show Ris (tailTx ep (layNew t es hs v).1 (if (layNew t es hs v).2.1.plain = true then { (layNew t es hs v).2.1 with plain := false } else (layNew t es hs v).2.1) (layNew t es hs v).2.2.1).2.2.place.toList ∧ (tailTx ep (layNew t es hs v).1 (if (layNew t es hs v).2.1.plain = true then { (layNew t es hs v).2.1 with plain := false } else (layNew t es hs v).2.1) (layNew t es hs v).2.2.1).2.2.led = t.led
  generalize layNew t es hs v = L at h1 h2 ⊢
  by_cases z : L.2.1.plain = true
  · rw [if_pos z]
    obtain ⟨a, b⟩ := tailTx_order (ep := ep) (es1 := L.1) (t2 := { L.2.1 with plain := false }) (wd := L.2.2.1) h1
    exact ⟨a, b.trans h2⟩
  · rw [if_neg z]
    obtain ⟨a, b⟩ := tailTx_order (ep := ep) (es1 := L.1) (t2 := L.2.1) (wd := L.2.2.1) h1
    exact ⟨a, b.trans h2⟩
/-- a text put in, hashed -/
theorem setT_hashed {k : Str} {u : Tok} {Q : Bool → Shared → Prop} (R : SetT P w s.heap a l) (room : l.length + 1 < scanBound)
    (hQ : ∀ b h', Heap.SameBut a s.heap h' → SetT P w h' a (insT l k) → Q b { s with heap := h' }) : wpAny (model P w) A (setAddHashed a (.str k u) (hashStr w k)) Q E s := by
  obtain ⟨D, at_, F, nd, ri, le⟩ := R
  by_cases hk : k ∈ l
  · obtain ⟨es, ep, t⟩ := D
    have q := hQ false s.heap (Heap.SameBut.refl a s.heap) (by
      unfold insT
      rw [if_pos hk]
      exact ⟨_, at_, F, nd, ri, le⟩)
    have isk : (strKind P w).is k (.str k u) = true := is_str k u
    have dat : (sObj "set" (es, ep, t)).data = .set es ep t := rfl
    have fits : t.fits es.size = true := F.fit
    have elems : ElemsOf (strKind P w) es.toList := F.el
    have size : es.size = l.length := F.sz
    obtain ⟨e, me, ie⟩ := (F.mem k).mp hk
    obtain ⟨j, fj⟩ : ∃ j, List.findIdx? (fun e => (strKind P w).is k e.2) es.toList = some j := by
      cases z : List.findIdx? (fun e => (strKind P w).is k e.2) es.toList with
      | some j => exact ⟨j, rfl⟩
      | none =>
        have := List.findIdx?_eq_none_iff.mp z e me
        rw [ie] at this
        cases this
    unfold setAddHashed setAddHashedIn
    refine wpAny_holding (wpAny_bind (wpAny_setState_of at_ dat fits ?_))
    dsimp only
    rw [byScan_of rfl (by omega) elems]
    simp only [↓reduceIte]
    unfold setAddByScan
    refine wpAny_bind ?_
    refine wpAny_bind (wpAny_rule ?_)
    refine wpAny_bind (wpAny_setScan_of (knd := strKind P w) (k := k) isk at_ dat fits elems ?_)
    rw [fj]
    dsimp only
    exact wpAny_pure (wpAny_pure q)
  · obtain ⟨r1, r2⟩ := addTx_order (hs := hashStr w k) (v := .str k u) ri
    refine add_x at_ F hk room (hQ _ _ (Heap.SameBut.update s.heap a _) ?_)
    unfold insT
    rw [if_neg hk]
    exact ⟨_, get_upd _ at_ rfl, add_ok u F, List.nodup_cons.mpr ⟨hk, nd⟩, r1, le.imp id fun z => r2.trans z⟩
theorem setT_add {k : Str} {u : Tok} {Q : Bool → Shared → Prop} (R : SetT P w s.heap a l) (room : l.length + 1 < scanBound)
    (hQ : ∀ b h', Heap.SameBut a s.heap h' → SetT P w h' a (insT l k) → Q b { s with heap := h', toks := s.toks + 1 }) : wpAny (model P w) A (setAdd a (.str k u)) Q E s := by
  unfold setAdd
  refine wpAny_holding (wpAny_bind ((strKind P w).pyHash (k := k) (is_str _ _) ?_))
  exact setT_hashed (s := { s with toks := s.toks + 1 }) R room hQ
theorem setT_fresh (w : World) (P : Program) : SetT P w (h.push { cls := .type "set", dict := none, data := .set #[] 0 (.fresh 0 0 (!w.params.followText "set-order")) }) h.objs.size [] :=
  ⟨(#[], 0, .fresh 0 0 (!w.params.followText "set-order")), Heap.get?_push_size _ rfl, TxOk.nil (by rfl), List.nodup_nil, List.Pairwise.nil, by
    show _ ∨ (!w.params.followText "set-order") = true
    cases w.params.followText "set-order"
    · exact .inr rfl
    · exact .inl rfl⟩
end
theorem perm_of_mem {l m : List Str} (nl : l.Nodup) (e : m.length = l.length) (h : ∀ k, k ∈ l → k ∈ m) : m.Perm l := by
  induction l generalizing m with
  | nil => rw [List.length_eq_zero_iff.mp e]
  | cons x l ih =>
    have hx := h x List.mem_cons_self
    obtain ⟨n1, n2⟩ := List.nodup_cons.mp nl
    have q := List.perm_cons_erase hx
    refine q.trans (List.Perm.cons x (ih n2 (by rw [List.length_erase_of_mem hx, e]; rfl) fun k hk => ?_))
    have : k ≠ x := fun z => n1 (z ▸ hk)
    exact (List.mem_erase_of_ne this).mpr (h k (List.mem_cons_of_mem _ hk))
def txV : Value → Str
  | .str a _ => a
  | _ => ⟨#[]⟩
theorem SetT.outs {P : Program} {w : World} {D : SD} {l : List Str} (F : TxOk P w D l) (nd : l.Nodup) {out : List Value} (p : out.Perm (D.1.toList.map (·.2))) : (out.map txV).Perm l ∧ ∀ v ∈ out, ∃ t, v = .str (txV v) t := by
  have hs : ∀ e ∈ D.1.toList, ∃ t, e.2 = .str (txV e.2) t := fun e he => by
    obtain ⟨⟨k, h1, _⟩, _⟩ := F.el e he
    cases q : e.2 with
    | str a t => exact ⟨t, rfl⟩
    | _ =>
      rw [q] at h1
      exact absurd (show false = true from h1) Bool.false_ne_true
  constructor
  · refine perm_of_mem nd ?_ fun k hk => ?_
    · rw [List.length_map, p.length_eq, List.length_map, Array.length_toList, F.sz]
    · obtain ⟨e, he, ie⟩ := (F.mem k).mp hk
      refine List.mem_map.mpr ⟨e.2, p.mem_iff.mpr (List.mem_map.mpr ⟨e, he, rfl⟩), ?_⟩
      obtain ⟨t, et⟩ := hs e he
      rw [et] at ie ⊢
      have : Value.isStrOf k (.str (txV e.2) t) = true := ie
      simp [Value.isStrOf] at this
      rw [this] <;> rfl
  · intro v hv
    obtain ⟨e, he, rfl⟩ := List.mem_map.mp (p.mem_iff.mp hv)
    exact hs e he

/-! ### sorted of what is collected -/
def Sorts (P : Program) (w : World) (h : Heap) (vs : List Value) (ltv : Value → Value → Bool) : Prop := ∀ (A' : Around) (s2 : Shared), (∀ b o, h.get? b = some o → s2.heap.get? b = some o) → ∃ κ,
  (∀ (Q : PyProof.Rows.SortKind → Shared → Prop) (E : Value → Shared → Prop), Q κ s2 → wpAny (model P w) A' (PyProof.Rows.keyKind' vs.toArray) Q E s2) ∧ SrtO.Cmp P w A' s2 κ (fun p => p.fst ∈ vs) (SrtO.lt2 ltv)
theorem sorted_by {P : Program} {w : World} {A : Around} {E : Value → Shared → Prop} {s : Shared} {v : Value} {ltv : Value → Value → Bool} {Q : Value → Shared → Prop} (O : SrtO.Swo ltv) (Post : Shared → List Value → Prop)
    (hcol : ∀ Q' : List Value → Shared → Prop, (∀ s1 vs, Post s1 vs → Q' vs s1) → wpAny (model P w) A.in1 (collect v) Q' E s)
    (hfin : ∀ s1 vs, Post s1 vs → vs.length ≤ sizeLine ∧ (2 ≤ vs.length → Sorts P w s1.heap vs ltv) ∧ ∀ (out : List Value) (h' : Heap) (p : Addr) (e : Nat), SrtO.Srtd ltv out → out.Perm vs → (∀ b o, s1.heap.get? b = some o → h'.get? b = some o) →
      s1.heap.objs.size ≤ p → h'.get? p = some (seqObj "list" out.toArray e) → Q (.ref p) { s1 with heap := h' }) :
    wpAny (model P w) A (call (.builtin "sorted") [v]) Q E s := by
  refine Calls.call_function_entry kind_sorted plain_sorted entry_sorted (args_sorted1 _) ?_
  unfold Builtin.«sorted»
  refine wpAny_bind (m := checkCount "sorted" 1 1 _) (wpAny_pure ?_)
  refine wpAny_bind (hcol _ fun s1 vs post => ?_)
  obtain ⟨hz, so, fin⟩ := hfin s1 vs post
  refine wpAny_bind (wpAny_newList ?_ hz)
  have new : (s1.heap.push (seqObj "list" vs.toArray 0)).get? s1.heap.objs.size = some (seqObj "list" vs.toArray 0) := Heap.get?_push_size _ rfl
  show wpAny _ _ _ _ _ { s1 with heap := s1.heap.push (seqObj "list" vs.toArray 0) }
  refine wpAny_bind (wpAny_holding (wpAny_call_entry slot_list_sort ⟨_, new, rfl⟩ entry_list_sort (SrtO.list_sort_ord O new hz (fun h2 => ?_) fun out hs hb => ⟨_, rfl, ?_⟩) (args_list_sort _)))
  · intro h' hk
    exact so h2 _ { s1 with heap := h' } fun b o e => hk b o (Nat.ne_of_lt (Heap.lt_size e)) (Heap.get?_push_of_some _ e)
  · obtain ⟨e, he⟩ := sortedHeap_at (vs := vs) (out := out.toArray) new
    refine wpAny_pure ⟨_, rfl, fin out _ s1.heap.objs.size e hs hb.perm (fun b o q => ?_) (Nat.le_refl _) he⟩
    have hlt := Heap.lt_size q
    show (sortedHeap (s1.heap.push (seqObj "list" vs.toArray 0)) s1.heap.objs.size vs out.toArray).get? b = some o
    rw [sortedHeap_old (Nat.ne_of_lt hlt) (by rw [size_push']; exact Nat.lt_succ_of_lt hlt)]
    exact Heap.get?_push_of_some _ q
theorem sorts_strs {P : Program} {w : World} {h : Heap} {vs : List Value} (hs : ∀ v ∈ vs, ∃ t, v = .str (txV v) t) (h2 : 2 ≤ vs.length) : Sorts P w h vs ltS := by
  have are : ∀ l : List Value, (∀ v ∈ l, ∃ t, v = .str (txV v) t) → StrsAre l (l.map txV) := by
    intro l
    induction l with
    | nil => exact fun _ => .nil
    | cons v l ih =>
      intro q
      obtain ⟨t, e⟩ := q v List.mem_cons_self
      rw [List.map_cons]
      have := ih fun u hu => q u (List.mem_cons_of_mem _ hu)
      rw [e]
      exact .cons _ _ this
  intro A s2 hk
  refine ⟨PyProof.Rows.oneType', fun Q E q => ?_, fun p q hp hq => ?_⟩
  · match vs, are vs hs, h2 with
    | v1 :: v2 :: vs, hs, h2 =>
      rw [PyProof.Rows.keyKind_strs hs]
      exact wpAny_pure q
  · obtain ⟨p1, p2⟩ := p
    obtain ⟨q1, q2⟩ := q
    obtain ⟨t, ea⟩ := hs _ hp
    obtain ⟨u, eb⟩ := hs _ hq
    simp only at ea eb
    rw [ea, eb]
    exact PySem.W.kas_lt_str ⟨rfl, rfl⟩
theorem srtd_tx : ∀ {out : List Value}, SrtO.Srtd ltS out → (∀ v ∈ out, ∃ t, v = .str (txV v) t) → (out.map txV).Pairwise fun a b => leS a b = true
  | [], _, _ => .nil
  | v :: out, h, hs => by
    obtain ⟨h1, h2⟩ := List.pairwise_cons.mp h
    rw [List.map_cons]
    refine List.pairwise_cons.mpr ⟨fun z m => ?_, srtd_tx h2 fun u hu => hs u (List.mem_cons_of_mem _ hu)⟩
    obtain ⟨u, hu, rfl⟩ := List.mem_map.mp m
    have q := h1 u hu
    obtain ⟨t1, e1⟩ := hs v List.mem_cons_self
    obtain ⟨t2, e2⟩ := hs u (List.mem_cons_of_mem _ hu)
    rw [e1, e2] at q
    unfold leS
    unfold ltS cpsV at q
    rw [q]
    rfl
theorem vals_tx : ∀ {out : List Value}, (∀ v ∈ out, ∃ t, v = .str (txV v) t) → Vals ((out.map txV).map V.str) out
  | [], _ => .nil
  | v :: out, hs => by
    obtain ⟨t, e⟩ := hs v List.mem_cons_self
    exact .cons ⟨t, e⟩ (vals_tx fun u hu => hs u (List.mem_cons_of_mem _ hu))
/-- sorted of what gives out texts: l up to order -/
theorem sorted_texts {X : Cx} {pins : List (Addr × Obj)} {s : Shared} {σ : L2.St} {H : Hp} {v : Value} {l : List Str} {Q : VK} (I : L2.Inv X pins σ H s) (hl : l.length ≤ sizeLine)
    (hcol : ∀ Q' : List Value → Shared → Prop, (∀ s1 vs, (∀ b o, s.heap.get? b = some o → s1.heap.get? b = some o) → s1.gens = s.gens → s1.os = s.os → (vs.map txV).Perm l → (∀ v ∈ vs, ∃ t, v = .str (txV v) t) → Q' vs s1) → wpAny (model X.prog X.w) X.A.in1 (collect v) Q' X.xe s)
    (q : ∀ p : Addr, H p = none → Q (.ref p) (upd H p (.lst ((sortStr l).map V.str)))) :
    wpAny (model X.prog X.w) X.A (call (.builtin "sorted") [v]) (EP X pins σ Q) X.xe s := by
  refine sorted_by (ltv := ltS) swoS (fun s1 vs => (∀ b o, s.heap.get? b = some o → s1.heap.get? b = some o) ∧ s1.gens = s.gens ∧ s1.os = s.os ∧ (vs.map txV).Perm l ∧ ∀ v ∈ vs, ∃ t, v = .str (txV v) t) (fun Q' z => hcol Q' fun s1 vs a b c d e => z s1 vs ⟨a, b, c, d, e⟩) ?_
  rintro s1 vs ⟨k, g, o, pm, st⟩
  have len : vs.length = l.length := by have := pm.length_eq; rw [List.length_map] at this; exact this
  refine ⟨by omega, fun h2 => sorts_strs st h2, fun out h' p e hs hp hk hpz hpe => ?_⟩
  have st2 : ∀ v ∈ out, ∃ t, v = .str (txV v) t := fun v hv => st v (hp.mem_iff.mp hv)
  have I1 : L2.Inv X pins σ H s1 := I.call' (ch := []) o (Un.kept k) (I.hok.kept k) (by rw [g]; exact I.bare) (fun _ z => nomatch z)
  have e1 : out.map txV = sortStr l := sortStr_uniq ((hp.map txV).trans pm) (srtd_tx hs st2)
  have fr : H p = none := I1.hok.fresh hpz
  refine ⟨.ref p, upd H p (.lst ((out.map txV).map V.str)), I1.laid (t' := s1.toks) hk hpz ⟨by rw [List.length_map, List.length_map, hp.length_eq]; omega, out, e, vals_tx st2, hpe⟩, rfl, ?_⟩
  rw [e1]
  exact q p fr
end DL

end
section
set_option maxHeartbeats 3200000
namespace DL
open PySem PySem.Spec PyProof.Rows L2 PySem.Froz

section
variable {P : Program} {w : World} {A : Around} {E : Value → Shared → Prop} {s : Shared}
theorem set_update_tx {I : Addr} {fp wr : List Addr} {G : Array GenState → Array GenState → Prop} {n : Nat} {Pv : Nat → Value → Prop} {St : Nat → Shared → Prop} {R : Result → Shared → Prop}
    (W : WalksS P w A.in1 I fp wr G n Pv St) (S : Addr) (out : S ∉ fp) (xs : List Str) (en : n = xs.length) (room : xs.length + 1 < scanBound) (vals : ∀ i v, Pv i v → ∃ k t, xs[i]? = some k ∧ v = .str k t) :
    ∀ (k i : Nat) (s : Shared), n - i = k → i ≤ n → St i s → (∃ l, SetT P w s.heap S l ∧ l.length ≤ i ∧ ∀ x, x ∈ l ↔ x ∈ xs.take i) →
      (∀ s' l, Moved (S :: wr) G s s' → SetT P w s'.heap S l → l.length ≤ n → (∀ x, x ∈ l ↔ x ∈ xs) → R (.ok (.ret .none)) s') →
      codeAny (model P w) A (.builtin "set.update.loop" ⟨[.ref S, .ref I], []⟩) R s := by
  have outw : S ∉ wr := fun h => out (W.sub _ h)
  have sub : ∀ b ∈ wr, b ∈ S :: wr := fun b hb => List.mem_cons_of_mem _ hb
  intro k
  induction k with
  | zero =>
    intro i s ek le st ⟨l, hl, ll, ml⟩ fin
    have ei : i = n := by omega
    subst ei
    refine codeAny_builtin F.entry_set_update_loop ?_
    rw [Around.under_plainId F.plain_set_update_loop _]
    show wpAny _ A.in1 (pyNext (.ref I) >>= _) _ _ s
    refine wpAny_bind (W.done s _ _ st fun s' mv => ?_)
    show wpAny _ A.in1 (ret Value.none) _ _ s'
    rw [List.take_of_length_le (by omega : xs.length ≤ i)] at ml
    exact wpAny_pure (fin s' l (mv.mono sub) (hl.at fun o e => mv.heap S o outw e) ll ml)
  | succ k ih =>
    intro i s ek le st ⟨l, hl, ll, ml⟩ fin
    have lt : i < n := by omega
    refine codeAny_builtin F.entry_set_update_loop ?_
    rw [Around.under_plainId F.plain_set_update_loop _]
    show wpAny _ A.in1 (pyNext (.ref I) >>= _) _ _ s
    refine wpAny_bind (W.item i s _ _ lt st fun v s1 pv st1 mv => ?_)
    obtain ⟨z, t, hz, rfl⟩ := vals i v pv
    have hl1 : SetT P w s1.heap S l := hl.at fun o e => mv.heap S o outw e
    show wpAny _ A.in1 (holding [Value.str z t] (setAdd S (.str z t)) >>= _) _ _ s1
    refine wpAny_bind (wpAny_holding (setT_add hl1 (by omega) fun b h2 sb hl2 => ?_))
    have len2 : (insT l z).length ≤ i + 1 := Nat.le_trans len_insT (Nat.succ_le_succ ll)
    have mem2 : ∀ x, x ∈ insT l z ↔ x ∈ xs.take (i + 1) := fun x => by
      rw [mem_insT, ml x, List.take_add_one, hz]
      simp [List.mem_append]
    refine wpAny_pure ⟨plainId_quiet F.plain_set_update_loop _, ih (i + 1) _ (by omega) lt (W.frame _ s1 _ _ st1 (Nat.le_succ _) fun b hb o e => ?_) ⟨_, hl2, len2, mem2⟩ fun s3 l3 mv3 hl3 ll3 ml3 => ?_⟩
    · rw [sb.2 b (fun h : b = S => out (by rw [← h]; exact hb))]; exact e
    · refine fin s3 l3 (Moved.trans W.gtrans ((mv.mono sub).then_heap (Nat.le_succ _) fun b o hb e => ?_) mv3) hl3 ll3 ml3
      rw [sb.2 b (fun h : b = S => hb (by rw [h]; exact List.mem_cons_self))]; exact e
/-- the signs of a text -/
def sgT (x : Str) : List Str := x.cps.toList.map fun c => ⟨#[c]⟩
theorem sgT_len (x : Str) : (sgT x).length = x.length := by unfold sgT; rw [List.length_map]; rfl
set_option maxRecDepth 100000 in
theorem call_set_tx {x : Str} {u : Tok} {Q : Value → Shared → Prop} (hand : A.handled = none) (room : x.length + 1 < scanBound)
    (h : ∀ (h' : Heap) (tk : Nat) (l : List Str), SetT P w h' s.heap.objs.size l → l.length ≤ x.length → (∀ k, k ∈ l ↔ k ∈ sgT x) → (∀ b o, s.heap.get? b = some o → h'.get? b = some o) → Q (.ref s.heap.objs.size) { s with heap := h', toks := tk }) :
    wpAny (model P w) A (call (.type "set") [.str x u]) Q E s := by
  obtain ⟨c, tl, mro⟩ := F.called_set.mro
  have made := F.called_set.made
  have subt := F.called_set.sub
  refine wpAny_call (codeAny_of_tree ?_)
  show wpAny _ _ (callAny (.type "set") _) _ _ _
  refine wpAny_pure ⟨Code.quiet_builtin _ (by decide +kernel), codeAny_builtin F.entry_type_call ?_⟩
  rw [Around.under_plain (weight_type_call_type "set" [.str x u] []) rfl]
  have f1 := F.called_set.notType
  have f2 := F.called_set.canCreate
  have f3 := F.typeCall_set_1 (.str x u)
  repeat (any_goals (first | assumption | wp_step))
  refine codeAny_mono (code_set_led1 (.str x u) (E := E) (Q₁ := fun obj s₁ => obj = .ref s.heap.objs.size ∧ s₁ = { s with heap := s.heap.push { cls := .type "set", dict := none, data := .set #[] 0 (.fresh 0 0 (!w.params.followText "set-order")) } }) ⟨rfl, rfl⟩) fun r s₁ hr => ?_
  cases r with
  | error e => exact hr
  | ok fl =>
    cases fl with
    | ret obj =>
      obtain ⟨rfl, rfl⟩ := hr
      have atS : (s.heap.push { cls := .type "set", dict := none, data := .set #[] 0 (.fresh 0 0 (!w.params.followText "set-order")) }).get? s.heap.objs.size = some { cls := .type "set", dict := none, data := .set #[] 0 (.fresh 0 0 (!w.params.followText "set-order")) } := Heap.get?_push_size _ rfl
      have tyS : Shared.TypeIs { s with heap := s.heap.push { cls := .type "set", dict := none, data := .set #[] 0 (.fresh 0 0 (!w.params.followText "set-order")) } } (.ref s.heap.objs.size) "set" := ⟨_, atS, rfl⟩
      have freshS := setT_fresh (h := s.heap) w P
      have size1 : (s.heap.push { cls := .type "set", dict := none, data := .set #[] 0 (.fresh 0 0 (!w.params.followText "set-order")) }).objs.size = s.heap.objs.size + 1 := Heap.size_push ..
      have f4 := F.called_set.init.lookup
      have f5 := F.called_set.init.bind (.ref s.heap.objs.size)
      repeat (any_goals (first | assumption | wp_step))
      refine codeAny_mono (codeAny_call_builtin (R := wants (fun r s₂ => r = .none ∧ ∃ h' tk l, s₂ = { s with heap := h', toks := tk } ∧ SetT P w h' s.heap.objs.size l ∧ l.length ≤ x.length ∧ (∀ k, k ∈ l ↔ k ∈ sgT x) ∧
          (∀ b o, s.heap.get? b = some o → h'.get? b = some o)) E) F.called_set.init.plain F.entry_set_init (check_set_init_1 tyS ?_)) fun r₂ s₂ hr₂ => ?_
      · have f6 := PySem.F.sub_str_set
        have f7 := PySem.F.sub_str_frozenset
        have f8 : (Value.type "str" == Value.type "dict") = false := by decide
        unfold Builtin.«set.__init__» noKeywords Builtin.Frozenset.updateFrom
        generalize hPI : pyIter = PI
        wp_walk
        subst hPI
        refine wpAny_pyIter_str fun o St W st0 => ?_
        refine wpAny_bind (wpAny_runValue ?_)
        have out : s.heap.objs.size ∉ [(s.heap.push { cls := .type "set", dict := none, data := .set #[] 0 (.fresh 0 0 (!w.params.followText "set-order")) }).objs.size] := fun z => by
          rw [size1] at z
          exact Nat.succ_ne_self _ (List.mem_singleton.mp z).symm
        refine set_update_tx (W _ (by simp [hand])).toS s.heap.objs.size out (sgT x) (by rw [sgT_len]; rfl) (by rw [sgT_len]; exact room) (fun i v ⟨c, t, e1, e2⟩ => ⟨⟨#[c]⟩, t, ?_, e2⟩) (x.cps.size - 0) 0 _ (by omega) (Nat.zero_le _) st0 ⟨[], ?_, Nat.le_refl _, fun k => by simp⟩ ?_
        · unfold sgT
          rw [List.getElem?_map, Array.getElem?_toList, e1]
          rfl
        · exact freshS.at fun o e => Heap.get?_push_of_some _ e
        · intro s' l mv hl ll ml
          obtain ⟨h', g2, d', tk', os'⟩ := s'
          have eg : g2 = s.gens := mv.gens
          have ed : d' = s.drawn := mv.drawn
          have eo : os' = s.os := mv.os
          subst eg; subst ed; subst eo
          show wpAny _ _ _ _ _ _
          refine wpAny_pure ?_
          show wpAny _ _ (ret Value.none) _ _ _
          refine wpAny_pure ⟨rfl, h', tk', l, rfl, hl, ll, ml, fun b o e => ?_⟩
          have lt := Heap.lt_size e
          have ne1 : b ≠ (s.heap.push { cls := .type "set", dict := none, data := .set #[] 0 (.fresh 0 0 (!w.params.followText "set-order")) }).objs.size := by
            rw [size1]
            exact Nat.ne_of_lt (Nat.lt_succ_of_lt lt)
          exact mv.heap b o (by simp only [List.mem_cons, List.not_mem_nil, or_false, not_or]; exact ⟨Nat.ne_of_lt lt, ne1⟩) (Heap.get?_push_of_some _ (Heap.get?_push_of_some _ e))
      · cases r₂ with
        | error e => exact hr₂
        | ok fl₂ =>
          cases fl₂ with
          | ret r =>
            obtain ⟨rfl, h', tk, l, rfl, h1, h2, h3, h4⟩ := hr₂
            repeat (any_goals (first | assumption | wp_step))
            exact h _ _ _ h1 h2 h3 h4
          | _ => exact hr₂.elim
    | _ => exact hr.elim
end
end DL

end
section
set_option maxHeartbeats 2000000
namespace DL
open PySem PySem.Spec PyProof.Rows L2 PySem.Froz

/-! ### sets of texts as tracked things -/
def SetTO (P : Program) (w : World) (a : Addr) (l : List Str) : HO := .ext fun h => SetT P w h a l
theorem setTO_new {w : World} {P : Program} {H : Hp} {h : Heap} {a : Addr} {l : List Str} (R : SetT P w h a l) : ObjOk P w H h a (SetTO P w a l) := by
  have ⟨D, e, _⟩ := R
  exact ⟨R, ⟨_, e⟩, fun h1 h2 p k => SetT.at p k⟩
def dedT (xs : List Str) : List Str := xs.foldr (fun k l => insT l k) []
theorem mem_dedT {x : Str} : ∀ {xs : List Str}, x ∈ dedT xs ↔ x ∈ xs
  | [] => Iff.rfl
  | k :: xs => by
    show x ∈ insT (dedT xs) k ↔ _
    rw [mem_insT, mem_dedT (xs := xs), List.mem_cons]
    exact ⟨fun e => e.symm, fun e => e.symm⟩
theorem nodup_dedT : ∀ xs : List Str, (dedT xs).Nodup
  | [] => List.nodup_nil
  | k :: xs => nodup_insT (nodup_dedT xs)
theorem perm_dedT {l xs : List Str} (n : l.Nodup) (m : ∀ x, x ∈ l ↔ x ∈ xs) : l.Perm (dedT xs) :=
  (List.perm_ext_iff_of_nodup n (nodup_dedT xs)).mpr fun x => (m x).trans mem_dedT.symm
theorem sortStr_perm {l m : List Str} (p : l.Perm m) : sortStr l = sortStr m := sortStr_uniq ((List.mergeSort_perm l leS).trans p) (sortStr_pw l)
section
variable {X : Cx}
theorem setTO_get {pins : List (Addr × Obj)} {σ : L2.St} {H : Hp} {s : Shared} {a : Addr} {l : List Str} (I : L2.Inv X pins σ H s) (ha : H a = some (SetTO X.prog X.w a l)) : SetT X.prog X.w s.heap a l := (I.hok a _ ha).1
/-- set(x), x a text -/
def rSetTx (P : Program) (w : World) : List V → Hp → VK → Prop := fun xs H Q => ∃ x : Str, xs = [.str x] ∧ x.length + 1 < scanBound ∧ ∀ (p : Addr) (l : List Str), H p = none → l.length ≤ x.length → l.Nodup → (∀ k, k ∈ l ↔ k ∈ sgT x) → Q (.ref p) (upd H p (SetTO P w p l))
theorem cr_setTx (hc : X.calm = true) : CallR X (.type "set") (rSetTx X.prog X.w) := by
  intro pins s σ H xs us Q I r h
  obtain ⟨x, rfl, room, q⟩ := h
  cases r with
  | cons r1 r2 =>
    cases r2
    obtain ⟨t, rfl⟩ := r1
    refine call_set_tx (I.ok.hd hc) room fun h' tk l hl ll ml kk => ?_
    have nd : l.Nodup := by
      obtain ⟨D, _, _, n, _⟩ := hl
      exact n
    have fr : H s.heap.objs.size = none := I.hok.fresh (Nat.le_refl _)
    exact ⟨.ref _, upd H s.heap.objs.size (SetTO X.prog X.w s.heap.objs.size l), I.laid (t' := tk) kk (Nat.le_refl _) (setTO_new hl), rfl, q _ l fr ll nd ml⟩
/-- sorted of a set of texts -/
def rSrtSetT (P : Program) (w : World) : List V → Hp → VK → Prop := fun xs H Q => ∃ (a : Addr) (l : List Str), xs = [.ref a] ∧ H a = some (SetTO P w a l) ∧ l.length < scanBound ∧ ∀ p, H p = none → Q (.ref p) (upd H p (.lst ((sortStr l).map V.str)))
theorem cr_srtSetT (hc : X.calm = true) : CallR X (.builtin "sorted") (rSrtSetT X.prog X.w) := by
  intro pins s σ H xs us Q I r h
  obtain ⟨a, l, rfl, ha, room, q⟩ := h
  rw [Vals.ref1 r]
  obtain ⟨D, e, F, nd, ri, le⟩ := setTO_get I ha
  have hz : l.length ≤ sizeLine := fits_of_scanBound room
  refine sorted_texts I hz (fun Q' z => ?_) q
  refine collect_set (A := X.A.in1) (I.ok.hd hc) ⟨_, e, rfl, rfl⟩ F.fit (by rw [F.sz]; exact room) ri le fun s1 out k1 z1 g1 o1 pm => ?_
  obtain ⟨a1, a2⟩ := SetT.outs F nd pm
  exact z s1 out k1 g1 o1 a1 a2
/-- len of a set of texts -/
def rLenSetT (P : Program) (w : World) : List V → Hp → VK → Prop := fun xs H Q => ∃ (a : Addr) (l : List Str), xs = [.ref a] ∧ H a = some (SetTO P w a l) ∧ l.length < scanBound ∧ Q (.int l.length) H
/-- sorted(x), x a text -/
def rSrtTx : List V → Hp → VK → Prop := fun xs H Q => ∃ x : Str, xs = [.str x] ∧ x.length ≤ sizeLine ∧ ∀ p, H p = none → Q (.ref p) (upd H p (.lst ((sortStr (sgT x)).map V.str)))
end

/-! ### over data -/
theorem repO_strs {K : PySem.W.Frag} {H : Hp} {A : Addr → Prop} {p : Addr} (ak : AOk A H) (n : H p = none) (l : List Str) : RepO K (upd H p (.lst (l.map V.str))) (Ad A p) (.lst (l.map D.str)) p := repO_newlst ak (repL_strs' l) n
def srtTxD : List D → Option D
  | [.str x] => if x.length ≤ sizeLine then some (.lst ((sortStr (sgT x)).map D.str)) else none
  | _ => none
def srt2D (l : List D) : Option D := match srtTxD l with
  | some d => some d
  | none => srtD l
section
variable {X : Cx} {W : WX} {a : Expr} {p p2 pos pos2 : Pos} {fa : Env → R D}
/-- sorted(set(x)), len(set(x)) -/
def srtSetD (d : D) : Option D := match d with
  | .str x => if x.length + 1 < scanBound then some (.lst ((sortStr (dedT (sgT x))).map D.str)) else none
  | _ => none
def lenSetD (d : D) : Option D := match d with
  | .str x => if x.length + 1 < scanBound then some (.int (dedT (sgT x)).length) else none
  | _ => none
theorem d_srtSet (hc : X.calm = true) (hg : Gl X "sorted") (hm : X.mg "sorted" = none) (hg2 : Gl X "set") (hm2 : X.mg "set" = none) (ha : DB X W a fa)
    (na : starEach [a] X.env = (false, eval a X.env) :: starEach [] X.env := by rfl) (nb : starEach [.Call (.Name "set" p2) [a] [] pos2] X.env = (false, eval (.Call (.Name "set" p2) [a] [] pos2) X.env) :: starEach [] X.env := by rfl) :
    DF X W (.Call (.Name "sorted" p) [.Call (.Name "set" p2) [a] [] pos2] [] pos) (fun r => (fa r).bind fun d => R.ofO (srtSetD d)) := by
  obtain ⟨t, pe, w⟩ := ha
  refine ⟨_, pe_callB (cr_srtSetT hc) hg hm (by rfl) (pa_cons (pe_callTy (cr_setTx hc) hg2 hm2 (by rfl) (pa_cons pe pa_nil na) (he := na)) pa_nil nb) (he := nb), fun F os r σ H Q R S => w F os r σ H _ R (S.bind.imp fun d S v H1 s1 h1 => ?_)⟩
  obtain ⟨d2, e, S⟩ := Sat.ofO S
  cases d with
  | str x =>
    have e : (if x.length + 1 < scanBound then some (D.lst ((sortStr (dedT (sgT x))).map D.str)) else none) = some d2 := e
    by_cases z : x.length + 1 < scanBound
    · rw [if_pos z] at e
      cases e
      rw [h1.str]
      refine ⟨x, rfl, z, fun q l nq ll nd ml => ⟨q, l, rfl, upd_same, by omega, fun q2 nq2 => ?_⟩⟩
      rw [sortStr_perm (perm_dedT nd ml)]
      have sm : Same H1 (upd H1 q (SetTO X.prog X.w q l)) := same_upd nq
      exact S q2 _ (s1.trans (sm.trans (same_upd nq2))) (s1.free (sm.free nq2)) (repO_strs (R.same' (s1.trans sm)).AOk nq2 _)
    · rw [if_neg z] at e
      cases e
  | _ => cases e
end
end DL

end
section
set_option maxHeartbeats 2000000
namespace DL
open PySem PySem.Spec PyProof.Rows L2 PySem.Froz PpSet

/-! ### {elt for target in iter if ..}, elt a text -/
section
variable {X : Cx}
def tScT (P : Program) (w : World) (wi : TI) (g : TG) (tt : TT) (te : TE) (vs : List Nat) : TE := fun σ H Q => wi σ H fun J H1 => ∀ D, H1 D = none → ∃ W : Nat → Nat → Hp → Prop, (∃ m, W 0 m (upd H1 D (SetTO P w D []))) ∧ ∀ i m H, W i m H →
  (J.stop i H ∧ Q (.ref D) H) ∨ (J.go i H ∧ ∃ Nx : Hp → Prop, (∀ H', Nx H' → ∃ m', m' < m ∧ W (i + 1) m' H') ∧ ∀ x H', J.yld i H x H' → g x (L2.wipe σ vs) H' fun σ2 H2 => L2.wipe σ2 vs = L2.wipe σ vs ∧ tt σ2 H2 fun b H3 =>
    if b = true then te σ2 H3 fun y H4 => ∃ (c : PySem.Str) (l : List PySem.Str), y = .str c ∧ H4 D = some (SetTO P w D l) ∧ l.length + 1 < scanBound ∧ Nx (upd H4 D (SetTO P w D (insT l c))) else Nx H3)
end
end DL
namespace DL
open PySem L2
/-! ### over data: sorted({elt for target in iter if ..}) -/
def srtScD (own : List (Str × Nat)) (h : Env → R (List D)) (g : D → Env → R Env) (c : Env → R Bool) (f : Env → R D) : Env → R D := fun r => if noOwn (own.map (·.2)) r = true then (h r).bind fun items => if items.length + 1 < scanBound then (R.ne (lcP g c f (wipeE r (own.map (·.2))) items)).bind fun ds =>
    (R.ofO (strsOf ds)).bind fun ss => .ok (.lst ((sortStr (dedT ss)).map D.str)) else .stk else .stk
section
variable {X : Cx} {W : WX} {elt tg iter : Expr} {ifs : List Expr} {scope : Scope} {own : List (Str × Nat)} {p pos pos2 : Pos} {ks : List Nat} {h : Env → R (List D)} {g : D → Env → R Env} {c : Env → R Bool} {f : Env → R D}
end
end DL
namespace DL
open PySem L2
/-! ### x += y, texts -/
theorem ip_addS {X : Cx} : PIp X .Add rAddS := fun pins s σ H x y u v Q I rx ry h => iop_add_str pins s σ H x y u v Q I rx ry h
def addSD : D → D → Option D
  | .str x, .str y => if x.length + y.length ≤ sizeLine then some (.str (x ++ y)) else none
  | _, _ => none
theorem o_ipS {X : Cx} : OpIp X rAddS addSD := by
  intro A H x y v w d Q ak e h1 h2 k
  cases x with
  | str i => cases y with
    | str j =>
      have e : (if i.length + j.length ≤ sizeLine then some (D.str (i ++ j)) else none) = some d := e
      by_cases z : i.length + j.length ≤ sizeLine
      · rw [if_pos z] at e
        cases e
        exact ⟨i, j, RepB.str (.inl h1), RepB.str h2, z, k _ H Same.of_eq rep_str⟩
      · rw [if_neg z] at e
        cases e
    | _ => cases e
  | _ => cases e
end DL

end
section
namespace DL
open PySem L2
/-! ### x in t, t a tuple of data of any depth -/
def rInTD (K : PySem.W.Frag) (n : Bool) : R2 := fun x y H Q => ∃ d ds, Dp K H x d ∧ Dp K H y (.tuple ds) ∧ SeqAt.shaped d = true ∧ PyData.canLayAll0 ds = true ∧ Q (.bl (if n then !ds.any (fun z => PyData.eqv z d) else ds.any fun z => PyData.eqv z d)) H
section
variable {X : Cx}
def inT (n : Bool) (x y : D) : Option D := match y with
  | .tup ys => if shp x = true ∧ PyData.canLayAll0 (toPyL ys) = true then some (.bl (if n then !ys.any (fun y => eqPy y x) else ys.any fun y => eqPy y x)) else none
  | _ => none
end
end DL

end
section
namespace DL
open PySem L2

/-! ### loops, by invariants -/
theorem forD_inv {g : D → Env → R Env} {b : Env → R Fl} (I : Nat → Env → Prop) : ∀ (items : List D) (k : Nat) (r : Env), I k r →
    (∀ (i : Nat) (x : D) (r : Env), items[i]? = some x → I (k + i) r → ∃ r1 r2, g x r = .ok r1 ∧ b r1 = .ok (.nx r2) ∧ I (k + i + 1) r2) →
    ∃ r', forD g b items r = .ok (.nx r') ∧ I (k + items.length) r'
  | [], k, r, h0, hs => ⟨r, rfl, h0⟩
  | x :: xs, k, r, h0, hs => by
    obtain ⟨r1, r2, e1, e2, h2⟩ := hs 0 x r rfl h0
    obtain ⟨r', e3, h3⟩ := forD_inv I xs (k + 1) r2 h2 (fun i y r e h => by
      have := hs (i + 1) y r (by simpa using e) (by rw [← Nat.add_assoc, Nat.add_right_comm]; exact h)
      rw [← Nat.add_assoc, Nat.add_right_comm k i 1] at this
      exact this)
    refine ⟨r', ?_, ?_⟩
    · unfold forD
      rw [e1]
      simp only [R.bind]
      rw [e2]
      exact e3
    · rw [List.length_cons, Nat.add_comm xs.length 1, ← Nat.add_assoc]
      exact h3
theorem for_inv {g : D → Env → R Env} {b : Env → R Fl} {items : List D} {r : Env} (I : Nat → Env → Prop) (h0 : I 0 r)
    (hs : ∀ (i : Nat) (x : D) (r : Env), items[i]? = some x → I i r → ∃ r1 r2, g x r = .ok r1 ∧ b r1 = .ok (.nx r2) ∧ I (i + 1) r2) :
    ∃ r', forD g b items r = .ok (.nx r') ∧ I items.length r' := by
  have := forD_inv (g := g) (b := b) I items 0 r h0 (fun i x r e h => by
    rw [Nat.zero_add] at h ⊢
    exact hs i x r e h)
  rw [Nat.zero_add] at this
  exact this
/-! ### texts by their signs -/
abbrev mkS (l : List Nat) : Str := ⟨l.toArray⟩
def tx (l : List Nat) : D := .str (mkS l)
theorem tx_eq (l : List Nat) : tx l = .str (mkS l) := (rfl)
theorem str_len (l : List Nat) : (mkS l).length = l.length := (rfl)
theorem sgs_tx (l : List Nat) : sgs (mkS l) = l.map fun c => tx [c] := by
  unfold sgs
  rfl
theorem str_app (l m : List Nat) : mkS l ++ mkS m = mkS (l ++ m) := by
  show PySem.Str.append _ _ = _
  unfold PySem.Str.append
  simp
theorem tx_inj {l m : List Nat} : (mkS l = mkS m) ↔ l = m := by
  constructor
  · intro h
    have := congrArg (fun s : Str => s.cps.toList) h
    simpa using this
  · intro h
    rw [h]
theorem cut_tx (l : List Nat) (lo hi : Option Int) : cutS (mkS l) lo hi = mkS (cutL l lo hi) := by
  unfold cutS cutL
  rw [str_len]
theorem len_fit {l : List Nat} (h : l.length ≤ 1000) : l.length ≤ sizeLine := by
  rw [sizeLine_eq]
  omega
theorem ix_tx {l : List Nat} (h : l.length ≤ 1000) (i : Int) : ixD (tx l) (.int i) = (atI l i).map fun c => tx [c] := by
  rw [tx_eq]
  unfold ixD
  simp only
  rw [if_pos (by rw [str_len]; exact len_fit h)]
  rfl
theorem len_tx {l : List Nat} (h : l.length ≤ 1000) : lenD [tx l] = some (.int l.length) := by
  simp only [tx_eq]
  unfold lenD
  simp only
  rw [if_pos (by rw [str_len]; exact len_fit h), str_len]
theorem sl_tx {l : List Nat} (h : l.length ≤ 1000) (lo hi : Option Int) : slA (tx l) lo hi = some (tx (cutL l lo hi)) := by
  simp only [tx_eq]
  unfold slA
  simp only
  rw [if_pos (by rw [str_len]; exact len_fit h), cut_tx]
theorem eq_tx (l m : List Nat) : eqD (tx l) (tx m) = some (.bl (decide (l = m))) := by
  simp only [tx_eq]
  unfold eqD
  simp only [tx_inj]
theorem ne_tx (l m : List Nat) : neD (tx l) (tx m) = some (.bl (!decide (l = m))) := by
  simp only [tx_eq]
  unfold neD
  simp only [tx_inj]
theorem plus_tx {l m : List Nat} (h : l.length ≤ 1000) (h2 : m.length ≤ 1000) : plusD (tx l) (tx m) = some (tx (l ++ m)) := by
  simp only [tx_eq]
  unfold plusD
  simp only
  rw [if_pos (by rw [str_len, str_len, sizeLine_eq]; omega), str_app]
theorem eq_int (i j : Int) : eqD (.int i) (.int j) = some (.bl (decide (i = j))) := (rfl)
theorem ne_int (i j : Int) : neD (.int i) (.int j) = some (.bl (!decide (i = j))) := (rfl)
theorem le_int (i j : Int) : le2D (.int i) (.int j) = some (.bl (decide (i ≤ j))) := (rfl)
theorem atI_nat {α : Type} (xs : List α) (i : Nat) : atI xs (i : Int) = xs[i]? := by
  unfold atI ixN
  rw [if_pos (Int.natCast_nonneg i)]
  by_cases h : i < xs.length
  · rw [if_pos (by omega)]
    rfl
  · rw [if_neg (by omega), List.getElem?_eq_none (by omega)]
    rfl
theorem atI_zero {α : Type} (xs : List α) : atI xs 0 = xs[0]? := atI_nat xs 0
theorem atI_last {α : Type} (xs : List α) : atI xs (-1) = xs.getLast? := by
  unfold atI ixN
  rw [if_neg (by decide)]
  cases xs with
  | nil => rfl
  | cons a t =>
    rw [if_pos (by rw [List.length_cons]; omega), List.getLast?_eq_getElem?]
    show (a :: t)[((-1 : Int) + (((a :: t).length : Nat) : Int)).toNat]? = _
    congr 1
    rw [List.length_cons]
    omega
theorem cut_to {α : Type} (xs : List α) (k : Nat) : cutL xs none (some (k : Int)) = xs.take k := by
  unfold cutL
  rw [HT.sIx_none, HT.sIx_nat, List.drop_zero, Nat.sub_zero, Nat.min_comm]
  by_cases h : k ≤ xs.length
  · rw [Nat.min_eq_right h]
  · rw [Nat.min_eq_left (by omega), List.take_of_length_le (Nat.le_refl _), List.take_of_length_le (by omega)]
theorem cut_from {α : Type} (xs : List α) (k : Nat) : cutL xs (some (k : Int)) none = xs.drop k := by
  unfold cutL
  rw [HT.sIx_none, HT.sIx_nat]
  by_cases h : k ≤ xs.length
  · rw [Nat.min_eq_left h, List.take_of_length_le (by rw [List.length_drop]; exact Nat.le_refl _)]
  · rw [Nat.min_eq_right (by omega), List.drop_of_length_le (Nat.le_refl _), List.drop_of_length_le (by omega), List.take_nil]
theorem cut_both {α : Type} (xs : List α) (i j : Nat) : cutL xs (some (i : Int)) (some (j : Int)) = (xs.take j).drop i := by
  unfold cutL
  rw [HT.sIx_nat, HT.sIx_nat, List.drop_take]
  by_cases hi : i ≤ xs.length
  · rw [Nat.min_eq_left hi]
    by_cases hj : j ≤ xs.length
    · rw [Nat.min_eq_left hj]
    · rw [Nat.min_eq_right (Nat.le_of_not_le hj), List.take_of_length_le (by rw [List.length_drop]; exact Nat.le_refl _), List.take_of_length_le (by rw [List.length_drop]; omega)]
  · rw [Nat.min_eq_right (Nat.le_of_not_le hi), List.drop_of_length_le (Nat.le_refl _), List.drop_of_length_le (Nat.le_of_not_le hi), List.take_nil, List.take_nil]
theorem cut_butlast {α : Type} (xs : List α) : cutL xs none (some (-1)) = xs.dropLast := by
  unfold cutL
  rw [HT.sIx_none, List.drop_zero, Nat.sub_zero, List.dropLast_eq_take]
  have e : HT.sIx xs.length xs.length (some (-1)) = ((-1 : Int) + (xs.length : Int)).toNat := (rfl)
  rw [e]
  congr 1
  omega
/-- ints -/
abbrev nl (l : List Nat) : D := .lst (l.map fun k => D.int (k : Nat))
theorem rng_get (lo : Int) (n i : Nat) (x : D) (h : (rngL lo n)[i]? = some x) : i < n ∧ x = .int (lo + (i : Nat)) := by
  have hi : i < n := by
    have := (List.getElem?_eq_some_iff.mp h).1
    rw [rngL_length] at this
    exact this
  unfold rngL at h
  rw [List.getElem?_map, List.getElem?_range hi] at h
  exact ⟨hi, (Option.some.inj h).symm⟩
end DL

end
section
namespace DL
open PySem L2
/-! ### evaluation -/
section
variable {α β : Type}
theorem bind_ok (a : α) (g : α → R β) : (R.ok a).bind g = g a := (rfl)
theorem ofO_some (a : α) : R.ofO (some a) = R.ok a := (rfl)
theorem at_ok (r : Env) (a : α) : R.at r (R.ok a) = R.ok a := (rfl)
theorem ne_ok (a : α) : R.ne (R.ok a) = R.ok a := (rfl)
end
def gS : Option Slot → R D
  | some (.sh d) => .ok d
  | _ => .stk
def gA : Option Slot → R D
  | some (.sh d) => .ok d
  | some (.own d) => .ok d
  | some (.io d) => .ok d
  | _ => .stk
theorem gSh_eq (i : Nat) (r : Env) : gSh i r = gS r[i]? := (rfl)
theorem gAny_eq (i : Nat) (r : Env) : gAny i r = gA r[i]? := (rfl)
theorem gS_sh (d : D) : gS (some (.sh d)) = .ok d := (rfl)
theorem gA_sh (d : D) : gA (some (.sh d)) = .ok d := (rfl)
theorem gA_own (d : D) : gA (some (.own d)) = .ok d := (rfl)
theorem gA_io (d : D) : gA (some (.io d)) = .ok d := (rfl)
def oL : Option Slot → Option (Slot × List D)
  | some s => match s.cont with
    | some (.lst xs) => some (s, xs)
    | _ => none
  | none => none
theorem ownL_eq (r : Env) (i : Nat) : ownL r i = oL r[i]? := (rfl)
theorem oL_own (xs : List D) : oL (some (.own (.lst xs))) = some (.own (.lst xs), xs) := (rfl)
theorem oL_io (xs : List D) : oL (some (.io (.lst xs))) = some (.io (.lst xs), xs) := (rfl)
theorem put_own (d e : D) : (Slot.own d).put e = .own e := (rfl)
theorem put_io (d e : D) : (Slot.io d).put e = .io e := (rfl)
theorem asB_bl' (b : Bool) : asB (.bl b) = some b := (rfl)
theorem asI_int' (i : Int) : asI (.int i) = some i := (rfl)
theorem tru_bl (b : Bool) : truD (.bl b) = some b := (rfl)
theorem tru_int (i : Int) : truD (.int i) = some (i != 0) := (rfl)
theorem tru_lst (xs : List D) : truD (.lst xs) = some (!xs.isEmpty) := (rfl)
theorem len_lst (xs : List D) : lenD [.lst xs] = some (.int xs.length) := (rfl)
theorem len_tup (xs : List D) : lenD [.tup xs] = some (.int xs.length) := (rfl)
theorem ix_lst (xs : List D) (i : Int) : ixD (.lst xs) (.int i) = atI xs i := (rfl)
theorem ix_tup (xs : List D) (i : Int) : ixD (.tup xs) (.int i) = atI xs i := (rfl)
theorem sl_lst (xs : List D) (lo hi : Option Int) : slA (.lst xs) lo hi = some (.lst (cutL xs lo hi)) := (rfl)
theorem sl_tup (xs : List D) (lo hi : Option Int) : slA (.tup xs) lo hi = some (.tup (cutL xs lo hi)) := (rfl)
theorem plus_int (i j : Int) : plusD (.int i) (.int j) = some (.int (i + j)) := (rfl)
theorem plus_lst {xs ys : List D} (h : xs.length + ys.length ≤ 1000000) : plusD (.lst xs) (.lst ys) = some (.lst (xs ++ ys)) := by
  unfold plusD
  simp only
  rw [if_pos (by rw [sizeLine_eq]; omega)]
theorem plus_tup {xs ys : List D} (h : xs.length + ys.length ≤ 1000000) : plusD (.tup xs) (.tup ys) = some (.tup (xs ++ ys)) := by
  unfold plusD
  simp only
  rw [if_pos (by rw [sizeLine_eq]; omega)]
theorem cat_lst {xs ys : List D} (h : xs.length + ys.length ≤ 1000000) : catD (.lst xs) (.lst ys) = some (.lst (xs ++ ys)) := by
  unfold catD
  simp only
  rw [if_pos (by rw [sizeLine_eq]; omega)]
theorem rep_lst1 {d : D} {k : Nat} (h : k ≤ 1000000) : repD (.lst [d]) (.int (k : Nat)) = some (.lst (List.replicate k d)) := by
  unfold repD
  simp only
  rw [if_pos ⟨by omega, by omega, by rw [sizeLine_eq, Int.toNat_natCast]; simp; omega⟩, Int.toNat_natCast]
  congr 2
  induction k with
  | zero => rfl
  | succ k ih => rw [List.replicate_succ, List.flatten_cons, ih (by omega)]; rfl
theorem zD_tx (l : List Nat) : zD (tx l) = some (l.map fun c => tx [c]) := by
  rw [tx_eq]
  show some (sgs (mkS l)) = _
  rw [sgs_tx]
theorem zD_lst (xs : List D) : zD (.lst xs) = some xs := (rfl)
theorem zD_tup (xs : List D) : zD (.tup xs) = some xs := (rfl)
theorem rev_tx {l : List Nat} (h : l.length ≤ 1000) : revZ (tx l) = some (l.reverse.map fun c => tx [c]) := by
  rw [tx_eq]
  unfold revZ
  simp only
  rw [if_pos (by rw [str_len]; exact len_fit h), sgs_tx, List.map_reverse]
theorem en_tx (l : List Nat) : enD [tx l] = some ((l.zipIdx).map fun p => D.tup [.int (p.2 : Nat), tx [p.1]]) := by
  rw [tx_eq]
  show some ((sgs (mkS l)).zipIdx.map _) = _
  rw [sgs_tx, List.zipIdx_map, List.map_map]
  rfl
theorem asStr_tx (l : List Nat) : asStr (tx l) = some (mkS l) := (rfl)
theorem tup_lst (xs : List D) : tupC [.lst xs] = some (.tup xs) := (rfl)
theorem lst_tup (xs : List D) : lstC [.tup xs] = some (.lst xs) := (rfl)
theorem isi_tx (l : List Nat) : isiD [tx l, .ty "str"] = some (.bl true) := (rfl)
theorem isi_int (i : Int) : isiD [.int i, .ty "int"] = some (.bl true) := (rfl)
theorem kit_ib : kitB "int" "bool" = some false := by decide +kernel
theorem kit_lt : kitB "list" "tuple" = some false := by decide +kernel
theorem isi_intb (i : Int) : isiD [.int i, .ty "bool"] = some (.bl false) := by
  show (if "int" = "" then none else kitB "int" "bool").map D.bl = _
  rw [kit_ib, if_neg (by decide)]
  rfl
theorem isi_tt (xs : List D) : isiD [.tup xs, .ty "tuple"] = some (.bl true) := (rfl)
theorem isi_lt (xs : List D) : isiD [.lst xs, .ty "tuple"] = some (.bl false) := by
  show (if "list" = "" then none else kitB "list" "tuple").map D.bl = _
  rw [kit_lt, if_neg (by decide)]
  rfl
theorem int_op {C : Int → Int → Bool} {F : Int → Int → Int} {i j : Int} (h : C i j = true) : intOp C F (.int i) (.int j) = some (.int (F i j)) := by
  unfold intOp
  simp only
  rw [if_pos h]
theorem sub_int' (i j : Int) : subD (.int i) (.int j) = some (.int (i - j)) := int_op rfl
theorem add_ip (i j : Int) : intOp (fun _ _ => true) (fun i j => i + j) (.int i) (.int j) = some (.int (i + j)) := int_op rfl
theorem sub_ip (i j : Int) : intOp (fun _ _ => true) (fun i j => i - j) (.int i) (.int j) = some (.int (i - j)) := int_op rfl
theorem mul_int' {i j : Int} (h : (-(2 ^ 64) < i ∧ i < 2 ^ 64) ∨ (-(2 ^ 64) < j ∧ j < 2 ^ 64)) : mulD (.int i) (.int j) = some (.int (i * j)) := int_op (by
  rcases h with z | z
  · rw [decide_eq_true z, Bool.true_or]
  · rw [decide_eq_true z, Bool.or_true])
theorem mod_int' {i j : Int} (h : 0 < j) : modD (.int i) (.int j) = some (.int (i % j)) := int_op (decide_eq_true h)
theorem fdiv_int' {i j : Int} (h : 0 < j ∧ j < 1073741824) : fdivD (.int i) (.int j) = some (.int (i / j)) := int_op (decide_eq_true h)
theorem lt_int (i j : Int) : ltD (.int i) (.int j) = some (.bl (decide (i < j))) := (rfl)
theorem gt_int (i j : Int) : gtD (.int i) (.int j) = some (.bl (decide (j < i))) := (rfl)
theorem ge_int (i j : Int) : geD (.int i) (.int j) = some (.bl (decide (j ≤ i))) := (rfl)
theorem isn_int (i : Int) : notN2 (.int i) .non = some (.bl true) := (rfl)
theorem isn_non : notN2 .non .non = some (.bl false) := (rfl)
theorem isb (a b : Bool) : isBD (.bl a) (.bl b) = some (.bl (decide (a = b))) := (rfl)
theorem neg_int (i : Int) : negD (.int i) = some (.int (-i)) := (rfl)
theorem int_int (i : Int) : intD [.int i] = some (.int i) := (rfl)
theorem atI_two {α : Type} (xs : List α) : atI xs 2 = xs[2]? := atI_nat xs 2
theorem atI_three {α : Type} (xs : List α) : atI xs 3 = xs[3]? := atI_nat xs 3
theorem atI_one {α : Type} (xs : List α) : atI xs 1 = xs[1]? := atI_nat xs 1
theorem atI_succ {α : Type} (xs : List α) (n : Nat) : atI xs ((n : Int) + 1) = xs[n + 1]? := atI_nat xs (n + 1)
theorem rg1_nat {n : Nat} (h : n ≤ 1000000) : rg1 [.int (n : Nat)] = some (rngL 0 n) := by
  unfold rg1
  simp only
  rw [if_pos (by omega), Int.toNat_natCast]
/-! ### statements -/
section
variable {f g : Env → R Fl} {r r1 r2 : Env} {x : R Fl} {d : D}
theorem seq_nx (h : f r = .ok (.nx r1)) (h2 : g r1 = x) : seqS f g r = x := by
  unfold seqS
  rw [h]
  exact h2
theorem seq_rt (h : f r = .ok (.rt d r1)) : seqS f g r = .ok (.rt d r1) := by
  unfold seqS
  rw [h]
  rfl
theorem if_y {c : Env → R (Bool × Env)} (h : c r = .ok (true, r1)) (h2 : f r1 = x) : ifS c f g r = x := by
  unfold ifS
  rw [h]
  exact h2
theorem if_n {c : Env → R (Bool × Env)} (h : c r = .ok (false, r1)) (h2 : g r1 = x) : ifS c f g r = x := by
  unfold ifS
  rw [h]
  exact h2
theorem for_st {h : Env → R (List D × Env)} {t : D → Env → R Env} {items : List D} (e : h r = .ok (items, r1)) (h2 : forD t f items r1 = x) : forS h t f r = x := by
  unfold forS
  rw [e]
  exact h2
theorem for_p {h : Env → R (List D)} {t : D → Env → R Env} {items : List D} (e : h r = .ok items) (h2 : forD t f items r = x) : forS (withEnv h) t f r = x := by
  unfold forS withEnv
  rw [e]
  exact h2
theorem set_e {i : Nat} {h : Env → R (D × Env)} (e : h r = .ok (d, r1)) : setS i h r = .ok (.nx (r1.set i (.sh d))) := by
  unfold setS
  rw [e]
  rfl
theorem set_p {i : Nat} {h : Env → R D} (e : h r = .ok d) : setS i (withEnv h) r = .ok (.nx (r.set i (.sh d))) := by
  unfold setS withEnv
  rw [e]
  rfl
theorem ret_p {h : Env → R D} (e : h r = .ok d) : retS (withEnv h) r = .ok (.rt d r) := by
  unfold retS withEnv
  rw [e]
  rfl
theorem cond_p {h : Env → R Bool} {b : Bool} (e : h r = .ok b) : withEnv h r = .ok (b, r) := by
  unfold withEnv
  rw [e]
  rfl
theorem fnD_rt {N n : Nat} {ds : List D} (hl : ds.length = n) (h : f (ini N ds) = .ok (.rt d r1)) : fnD N n f ds = .ok d := by
  unfold fnD
  rw [if_pos hl, h]
  rfl
theorem fnD_nx {N n : Nat} {ds : List D} (hl : ds.length = n) (h : f (ini N ds) = .ok (.nx r1)) : fnD N n f ds = .ok .non := by
  unfold fnD
  rw [if_pos hl, h]
  rfl
theorem fnIO_rt {N n : Nat} {row row' ds : List D} (hl : ds.length = n) (h : f (.io (.lst row) :: ini (N - 1) ds) = .ok (.rt d (.io (.lst row') :: r1))) : fnIO N n f row ds = .ok (d, row') := by
  unfold fnIO
  rw [if_pos hl, h]
  rfl
theorem call_p {n : Nat} {F : List D → R D} {h : Env → R (List D)} {ds : List D} (e : h r = .ok ds) (hl : ds.length = n) (e2 : F ds = .ok d) : callF n F h r = .ok d := by
  unfold callF
  rw [e]
  simp only [bind_ok]
  rw [if_pos hl, e2]
  rfl
end
end DL
namespace DL
open PySem L2
section
variable {r r1 : Env} {d x y : D} {s : Slot} {xs : List D} {i : Nat}
theorem itm_ok {fk fe : Env → R D} {k : Int} {j : Nat} (hv : fe r = .ok d) (ho : ownL r i = some (s, xs)) (hk : fk r = .ok (.int k)) (hj : ixN xs.length k = some j) : itmS i fk fe r = .ok (.nx (r.set i (s.put (.lst (xs.set j d))))) := by
  unfold itmS
  simp only [hv, bind_ok, ho, ofO_some, hk, asI_int', hj]
end
theorem map_get {α : Type} (f : Nat → α) (n q : Nat) (h : q < n) : ((List.range n).map f)[q]? = some (f q) := by
  rw [List.getElem?_map, List.getElem?_range h]
  rfl
end DL
namespace DL
open PySem L2
end DL
namespace DL
open PySem L2
abbrev ni (k : Nat) : D := .int (k : Nat)
theorem rng_range' (s m : Nat) : rngL (s : Nat) m = (List.range' s m).map ni := by
  unfold rngL
  rw [List.range'_eq_map_range, List.map_map]
  apply List.map_congr_left
  intro i _
  simp [ni]
theorem ints_map (l : List Nat) : intsD (l.map ni) = some (l.map fun k : Nat => (k : Int)) := by
  induction l with
  | nil => rfl
  | cons a t ih =>
    rw [List.map_cons]
    unfold intsD
    rw [ih]
    rfl
theorem cast_sum (l : List Nat) : (l.map fun k : Nat => (k : Int)).sum = ((l.sum : Nat) : Int) := by
  induction l with
  | nil => rfl
  | cons a t ih =>
    rw [List.map_cons, List.sum_cons, List.sum_cons, ih]
    omega
theorem sum_nl (l : List Nat) : sumD [.lst (l.map ni)] = some (.int (l.sum : Nat)) := by
  show (intsD (l.map ni)).map (fun ns => D.int ns.sum) = _
  rw [ints_map, Option.map_some, cast_sum]
theorem sum_nt (l : List Nat) : sumD [.tup (l.map ni)] = some (.int (l.sum : Nat)) := by
  show (intsD (l.map ni)).map (fun ns => D.int ns.sum) = _
  rw [ints_map, Option.map_some, cast_sum]
end DL
namespace DL
theorem bin_ok {op : D → D → Option D} {f g : Env → R D} {r : Env} {x y d : D} (h : f r = .ok x) (h1 : g r = .ok y) (h2 : op x y = some d) : bin op f g r = .ok d := by
  show (f r).bind _ = _
  rw [h]
  show (g r).bind _ = _
  rw [h1]
  show R.ofO (op x y) = _
  rw [h2]
  exact (rfl)
end DL
namespace DL
open PySem L2
theorem wx {α : Type} {f : Env → R α} {r : Env} {a : α} (e : f r = .ok a) : withEnv f r = .ok (a, r) := by
  unfold withEnv
  rw [e]
  exact (rfl)
theorem callIO_ok {i n : Nat} {F : List D → List D → R (D × List D)} {g : Env → R (List D × Env)} {r : Env} {s : Slot} {row row' ds : List D} {d : D} (h : ownL r i = some (s, row)) (hg : g r = .ok (ds, r)) (hl : ds.length = n) (hF : F row ds = .ok (d, row')) :
    callIO i n F g r = .ok (d, r.set i (s.put (.lst row'))) := by
  unfold callIO
  simp only [h, ofO_some, bind_ok, hg, if_pos hl, hF, ne_ok]
theorem pow18 : powD (.int 10) (.int 18) = some (.int (10 ^ 18)) := int_op (by decide)
theorem abc : (D.str "abcdefgh") = tx [97, 98, 99, 100, 101, 102, 103, 104] := by
  unfold tx
  congr 1
def isPair (d : D) : Prop := ∃ a b : Nat, d = .tup [.int a, .int b]
end DL

end
section
namespace DL
open PySem L2
/-! ### whole bodies, step by step: first-order rewriting (for simp only); no lemma here is a definitional step -/
section
variable {α β : Type} (r r1 r2 : Env) (d x y z : D) (ds xs : List D) (b c : Bool)
def weB (x : R α) (r : Env) : R (α × Env) := x.bind fun a => .ok (a, r)
theorem we_e (f : Env → R α) : withEnv f r = weB (f r) r := (rfl)
theorem weB_ok (a : α) : weB (.ok a) r = .ok (a, r) := (rfl)
def tsB (x : R D) : R Bool := x.bind fun d => R.ofO (asB d)
theorem ts_e (f : Env → R D) : tst f r = tsB (f r) := (rfl)
theorem tsB_ok : tsB (.ok (.bl b)) = .ok b := (rfl)
def tsE (x : R (D × Env)) : R (Bool × Env) := x.bind fun p => (R.ofO (asB p.1)).bind fun b => .ok (b, p.2)
theorem tsE_e (f : Env → R (D × Env)) : tstE f r = tsE (f r) := (rfl)
theorem tsE_ok : tsE (.ok (.bl b, r)) = .ok (b, r) := (rfl)
def prB (x : R α) (r : Env) : R (α × Env) := x.bind fun a => .ok (a, r)
theorem prB_ok (a : α) : prB (.ok a) r = .ok (a, r) := (rfl)
def trB (x : R D) : R Bool := x.bind fun d => R.ofO (truD d)
theorem tr_e (f : Env → R D) : tru f r = trB (f r) := (rfl)
theorem trB_ok : trB (.ok d) = R.ofO (truD d) := (rfl)
def trE (x : R (D × Env)) : R (Bool × Env) := x.bind fun p => (R.ofO (truD p.1)).bind fun b => .ok (b, p.2)
theorem trE_e (f : Env → R (D × Env)) : truE f r = trE (f r) := (rfl)
theorem trE_ok : trE (.ok (d, r)) = prB (R.ofO (truD d)) r := (rfl)
def bnB (op : D → D → Option D) (x y : R D) : R D := x.bind fun x => y.bind fun y => R.ofO (op x y)
theorem bn_e (op : D → D → Option D) (f g : Env → R D) : bin op f g r = bnB op (f r) (g r) := (rfl)
theorem bnB_ok (op : D → D → Option D) : bnB op (.ok x) (.ok y) = R.ofO (op x y) := (rfl)
def bnE (op : D → D → Option D) (x : R (D × Env)) (g : Env → R (D × Env)) : R (D × Env) := x.bind fun x => (g x.2).bind fun y => (R.ofO (op x.1 y.1)).bind fun d => .ok (d, y.2)
def bnE2 (op : D → D → Option D) (x : D) (y : R (D × Env)) : R (D × Env) := y.bind fun y => (R.ofO (op x y.1)).bind fun d => .ok (d, y.2)
theorem bnE_e (op : D → D → Option D) (f g : Env → R (D × Env)) : binE op f g r = bnE op (f r) g := (rfl)
theorem bnE_ok (op : D → D → Option D) (g : Env → R (D × Env)) : bnE op (.ok (x, r)) g = bnE2 op x (g r) := (rfl)
theorem bnE2_ok (op : D → D → Option D) : bnE2 op x (.ok (y, r)) = prB (R.ofO (op x y)) r := (rfl)
def apB (op : List D → Option β) (x : R (List D)) : R β := x.bind fun ds => R.ofO (op ds)
theorem ap_e (op : List D → Option D) (g : Env → R (List D)) : appN op g r = apB op (g r) := (rfl)
theorem apB_ok (op : List D → Option β) : apB op (.ok ds) = R.ofO (op ds) := (rfl)
theorem itN_e (p : List D → Option (List D)) (g : Env → R (List D)) : itN p g r = apB p (g r) := (rfl)
def apE (op : List D → Option D) (x : R (List D × Env)) : R (D × Env) := x.bind fun p => (R.ofO (op p.1)).bind fun d => .ok (d, p.2)
theorem apE_e (op : List D → Option D) (g : Env → R (List D × Env)) : appNE op g r = apE op (g r) := (rfl)
theorem apE_ok (op : List D → Option D) : apE op (.ok (ds, r)) = prB (R.ofO (op ds)) r := (rfl)
def apX (p : D → Option β) (x : R D) : R β := x.bind fun d => R.ofO (p d)
theorem itX_e (p : D → Option (List D)) (f : Env → R D) : itX p f r = apX p (f r) := (rfl)
theorem apX_ok (p : D → Option β) : apX p (.ok d) = R.ofO (p d) := (rfl)
theorem un1_e (op : D → Option D) (f : Env → R D) : un1 op f r = apX op (f r) := (rfl)
theorem aNil_e : aNil r = .ok [] := (rfl)
def acB (x : R D) (y : R (List D)) : R (List D) := x.bind fun d => y.bind fun ds => .ok (d :: ds)
theorem aCons_e (f : Env → R D) (g : Env → R (List D)) : aCons f g r = acB (f r) (g r) := (rfl)
theorem acB_ok : acB (.ok d) (.ok ds) = .ok (d :: ds) := (rfl)
def acE (x : R (D × Env)) (g : Env → R (List D × Env)) : R (List D × Env) := x.bind fun p => (g p.2).bind fun q => .ok (p.1 :: q.1, q.2)
def acE2 (d : D) (x : R (List D × Env)) : R (List D × Env) := x.bind fun q => .ok (d :: q.1, q.2)
theorem aConsE_e (f : Env → R (D × Env)) (g : Env → R (List D × Env)) : aConsE f g r = acE (f r) g := (rfl)
theorem acE_ok (g : Env → R (List D × Env)) : acE (.ok (d, r)) g = acE2 d (g r) := (rfl)
theorem acE2_ok : acE2 d (.ok (ds, r)) = .ok (d :: ds, r) := (rfl)
theorem kc_e : kc d r = .ok d := (rfl)
def ntB (x : R Bool) : R Bool := x.bind fun b => .ok (!b)
theorem notB_e (g : Env → R Bool) : notB g r = ntB (g r) := (rfl)
theorem ntB_ok : ntB (.ok b) = .ok (!b) := (rfl)
def ntV (x : R D) : R D := x.bind fun d => (R.ofO (asB d)).bind fun b => .ok (.bl (!b))
theorem notV_e (g : Env → R D) : notV g r = ntV (g r) := (rfl)
theorem ntV_ok : ntV (.ok (.bl b)) = .ok (.bl (!b)) := (rfl)
def ntE (x : R (Bool × Env)) : R (Bool × Env) := x.bind fun b => .ok (!b.1, b.2)
theorem notE_e (g : Env → R (Bool × Env)) : notBE g r = ntE (g r) := (rfl)
theorem ntE_ok : ntE (.ok (b, r)) = .ok (!b, r) := (rfl)
/-! the right side is looked at only where it counts -/
def anB (x : R Bool) (h : Env → R Bool) (r : Env) : R Bool := x.bind fun b => if b = true then h r else .ok false
theorem andB_e (g h : Env → R Bool) : andB g h r = anB (g r) h r := (rfl)
theorem anB_t (h : Env → R Bool) : anB (.ok true) h r = h r := (rfl)
theorem anB_f (h : Env → R Bool) : anB (.ok false) h r = .ok false := (rfl)
def roB' (x : R Bool) (h : Env → R Bool) (r : Env) : R Bool := x.bind fun b => if b = true then .ok true else h r
theorem orB_e (g h : Env → R Bool) : orB g h r = roB' (g r) h r := (rfl)
theorem orB_t (h : Env → R Bool) : roB' (.ok true) h r = .ok true := (rfl)
theorem orB_f (h : Env → R Bool) : roB' (.ok false) h r = h r := (rfl)
def anV (x : R D) (h : Env → R D) (r : Env) : R D := x.bind fun d => (R.ofO (asB d)).bind fun b => if b = true then h r else .ok (.bl false)
theorem andV_e (g h : Env → R D) : andV g h r = anV (g r) h r := (rfl)
theorem anV_t (h : Env → R D) : anV (.ok (.bl true)) h r = h r := (rfl)
theorem anV_f (h : Env → R D) : anV (.ok (.bl false)) h r = .ok (.bl false) := (rfl)
def roV (x : R D) (h : Env → R D) (r : Env) : R D := x.bind fun d => (R.ofO (asB d)).bind fun b => if b = true then .ok (.bl true) else h r
theorem orV_e (g h : Env → R D) : orV g h r = roV (g r) h r := (rfl)
theorem roV_t (h : Env → R D) : roV (.ok (.bl true)) h r = .ok (.bl true) := (rfl)
theorem roV_f (h : Env → R D) : roV (.ok (.bl false)) h r = h r := (rfl)
def ivB (x : R Bool) (h k : Env → R D) (r : Env) : R D := x.bind fun b => if b = true then h r else k r
theorem ifV_e (g : Env → R Bool) (h k : Env → R D) : ifV g h k r = ivB (g r) h k r := (rfl)
theorem ivB_t (h k : Env → R D) : ivB (.ok true) h k r = h r := (rfl)
theorem ivB_f (h k : Env → R D) : ivB (.ok false) h k r = k r := (rfl)
def ivE (x : R (Bool × Env)) (h k : Env → R (D × Env)) : R (D × Env) := x.bind fun b => if b.1 = true then h b.2 else k b.2
theorem ifVE_e (g : Env → R (Bool × Env)) (h k : Env → R (D × Env)) : ifVE g h k r = ivE (g r) h k := (rfl)
theorem ivE_t (h k : Env → R (D × Env)) : ivE (.ok (true, r)) h k = h r := (rfl)
theorem ivE_f (h k : Env → R (D × Env)) : ivE (.ok (false, r)) h k = k r := (rfl)
def anE (x : R (Bool × Env)) (h : Env → R (Bool × Env)) : R (Bool × Env) := x.bind fun b => if b.1 = true then h b.2 else .ok (false, b.2)
theorem andE_e (g h : Env → R (Bool × Env)) : andBE g h r = anE (g r) h := (rfl)
theorem anE_t (h : Env → R (Bool × Env)) : anE (.ok (true, r)) h = h r := (rfl)
theorem anE_f (h : Env → R (Bool × Env)) : anE (.ok (false, r)) h = .ok (false, r) := (rfl)
def roE (x : R (Bool × Env)) (h : Env → R (Bool × Env)) : R (Bool × Env) := x.bind fun b => if b.1 = true then .ok (true, b.2) else h b.2
theorem orE_e (g h : Env → R (Bool × Env)) : orBE g h r = roE (g r) h := (rfl)
theorem roE_t (h : Env → R (Bool × Env)) : roE (.ok (true, r)) h = .ok (true, r) := (rfl)
theorem roE_f (h : Env → R (Bool × Env)) : roE (.ok (false, r)) h = h r := (rfl)
def chB (o1 o2 : D → D → Option D) (x y : R D) (fc : Env → R D) (r : Env) : R D := x.bind fun x => y.bind fun y => (R.ofO (o1 x y)).bind fun d => (R.ofO (asB d)).bind fun k =>
  if k = true then (fc r).bind fun z => R.ofO (o2 y z) else .ok (.bl false)
def chB2 (o2 : D → D → Option D) (k : Option D) (y : D) (fc : Env → R D) (r : Env) : R D := (R.ofO k).bind fun d => (R.ofO (asB d)).bind fun k => if k = true then (fc r).bind fun z => R.ofO (o2 y z) else .ok (.bl false)
theorem chn_e (o1 o2 : D → D → Option D) (fa fb fc : Env → R D) : chn o1 o2 fa fb fc r = chB o1 o2 (fa r) (fb r) fc r := (rfl)
theorem chB_ok (o1 o2 : D → D → Option D) (fc : Env → R D) : chB o1 o2 (.ok x) (.ok y) fc r = chB2 o2 (o1 x y) y fc r := (rfl)
theorem chB2_t (o2 : D → D → Option D) (fc : Env → R D) : chB2 o2 (some (.bl true)) y fc r = apX (o2 y) (fc r) := (rfl)
theorem chB2_f (o2 : D → D → Option D) (fc : Env → R D) : chB2 o2 (some (.bl false)) y fc r = .ok (.bl false) := (rfl)
theorem oNone_e : oNone r = .ok none := (rfl)
def osB (x : R D) : R (Option Int) := x.bind fun d => (R.ofO (asI d)).bind fun i => .ok (some i)
theorem oSome_e (f : Env → R D) : oSome f r = osB (f r) := (rfl)
theorem osB_ok (i : Int) : osB (.ok (.int i)) = .ok (some i) := (rfl)
def s3B (op : D → Option Int → Option Int → Option D) (x : R D) (l h : R (Option Int)) : R D := x.bind fun x => l.bind fun l => h.bind fun h => R.ofO (op x l h)
theorem sl3_e (op : D → Option Int → Option Int → Option D) (fa : Env → R D) (fl fh : Env → R (Option Int)) : sl3 op fa fl fh r = s3B op (fa r) (fl r) (fh r) := (rfl)
theorem s3B_ok (op : D → Option Int → Option Int → Option D) (l h : Option Int) : s3B op (.ok x) (.ok l) (.ok h) = R.ofO (op x l h) := (rfl)
def mvB (op : Str → List D → Option D) (x : R D) (g : R (List D)) : R D := x.bind fun x => (R.ofO (asStr x)).bind fun z => g.bind fun ds => R.ofO (op z ds)
theorem mthV_e (op : Str → List D → Option D) (fo : Env → R D) (g : Env → R (List D)) : mthV op fo g r = mvB op (fo r) (g r) := (rfl)
theorem mvB_tx (op : Str → List D → Option D) (l : List Nat) : mvB op (.ok (tx l)) (.ok ds) = R.ofO (op (mkS l) ds) := (rfl)
def mlB (op : List D → List D → Option D) (x : R D) (g : R (List D)) : R D := x.bind fun x => (R.ofO (asLst x)).bind fun z => g.bind fun ds => R.ofO (op z ds)
theorem mthL_e (op : List D → List D → Option D) (fo : Env → R D) (g : Env → R (List D)) : mthL op fo g r = mlB op (fo r) (g r) := (rfl)
theorem mlB_ok (op : List D → List D → Option D) : mlB op (.ok (.lst xs)) (.ok ds) = R.ofO (op xs ds) := (rfl)
def mtB (x : R (List D)) : R D := x.bind fun ds => if ds.length ≤ sizeLine then .ok (.tup ds) else .stk
theorem mkT_e (g : Env → R (List D)) : mkT g r = mtB (g r) := (rfl)
theorem mtB_ok (h : ds.length ≤ 1000) : mtB (.ok ds) = .ok (.tup ds) := by
  show (if ds.length ≤ sizeLine then R.ok (D.tup ds) else .stk) = _
  rw [if_pos (by rw [sizeLine_eq]; omega)]
def mlB' (x : R (List D)) : R D := x.bind fun ds => if ds.length ≤ sizeLine then .ok (.lst ds) else .stk
theorem mkL_e (g : Env → R (List D)) : mkL g r = mlB' (g r) := (rfl)
theorem mlB'_ok (h : ds.length ≤ 1000) : mlB' (.ok ds) = .ok (.lst ds) := by
  show (if ds.length ≤ sizeLine then R.ok (D.lst ds) else .stk) = _
  rw [if_pos (by rw [sizeLine_eq]; omega)]
def mtE (x : R (List D × Env)) : R (D × Env) := x.bind fun p => if p.1.length ≤ sizeLine then .ok (.tup p.1, p.2) else .stk
theorem mkTE_e (g : Env → R (List D × Env)) : mkTE g r = mtE (g r) := (rfl)
theorem mtE_ok (h : ds.length ≤ 1000) : mtE (.ok (ds, r)) = .ok (.tup ds, r) := by
  show (if ds.length ≤ sizeLine then R.ok (D.tup ds, r) else .stk) = _
  rw [if_pos (by rw [sizeLine_eq]; omega)]
theorem gSet_e (i : Nat) : gSet i d r = .ok (r.set i (.sh d)) := (rfl)
theorem gTup_e (n : Nat) (g : List D → Env → R Env) (h : ds.length = n) : gTupD n g (.tup ds) r = g ds r := by
  show (if ds.length = n then g ds r else .stk) = _
  rw [if_pos h]
def gcB (x : R Env) (h : List D → Env → R Env) (ds : List D) : R Env := x.bind fun r1 => h ds r1
theorem gsCons_e (g : D → Env → R Env) (h : List D → Env → R Env) : gsCons g h (d :: ds) r = gcB (g d r) h ds := (rfl)
theorem gcB_ok (h : List D → Env → R Env) : gcB (.ok r) h ds = h ds r := (rfl)
theorem gsNil_e : gsNil [] r = .ok r := (rfl)
/-! statements -/
def sqB (x : R Fl) (g : Env → R Fl) : R Fl := x.bind fun fl => match fl with
  | .nx r1 => g r1
  | .rt d r1 => .ok (.rt d r1)
  | .bk r1 => .ok (.bk r1)
  | .ct r1 => .ok (.ct r1)
theorem seq_st (f g : Env → R Fl) : seqS f g r = sqB (f r) g := (rfl)
theorem sq_nx (g : Env → R Fl) : sqB (.ok (.nx r)) g = g r := (rfl)
theorem sq_rt (g : Env → R Fl) : sqB (.ok (.rt d r)) g = .ok (.rt d r) := (rfl)
theorem sq_bk (g : Env → R Fl) : sqB (.ok (.bk r)) g = .ok (.bk r) := (rfl)
theorem sq_ct (g : Env → R Fl) : sqB (.ok (.ct r)) g = .ok (.ct r) := (rfl)
def ifB (x : R (Bool × Env)) (f g : Env → R Fl) : R Fl := x.bind fun p => if p.1 = true then f p.2 else g p.2
theorem if_st (c : Env → R (Bool × Env)) (f g : Env → R Fl) : ifS c f g r = ifB (c r) f g := (rfl)
theorem ifB_y (f g : Env → R Fl) : ifB (.ok (true, r)) f g = f r := (rfl)
theorem ifB_n (f g : Env → R Fl) : ifB (.ok (false, r)) f g = g r := (rfl)
def stB (i : Nat) (x : R (D × Env)) : R Fl := x.bind fun p => .ok (.nx (p.2.set i (.sh p.1)))
theorem set_st (i : Nat) (f : Env → R (D × Env)) : setS i f r = stB i (f r) := (rfl)
theorem stB_ok (i : Nat) : stB i (.ok (d, r)) = .ok (.nx (r.set i (.sh d))) := (rfl)
def rtB (x : R (D × Env)) : R Fl := x.bind fun p => .ok (.rt p.1 p.2)
theorem ret_st (f : Env → R (D × Env)) : retS f r = rtB (f r) := (rfl)
theorem rtB_ok : rtB (.ok (d, r)) = .ok (.rt d r) := (rfl)
def soB (i : Nat) (x : R D) (r : Env) : R Fl := x.bind fun d => .ok (.nx (r.set i (.own d)))
theorem seto_st (i : Nat) (f : Env → R D) : setO i f r = soB i (f r) r := (rfl)
theorem soB_ok (i : Nat) : soB i (.ok d) r = .ok (.nx (r.set i (.own d))) := (rfl)
def frB (x : R (List D × Env)) (g : D → Env → R Env) (b : Env → R Fl) : R Fl := x.bind fun p => forD g b p.1 p.2
theorem for_st' (h : Env → R (List D × Env)) (g : D → Env → R Env) (b : Env → R Fl) : forS h g b r = frB (h r) g b := (rfl)
theorem frB_ok (g : D → Env → R Env) (b : Env → R Fl) : frB (.ok (xs, r)) g b = forD g b xs r := (rfl)
theorem forD_nil (g : D → Env → R Env) (b : Env → R Fl) : forD g b [] r = .ok (.nx r) := (rfl)
def exB (x : R (D × Env)) : R Fl := x.bind fun p => .ok (.nx p.2)
theorem expr_st (f : Env → R (D × Env)) : exprS f r = exB (f r) := (rfl)
theorem exB_ok : exB (.ok (d, r)) = .ok (.nx r) := (rfl)
theorem skip_st : skipS r = .ok (.nx r) := (rfl)
theorem retN_st : retN r = .ok (.rt .non r) := (rfl)
theorem brk_st : brkS r = .ok (.bk r) := (rfl)
def clB (n : Nat) (F : List D → R D) (x : R (List D)) (r : Env) : R D := x.bind fun ds => if ds.length = n then R.at r (F ds) else .stk
theorem call_st (n : Nat) (F : List D → R D) (g : Env → R (List D)) : callF n F g r = clB n F (g r) r := (rfl)
theorem clB_ok (n : Nat) (F : List D → R D) (h : ds.length = n) : clB n F (.ok ds) r = R.at r (F ds) := by
  show (if ds.length = n then R.at r (F ds) else .stk) = _
  rw [if_pos h]
def clE (n : Nat) (F : List D → R D) (x : R (List D × Env)) : R (D × Env) := x.bind fun p => if p.1.length = n then (R.at p.2 (F p.1)).bind fun d => .ok (d, p.2) else .stk
theorem callE_st (n : Nat) (F : List D → R D) (g : Env → R (List D × Env)) : callFE n F g r = clE n F (g r) := (rfl)
theorem clE_ok (n : Nat) (F : List D → R D) (h : ds.length = n) : clE n F (.ok (ds, r)) = prB (R.at r (F ds)) r := by
  show (if ds.length = n then (R.at r (F ds)).bind fun d => .ok (d, r) else .stk) = _
  rw [if_pos h]
  rfl
theorem R_at_ok (a : α) : R.at r (.ok a : R α) = .ok a := (rfl)
def ciB (i n : Nat) (F : List D → List D → R (D × List D)) (o : Option (Slot × List D)) (x : R (List D × Env)) : R (D × Env) := (R.ofO o).bind fun _ => x.bind fun p => (R.ofO (ownL p.2 i)).bind fun s =>
  if p.1.length = n then (R.ne (F s.2 p.1)).bind fun q => .ok (q.1, p.2.set i (s.1.put (.lst q.2))) else .stk
def ciC (i : Nat) (F : List D → List D → R (D × List D)) (ds : List D) (r : Env) (o : Option (Slot × List D)) : R (D × Env) := (R.ofO o).bind fun s => (R.ne (F s.2 ds)).bind fun q => .ok (q.1, r.set i (s.1.put (.lst q.2)))
def ciD (i : Nat) (s : Slot) (r : Env) (x : R (D × List D)) : R (D × Env) := (R.ne x).bind fun q => .ok (q.1, r.set i (s.put (.lst q.2)))
theorem callIO_st (i n : Nat) (F : List D → List D → R (D × List D)) (g : Env → R (List D × Env)) : callIO i n F g r = ciB i n F (ownL r i) (g r) := (rfl)
theorem ciB_ok (i n : Nat) (F : List D → List D → R (D × List D)) (q : Slot × List D) (h : ds.length = n) : ciB i n F (some q) (.ok (ds, r)) = ciC i F ds r (ownL r i) := by
  show ((R.ofO (ownL r i)).bind fun s => if ds.length = n then (R.ne (F s.2 ds)).bind fun q => .ok (q.1, r.set i (s.1.put (.lst q.2))) else .stk) = _
  simp only [if_pos h]
  rfl
theorem ciC_ok (i : Nat) (F : List D → List D → R (D × List D)) (s : Slot) : ciC i F ds r (some (s, xs)) = ciD i s r (F xs ds) := (rfl)
theorem ciD_ok (i : Nat) (s : Slot) : ciD i s r (.ok (d, xs)) = .ok (d, r.set i (s.put (.lst xs))) := (rfl)
def psB (i j : Nat) (x : R (List D × Env)) : R Fl := x.bind fun p => match p.1 with
  | [d, e] => .ok (.nx ((p.2.set i (.sh d)).set j (.sh e)))
  | _ => .stk
theorem par_st (i j : Nat) (f : Env → R (List D × Env)) : parS i j f r = psB i j (f r) := (rfl)
theorem psB_ok (i j : Nat) : psB i j (.ok ([x, y], r)) = .ok (.nx ((r.set i (.sh x)).set j (.sh y))) := (rfl)
def asB1 (g : D → Env → R Env) (x : R (D × Env)) : R Fl := x.bind fun p => (g p.1 p.2).bind fun r2 => .ok (.nx r2)
def asB2 (x : R Env) : R Fl := x.bind fun r2 => .ok (.nx r2)
theorem asg_st (g : D → Env → R Env) (f : Env → R (D × Env)) : asgS g f r = asB1 g (f r) := (rfl)
theorem asB1_ok (g : D → Env → R Env) : asB1 g (.ok (d, r)) = asB2 (g d r) := (rfl)
theorem asB2_ok : asB2 (.ok r) = .ok (.nx r) := (rfl)
def agB (i : Nat) (op : D → D → Option D) (s : Option Slot) (x : R D) (r : Env) : R Fl := match s with
  | some (.sh z) => x.bind fun y => (R.ofO (op z y)).bind fun d => .ok (.nx (r.set i (.sh d)))
  | _ => .stk
def agC (i : Nat) (o : Option D) (r : Env) : R Fl := (R.ofO o).bind fun d => .ok (.nx (r.set i (.sh d)))
theorem aug_st (i : Nat) (op : D → D → Option D) (f : Env → R D) : augS i op f r = agB i op (r[i]?) (f r) r := by
  unfold augS agB
  cases r[i]? with
  | none => rfl
  | some s => cases s <;> rfl
theorem agB_ok (i : Nat) (op : D → D → Option D) : agB i op (some (.sh x)) (.ok y) r = agC i (op x y) r := (rfl)
theorem agC_ok (i : Nat) : agC i (some d) r = .ok (.nx (r.set i (.sh d))) := (rfl)
def apS (i : Nat) (o : Option (Slot × List D)) (x : R D) (r : Env) : R Fl := (R.ofO o).bind fun s => x.bind fun d => if s.2.length < sizeLine then .ok (.nx (r.set i (s.1.put (.lst (s.2 ++ [d]))))) else .stk
theorem app_st (i : Nat) (f : Env → R D) : appS i f r = apS i (ownL r i) (f r) r := (rfl)
theorem apS_ok (i : Nat) (s : Slot) (h : xs.length < 1000000) : apS i (some (s, xs)) (.ok d) r = .ok (.nx (r.set i (s.put (.lst (xs ++ [d]))))) := by
  show (if xs.length < sizeLine then R.ok (Fl.nx (r.set i (s.put (.lst (xs ++ [d]))))) else .stk) = _
  rw [if_pos (by rw [sizeLine_eq]; omega)]
def imB (i : Nat) (x : R D) (o : Option (Slot × List D)) (k : R D) (r : Env) : R Fl := x.bind fun d => (R.ofO o).bind fun s => k.bind fun k => (R.ofO (asI k)).bind fun k => (R.ofO (ixN s.2.length k)).bind fun j => .ok (.nx (r.set i (s.1.put (.lst (s.2.set j d)))))
def imC (i : Nat) (d : D) (s : Slot) (xs : List D) (j : Option Nat) (r : Env) : R Fl := (R.ofO j).bind fun j => .ok (.nx (r.set i (s.put (.lst (xs.set j d)))))
theorem itm_st (i : Nat) (fk fe : Env → R D) : itmS i fk fe r = imB i (fe r) (ownL r i) (fk r) r := (rfl)
theorem imB_ok (i : Nat) (s : Slot) (k : Int) : imB i (.ok d) (some (s, xs)) (.ok (.int k)) r = imC i d s xs (ixN xs.length k) r := (rfl)
theorem imC_ok (i j : Nat) (s : Slot) : imC i d s xs (some j) r = .ok (.nx (r.set i (s.put (.lst (xs.set j d))))) := (rfl)
def rvB (i : Nat) (o : Option (Slot × List D)) (r : Env) : R Fl := (R.ofO o).bind fun s => .ok (.nx (r.set i (s.1.put (.lst s.2.reverse))))
theorem rvs_st (i : Nat) : rvsS i r = rvB i (ownL r i) r := (rfl)
theorem rvB_ok (i : Nat) (s : Slot) : rvB i (some (s, xs)) r = .ok (.nx (r.set i (s.put (.lst xs.reverse)))) := (rfl)
def roB (i : Nat) (s : Option Slot) (r : Env) : R Fl := match s with
  | some (.own d) => .ok (.rt d (r.set i (.sh d)))
  | some (.sh d) => .ok (.rt d r)
  | _ => .stk
theorem retO_st (i : Nat) : retO i r = roB i (r[i]?) r := (rfl)
theorem roB_own (i : Nat) : roB i (some (.own d)) r = .ok (.rt d (r.set i (.sh d))) := (rfl)
theorem roB_sh (i : Nat) : roB i (some (.sh d)) r = .ok (.rt d r) := (rfl)
def fzB (i : Nat) (s : Option Slot) (r : Env) : Env := match s with
  | some (.own d) => r.set i (.sh d)
  | _ => r
theorem frz_st (i : Nat) : frz1 i r = fzB i (r[i]?) r := (rfl)
theorem frzS_st (i : Nat) (f : Env → R Fl) : frzS i f r = f (fzB i (r[i]?) r) := (rfl)
theorem fzB_own (i : Nat) : fzB i (some (.own d)) r = r.set i (.sh d) := (rfl)
theorem fzB_sh (i : Nat) : fzB i (some (.sh d)) r = r := (rfl)
theorem fzB_un (i : Nat) : fzB i (some .un) r = r := (rfl)
def r1B (x : R (List D × Env)) : R (List D × Env) := x.bind fun p => match p.1 with
  | [.int j] => if -(2 ^ 62) ≤ j ∧ j < 2 ^ 62 then .ok (rngL 0 j.toNat, p.2) else .stk
  | _ => .stk
theorem itR1_st (g : Env → R (List D × Env)) : itR1 g r = r1B (g r) := (rfl)
theorem r1B_ok {k : Int} (h : -1000000 ≤ k ∧ k ≤ 1000000) : r1B (.ok ([.int k], r)) = .ok (rngL 0 k.toNat, r) := by
  show (if -(2 ^ 62) ≤ k ∧ k < 2 ^ 62 then R.ok (rngL 0 k.toNat, r) else R.stk) = _
  rw [if_pos (by omega)]
theorem rg1_ok {k : Int} (h : -1000000 ≤ k ∧ k ≤ 1000000) : rg1 [.int k] = some (rngL 0 k.toNat) := by
  unfold rg1
  simp only
  rw [if_pos (by omega)]
theorem rg2_ok {j k : Int} (h : -1000000 ≤ j ∧ j ≤ 1000000 ∧ -1000000 ≤ k ∧ k ≤ 1000000) : rg2 [.int j, .int k] = some (rngL j (k - j).toNat) := by
  unfold rg2
  simp only
  rw [if_pos (by omega)]
theorem tn_add1 (n : Nat) : (1 + (n : Int)).toNat = 1 + n := by omega
theorem tn_succ (n : Nat) : ((n : Int) + 1).toNat = n + 1 := by omega
theorem tn_nat (n : Nat) : (n : Int).toNat = n := Int.toNat_natCast n
theorem tn_pred (n : Nat) : ((n : Int) - 1).toNat = n - 1 := by omega
theorem tn_sub (m n : Nat) : ((m : Int) - (n : Int)).toNat = m - n := by omega
theorem len0 : ([] : List D).length = 0 := (rfl)
theorem len1 : [d].length = 1 := (rfl)
theorem len2 : [d, x].length = 2 := (rfl)
theorem len3 : [d, x, y].length = 3 := (rfl)
theorem len4 : [d, x, y, z].length = 4 := (rfl)
end
/-! texts and tuples times numbers -/
theorem mul_tx {l : List Nat} {k : Nat} (h : l.length ≤ 1000) (hk : k ≤ 1000) : mulSD (tx l) (.int (k : Nat)) = some (tx (List.replicate k l).flatten) := by
  rw [tx_eq]
  unfold mulSD
  simp only
  rw [if_pos ⟨by omega, by omega, by rw [str_len]; exact h⟩]
  unfold tx
  congr 2
  unfold Txt.mul
  by_cases h1 : ((k : Nat) : Int) < 1
  · have : k = 0 := by omega
    subst this
    rw [if_pos h1]
    rfl
  · rw [if_neg h1]
    by_cases h2 : ((((k : Nat) : Int) == 1) || (mkS l).length == 0) = true
    · rw [if_pos h2]
      rw [Bool.or_eq_true] at h2
      congr 1
      rcases h2 with h2 | h2
      · have h3 : (k : Int) = 1 := by simpa using h2
        have : k = 1 := by omega
        subst this
        simp
      · have h3 : l.length = 0 := by simpa [str_len] using h2
        have : l = [] := List.eq_nil_of_length_eq_zero h3
        subst this
        simp
    · rw [if_neg h2]
      have e : ∀ (m : Nat) (a : List Nat), (List.replicate m l.toArray).foldl (· ++ ·) a.toArray = (a ++ (List.replicate m l).flatten).toArray := by
        intro m
        induction m with
        | zero => intro a; simp
        | succ m ih =>
          intro a
          rw [List.replicate_succ, List.foldl_cons, List.replicate_succ, List.flatten_cons, ← List.append_assoc, ← ih]
          congr 1
          simp
      have e2 := e k []
      rw [List.nil_append] at e2
      show (⟨(List.replicate (k : Int).toNat l.toArray).foldl (· ++ ·) #[]⟩ : Str) = _
      rw [Int.toNat_natCast]
      congr 1
theorem mul_tx1 {c k : Nat} (hk : k ≤ 1000) : mulSD (tx [c]) (.int (k : Nat)) = some (tx (List.replicate k c)) := by
  rw [mul_tx (by simp) hk]
  congr 2
  induction k with
  | zero => rfl
  | succ k ih => rw [List.replicate_succ, List.flatten_cons, ih (by omega), List.replicate_succ]; rfl
theorem mul_tup {d : D} {k : Nat} (h : 1 ≤ k) (hk : k ≤ 1000) : mulTD (.tup [d]) (.int (k : Nat)) = some (.tup (List.replicate k d)) := by
  unfold mulTD
  simp only
  rw [if_pos ⟨rfl, by omega, by omega, by simp⟩]
  congr 2
  rw [Int.toNat_natCast]
  clear h hk
  induction k with
  | zero => rfl
  | succ k ih => rw [List.replicate_succ, List.flatten_cons, ih, List.replicate_succ]; rfl
/-! isinstance with a tuple of types -/
theorem kit_it : kitB "int" "tuple" = some false := by decide +kernel
theorem kit_il : kitB "int" "list" = some false := by decide +kernel
theorem kit_nt : kitB "NoneType" "tuple" = some false := by decide +kernel
theorem kit_nl : kitB "NoneType" "list" = some false := by decide +kernel
theorem kit_ns : kitB "NoneType" "str" = some false := by decide +kernel
theorem kit_is : kitB "int" "str" = some false := by decide +kernel
theorem kit_tl : kitB "tuple" "list" = some false := by decide +kernel
theorem isi_int_tl (i : Int) : isiD [.int i, .tup [.ty "tuple", .ty "list"]] = some (.bl false) := by
  simp [isiD, tyD, allN, isAny, isTy, kit_it, kit_il]
theorem isi_non_tl : isiD [.non, .tup [.ty "tuple", .ty "list"]] = some (.bl false) := by
  simp [isiD, tyD, allN, isAny, isTy, kit_nt, kit_nl]
theorem kit_tt : kitB "tuple" "tuple" = some true := by decide +kernel
theorem isi_tup_tl (xs : List D) : isiD [.tup xs, .tup [.ty "tuple", .ty "list"]] = some (.bl true) := by
  simp [isiD, tyD, allN, isAny, isTy, kit_tt]
theorem isi_tup_l (xs : List D) : isiD [.tup xs, .ty "list"] = some (.bl false) := by
  simp [isiD, tyD, isTy, kit_tl]
theorem isi_int_s (i : Int) : isiD [.int i, .ty "str"] = some (.bl false) := by
  simp [isiD, tyD, isTy, kit_is]
theorem isi_non_s : isiD [.non, .ty "str"] = some (.bl false) := by
  simp [isiD, tyD, isTy, kit_ns]
theorem eq_bl (a b : Bool) : eqD (.bl a) (.bl b) = some (.bl (decide (a = b))) := (rfl)
theorem ne_bl (a b : Bool) : neD (.bl a) (.bl b) = some (.bl (!decide (a = b))) := (rfl)
theorem eq_non : eqD .non .non = some (.bl true) := (rfl)
theorem isn_i (i : Int) : isN2 (.int i) .non = some (.bl false) := (rfl)
theorem isn_n : isN2 .non .non = some (.bl true) := (rfl)
/-- flat things and what is made of them: shaped -/
theorem shp_of {d : D} (h1 : PyData.canLay0 (toPy d) = true) (h2 : (toPy d).depth ≤ 20) : shp d = true := by
  unfold shp SeqAt.shaped
  rw [h1, Bool.true_and]
  exact decide_eq_true (by omega)
end DL

end
section
namespace PT

def acc (c : Nat) (G : List Nat → Nat) : List Nat → Nat
  | [] => 0
  | a :: t => (if a = c then G t else 0) + acc c G t
def blk (c : Nat) (G : List Nat → Nat) : List Nat → Nat
  | [] => 0
  | a :: t => if a = c then acc c G (a :: t) else 0
/-- in how many ways f is parted into blocks of the letters g -/
def W : List Nat → List Nat → Nat
  | [], f => if f = [] then 1 else 0
  | c :: g, f => blk c (W g) f

/-! ### two goals, one behind the other -/
def cv (H W2 : List Nat → Nat) : List Nat → Nat
  | [] => H [] * W2 []
  | a :: t => H [] * W2 (a :: t) + cv (fun u => H (a :: u)) W2 t
theorem cv_zero (W2 : List Nat → Nat) : ∀ f, cv (fun _ => 0) W2 f = 0
  | [] => by simp [cv]
  | a :: t => by
    simp only [cv, Nat.zero_mul, Nat.zero_add]
    exact cv_zero W2 t
theorem cv_add (H1 H2 W2 : List Nat → Nat) : ∀ f, cv (fun u => H1 u + H2 u) W2 f = cv H1 W2 f + cv H2 W2 f := by
  intro f
  induction f generalizing H1 H2 with
  | nil => simp [cv, Nat.add_mul]
  | cons a t ih =>
    simp only [cv]
    rw [ih (fun u => H1 (a :: u)) (fun u => H2 (a :: u)), Nat.add_mul]
    omega
theorem cv_acc (c : Nat) (G W2 : List Nat → Nat) : ∀ f, cv (acc c G) W2 f = acc c (cv G W2) f
  | [] => by simp [cv, acc]
  | a :: t => by
    have e : cv (fun u => acc c G (a :: u)) W2 t = cv (fun u => (if a = c then G u else 0) + acc c G u) W2 t := rfl
    have h0 : acc c G [] = 0 := rfl
    show acc c G [] * W2 (a :: t) + cv (fun u => acc c G (a :: u)) W2 t = (if a = c then cv G W2 t else 0) + acc c (cv G W2) t
    rw [e, h0, Nat.zero_mul, Nat.zero_add, cv_add, cv_acc c G W2 t]
    by_cases h : a = c
    · simp only [if_pos h]
    · simp only [if_neg h]
      rw [cv_zero]
theorem cv_blk (c : Nat) (G W2 : List Nat → Nat) : ∀ f, cv (blk c G) W2 f = blk c (cv G W2) f
  | [] => by simp [cv, blk]
  | a :: t => by
    have h0 : blk c G [] = 0 := rfl
    show blk c G [] * W2 (a :: t) + cv (fun u => blk c G (a :: u)) W2 t = if a = c then acc c (cv G W2) (a :: t) else 0
    rw [h0, Nat.zero_mul, Nat.zero_add]
    by_cases h : a = c
    · rw [if_pos h, ← cv_acc]
      have e : (fun u => blk c G (a :: u)) = fun u => acc c G (a :: u) := by
        funext u
        simp only [blk, if_pos h]
      have h1 : acc c G [] = 0 := rfl
      rw [e]
      show _ = acc c G [] * W2 (a :: t) + cv (fun u => acc c G (a :: u)) W2 t
      rw [h1, Nat.zero_mul, Nat.zero_add]
    · rw [if_neg h]
      have e : (fun u => blk c G (a :: u)) = fun _ => 0 := by
        funext u
        simp only [blk, if_neg h]
      rw [e, cv_zero]
theorem cv_nil (W2 : List Nat → Nat) : ∀ f, cv (W []) W2 f = W2 f
  | [] => by simp [cv, W]
  | a :: t => by
    have e : (fun u => W [] (a :: u)) = fun _ => 0 := by
      funext u
      simp [W]
    show W [] [] * W2 (a :: t) + cv (fun u => W [] (a :: u)) W2 t = _
    rw [e, cv_zero]
    simp [W]
theorem W_app (g2 : List Nat) : ∀ (g1 f : List Nat), W (g1 ++ g2) f = cv (W g1) (W g2) f
  | [], f => (cv_nil (W g2) f).symm
  | c :: g1, f => by
    have e : W (g1 ++ g2) = cv (W g1) (W g2) := funext fun f => W_app g2 g1 f
    show blk c (W (g1 ++ g2)) f = cv (blk c (W g1)) (W g2) f
    rw [cv_blk, e]
/-- as a sum over the places -/
theorem cv_sum (H W2 : List Nat → Nat) : ∀ f, cv H W2 f = ((List.range (f.length + 1)).map fun k => H (f.take k) * W2 (f.drop k)).sum := by
  intro f
  induction f generalizing H with
  | nil => simp [cv]
  | cons a t ih =>
    rw [List.length_cons, List.range_succ_eq_map, List.map_cons, List.map_map, List.sum_cons]
    show H [] * W2 (a :: t) + cv (fun u => H (a :: u)) W2 t = _
    rw [ih (fun u => H (a :: u))]
    rfl

/-! ### where there is a way -/
theorem acc_pos {c : Nat} {G : List Nat → Nat} : ∀ {f : List Nat}, 0 < acc c G f ↔ ∃ u v, f = u ++ c :: v ∧ 0 < G v
  | [] => by simp [acc]
  | a :: t => by
    have ih := acc_pos (c := c) (G := G) (f := t)
    constructor
    · intro h
      simp only [acc] at h
      by_cases h2 : 0 < acc c G t
      · obtain ⟨u, v, e, g⟩ := ih.mp h2
        exact ⟨a :: u, v, by rw [e]; rfl, g⟩
      · by_cases h3 : a = c
        · rw [if_pos h3] at h
          exact ⟨[], t, by rw [h3]; rfl, by omega⟩
        · rw [if_neg h3] at h
          omega
    · rintro ⟨u, v, e, g⟩
      simp only [acc]
      cases u with
      | nil =>
        simp only [List.nil_append, List.cons.injEq] at e
        rw [if_pos e.1, e.2]
        omega
      | cons b u =>
        simp only [List.cons_append, List.cons.injEq] at e
        have := ih.mpr ⟨u, v, e.2, g⟩
        omega
theorem blk_pos {c : Nat} {G : List Nat → Nat} {f : List Nat} : 0 < blk c G f ↔ f.head? = some c ∧ ∃ u v, f = u ++ c :: v ∧ 0 < G v := by
  cases f with
  | nil => simp [blk]
  | cons a t =>
    simp only [blk, List.head?_cons, Option.some.injEq]
    by_cases h : a = c
    · rw [if_pos h, acc_pos]
      exact ⟨fun z => ⟨h, z⟩, fun z => z.2⟩
    · rw [if_neg h]
      exact ⟨fun z => by omega, fun z => absurd z.1 h⟩
theorem W_self : ∀ f : List Nat, 0 < W f f
  | [] => by simp [W]
  | c :: t => blk_pos.mpr ⟨rfl, [], t, rfl, W_self t⟩
theorem W_nil {g : List Nat} (h : g ≠ []) : W g [] = 0 := by
  cases g with
  | nil => exact absurd rfl h
  | cons c g => rfl

/-! ### numbers of ways are not great -/
/-! ### places -/
def pl (F : List Nat) (c s : Nat) : List Nat := (List.range' s (F.length - s)).filter fun p => decide (F[p]? = some c)
theorem pl_sum (F : List Nat) (c : Nat) (G : List Nat → Nat) : ∀ (n s : Nat), F.length - s = n → ((pl F c s).map fun p => G (F.drop (p + 1))).sum = acc c G (F.drop s)
  | 0, s, h => by
    unfold pl
    rw [h, List.drop_of_length_le (by omega)]
    rfl
  | n + 1, s, h => by
    have hs : s < F.length := by omega
    have ih := pl_sum F c G n (s + 1) (by omega)
    have e1 : F.drop s = F[s] :: F.drop (s + 1) := List.drop_eq_getElem_cons hs
    have e2 : F[s]? = some F[s] := List.getElem?_eq_getElem hs
    have e3 : F.length - (s + 1) = n := by omega
    unfold pl at ih ⊢
    rw [e3] at ih
    rw [h, List.range'_succ, e1]
    simp only [acc, List.filter_cons, e2, Option.some.injEq, decide_eq_true_eq]
    by_cases hc : F[s] = c
    · rw [if_pos hc, if_pos hc, List.map_cons, List.sum_cons, ih]
    · rw [if_neg hc, if_neg hc, ih, Nat.zero_add]
theorem pl_mem {F : List Nat} {c s p : Nat} (h : p ∈ pl F c s) : s ≤ p ∧ p < F.length ∧ F[p]? = some c := by
  unfold pl at h
  obtain ⟨h1, h2⟩ := List.mem_filter.mp h
  have h3 := List.mem_range'_1.mp h1
  have h4 := of_decide_eq_true h2
  have h5 : p < F.length := (List.getElem?_eq_some_iff.mp h4).1
  exact ⟨h3.1, h5, h4⟩
theorem pl_sorted (F : List Nat) (c s : Nat) : (pl F c s).Pairwise (· < ·) := (List.pairwise_lt_range' ..).filter _

/-! ### the r-th parting -/
def sel (h : Nat → Nat) : List Nat → Nat → Option (Nat × Nat)
  | [], _ => none
  | p :: ps, r => if r < h p then some (p, r) else sel h ps (r - h p)
theorem sel_ok {h : Nat → Nat} : ∀ {ps : List Nat} {r : Nat}, r < (ps.map h).sum → ∃ pre p post r', ps = pre ++ p :: post ∧ sel h ps r = some (p, r') ∧ r = (pre.map h).sum + r' ∧ r' < h p
  | [], r, hr => by simp at hr
  | p :: ps, r, hr => by
    by_cases h1 : r < h p
    · exact ⟨[], p, ps, r, rfl, by simp [sel, h1], by simp, h1⟩
    · rw [List.map_cons, List.sum_cons] at hr
      obtain ⟨pre, q, post, r', e1, e2, e3, e4⟩ := sel_ok (h := h) (ps := ps) (r := r - h p) (by omega)
      refine ⟨p :: pre, q, post, r', by rw [e1]; rfl, by simp [sel, h1, e2], ?_, e4⟩
      rw [List.map_cons, List.sum_cons]
      omega
theorem before {pre post : List Nat} {p : Nat} (h : (pre ++ p :: post).Pairwise (· < ·)) : (pre ++ p :: post).filter (fun q => decide (q < p)) = pre := by
  rw [List.pairwise_append] at h
  obtain ⟨h1, h2, h3⟩ := h
  have e1 : pre.filter (fun q => decide (q < p)) = pre := List.filter_eq_self.mpr fun q hq => decide_eq_true (h3 q hq p (List.mem_cons_self ..))
  have e2 : (p :: post).filter (fun q => decide (q < p)) = [] := by
    rw [List.filter_eq_nil_iff]
    intro q hq
    rcases List.mem_cons.mp hq with e | e
    · rw [e]; simp
    · have := List.rel_of_pairwise_cons h2 e
      simp only [decide_eq_true_eq]
      omega
  rw [List.filter_append, e1, e2, List.append_nil]
def at_ (F : List Nat) : List Nat → Nat → Nat → List Nat
  | [], _, _ => []
  | c :: g, s, r => match sel (fun p => W g (F.drop (p + 1))) (pl F c s) r with
    | none => []
    | some (p, r') => p :: at_ F g (p + 1) r'
def rk (F : List Nat) : List Nat → Nat → List Nat → Nat
  | c :: g, s, e :: es => (((pl F c s).filter fun q => decide (q < e)).map fun p => W g (F.drop (p + 1))).sum + rk F g (e + 1) es
  | _, _, _ => 0
/-- is it a parting from s on? -/
def isP (F : List Nat) : List Nat → Nat → List Nat → Bool
  | c :: g, s, e :: es => if decide (s ≤ e) && decide (e < F.length) then (if F[s]? = some c ∧ F[e]? = some c then isP F g (e + 1) es else false) else false
  | _, s, _ => decide (s = F.length)
theorem W_lt {F : List Nat} {c : Nat} {g : List Nat} {s r : Nat} (h : r < W (c :: g) (F.drop s)) : F[s]? = some c ∧ r < ((pl F c s).map fun p => W g (F.drop (p + 1))).sum := by
  have h1 := (blk_pos.mp (Nat.lt_of_le_of_lt (Nat.zero_le r) h)).1
  rw [List.head?_drop] at h1
  refine ⟨h1, ?_⟩
  rw [pl_sum F c (W g) _ s rfl]
  have hs : s < F.length := (List.getElem?_eq_some_iff.mp h1).1
  have e1 : F.drop s = F[s] :: F.drop (s + 1) := List.drop_eq_getElem_cons hs
  have e2 : F[s] = c := (List.getElem?_eq_some_iff.mp h1).2
  have h2 : r < blk c (W g) (F.drop s) := h
  rw [e1] at h2 ⊢
  simp only [blk, if_pos e2] at h2
  exact h2
theorem at_ok (F : List Nat) : ∀ (g : List Nat) (s r : Nat), s ≤ F.length → r < W g (F.drop s) → isP F g s (at_ F g s r) = true ∧ rk F g s (at_ F g s r) = r ∧ (at_ F g s r).length = g.length
  | [], s, r, hs, h => by
    have h0 : F.drop s = [] := by
      by_cases e : F.drop s = []
      · exact e
      · simp [W, e] at h
    have h1 : F.length ≤ s := by
      have := congrArg List.length h0
      rw [List.length_drop, List.length_nil] at this
      omega
    have : r = 0 := by
      rw [h0] at h
      simp [W] at h
      exact h
    subst this
    exact ⟨by simp [isP, at_]; omega, rfl, rfl⟩
  | c :: g, s, r, hs, h => by
    obtain ⟨h1, h2⟩ := W_lt h
    obtain ⟨pre, p, post, r', e1, e2, e3, e4⟩ := sel_ok h2
    have hp : p ∈ pl F c s := by rw [e1]; simp
    obtain ⟨p1, p2, p3⟩ := pl_mem hp
    obtain ⟨i1, i2, i3⟩ := at_ok F g (p + 1) r' (by omega) e4
    have ea : at_ F (c :: g) s r = p :: at_ F g (p + 1) r' := by
      simp only [at_, e2]
    rw [ea]
    refine ⟨?_, ?_, ?_⟩
    · simp only [isP, p1, p2, decide_true, Bool.and_self, if_true, h1, p3, and_self]
      exact i1
    · simp only [rk]
      rw [i2]
      have hsd := pl_sorted F c s
      rw [e1] at hsd ⊢
      rw [before hsd]
      omega
    · rw [List.length_cons, List.length_cons, i3]
/-- later ranks are later in order -/
def ltL : List Nat → List Nat → Prop
  | x :: xs, y :: ys => x < y ∨ (x = y ∧ ltL xs ys)
  | _, _ => False
end PT

end
section
namespace PT
/-! ### all partings, ascending -/
def E (F : List Nat) : List Nat → Nat → List (List Nat)
  | [], s => if s = F.length then [[]] else []
  | c :: g, s => if F[s]? = some c then (pl F c s).flatMap fun p => (E F g (p + 1)).map (p :: ·) else []
/-! ### letter by letter, as two loops do -/
def stp (F : List Nat) (found : List (List Nat × Nat)) (c : Nat) : List (List Nat × Nat) := found.flatMap fun x => if F[x.2]? = some c then (pl F c x.2).map fun p => (x.1 ++ [p], p + 1) else []
/-! ### binomials -/
def ch : Nat → Nat → Nat
  | _, 0 => 1
  | 0, _ + 1 => 0
  | n + 1, k + 1 => ch n k + ch n (k + 1)
end PT

end
section
namespace PT
/-! ### where a block can begin -/
theorem sum_pos {f : Nat → Nat} : ∀ {n : Nat}, 0 < ((List.range n).map f).sum ↔ ∃ k, k < n ∧ 0 < f k
  | 0 => by simp
  | n + 1 => by
    rw [List.range_succ, List.map_append, List.sum_append, List.map_cons, List.map_nil, List.sum_cons, List.sum_nil]
    have ih := sum_pos (f := f) (n := n)
    constructor
    · intro h
      by_cases h1 : 0 < ((List.range n).map f).sum
      · obtain ⟨k, hk, hf⟩ := ih.mp h1
        exact ⟨k, by omega, hf⟩
      · exact ⟨n, by omega, by omega⟩
    · rintro ⟨k, hk, hf⟩
      by_cases e : k = n
      · subst e
        omega
      · have := ih.mpr ⟨k, by omega, hf⟩
        omega
theorem W_one {c : Nat} {u : List Nat} : 0 < W [c] u ↔ u.head? = some c ∧ u.getLast? = some c := by
  show 0 < blk c (W []) u ↔ _
  rw [blk_pos]
  constructor
  · rintro ⟨h, x, v, e, hv⟩
    have : v = [] := by
      unfold W at hv
      split at hv
      · assumption
      · omega
    subst this
    refine ⟨h, ?_⟩
    rw [e]
    simp
  · rintro ⟨h, hl⟩
    refine ⟨h, u.dropLast, [], ?_, by simp [W]⟩
    have hne : u ≠ [] := by intro z; rw [z] at h; simp at h
    have := List.dropLast_concat_getLast hne
    rw [List.getLast?_eq_some_getLast hne] at hl
    rw [Option.some.inj hl] at this
    exact this.symm
theorem W_snoc {g : List Nat} {c : Nat} {f : List Nat} : 0 < W (g ++ [c]) f ↔ ∃ k, k ≤ f.length ∧ 0 < W g (f.take k) ∧ (f.drop k).head? = some c ∧ (f.drop k).getLast? = some c := by
  rw [W_app, cv_sum, sum_pos]
  constructor
  · rintro ⟨k, hk, h⟩
    have h1 : 0 < W g (f.take k) := Nat.pos_of_ne_zero fun z => by rw [z, Nat.zero_mul] at h; omega
    have h2 : 0 < W [c] (f.drop k) := Nat.pos_of_ne_zero fun z => by rw [z, Nat.mul_zero] at h; omega
    exact ⟨k, by omega, h1, W_one.mp h2⟩
  · rintro ⟨k, hk, h1, h2⟩
    exact ⟨k, by omega, Nat.mul_pos h1 (W_one.mpr h2)⟩
theorem take_snoc {g : List Nat} {i c : Nat} (h : g[i]? = some c) : g.take (i + 1) = g.take i ++ [c] := by
  rw [List.take_succ, h]
  rfl
theorem W_upto {F g : List Nat} {i p c : Nat} (hi : g[i]? = some c) (hp : p < F.length) : 0 < W (g.take (i + 1)) (F.take (p + 1)) ↔ F[p]? = some c ∧ ∃ s, s ≤ p ∧ F[s]? = some c ∧ 0 < W (g.take i) (F.take s) := by
  rw [take_snoc hi, W_snoc]
  have hl : (F.take (p + 1)).length = p + 1 := by rw [List.length_take]; omega
  have hd : ∀ k, k ≤ p → ((F.take (p + 1)).drop k).head? = F[k]? ∧ ((F.take (p + 1)).drop k).getLast? = F[p]? := fun k hk => by
    constructor
    · rw [List.head?_drop, List.getElem?_take, if_pos (by omega)]
    · rw [List.getLast?_eq_getElem?, List.length_drop, hl, List.getElem?_drop, List.getElem?_take, if_pos (by omega)]
      congr 1
      omega
  constructor
  · rintro ⟨k, hk, h1, h2, h3⟩
    by_cases hk2 : k ≤ p
    · obtain ⟨d1, d2⟩ := hd k hk2
      rw [d1] at h2
      rw [d2] at h3
      rw [List.take_take, Nat.min_eq_left (by omega)] at h1
      exact ⟨h3, k, hk2, h2, h1⟩
    · rw [List.drop_of_length_le (by omega)] at h2
      simp at h2
  · rintro ⟨h1, s, hs, h2, h3⟩
    obtain ⟨d1, d2⟩ := hd s hs
    exact ⟨s, by omega, by rw [List.take_take, Nat.min_eq_left (by omega)]; exact h3, by rw [d1]; exact h2, by rw [d2]; exact h1⟩
/-- block i can begin at s -/
def S (F g : List Nat) (i s : Nat) : Prop := i < g.length ∧ F[s]? = g[i]? ∧ 0 < W (g.take i) (F.take s)
theorem S_lt {F g : List Nat} {i s : Nat} (h : S F g i s) : s < F.length := by
  obtain ⟨h1, h2, _⟩ := h
  rw [List.getElem?_eq_getElem h1] at h2
  exact (List.getElem?_eq_some_iff.mp h2).1
theorem S_zero {F g : List Nat} {s : Nat} (hF : F ≠ []) : S F g 0 s ↔ s = 0 ∧ 0 < g.length ∧ F[0]? = g[0]? := by
  unfold S
  rw [List.take_zero]
  constructor
  · rintro ⟨h1, h2, h3⟩
    have : F.take s = [] := by
      unfold W at h3
      split at h3
      · assumption
      · omega
    have hs : s = 0 := by
      rcases List.take_eq_nil_iff.mp this with z | z
      · exact z
      · exact absurd z hF
    subst hs
    exact ⟨rfl, h1, h2⟩
  · rintro ⟨h1, h2, h3⟩
    subst h1
    exact ⟨h2, h3, by simp [W]⟩
theorem S_succ {F g : List Nat} {i s : Nat} : S F g (i + 1) s ↔ ∃ p, s = p + 1 ∧ i + 1 < g.length ∧ F[p + 1]? = g[i + 1]? ∧ F[p]? = g[i]? ∧ ∃ s', s' ≤ p ∧ S F g i s' := by
  constructor
  · intro h
    have hs := S_lt h
    obtain ⟨h1, h2, h3⟩ := h
    have hc : g[i]? = some (g[i]'(by omega)) := List.getElem?_eq_getElem (by omega)
    generalize g[i]'(by omega) = c at hc
    cases s with
    | zero =>
      rw [List.take_zero, W_nil] at h3
      · omega
      · intro z
        have := congrArg List.length z
        rw [List.length_take, List.length_nil] at this
        omega
    | succ p =>
      obtain ⟨q1, s', q2, q3, q4⟩ := (W_upto hc (by omega)).mp h3
      exact ⟨p, rfl, h1, h2, by rw [q1, hc], s', q2, by omega, by rw [q3, hc], q4⟩
  · rintro ⟨p, e, h1, h2, h3, s', h4, h5⟩
    subst e
    have hc : g[i]? = some (g[i]'(by omega)) := List.getElem?_eq_getElem (by omega)
    generalize g[i]'(by omega) = c at hc
    rw [hc] at h3
    refine ⟨h1, h2, (W_upto hc ((List.getElem?_eq_some_iff.mp h3).1)).mpr ⟨h3, s', h4, by rw [h5.2.1, hc], h5.2.2⟩⟩
/-- the least place where block i can begin -/
def Lst (F g : List Nat) (i s : Nat) : Prop := S F g i s ∧ ∀ s', S F g i s' → s ≤ s'
theorem S_from {F g : List Nat} {i m p : Nat} (h : Lst F g i m) : S F g (i + 1) (p + 1) ↔ m ≤ p ∧ i + 1 < g.length ∧ F[p]? = g[i]? ∧ F[p + 1]? = g[i + 1]? := by
  rw [S_succ]
  constructor
  · rintro ⟨q, e, h1, h2, h3, s', h4, h5⟩
    have : q = p := by omega
    subst this
    exact ⟨Nat.le_trans (h.2 s' h5) h4, h1, h3, h2⟩
  · rintro ⟨h1, h2, h3, h4⟩
    exact ⟨p, rfl, h2, h4, h3, m, h1, h.1⟩
theorem S_down {F g : List Nat} : ∀ {i s : Nat}, S F g i s → ∀ j, j ≤ i → ∃ s', S F g j s'
  | 0, s, h, j, hj => by
    have : j = 0 := by omega
    subst this
    exact ⟨s, h⟩
  | i + 1, s, h, j, hj => by
    by_cases e : j = i + 1
    · subst e
      exact ⟨s, h⟩
    · obtain ⟨p, _, _, _, _, s', _, h5⟩ := S_succ.mp h
      exact S_down h5 j (by omega)
/-- what earliest_starts answers -/
def Starts (F g st : List Nat) : Prop := st.length ≤ g.length ∧ (∀ i s, st[i]? = some s → Lst F g i s) ∧ (st.length < g.length → ∀ s, ¬ S F g st.length s)
/-! ### cuts -/
def Cut1 (f h : List Nat) : Prop := ∃ x c y z, f = x ++ c :: (y ++ c :: z) ∧ h = x ++ c :: z
/-- all parts of a list -/
def subs : List Nat → List (List Nat)
  | [] => [[]]
  | a :: t => subs t ++ (subs t).map (a :: ·)
theorem subs_len : ∀ f, (subs f).length = 2 ^ f.length
  | [] => rfl
  | a :: t => by
    unfold subs
    rw [List.length_append, List.length_map, subs_len t, List.length_cons, Nat.pow_succ]
    omega
theorem subs_mem : ∀ {h f : List Nat}, h.Sublist f → h ∈ subs f := by
  intro h f s
  induction s with
  | slnil => exact List.mem_singleton.mpr rfl
  | cons a s ih => exact List.mem_append.mpr (.inl ih)
  | cons_cons a s ih => exact List.mem_append.mpr (.inr (List.mem_map.mpr ⟨_, ih, rfl⟩))
theorem nodup_le {α : Type} [DecidableEq α] : ∀ {l m : List α}, l.Nodup → (∀ x ∈ l, x ∈ m) → l.length ≤ m.length
  | [], m, _, _ => Nat.zero_le _
  | a :: t, m, h, hs => by
    have h1 := List.nodup_cons.mp h
    have ha := hs a (List.mem_cons_self ..)
    have := nodup_le (l := t) (m := m.erase a) h1.2 (fun x hx => (List.mem_erase_of_ne (fun z => h1.1 (by rw [← z]; exact hx))).mpr (hs x (List.mem_cons_of_mem _ hx)))
    rw [List.length_erase_of_mem ha] at this
    have := List.length_pos_of_mem ha
    rw [List.length_cons]
    omega
end PT

end
section
namespace DL
open PySem L2
/-! ### own dicts, pop, parallel stores, while: for simp only -/
section
variable (r : Env) (d e x y z : D) (ds xs : List D) (kvs : List (Key × D)) (i j : Nat)
def ownK' : Option Slot → Option (Slot × List (Key × D))
  | some s => match s.cont with
    | some (.dct xs) => some (s, xs)
    | _ => none
  | none => none
theorem ownK_e : ownK r i = ownK' (r[i]?) := (rfl)
theorem oK_own : ownK' (some (.own (.dct kvs))) = some (.own (.dct kvs), kvs) := (rfl)
def puB (i : Nat) (x : R D) (o : Option (Slot × List (Key × D))) (k : R D) (r : Env) : R Fl := x.bind fun d => (R.ofO o).bind fun s => k.bind fun k => (R.ofO (keyD k)).bind fun k => if s.2.length < sizeLine then .ok (.nx (r.set i (s.1.put (.dct (putD s.2 k d))))) else .stk
theorem put_st (fk fe : Env → R D) : putS i fk fe r = puB i (fe r) (ownK r i) (fk r) r := (rfl)
theorem puB_tx (s : Slot) (l : List Nat) (h : kvs.length < 1000000) : puB i (.ok d) (some (s, kvs)) (.ok (tx l)) r = .ok (.nx (r.set i (s.put (.dct (putD kvs (.inr (mkS l)) d))))) := by
  show (if kvs.length < sizeLine then R.ok (Fl.nx (r.set i (s.put (.dct (putD kvs (.inr (mkS l)) d))))) else .stk) = _
  rw [if_pos (by rw [sizeLine_eq]; omega)]
theorem puB_ni (s : Slot) (k : Int) (h : kvs.length < 1000000) : puB i (.ok d) (some (s, kvs)) (.ok (.int k)) r = .ok (.nx (r.set i (s.put (.dct (putD kvs (.inl k) d))))) := by
  show (if kvs.length < sizeLine then R.ok (Fl.nx (r.set i (s.put (.dct (putD kvs (.inl k) d))))) else .stk) = _
  rw [if_pos (by rw [sizeLine_eq]; omega)]
def poB (i : Nat) (o : Option (Slot × List D)) (r : Env) : R (D × Env) := (R.ofO o).bind fun s => match s.2.getLast? with
  | some d => .ok (d, r.set i (s.1.put (.lst s.2.dropLast)))
  | none => .stk
theorem pop_st : popE i r = poB i (ownL r i) r := (rfl)
theorem poB_ok (s : Slot) : poB i (some (s, xs ++ [d])) r = .ok (d, r.set i (s.put (.lst xs))) := by
  unfold poB
  simp only [ofO_some, bind_ok, List.getLast?_append, List.getLast?_singleton, Option.some_or, List.dropLast_concat]
def paO (i j : Nat) (x y : R D) (r : Env) : R Fl := x.bind fun d => (R.ne y).bind fun e => .ok (.nx ((r.set i (.own d)).set j (.own e)))
theorem parO_st (fa fb : Env → R D) : parO i j fa fb r = paO i j (fa r) (fb r) r := (rfl)
theorem paO_ok : paO i j (.ok d) (.ok e) r = .ok (.nx ((r.set i (.own d)).set j (.own e))) := (rfl)
def paS (i j : Nat) (x y : R D) (r : Env) : R Fl := x.bind fun d => (R.ne y).bind fun e => .ok (.nx ((r.set i (.own d)).set j (.sh e)))
theorem parOS_st (fa fb : Env → R D) : parOS i j fa fb r = paS i j (fa r) (fb r) r := (rfl)
theorem paS_ok : paS i j (.ok d) (.ok e) r = .ok (.nx ((r.set i (.own d)).set j (.sh e))) := (rfl)
def diB (k v : R D) : R D := k.bind fun k => (R.ofO (keyD k)).bind fun k => v.bind fun d => if flatD d = true then .ok (.dct [(k, d)]) else .stk
theorem disp_e (fk fv : Env → R D) : dispD fk fv r = diB (fk r) (fv r) := (rfl)
theorem diB_tx (l : List Nat) (h : flatD d = true) : diB (.ok (tx l)) (.ok d) = .ok (.dct [(.inr (mkS l), d)]) := by
  show (if flatD d = true then R.ok (D.dct [(.inr (mkS l), d)]) else .stk) = _
  rw [if_pos h]
def whB (c : Env → R (Bool × Env)) (b : Env → R Fl) (n : Nat) (r : Env) : R Fl := whlD c b n r
theorem whl_st (n : Nat) (c : Env → R (Bool × Env)) (b : Env → R Fl) : whlS (fun _ => n) c b r = whlD c b n r := (rfl)
end
theorem whl_inv {c : Env → R (Bool × Env)} {b : Env → R Fl} (I : Nat → Env → Prop) (Out : Env → Prop) (hs : ∀ m r, I m r → (∃ r1, c r = .ok (false, r1) ∧ Out r1) ∨ (∃ r1 r2 m', c r = .ok (true, r1) ∧ b r1 = .ok (.nx r2) ∧ m' < m ∧ I m' r2)) :
    ∀ (n m : Nat) (r : Env), m < n → I m r → ∃ r', whlD c b n r = .ok (.nx r') ∧ Out r'
  | 0, m, r, h, _ => by omega
  | n + 1, m, r, h, hI => by
    rcases hs m r hI with ⟨r1, e1, ho⟩ | ⟨r1, r2, m', e1, e2, hm, hI2⟩
    · refine ⟨r1, ?_, ho⟩
      unfold whlD
      rw [e1]
      rfl
    · obtain ⟨r', e3, ho⟩ := whl_inv I Out hs n m' r2 (by omega) hI2
      refine ⟨r', ?_, ho⟩
      unfold whlD
      rw [e1]
      simp only [R.bind, if_true]
      rw [e2]
      exact e3
/-! dicts that stand for sets of films -/
abbrev fk (l : List Nat) : Key × D := (.inr (mkS l), .bl true)
abbrev dk (L : List (List Nat)) : D := .dct (L.map fk)
theorem in_films (g : List Nat) (L : List (List Nat)) : inB false (tx g) (.lst (L.map fun l => tx l)) = some (.bl (decide (g ∈ L))) := by
  have h1 : flatD (tx g) = true := rfl
  have h2 : (L.map fun l => tx l).all flatD = true := by
    rw [List.all_map, List.all_eq_true]
    intro l _
    rfl
  have h3 : (L.map fun l => tx l).any (fun y => eqPy y (tx g)) = decide (g ∈ L) := by
    rw [Bool.eq_iff_iff, List.any_eq_true, decide_eq_true_eq]
    have key : ∀ l, eqPy (tx l) (tx g) = decide (l = g) := fun l => by
      unfold eqPy tx
      simp only [toPy, PyData.eqv]
      rw [Bool.eq_iff_iff, decide_eq_true_eq]
      rw [beq_iff_eq]
      exact tx_inj
    constructor
    · rintro ⟨x, hx, e⟩
      obtain ⟨l, hl, ex⟩ := List.mem_map.mp hx
      subst ex
      rw [key, decide_eq_true_eq] at e
      rw [← e]
      exact hl
    · intro h
      exact ⟨tx g, List.mem_map.mpr ⟨g, h, rfl⟩, by rw [key]; simp⟩
  unfold inB
  have : inD (tx g) (.lst (L.map fun l => tx l)) = some (decide (g ∈ L)) := by
    show (if flatD (tx g) && (L.map fun l => tx l).all flatD then some ((L.map fun l => tx l).any fun y => eqPy y (tx g)) else _) = _
    rw [h1, h2, if_pos (by decide), h3]
  rw [this]
  rfl
/-! data for alike: nested tuples and lists of plain things -/
inductive Nice : Nat → D → Prop
  | non {j : Nat} : Nice j .non
  | bl {j : Nat} (b : Bool) : Nice j (.bl b)
  | int {j : Nat} (i : Int) : Nice j (.int i)
  | str {j : Nat} (x : Str) : Nice j (.str x)
  | tup {j : Nat} {ds : List D} (h : ∀ d ∈ ds, Nice j d) (hl : ds.length ≤ 100000) : Nice (j + 1) (.tup ds)
  | lst {j : Nat} {ds : List D} (h : ∀ d ∈ ds, Nice j d) (hl : ds.length ≤ 100000) : Nice (j + 1) (.lst ds)
/-! chains of three -/
section
variable (r : Env) (x y z : D)
def ch3 (o1 o2 o3 : D → D → Option D) (x y : R D) (fc fd : Env → R D) (r : Env) : R D := x.bind fun x => y.bind fun y => (R.ofO (o1 x y)).bind fun d => (R.ofO (asB d)).bind fun k =>
  if k = true then (fc r).bind fun z => (R.ofO (o2 y z)).bind fun d => (R.ofO (asB d)).bind fun k2 => if k2 = true then (fd r).bind fun u => R.ofO (o3 z u) else .ok (.bl false) else .ok (.bl false)
def ch3a (o2 o3 : D → D → Option D) (k : Option D) (y : D) (fc fd : Env → R D) (r : Env) : R D := (R.ofO k).bind fun d => (R.ofO (asB d)).bind fun k =>
  if k = true then (fc r).bind fun z => (R.ofO (o2 y z)).bind fun d => (R.ofO (asB d)).bind fun k2 => if k2 = true then (fd r).bind fun u => R.ofO (o3 z u) else .ok (.bl false) else .ok (.bl false)
def ch3b (o2 o3 : D → D → Option D) (y : D) (z : R D) (fd : Env → R D) (r : Env) : R D := z.bind fun z => (R.ofO (o2 y z)).bind fun d => (R.ofO (asB d)).bind fun k2 => if k2 = true then (fd r).bind fun u => R.ofO (o3 z u) else .ok (.bl false)
def ch3c (o3 : D → D → Option D) (k : Option D) (z : D) (fd : Env → R D) (r : Env) : R D := (R.ofO k).bind fun d => (R.ofO (asB d)).bind fun k2 => if k2 = true then (fd r).bind fun u => R.ofO (o3 z u) else .ok (.bl false)
theorem ch3_e (o1 o2 o3 : D → D → Option D) (fa fb fc fd : Env → R D) : chn3 o1 o2 o3 fa fb fc fd r = ch3 o1 o2 o3 (fa r) (fb r) fc fd r := (rfl)
theorem ch3_ok (o1 o2 o3 : D → D → Option D) (fc fd : Env → R D) : ch3 o1 o2 o3 (.ok x) (.ok y) fc fd r = ch3a o2 o3 (o1 x y) y fc fd r := (rfl)
theorem ch3_t (o2 o3 : D → D → Option D) (fc fd : Env → R D) : ch3a o2 o3 (some (.bl true)) y fc fd r = ch3b o2 o3 y (fc r) fd r := (rfl)
theorem ch3_f (o2 o3 : D → D → Option D) (fc fd : Env → R D) : ch3a o2 o3 (some (.bl false)) y fc fd r = .ok (.bl false) := (rfl)
theorem ch3b_ok (o2 o3 : D → D → Option D) (fd : Env → R D) : ch3b o2 o3 y (.ok z) fd r = ch3c o3 (o2 y z) z fd r := (rfl)
theorem ch3_t2 (o3 : D → D → Option D) (fd : Env → R D) : ch3c o3 (some (.bl true)) z fd r = apX (o3 z) (fd r) := (rfl)
theorem ch3_f2 (o3 : D → D → Option D) (fd : Env → R D) : ch3c o3 (some (.bl false)) z fd r = .ok (.bl false) := (rfl)
end
end DL

end
section
namespace DL
open PySem L2
/-! ### instances of one's own classes, with two attributes that nothing changes -/
def fldD (n : Str) : D → Option D
  | .obj fs => fs.lookup n
  | _ => none
theorem repF_get {K : PySem.W.Frag} {H : Hp} {A : Addr → Prop} {n : Str} {d : D} : ∀ {fs : List (Str × D)} {vs : List (Str × V)}, RepF K H A fs vs → fs.lookup n = some d → ∃ v, vs.lookup n = some v ∧ Rep K H A d v ∧ ∃ p ∈ fs, p.1 = n
  | [], vs, h, e => by cases e
  | (k, d') :: fs, vs, h, e => by
    unfold RepF at h
    obtain ⟨v, r, rfl, h1, h2⟩ := h
    rw [List.lookup_cons] at e ⊢
    by_cases z : n = k
    · subst z
      simp only [beq_self_eq_true] at e ⊢
      cases e
      exact ⟨v, rfl, h1, _, List.mem_cons_self, rfl⟩
    · have z' : (n == k) = false := by simpa using z
      rw [z'] at e ⊢
      obtain ⟨v2, e2, h3, p, hp, ep⟩ := repF_get h2 e
      exact ⟨v2, e2, h3, p, List.mem_cons_of_mem _ hp, ep⟩
section
variable {X : Cx} {W : WX} {e : Expr} {es : List Expr} {x f1 f2 : Str} {p pos : Pos} {k : Nat} {fa : Env → R D}
theorem d_fld {n : Str} (h : DP X W e fa) (hb : attributeBase e n X.env (eval e X.env) = eval e X.env := by rfl) : DP X W (.Attribute e n pos) (un1 (fldD n) fa) := by
  obtain ⟨t, pe, w⟩ := h
  refine ⟨_, pe_fld pe hb, fun F os r σ H Q R S => w F os r σ H _ R (S.bind.imp fun d S v H1 s1 h1 => ?_)⟩
  obtain ⟨d2, e2, S2⟩ := Sat.ofO S
  cases d with
  | obj fs =>
    unfold Rep at h1
    obtain ⟨a, C, dx, vs, rfl, hs, hn, hc, hno, hr⟩ := h1
    obtain ⟨v, ev, hv, q, hq, eq⟩ := repF_get hr e2
    exact ⟨a, C, dx, vs, v, rfl, hs, hc, by rw [← eq]; exact hno q hq, ev, S2 v H1 s1 hv⟩
  | _ => cases e2
/-- what __init__ promises: two attributes -/
def spI (C : Addr) (f1 f2 : Str) : Sp := fun vs H Q _ => ∃ (q dx : Addr) (v1 v2 : V), vs = [.ref q, v1, v2] ∧ H q = some (.ins C dx []) ∧ Q .non (upd (upd H q (.ins C dx [(f1, v1)])) q (.ins C dx [(f1, v1), (f2, v2)]))
def mkG (f1 f2 : Str) : List D → R D
  | [a, b] => .ok (.obj [(f1, a), (f2, b)])
  | _ => .stk
/-- the class that the name x stands for makes instances with the attributes f1 and f2 of its two arguments -/
def CalC (P : Program) (w : World) (K : PySem.W.Frag) (mg : Str → Option Value) (base : Heap) (k : Nat) (x f1 f2 : Str) : Prop :=
  ∃ (C f : Addr) (fd : FuncData) (ps : List Str), FnOk P w K mg base (L2.CX P w) k f fd ps (spI C f1 f2) ∧ Mk K C f ∧ mg x = some (.ref C) ∧ Binds K fd ps [] ∧ Cls K C ∧ NoAttr K C f1 ∧ NoAttr K C f2
theorem d_mkC {g : Env → R (List D)} (c : CalC X.prog X.w X.K X.mg X.base k x f1 f2) (hr : Room (k + 1) X.A) (hg : Gl X x) (ha : DPs X W (e :: es) g)
    (hdb : (x == ("__debug__" : Str)) = false := by decide) (he : starEach (e :: es) X.env = (false, eval e X.env) :: starEach es X.env := by rfl) (hpl : (backTo pos (starEach es X.env)).any (·.1) = false := by rfl) :
    DP X W (.Call (.Name x p) (e :: es) [] pos) (callF 2 (mkG f1 f2) g) := by
  obtain ⟨C, f, fd, ps, G, M, hm, hb, hc, n1, n2⟩ := c
  obtain ⟨ta, pa, wa⟩ := ha
  refine ⟨_, pe_make (E := fun _ _ _ => False) M G hr hg hm hb .nil (passes_call takes_no fun _ _ _ _ z => z.elim) pa hdb he hpl, fun Fm os r σ H Q Rl S => ?_⟩
  refine wa Fm os r σ H _ Rl (S.bind.imp fun ds S vs H1 s1 h1 y dx ny ndx nyd => ?_)
  have R1 := Rl.same' s1
  by_cases hl : ds.length = 2
  · rw [if_pos hl] at S
    match ds, hl with
    | [d1, d2], _ =>
      have S : ∀ v H', Same H H' → Rep X.K H' (Av Fm.A0 os) (.obj [(f1, d1), (f2, d2)]) v → Q v H' := S
      unfold RepL at h1
      obtain ⟨v1, r1, rfl, q1, h1⟩ := h1
      unfold RepL at h1
      obtain ⟨v2, r2, rfl, q2, h1⟩ := h1
      unfold RepL at h1
      subst h1
      refine ⟨y, dx, v1, v2, rfl, upd_same, rfl, ?_⟩
      have sm : Same H1 (upd (upd (upd (upd H1 dx (.own y)) y (.ins C dx [])) y (.ins C dx [(f1, v1)])) y (.ins C dx [(f1, v1), (f2, v2)])) := fun b o e => by
        rw [upd_ne (ne_of_none e ny), upd_ne (ne_of_none e ny), upd_ne (ne_of_none e ny), upd_ne (ne_of_none e ndx)]
        exact e
      refine S _ _ (s1.trans sm) ?_
      unfold Rep
      refine ⟨y, C, dx, [(f1, v1), (f2, v2)], rfl, upd_same, fun z => ?_, hc, fun q hq => ?_, ?_⟩
      · obtain ⟨o, e, _⟩ := R1.AOk y z
        rw [ny] at e
        cases e
      · rcases List.mem_cons.mp hq with z | z
        · subst z; exact n1
        · rw [List.mem_singleton.mp z]; exact n2
      · unfold RepF
        refine ⟨v1, _, rfl, q1.same sm R1.AOk, ?_⟩
        unfold RepF
        refine ⟨v2, _, rfl, q2.same sm R1.AOk, ?_⟩
        unfold RepF
        rfl
  · rw [if_neg hl] at S
    exact S.elim
end
section
variable {P : Program} {w : World} {K : PySem.W.Frag} {mg : Str → Option Value} {base : Heap} {x qual : Str} {params : Arguments} {scope : Scope} {f : Addr} {fd : FuncData}
theorem init_ok {C : Addr} {q x1 x2 f1 f2 : Str} {p1 p2 p3 p4 p5 p6 p7 p8 : Pos} (F : FunD K x qual params [.Assign [.Attribute (.Name q p1) f1 p2] (.Name x1 p3) p4, .Assign [.Attribute (.Name q p5) f2 p6] (.Name x2 p7) p8] scope [] [] f fd)
    (S : FnScope [q, x1, x2] [q, x1, x2] scope) (hc : Cls K C) (n1 : NoAttr K C f1) (n2 : NoAttr K C f2) (h12 : (f1 = f2) = False)
    (hv : ∀ (cdv : Value) (s : Shared), Vis (PyProof.Rows.envOfC qual scope s.heap.objs.size f cdv).scope q ∧ Vis (PyProof.Rows.envOfC qual scope s.heap.objs.size f cdv).scope x1 ∧ Vis (PyProof.Rows.envOfC qual scope s.heap.objs.size f cdv).scope x2)
    (hd : (q == ("__debug__" : Str)) = false ∧ (x1 == ("__debug__" : Str)) = false ∧ (x2 == ("__debug__" : Str)) = false) (hcd : (q == ("__classdict__" : Str)) = false ∧ (x1 == ("__classdict__" : Str)) = false ∧ (x2 == ("__classdict__" : Str)) = false) :
    FnOk P w K mg base (L2.CX P w) 1 f fd [q, x1, x2] (spI C f1 f2) := by
  refine F.ok S (fun vs H Q E h => ?_) (fun cdv A outer s H vs Q E hr h => ?_)
  · obtain ⟨_, _, _, _, rfl, _⟩ := h
    rfl
  · obtain ⟨p, dx, v1, v2, rfl, hp, k⟩ := h
    refine ⟨_, pss_cons (ps_fld (pv 0 rfl (hv cdv s).1 hd.1 hcd.1) (pv 1 rfl (hv cdv s).2.1 hd.2.1 hcd.2.1) rfl) (pss_one (ps_fld (pv 0 rfl (hv cdv s).1 hd.1 hcd.1) (pv 2 rfl (hv cdv s).2.2 hd.2.2 hcd.2.2) rfl)), ?_⟩
    refine ⟨_, rfl, _, rfl, p, C, dx, [], rfl, hp, hc, n1, (by show 0 < 1000; decide), _, rfl, _, rfl, p, C, dx, _, rfl, upd_same, hc, n2, (by show 1 < 1000; decide), ?_⟩
    have e : putF f2 v2 (putF f1 v1 []) = [(f1, v1), (f2, v2)] := by
      show (if f1 = f2 then _ else (f1, v1) :: putF f2 v2 []) = _
      rw [if_neg (by rw [h12]; exact id)]
      rfl
    rw [e]
    exact k
end
end DL

end
section
namespace DL
open PySem L2
/-! ### {k: v for target in iter if ..} -/
def dcP (g : D → Env → R Env) (c : Env → R Bool) (fk fv : Env → R D) (r0 : Env) : List (Key × D) → List D → R (List (Key × D))
  | acc, [] => .ok acc
  | acc, x :: xs => (R.ne (g x r0)).bind fun r1 => (R.ne (c r1)).bind fun b => if b = true then (R.ne (fk r1)).bind fun y => (R.ne (fv r1)).bind fun z => (R.ofO (keyD y)).bind fun k => dcP g c fk fv r0 (putD acc k z) xs else dcP g c fk fv r0 acc xs
def dcD (own : List (Str × Nat)) (h : Env → R (List D)) (g : D → Env → R Env) (c : Env → R Bool) (fk fv : Env → R D) : Env → R D := fun r => if noOwn (own.map (·.2)) r = true then (h r).bind fun items => if items.length ≤ sizeLine then (R.ne (dcP g c fk fv (wipeE r (own.map (·.2))) [] items)).bind fun kvs => .ok (.dct kvs) else .stk else .stk
theorem putD_len (kvs : List (Key × D)) (k : Key) (v : D) : (putD kvs k v).length ≤ kvs.length + 1 := by
  unfold putD
  split
  · rw [List.length_map]; omega
  · rw [List.length_append, List.length_singleton]; omega
theorem dc_snd {X : Cx} {W : WX} {own : List (Str × Nat)} {ks : List Nat} {h : Env → R (List D)} {g : D → Env → R Env} {c : Env → R Bool} {fk fv : Env → R D}
    (hk : ∀ k ∈ ks, k ∈ own.map (·.2)) (F : Fm) (os : List (Option Addr)) (r : Env) (σ : St) (H : Hp) (Q : VK) (R : Rel X.K F os r σ H)
    (S : Sat (fun d => ∀ p H', Same H H' → H p = none → RepO X.K H' (Ad (Av F.A0 os) p) d p → Q (.ref p) H') (Er X W F) (dcD own h g c fk fv r)) :
    tDc (cIp X.K X.mg W h) (cG X.K X.mg WF ks g) (cTp X.K X.mg WF c) (cP X.K X.mg WF fk) (cP X.K X.mg WF fv) (own.map (·.2)) σ H Q := by
  unfold dcD at S
  by_cases hv : noOwn (own.map (·.2)) r = true
  · rw [if_pos hv] at S
    have hv' := noOwn_ok hv
    generalize hvs : own.map (·.2) = vs at hk hv hv' S ⊢
    refine ⟨F, os, r, R, S.bind.imp fun items S2 => ?_⟩
    intro J H1 G src s1 g1 D hD
    by_cases hl : items.length ≤ sizeLine
    · rw [if_pos hl] at S2
      have R1 := R.same' s1
      have hDH : H D = none := s1.free hD
      have F0 : F.H0 D = none ∨ F.io D := by
        by_cases hio : F.io D
        · exact .inr hio
        · cases q : F.H0 D with
          | none => exact .inl rfl
          | some o =>
            have := R1.same D o q hio
            rw [hD] at this
            cases this
      let Fin : List (Key × DL.D) → Prop := fun kvs => ∀ p H', Same H H' → H p = none → RepO X.K H' (Ad (Av F.A0 os) p) (.dct kvs) p → Q (.ref p) H'
      have S3 : Sat Fin (fun _ _ => False) (dcP g c fk fv (wipeE r vs) [] items) := by
        cases q : dcP g c fk fv (wipeE r vs) [] items with
        | ok ds => rw [q] at S2; exact S2
        | err x e => rw [q] at S2; exact S2.elim
        | stk => rw [q] at S2; exact S2
      let FD : Fm := ⟨Ad F.A0 D, F.H0, F.io⟩
      have R2 : Rel X.K FD os (wipeE r vs) (L2.wipe σ vs) (upd H1 D (.dK [])) := (R1.ext (p := D) (o := .dK []) hD rfl).wipe _ hv'
      have kp0 : Keep (Av F.A0 os) (Av FD.A0 os) H1 (upd H1 D (.dK [])) := fun b u e nb => ⟨by rw [upd_ne (ne_of_none e hD)]; exact e, fun z => by
        rcases z with (z | z) | z
        · exact nb (.inl z)
        · rw [z, hD] at e
          cases e
        · exact nb (.inr z)⟩
      have g2 : G (Av FD.A0 os) (upd H1 D (.dK [])) := src.keep _ _ _ _ R1.AOk kp0 g1
      let Pv : Nat → Hp → Prop := fun i H' => ∃ acc vacc, Rel X.K FD os (wipeE r vs) (L2.wipe σ vs) H' ∧ H' D = some (.dK vacc) ∧ RepK X.K H' (Av FD.A0 os) acc vacc ∧ acc.length ≤ i ∧ G (Av FD.A0 os) H' ∧ Same H H' ∧
        Sat Fin (fun _ _ => False) (dcP g c fk fv (wipeE r vs) acc (items.drop i))
      refine ⟨fun i m H' => m = items.length - i ∧ i ≤ items.length ∧ Pv i H', ⟨_, rfl, Nat.zero_le _, [], [], R2, upd_same, by unfold RepK; rfl, Nat.le_refl _, g2, s1.trans (same_upd hD), S3⟩, ?_⟩
      rintro i m H2 ⟨rfl, hi, acc, vacc, R', hDa, hacc, hlen, g', sm, S'⟩
      have wk := walk_src src
      by_cases hlt : i < items.length
      · refine .inr ⟨wk.goes i H2 hlt ⟨_, R'.AOk, g'⟩, Pv (i + 1), fun H' p' => ⟨items.length - (i + 1), by omega, rfl, hlt, p'⟩, fun x H3 y => ?_⟩
        obtain ⟨s3, d, ed, hd⟩ := src.yields _ i H2 x H3 R'.AOk hlt g' y
        rw [drop_get ed] at S'
        unfold dcP at S'
        have R3 := R'.same' s3
        have g3 := src.keep _ _ _ _ R'.AOk (Keep.of s3) g'
        have hacc3 := RepK.keep (Keep.of s3) R'.AOk _ _ hacc
        refine ⟨_, os, _, d, R3, hd, (Sat.neB S').imp fun r4 S4 os4 σ4 H4 R4 k4 s4 o4 => ⟨wipe_off o4 hk, _, os4, r4, R4, (Sat.neB S4).imp fun b S5 H5 s5 => ?_⟩⟩
        have s35 : Same H3 H5 := s4.trans s5
        have R5 := R4.same' s5
        have R35 := R3.same' s35
        have hD5 : H5 D = some (.dK vacc) := s35 _ _ (s3 _ _ hDa)
        have hacc5 := RepK.keep (Keep.of s35) R3.AOk _ _ hacc3
        have g5 := src.keep _ _ _ _ R3.AOk (Keep.of s35) g3
        have sm5 : Same H H5 := (sm.trans s3).trans s35
        cases b with
        | false =>
          simp only [Bool.false_eq_true, if_false] at S5 ⊢
          exact ⟨acc, vacc, R35, hD5, hacc5, Nat.le_succ_of_le hlen, g5, sm5, S5⟩
        | true =>
          simp only [if_true] at S5 ⊢
          refine ⟨_, os4, r4, R5, (Sat.neB S5).imp fun dy S6 vy H6 s6 h6 => ?_⟩
          have R6 := R5.same' s6
          refine ⟨_, os4, r4, R6, (Sat.neB S6).imp fun dz S7 vz H7 s7 h7 => ?_⟩
          obtain ⟨k, ek, S8⟩ := Sat.ofO S7.bind
          have s37 : Same H3 H7 := (s35.trans s6).trans s7
          have R37 := R3.same' s37
          have hD7 : H7 D = some (.dK vacc) := s7 _ _ (s6 _ _ hD5)
          have hacc7 := RepK.keep (Keep.of s37) R3.AOk _ _ hacc3
          have g7 := src.keep _ _ _ _ R3.AOk (Keep.of s37) g3
          have hdd : Rep X.K H7 (Av FD.A0 os) dz vz := by
            have kk : Keep (Av FD.A0 os4) (Av FD.A0 os) H7 H7 := fun b u e nb => ⟨e, fun z => nb (by
              rcases z with z | z
              · exact .inl z
              · obtain ⟨j, hj, ej⟩ := List.getElem_of_mem z
                have ej' : os[j]? = some (some b) := by rw [List.getElem?_eq_getElem hj, ej]
                have nk : j ∉ ks := fun hjk => by
                  obtain ⟨s0, d0, e0, e0', _⟩ := R'.own ej'
                  exact wipeE_un (hk j hjk) s0 d0 e0 e0'
                exact .inr (List.mem_of_getElem? (((o4.2 j nk).2).trans ej')))⟩
            exact Rep.keep kk (R6.same' s7).AOk _ _ h7
          obtain ⟨R8, k8⟩ := R37.updA (p := D) (o := .dK (putK vacc k vz)) (.inr rfl) rfl F0
          refine ⟨vacc, k, keyD_v ek (.inl h6), hD7, by rw [repK_len hacc7]; omega, putD acc k dz, putK vacc k vz, R8, upd_same, RepK.keep k8 R37.AOk _ _ (repK_put k hacc7 hdd), Nat.le_trans (putD_len ..) (Nat.succ_le_succ hlen), src.keep _ _ _ _ R37.AOk k8 g7, ?_, S8⟩
          intro b u e
          rw [upd_ne (fun z => by rw [z, hDH] at e; cases e)]
          exact s7 _ _ (s6 _ _ (sm5 _ _ e))
      · have e : i = items.length := by omega
        subst e
        refine .inl ⟨wk.stops H2 ⟨_, R'.AOk, g'⟩, ?_⟩
        rw [List.drop_length] at S'
        exact S' D H2 sm hDH ⟨vacc, hDa, RepK.keep av_ad R'.AOk _ _ hacc⟩
    · rw [if_neg hl] at S2
      exact S2.elim
  · rw [if_neg hv] at S
    exact S.elim
section
variable {X : Cx} {W : WX} {kx vx tg iter : Expr} {ifs : List Expr} {scope : Scope} {own : List (Str × Nat)} {pos : Pos} {ks : List Nat} {h : Env → R (List D)} {g : D → Env → R Env} {c : Env → R Bool} {fk fv : Env → R D}
theorem d_dc (hc : X.calm = true) (hN : X.N.Nodup) (hi : DIp X W tg iter h) (ok : BlkOk X.N X.env.scope scope own)
    (hg : ∀ (s : Shared) (H : Hp) (C : Addr) (cl : List (Str × Addr)) (fp : List Addr), DG (X.blk s H scope (compEnvC scope cl C X.env) fp) WF ks tg g)
    (ht : ∀ (s : Shared) (H : Hp) (C : Addr) (cl : List (Str × Addr)) (fp : List Addr), DC (X.blk s H scope (compEnvC scope cl C X.env) fp) WF ifs c)
    (hkx : ∀ (s : Shared) (H : Hp) (C : Addr) (cl : List (Str × Addr)) (fp : List Addr), DP (X.blk s H scope (compEnvC scope cl C X.env) fp) WF kx fk)
    (hvx : ∀ (s : Shared) (H : Hp) (C : Addr) (cl : List (Str × Addr)) (fp : List Addr), DP (X.blk s H scope (compEnvC scope cl C X.env) fp) WF vx fv)
    (hk : ∀ k ∈ ks, k ∈ own.map (·.2) := by decide) (hs : ∀ x, foldedSetIterable iter X.env x = pure x := by intro _; rfl) : DF X W (.DictComp kx vx [⟨tg, iter, ifs, 0⟩] scope pos) (dcD own h g c fk fv) :=
  ⟨_, pe_dc hc hN hi.can ok (fun s H C cl fp => (hg s H C cl fp).can) (fun s H C cl fp => (ht s H C cl fp).can) (fun s H C cl fp => (hkx s H C cl fp).can) (fun s H C cl fp => (hvx s H C cl fp).can) hs, fun F os r σ H Q R S => dc_snd hk F os r σ H Q R S⟩
end
end DL

end
section
namespace DL
open PySem L2
/-! ### a dict that nothing changes any more -/
def tFrz (t : TE) : TE := fun σ H Q => t σ H fun v H1 => ∃ d u, v = .ref d ∧ H1 d = some u ∧ Mut (some u) ∧ ∀ od, Q v (upd H1 d (.frz od u))
theorem pe_frz {X : Cx} {e : Expr} {t : TE} (h : PE X e t) : PE X e (tFrz t) := by
  refine ⟨fun pins s σ H Q I hq => ?_⟩
  refine thn (h.run pins s σ H _ I hq) fun v s1 ⟨x, H1, I1, rx, d, u, ex, hd, mu, q⟩ => ?_
  obtain ⟨od, I2⟩ := I1.lock hd mu
  exact ⟨x, _, I2, rx, q od⟩
def toFz : D → Option D
  | .dct kvs => some (.dctF kvs)
  | _ => none
section
variable {X : Cx} {W : WX} {e a b c o tg : Expr} {es : List Expr} {x : Str} {p pos apos cpos : Pos} {f fa fb fc : Env → R D} {k : Nat}
theorem repF_of {K : PySem.W.Frag} {H H1 : Hp} {A : Addr → Prop} {q : Addr} {kvs : List (Key × D)} {od : Obj} (ak : AOk A H) (s1 : Same H H1) (n1 : H q = none) (vs : List (Key × V)) (e : H1 q = some (.dK vs)) (h : RepK K H1 (Ad A q) kvs vs) :
    Rep K (upd H1 q (.frz od (.dK vs))) A (.dctF kvs) (.ref q) := by
  have ak2 : AOk (Ad A q) H1 := fun b z => by
    rcases z with z | z
    · obtain ⟨o, h1, h2⟩ := ak b z
      exact ⟨o, s1 _ _ h1, h2⟩
    · subst z
      exact ⟨_, e, rfl⟩
  unfold Rep
  refine ⟨q, od, vs, rfl, upd_same, fun z => ?_, RepK.keep (fun b o eb nb => ⟨?_, fun z => nb (.inl z)⟩) ak2 _ _ h⟩
  · obtain ⟨o, e, _⟩ := ak q z
    rw [n1] at e
    cases e
  · rw [upd_ne (fun z => nb (.inr z))]
    exact eb
theorem DF.frz (h : DF X W e f) : DP X W e (un1 toFz f) := by
  obtain ⟨t, pe, w⟩ := h
  refine ⟨_, pe_frz pe, fun F os r σ H Q R S => w F os r σ H _ R (S.bind.imp fun d S q H1 s1 n1 h1 => ?_)⟩
  obtain ⟨d2, e2, S2⟩ := Sat.ofO S
  cases d with
  | dct kvs =>
    cases e2
    obtain ⟨vs, e1, rk⟩ := h1
    refine ⟨q, .dK vs, rfl, e1, trivial, fun od => S2 _ _ (fun b o eb => ?_) (repF_of R.AOk s1 n1 vs e1 rk)⟩
    rw [upd_ne (fun z => by rw [z, n1] at eb; cases eb)]
    exact s1 _ _ eb
  | _ => cases e2
/-- items, values -/
def itemsD : D → Option (List D)
  | .dctF kvs => some (kvs.map fun kv => .tup [keyV kv.1, kv.2])
  | _ => none
def valsD : D → Option (List D)
  | .dctF kvs => some (kvs.map fun kv => kv.2)
  | _ => none
theorem repK_at {K : PySem.W.Frag} {H : Hp} {A : Addr → Prop} : ∀ {ds : List (Key × D)} {vs : List (Key × V)} {i : Nat} {kk : Key} {v : V}, RepK K H A ds vs → vs[i]? = some (kk, v) → ∃ d, ds[i]? = some (kk, d) ∧ Rep K H A d v
  | [], vs, i, kk, v, h, e => by
    unfold RepK at h
    subst h
    cases e
  | (q, d) :: ds, vs, i, kk, v, h, e => by
    obtain ⟨u, r, ev, h1, h2⟩ := repK_cons h
    subst ev
    cases i with
    | zero =>
      cases e
      exact ⟨d, rfl, h1⟩
    | succ i =>
      have e' : r[i]? = some (kk, v) := e
      obtain ⟨d', h3, h4⟩ := repK_at h2 e'
      exact ⟨d', h3, h4⟩
theorem rep_key {K : PySem.W.Frag} {H : Hp} {A : Addr → Prop} (q : Key) : Rep K H A (keyV q) (kV q) := by
  cases q <;> (unfold Rep; rfl)
abbrev GD (K : PySem.W.Frag) (ad : Addr) (od : Obj) (kvs : List (Key × D)) (vs : List (Key × V)) : (Addr → Prop) → Hp → Prop := fun A H => H ad = some (.frz od (.dK vs)) ∧ ¬ A ad ∧ RepK K H A kvs vs
theorem src_vals {K : PySem.W.Frag} {ad : Addr} {od : Obj} {kvs : List (Key × D)} {vs : List (Key × V)} (hl : vs.length = kvs.length) : Src K (Itd ad od vs) (kvs.map fun kv => kv.2) (GD K ad od kvs vs) := by
  refine ⟨fun A A' H H' ak kp ⟨h1, h2, h3⟩ => ⟨(kp _ _ h1 h2).1, (kp _ _ h1 h2).2, RepK.keep kp ak _ _ h3⟩, fun A i H ak hi ⟨h1, h2, h3⟩ => ?_, fun A H ak ⟨h1, h2, h3⟩ => ?_, fun A i H v H' ak hi ⟨h1, h2, h3⟩ y => ?_⟩
  · rw [List.length_map] at hi
    exact ⟨h1, by rw [hl]; exact hi⟩
  · rw [List.length_map]
    exact ⟨h1, by rw [hl]; exact Nat.le_refl _⟩
  · obtain ⟨e1, kk, e2⟩ := y
    subst e1
    obtain ⟨d, e3, h4⟩ := repK_at h3 e2
    exact ⟨Same.refl _, d, by rw [List.getElem?_map, e3]; rfl, h4⟩
theorem src_items {K : PySem.W.Frag} {ad : Addr} {od : Obj} {kvs : List (Key × D)} {vs : List (Key × V)} (hl : vs.length = kvs.length) : Src K (Iti ad od vs) (kvs.map fun kv => D.tup [keyV kv.1, kv.2]) (GD K ad od kvs vs) := by
  refine ⟨fun A A' H H' ak kp ⟨h1, h2, h3⟩ => ⟨(kp _ _ h1 h2).1, (kp _ _ h1 h2).2, RepK.keep kp ak _ _ h3⟩, fun A i H ak hi ⟨h1, h2, h3⟩ => ?_, fun A H ak ⟨h1, h2, h3⟩ => ?_, fun A i H v H' ak hi ⟨h1, h2, h3⟩ y => ?_⟩
  · rw [List.length_map] at hi
    exact ⟨h1, by rw [hl]; exact hi⟩
  · rw [List.length_map]
    exact ⟨h1, by rw [hl]; exact Nat.le_refl _⟩
  · obtain ⟨T, kk, u, e2, e3, n, e4⟩ := y
    subst e3 e4
    obtain ⟨d, e5, h4⟩ := repK_at h3 e2
    refine ⟨same_upd n, _, by rw [List.getElem?_map, e5]; rfl, rep_newtup ak ?_ n⟩
    unfold RepL
    refine ⟨_, _, rfl, rep_key kk, ?_⟩
    unfold RepL
    exact ⟨_, _, rfl, h4, by unfold RepL; rfl⟩
theorem p_values (h : DP X W e f) (hbase : attributeBase e "values" X.env (eval e X.env) = eval e X.env := by rfl) (hline : (apos.endLine == cpos.line) = true := by rfl) : DIp X W tg (.Call (.Attribute e "values" apos) [] [] cpos) (itX valsD f) := by
  obtain ⟨t, pe, w⟩ := h
  refine ⟨_, pi_values pe hbase hline, fun F os r σ H Q R S => w F os r σ H _ R (S.bind.imp fun q S v H1 s1 h1 => ?_)⟩
  cases q with
  | dctF kvs =>
    obtain ⟨ad, od, vs, ev, h2, h3, h4⟩ := RepB.dctF (.inl h1)
    exact ⟨ad, od, vs, ev, h2, S _ H1 _ (src_vals (repK_len h4)) s1 ⟨h2, h3, h4⟩⟩
  | _ => exact S.elim
theorem p_items {elts : List Expr} {kk : Nat} {tpos : Pos} (h : DP X W e f) (hbase : attributeBase e "items" X.env (eval e X.env) = eval e X.env := by rfl) (hline : (apos.endLine == cpos.line) = true := by rfl) :
    DIp X W (.Tuple elts kk tpos) (.Call (.Attribute e "items" apos) [] [] cpos) (itX itemsD f) := by
  obtain ⟨t, pe, w⟩ := h
  refine ⟨_, pi_items pe hbase hline, fun F os r σ H Q R S => w F os r σ H _ R (S.bind.imp fun q S v H1 s1 h1 => ?_)⟩
  cases q with
  | dctF kvs =>
    obtain ⟨ad, od, vs, ev, h2, h3, h4⟩ := RepB.dctF (.inl h1)
    exact ⟨ad, od, vs, ev, h2, S _ H1 _ (src_items (repK_len h4)) s1 ⟨h2, h3, h4⟩⟩
  | _ => exact S.elim
/-- d.get(k), d.get(k, x) -/
def kvsD : D → Option (List (Key × D))
  | .dct kvs => some kvs
  | .dctF kvs => some kvs
  | _ => none
def gt1 (fa fb : Env → R D) : Env → R D := fun r => (fa r).bind fun d => (R.ofO (kvsD d)).bind fun kvs => (fb r).bind fun y => (R.ofO (keyD y)).bind fun k => .ok ((getD_ kvs k).getD .non)
def gt2 (fa fb fc : Env → R D) : Env → R D := fun r => (fa r).bind fun d => (R.ofO (kvsD d)).bind fun kvs => (fb r).bind fun y => (fc r).bind fun z => (R.ofO (keyD y)).bind fun k => .ok ((getD_ kvs k).getD z)
theorem repB_rd {K : PySem.W.Frag} {H : Hp} {A : Addr → Prop} {kvs : List (Key × D)} {v : V} {d : D} (hd : kvsD d = some kvs) (h : RepB K H A d v) : ∃ a vs, v = .ref a ∧ Rd H a (.dK vs) ∧ RepK K H A kvs vs := by
  cases d with
  | dct l =>
    cases hd
    obtain ⟨a, vs, e1, e2, e3⟩ := RepB.dct h
    exact ⟨a, vs, e1, .inl e2, e3⟩
  | dctF l =>
    cases hd
    obtain ⟨a, od, vs, e1, e2, _, e3⟩ := RepB.dctF h
    exact ⟨a, vs, e1, .inr ⟨od, e2⟩, e3⟩
  | _ => cases hd
end
end DL

end
section
namespace DL
open PySem PySem.Spec PyProof.Rows L2
/-! ### list(d.items()), whether a walk holds d or not -/
def tLI (te : TE) : TE := fun σ H Q => te σ H fun x H1 => ∃ (d : Addr) (kvs : List (Key × V)), x = .ref d ∧ Rd H1 d (.dK kvs) ∧
  ∀ (H' : Hp) (p : Addr) (ts : List Addr), Same H1 H' → H1 p = none → (∀ t ∈ ts, H1 t = none) → p ∉ ts → H' p = some (.lst (ts.map V.ref)) → Paired (fun (t : Addr) (q : Key × V) => H' t = some (.tup [kV q.1, q.2])) ts kvs → Q (.ref p) H'
section
variable {X : Cx} {W : WX} {e : Expr} {te : TE} {p apos cpos pos : Pos} {f : DL.Env → DL.R DL.D}
theorem pe_LI (hc : X.calm = true) (he : PE X e te) (hg : Gl X "list") (hm : X.mg "list" = none) (hbase : attributeBase e "items" X.env (eval e X.env) = eval e X.env) (hline : (apos.endLine == cpos.line) = true)
    (hs : starEach [.Call (.Attribute e "items" apos) [] [] cpos] X.env = (false, eval (.Call (.Attribute e "items" apos) [] [] cpos) X.env) :: starEach [] X.env) :
    PE X (.Call (.Name "list" p) [.Call (.Attribute e "items" apos) [] [] cpos] [] pos) (tLI te) := by
  constructor
  intro pins s σ H Q I hq
  apply wpAny_Call_Name_kw (ld_blt I hg hm rfl _)
  apply PyProof.Rows.callWith_type1 _ hs rfl
  rw [hs]
  apply Calls.spliced_cons
  apply wpAny_Call_method (T := "dict") (id := "dict.items") hbase rfl hline F.plainAttrs_dict F.slot_dict_items F.type_dict_items
  refine thn (he.run pins s σ H _ I hq) fun u s1 ⟨x, H1, I1, rx, d, kvs, ex, hd, q⟩ => ?_
  cases ex
  cases (show u = Value.ref d from rx)
  obtain ⟨hz, hs0, vs, kv, hdo⟩ := Rd.ok hd I1.hok
  obtain ⟨ep, hat⟩ := hdo.dictAt
  have lk : kvs.length = vs.length := Paired.length kv
  have I2 := I1.kept (t' := s1.toks) (h' := s1.heap.push { cls := .type "dict_items", data := .fields #[.ref d] }) fun b ob q => Heap.get?_push_of_some _ q
  refine ⟨hdo.typeIs, hdo.mapOf.noDict, method_meetsIn F.slot_dict_items F.entry_dict_items rfl (PySem.evalArgs_none ⟨rfl, hdo.typeIs, F.args_dict_items_1 _, _, meets_dict_items (mixKind X.prog X.w) d hs0, ⟨vs, hdo⟩, Calls.spliced_nil ?_⟩)⟩
  refine PySem.W.kdx_call (knd := mixKind X.prog X.w) (kvs := vs) (ep := ep) (I1.ok.hd hc) ⟨_, Heap.get?_push_size _ rfl, rfl, rfl⟩ (hat.push _) (by omega) fun h' tk acc c as k0 hS hl hG hacc => ?_
  obtain ⟨H', k1, k2, k3, k4, k5, k6, J⟩ := LiI.items_laid (tk := tk) I2 hz kv k0 hS hl hG hacc
  exact ⟨.ref _, H', J, rfl, q H' _ as k1 k2 k3 k4 k5 k6⟩
theorem repL_items {K : PySem.W.Frag} {H H' : Hp} {A A' : Addr → Prop} (kp : Keep A A' H H') (ak : AOk A H) : ∀ {ds : List (Key × DL.D)} {vs : List (Key × V)} {ts : List Addr}, RepK K H A ds vs → Paired (fun (t : Addr) (q : Key × V) => H' t = some (.tup [kV q.1, q.2])) ts vs →
    RepL K H' A' (ds.map fun kv => DL.D.tup [keyV kv.1, kv.2]) (ts.map V.ref)
  | [], vs, ts, h, hp => by
    unfold RepK at h
    subst h
    cases hp
    unfold RepL
    rfl
  | (q, d) :: ds, vs, ts, h, hp => by
    obtain ⟨u, r, ev, h1, h2⟩ := repK_cons h
    subst ev
    cases hp with
    | cons a t =>
      have ih := repL_items kp ak h2 t
      rw [List.map_cons, List.map_cons]
      unfold RepL
      refine ⟨_, _, rfl, ?_, ih⟩
      unfold Rep
      refine ⟨_, _, rfl, .inl a, ?_⟩
      unfold RepL
      refine ⟨_, _, rfl, rep_key q, ?_⟩
      unfold RepL
      exact ⟨_, _, rfl, Rep.keep kp ak _ _ h1, by unfold RepL; rfl⟩
def lstItD (d : DL.D) : Option DL.D := (kvsD d).map fun kvs => .lst (kvs.map fun kv => .tup [keyV kv.1, kv.2])
theorem d_lstIt (hc : X.calm = true) (hg : Gl X "list") (hm : X.mg "list" = none) (h : DB X W e f) (hbase : attributeBase e "items" X.env (eval e X.env) = eval e X.env := by rfl) (hline : (apos.endLine == cpos.line) = true := by rfl)
    (hs : starEach [.Call (.Attribute e "items" apos) [] [] cpos] X.env = (false, eval (.Call (.Attribute e "items" apos) [] [] cpos) X.env) :: starEach [] X.env := by rfl) :
    DF X W (.Call (.Name "list" p) [.Call (.Attribute e "items" apos) [] [] cpos] [] pos) (un1 lstItD f) := by
  obtain ⟨t, pe, w⟩ := h
  refine ⟨_, pe_LI hc pe hg hm hbase hline hs, fun F os r σ H Q R S => w F os r σ H _ R (S.bind.imp fun d S v H1 s1 h1 => ?_)⟩
  obtain ⟨d2, e2, S⟩ := Sat.ofO S
  obtain ⟨kvs, ek, e2⟩ := Option.map_eq_some_iff.mp e2
  subst e2
  obtain ⟨ad, vs, ev, hrd, hk⟩ := repB_rd ek h1
  refine ⟨ad, vs, ev, hrd, fun H' q ts k1 n1 nt nq hq hp => S q H' (s1.trans k1) (s1.free n1) ⟨_, hq, repL_items (fun b o eb nb => ⟨k1 _ _ eb, fun z => ?_⟩) (R.same' s1).AOk hk hp⟩⟩
  rcases z with z | z
  · exact nb z
  · rw [z, n1] at eb
    cases eb
end
end DL

end
section
namespace DL
open PySem L2
/-! ### xs[i] op= e of a slot's own list -/
def rGetN (K : PySem.W.Frag) : V → V → Hp → VK → Prop := fun x y H Q => ∃ (p : Addr) (xs : List V) (i : Nat) (v : V), x = .ref p ∧ y = .int (i : Nat) ∧ SqL K H p xs ∧ xs[i]? = some v ∧ Q v H
theorem get_listN {X : Cx} : PGet X (rGetN X.K) := by
  intro pins s σ H x y v u Q I rx ry h
  obtain ⟨p, xs, i, z, rfl, rfl, hq, he, q⟩ := h
  cases rx
  obtain ⟨t, rfl⟩ := ry
  obtain ⟨its, r, pl, hz⟩ := I.list hq
  obtain ⟨w, ew, rw'⟩ := r.get he
  have hl := r.length
  have hn := line63
  have hi := (List.getElem?_eq_some_iff.mp he).1
  exact wpAny_getItem_list (Q := fun r s' => EP X pins σ Q r s') pl.isList (by omega) (by omega) (by simpa using ew) ⟨z, H, I, rw', q⟩
def asN : D → Option Nat
  | .int i => if 0 ≤ i then some i.toNat else none
  | _ => none
theorem asN_ok {d : D} {n : Nat} (e : asN d = some n) : d = .int (n : Nat) := by
  cases d with
  | int i =>
    unfold asN at e
    by_cases h : 0 ≤ i
    · simp only [if_pos h] at e
      have := Option.some.inj e
      congr 1
      omega
    · simp only [if_neg h] at e
      cases e
  | _ => cases e
def itmA (i : Nat) (g : D → D → Option D) (fk fe : Env → R D) : Env → R Fl := fun r => (R.ofO (ownL r i)).bind fun s => (fk r).bind fun k => (R.ofO (asN k)).bind fun n => (R.ofO s.2[n]?).bind fun x => (fe r).bind fun y => (R.ofO (g x y)).bind fun d => .ok (.nx (r.set i (s.1.put (.lst (s.2.set n d)))))
section
variable {X : Cx} {W : WX} {e : Expr} {x : Str} {pos : Pos}
theorem s_itmA (i : Nat) {op : Operator} {ti : TIp} {g : D → D → Option D} {ix : Expr} {p p2 : Pos} {fk fe : Env → R D} (ho : PIp X op ti) (o : OpIp X ti g) (h : DB X W e fe) (h2 : DB X W ix fk) (hN : X.N[i]? = some x := by rfl) (hv : Vis X.env.scope x := by first | exact Or.inl rfl | exact Or.inr (Or.inl rfl) | exact Or.inr (Or.inr rfl)) (hd : (x == ("__debug__" : Str)) = false := by decide)
    (hcd : (x == ("__classdict__" : Str)) = false := by decide)
    (ha : ∀ ov iv new, augStore ix ov iv new = (do holding [new, ov, iv] (setItem ov iv new); release [new, ov, iv] []; pure .next) := by intros; rfl) : DS X W (.AugAssign (.Subscript (.Name x p) ix p2) op e pos) (itmA i g fk fe) := by
  obtain ⟨t, pe, w⟩ := h
  obtain ⟨u, pu, z⟩ := h2
  refine ⟨_, ps_augS (pe_var (i := i) hN hv hd hcd) pu get_listN pe ho set_list ha, fun F os r σ H D R S => ?_⟩
  obtain ⟨s0, e0, S⟩ := S.bind.ofO
  obtain ⟨e00, e01⟩ := ownL_ok (s := s0.1) (xs := s0.2) e0
  obtain ⟨a, ea, inA, _⟩ := R.ownA e00 e01
  refine ⟨_, ea, z F os r σ H _ R (S.bind.imp fun k S v2 H2 s2 h2 => ?_)⟩
  have R2 := R.same' s2
  obtain ⟨n, en, S4⟩ := S.bind.ofO
  obtain ⟨d0, ed0, S5⟩ := S4.bind.ofO
  clear S S4
  have ek := asN_ok en
  subst ek
  obtain ⟨a', ea', inA', ys, hy, hr⟩ := R2.ownA e00 e01
  rw [ea] at ea'
  cases ea'
  obtain ⟨v0, ev0, hv0⟩ := repL_get hr ed0
  refine ⟨a, ys, n, v0, rfl, h2.int, SqL.of hy, ev0, w F os r σ H2 _ R2 (S5.bind.imp fun y S6 v3 H3 s3 h3 => ?_)⟩
  have R3 := R2.same' s3
  obtain ⟨d, ed, S⟩ := S6.bind.ofO
  refine o _ H3 d0 y v0 v3 d _ R3.AOk ed (hv0.same s3 R2.AOk) h3 fun w4 H4 s4 h4 => ?_
  have R4 := R3.same' s4
  have hy4 : H4 a = some (.lst ys) := s4 _ _ (s3 _ _ hy)
  have hr4 := RepL.keep (Keep.of (s3.trans s4)) R2.AOk _ _ hr
  have hn : n < ys.length := (List.getElem?_eq_some_iff.mp ev0).1
  refine ⟨a, ys, (n : Nat), n, rfl, h2.int, hy4, ?_, ?_⟩
  · unfold L2.ixN
    rw [if_pos (Int.natCast_nonneg n), if_pos (by omega)]
    rfl
  · have rep' : RepO X.K (upd H4 a (.lst (ys.set n w4))) (Av F.A0 os) (.lst (s0.2.set n d)) a := ⟨_, upd_same, own_upd R4.AOk inA' (repL_set h4 n hr4)⟩
    obtain ⟨R5, k5⟩ := R4.updOwn e00 e01 ea rep'
    exact S os σ _ R5 ((Keep.of ((s2.trans s3).trans s4)).trans k5)
end
end DL

end
section
namespace DL
open PySem L2
/-! ### a list or dict of a slot's own is put away, and taken out again -/
section
variable {K : PySem.W.Frag} {H : Hp} {os : List (Option Addr)} {r : Env} {σ : St}
theorem Rel.less {F : Fm} {A1 : Addr → Prop} (R : Rel K ⟨A1, F.H0, F.io⟩ os r σ H) (h : ∀ a, F.A0 a → A1 a) : Rel K F os r σ H := by
  refine ⟨R.lens, R.leno, fun i s v o e1 e2 e3 => (R.slot i s v o e1 e2 e3).keep (fun b u e nb => ⟨e, fun z => nb ?_⟩) R.AOk fun _ _ => rfl, R.inj, fun i a e z => R.out i a e (h a z), fun a z => R.aok a (h a z), R.same, R.new⟩
  rcases z with z | z
  · exact .inl (h b z)
  · exact .inr z
theorem Rel.hide {F : Fm} (R : Rel K F os r σ H) {i : Nat} {a : Addr} (eo : os[i]? = some (some a)) : Rel K ⟨Ad F.A0 a, F.H0, F.io⟩ (os.set i none) (r.set i .un) σ H := by
  have ak := R.AOk
  have kp : Keep (Av F.A0 os) (Av (Ad F.A0 a) (os.set i none)) H H := fun b u eb nb => ⟨eb, fun z => by
    rcases z with (z | z) | z
    · exact nb (.inl z)
    · exact nb (.inr (by rw [z]; exact List.mem_of_getElem? eo))
    · rcases mem_set_cases z with z | z
      · exact nb (.inr z)
      · cases z⟩
  refine ⟨by simp [R.lens], by simp [R.leno], fun j s v o e1 e2 e3 => ?_, fun j k b e1 e2 => ?_, fun j b e1 z => ?_, fun b z => ?_, R.same, fun j b e1 => ?_⟩
  · rcases getElem?_set_cases e1 with ⟨ej, z1⟩ | ⟨ej, e1⟩
    · subst z1
      rcases getElem?_set_cases e3 with ⟨_, z3⟩ | ⟨nj, _⟩
      · exact z3
      · exact absurd ej nj
    · rw [List.getElem?_set_ne ej] at e3
      exact (R.slot j s v o e1 e2 e3).keep kp ak fun _ _ => rfl
  · rcases getElem?_set_cases e1 with ⟨_, z⟩ | ⟨_, e1⟩
    · cases z
    · rcases getElem?_set_cases e2 with ⟨_, z⟩ | ⟨_, e2⟩
      · cases z
      · exact R.inj j k b e1 e2
  · rcases getElem?_set_cases e1 with ⟨_, z1⟩ | ⟨nj, e1⟩
    · cases z1
    · rcases z with z | z
      · exact R.out j b e1 z
      · subst z
        exact nj (R.inj i j b eo e1)
  · rcases z with z | z
    · exact R.aok b z
    · subst z
      exact ak b (.inr (List.mem_of_getElem? eo))
  · rcases getElem?_set_cases e1 with ⟨_, z1⟩ | ⟨_, e1⟩
    · cases z1
    · exact R.new j b e1
theorem Rel.show {F : Fm} {A1 : Addr → Prop} {a : Addr} (R : Rel K ⟨A1, F.H0, F.io⟩ os r σ H) (ha : ∀ b, A1 b ↔ F.A0 b ∨ b = a) (na : ¬ F.A0 a) {i : Nat} {d : D} (e : r[i]? = some .un) (es : σ[i]? = some (some (.ref a))) (hr : RepO K H (Av A1 os) d a) (hn : F.H0 a = none ∨ F.io a) :
    Rel K F (os.set i (some a)) (r.set i (.own d)) σ H := by
  have ak := R.AOk
  have kp : Keep (Av A1 os) (Av F.A0 (os.set i (some a))) H H := fun b u eb nb => ⟨eb, fun z => nb (by
    rcases z with z | z
    · exact .inl ((ha b).mpr (.inl z))
    · rcases mem_set_cases z with z | z
      · exact .inr z
      · cases z
        exact .inl ((ha a).mpr (.inr rfl)))⟩
  have hi : i < os.length := by rw [R.leno]; exact (List.getElem?_eq_some_iff.mp e).1
  refine ⟨by simp [R.lens], by simp [R.leno], fun j s v o e1 e2 e3 => ?_, fun j k b e1 e2 => ?_, fun j b e1 z => ?_, fun b z => R.aok b ((ha b).mpr (.inl z)), R.same, fun j b e1 => ?_⟩
  · rcases getElem?_set_cases e1 with ⟨ej, z1⟩ | ⟨ej, e1⟩
    · subst z1
      subst ej
      rw [es] at e2
      cases e2
      rcases getElem?_set_cases e3 with ⟨_, z3⟩ | ⟨nj, _⟩
      · exact ⟨a, z3, rfl, hr.keepNe kp ak rfl⟩
      · exact absurd rfl nj
    · rw [List.getElem?_set_ne ej] at e3
      exact (R.slot j s v o e1 e2 e3).keep kp ak fun _ _ => rfl
  · rcases getElem?_set_cases e1 with ⟨ej, z⟩ | ⟨_, e1⟩
    · cases z
      rcases getElem?_set_cases e2 with ⟨ek, _⟩ | ⟨_, e2⟩
      · rw [← ej, ← ek]
      · exact absurd ((ha a).mpr (.inr rfl)) (R.out k a e2)
    · rcases getElem?_set_cases e2 with ⟨ek, z⟩ | ⟨_, e2⟩
      · cases z
        exact absurd ((ha a).mpr (.inr rfl)) (R.out j a e1)
      · exact R.inj j k b e1 e2
  · rcases getElem?_set_cases e1 with ⟨_, z1⟩ | ⟨_, e1⟩
    · cases z1
      exact na z
    · exact R.out j b e1 ((ha b).mpr (.inl z))
  · rcases getElem?_set_cases e1 with ⟨_, z1⟩ | ⟨_, e1⟩
    · cases z1
      exact hn
    · exact R.new j b e1
theorem Rel.showIo {F : Fm} {A1 : Addr → Prop} {a : Addr} (R : Rel K ⟨A1, F.H0, F.io⟩ os r σ H) (ha : ∀ b, A1 b ↔ F.A0 b ∨ b = a) (na : ¬ F.A0 a) {i : Nat} {d : D} (e : r[i]? = some .un) (es : σ[i]? = some (some (.ref a))) (hr : RepO K H (Av A1 os) d a) (hn : F.io a) :
    Rel K F (os.set i (some a)) (r.set i (.io d)) σ H := by
  have ak := R.AOk
  have kp : Keep (Av A1 os) (Av F.A0 (os.set i (some a))) H H := fun b u eb nb => ⟨eb, fun z => nb (by
    rcases z with z | z
    · exact .inl ((ha b).mpr (.inl z))
    · rcases mem_set_cases z with z | z
      · exact .inr z
      · cases z
        exact .inl ((ha a).mpr (.inr rfl)))⟩
  have hi : i < os.length := by rw [R.leno]; exact (List.getElem?_eq_some_iff.mp e).1
  refine ⟨by simp [R.lens], by simp [R.leno], fun j s v o e1 e2 e3 => ?_, fun j k b e1 e2 => ?_, fun j b e1 z => ?_, fun b z => R.aok b ((ha b).mpr (.inl z)), R.same, fun j b e1 => ?_⟩
  · rcases getElem?_set_cases e1 with ⟨ej, z1⟩ | ⟨ej, e1⟩
    · subst z1
      subst ej
      rw [es] at e2
      cases e2
      rcases getElem?_set_cases e3 with ⟨_, z3⟩ | ⟨nj, _⟩
      · exact ⟨a, z3, rfl, hr.keepNe kp ak rfl, hn⟩
      · exact absurd rfl nj
    · rw [List.getElem?_set_ne ej] at e3
      exact (R.slot j s v o e1 e2 e3).keep kp ak fun _ _ => rfl
  · rcases getElem?_set_cases e1 with ⟨ej, z⟩ | ⟨_, e1⟩
    · cases z
      rcases getElem?_set_cases e2 with ⟨ek, _⟩ | ⟨_, e2⟩
      · rw [← ej, ← ek]
      · exact absurd ((ha a).mpr (.inr rfl)) (R.out k a e2)
    · rcases getElem?_set_cases e2 with ⟨ek, z⟩ | ⟨_, e2⟩
      · cases z
        exact absurd ((ha a).mpr (.inr rfl)) (R.out j a e1)
      · exact R.inj j k b e1 e2
  · rcases getElem?_set_cases e1 with ⟨_, z1⟩ | ⟨_, e1⟩
    · cases z1
      exact na z
    · exact R.out j b e1 ((ha b).mpr (.inl z))
  · rcases getElem?_set_cases e1 with ⟨_, z1⟩ | ⟨_, e1⟩
    · cases z1
      exact .inr hn
    · exact R.new j b e1
/-- what a slot holds is forgotten -/
theorem Rel.forget {F : Fm} (R : Rel K F os r σ H) {i : Nat} {d : D} (e : r[i]? = some (.sh d)) : Rel K F os (r.set i .un) σ H := by
  refine ⟨by simp [R.lens], by simp [R.leno], fun j s v o e1 e2 e3 => ?_, R.inj, R.out, R.aok, R.same, R.new⟩
  rcases getElem?_set_cases e1 with ⟨ej, z1⟩ | ⟨ej, e1⟩
  · subst z1
    subst ej
    obtain ⟨v', o', e4, e5, q⟩ := R.get e
    rw [e5] at e3
    cases e3
    exact q.1
  · exact R.slot j s v o e1 e2 e3
/-- a value that the slot's name now stands for, of which nothing is known -/
theorem Rel.setUn {F : Fm} (R : Rel K F os r σ H) {i : Nat} {v : Option V} (e : r[i]? = some .un) : Rel K F os r (σ.set i v) H := by
  refine ⟨by simp [R.lens], R.leno, fun j s w o e1 e2 e3 => ?_, R.inj, R.out, R.aok, R.same, R.new⟩
  rcases getElem?_set_cases e2 with ⟨ej, z1⟩ | ⟨ej, e2⟩
  · subst ej
    rw [e] at e1
    cases e1
    obtain ⟨v', o', e4, e5, q⟩ := R.get e
    rw [e5] at e3
    cases e3
    exact q
  · exact R.slot j s w o e1 e2 e3
end
/-! ### sorted(dict) -/
def strKs : List (Key × D) → Option (List Str)
  | [] => some []
  | (.inr x, _) :: r => (strKs r).map fun l => x :: l
  | _ :: _ => none
theorem strKs_ok : ∀ {kvs : List (Key × D)} {ks : List Str}, strKs kvs = some ks → kvs.map (·.1) = ks.map Sum.inr
  | [], ks, e => by cases e; rfl
  | (k, d) :: r, ks, e => by
    cases k with
    | inl i => cases e
    | inr x =>
      obtain ⟨l, e1, e2⟩ := Option.map_eq_some_iff.mp e
      subst e2
      rw [List.map_cons, List.map_cons, strKs_ok e1]
theorem repK_fst {K : PySem.W.Frag} {H : Hp} {A : Addr → Prop} : ∀ {ds : List (Key × D)} {vs : List (Key × V)}, RepK K H A ds vs → vs.map (·.1) = ds.map (·.1)
  | [], vs, h => by unfold RepK at h; subst h; rfl
  | (q, d) :: ds, vs, h => by
    obtain ⟨u, r, ev, _, h2⟩ := repK_cons h
    subst ev
    rw [List.map_cons, List.map_cons, repK_fst h2]
def srtKD : List D → Option D
  | [d] => (kvsD d).bind fun kvs => (strKs kvs).bind fun ks => if ks.length < 64 then some (.lst ((sortStr ks).map D.str)) else none
  | _ => none
open PySem.Spec PyProof.Rows in
theorem rising_pw : ∀ (p : Str) (l : List Str), risingS p l = true → (p :: l).Pairwise fun a b => leS a b = true
  | p, [], _ => List.pairwise_singleton ..
  | p, x :: r, h => by
    have h : (!ltCps x.cps.toList p.cps.toList && risingS x r) = true := h
    obtain ⟨h1, h2⟩ := Bool.and_eq_true_iff.mp h
    have ih := rising_pw x r h2
    rw [ltCps_eq] at h1
    have px : leS p x = true := h1
    refine List.pairwise_cons.mpr ⟨fun y hy => ?_, ih⟩
    rcases List.mem_cons.mp hy with z | z
    · rw [z]; exact px
    · exact leS_iff.mpr (List.le_trans (leS_iff.mp px) (leS_iff.mp ((List.pairwise_cons.mp ih).1 y z)))
open PyProof.Rows in
theorem sortedS_pw : ∀ (l : List Str), sortedS l = true → l.Pairwise fun a b => leS a b = true
  | [], _ => .nil
  | x :: r, h => rising_pw x r h
def rSrtK : List V → Hp → VK → Prop := fun xs H Q => ∃ (a : Addr) (kvs : List (Key × V)) (ks : List Str), xs = [.ref a] ∧ Rd H a (.dK kvs) ∧ kvs.map (·.1) = ks.map Sum.inr ∧ ks.length < 64 ∧ ∀ p, H p = none → Q (.ref p) (upd H p (.lst ((sortStr ks).map V.str)))
theorem cr_srtK {X : Cx} (hc : X.calm = true) : CallR X (.builtin "sorted") rSrtK := by
  intro pins s σ H xs us Q I r h
  obtain ⟨a, kvs, ks, e, hd, hk, hl, q⟩ := h
  exact call_sortedD hc pins s σ H xs us Q I r ⟨a, kvs, ks, e, hd, hk, hl, fun ys p pm so n => by
    rw [sortStr_uniq pm (sortedS_pw ys so)]
    exact q p n⟩
theorem o_srtK {X : Cx} : OpNF X rSrtK srtKD := by
  intro A H xs vs d Q ak e h q
  match xs, e with
  | [d0], e =>
    obtain ⟨v, ev, h1⟩ := rep1 h
    subst ev
    obtain ⟨kvs, e1, e⟩ := Option.bind_eq_some_iff.mp e
    obtain ⟨ks, e2, e⟩ := Option.bind_eq_some_iff.mp e
    by_cases hl : ks.length < 64
    · rw [if_pos hl] at e
      cases e
      obtain ⟨a, ws, ew, hrd, hk⟩ := repB_rd e1 h1
      subst ew
      exact ⟨a, ws, ks, rfl, hrd, (repK_fst hk).trans (strKs_ok e2), hl, fun p n => q p _ (same_upd n) n (repO_newlst ak (repL_strs' _) n)⟩
    · rw [if_neg hl] at e
      cases e
end DL

end
section
namespace DL
open PySem L2
/-! ### the graph of the outcomes of a film: a dict of dicts of one's own, written through another name -/
abbrev sg (c : Nat) : Str := ⟨#[c]⟩
def putI (m : List (Nat × Nat)) (c v : Nat) : List (Nat × Nat) := if (m.any fun p => decide (p.1 = c)) = true then m.map (fun p => if p.1 = c then (p.1, v) else p) else m ++ [(c, v)]
def ogM (F : List Nat) : Nat → Nat → List (Nat × Nat)
  | 0 => fun _ => []
  | i + 1 => fun c => if c = F.getD (F.length - 1 - i) 0 ∧ F.length - 1 - i + 1 < F.length then putI (ogM F i c) (F.getD (F.length - 1 - i + 1) 0) (F.length - 1 - i + 2) else ogM F i c
def abc8 : List Nat := [97, 98, 99, 100, 101, 102, 103, 104]
def rowD (m : List (Nat × Nat)) : D := .dctF ((abc8.filter fun d => decide (d ∈ m.map (·.1))).map fun d => ((.inr (sg d) : Key), .int (((m.lookup d).getD 0 : Nat) : Int)))
def ogR (F : List Nat) : Nat → List D
  | 0 => []
  | i + 1 => ogR F i ++ [rowD (ogM F (i + 1) (F.getD (F.length - 1 - i) 0))]
def kvI (m : List (Nat × Nat)) : List (Key × D) := m.map fun p => (.inr (sg p.1), .int (p.2 : Nat))
def vsI (m : List (Nat × Nat)) : List (Key × V) := m.map fun p => (.inr (sg p.1), .int (p.2 : Nat))
theorem repK_I {K : PySem.W.Frag} {H : Hp} {A : Addr → Prop} : ∀ m : List (Nat × Nat), RepK K H A (kvI m) (vsI m)
  | [] => by unfold kvI vsI RepK; rfl
  | p :: m => repK_mk (by unfold Rep; rfl) (repK_I m)
theorem repK_I' {K : PySem.W.Frag} {H : Hp} {A : Addr → Prop} : ∀ {m : List (Nat × Nat)} {vs : List (Key × V)}, RepK K H A (kvI m) vs → vs = vsI m
  | [], vs, h => by unfold kvI at h; unfold RepK at h; exact h
  | p :: m, vs, h => by
    obtain ⟨u, r, e, h1, h2⟩ := repK_cons h
    unfold Rep at h1
    subst h1
    rw [e, repK_I' h2]
    rfl
theorem Rel.base2 {K : PySem.W.Frag} {H : Hp} {os : List (Option Addr)} {r : Env} {σ : St} {F : Fm} {H0 : Hp} {io : Addr → Prop} (R : Rel K F os r σ H) (hi : ∀ (i : Nat) (d : D), r[i]? ≠ some (.io d)) (h1 : ∀ b o, H0 b = some o → ¬ io b → H b = some o) (h2 : ∀ (i : Nat) (a : Addr), os[i]? = some (some a) → H0 a = none ∨ io a) :
    Rel K ⟨F.A0, H0, io⟩ os r σ H := by
  refine ⟨R.lens, R.leno, fun i s v o e1 e2 e3 => ?_, R.inj, R.out, R.aok, h1, h2⟩
  have q := R.slot i s v o e1 e2 e3
  cases s with
  | io d => exact absurd e1 (hi i d)
  | _ => exact q
/-- the reading of behind = {letter: {} for letter in film} -/
theorem og_init {X : Cx} {W : WX} {Fm0 : Fm} {os : List (Option Addr)} {σ : St} {H : Hp} {Q : VK} (F : List Nat) (hF : F.length ≤ 200) (R : Rel X.K Fm0 os [.sh (.str ⟨F.toArray⟩), .un, .un, .un, .un, .un] σ H)
    (k : ∀ (A1 : Addr → Prop) (B : Addr) (bk : List (Key × V)) (ad : Nat → Addr) (H1 : Hp), Rel X.K ⟨A1, Fm0.H0, Fm0.io⟩ os [.sh (.str ⟨F.toArray⟩), .un, .un, .un, .un, .un] σ H1 → (∀ a, Fm0.A0 a → A1 a) → Keep (Av Fm0.A0 os) (Av A1 os) H H1 →
      A1 B → ¬ Fm0.A0 B → (Fm0.H0 B = none ∨ Fm0.io B) → (∀ c ∈ F, A1 (ad c) ∧ ¬ Fm0.A0 (ad c) ∧ (Fm0.H0 (ad c) = none ∨ Fm0.io (ad c)) ∧ ad c ≠ B ∧ H1 (ad c) = some (.dK []) ∧ valV bk (.inr (sg c)) = some (.ref (ad c))) → (∀ c ∈ F, ∀ d ∈ F, ad c = ad d → c = d) → H1 B = some (.dK bk) → Q (.ref B) H1) :
    tDc (cIp X.K X.mg W (itX zD (gSh 0))) (cG X.K X.mg WF [5] (gSet 5)) (cTp X.K X.mg WF yesB) (cP X.K X.mg WF (gSh 5)) tDNewK [5] σ H Q := by
  refine ⟨Fm0, os, _, R, fun J H1 G src s1 g1 B hB => ?_⟩
  have R1 := R.same' s1
  have F0 : ∀ {D : Addr}, ∀ {H' : Hp}, Rel X.K Fm0 os [.sh (.str ⟨F.toArray⟩), .un, .un, .un, .un, .un] σ H → Same H H' → H' D = none → Fm0.H0 D = none ∨ Fm0.io D := fun {D} {H'} R s n => by
    by_cases hio : Fm0.io D
    · exact .inr hio
    · cases q : Fm0.H0 D with
      | none => exact .inl rfl
      | some o =>
        have := s D o (R.same D o q hio)
        rw [n] at this
        cases this
  have hl : (sgs ⟨F.toArray⟩).length = F.length := by simp [sgs]
  have kext : ∀ {A1 : Addr → Prop} {H6 : Hp} {p : Addr} {o : HO}, H6 p = none → Keep (Av A1 os) (Av (Ad A1 p) os) H6 (upd H6 p o) := fun {A1} {H6} {p} {o} n b u e nb => ⟨by rw [upd_ne (ne_of_none e n)]; exact e, fun z => by
    rcases z with (z | z) | z
    · exact nb (.inl z)
    · rw [z, n] at e
      cases e
    · exact nb (.inr z)⟩
  have hBH : H B = none := s1.free hB
  have FB : Fm0.H0 B = none ∨ Fm0.io B := F0 R (Same.refl H) hBH
  let r0 : DL.Env := [.sh (.str ⟨F.toArray⟩), .un, .un, .un, .un, .un]
  let Pv : Nat → Hp → Prop := fun i H' => ∃ (A1 : Addr → Prop) (bk : List (Key × V)) (ad : Nat → Addr), Rel X.K ⟨A1, Fm0.H0, Fm0.io⟩ os r0 σ H' ∧ (∀ a, Fm0.A0 a → A1 a) ∧ Keep (Av Fm0.A0 os) (Av A1 os) H H' ∧ A1 B ∧ H' B = some (.dK bk) ∧ bk.length ≤ i ∧ G (Av A1 os) H' ∧ Same H H' ∧
    (∀ c ∈ F.take i, A1 (ad c) ∧ H (ad c) = none ∧ ad c ≠ B ∧ H' (ad c) = some (.dK []) ∧ valV bk (.inr (sg c)) = some (.ref (ad c))) ∧ (∀ c ∈ F.take i, ∀ d ∈ F.take i, ad c = ad d → c = d)
  have R2 : Rel X.K ⟨Ad Fm0.A0 B, Fm0.H0, Fm0.io⟩ os r0 σ (upd H1 B (.dK [])) := R1.ext (p := B) (o := .dK []) hB rfl
  refine ⟨fun i m H' => m = F.length - i ∧ i ≤ F.length ∧ Pv i H', ⟨_, rfl, Nat.zero_le _, Ad Fm0.A0 B, [], fun _ => 0, R2, fun a h => .inl h, (Keep.of s1).trans (kext hB), .inr rfl, upd_same, Nat.le_refl _, src.keep _ _ _ _ R1.AOk (kext hB) g1, s1.trans (same_upd hB), by intro c h; exact absurd h (by simp), by intro c h; exact absurd h (by simp)⟩, ?_⟩
  rintro i m H2 ⟨rfl, hi, A1, bk, ad, R', hA, kp, hB1, hBd, hlen, g', sm, hc, hj⟩
  have wk := walk_src src
  by_cases hlt : i < F.length
  · refine .inr ⟨wk.goes i H2 (by rw [hl]; exact hlt) ⟨_, R'.AOk, g'⟩, Pv (i + 1), fun H' p' => ⟨F.length - (i + 1), by omega, rfl, hlt, p'⟩, fun x H3 y => ?_⟩
    obtain ⟨s3, d, ed, hd⟩ := src.yields _ i H2 x H3 R'.AOk (by rw [hl]; exact hlt) g' y
    have edc : d = .str (sg F[i]) := by
      have : (sgs ⟨F.toArray⟩)[i]? = some (.str (sg F[i])) := by
        unfold sgs
        rw [List.getElem?_map]
        simp [hlt]
      rw [this] at ed
      exact (Option.some.inj ed).symm
    have R3 := (R'.same' s3).wipe [5] (by
      intro v hv s d e
      rw [List.mem_singleton.mp hv] at e
      cases e
      exact fun z => nomatch z)
    refine ⟨_, os, _, d, R3, hd, fun os4 σ4 H4 R4 k4 s4 o4 => ⟨wipe_off o4 (by simp), ⟨_, os4, _, R4, fun H5 s5 => ?_⟩⟩⟩
    simp only [if_true]
    refine ⟨_, os4, _, R4.same' s5, fun vy H6 s6 h6 p np => ?_⟩
    have evy : vy = .str (sg F[i]) := by
      rw [edc] at h6
      unfold Rep at h6
      exact h6
    have s26 : Same H2 H6 := ((s3.trans s4).trans s5).trans s6
    have R6 : Rel X.K ⟨A1, Fm0.H0, Fm0.io⟩ os r0 σ H6 := R'.same' s26
    have hB6 : H6 B = some (.dK bk) := s26 _ _ hBd
    have pB : p ≠ B := fun z => by rw [z, hB6] at np; cases np
    have R7 := R6.ext (p := p) (o := .dK []) np rfl
    obtain ⟨R8, k8⟩ := R7.updA (p := B) (o := .dK (putK bk (.inr (sg F[i])) (.ref p))) (.inl hB1) rfl FB
    have hpH : H p = none := (sm.trans s26).free np
    have tk : F.take (i + 1) = F.take i ++ [F[i]] := by rw [List.take_add_one, List.getElem?_eq_getElem hlt]; rfl
    have old : ∀ e ∈ F.take i, e ≠ F[i] → ad e ≠ p := fun e he _ z => by
      have := s26 _ _ (hc e he).2.2.2.1
      rw [z, np] at this
      cases this
    refine ⟨bk, .inr (sg F[i]), evy, by rw [upd_ne pB.symm]; exact hB6, by rw [sizeLine_eq]; omega, Ad A1 p, putK bk (.inr (sg F[i])) (.ref p), fun e => if e = F[i] then p else ad e, R8, fun a h => .inl (hA a h), ((kp.trans (Keep.of s26)).trans (kext np)).trans k8, .inl hB1, upd_same, ?_, src.keep _ _ _ _ R7.AOk k8 (src.keep _ _ _ _ R6.AOk (kext np) (src.keep _ _ _ _ R'.AOk (Keep.of s26) g')), ?_, ?_, ?_⟩
    · have : (putK bk (.inr (sg F[i])) (.ref p)).length ≤ bk.length + 1 := by
        unfold putK
        split <;> simp
      omega
    · intro b o e
      have e6 := s26 _ _ (sm _ _ e)
      rw [upd_ne (fun z => by rw [z, hBH] at e; cases e), upd_ne (ne_of_none e6 np)]
      exact e6
    · intro e he
      rw [tk] at he
      by_cases z : e = F[i]
      · simp only [if_pos z]
        refine ⟨.inr rfl, hpH, pB, by rw [upd_ne pB, upd_same], ?_⟩
        rw [z, valV_put, if_pos rfl]
      · simp only [if_neg z]
        have hm : e ∈ F.take i := (List.mem_append.mp he).resolve_right fun q => z (List.mem_singleton.mp q)
        obtain ⟨q1, q2, q3, q4, q5⟩ := hc e hm
        refine ⟨.inl q1, q2, q3, by rw [upd_ne q3, upd_ne (old e hm z)]; exact s26 _ _ q4, ?_⟩
        rw [valV_put, if_neg (fun w => z (by have := Sum.inr.inj w; have := congrArg (fun s : Str => s.cps.toList) this; simpa using this))]
        exact q5
    · intro e he e' he' q
      rw [tk] at he he'
      by_cases z : e = F[i]
      · by_cases z' : e' = F[i]
        · rw [z, z']
        · simp only [if_pos z, if_neg z'] at q
          exact absurd q.symm (old e' ((List.mem_append.mp he').resolve_right fun q => z' (List.mem_singleton.mp q)) z')
      · by_cases z' : e' = F[i]
        · simp only [if_pos z', if_neg z] at q
          exact absurd q (old e ((List.mem_append.mp he).resolve_right fun q => z (List.mem_singleton.mp q)) z)
        · simp only [if_neg z, if_neg z'] at q
          exact hj e ((List.mem_append.mp he).resolve_right fun q => z (List.mem_singleton.mp q)) e' ((List.mem_append.mp he').resolve_right fun q => z' (List.mem_singleton.mp q)) q
  · have e : i = F.length := by omega
    subst e
    refine .inl ⟨by have := wk.stops H2 ⟨_, R'.AOk, g'⟩; rw [hl] at this; exact this, k A1 B bk ad H2 R' hA kp hB1 (fun z => R.notIn hBH (.inl z)) FB (fun c hcm => ?_) (fun c hcm d hdm => ?_) hBd⟩
    · obtain ⟨q1, q2, q3, q4, q5⟩ := hc c (by rw [List.take_length]; exact hcm)
      exact ⟨q1, fun z => R.notIn q2 (.inl z), F0 R (Same.refl H) q2, q3, q4, q5⟩
    · exact hj c (by rw [List.take_length]; exact hcm) d (by rw [List.take_length]; exact hdm)
end DL

end
section
namespace DL
open PySem L2
open Classical in
theorem og_step {X : Cx} {W : WX} {Fm0 : Fm} {A1 : Addr → Prop} {os : List (Option Addr)} {σ : St} {H : Hp} {D : Ends} {tix : TE} {t12 : TS} {f12 : Env → R Fl} (F : List Nat) {B : Addr} {bk : List (Key × V)} {ad : Nat → Addr} {M : Nat → List (Nat × Nat)} {rows : List DL.D} {rw : DL.D} {m' : List (Nat × Nat)} {p c0 : Nat}
    (hc0 : c0 ∈ F)
    (wix : ∀ (F : Fm) (os : List (Option Addr)) (r : Env) (σ : St) (H : Hp) (Q : VK), Rel X.K F os r σ H → Sat (fun d => ∀ v H', Same H H' → RepB X.K H' (Av F.A0 os) d v → Q v H') (Er X W F) (bin ixD (gAny 0) (gAny 3) r) → tix σ H Q)
    (w12 : ∀ (F : Fm) (os : List (Option Addr)) (r : Env) (σ : St) (H : Hp) (D : Ends), Rel X.K F os r σ H → Sat (SPost X.K F os H D) (Er X W F) (f12 r) → t12 D σ H)
    (R : Rel X.K ⟨A1, Fm0.H0, Fm0.io⟩ os [.sh (.str ⟨F.toArray⟩), .sh (.ref B), .own (.lst rows), .sh (.int (p : Nat)), .un, .un] σ H)
    (hB : A1 B ∧ (Fm0.H0 B = none ∨ Fm0.io B)) (hc : ∀ c ∈ F, A1 (ad c) ∧ (Fm0.H0 (ad c) = none ∨ Fm0.io (ad c)) ∧ ad c ≠ B ∧ valV bk (.inr (sg c)) = some (.ref (ad c))) (hj : ∀ c ∈ F, ∀ d ∈ F, ad c = ad d → c = d) (hBk : H B = some (.dK bk)) (hM : ∀ c ∈ F, H (ad c) = some (.dK (vsI (M c))))
    (hix : bin ixD (gAny 0) (gAny 3) [.sh (.str ⟨F.toArray⟩), .sh (.ref B), .own (.lst rows), .sh (.int (p : Nat)), .un, .un] = .ok (.str (sg c0)))
    (hstep : f12 [.sh (.str ⟨F.toArray⟩), .sh (.ref B), .own (.lst rows), .sh (.int (p : Nat)), .io (.dct (kvI (M c0))), .un] = .ok (.nx [.sh (.str ⟨F.toArray⟩), .sh (.ref B), .own (.lst (rows ++ [rw])), .sh (.int (p : Nat)), .io (.dct (kvI m')), .un]))
    (k : ∀ os' σ' H', Rel X.K ⟨A1, Fm0.H0, Fm0.io⟩ os' [.sh (.str ⟨F.toArray⟩), .sh (.ref B), .own (.lst (rows ++ [rw])), .sh (.int (p : Nat)), .un, .un] σ' H' → Keep (Av A1 os) (Av A1 os') H H' → H' B = some (.dK bk) → (∀ c ∈ F, H' (ad c) = some (.dK (vsI (if c = c0 then m' else M c)))) → D.nx σ' H') :
    tSeq (tAsg (tDGet (tVar 1) tix) (gName 4)) t12 D σ H := by
  obtain ⟨v1, o1, e1, _, _, u1, eu1, h1⟩ := R.get (i := 1) rfl
  unfold Rep at h1
  subst h1
  subst eu1
  refine ⟨_, e1, wix _ os _ σ H _ R ?_⟩
  rw [hix]
  intro v H1 s hv
  have ev : v = .str (sg c0) := hv.str
  subst ev
  obtain ⟨q1, q2, q3, q4⟩ := hc c0 hc0
  have hB1 : H1 B = some (.dK bk) := s _ _ hBk
  refine ⟨B, .ref (ad c0), rfl, .inl ⟨bk, .inr (sg c0), .inl hB1, rfl, q4.symm⟩, ?_⟩
  have R1 := R.same' s
  have hlen : 4 < σ.length := by rw [R.lens]; simp
  have R2 := R1.setUn (i := 4) (v := some (.ref (ad c0))) rfl
  have sp4 : os[4]? = some none := by
    obtain ⟨v', o', _, e5, q⟩ := R.get (i := 4) rfl
    rw [e5]
    exact congrArg some q
  let spec : Addr → Prop := fun b => b = B ∨ ∃ c ∈ F, c ≠ c0 ∧ b = ad c
  let H0' : Hp := fun b => if spec b then H1 b else if Fm0.io b then none else Fm0.H0 b
  have specA : ∀ b, spec b → A1 b := fun b z => by
    rcases z with z | ⟨c, hcm, _, z⟩
    · rw [z]; exact hB.1
    · rw [z]; exact (hc c hcm).1
  have specN : ∀ b, spec b → b ≠ ad c0 := fun b z => by
    rcases z with z | ⟨c, hcm, nc, z⟩
    · rw [z]; exact q3.symm
    · rw [z]; exact fun w => nc (hj c hcm c0 hc0 w)
  have specF : ∀ b, spec b → Fm0.H0 b = none ∨ Fm0.io b := fun b z => by
    rcases z with z | ⟨c, hcm, _, z⟩
    · rw [z]; exact hB.2
    · rw [z]; exact (hc c hcm).2.1
  have specH : ∀ b, spec b → ∃ o, H1 b = some o := fun b z => by
    rcases z with z | ⟨c, hcm, _, z⟩
    · rw [z]; exact ⟨_, hB1⟩
    · rw [z]; exact ⟨_, s _ _ (hM c hcm)⟩
  have noio : ∀ (i : Nat) (d : DL.D), ([.sh (.str ⟨F.toArray⟩), .sh (.ref B), .own (.lst rows), .sh (.int (p : Nat)), .un, .un] : Env)[i]? ≠ some (.io d) := by
    intro i d e
    match i with
    | 0 => cases e
    | 1 => cases e
    | 2 => cases e
    | 3 => cases e
    | 4 => cases e
    | 5 => cases e
    | n + 6 => cases e
  have R3 : Rel X.K ⟨A1, H0', fun b => b = ad c0⟩ os _ _ H1 := R2.base2 (H0 := H0') (io := fun b => b = ad c0) noio (fun b o e nb => by
    by_cases z : spec b
    · have : H0' b = H1 b := if_pos z
      rw [← this]; exact e
    · have e2 : H0' b = if Fm0.io b then none else Fm0.H0 b := if_neg z
      rw [e2] at e
      by_cases w : Fm0.io b
      · rw [if_pos w] at e; cases e
      · rw [if_neg w] at e
        exact R1.same b o e w) (fun i a e => .inl (by
    have nA : ¬ A1 a := R1.out i a e
    have z : ¬ spec a := fun z => nA (specA a z)
    have e2 : H0' a = if Fm0.io a then none else Fm0.H0 a := if_neg z
    rw [e2]
    by_cases w : Fm0.io a
    · rw [if_pos w]
    · rw [if_neg w]
      exact (R1.new i a e).resolve_right w))
  let A2 : Addr → Prop := fun b => A1 b ∧ b ≠ ad c0
  have hA2 : ∀ b, A1 b ↔ A2 b ∨ b = ad c0 := fun b => by
    constructor
    · intro z
      by_cases w : b = ad c0
      · exact .inr w
      · exact .inl ⟨z, w⟩
    · rintro (z | z)
      · exact z.1
      · rw [z]; exact q1
  have R4 := Rel.showIo (F := ⟨A2, H0', fun b => b = ad c0⟩) (a := ad c0) (i := 4) (d := .dct (kvI (M c0))) R3 hA2 (fun z => z.2 rfl) rfl (by rw [List.getElem?_set_self hlen]) ⟨_, s _ _ (hM c0 hc0), repK_I _⟩ rfl
  refine w12 _ _ _ _ H1 D R4 ?_
  show Sat _ _ (f12 [.sh (.str ⟨F.toArray⟩), .sh (.ref B), .own (.lst rows), .sh (.int (p : Nat)), .io (.dct (kvI (M c0))), .un])
  rw [hstep]
  intro os' σ' H2 R5 k5
  obtain ⟨v', o', e4, e5, a', ho, hv', hrep, hio⟩ := R5.get (i := 4) rfl
  have hio : a' = ad c0 := hio
  subst hio
  subst ho
  have sameS : ∀ b o, spec b → H1 b = some o → H2 b = some o := fun b o z e => R5.same b o (by
    have : H0' b = H1 b := if_pos z
    show H0' b = some o
    rw [this]; exact e) (specN b z)
  have R6 := R5.hide (i := 4) e5
  have noio2 : ∀ (i : Nat) (d : DL.D), (([.sh (.str ⟨F.toArray⟩), .sh (.ref B), .own (.lst (rows ++ [rw])), .sh (.int (p : Nat)), .io (.dct (kvI m')), .un] : Env).set 4 .un)[i]? ≠ some (.io d) := by
    intro i d e
    match i with
    | 0 => cases e
    | 1 => cases e
    | 2 => cases e
    | 3 => cases e
    | 4 => cases e
    | 5 => cases e
    | n + 6 => cases e
  have R7 := R6.base2 (H0 := Fm0.H0) (io := Fm0.io) noio2 (fun b o e nb => by
    by_cases z : spec b
    · rcases specF b z with w | w
      · rw [w] at e; cases e
      · exact absurd w nb
    · by_cases w : b = ad c0
      · rcases q2 with y | y
        · rw [w, y] at e; cases e
        · rw [← w] at y; exact absurd y nb
      · refine R6.same b o ?_ w
        have e2 : H0' b = if Fm0.io b then none else Fm0.H0 b := if_neg z
        show H0' b = some o
        rw [e2, if_neg nb]
        exact e) (fun i a e => by
    have n6 := R6.new i a e
    by_cases z : spec a
    · exact specF a z
    · by_cases w : Fm0.io a
      · exact .inr w
      · rcases n6 with n6 | n6
        · have e2 : H0' a = if Fm0.io a then none else Fm0.H0 a := if_neg z
          have n6 : H0' a = none := n6
          rw [e2, if_neg w] at n6
          exact .inl n6
        · have : a = ad c0 := n6
          rw [this]
          exact q2)
  have R8 : Rel X.K ⟨A1, Fm0.H0, Fm0.io⟩ _ _ σ' H2 := Rel.less (F := ⟨A1, Fm0.H0, Fm0.io⟩) R7 fun a z => (hA2 a).mp z
  refine k _ _ _ R8 (fun b o eb nb => ?_) (sameS B _ (.inl rfl) hB1) fun c hcm => ?_
  · have nb1 : ¬ Av A2 (os.set 4 (some (ad c0))) b := fun z => by
      rcases z with z | z
      · exact nb (.inl z.1)
      · rcases mem_set_cases z with z | z
        · exact nb (.inr z)
        · cases z
          exact nb (.inl q1)
    obtain ⟨e6, n6⟩ := k5 b o (s _ _ eb) nb1
    refine ⟨e6, fun z => ?_⟩
    rcases z with z | z
    · exact nb (.inl z)
    · rcases mem_set_cases z with z | z
      · exact n6 (.inr z)
      · cases z
  · by_cases z : c = c0
    · rw [if_pos z, z]
      obtain ⟨vs, e7, rk⟩ := hrep
      rw [repK_I' rk] at e7
      exact e7
    · rw [if_neg z]
      exact sameS _ _ (.inr ⟨c, hcm, z, rfl⟩) (s _ _ (hM c hcm))
end DL

end
section
namespace DL
open PySem L2
def okF (F : List Nat) : Bool := decide (F ≠ []) && (decide (F.length ≤ 200) && F.all fun c => decide (97 ≤ c ∧ c ≤ 104))
def bOg (ft : Env → R Fl) : Env → R Fl := fun r => match r with
  | [.sh (.str x), .un, .un, .un, .un, .un] => if okF x.cps.toList = true then ft [.sh (.str x), .un, .own (.lst (ogR x.cps.toList x.cps.toList.length)), .sh (.int 0), .un, .un] else .stk
  | _ => .stk
theorem og_body {X : Cx} {W : WX} {s0 s1 b0 b1 b2 : Stmt} {tail : List Stmt} {tg iter ixe e1 : Expr} {fpos : Pos} {ks : List Nat} {f12 ft : Env → R Fl}
    (h0 : PS X s0 (tAsg (tDc (cIp X.K X.mg W (itX zD (gSh 0))) (cG X.K X.mg WF [5] (gSet 5)) (cTp X.K X.mg WF yesB) (cP X.K X.mg WF (gSh 5)) tDNewK [5]) (gName 1)))
    (h1 : ∀ t, PE X e1 t → PS X s1 (tAsg t (gName 2))) (hl1 : DF X W e1 (mkL aNil))
    (hp : PassesOwn (model X.prog X.w) X.A X.env X.xe) (hcal : X.calm = true) (hi : DIp X W tg iter (itX (rvR (.int 0)) (appN lenD (aCons (gAny 0) aNil)))) (hg : DG X W ks tg (gSet 3))
    (hx : DB X W ixe (bin ixD (gAny 0) (gAny 3))) (hb0 : ∀ t, PE X ixe t → PS X b0 (tAsg (tDGet (tVar 1) t) (gName 4))) (hb : DSs X W [b1, b2] f12) (ht : DSs X W tail ft)
    (hs : ∀ x, foldedSetIterable iter X.env x = pure x)
    (hix : ∀ (F : List Nat) (B : Addr) (rows : List D) (p c0 : Nat), okF F = true → F[p]? = some c0 → bin ixD (gAny 0) (gAny 3) [.sh (.str ⟨F.toArray⟩), .sh (.ref B), .own (.lst rows), .sh (.int (p : Nat)), .un, .un] = .ok (.str (sg c0)))
    (hitems : ∀ (F : List Nat) (B : Addr), okF F = true → itX (rvR (.int 0)) (appN lenD (aCons (gAny 0) aNil)) [.sh (.str ⟨F.toArray⟩), .sh (.ref B), .own (.lst []), .un, .un, .un] = .ok ((List.range F.length).map fun i => D.int ((F.length - 1 - i : Nat) : Int)))
    (hstep : ∀ (F : List Nat) (B : Addr) (i : Nat), okF F = true → i < F.length → f12 [.sh (.str ⟨F.toArray⟩), .sh (.ref B), .own (.lst (ogR F i)), .sh (.int ((F.length - 1 - i : Nat) : Int)), .io (.dct (kvI (ogM F i (F.getD (F.length - 1 - i) 0)))), .un] =
      .ok (.nx [.sh (.str ⟨F.toArray⟩), .sh (.ref B), .own (.lst (ogR F i ++ [rowD (ogM F (i + 1) (F.getD (F.length - 1 - i) 0))])), .sh (.int ((F.length - 1 - i : Nat) : Int)), .io (.dct (kvI (ogM F (i + 1) (F.getD (F.length - 1 - i) 0)))), .un])) :
    DSs X W (s0 :: s1 :: .For tg iter [b0, b1, b2] [] fpos :: tail) (bOg ft) := by
  obtain ⟨ti, pi, wi⟩ := hi
  obtain ⟨tG, pg, wg⟩ := hg
  obtain ⟨tl, pl, wl⟩ := hl1
  obtain ⟨tx, px, wx⟩ := hx
  obtain ⟨tb, pb, wb⟩ := hb
  obtain ⟨tt, pt, wt⟩ := ht
  refine ⟨_, pss_cons h0 (pss_cons (h1 _ pl) (pss_cons (ps_for hp hcal pi pg (pss_cons (hb0 _ px) pb) hs) pt)), fun Fm0 os r σ H D R S => ?_⟩
  unfold bOg at S
  split at S
  · rename_i x
    by_cases ok : okF x.cps.toList = true
    · rw [if_pos ok] at S
      generalize hF : x.cps.toList = F at ok S
      have ex : x = ⟨F.toArray⟩ := by
        cases x
        rw [← hF]
      subst ex
      have ok0 := ok
      unfold okF at ok0
      obtain ⟨o1, o2⟩ := Bool.and_eq_true_iff.mp ok0
      obtain ⟨o2, o3⟩ := Bool.and_eq_true_iff.mp o2
      have o1 := of_decide_eq_true o1
      have o2 := of_decide_eq_true o2
      have npos : 0 < F.length := List.length_pos_iff.mpr o1
      refine og_init (W := W) (Q := fun v H1 => tSeq (tAsg tl (gName 2)) (tSeq (tFor ti tG (tSeq (tAsg (tDGet (tVar 1) tx) (gName 4)) tb)) tt) D (σ.set 1 (some v)) H1) F o2 R fun A1 B bk ad H1 R1 hA kp hB nB fB hc hj hBk => ?_
      obtain ⟨R2, k2⟩ := R1.setSh (i := 1) (d := .ref B) (v := .ref B) (by unfold Rep; rfl)
      refine wl _ _ _ _ H1 _ R2 ?_
      show ∀ p H', Same H1 H' → H1 p = none → RepO X.K H' _ (.lst []) p → _
      intro p H2 s2 n2 rp2
      obtain ⟨R3, k3⟩ := R2.setOwn (i := 2) s2 n2 rp2
      refine wi _ _ _ _ H2 _ R3 ?_
      show Sat _ _ (itX (rvR (.int 0)) (appN lenD (aCons (gAny 0) aNil)) [.sh (.str ⟨F.toArray⟩), .sh (.ref B), .own (.lst []), .un, .un, .un])
      rw [hitems F B ok]
      intro J H3 G src s3 g3
      have wk := walk_src src
      rw [List.length_map, List.length_range] at wk
      have R4 := R3.same' s3
      have cK := (((kp.trans k2).trans k3).trans (Keep.of s3))
      refine for_it wk (fun i σ' H' => ∃ os' x3, Rel X.K ⟨A1, Fm0.H0, Fm0.io⟩ os' [.sh (.str ⟨F.toArray⟩), .sh (.ref B), .own (.lst (ogR F i)), x3, .un, .un] σ' H' ∧ Keep (Av Fm0.A0 os) (Av A1 os') H H' ∧ H' B = some (.dK bk) ∧ (∀ c ∈ F, H' (ad c) = some (.dK (vsI (ogM F i c)))) ∧ G (Av A1 os') H' ∧ (i = F.length → x3 = .sh (.int 0)))
        ⟨_, _, R4, cK, s3 _ _ (s2 _ _ hBk), fun c hcm => s3 _ _ (s2 _ _ (hc c hcm).2.2.2.2.1), g3, fun z => by omega⟩ ?_ ?_ ?_
      · rintro i σ' H' hi ⟨os', x3, R', _, _, _, g', _⟩
        exact ⟨_, R'.AOk, g'⟩
      · rintro i xv σ' H4 H5 hi ⟨os', x3, R', k', hB', hM', g', _⟩ ⟨_, y⟩
        obtain ⟨s5, d, ed, hd⟩ := src.yields _ i H4 xv H5 R'.AOk (by rw [List.length_map, List.length_range]; exact hi) g' y
        have edd : d = .int ((F.length - 1 - i : Nat) : Int) := by
          rw [List.getElem?_map, List.getElem?_range hi] at ed
          exact (Option.some.inj ed).symm
        subst edd
        have R5 := R'.same' s5
        refine wg _ os' _ σ' H5 xv _ _ R5 hd ?_
        show ∀ os4 σ4 H6, _ → _ → _ → _ → _
        intro os4 σ4 H6 R6 k6 s6 _
        have R6 : Rel X.K ⟨A1, Fm0.H0, Fm0.io⟩ os4 [.sh (.str ⟨F.toArray⟩), .sh (.ref B), .own (.lst (ogR F i)), .sh (.int ((F.length - 1 - i : Nat) : Int)), .un, .un] σ4 H6 := R6
        have hp : F.length - 1 - i < F.length := by omega
        have hc0 : F[F.length - 1 - i]? = some (F.getD (F.length - 1 - i) 0) := by rw [List.getD_eq_getElem?_getD, List.getElem?_eq_getElem hp]; rfl
        have g6 := src.keep _ _ _ _ R'.AOk ((Keep.of s5).trans k6) g'
        refine og_step (Fm0 := Fm0) (os := os4) (M := ogM F i) (m' := ogM F (i + 1) (F.getD (F.length - 1 - i) 0)) (rw := rowD (ogM F (i + 1) (F.getD (F.length - 1 - i) 0))) F (List.mem_of_getElem? hc0) wx wb R6 ⟨hB, fB⟩ (fun c hcm => ?_) hj (s6 _ _ (s5 _ _ hB')) (fun c hcm => s6 _ _ (s5 _ _ (hM' c hcm))) (hix F B _ _ _ ok hc0) (hstep F B i ok hi) fun os7 σ7 H7 R7 k7 b7 m7 => ?_
        · obtain ⟨q1, q2, q3, q4, q5, q6⟩ := hc c hcm
          exact ⟨q1, q3, q4, q6⟩
        · refine ⟨os7, _, R7, ((k'.trans (Keep.of s5)).trans k6).trans k7, b7, fun c hcm => ?_, src.keep _ _ _ _ R6.AOk k7 g6, fun z => ?_⟩
          · rw [m7 c hcm]
            by_cases z : c = F.getD (F.length - 1 - i) 0
            · rw [if_pos z, z]
            · rw [if_neg z]
              show _ = some (HO.dK (vsI (if c = F.getD (F.length - 1 - i) 0 ∧ F.length - 1 - i + 1 < F.length then _ else ogM F i c)))
              rw [if_neg fun w => z w.1]
          · have : F.length - 1 - i = 0 := by omega
            rw [this]
            rfl
      · rintro σ' H' ⟨os', x3, R', k', hB', hM', g', hx3⟩
        rw [hx3 rfl] at R'
        have Rf := (Rel.less (F := Fm0) R' hA).forget (i := 1) rfl
        refine wt Fm0 os' _ σ' H' D Rf (S.imp fun fl q => q.from fun b o eb nb => ?_)
        obtain ⟨z1, z2⟩ := k' b o eb nb
        refine ⟨z1, fun z => z2 ?_⟩
        rcases z with z | z
        · exact .inl (hA b z)
        · exact .inr z
    · rw [if_neg ok] at S
      exact S.elim
  · exact S.elim
end DL

end
section
namespace DL
open PySem L2
/-! ### name = {k: v for ..} on one line -/
theorem og_hu {X : Cx} {k : Nat} (hr : Room k X.A) : X.A.units + 1 < cLine := by
  have := hr.units
  omega
theorem ps_setDc {X : Cx} {i : Nat} {y : Str} {py : Pos} {kx vx tg iter : Expr} {ifs : List Expr} {scope : Scope} {own : List (Str × Nat)} {pos spos : Pos} {wi : TI} {g : TG} {tt : TT} {tk tv : TE} (hc : X.calm = true) (hN : X.N.Nodup) (hy : X.N[i]? = some y) (hyl : X.env.scope.names.lookup y = some .local)
    (hsw : swapsWith (.DictComp kx vx [⟨tg, iter, ifs, 0⟩] scope pos) (some (.Name y py)) spos.line X.env = pure true) (hi : PI X tg iter wi) (ok : BlkOk X.N X.env.scope scope own)
    (hg : ∀ (s : Shared) (H : Hp) (C : Addr) (cl : List (Str × Addr)) (fp : List Addr), PG (X.blk s H scope (compEnvC scope cl C X.env) fp) tg g) (ht : ∀ (s : Shared) (H : Hp) (C : Addr) (cl : List (Str × Addr)) (fp : List Addr), PTs (X.blk s H scope (compEnvC scope cl C X.env) fp) ifs tt)
    (hk : ∀ (s : Shared) (H : Hp) (C : Addr) (cl : List (Str × Addr)) (fp : List Addr), PE (X.blk s H scope (compEnvC scope cl C X.env) fp) kx tk) (he : ∀ (s : Shared) (H : Hp) (C : Addr) (cl : List (Str × Addr)) (fp : List Addr), PE (X.blk s H scope (compEnvC scope cl C X.env) fp) vx tv)
    (hs : ∀ x, foldedSetIterable iter X.env x = pure x := by intro _; rfl) :
    PS X (.Assign [.Name y py] (.DictComp kx vx [⟨tg, iter, ifs, 0⟩] scope pos) spos) (tAsg (tDc wi g tt tk tv (own.map (·.2))) (gName i)) := by
  constructor
  intro pins s σ H D I h
  rw [exec_Assign_Name_used _ _ _ _ hsw]
  refine wpAny_bind (wpAny_standAt (wpAny_bind ?_))
  have h' : tDc wi g tt tk tv (own.map (·.2)) σ H (fun x H1 => gName i x σ H1 D.nx) := h
  refine wpAny_bind (thn (dc_core (Qf := fun _ s' => SP X pins D .next s') hc hN I hi ok hg ht hk he hs h' fun L C s' m H' I' q hn f => ?_) fun _ s' hq => wpAny_pure (wpAny_pure hq))
  obtain ⟨f0, f1, f2, f3, f4, f5⟩ := f
  refine wpAny_assign_Name (store_ok2 (v := V.ref L) I' hN hy (.inl hyl) rfl (fun s2 I2 ⟨a, sb, ha⟩ => ?_) (.inr hyl))
  have haC : C ≠ a := ha.elim (fun z => by rw [z]; exact f1) fun z e => f4 y a z e.symm
  exact ⟨m, hn.sameBut sb haC, fun h3 sb3 => ⟨_, H', I2.turned (t' := s2.toks) (fun b o hb e => (sb3.2 b hb).trans e) f0 f1 f3 f4 f5, q⟩⟩
section
variable {X : Cx} {W : WX} {kx vx tg iter : Expr} {ifs : List Expr} {scope : Scope} {own : List (Str × Nat)} {pos spos : Pos} {ks : List Nat} {h : Env → R (List D)} {g : D → Env → R Env} {c : Env → R Bool} {fk fv : Env → R D} {y : Str} {py : Pos}
/-- what a statement leaves is held still from now on -/
theorem ps_frzN {X : Cx} {st : Stmt} {t : TS} (h : PS X st t) : PS X st (fun D σ H => t { D with nx := fun σ' H' => ∃ d u, H' d = some u ∧ Mut (some u) ∧ ∀ od, D.nx σ' (upd H' d (.frz od u)) } σ H) := by
  refine ⟨fun pins s σ H D I hw => ?_⟩
  refine thn (h.run pins s σ _ _ I hw) fun f s1 q => ?_
  cases f with
  | next =>
    obtain ⟨σ', H', I2, d, u, e, mu, q⟩ := q
    obtain ⟨od, I3⟩ := I2.lock e mu
    exact ⟨σ', _, I3, q od⟩
  | brk => exact q
  | cont => exact q
  | ret v => exact q
theorem s_setDc (i : Nat) (hc : X.calm = true) (hN : X.N.Nodup) (hi : DIp X W tg iter h) (ok : BlkOk X.N X.env.scope scope own)
    (hg : ∀ (s : Shared) (H : Hp) (C : Addr) (cl : List (Str × Addr)) (fp : List Addr), DG (X.blk s H scope (compEnvC scope cl C X.env) fp) WF ks tg g)
    (ht : ∀ (s : Shared) (H : Hp) (C : Addr) (cl : List (Str × Addr)) (fp : List Addr), DC (X.blk s H scope (compEnvC scope cl C X.env) fp) WF ifs c)
    (hkx : ∀ (s : Shared) (H : Hp) (C : Addr) (cl : List (Str × Addr)) (fp : List Addr), DP (X.blk s H scope (compEnvC scope cl C X.env) fp) WF kx fk)
    (hvx : ∀ (s : Shared) (H : Hp) (C : Addr) (cl : List (Str × Addr)) (fp : List Addr), DP (X.blk s H scope (compEnvC scope cl C X.env) fp) WF vx fv)
    (hy : X.N[i]? = some y := by rfl) (hyl : X.env.scope.names.lookup y = some .local := by rfl) (hsw : swapsWith (.DictComp kx vx [⟨tg, iter, ifs, 0⟩] scope pos) (some (.Name y py)) spos.line X.env = pure true := by rfl)
    (hk : ∀ k ∈ ks, k ∈ own.map (·.2) := by decide) (hs : ∀ x, foldedSetIterable iter X.env x = pure x := by intro _; rfl) : DS X W (.Assign [.Name y py] (.DictComp kx vx [⟨tg, iter, ifs, 0⟩] scope pos) spos) (setS i (withEnv (un1 toFz (dcD own h g c fk fv)))) := by
  refine ⟨_, ps_frzN (ps_setDc (i := i) (wi := cIp X.K X.mg W h) (g := cG X.K X.mg WF ks g) (tt := cTp X.K X.mg WF c) (tk := cP X.K X.mg WF fk) (tv := cP X.K X.mg WF fv) hc hN hy hyl hsw hi.can ok (fun s H C cl fp => (hg s H C cl fp).can) (fun s H C cl fp => (ht s H C cl fp).can) (fun s H C cl fp => (hkx s H C cl fp).can) (fun s H C cl fp => (hvx s H C cl fp).can) hs), fun F os r σ H D R S => ?_⟩
  have S1 := S.bind.bind.bind
  refine dc_snd hk F os r σ H _ R (S1.imp fun q S p H1 s1 n1 h1 => ?_)
  obtain ⟨d2, e2, S2⟩ := Sat.ofO S
  cases q with
  | dct kvs =>
    cases e2
    obtain ⟨vs, e1, rk⟩ := h1
    refine ⟨p, .dK vs, e1, trivial, fun od => ?_⟩
    have rp := repF_of (od := od) R.AOk s1 n1 vs e1 rk
    have sm : Same H (upd H1 p (.frz od (.dK vs))) := fun b o eb => by
      rw [upd_ne (fun z => by rw [z, n1] at eb; cases eb)]
      exact s1 _ _ eb
    obtain ⟨R2, k2⟩ := (R.same' sm).setSh (i := i) rp
    exact S2 _ _ _ R2 ((Keep.of sm).trans k2)
  | _ => cases e2
end
end DL

end
section
namespace DL
open PySem L2
/-! ### texts compared -/
def ltSD : D → D → Option D
  | .str x, .str y => some (.bl (decide (x.cps.toList < y.cps.toList)))
  | _, _ => none
end DL

end
section
namespace DL
open PySem L2
theorem addS_tx {l m : List Nat} (h : l.length ≤ 1000) (h2 : m.length ≤ 1000) : addSD (tx l) (tx m) = some (tx (l ++ m)) := by
  show (if (mkS l).length + (mkS m).length ≤ sizeLine then some (D.str (mkS l ++ mkS m)) else none) = _
  rw [if_pos (by rw [str_len, str_len, sizeLine_eq]; omega), str_app]
  rfl
/-! ### comprehensions over a known list -/
section
variable {α : Type}
theorem lcP_map {g : D → Env → R Env} {c : Env → R Bool} {f : Env → R D} {r0 : Env} (E : α → Env) (φ ψ : α → D) (p : α → Bool) : ∀ (L : List α), (∀ x ∈ L, g (φ x) r0 = .ok (E x) ∧ c (E x) = .ok (p x) ∧ (p x = true → f (E x) = .ok (ψ x))) →
    lcP g c f r0 (L.map φ) = .ok ((L.filter p).map ψ)
  | [], _ => rfl
  | x :: L, h => by
    obtain ⟨e1, e2, e3⟩ := h x List.mem_cons_self
    have ih := lcP_map (g := g) (c := c) (f := f) (r0 := r0) E φ ψ p L fun y hy => h y (List.mem_cons_of_mem _ hy)
    rw [List.map_cons]
    unfold lcP
    rw [e1]
    simp only [R.ne, R.bind]
    rw [e2]
    simp only [R.bind]
    cases hp : p x with
    | false => simp only [Bool.false_eq_true, if_false, List.filter_cons, hp]; exact ih
    | true =>
      simp only [if_true, List.filter_cons, hp]
      rw [e3 hp]
      simp only [R.bind]
      rw [ih]
      rfl
/-- [f for x in L if c], the target of any form -/
theorem lcA {g : D → Env → R Env} {c : Env → R Bool} {f : Env → R D} {own : List (Str × Nat)} {h : Env → R (List D)} {r : Env} (L : List α) (φ ψ : α → D) (p : α → Bool) (E : α → Env) (hn : noOwn (own.map (·.2)) r = true) (hi : h r = .ok (L.map φ)) (hl : L.length ≤ 1000000)
    (hg : ∀ x, g (φ x) (wipeE r (own.map (·.2))) = .ok (E x)) (hx : ∀ x ∈ L, c (E x) = .ok (p x) ∧ (p x = true → f (E x) = .ok (ψ x))) : lcD own h g c f r = .ok (.lst ((L.filter p).map ψ)) := by
  unfold lcD
  rw [if_pos hn]
  unfold lcV
  rw [hi]
  simp only [R.bind]
  rw [if_pos (by rw [List.length_map, sizeLine_eq]; omega), lcP_map E φ ψ p L fun x m => ⟨hg x, hx x m⟩]
/-- [f for x in L] -/
theorem lcY {g : D → Env → R Env} {f : Env → R D} {own : List (Str × Nat)} {h : Env → R (List D)} {r : Env} (L : List α) (φ ψ : α → D) (E : α → Env) (hn : noOwn (own.map (·.2)) r = true) (hi : h r = .ok (L.map φ)) (hl : L.length ≤ 1000000)
    (hg : ∀ x, g (φ x) (wipeE r (own.map (·.2))) = .ok (E x)) (hx : ∀ x ∈ L, f (E x) = .ok (ψ x)) : lcD own h g yesB f r = .ok (.lst (L.map ψ)) := by
  have := lcA (c := yesB) L φ ψ (fun _ => true) E hn hi hl hg fun x m => ⟨rfl, fun _ => hx x m⟩
  rw [List.filter_eq_self.mpr (fun _ _ => rfl)] at this
  exact this
/-- a loop over L: the state t by turns, slot k the item -/
theorem for_go {τ : Type} {b : Env → R Fl} {g : D → Env → R Env} (φ : α → D) (E : τ → Slot → Env) (I : Nat → τ → Prop) : ∀ (L : List α) (i : Nat) (t : τ) (s : Slot), (∀ t s x, g (φ x) (E t s) = .ok (E t (.sh (φ x)))) → I i t → isOwn (some s) = false →
    (∀ j x t, L[j]? = some x → I (i + j) t → ∃ t', b (E t (.sh (φ x))) = .ok (.nx (E t' (.sh (φ x)))) ∧ I (i + j + 1) t') →
    ∃ t' s', forD g b (L.map φ) (E t s) = .ok (.nx (E t' s')) ∧ I (i + L.length) t' ∧ isOwn (some s') = false
  | [], i, t, s, hg, h0, hs, hb => ⟨t, s, rfl, h0, hs⟩
  | x :: L, i, t, s, hg, h0, hs, hb => by
    obtain ⟨t1, e1, h1⟩ := hb 0 x t rfl h0
    obtain ⟨t2, s2, e2, h2, n2⟩ := for_go (b := b) (g := g) φ E I L (i + 1) t1 (.sh (φ x)) hg h1 rfl fun j y t ej hI => by
      have := hb (j + 1) y t (by simpa using ej) (by rw [← Nat.add_assoc, Nat.add_right_comm]; exact hI)
      rw [← Nat.add_assoc, Nat.add_right_comm i j 1] at this
      exact this
    refine ⟨t2, s2, ?_, by rw [List.length_cons, Nat.add_comm L.length 1, ← Nat.add_assoc]; exact h2, n2⟩
    rw [List.map_cons]
    unfold forD
    rw [hg]
    simp only [R.bind]
    rw [e1]
    exact e2
end
theorem for_run {α τ : Type} {b : Env → R Fl} {g : D → Env → R Env} (φ : α → D) (E : τ → Slot → Env) (I : Nat → τ → Prop) (L : List α) (t : τ) (s : Slot) (hg : ∀ t s x, g (φ x) (E t s) = .ok (E t (.sh (φ x)))) (h0 : I 0 t) (hs : isOwn (some s) = false)
    (hb : ∀ j x t, L[j]? = some x → I j t → ∃ t', b (E t (.sh (φ x))) = .ok (.nx (E t' (.sh (φ x)))) ∧ I (j + 1) t') : ∃ t' s', forD g b (L.map φ) (E t s) = .ok (.nx (E t' s')) ∧ I L.length t' ∧ isOwn (some s') = false := by
  have := for_go (b := b) (g := g) φ E I L 0 t s hg h0 hs fun j x t e hI => by
    rw [Nat.zero_add] at hI ⊢
    exact hb j x t e hI
  rw [Nat.zero_add] at this
  exact this
/-- a loop that changes nothing but its own slot -/
theorem for_no {α : Type} {b : Env → R Fl} {g : D → Env → R Env} (φ : α → D) (E : Slot → Env) (L : List α) (s : Slot) (hg : ∀ s x, g (φ x) (E s) = .ok (E (.sh (φ x)))) (hs : isOwn (some s) = false) (hb : ∀ x ∈ L, b (E (.sh (φ x))) = .ok (.nx (E (.sh (φ x))))) :
    ∃ s', forD g b (L.map φ) (E s) = .ok (.nx (E s')) ∧ isOwn (some s') = false := by
  obtain ⟨t', s', e, _, n⟩ := for_run (τ := Unit) φ (fun _ => E) (fun _ _ => True) L () s (fun _ s x => hg s x) trivial hs fun j x t ej _ => ⟨(), hb x (List.mem_of_getElem? ej), trivial⟩
  exact ⟨s', e, n⟩
end DL
namespace DL
open PySem L2
end DL

end
section
namespace PT
/-! ### how few blocks are long -/
def lg (N c : Nat) (G : List Nat → Nat) : List Nat → Nat
  | [] => N
  | a :: t => if a = c then min (lg N c G t) (G t + 1) else lg N c G t
def fb (N c : Nat) (G : List Nat → Nat) : List Nat → Nat
  | [] => N
  | a :: t => if a = c then min (G t) (lg N c G t) else N
def FW (N : Nat) : List Nat → List Nat → Nat
  | [], f => if f = [] then 0 else N
  | c :: g, f => fb N c (FW N g) f
/-- how many blocks of a parting are long -/
def lb : Nat → List Nat → Nat
  | _, [] => 0
  | s, e :: es => (if s < e then 1 else 0) + lb (e + 1) es
/-- the cost of a block from s to e and of the rest -/
def cst (G : List Nat → Nat) (F : List Nat) (s e : Nat) : Nat := G (F.drop (e + 1)) + (if s < e then 1 else 0)
/-- one parting with so few: block by block, the first end that fits -/
def gp (N : Nat) (F : List Nat) : List Nat → Nat → List Nat
  | [], _ => []
  | c :: g, s => match (pl F c s).find? fun e => decide (cst (FW N g) F s e = FW N (c :: g) (F.drop s)) with
    | some e => e :: gp N F g (e + 1)
    | none => []
/-! ### rows of cuts -/
def cutOk (f : List Nat) (p : Nat × Nat) : Prop := p.1 < p.2 ∧ p.2 < f.length ∧ f[p.1]? = f[p.2]?
instance (f : List Nat) (p : Nat × Nat) : Decidable (cutOk f p) := inferInstanceAs (Decidable (p.1 < p.2 ∧ p.2 < f.length ∧ f[p.1]? = f[p.2]?))
def cutBy (f : List Nat) (p : Nat × Nat) : List Nat := f.take (p.1 + 1) ++ f.drop (p.2 + 1)
def RowV : List Nat → List (Nat × Nat) → List Nat → Prop
  | f, [], h => f = h
  | f, p :: ps, h => cutOk f p ∧ RowV (cutBy f p) ps h
/-- the cuts for a parting -/
def cf : Nat → Nat → List Nat → List (Nat × Nat)
  | _, _, [] => []
  | at_, s, e :: es => (if s < e then [(at_, at_ + e - s)] else []) ++ cf (at_ + 1) (e + 1) es
end PT

end
section
namespace PT
/-! ### a parting, block by block -/
def bls : Nat → List Nat → List (Nat × Nat)
  | _, [] => []
  | s, e :: es => (s, e) :: bls (e + 1) es
/-! ### partings whose blocks have at most so many letters -/
def rb (F : List Nat) (m c : Nat) (B : Nat → Bool) : Nat → Bool
  | 0 => false
  | p + 1 => decide (F[p]? = some c) && (List.range (p + 1)).any fun s => decide (F[s]? = some c) && B s && decide (p - s < m)
def rl (F : List Nat) (m : Nat) : List Nat → (Nat → Bool) → Nat → Bool
  | [], B => B
  | c :: g, B => rl F m g (rb F m c B)
def szs (m s : Nat) (es : List Nat) : Prop := ∀ p ∈ bls s es, p.2 - p.1 < m
/-- is there a parting with blocks of at most m letters? -/
def pw (F g : List Nat) (m : Nat) : Bool := rl F m g (fun s => decide (s = 0)) F.length
end PT

end
section
namespace PT
/-! ### how often each number is there -/
def bnd : List Nat → Nat
  | [] => 0
  | x :: l => max (x + 1) (bnd l)
def hist (L : List Nat) : List Nat := (List.range (bnd L)).map fun k => L.count k
def padd (s l : List Nat) : List Nat := List.zipWith (· + ·) s l ++ l.drop s.length
/-! ### the numbers of cuts of all partings -/
def LV (F : List Nat) (c : Nat) (V : Nat → List Nat) (s : Nat) : List Nat := (pl F c s).flatMap fun p => (V (p + 1)).map (· + 1)
def BV (F : List Nat) (c : Nat) (V : Nat → List Nat) (s : Nat) : List Nat := if F[s]? = some c then V (s + 1) ++ LV F c V (s + 1) else []
def VE (F : List Nat) : List Nat → Nat → List Nat
  | [], s => if s = F.length then [0] else []
  | c :: g, s => BV F c (VE F g) s
end PT

end
section
namespace PT
/-! ### a parting put together -/
/-- ends of a beginning: from s, letters g, next start q -/
def Pt (F : List Nat) : List Nat → Nat → List Nat → Nat → Prop
  | [], s, es, q => es = [] ∧ s = q
  | c :: g, s, es, q => ∃ e r, es = e :: r ∧ s ≤ e ∧ F[s]? = some c ∧ F[e]? = some c ∧ Pt F g (e + 1) r q
end PT

end
section
namespace PT
/-! ### letters of a film, and how often they are there -/
abbrev L8 : List Nat := List.range' 97 8
theorem L8_nodup : L8.Nodup := by decide
theorem mem_L8 {c : Nat} : c ∈ L8 ↔ 97 ≤ c ∧ c ≤ 104 := by
  rw [List.mem_range'_1]
  omega
def kd (f : List Nat) : List Nat := L8.filter fun c => decide (c ∈ f)
theorem mem_kd {f : List Nat} {c : Nat} : c ∈ kd f ↔ (97 ≤ c ∧ c ≤ 104) ∧ c ∈ f := by
  unfold kd
  rw [List.mem_filter, mem_L8, decide_eq_true_eq]
theorem kd_nodup (f : List Nat) : (kd f).Nodup := L8_nodup.filter _
/-- the sum over all letters of what g says of how often they are there -/
def GS (g : Nat → Nat) (f : List Nat) : Nat := (L8.map fun c => g (f.count c)).sum
def Lt (f : List Nat) : Prop := ∀ c ∈ f, 97 ≤ c ∧ c ≤ 104
def tri (m : Nat) : Nat := m * (m - 1) / 2
/-- pairs of like letters -/
def pc : List Nat → Nat
  | [] => 0
  | x :: t => t.count x + pc t
/-- letters that come again -/
def ac : List Nat → Nat
  | [] => 0
  | x :: t => (if x ∈ t then 1 else 0) + ac t
def sgn (m : Nat) : Nat := if m = 0 then 0 else 1
/-! ### places, cuts -/
theorem pl_len (F : List Nat) (c : Nat) : ∀ s, (pl F c s).length = (F.drop s).count c := by
  intro s
  unfold pl
  have key : ∀ (l : List Nat) (s : Nat), ((List.range' s l.length).filter fun p => decide (l[p - s]? = some c)).length = l.count c := by
    intro l
    induction l with
    | nil => intro s; rfl
    | cons a l ih =>
      intro s
      rw [List.length_cons, List.range'_succ, List.filter_cons, Nat.sub_self, List.getElem?_cons_zero]
      have e : (List.range' (s + 1) l.length).filter (fun p => decide ((a :: l)[p - s]? = some c)) = (List.range' (s + 1) l.length).filter fun p => decide (l[p - (s + 1)]? = some c) := List.filter_congr fun p hp => by
        have := (List.mem_range'_1.mp hp).1
        have e2 : p - s = (p - (s + 1)) + 1 := by omega
        rw [e2, List.getElem?_cons_succ]
      rw [e, List.count_cons]
      by_cases q : a = c
      · subst q
        simp [ih]
      · have h1 : ¬ some a = some c := fun z => q (Option.some.inj z)
        simp [h1, q, ih]
  rcases Nat.lt_or_ge F.length s with z | z
  · rw [List.drop_eq_nil_of_le (by omega), Nat.sub_eq_zero_of_le (by omega)]
    rfl
  · have := key (F.drop s) s
    rw [List.length_drop] at this
    rw [← this]
    refine congrArg List.length (List.filter_congr fun p hp => ?_)
    have := (List.mem_range'_1.mp hp).1
    rw [List.getElem?_drop]
    have e : s + (p - s) = p := by omega
    rw [e]
theorem pl_len0 (F : List Nat) (c : Nat) : (pl F c 0).length = F.count c := by rw [pl_len, List.drop_zero]
theorem mem_pl {F : List Nat} {c s p : Nat} : p ∈ pl F c s ↔ s ≤ p ∧ F[p]? = some c := by
  unfold pl
  rw [List.mem_filter, List.mem_range'_1, decide_eq_true_eq]
  constructor
  · exact fun ⟨h1, h2⟩ => ⟨h1.1, h2⟩
  · intro ⟨h1, h2⟩
    have := (List.getElem?_eq_some_iff.mp h2).1
    exact ⟨⟨h1, by omega⟩, h2⟩
def pairsL (f : List Nat) : List (Nat × Nat) := (List.range f.length).flatMap fun i => (List.range' (i + 1) (f.length - (i + 1))).map fun j => (i, j)
def cutsL (f : List Nat) : List (Nat × Nat) := (pairsL f).filter fun p => decide (f[p.1]? = f[p.2]?)
/-- a letter and the next one like it -/
def tightL (f : List Nat) : List (Nat × Nat) := (cutsL f).filter fun p => decide ((pl f (f.getD p.1 0) (p.1 + 1)).head? = some p.2)
end PT

end
section
namespace DL
open PySem L2 PT
/-! ### one sign in a text: find, index, in -/
def Hit1 (s sub : Str) (hi i : Nat) : Prop := i + sub.length ≤ hi ∧ Builtin.Str.subAt s sub i = true
theorem oc_stay (s sub : Str) (hi : Nat) : ∀ (l : List Nat) (k f : Nat), (forIn l ((#[k] : Array Nat), f) (StrLaws.occBody s sub hi 1)).run.fst = #[k]
  | [], k, f => rfl
  | a :: l, k, f => by
    rw [List.forIn_cons]
    unfold StrLaws.occBody
    rw [if_neg (fun h => by have := h.1.1.1; simp at this)]
    exact oc_stay s sub hi l k f
theorem oc_head (s sub : Str) (hi : Nat) (p : Nat → Bool) : ∀ (l : List Nat) (f : Nat), (∀ i ∈ l, Hit1 s sub hi i ↔ p i = true) → (∀ i ∈ l, f ≤ i) → l.Pairwise (· < ·) → (forIn l ((#[] : Array Nat), f) (StrLaws.occBody s sub hi 1)).run.fst.toList = (l.filter p).head?.toList
  | [], f, _, _, _ => rfl
  | a :: l, f, hp, hf, hl => by
    obtain ⟨l1, l2⟩ := List.pairwise_cons.mp hl
    rw [List.forIn_cons, List.filter_cons]
    unfold StrLaws.occBody
    by_cases ha : p a = true
    · have h := (hp a List.mem_cons_self).mpr ha
      rw [if_pos ⟨⟨⟨by simp, hf a List.mem_cons_self⟩, h.1⟩, h.2⟩, if_pos ha]
      have := oc_stay s sub hi l a (a + sub.length)
      simp only [List.head?_cons, Option.toList_some]
      have e : ∀ k f', (forIn l ((#[k] : Array Nat), f') (StrLaws.occBody s sub hi 1)).run.fst.toList = [k] := fun k f' => by rw [oc_stay]
      exact e a _
    · rw [if_neg (fun h => ha ((hp a List.mem_cons_self).mp ⟨h.1.2, h.2⟩)), if_neg ha]
      exact oc_head s sub hi p l f (fun i hi => hp i (List.mem_cons_of_mem _ hi)) (fun i hi => hf i (List.mem_cons_of_mem _ hi)) l2
theorem hit_sign (F : List Nat) (c i : Nat) : Hit1 (mkS F) (mkS [c]) F.length i ↔ F[i]? = some c := by
  unfold Hit1
  rw [StrLaws.subAt_eq]
  show (i + 1 ≤ F.length ∧ ((F.drop i).take 1 == [c]) = true) ↔ _
  have e1 : F[i]? = (F.drop i)[0]? := by rw [List.getElem?_drop]; rfl
  rw [e1, beq_iff_eq]
  have hl : (F.drop i).length = F.length - i := List.length_drop
  cases q : F.drop i with
  | nil => simp
  | cons a t =>
    rw [q] at hl
    simp only [List.length_cons] at hl
    simp
    omega
theorem occ_sign (F : List Nat) (c : Nat) {s : Nat} (hs : s ≤ F.length) : Builtin.Str.occurrences (mkS F) (mkS [c]) s F.length 1 = (pl F c s).head?.toList := by
  rw [StrLaws.occ_eq, oc_head (mkS F) (mkS [c]) F.length (fun i => decide (F[i]? = some c)) _ s (fun i _ => by rw [hit_sign, decide_eq_true_eq]) (fun i hi => (List.mem_range'_1.mp hi).1) (List.pairwise_lt_range' ..)]
  unfold pl
  have e : F.length + 1 - s = (F.length - s) + 1 := by omega
  rw [e, List.range'_concat, List.filter_append]
  have e2 : s + 1 * (F.length - s) = F.length := by omega
  rw [e2]
  have e3 : ([F.length] : List Nat).filter (fun i => decide (F[i]? = some c)) = [] := by simp
  rw [e3, List.append_nil]
def oi : Option Nat → Int
  | some k => (k : Int)
  | none => -1
theorem in_sign (n : Bool) (c : Nat) (l : List Nat) : inB n (tx [c]) (tx l) = some (.bl (if n then !decide (c ∈ l) else decide (c ∈ l))) := by
  have e : inStr (mkS [c]) (mkS l) = decide (c ∈ l) := by
    unfold inStr
    have : Builtin.Str.occurrences (mkS l) (mkS [c]) 0 (mkS l).length 1 = _ := occ_sign l c (Nat.zero_le _)
    rw [this]
    cases q : pl l c 0 with
    | nil =>
      have : c ∉ l := fun z => by
        have h1 := pl_len0 l c
        have h2 := List.count_pos_iff.mpr z
        rw [q, List.length_nil] at h1
        omega
      simp [this]
    | cons a t =>
      have h := (mem_pl.mp (by rw [q]; exact List.mem_cons_self : a ∈ pl l c 0)).2
      simp [List.mem_of_getElem? h]
  show (some (inStr (mkS [c]) (mkS l))).map (fun b => D.bl (if n then !b else b)) = _
  rw [e]
  rfl
/-- the text of a film's letters, sorted -/
theorem leS_lt {a b : Nat} (h : a ≤ b) : leS (mkS [a]) (mkS [b]) = true := by
  rw [leS_iff]
  show [a] ≤ [b]
  rcases Nat.lt_or_eq_of_le h with z | z
  · exact List.le_of_lt (List.Lex.rel z)
  · subst z; exact List.le_refl _
theorem sort_signs {l m : List Nat} (p : m.Perm l) (h : m.Pairwise (· ≤ ·)) : sortStr (l.map fun c => mkS [c]) = m.map fun c => mkS [c] := by
  refine (sortStr_uniq (p.map _) ?_).symm
  exact List.pairwise_map.mpr (h.imp fun z => leS_lt z)
theorem sgT_tx (f : List Nat) : sgT (mkS f) = f.map fun c => mkS [c] := rfl
theorem mk_inj {a b : Nat} (h : mkS [a] = mkS [b]) : a = b := by
  have := tx_inj.mp h
  exact (List.cons.inj this).1
theorem kinds_set {f : List Nat} (h : Lt f) : sortStr (dedT (sgT (mkS f))) = (kd f).map fun c => mkS [c] := by
  rw [sgT_tx]
  have nd : ((kd f).map fun c => mkS [c]).Nodup := List.pairwise_map.mpr ((kd_nodup f).imp fun z e => z (mk_inj e))
  rw [sortStr_perm (perm_dedT nd fun x => ?_).symm]
  · exact sort_signs (List.Perm.refl _) (((List.pairwise_lt_range' ..).filter _).imp fun z => Nat.le_of_lt z)
  · simp only [List.mem_map]
    constructor
    · rintro ⟨c, hc, e⟩
      exact ⟨c, (mem_kd.mp hc).2, e⟩
    · rintro ⟨c, hc, e⟩
      exact ⟨c, mem_kd.mpr ⟨h c hc, hc⟩, e⟩
theorem srtSet_tx {f : List Nat} (h : Lt f) (hl : f.length ≤ 1000) : srtSetD (tx f) = some (.lst ((kd f).map fun c => tx [c])) := by
  show (if (mkS f).length + 1 < PySem.scanBound then some (D.lst ((sortStr (dedT (sgT (mkS f)))).map D.str)) else none) = _
  rw [if_pos (by show f.length + 1 < 4096; omega), kinds_set h, List.map_map]
  rfl
theorem rng_map (n : Nat) : rngL 0 n = (List.range n).map ni := by
  have := rng_range' 0 n
  rw [List.range_eq_range']
  exact this
theorem jn_nil : ∀ L : List (List Nat), TL.joinL [] L = L.flatten
  | [] => rfl
  | [p] => by simp [TL.joinL]
  | p :: q :: r => by
    show p ++ ([] ++ TL.joinL [] (q :: r)) = _
    rw [jn_nil (q :: r), List.nil_append]
    simp
theorem jn_strs : ∀ L : List (List Nat), strsOf (L.map fun l => tx l) = some (L.map fun l => mkS l)
  | [] => rfl
  | a :: t => by
    rw [List.map_cons]
    show (strsOf (t.map fun l => tx l)).map (fun l => mkS a :: l) = _
    rw [jn_strs t]
    rfl
theorem jn_eq (L : List (List Nat)) : Txt.join "" (L.map fun l => mkS l) = mkS L.flatten := by
  apply TL.ext_tl
  refine ((congrArg TL.tl (TL.join_eq "" _)).trans (TL.tl_join _ _)).trans ?_
  rw [List.map_map]
  have e1 : (TL.tl ∘ fun l : List Nat => mkS l) = fun l => l := by
    funext l
    rfl
  have e2 : TL.tl ("" : Str) = [] := rfl
  rw [e1, e2, List.map_id', jn_nil]
/-- "".join of texts -/
theorem jn_txs {L : List (List Nat)} (h : L.flatten.length ≤ 1000) : joinD "" [.lst (L.map fun l => tx l)] = some (tx L.flatten) := by
  show (strsOf (L.map fun l => tx l)).bind (fun ys => if (ys.map (·.length)).sum + ys.length * ("" : Str).length ≤ 16777216 then some (D.str (Txt.join "" ys)) else none) = _
  rw [jn_strs]
  have e : ((L.map fun l => mkS l).map (·.length)).sum = L.flatten.length := by
    rw [List.length_flatten, List.map_map]
    rfl
  show (if ((L.map fun l => mkS l).map (·.length)).sum + (L.map fun l => mkS l).length * 0 ≤ 16777216 then some (D.str (Txt.join "" (L.map fun l => mkS l))) else none) = _
  rw [e, Nat.mul_zero, if_pos (by omega), jn_eq]
  rfl
theorem flat_sg (g : List Nat) : (g.map fun c => [c]).flatten = g := by
  induction g with
  | nil => rfl
  | cons c g ih => rw [List.map_cons, List.flatten_cons, ih]; rfl
/-- "".join of signs -/
theorem jn_signs {g : List Nat} (h : g.length ≤ 1000) : mvB joinD (.ok (.str "")) (.ok [.lst (g.map fun c => tx [c])]) = .ok (tx g) := by
  have := jn_txs (L := g.map fun c => [c]) (by rw [flat_sg]; exact h)
  rw [List.map_map, flat_sg] at this
  show R.ofO (joinD "" [.lst (g.map fun c => tx [c])]) = _
  have e : (fun c => tx [c]) = (fun l => tx l) ∘ fun c : Nat => [c] := rfl
  rw [e, this]
  rfl
end DL

end
local macro_rules | `(tactic| wide_open with ((), $xs,*)) => `(tactic| simp (disch := first | omega | (simp; done) | (simp; omega)) only [↓DL.we_e, DL.weB_ok, ↓DL.ts_e, DL.tsB_ok, ↓DL.tsE_e, DL.tsE_ok, DL.prB_ok, ↓DL.tr_e, DL.trB_ok, ↓DL.trE_e, DL.trE_ok, ↓DL.bn_e, DL.bnB_ok, ↓DL.bnE_e, DL.bnE_ok, DL.bnE2_ok, ↓DL.ap_e, DL.apB_ok, ↓DL.itN_e, ↓DL.apE_e, DL.apE_ok, ↓DL.itX_e, DL.apX_ok, ↓DL.un1_e, ↓DL.aNil_e, ↓DL.aCons_e, DL.acB_ok, ↓DL.aConsE_e, DL.acE_ok, DL.acE2_ok, ↓DL.kc_e, ↓DL.notB_e, DL.ntB_ok, ↓DL.notV_e, DL.ntV_ok, ↓DL.notE_e, DL.ntE_ok, ↓DL.andB_e, DL.anB_t, DL.anB_f, ↓DL.orB_e, DL.orB_t, DL.orB_f, ↓DL.andV_e, DL.anV_t, DL.anV_f, ↓DL.orV_e, DL.roV_t, DL.roV_f, ↓DL.ifV_e, DL.ivB_t, DL.ivB_f, ↓DL.ifVE_e, DL.ivE_t, DL.ivE_f, ↓DL.andE_e, DL.anE_t, DL.anE_f, ↓DL.orE_e, DL.roE_t, DL.roE_f, ↓DL.chn_e, DL.chB_ok, DL.chB2_t, DL.chB2_f, ↓DL.oNone_e, ↓DL.oSome_e, DL.osB_ok, ↓DL.sl3_e, DL.s3B_ok, ↓DL.mthV_e, DL.mvB_tx, ↓DL.mthL_e, DL.mlB_ok, ↓DL.mkT_e, DL.mtB_ok, ↓DL.mkL_e, DL.mlB'_ok, ↓DL.mkTE_e, DL.mtE_ok, ↓DL.gSet_e, ↓DL.gTup_e, ↓DL.gsCons_e, DL.gcB_ok, ↓DL.gsNil_e, ↓DL.seq_st, DL.sq_nx, DL.sq_rt, DL.sq_bk, DL.sq_ct, ↓DL.if_st, DL.ifB_y, DL.ifB_n, ↓DL.set_st, DL.stB_ok, ↓DL.ret_st, DL.rtB_ok, ↓DL.seto_st, DL.soB_ok, ↓DL.for_st', DL.frB_ok, DL.forD_nil, ↓DL.expr_st, DL.exB_ok, ↓DL.skip_st, ↓DL.retN_st, ↓DL.brk_st, ↓DL.call_st, DL.clB_ok, ↓DL.callE_st, DL.clE_ok, DL.R_at_ok, ↓DL.callIO_st, DL.ciB_ok, DL.ciC_ok, DL.ciD_ok, ↓DL.par_st, DL.psB_ok, ↓DL.asg_st, DL.asB1_ok, DL.asB2_ok, ↓DL.aug_st, DL.agB_ok, DL.agC_ok, ↓DL.app_st, DL.apS_ok, ↓DL.itm_st, DL.imB_ok, DL.imC_ok, ↓DL.rvs_st, DL.rvB_ok, ↓DL.retO_st, DL.roB_own, DL.roB_sh, ↓DL.frz_st, ↓DL.frzS_st, DL.fzB_own, DL.fzB_sh, DL.fzB_un, ↓DL.itR1_st, DL.r1B_ok, DL.rg1_ok, DL.rg2_ok, DL.tn_add1, DL.tn_succ, DL.tn_nat, DL.tn_pred, DL.tn_sub, DL.len0, DL.len1, DL.len2, DL.len3, DL.len4, DL.gSh_eq, DL.gAny_eq, DL.gS_sh, DL.gA_sh, DL.gA_own, DL.gA_io, DL.ownL_eq, DL.oL_own, DL.oL_io, DL.put_own, DL.put_io, DL.ofO_some, DL.tru_bl, DL.tru_int, DL.tru_lst, DL.len_tx, DL.len_lst, DL.len_tup, DL.ix_tx, DL.ix_lst, DL.ix_tup, DL.sl_tx, DL.sl_lst, DL.sl_tup, DL.plus_tx, DL.plus_int, DL.plus_lst, DL.plus_tup, DL.cat_lst, DL.rep_lst1, DL.zD_tx, DL.zD_lst, DL.zD_tup, DL.rev_tx, DL.en_tx, DL.tup_lst, DL.lst_tup, DL.isi_tx, DL.isi_int, DL.isi_intb, DL.isi_tt, DL.isi_lt, DL.isi_int_tl, DL.isi_non_tl, DL.isi_tup_tl, DL.isi_tup_l, DL.isi_int_s, DL.isi_non_s, DL.eq_bl, DL.ne_bl, DL.eq_non, DL.isn_i, DL.isn_n, DL.sub_int', DL.add_ip, DL.sub_ip, DL.mul_int', DL.lt_int, DL.gt_int, DL.ge_int, DL.le_int, DL.eq_int, DL.ne_int, DL.eq_tx, DL.ne_tx, DL.isn_int, DL.isn_non, DL.isb, DL.neg_int, DL.int_int, DL.atI_nat, DL.atI_zero, DL.atI_one, DL.atI_two, DL.atI_three, DL.atI_succ, DL.atI_last, DL.cut_to, DL.cut_from, DL.cut_both, DL.cut_butlast, DL.sum_nl, DL.sum_nt, DL.mul_tx1, DL.mul_tup, ↓DL.ownK_e, DL.oK_own, ↓DL.put_st, DL.puB_tx, DL.puB_ni, ↓DL.pop_st, DL.poB_ok, ↓DL.parO_st, DL.paO_ok, ↓DL.parOS_st, DL.paS_ok, ↓DL.disp_e, DL.diB_tx, ↓DL.whl_st, ↓DL.ch3_e, DL.ch3_ok, DL.ch3_t, DL.ch3_f, DL.ch3b_ok, DL.ch3_t2, DL.ch3_f2, List.getElem?_cons_zero, List.getElem?_cons_succ, List.set_cons_zero, List.set_cons_succ, List.length_cons, List.length_nil, List.map_nil, List.length_map, List.cons.injEq, and_true, eq_self, Bool.true_eq_false, Bool.false_eq_true, decide_true, decide_false, Bool.not_true, Bool.not_false, Option.map_some, Int.reduceLT, Int.reduceLE, Int.reduceAdd, Int.reduceSub, Int.reduceMul, Int.reduceNeg, Int.reduceEq, Nat.reduceAdd, Nat.reduceSub, $[$(xs.getElems):term],*])
section
namespace DL
open PySem L2
/-! ### the graph of the outcomes, evaluated -/
def ogF12 : DL.Env → DL.R Fl := (seqS (ifS (withEnv (tst (bin ltD (bin plusD (gAny 3) (kc (.int 1))) (appN lenD (aCons (gAny 0) aNil))))) (putS 4 (bin ixD (gAny 0) (bin plusD (gAny 3) (kc (.int 1)))) (bin plusD (gAny 3) (kc (.int 2)))) skipS) (appS 2 (un1 toFz (dcD [("letter", 5)] (itX zD (appN srtKD (aCons (gAny 4) aNil))) (gSet 5) yesB (gSh 5) (bin dgetD (gAny 4) (gAny 5))))))
def ogFt : DL.Env → DL.R Fl := (seqS (appS 2 (un1 toFz (dispD (bin ixD (gAny 0) (kc (.int 0))) (kc (.int 1))))) (seqS (rvsS 2) (frzS 2 (retS (withEnv (callF 2 (mkG "arrows" "ends") (aCons (gSh 2) (aCons (bin plusD (mkL (aCons (kc (.bl false)) aNil)) (lcD [("letter", 5)] (itX zD (gSh 0)) (gSet 5) yesB (bin eqD (gAny 5) (bin ixD (gAny 0) (un1 negD (kc (.int 1))))))) aNil))))))))
theorem dcP_map {α : Type} {g : D → Env → R Env} {c : Env → R Bool} {fk fv : Env → R D} {r0 : Env} (φ ψ : α → D) (κ : α → Str) (E : α → Env) (p : α → Bool) : ∀ (L : List α) (acc : List (Key × D)), (∀ x ∈ L, g (φ x) r0 = .ok (E x) ∧ c (E x) = .ok (p x) ∧ (p x = true → fk (E x) = .ok (.str (κ x)) ∧ fv (E x) = .ok (ψ x))) →
    (L.map κ).Nodup → (∀ x ∈ L, ∀ kv ∈ acc, kv.1 ≠ .inr (κ x)) → dcP g c fk fv r0 acc (L.map φ) = .ok (acc ++ (L.filter p).map fun x => (.inr (κ x), ψ x))
  | [], acc, _, _, _ => by
    unfold dcP
    simp
  | x :: L, acc, h, hn, ha => by
    obtain ⟨h1, h2, h3⟩ := h x List.mem_cons_self
    rw [List.map_cons] at hn
    obtain ⟨n1, n2⟩ := List.nodup_cons.mp hn
    rw [List.map_cons]
    unfold dcP
    rw [h1]
    simp only [R.ne, R.bind]
    rw [h2]
    simp only [R.bind]
    cases q : p x with
    | false =>
      rw [List.filter_cons_of_neg (by rw [q]; decide)]
      simp only [Bool.false_eq_true, if_false]
      exact dcP_map φ ψ κ E p L acc (fun y hy => h y (List.mem_cons_of_mem _ hy)) n2 fun y hy => ha y (List.mem_cons_of_mem _ hy)
    | true =>
      obtain ⟨h4, h5⟩ := h3 q
      rw [List.filter_cons_of_pos q]
      simp only [if_true]
      rw [h4]
      simp only [R.bind]
      rw [h5]
      simp only [R.bind, keyD, R.ofO]
      have e : putD acc (.inr (κ x)) (ψ x) = acc ++ [(.inr (κ x), ψ x)] := by
        unfold putD
        rw [if_neg]
        rw [Bool.not_eq_true, ← Bool.not_eq_true, List.any_eq_true]
        rintro ⟨kv, hm, z⟩
        exact ha x List.mem_cons_self kv hm (of_decide_eq_true z)
      rw [e, dcP_map φ ψ κ E p L _ (fun y hy => h y (List.mem_cons_of_mem _ hy)) n2 fun y hy kv hkv => ?_]
      · simp
      · rcases List.mem_append.mp hkv with z | z
        · exact ha y (List.mem_cons_of_mem _ hy) kv z
        · rw [List.mem_singleton.mp z]
          intro w
          exact n1 (by rw [Sum.inr.inj w]; exact List.mem_map.mpr ⟨y, hy, rfl⟩)
theorem dcA {α : Type} {own : List (Str × Nat)} {h : Env → R (List D)} {g : D → Env → R Env} {c : Env → R Bool} {fk fv : Env → R D} {r : Env} (L : List α) (φ ψ : α → D) (κ : α → Str) (p : α → Bool) (E : α → Env) (hn : noOwn (own.map (·.2)) r = true) (hi : h r = .ok (L.map φ)) (hl : L.length ≤ 1000000) (hk : (L.map κ).Nodup)
    (he : ∀ x ∈ L, g (φ x) (wipeE r (own.map (·.2))) = .ok (E x) ∧ c (E x) = .ok (p x) ∧ (p x = true → fk (E x) = .ok (.str (κ x)) ∧ fv (E x) = .ok (ψ x))) : dcD own h g c fk fv r = .ok (.dct ((L.filter p).map fun x => (.inr (κ x), ψ x))) := by
  unfold dcD
  rw [if_pos hn, hi]
  simp only [R.bind]
  rw [if_pos (by rw [List.length_map, sizeLine_eq]; omega), dcP_map φ ψ κ E p L [] he hk (fun x _ kv h => by cases h)]
  rfl
theorem sg_inj {a b : Nat} (h : sg a = sg b) : a = b := by
  have := congrArg (fun s : Str => s.cps.toList) h
  simpa using this
theorem any_kvI (m : List (Nat × Nat)) (c : Nat) : ((kvI m).any fun kv => decide (kv.1 = .inr (sg c))) = m.any fun p => decide (p.1 = c) := by
  unfold kvI
  rw [List.any_map]
  congr 1
  funext p
  show decide ((Sum.inr (sg p.1) : Key) = Sum.inr (sg c)) = decide (p.1 = c)
  rw [Bool.eq_iff_iff, decide_eq_true_eq, decide_eq_true_eq]
  exact ⟨fun h => sg_inj (Sum.inr.inj h), fun h => by rw [h]⟩
theorem put_kvI (m : List (Nat × Nat)) (c v : Nat) : putD (kvI m) (.inr (sg c)) (.int (v : Nat)) = kvI (putI m c v) := by
  unfold putD putI
  rw [any_kvI]
  split
  · unfold kvI
    rw [List.map_map, List.map_map]
    apply List.map_congr_left
    intro p _
    show (if (Sum.inr (sg p.1) : Key) = Sum.inr (sg c) then _ else _) = _
    by_cases z : p.1 = c
    · simp only [Function.comp, z, if_true]
    · simp only [Function.comp, if_neg z]
      rw [if_neg fun w => z (sg_inj (Sum.inr.inj w))]
  · unfold kvI
    rw [List.map_append]
    rfl
theorem get_kvI : ∀ (m : List (Nat × Nat)) (d : Nat), getD_ (kvI m) (.inr (sg d)) = (m.lookup d).map fun v => .int (v : Nat)
  | [], d => rfl
  | p :: m, d => by
    have ih := get_kvI m d
    unfold getD_ kvI at ih ⊢
    rw [List.map_cons, List.find?_cons, List.lookup_cons]
    by_cases z : p.1 = d
    · have e1 : decide ((Sum.inr (sg p.1) : Key) = Sum.inr (sg d)) = true := decide_eq_true (by rw [z])
      have e2 : (d == p.1) = true := by rw [z]; exact beq_self_eq_true d
      simp only [e1, e2]
      rfl
    · have e1 : decide ((Sum.inr (sg p.1) : Key) = Sum.inr (sg d)) = false := decide_eq_false fun w => z (sg_inj (Sum.inr.inj w))
      have e2 : (d == p.1) = false := by simpa using Ne.symm z
      simp only [e1, e2]
      exact ih
theorem putI_keys (m : List (Nat × Nat)) (c v : Nat) (hn : (m.map (·.1)).Nodup) : ((putI m c v).map (·.1)).Nodup ∧ (∀ k, k ∈ (putI m c v).map (·.1) ↔ k ∈ m.map (·.1) ∨ k = c) ∧ (putI m c v).length ≤ m.length + 1 := by
  unfold putI
  by_cases z : (m.any fun p => decide (p.1 = c)) = true
  · rw [if_pos z]
    have e : (m.map fun p => if p.1 = c then (p.1, v) else p).map (·.1) = m.map (·.1) := by
      rw [List.map_map]
      apply List.map_congr_left
      intro p _
      show (if p.1 = c then (p.1, v) else p).1 = p.1
      split <;> rfl
    obtain ⟨p, hp, e2⟩ := List.any_eq_true.mp z
    have e2 := of_decide_eq_true e2
    rw [e]
    exact ⟨hn, fun k => ⟨.inl, fun h => h.elim id fun w => by rw [w, ← e2]; exact List.mem_map.mpr ⟨p, hp, rfl⟩⟩, by rw [List.length_map]; omega⟩
  · rw [if_neg z]
    have nm : c ∉ m.map (·.1) := fun w => z (by
      obtain ⟨p, hp, e⟩ := List.mem_map.mp w
      exact List.any_eq_true.mpr ⟨p, hp, decide_eq_true e⟩)
    rw [List.map_append]
    refine ⟨List.nodup_append.mpr ⟨hn, by simp, fun a ha b hb w => nm ?_⟩, fun k => by rw [List.mem_append]; simp, by rw [List.length_append, List.length_singleton]; omega⟩
    have : b = c := by simpa using hb
    rw [← this, ← w]
    exact ha
theorem ogM_ok {F : List Nat} (hF : ∀ c ∈ F, 97 ≤ c ∧ c ≤ 104) : ∀ (i : Nat) (c : Nat), ((ogM F i c).map (·.1)).Nodup ∧ (∀ k ∈ (ogM F i c).map (·.1), 97 ≤ k ∧ k ≤ 104) ∧ (ogM F i c).length ≤ i
  | 0, c => ⟨List.nodup_nil, by intro k h; exact absurd h (List.not_mem_nil), Nat.le_refl _⟩
  | i + 1, c => by
    obtain ⟨h1, h2, h3⟩ := ogM_ok hF i c
    have e : ogM F (i + 1) c = if c = F.getD (F.length - 1 - i) 0 ∧ F.length - 1 - i + 1 < F.length then putI (ogM F i c) (F.getD (F.length - 1 - i + 1) 0) (F.length - 1 - i + 2) else ogM F i c := rfl
    rw [e]
    split
    · rename_i z
      obtain ⟨p1, p2, p3⟩ := putI_keys (ogM F i c) (F.getD (F.length - 1 - i + 1) 0) (F.length - 1 - i + 2) h1
      refine ⟨p1, fun k hk => ?_, by omega⟩
      rcases (p2 k).mp hk with w | w
      · exact h2 k w
      · rw [w, List.getD_eq_getElem?_getD, List.getElem?_eq_getElem z.2]
        exact hF _ (List.getElem_mem _)
    · exact ⟨h1, h2, by omega⟩
theorem og_hix (F : List Nat) (B : Addr) (rows : List D) (p c0 : Nat) (ok : okF F = true) (h : F[p]? = some c0) : bin ixD (gAny 0) (gAny 3) [.sh (.str ⟨F.toArray⟩), .sh (.ref B), .own (.lst rows), .sh (.int (p : Nat)), .un, .un] = .ok (.str (sg c0)) := by
  have hl : F.length ≤ 200 := of_decide_eq_true (Bool.and_eq_true_iff.mp (Bool.and_eq_true_iff.mp ok).2).1
  show bin ixD (gAny 0) (gAny 3) [.sh (tx F), .sh (.ref B), .own (.lst rows), .sh (ni p), .un, .un] = .ok (tx [c0])
  wide_open with ((), h)
theorem og_hitems (F : List Nat) (B : Addr) (ok : okF F = true) : itX (rvR (.int 0)) (appN lenD (aCons (gAny 0) aNil)) [.sh (.str ⟨F.toArray⟩), .sh (.ref B), .own (.lst []), .un, .un, .un] = .ok ((List.range F.length).map fun i => D.int ((F.length - 1 - i : Nat) : Int)) := by
  have hl : F.length ≤ 200 := of_decide_eq_true (Bool.and_eq_true_iff.mp (Bool.and_eq_true_iff.mp ok).2).1
  have e : rvR (.int 0) (.int (F.length : Nat)) = some ((List.range F.length).map fun i => D.int ((F.length - 1 - i : Nat) : Int)) := by
    unfold rvR
    simp only
    rw [if_pos (by omega)]
    congr 1
    have : ((F.length : Int) - 0).toNat = F.length := by omega
    rw [this]
    apply List.ext_getElem?
    intro i
    by_cases hi : i < F.length
    · rw [List.getElem?_reverse (by rw [rngL_length]; exact hi), rngL_length]
      unfold rngL
      rw [List.getElem?_map, List.getElem?_map, List.getElem?_range hi, List.getElem?_range (by omega)]
      simp
    · rw [List.getElem?_eq_none (by rw [List.length_reverse, rngL_length]; omega), List.getElem?_eq_none (by rw [List.length_map, List.length_range]; omega)]
  show itX (rvR (.int 0)) (appN lenD (aCons (gAny 0) aNil)) [.sh (tx F), .sh (.ref B), .own (.lst []), .un, .un, .un] = _
  wide_open with ((), e)
theorem row_ev {F : List Nat} (B : Addr) (rows : List D) (p : Nat) (m : List (Nat × Nat)) (hn : (m.map (·.1)).Nodup) (hk : ∀ k ∈ m.map (·.1), 97 ≤ k ∧ k ≤ 104) :
    dcD [("letter", 5)] (itX zD (appN srtKD (aCons (gAny 4) aNil))) (gSet 5) yesB (gSh 5) (bin dgetD (gAny 4) (gAny 5)) [.sh (tx F), .sh (.ref B), .own (.lst rows), .sh (ni p), .io (.dct (kvI m)), .un] = .ok (.dct ((abc8.filter fun d => decide (d ∈ m.map (·.1))).map fun d => ((.inr (sg d) : Key), ni ((m.lookup d).getD 0)))) := by
  have e1 : strKs (kvI m) = some ((m.map (·.1)).map fun c => mkS [c]) := by
    clear hn hk
    induction m with
    | nil => rfl
    | cons q m ih =>
      show (strKs (kvI m)).map _ = _
      rw [ih]
      rfl
  have pm : (abc8.filter fun d => decide (d ∈ m.map (·.1))).Perm (m.map (·.1)) := by
    refine (List.perm_ext_iff_of_nodup (List.Pairwise.filter _ (by decide)) hn).mpr fun k => ?_
    rw [List.mem_filter, decide_eq_true_eq]
    refine ⟨fun h => h.2, fun h => ⟨?_, h⟩⟩
    have := hk k h
    have : k = 97 ∨ k = 98 ∨ k = 99 ∨ k = 100 ∨ k = 101 ∨ k = 102 ∨ k = 103 ∨ k = 104 := by omega
    rcases this with z | z | z | z | z | z | z | z <;> subst z <;> decide
  have hl : m.length ≤ 8 := by
    have h1 := pm.length_eq
    have h2 := List.length_filter_le (fun d => decide (d ∈ m.map (·.1))) abc8
    have h3 : abc8.length = 8 := rfl
    rw [List.length_map] at h1
    omega
  have e2 : sortStr ((m.map (·.1)).map fun c => mkS [c]) = (abc8.filter fun d => decide (d ∈ m.map (·.1))).map fun c => mkS [c] := sort_signs pm (List.Pairwise.filter _ (by decide))
  have e3 : srtKD [.dct (kvI m)] = some (.lst ((abc8.filter fun d => decide (d ∈ m.map (·.1))).map fun c => tx [c])) := by
    unfold srtKD kvsD
    simp only [Option.bind_some]
    rw [e1]
    simp only [Option.bind_some]
    rw [if_pos (by rw [List.length_map, List.length_map]; omega), e2, List.map_map]
    rfl
  have hi : itX zD (appN srtKD (aCons (gAny 4) aNil)) [.sh (tx F), .sh (.ref B), .own (.lst rows), .sh (ni p), .io (.dct (kvI m)), .un] = .ok ((abc8.filter fun d => decide (d ∈ m.map (·.1))).map fun c => tx [c]) := by wide_open with ((), e3)
  have nd : ((abc8.filter fun d => decide (d ∈ m.map (·.1))).map fun c => sg c).Nodup := List.Pairwise.map _ (fun a b h z => h (sg_inj z)) (List.Pairwise.filter _ (by decide : abc8.Nodup))
  have := dcA (own := [("letter", 5)]) (g := gSet 5) (c := yesB) (fk := gSh 5) (fv := bin dgetD (gAny 4) (gAny 5)) (r := [.sh (tx F), .sh (.ref B), .own (.lst rows), .sh (ni p), .io (.dct (kvI m)), .un]) (abc8.filter fun d => decide (d ∈ m.map (·.1))) (fun c => tx [c]) (fun d => ni ((m.lookup d).getD 0)) (fun c => sg c) (fun _ => true) (fun c => [.sh (tx F), .sh (.ref B), .own (.lst rows), .sh (ni p), .io (.dct (kvI m)), .sh (tx [c])]) rfl hi (by have := List.length_filter_le (fun d => decide (d ∈ m.map (·.1))) abc8; have : abc8.length = 8 := rfl; omega) nd fun d hd => ⟨rfl, rfl, fun _ => ⟨rfl, by
    have hd := of_decide_eq_true (List.mem_filter.mp hd).2
    have e4 : dgetD (.dct (kvI m)) (tx [d]) = some (ni ((m.lookup d).getD 0)) := by
      show getD_ (kvI m) (.inr (sg d)) = _
      rw [get_kvI]
      cases q : m.lookup d with
      | none =>
        obtain ⟨q2, hq, e⟩ := List.mem_map.mp hd
        have := List.lookup_eq_none_iff.mp q q2 hq
        rw [e] at this
        simp at this
      | some v => rfl
    wide_open with ((), e4)⟩⟩
  rw [this]
  have ft : ((abc8.filter fun d => decide (d ∈ m.map (·.1))).filter fun _ => true) = abc8.filter fun d => decide (d ∈ m.map (·.1)) := by simp
  rw [ft]
theorem ogR_len (F : List Nat) : ∀ i, (ogR F i).length = i
  | 0 => rfl
  | i + 1 => by
    show (ogR F i ++ [_]).length = _
    rw [List.length_append, ogR_len F i]
    rfl
theorem tz_dct (kvs : List (Key × D)) : toFz (.dct kvs) = some (.dctF kvs) := (rfl)
theorem og_hstep (F : List Nat) (B : Addr) (i : Nat) (ok : okF F = true) (hi : i < F.length) : ogF12 [.sh (.str ⟨F.toArray⟩), .sh (.ref B), .own (.lst (ogR F i)), .sh (.int ((F.length - 1 - i : Nat) : Int)), .io (.dct (kvI (ogM F i (F.getD (F.length - 1 - i) 0)))), .un] =
      .ok (.nx [.sh (.str ⟨F.toArray⟩), .sh (.ref B), .own (.lst (ogR F i ++ [rowD (ogM F (i + 1) (F.getD (F.length - 1 - i) 0))])), .sh (.int ((F.length - 1 - i : Nat) : Int)), .io (.dct (kvI (ogM F (i + 1) (F.getD (F.length - 1 - i) 0)))), .un]) := by
  obtain ⟨_, ok2⟩ := Bool.and_eq_true_iff.mp ok
  obtain ⟨hl, h8⟩ := Bool.and_eq_true_iff.mp ok2
  have hl := of_decide_eq_true hl
  have h8 : ∀ c ∈ F, 97 ≤ c ∧ c ≤ 104 := fun c hc => of_decide_eq_true (List.all_eq_true.mp h8 c hc)
  have rl := ogR_len F i
  generalize hp : F.length - 1 - i = p
  have hpl : p < F.length := by omega
  have hm : ogM F (i + 1) (F.getD p 0) = if F.getD p 0 = F.getD (F.length - 1 - i) 0 ∧ F.length - 1 - i + 1 < F.length then putI (ogM F i (F.getD p 0)) (F.getD (F.length - 1 - i + 1) 0) (F.length - 1 - i + 2) else ogM F i (F.getD p 0) := rfl
  rw [hp] at hm
  obtain ⟨n1, n2, n3⟩ := ogM_ok h8 (i + 1) (F.getD p 0)
  show ogF12 [.sh (tx F), .sh (.ref B), .own (.lst (ogR F i)), .sh (ni p), .io (.dct (kvI (ogM F i (F.getD p 0)))), .un] = .ok (.nx [.sh (tx F), .sh (.ref B), .own (.lst (ogR F i ++ [rowD (ogM F (i + 1) (F.getD p 0))])), .sh (ni p), .io (.dct (kvI (ogM F (i + 1) (F.getD p 0)))), .un])
  obtain ⟨m1, m2, m3⟩ := ogM_ok h8 i (F.getD p 0)
  have rowE := row_ev (F := F) B (ogR F i) p (ogM F (i + 1) (F.getD p 0)) n1 n2
  generalize ogM F i (F.getD p 0) = m at hm m1 m2 m3
  have kl : (kvI m).length < 1000000 := by
    have : (kvI m).length = m.length := by unfold kvI; rw [List.length_map]
    omega
  by_cases z : p + 1 < F.length
  · rw [if_pos ⟨rfl, z⟩] at hm
    rw [hm] at rowE ⊢
    have z1 : decide (((p + 1 : Nat) : Int) < (F.length : Int)) = true := decide_eq_true (by omega)
    have g1 : F[p + 1]? = some (F.getD (p + 1) 0) := by rw [List.getD_eq_getElem?_getD, List.getElem?_eq_getElem z]; rfl
    have e1 : D.int ((p : Int) + 1) = ni (p + 1) := (rfl)
    have e2 : D.int ((p : Int) + 2) = ni (p + 2) := (rfl)
    have pk := put_kvI m (F.getD (p + 1) 0) (p + 2)
    have oi : ownK' (some (.io (.dct (kvI m)))) = some (.io (.dct (kvI m)), kvI m) := (rfl)
    unfold ogF12
    wide_open with ((), z1, e1, g1, e2, oi, pk, rowE, tz_dct)
    rfl
  · rw [if_neg fun w => z w.2] at hm
    rw [hm] at rowE ⊢
    have z1 : decide ((p : Int) + 1 < (F.length : Int)) = false := decide_eq_false (by omega)
    unfold ogF12
    wide_open with ((), z1, rowE, tz_dct)
    rfl
/-- the graph -/
def ogA (F : List Nat) : List D := .dctF [(.inr (sg (F.getD 0 0)), .int 1)] :: (ogR F F.length).reverse
def ogE (F : List Nat) : List D := .bl false :: F.map fun c => .bl (decide (F.getLast? = some c))
def gr (A E : List D) : D := .obj [("arrows", .lst A), ("ends", .lst E)]
theorem og_tail {F : List Nat} (ok : okF F = true) : ∃ r, ogFt [.sh (tx F), .un, .own (.lst (ogR F F.length)), .sh (.int 0), .un, .un] = .ok (.rt (gr (ogA F) (ogE F)) r) := by
  obtain ⟨ok1, ok2⟩ := Bool.and_eq_true_iff.mp ok
  obtain ⟨hl, h8⟩ := Bool.and_eq_true_iff.mp ok2
  have hl := of_decide_eq_true hl
  have ne := of_decide_eq_true ok1
  have npos : 0 < F.length := List.length_pos_iff.mpr ne
  have h0 : F[0]? = some (F.getD 0 0) := by rw [List.getD_eq_getElem?_getD, List.getElem?_eq_getElem npos]; rfl
  obtain ⟨last, hlast⟩ : ∃ c, F.getLast? = some c := ⟨F.getLast ne, List.getLast?_eq_some_getLast ne⟩
  have rl := ogR_len F F.length
  have c := lcY (r := [.sh (tx F), .un, .sh (.lst (D.dctF [((.inr (mkS [F.getD 0 0]) : Key), D.int 1)] :: (ogR F F.length).reverse)), .sh (.int 0), .un, .un]) (own := [("letter", 5)]) (h := itX zD (gSh 0)) (g := gSet 5) (f := bin eqD (gAny 5) (bin ixD (gAny 0) (un1 negD (kc (.int 1))))) F (fun c => tx [c]) (fun c => .bl (decide (F.getLast? = some c))) (fun c => [.sh (tx F), .un, .sh (.lst (D.dctF [((.inr (mkS [F.getD 0 0]) : Key), D.int 1)] :: (ogR F F.length).reverse)), .sh (.int 0), .un, .sh (tx [c])]) rfl (by wide_open with ((), DL.eq_non)) (by omega) (fun _ => rfl) fun c hc => by
    have e : decide (c = last) = decide (some last = some c) := by
      rw [Bool.eq_iff_iff, decide_eq_true_eq, decide_eq_true_eq]
      exact ⟨fun h => by rw [h], fun h => (Option.some.inj h).symm⟩
    wide_open with ((), hlast)
    rw [e]
  have rv : (ogR F F.length ++ [D.dctF [((.inr (mkS [F.getD 0 0]) : Key), D.int 1)]]).reverse = D.dctF [((.inr (mkS [F.getD 0 0]) : Key), D.int 1)] :: (ogR F F.length).reverse := by rw [List.reverse_append]; rfl
  have mk : ∀ a b : D, mkG "arrows" "ends" [a, b] = .ok (.obj [("arrows", a), ("ends", b)]) := fun _ _ => (rfl)
  have fl : flatD (.int 1) = true := rfl
  refine ⟨[.sh (tx F), .un, .sh (.lst (D.dctF [((.inr (mkS [F.getD 0 0]) : Key), D.int 1)] :: (ogR F F.length).reverse)), .sh (.int 0), .un, .un], ?_⟩
  unfold ogFt
  wide_open with ((), h0, fl, tz_dct, rv, c, mk)
  rfl
/-- what the def gives -/
theorem og_fn {F : List Nat} (ok : okF F = true) : fnD 6 1 (bOg ogFt) [tx F] = .ok (gr (ogA F) (ogE F)) := by
  obtain ⟨r, e⟩ := og_tail ok
  refine fnD_rt (r1 := r) rfl (show bOg ogFt [.sh (tx F), .un, .un, .un, .un, .un] = _ from ?_)
  show (if okF F = true then _ else _) = _
  rw [if_pos ok]
  exact e
end DL

end
section
namespace PT
/-! ### letters by their first places -/
def ods : List Nat → List Nat → List Nat
  | o, [] => o
  | o, c :: l => ods (if c ∈ o then o else o ++ [c]) l
abbrev od (f : List Nat) : List Nat := ods [] f
theorem kd_le (f : List Nat) : (kd f).length ≤ 8 := by
  unfold kd
  have := List.length_filter_le (fun c => decide (c ∈ f)) L8
  simpa using this
def ix (o : List Nat) (c : Nat) : Nat := (pl o c 0).head?.getD 0
def pln (f : List Nat) : List Nat := f.map fun c => 97 + ix (od f) c
end PT

end
section
namespace PT
/-! ### words of a graph without rings -/
def wds (R : List (List (Nat × Nat))) (E : List Bool) : Nat → Nat → List (List Nat)
  | 0, _ => []
  | f + 1, v => (if E.getD v false = true then [[]] else []) ++ ((R.getD v []).flatMap fun p => (wds R E f p.2).map fun l => p.1 :: l)
def Up (R : List (List (Nat × Nat))) : Prop := ∀ v, ∀ p ∈ R.getD v [], v < p.2 ∧ p.2 < R.length
def wd (R : List (List (Nat × Nat))) (E : List Bool) (v : Nat) : List (List Nat) := wds R E (R.length - v) v
theorem flat_congr {α β : Type} {f g : α → List β} : ∀ {l : List α}, (∀ a ∈ l, f a = g a) → l.flatMap f = l.flatMap g
  | [], _ => rfl
  | a :: l, h => by rw [List.flatMap_cons, List.flatMap_cons, h a List.mem_cons_self, flat_congr fun b hb => h b (List.mem_cons_of_mem _ hb)]
theorem wds_fuel {R : List (List (Nat × Nat))} {E : List Bool} (h : Up R) : ∀ (n v : Nat), R.length - v ≤ n → v < R.length → ∀ f g, R.length - v ≤ f → R.length - v ≤ g → wds R E f v = wds R E g v := by
  intro n
  induction n with
  | zero => intro v h1 h2; omega
  | succ n ih =>
    intro v h1 h2 f g hf hg
    obtain ⟨f, rfl⟩ : ∃ k, f = k + 1 := ⟨f - 1, by omega⟩
    obtain ⟨g, rfl⟩ : ∃ k, g = k + 1 := ⟨g - 1, by omega⟩
    unfold wds
    congr 1
    refine flat_congr fun p hp => ?_
    obtain ⟨u1, u2⟩ := h v p hp
    rw [ih p.2 (by omega) u2 f g (by omega) (by omega)]
theorem wd_eq {R : List (List (Nat × Nat))} {E : List Bool} (h : Up R) {v : Nat} (hv : v < R.length) : wd R E v = (if E.getD v false = true then [[]] else []) ++ ((R.getD v []).flatMap fun p => (wd R E p.2).map fun l => p.1 :: l) := by
  unfold wd
  obtain ⟨k, e⟩ : ∃ k, R.length - v = k + 1 := ⟨R.length - v - 1, by omega⟩
  rw [e]
  have e2 : wds R E (k + 1) v = (if E.getD v false = true then [[]] else []) ++ ((R.getD v []).flatMap fun p => (wds R E k p.2).map fun l => p.1 :: l) := rfl
  rw [e2]
  congr 1
  refine flat_congr fun p hp => ?_
  obtain ⟨u1, u2⟩ := h v p hp
  rw [wds_fuel h (R.length - p.2) p.2 (Nat.le_refl _) u2 k (R.length - p.2) (by omega) (Nat.le_refl _)]
theorem flat_len {α β : Type} {f : α → List β} : ∀ {l : List α}, (l.flatMap f).length = (l.map fun a => (f a).length).sum
  | [] => rfl
  | a :: l => by rw [List.flatMap_cons, List.length_append, flat_len, List.map_cons, List.sum_cons]
theorem wd_len {R : List (List (Nat × Nat))} {E : List Bool} (h : Up R) {v : Nat} (hv : v < R.length) : (wd R E v).length = ((R.getD v []).map fun p => (wd R E p.2).length).sum + (if E.getD v false = true then 1 else 0) := by
  rw [wd_eq h hv, List.length_append, flat_len, Nat.add_comm]
  congr 1
  · congr 1
    apply List.map_congr_left
    intro p _
    rw [List.length_map]
  · split <;> rfl
/-- the counts when the last i nodes are done -/
def csI (R : List (List (Nat × Nat))) (E : List Bool) (i : Nat) : List Nat := (List.range R.length).map fun v => if R.length - i ≤ v then (wd R E v).length else 0
theorem csI_len (R : List (List (Nat × Nat))) (E : List Bool) (i : Nat) : (csI R E i).length = R.length := by unfold csI; rw [List.length_map, List.length_range]
theorem csI_get {R : List (List (Nat × Nat))} {E : List Bool} {i v : Nat} (hv : v < R.length) : (csI R E i)[v]? = some (if R.length - i ≤ v then (wd R E v).length else 0) := by
  unfold csI
  rw [List.getElem?_map, List.getElem?_range hv]
  rfl
theorem csI_set {R : List (List (Nat × Nat))} {E : List Bool} {i : Nat} (hi : i < R.length) : (csI R E i).set (R.length - 1 - i) (wd R E (R.length - 1 - i)).length = csI R E (i + 1) := by
  apply List.ext_getElem?
  intro v
  by_cases hv : v < R.length
  · rw [csI_get hv]
    by_cases z : R.length - 1 - i = v
    · rw [z, List.getElem?_set_self (by rw [csI_len]; exact hv), if_pos (by omega)]
    · rw [List.getElem?_set_ne z, csI_get hv]
      by_cases y : R.length - i ≤ v
      · rw [if_pos y, if_pos (by omega)]
      · rw [if_neg y, if_neg (by omega)]
  · rw [List.getElem?_eq_none (by rw [List.length_set, csI_len]; omega), List.getElem?_eq_none (by rw [csI_len]; omega)]
end PT

end
section
namespace PT
/-! ### the graph of the outcomes -/
def nxl (F : List Nat) (p d : Nat) : List Nat := (List.range' p (F.length - p)).filter fun q => decide (F[q]? = F[p]? ∧ F[q + 1]? = some d)
def nx (F : List Nat) (p d : Nat) : Option Nat := (nxl F p d).head?
theorem mem_nxl {F : List Nat} {p d q : Nat} : q ∈ nxl F p d ↔ p ≤ q ∧ q + 1 < F.length ∧ F[q]? = F[p]? ∧ F[q + 1]? = some d := by
  unfold nxl
  rw [List.mem_filter, List.mem_range'_1, decide_eq_true_eq]
  constructor
  · rintro ⟨⟨h1, h2⟩, h3, h4⟩
    exact ⟨h1, (List.getElem?_eq_some_iff.mp h4).1, h3, h4⟩
  · rintro ⟨h1, h2, h3, h4⟩
    exact ⟨⟨h1, by omega⟩, h3, h4⟩
theorem nx_some {F : List Nat} {p d q : Nat} : nx F p d = some q ↔ (p ≤ q ∧ q + 1 < F.length ∧ F[q]? = F[p]? ∧ F[q + 1]? = some d) ∧ ∀ q', p ≤ q' → F[q']? = F[p]? → F[q' + 1]? = some d → q ≤ q' := by
  unfold nx
  constructor
  · intro h
    refine ⟨mem_nxl.mp (List.mem_of_head? h), fun q' h1 h2 h3 => ?_⟩
    have hm : q' ∈ nxl F p d := mem_nxl.mpr ⟨h1, (List.getElem?_eq_some_iff.mp h3).1, h2, h3⟩
    have hs : (nxl F p d).Pairwise (· < ·) := List.Pairwise.filter _ (List.pairwise_lt_range' ..)
    cases e : nxl F p d with
    | nil => rw [e] at h; cases h
    | cons a l =>
      rw [e] at h hm hs
      cases h
      rcases List.mem_cons.mp hm with z | z
      · omega
      · have := (List.pairwise_cons.mp hs).1 q' z
        omega
  · rintro ⟨h1, h2⟩
    have hm := mem_nxl.mpr h1
    have hs : (nxl F p d).Pairwise (· < ·) := List.Pairwise.filter _ (List.pairwise_lt_range' ..)
    cases e : nxl F p d with
    | nil => rw [e] at hm; cases hm
    | cons a l =>
      have ha : a ∈ nxl F p d := by rw [e]; exact List.mem_cons_self
      obtain ⟨a1, a2, a3, a4⟩ := mem_nxl.mp ha
      have := h2 a a1 a3 a4
      rw [e] at hm hs
      rcases List.mem_cons.mp hm with z | z
      · rw [z]; rfl
      · have := (List.pairwise_cons.mp hs).1 q z
        omega
theorem nx_none {F : List Nat} {p d : Nat} : nx F p d = none ↔ ∀ q', p ≤ q' → F[q']? = F[p]? → F[q' + 1]? ≠ some d := by
  unfold nx
  rw [List.head?_eq_none_iff]
  constructor
  · intro h q' h1 h2 h3
    have : q' ∈ nxl F p d := mem_nxl.mpr ⟨h1, (List.getElem?_eq_some_iff.mp h3).1, h2, h3⟩
    rw [h] at this
    cases this
  · intro h
    cases e : nxl F p d with
    | nil => rfl
    | cons a l =>
      have ha : a ∈ nxl F p d := by rw [e]; exact List.mem_cons_self
      obtain ⟨a1, a2, a3, a4⟩ := mem_nxl.mp ha
      exact absurd a4 (h a a1 a3)
def orow (F : List Nat) (p : Nat) : List (Nat × Nat) := L8.filterMap fun d => (nx F p d).map fun q => (d, q + 2)
theorem mem_orow {F : List Nat} {p : Nat} {x : Nat × Nat} : x ∈ orow F p ↔ x.1 ∈ L8 ∧ ∃ q, nx F p x.1 = some q ∧ x.2 = q + 2 := by
  unfold orow
  rw [List.mem_filterMap]
  constructor
  · rintro ⟨d, hd, e⟩
    obtain ⟨q, e1, e2⟩ := Option.map_eq_some_iff.mp e
    subst e2
    exact ⟨hd, q, e1, rfl⟩
  · rintro ⟨h1, q, h2, h3⟩
    exact ⟨x.1, h1, by rw [h2]; show some (x.1, q + 2) = some x; rw [← h3]⟩
def oR (F : List Nat) : List (List (Nat × Nat)) := [(F.getD 0 0, 1)] :: (List.range F.length).map (orow F)
def oE (F : List Nat) : List Bool := false :: F.map fun c => decide (F.getLast? = some c)
theorem oR_len (F : List Nat) : (oR F).length = F.length + 1 := by unfold oR; simp
theorem oE_len (F : List Nat) : (oE F).length = F.length + 1 := by unfold oE; simp
theorem oR_row {F : List Nat} {p : Nat} (h : p < F.length) : (oR F).getD (p + 1) [] = orow F p := by
  unfold oR
  rw [List.getD_cons_succ, List.getD_eq_getElem?_getD, List.getElem?_map, List.getElem?_range h]
  rfl
theorem oR_beyond {F : List Nat} {p : Nat} (h : F.length ≤ p) : (oR F).getD (p + 1) [] = [] := by
  unfold oR
  rw [List.getD_cons_succ, List.getD_eq_getElem?_getD, List.getElem?_eq_none (by simpa using h)]
  rfl
theorem oE_at {F : List Nat} {p c : Nat} (h : F[p]? = some c) : (oE F).getD (p + 1) false = decide (F.getLast? = some c) := by
  unfold oE
  rw [List.getD_cons_succ, List.getD_eq_getElem?_getD, List.getElem?_map, h]
  rfl
theorem oR_up {F : List Nat} (hF : F ≠ []) : Up (oR F) := by
  intro v p hp
  rw [oR_len]
  cases v with
  | zero =>
    have : p = (F.getD 0 0, 1) := by
      have h : p ∈ [(F.getD 0 0, 1)] := hp
      simpa using h
    rw [this]
    have := List.length_pos_iff.mpr hF
    exact ⟨Nat.one_pos, by show 1 < _; omega⟩
  | succ p0 =>
    by_cases h : p0 < F.length
    · rw [oR_row h] at hp
      obtain ⟨_, q, e1, e2⟩ := mem_orow.mp hp
      obtain ⟨⟨a1, a2, _⟩, _⟩ := nx_some.mp e1
      rw [e2]
      omega
    · rw [oR_beyond (by omega)] at hp
      cases hp
theorem oR_short {F : List Nat} (v : Nat) : ((oR F).getD v []).length ≤ 1000 := by
  cases v with
  | zero => show (([(F.getD 0 0, 1)] : List (Nat × Nat))).length ≤ 1000; simp
  | succ p =>
    by_cases h : p < F.length
    · rw [oR_row h]
      have := List.length_filterMap_le (fun d => (nx F p d).map fun q => (d, q + 2)) L8
      have e : L8.length = 8 := rfl
      unfold orow
      omega
    · rw [oR_beyond (by omega)]
      exact Nat.zero_le _
theorem mem_wd {R : List (List (Nat × Nat))} {E : List Bool} (h : Up R) {v : Nat} (hv : v < R.length) {u : List Nat} : u ∈ wd R E v ↔ (E.getD v false = true ∧ u = []) ∨ ∃ p ∈ R.getD v [], ∃ l ∈ wd R E p.2, u = p.1 :: l := by
  rw [wd_eq h hv, List.mem_append]
  constructor
  · rintro (z | z)
    · by_cases q : E.getD v false = true
      · rw [if_pos q] at z
        exact .inl ⟨q, by simpa using z⟩
      · rw [if_neg q] at z
        cases z
    · obtain ⟨p, hp, z⟩ := List.mem_flatMap.mp z
      obtain ⟨l, hl, z⟩ := List.mem_map.mp z
      exact .inr ⟨p, hp, l, hl, z.symm⟩
  · rintro (⟨q, z⟩ | ⟨p, hp, l, hl, z⟩)
    · rw [if_pos q, z]
      exact .inl (by simp)
    · exact .inr (List.mem_flatMap.mpr ⟨p, hp, List.mem_map.mpr ⟨l, hl, z.symm⟩⟩)
/-- how a word goes on behind a block's first start -/
def Cont (F : List Nat) : Nat → List Nat → Prop
  | p, [] => F[p]? = F.getLast?
  | p, d :: u => ∃ q, nx F p d = some q ∧ Cont F (q + 1) u
theorem wd_cont {F : List Nat} (hF : F ≠ []) (h8 : ∀ c ∈ F, c ∈ L8) : ∀ (u : List Nat) (p : Nat), p < F.length → (u ∈ wd (oR F) (oE F) (p + 1) ↔ Cont F p u)
  | [], p, hp => by
    have e : F[p]? = some F[p] := List.getElem?_eq_getElem hp
    rw [mem_wd (oR_up hF) (by rw [oR_len]; omega), oE_at e, decide_eq_true_eq]
    show _ ↔ F[p]? = F.getLast?
    rw [e]
    constructor
    · rintro (⟨z, _⟩ | ⟨_, _, _, _, z⟩)
      · exact z.symm
      · cases z
    · intro z
      exact .inl ⟨z.symm, rfl⟩
  | d :: u, p, hp => by
    rw [mem_wd (oR_up hF) (by rw [oR_len]; omega), oR_row hp]
    constructor
    · rintro (⟨_, z⟩ | ⟨x, hx, l, hl, z⟩)
      · cases z
      · obtain ⟨x1, q, e1, e2⟩ := mem_orow.mp hx
        obtain ⟨⟨a1, a2, _⟩, _⟩ := nx_some.mp e1
        cases z
        rw [e2] at hl
        exact ⟨q, e1, (wd_cont hF h8 _ (q + 1) a2).mp hl⟩
    · rintro ⟨q, e1, hc⟩
      obtain ⟨⟨a1, a2, a3, a4⟩, _⟩ := nx_some.mp e1
      exact .inr ⟨(d, q + 2), mem_orow.mpr ⟨h8 d (List.mem_of_getElem? a4), q, e1, rfl⟩, u, (wd_cont hF h8 u (q + 1) a2).mpr hc, rfl⟩
theorem W_last {F g : List Nat} (hg : g ≠ []) : 0 < W g F ↔ F.getLast? = g.getLast? ∧ ∃ s, S F g (g.length - 1) s := by
  obtain ⟨g', c, rfl⟩ : ∃ g' c, g = g' ++ [c] := ⟨g.dropLast, g.getLast hg, (List.dropLast_concat_getLast hg).symm⟩
  have e1 : (g' ++ [c]).length - 1 = g'.length := by simp
  have e2 : (g' ++ [c])[g'.length]? = some c := by simp
  have e3 : (g' ++ [c]).take g'.length = g' := by simp
  have e4 : (g' ++ [c]).getLast? = some c := by simp
  rw [W_snoc, e1, e4]
  unfold S
  rw [e2, e3]
  constructor
  · rintro ⟨k, h1, h2, h3, h4⟩
    have hk : k < F.length := by
      by_cases z : k < F.length
      · exact z
      · rw [List.drop_of_length_le (by omega)] at h3
        cases h3
    refine ⟨?_, k, by simp, ?_, h2⟩
    · rw [List.getLast?_drop, if_neg (by omega)] at h4
      exact h4
    · rw [List.head?_drop] at h3
      exact h3
  · rintro ⟨h1, s, _, h3, h4⟩
    have hs := (List.getElem?_eq_some_iff.mp h3).1
    refine ⟨s, by omega, h4, by rw [List.head?_drop]; exact h3, ?_⟩
    rw [List.getLast?_drop, if_neg (by omega)]
    exact h1
theorem cont_W {F g : List Nat} : ∀ (u : List Nat) (i p : Nat), Lst F g i p → g.drop (i + 1) = u → (Cont F p u ↔ F.getLast? = g.getLast? ∧ ∃ s, S F g (g.length - 1) s)
  | [], i, p, hL, hu => by
    obtain ⟨h1, h2⟩ := hL
    obtain ⟨a1, a2, a3⟩ := id h1
    have hi : i = g.length - 1 := by
      have := congrArg List.length hu
      rw [List.length_drop, List.length_nil] at this
      omega
    have gl : g.getLast? = g[i]? := by rw [List.getLast?_eq_getElem?, hi]
    show F[p]? = F.getLast? ↔ _
    rw [gl, ← a2]
    exact ⟨fun z => ⟨z.symm, p, by rw [← hi]; exact h1⟩, fun z => z.1.symm⟩
  | d :: u, i, p, hL, hu => by
    have hi : i + 1 < g.length := by
      have := congrArg List.length hu
      rw [List.length_drop, List.length_cons] at this
      omega
    have gd : g[i + 1]? = some d := by
      have := congrArg (fun l : List Nat => l[0]?) hu
      simpa using this
    have hu2 : g.drop (i + 1 + 1) = u := by
      have := congrArg (fun l : List Nat => l.drop 1) hu
      simpa using this
    have fp : F[p]? = g[i]? := hL.1.2.1
    have step : ∀ q, nx F p d = some q → Lst F g (i + 1) (q + 1) := fun q e => by
      obtain ⟨⟨a1, a2, a3, a4⟩, a5⟩ := nx_some.mp e
      refine ⟨(S_from hL).mpr ⟨a1, hi, by rw [a3, fp], by rw [a4, gd]⟩, fun s' hs' => ?_⟩
      obtain ⟨p', e1, _⟩ := S_succ.mp hs'
      subst e1
      obtain ⟨b1, _, b3, b4⟩ := (S_from hL).mp hs'
      have := a5 p' b1 (by rw [b3, fp]) (by rw [b4, gd])
      omega
    constructor
    · rintro ⟨q, e, hc⟩
      exact (cont_W u (i + 1) (q + 1) (step q e) hu2).mp hc
    · rintro ⟨h1, s, hs⟩
      obtain ⟨s', hs'⟩ := S_down hs (i + 1) (by omega)
      obtain ⟨p', e1, _⟩ := S_succ.mp hs'
      subst e1
      obtain ⟨b1, _, b3, b4⟩ := (S_from hL).mp hs'
      cases e : nx F p d with
      | none => exact absurd (by rw [b4, gd]) (nx_none.mp e p' b1 (by rw [b3, fp]))
      | some q => exact ⟨q, e, (cont_W u (i + 1) (q + 1) (step q e) hu2).mpr ⟨h1, s, hs⟩⟩
/-- its words are the outcomes -/
theorem wd_W {F : List Nat} (hF : F ≠ []) (h8 : ∀ c ∈ F, c ∈ L8) (g : List Nat) : g ∈ wd (oR F) (oE F) 0 ↔ 0 < W g F := by
  have npos := List.length_pos_iff.mpr hF
  have f0 : F[0]? = some (F.getD 0 0) := by rw [List.getD_eq_getElem?_getD, List.getElem?_eq_getElem npos]; rfl
  rw [mem_wd (oR_up hF) (by rw [oR_len]; omega)]
  cases g with
  | nil =>
    have : ¬ 0 < W [] F := by
      show ¬ 0 < (if F = [] then 1 else 0)
      rw [if_neg hF]
      omega
    constructor
    · rintro (⟨z, _⟩ | ⟨_, _, _, _, z⟩)
      · cases z
      · cases z
    · intro z
      exact absurd z this
  | cons c u =>
    rw [W_last (by simp)]
    constructor
    · rintro (⟨_, z⟩ | ⟨x, hx, l, hl, z⟩)
      · cases z
      · have ex : x = (F.getD 0 0, 1) := by
          have h : x ∈ [(F.getD 0 0, 1)] := hx
          simpa using h
        subst ex
        cases z
        have hL : Lst F (F.getD 0 0 :: u) 0 0 := ⟨(S_zero hF).mpr ⟨rfl, by simp, by rw [f0]; rfl⟩, fun _ _ => Nat.zero_le _⟩
        exact (cont_W u 0 0 hL rfl).mp ((wd_cont hF h8 u 0 npos).mp hl)
    · rintro ⟨h1, s, hs⟩
      obtain ⟨s', hs'⟩ := S_down hs 0 (Nat.zero_le _)
      obtain ⟨_, _, e⟩ := (S_zero hF).mp hs'
      have ec : c = F.getD 0 0 := by
        rw [f0] at e
        exact (Option.some.inj e).symm
      have hL : Lst F (c :: u) 0 0 := ⟨(S_zero hF).mpr ⟨rfl, by simp, e⟩, fun _ _ => Nat.zero_le _⟩
      refine .inr ⟨(F.getD 0 0, 1), List.mem_cons_self, u, (wd_cont hF h8 u 0 npos).mpr ((cont_W u 0 0 hL rfl).mpr ⟨h1, s, hs⟩), by rw [ec]⟩
end PT

end
section
namespace PT
def Dis (R : List (List (Nat × Nat))) : Prop := ∀ v, ((R.getD v []).map (·.1)).Nodup
theorem flat_nodup {f : Nat × Nat → List (List Nat)} : ∀ {L : List (Nat × Nat)}, (L.map (·.1)).Nodup → (∀ p ∈ L, (f p).Nodup) → (L.flatMap fun p => (f p).map fun l => p.1 :: l).Nodup
  | [], _, _ => List.nodup_nil
  | p :: L, hn, hf => by
    rw [List.map_cons] at hn
    obtain ⟨n1, n2⟩ := List.nodup_cons.mp hn
    rw [List.flatMap_cons]
    refine List.nodup_append.mpr ⟨List.Pairwise.map _ (fun a b h z => h (List.cons.inj z).2) (hf p List.mem_cons_self), flat_nodup n2 fun q hq => hf q (List.mem_cons_of_mem _ hq), fun a ha b hb z => ?_⟩
    obtain ⟨l, _, e1⟩ := List.mem_map.mp ha
    obtain ⟨q, hq, hb⟩ := List.mem_flatMap.mp hb
    obtain ⟨l', _, e2⟩ := List.mem_map.mp hb
    rw [← e1, ← e2] at z
    exact n1 (List.mem_map.mpr ⟨q, hq, (List.cons.inj z).1.symm⟩)
theorem wds_nodup {R : List (List (Nat × Nat))} {E : List Bool} (h : Dis R) : ∀ (f v : Nat), (wds R E f v).Nodup
  | 0, v => List.nodup_nil
  | f + 1, v => by
    unfold wds
    refine List.nodup_append.mpr ⟨by split <;> simp, flat_nodup (f := fun p => wds R E f p.2) (h v) fun p _ => wds_nodup h f p.2, fun a ha b hb z => ?_⟩
    obtain ⟨q, _, hb⟩ := List.mem_flatMap.mp hb
    obtain ⟨l, _, e⟩ := List.mem_map.mp hb
    split at ha
    · rw [List.mem_singleton.mp ha, ← e] at z
      cases z
    · cases ha
theorem orow_fst (F : List Nat) (p : Nat) : ((orow F p).map (·.1)).Sublist L8 := by
  unfold orow
  rw [List.map_filterMap]
  have : ∀ L : List Nat, (L.filterMap fun d => ((nx F p d).map fun q => (d, q + 2)).map fun x : Nat × Nat => x.1).Sublist L := by
    intro L
    induction L with
    | nil => exact List.Sublist.refl _
    | cons d L ih =>
      rw [List.filterMap_cons]
      cases nx F p d with
      | none => exact List.Sublist.cons _ ih
      | some q => exact List.Sublist.cons_cons _ ih
  exact this L8
theorem oR_dis {F : List Nat} : Dis (oR F) := fun v => by
  cases v with
  | zero => show (([(F.getD 0 0, 1)] : List (Nat × Nat)).map (·.1)).Nodup; simp
  | succ p =>
    by_cases h : p < F.length
    · rw [oR_row h]
      exact (orow_fst F p).nodup L8_nodup
    · rw [oR_beyond (by omega)]
      exact List.nodup_nil
/-- the outcomes, by the alphabet -/
def ocs (F : List Nat) : List (List Nat) := wd (oR F) (oE F) 0
theorem ocs_nodup (F : List Nat) : (ocs F).Nodup := wds_nodup oR_dis _ _
/-! the dict of dicts, by letters -/
theorem filter_map_opt {α : Type} {o : α → Option Nat} : ∀ L : List α, (L.filter fun d => (o d).isSome).map (fun d => (d, (o d).getD 0)) = L.filterMap fun d => (o d).map fun v => (d, v)
  | [] => rfl
  | d :: L => by
    have ih := filter_map_opt (o := o) L
    rw [List.filterMap_cons]
    cases q : o d with
    | none =>
      rw [List.filter_cons_of_neg (by rw [q]; decide)]
      exact ih
    | some v =>
      rw [List.filter_cons_of_pos (by rw [q]; rfl), List.map_cons, q, ih]
      rfl
end PT

end
section
namespace DL
open PySem L2 PT
theorem lookup_putI : ∀ (m : List (Nat × Nat)) (c v d : Nat), (putI m c v).lookup d = if d = c then some v else m.lookup d := by
  intro m c v d
  unfold putI
  by_cases z : (m.any fun p => decide (p.1 = c)) = true
  · rw [if_pos z]
    have key : ∀ m : List (Nat × Nat), (m.map fun p => if p.1 = c then (p.1, v) else p).lookup d = if d = c then (m.lookup d).map fun _ => v else m.lookup d := by
      intro m
      induction m with
      | nil => simp
      | cons p m ih =>
        rw [List.map_cons, List.lookup_cons, List.lookup_cons, ih]
        by_cases a : p.1 = c
        · rw [if_pos a]
          by_cases b : d = p.1
          · have b' : (d == p.1) = true := by simpa using b
            simp only [b']
            rw [if_pos (by rw [b, a])]
            rfl
          · have b' : (d == p.1) = false := by simpa using b
            simp only [b']
        · rw [if_neg a]
          by_cases b : d = p.1
          · have b' : (d == p.1) = true := by simpa using b
            simp only [b']
            rw [if_neg (by rw [b]; exact a)]
          · have b' : (d == p.1) = false := by simpa using b
            simp only [b']
    rw [key]
    by_cases w : d = c
    · rw [if_pos w, if_pos w]
      obtain ⟨p, hp, e⟩ := List.any_eq_true.mp z
      have e := of_decide_eq_true e
      cases q : m.lookup d with
      | some x => rfl
      | none =>
        have := List.lookup_eq_none_iff.mp q p hp
        rw [e, ← w] at this
        simp at this
    · rw [if_neg w, if_neg w]
  · rw [if_neg z, List.lookup_append]
    by_cases w : d = c
    · rw [if_pos w]
      have : m.lookup d = none := List.lookup_eq_none_iff.mpr fun p hp => by
        have : ¬ p.1 = c := fun y => z (List.any_eq_true.mpr ⟨p, hp, decide_eq_true y⟩)
        rw [w]
        simpa using Ne.symm this
      rw [this, w]
      simp
    · rw [if_neg w]
      have : ([(c, v)] : List (Nat × Nat)).lookup d = none := by
        rw [List.lookup_cons]
        have : (d == c) = false := by simpa using w
        rw [this]
        rfl
      rw [this, Option.or_none]
theorem ogM_lookup (F : List Nat) (c d : Nat) : ∀ i, i ≤ F.length → (ogM F i c).lookup d = ((List.range' (F.length - i) i).filter fun q => decide (F[q]? = some c ∧ F[q + 1]? = some d)).head?.map (· + 2)
  | 0, _ => rfl
  | i + 1, h => by
    have ih := ogM_lookup F c d i (by omega)
    generalize hp : F.length - (i + 1) = p
    have e1 : F.length - 1 - i = p := by omega
    have e2 : F.length - i = p + 1 := by omega
    rw [e2] at ih
    have hm : ogM F (i + 1) c = if c = F.getD (F.length - 1 - i) 0 ∧ F.length - 1 - i + 1 < F.length then putI (ogM F i c) (F.getD (F.length - 1 - i + 1) 0) (F.length - 1 - i + 2) else ogM F i c := rfl
    rw [e1] at hm
    rw [hm, List.range'_succ]
    have gp : F[p]? = some (F.getD p 0) := by rw [List.getD_eq_getElem?_getD, List.getElem?_eq_getElem (by omega)]; rfl
    by_cases z : c = F.getD p 0 ∧ p + 1 < F.length
    · have gp1 : F[p + 1]? = some (F.getD (p + 1) 0) := by rw [List.getD_eq_getElem?_getD, List.getElem?_eq_getElem z.2]; rfl
      rw [if_pos z, lookup_putI]
      by_cases w : d = F.getD (p + 1) 0
      · rw [if_pos w]
        have fc : (p :: List.range' (p + 1) i).filter (fun q => decide (F[q]? = some c ∧ F[q + 1]? = some d)) = p :: (List.range' (p + 1) i).filter fun q => decide (F[q]? = some c ∧ F[q + 1]? = some d) := List.filter_cons_of_pos (p := fun q => decide (F[q]? = some c ∧ F[q + 1]? = some d)) (decide_eq_true ⟨by rw [gp, z.1], by rw [gp1, w]⟩)
        rw [fc]
        rfl
      · rw [if_neg w]
        have fc : (p :: List.range' (p + 1) i).filter (fun q => decide (F[q]? = some c ∧ F[q + 1]? = some d)) = (List.range' (p + 1) i).filter fun q => decide (F[q]? = some c ∧ F[q + 1]? = some d) := List.filter_cons_of_neg (p := fun q => decide (F[q]? = some c ∧ F[q + 1]? = some d)) (by
          rw [decide_eq_true_eq]
          rintro ⟨_, y⟩
          rw [gp1] at y
          exact w (Option.some.inj y).symm)
        rw [fc]
        exact ih
    · rw [if_neg z]
      have fc : (p :: List.range' (p + 1) i).filter (fun q => decide (F[q]? = some c ∧ F[q + 1]? = some d)) = (List.range' (p + 1) i).filter fun q => decide (F[q]? = some c ∧ F[q + 1]? = some d) := List.filter_cons_of_neg (p := fun q => decide (F[q]? = some c ∧ F[q + 1]? = some d)) (by
        rw [decide_eq_true_eq]
        rintro ⟨y1, y2⟩
        rw [gp] at y1
        exact z ⟨(Option.some.inj y1).symm, (List.getElem?_eq_some_iff.mp y2).1⟩)
      rw [fc]
      exact ih
def rwX (r : List (Nat × Nat)) : D := .dctF (r.map fun p => ((.inr (mkS [p.1]) : Key), ni p.2))
theorem row_orow {F : List Nat} {p : Nat} (hp : p < F.length) : rowD (ogM F (F.length - p) (F.getD p 0)) = rwX (orow F p) := by
  have gp : F[p]? = some (F.getD p 0) := by rw [List.getD_eq_getElem?_getD, List.getElem?_eq_getElem hp]; rfl
  have lk : ∀ d, (ogM F (F.length - p) (F.getD p 0)).lookup d = (nx F p d).map (· + 2) := fun d => by
    rw [ogM_lookup F (F.getD p 0) d (F.length - p) (by omega)]
    unfold nx nxl
    rw [gp]
    have : F.length - (F.length - p) = p := by omega
    rw [this]
  have mk : ∀ d, decide (d ∈ (ogM F (F.length - p) (F.getD p 0)).map (·.1)) = ((ogM F (F.length - p) (F.getD p 0)).lookup d).isSome := fun d => by
    generalize ogM F (F.length - p) (F.getD p 0) = m
    rw [Bool.eq_iff_iff, decide_eq_true_eq]
    cases q : m.lookup d with
    | none =>
      constructor
      · intro h
        obtain ⟨x, hx, e⟩ := List.mem_map.mp h
        have := List.lookup_eq_none_iff.mp q x hx
        rw [e] at this
        simp at this
      · intro h; cases h
    | some v =>
      refine ⟨fun _ => rfl, fun _ => ?_⟩
      have key : ∀ m : List (Nat × Nat), m.lookup d = some v → d ∈ m.map (·.1) := by
        intro m
        induction m with
        | nil => intro h; cases h
        | cons x m ih =>
          intro h
          rw [List.lookup_cons] at h
          by_cases b : d = x.1
          · exact List.mem_map.mpr ⟨x, List.mem_cons_self, b.symm⟩
          · have b' : (d == x.1) = false := by simpa using b
            rw [b'] at h
            rw [List.map_cons]
            exact List.mem_cons_of_mem _ (ih h)
      exact key m q
  unfold rowD rwX
  congr 1
  have e1 : orow F p = (abc8.filter fun d => ((ogM F (F.length - p) (F.getD p 0)).lookup d).isSome).map fun d => (d, ((ogM F (F.length - p) (F.getD p 0)).lookup d).getD 0) := by
    rw [filter_map_opt]
    unfold orow
    have : L8 = abc8 := by decide
    rw [this]
    congr 1
    funext d
    rw [lk d, Option.map_map]
    rfl
  rw [e1, List.map_map]
  have e2 : (fun d => decide (d ∈ (ogM F (F.length - p) (F.getD p 0)).map (·.1))) = fun d => ((ogM F (F.length - p) (F.getD p 0)).lookup d).isSome := funext mk
  rw [e2]
  rfl
theorem ogR_eq (F : List Nat) : ∀ i, ogR F i = (List.range i).map fun j => rowD (ogM F (j + 1) (F.getD (F.length - 1 - j) 0))
  | 0 => rfl
  | i + 1 => by
    show ogR F i ++ [_] = _
    rw [ogR_eq F i, List.range_succ, List.map_append]
    rfl
theorem ogA_eq (F : List Nat) : ogA F = (oR F).map rwX := by
  unfold ogA oR
  rw [List.map_cons]
  congr 1
  rw [ogR_eq, List.map_map]
  apply List.ext_getElem?
  intro p
  by_cases hp : p < F.length
  · rw [List.getElem?_reverse (by rw [List.length_map, List.length_range]; exact hp), List.length_map, List.length_range, List.getElem?_map, List.getElem?_map, List.getElem?_range (by omega), List.getElem?_range hp]
    have e1 : F.length - 1 - p + 1 = F.length - p := by omega
    have e2 : F.length - 1 - (F.length - 1 - p) = p := by omega
    show some (rowD (ogM F (F.length - 1 - p + 1) (F.getD (F.length - 1 - (F.length - 1 - p)) 0))) = some (rwX (orow F p))
    rw [e1, e2, row_orow hp]
  · rw [List.getElem?_eq_none (by simp; omega), List.getElem?_eq_none (by simp; omega)]
theorem ogE_eq (F : List Nat) : ogE F = (oE F).map D.bl := by
  unfold ogE oE
  rw [List.map_cons, List.map_map]
  rfl
/-- the graph of the outcomes of a film -/
theorem og_graph {F : List Nat} (ok : okF F = true) : fnD 6 1 (bOg ogFt) [tx F] = .ok (gr ((oR F).map rwX) ((oE F).map D.bl)) := by
  rw [og_fn ok, ogA_eq, ogE_eq]
end DL

end
section
namespace DL
open PySem L2
/-! ### bits, three numbers, str(int), divmod -/
section
variable {X : Cx} {W : WX} {e : Expr} {pos apos : Pos} {f : Env → R D}
abbrev shrD : D → D → Option D := intOp (fun _ j => decide (0 ≤ j)) fun i j => i / 2 ^ j.toNat
abbrev shlD : D → D → Option D := intOp (fun i j => decide (0 ≤ j ∧ (Builtin.Int.intBits i : Int) + j ≤ 2 ^ 27)) fun i j => i * 2 ^ j.toNat
abbrev bandD : D → D → Option D := intOp (fun _ _ => true) fun i j => Builtin.bitAnd i j
abbrev borD : D → D → Option D := intOp (fun _ _ => true) fun i j => Builtin.bitOr i j
def bitsD : D → Option D
  | .int i => some (.int (Builtin.Int.intBits i : Nat))
  | _ => none
def strID : List D → Option D
  | [.int i] => if i.natAbs.log2 < 1920 then some (.str (toString i)) else none
  | _ => none
def divmodD : List D → Option D
  | [.int i, .int j] => if 0 < j ∧ j < 1073741824 then some (.tup [.int (i / j), .int (i % j)]) else none
  | _ => none
def mm3D (F : Int → Int → Int) : List D → Option D
  | [.int i, .int j, .int k] => some (.int (F (F i j) k))
  | _ => none
end
end DL

end
section
namespace DL
open PySem PySem.Spec PyProof.Rows L2
/-! ### list(d.values()) -/
def tLV (te : TE) : TE := fun σ H Q => te σ H fun x H1 => ∃ (d : Addr) (kvs : List (Key × V)), x = .ref d ∧ Rd H1 d (.dK kvs) ∧ ∀ p, H1 p = none → Q (.ref p) (upd H1 p (.lst (kvs.map fun kv => kv.2)))
section
variable {X : Cx} {W : WX} {e : Expr} {te : TE} {p apos cpos pos : Pos} {f : DL.Env → DL.R DL.D}
def lstVaD (d : DL.D) : Option DL.D := (kvsD d).map fun kvs => .lst (kvs.map fun kv => kv.2)
end
end DL

end
section
set_option maxHeartbeats 2000000
namespace DL
open PySem PySem.Spec PyProof.Rows L2 PySem.Froz
/-! ### sorted(set(xs)), xs a short list of ints -/
section
variable {P : Program} {w : World} {A : Around} {E : Value → Shared → Prop} {s : Shared}
set_option maxRecDepth 100000 in
end
end DL

end
section
namespace DL
open PySem PySem.Spec PyProof.Rows L2 PySem.Froz
/-- ascending, each once -/
def insI (k : Int) : List Int → List Int
  | [] => [k]
  | a :: l => if k < a then k :: a :: l else if k = a then a :: l else a :: insI k l
def ddI (ns : List Int) : List Int := ns.foldr insI []
section
variable {X : Cx}
def rSetLI (K : PySem.W.Frag) (w : World) : List V → Hp → VK → Prop := fun xs H Q => ∃ (a : Addr) (ns : List Int), xs = [.ref a] ∧ SqL K H a (ns.map V.int) ∧ ns.length < 64 ∧ ∀ (p : Addr) (c : Nat), H p = none → c ≤ ns.length → Q (.ref p) (upd H p (SetO w p (fun j => decide (j ∈ ns)) c))
end
def srtSetID (d : D) : Option D := match d with
  | .lst xs => (intsD xs).bind fun ns => if ns.length < 64 then some (.lst ((ddI ns).map D.int)) else none
  | _ => none
section
variable {X : Cx} {W : WX} {a : Expr} {p p2 pos pos2 : Pos} {fa : Env → R D}
end
end DL

end
section
set_option maxHeartbeats 2000000
namespace DL
open PySem PySem.Spec PyProof.Rows L2
/-! ### del xs[a:c] of a slot's own list -/
section
variable {prog : Program} {w : World} {A : Around} {E : Value → Shared → Prop} {s : Shared}
end
section
variable {X : Cx} {o lo hi : Expr} {to tl th : TE} {p2 tpos pos : Pos}
def tDelSl (to tl th : TE) : TS := fun D σ H => to σ H fun x H1 => tl σ H1 fun y H2 => th σ H2 fun z H3 => ∃ (l : Addr) (xs : List V) (a c : Nat), x = .ref l ∧ y = .int (a : Int) ∧ z = .int (c : Int) ∧ H3 l = some (.lst xs) ∧ a ≤ c ∧ c ≤ xs.length ∧ D.nx σ (upd H3 l (.lst (xs.take a ++ xs.drop c)))
end
def delSl (i : Nat) (fl fh : Env → R D) : Env → R Fl := fun r => (R.ofO (ownL r i)).bind fun s => (fl r).bind fun x => (R.ofO (asN x)).bind fun a => (fh r).bind fun y => (R.ofO (asN y)).bind fun c => if a ≤ c ∧ c ≤ s.2.length then .ok (.nx (r.set i (s.1.put (.lst (s.2.take a ++ s.2.drop c))))) else .stk
section
variable {X : Cx} {W : WX} {lo hi : Expr} {x : Str} {p p2 tpos pos : Pos} {fl fh : Env → R D}
end
end DL

end
section
set_option maxHeartbeats 1000000
namespace DL
open PySem L2
/-! ### enumerate(text, start=1) -/
def enV1 (xs : List V) : List (List V) := xs.zipIdx.map fun p => [V.int (1 + (p.2 : Nat) : Int), p.1]
def hasE1 (K : PySem.W.Frag) (z : Zs) (H : Hp) (rows : List (List V)) : Prop := ∃ xs, z.has K H xs ∧ rows = enV1 xs
def tnE1 (N : Addr) (z : Zs) (i : Nat) (h : Heap) : Prop := (∃ old, IsEnum h (N + 1) N (1 + (i : Int)) old) ∧ z.st N i h
def iEn1 (K : PySem.W.Frag) (ta : TA) (tk : TA) : TI := fun σ H R => ta σ H fun vs H1 => tk σ H1 fun ks H2 => ∃ x, vs = [V.str x] ∧ ks = [V.int 1] ∧ R (ItR (hasE1 K (.s x))) H2
section
variable {X : Cx} {e : Expr} {kws : List Keyword} {ta tk : TA} {p pos tpos : Pos} {elts : List Expr} {kk : Nat}
end
def en1D : List D → Option (List D)
  | [.str z] => some ((sgs z).zipIdx.map fun p => D.tup [.int (1 + (p.2 : Nat) : Int), p.1])
  | _ => none
section
variable {X : Cx} {W : WX} {a ke : Expr} {p pos tpos kp : Pos} {elts : List Expr} {kk : Nat} {g : Env → R (List D)}
end
end DL

end
section
namespace DL
open PySem L2
/-! ### x, y, z = a, b, c: three local names -/
def parS3 (i j l : Nat) (f : Env → R (List D × Env)) : Env → R Fl := fun r => (f r).bind fun p => match p.1 with
  | [d, e, g] => .ok (.nx (((p.2.set i (.sh d)).set j (.sh e)).set l (.sh g)))
  | _ => .stk
section
variable {X : Cx} {W : WX} {x : Str} {pos : Pos}
/-- x, y, z = a, b, c: a value, a new list, a value -/
def par3SOS (i j l : Nat) (fa fb fc : Env → R D) : Env → R Fl := fun r => (fa r).bind fun a => (fb r).bind fun b => (R.ne (fc r)).bind fun c => .ok (.nx (((r.set i (.sh a)).set j (.own b)).set l (.sh c)))
end
end DL

end
section
namespace DL
open PySem PySem.W L2 PyProof.Rows
/-! ### max(xs, default=None), min(xs, default=None) of a list of ints; a new list by a condition -/
def rMaxK (K : PySem.W.Frag) : List V → List V → Hp → VK → Prop := fun vs zs H Q => ∃ (a : Addr) (ns : List Int), vs = [V.ref a] ∧ zs = [.non] ∧ SqL K H a (ns.map V.int) ∧ (ns = [] → Q .non H) ∧ ∀ m, m ∈ ns → (∀ y, y ∈ ns → y ≤ m) → Q (.int m) H
def rMinK (K : PySem.W.Frag) : List V → List V → Hp → VK → Prop := fun vs zs H Q => ∃ (a : Addr) (ns : List Int), vs = [V.ref a] ∧ zs = [.non] ∧ SqL K H a (ns.map V.int) ∧ (ns = [] → Q .non H) ∧ ∀ m, m ∈ ns → (∀ y, y ∈ ns → m ≤ y) → Q (.int m) H
theorem ints_alike (ns : List Int) : AlikeAll (ns.map PyData.int) := by
  constructor
  · intro x hx y hy
    obtain ⟨i, _, rfl⟩ := List.mem_map.mp hx
    obtain ⟨j, _, rfl⟩ := List.mem_map.mp hy
    rfl
  · intro x hx
    obtain ⟨i, _, rfl⟩ := List.mem_map.mp hx
    exact fun z => by cases z
theorem ints_depth : ∀ ns : List Int, PyData.depthAll (ns.map PyData.int) = 0
  | [] => rfl
  | n :: ns => by
    rw [List.map_cons]
    unfold PyData.depthAll
    rw [ints_depth ns]
    rfl
theorem fold_max : ∀ (ns : List Int) (n : Int), ns.foldl max n ∈ n :: ns ∧ ∀ y ∈ n :: ns, y ≤ ns.foldl max n
  | [], n => ⟨List.mem_cons_self, fun y hy => by rw [List.mem_singleton.mp hy]; exact Int.le_refl _⟩
  | a :: ns, n => by
    obtain ⟨h1, h2⟩ := fold_max ns (max n a)
    rw [List.foldl_cons]
    refine ⟨?_, fun y hy => ?_⟩
    · rcases List.mem_cons.mp h1 with z | z
      · rw [z]
        by_cases q : n ≤ a
        · rw [Int.max_eq_right q]; simp
        · rw [Int.max_eq_left (by omega)]; simp
      · exact List.mem_cons_of_mem _ (List.mem_cons_of_mem _ z)
    · have m := h2 (max n a) List.mem_cons_self
      rcases List.mem_cons.mp hy with z | z
      · subst z; omega
      · rcases List.mem_cons.mp z with z | z
        · subst z; omega
        · exact h2 y (List.mem_cons_of_mem _ z)
section
variable {X : Cx}
theorem cr_maxK (hc : X.calm = true) (hu : X.A.units + 64 < cLine) : CallRK X (.builtin "max") [Str.ofString "default"] (rMaxK X.K) := by
  intro pins s σ H vs zs us ws Q I r rz h
  obtain ⟨a, ns, rfl, rfl, hs, q0, q⟩ := h
  obtain rfl := Vals.ref1 r
  obtain ⟨w1, rfl, e1⟩ := vals1 rz
  obtain rfl : w1 = Value.none := e1
  obtain ⟨its, rv, hl, hz⟩ := I.list hs
  have hr := IntsAre.reads s.heap rv.ints
  refine max_list_default (A := X.A) (xs := ns.map PyData.int) (as := []) (I.ok.hd hc) hl.isList (by simpa using hr) (ints_alike ns) (by rw [ints_depth]; omega) (fun e h' tk hk => ?_) fun y ys i v h' tk bs e hv hrd hk => ?_
  · exact ⟨.non, H, I.kept hk, rfl, q0 (by simpa using e)⟩
  · cases ns with
    | nil => cases e
    | cons n ns =>
      rw [List.map_cons] at e
      obtain ⟨e1, e2⟩ := List.cons.inj e
      rw [← e1, ← e2, maxD_ints] at hrd
      obtain ⟨h1, h2⟩ := fold_max ns n
      cases hrd
      exact ⟨.int _, H, I.kept hk, ⟨_, rfl⟩, q _ h1 h2⟩
end
def optI : Option Int → D
  | some m => .int m
  | none => .non
def maxND : List D → Option D
  | [.lst xs] => (intsD xs).map fun ns => optI ns.max?
  | _ => none
def minND : List D → Option D
  | [.lst xs] => (intsD xs).map fun ns => optI ns.min?
  | _ => none
section
variable {X : Cx} {W : WX} {e ke : Expr} {es : List Expr} {p pos kp : Pos} {g : Env → R (List D)} {x : Str}
theorem d_maxN (hc : X.calm = true) (hu : X.A.units + 64 < cLine) (hg : Gl X "max") (hm : X.mg "max" = none) (h : DBs X W [e] g) (hk : DP X W ke (kc .non))
    (he : backTo pos (starEach [e] X.env) = (false, eval e X.env) :: backTo pos (starEach [] X.env) := by rfl) (hpl : (backTo pos (starEach [e] X.env)).any (·.1) = false := by rfl)
    (hall : (backToKw pos (keywordEach [⟨some "default", ke, kp⟩] X.env)).all (·.1.isSome) = true := by rfl) (hno : (backToKw pos (keywordEach [⟨some "default", ke, kp⟩] X.env)).any (·.1.isNone) = false := by rfl) (hks : (backToKw pos (keywordEach [⟨some "default", ke, kp⟩] X.env)).filterMap (·.1) = [Str.ofString "default"] := by rfl) :
    DP X W (.Call (.Name "max" p) [e] [⟨some "default", ke, kp⟩] pos) (appN maxND g) := by
  obtain ⟨ta, pa, wa⟩ := h
  obtain ⟨tk, pk, wk⟩ := hk
  refine ⟨_, pe_callBK (cr_maxK hc hu) hg hm rfl pa (pk_cons pk pk_nil) (by decide) (by decide) he hpl hall hno hks, fun F os r σ H Q R S => ?_⟩
  refine wa F os r σ H _ R (S.bind.imp fun xs S vs H1 s1 h1 => ?_)
  obtain ⟨d, ed, S⟩ := S.ofO
  match xs, ed with
  | [.lst xs], ed =>
    obtain ⟨v, ev, r1⟩ := rep1 h1
    subst ev
    obtain ⟨ns, e1, e4⟩ := Option.map_eq_some_iff.mp ed
    subst e4
    have R1 := R.same' s1
    refine wk F os r σ H1 _ R1 fun v2 H2 s2 h2 => ?_
    have s12 := s1.trans s2
    have R2 := R.same' s12
    obtain ⟨a, us, ev, q1, q2⟩ := RepB.lst (RepB.same s2 R1.AOk r1)
    rw [intsD_rep e1 q2] at q1
    subst ev
    refine ⟨a, ns, rfl, by
      unfold Rep at h2
      rw [h2], q1, fun z => ?_, fun m i g => ?_⟩
    · subst z
      exact S _ H2 s12 (by unfold Rep; rfl)
    · have e3 : ns.max? = some m := List.max?_eq_some_iff.mpr ⟨i, g⟩
      rw [e3] at S
      exact S _ H2 s12 (by unfold Rep; rfl)
end
section
variable {X : Cx} {W : WX} {c a b : Expr} {pos : Pos} {ga : Env → R Bool} {fa fb : Env → R D}
theorem d_ifF (hc : DT X W c ga) (ha : DF X W a fa) (hb : DF X W b fb) : DF X W (.IfExp c a b pos) (ifV ga fa fb) := by
  obtain ⟨t, pe, w⟩ := hc
  obtain ⟨u, pu, z⟩ := ha
  obtain ⟨u2, pu2, z2⟩ := hb
  refine ⟨_, pe_ifExp pe pu pu2, fun F os r σ H Q R S => w F os r σ H _ R (S.bind.imp fun k S H' s => ?_)⟩
  by_cases hb : k = true
  · rw [if_pos hb] at S ⊢
    exact z F os r σ H' Q (R.same' s) (S.imp fun b q u H2 s2 n2 h2 => q u H2 (s.trans s2) (s.free n2) h2)
  · rw [if_neg hb] at S ⊢
    exact z2 F os r σ H' Q (R.same' s) (S.imp fun b q u H2 s2 n2 h2 => q u H2 (s.trans s2) (s.free n2) h2)
end
end DL

end
section
namespace DL
open PySem L2
/-! ### dict(d), xs.extend([..]) -/
def dctC : List D → Option D
  | [.dct kvs] => some (.dct kvs)
  | _ => none
def rDctC : List V → Hp → VK → Prop := fun xs H Q => ∃ (a : Addr) (kvs : List (Key × V)), xs = [.ref a] ∧ Rd H a (.dK kvs) ∧ ∀ p, H p = none → Q (.ref p) (upd H p (.dK kvs))
def extS (i : Nat) (fe : Env → R D) : Env → R Fl := fun r => (R.ofO (ownL r i)).bind fun s => (fe r).bind fun d => match d with
  | .lst ds => if s.2.length + ds.length ≤ sizeLine then .ok (.nx (r.set i (s.1.put (.lst (s.2 ++ ds))))) else .stk
  | _ => .stk
section
variable {X : Cx} {W : WX} {e : Expr} {x : Str} {pos : Pos}
end
end DL

end
section
namespace DL
open PySem L2
/-! ### a slot's own dict stands still from here on -/
def tLock (i : Nat) (t : TS) : TS := fun D σ H => ∃ a u, σ[i]? = some (some (V.ref a)) ∧ H a = some u ∧ Mut (some u) ∧ ∀ od, t D σ (upd H a (.frz od u))
section
variable {K : PySem.W.Frag} {H : Hp} {os : List (Option Addr)} {r : Env} {σ : St}
end
def frzD (i : Nat) (f : Env → R Fl) : Env → R Fl := fun r => match r[i]? with
  | some (.own (.dct kvs)) => f (r.set i (.sh (.dctF kvs)))
  | _ => .stk
section
variable {X : Cx} {W : WX} {sts : List Stmt}
end
end DL

end
section
namespace DL
open PySem PySem.W L2 PyProof.Rows
/-! ### min, max of texts: of two, of a list -/
section
variable {prog : Program} {w : World} {A : Around} {E : Value → Shared → Prop} {s : Shared}
/-- the least text, the first of such -/
def leastS (x : Str) (xs : List Str) : Str := xs.foldl (fun a y => if decide (y.cps.toList < a.cps.toList) = true then y else a) x
end
section
variable {X : Cx}
def rMin2S : List V → Hp → VK → Prop := fun xs H Q => ∃ i j : Str, xs = [.str i, .str j] ∧ Q (.str (if j.cps.toList < i.cps.toList then j else i)) H
def rMax2S : List V → Hp → VK → Prop := fun xs H Q => ∃ i j : Str, xs = [.str i, .str j] ∧ Q (.str (if i.cps.toList < j.cps.toList then j else i)) H
def min2SD : List D → Option D
  | [.str x, .str y] => some (.str (if y.cps.toList < x.cps.toList then y else x))
  | _ => none
def max2SD : List D → Option D
  | [.str x, .str y] => some (.str (if x.cps.toList < y.cps.toList then y else x))
  | _ => none
def rMinS (K : PySem.W.Frag) : List V → Hp → VK → Prop := fun vs H Q => ∃ (a : Addr) (x : Str) (xs : List Str), vs = [V.ref a] ∧ SqL K H a ((x :: xs).map V.str) ∧ Q (.str (leastS x xs)) H
def minSD : List D → Option D
  | [.lst xs] => (strsOf xs).bind fun l => match l with
    | [] => none
    | x :: r => some (.str (leastS x r))
  | _ => none
end
end DL

end
section
set_option maxHeartbeats 4000000
namespace DL
open PySem PySem.Spec PyProof.Rows L2 PySem.Froz PpSet
/-! ### len(set(xs)), xs a list of texts -/
section
variable {P : Program} {w : World} {A : Around} {E : Value → Shared → Prop} {s : Shared}
set_option maxRecDepth 100000 in
end
section
variable {X : Cx}
def rSetLS (K : PySem.W.Frag) (P : Program) (w : World) : List V → Hp → VK → Prop := fun xs H Q => ∃ (a : Addr) (ns : List Str), xs = [.ref a] ∧ SqL K H a (ns.map V.str) ∧ ns.length + 1 < scanBound ∧ ∀ (p : Addr) (l : List Str), H p = none → l.length ≤ ns.length → l.Nodup → (∀ k, k ∈ l ↔ k ∈ ns) → Q (.ref p) (upd H p (SetTO P w p l))
end
end DL
namespace DL
open PySem L2
def lenSetLD (d : D) : Option D := match d with
  | .lst xs => (strsOf xs).bind fun ss => if ss.length + 1 < scanBound then some (.int (dedT ss).length) else none
  | _ => none
section
variable {X : Cx} {W : WX} {a : Expr} {p p2 pos pos2 : Pos} {fa : Env → R D}
def srtSetLD (d : D) : Option D := match d with
  | .lst xs => (strsOf xs).bind fun ss => if ss.length + 1 < scanBound then some (.lst ((sortStr (dedT ss)).map D.str)) else none
  | _ => none
end
end DL

end
section
namespace DL
open PySem L2
/-! ### for k in d, d a dict that stands still -/
def keysFD : D → Option (List D)
  | .dctF kvs => some (kvs.map fun kv => keyV kv.1)
  | _ => none
section
variable {X : Cx} {W : WX} {tg e : Expr} {f : Env → R D}
end
end DL

end
section
namespace DL
open PySem PySem.W L2 PyProof.Rows
/-! ### min of a text -/
abbrev sg1 (c : Nat) : Str := ⟨#[c]⟩
section
variable {prog : Program} {w : World} {A : Around} {E : Value → Shared → Prop} {s : Shared}
end
section
variable {X : Cx}
def rMinT : List V → Hp → VK → Prop := fun vs H Q => ∃ (z : Str) (c : Nat) (r : List Nat), vs = [V.str z] ∧ z.cps.toList = c :: r ∧ Q (.str (leastS (sg1 c) (r.map sg1))) H
def minT1 (l : List Nat) : Option D := match l with
  | [] => none
  | c :: r => some (.str (leastS (sg1 c) (r.map sg1)))
def minTD : List D → Option D
  | [.str z] => minT1 z.cps.toList
  | _ => none
end
end DL

end
section
namespace DL
open PySem L2
section
variable {X : Cx} {W : WX} {x : Str} {pos : Pos}
/-- x, y, z = a, b, c: a new list or dict, x's own, and two values -/
def par3OSS (i j l : Nat) (fa fb fc : Env → R D) : Env → R Fl := fun r => (fa r).bind fun a => (R.ne (fb r)).bind fun b => (R.ne (fc r)).bind fun c => .ok (.nx (((r.set i (.own a)).set j (.sh b)).set l (.sh c)))
end
end DL

end
section
namespace DL
open PySem L2
/-! ### text <= text -/
def leSD : D → D → Option D
  | .str x, .str y => some (.bl (!decide (y.cps.toList < x.cps.toList)))
  | _, _ => none
end DL

end
section
set_option maxHeartbeats 1000000
namespace DL
open PySem L2
open AutoSeq1 (wpAny_loadPart')
/-! ### enumerate(tuple) -/
section
variable {prog : Program} {w : World} {A : Around} {E : Value → Shared → Prop} {s : Shared}
end
def iEnT (K : PySem.W.Frag) (ta : TA) : TI := fun σ H R => ta σ H fun vs H1 => ∃ a xs, vs = [Zs.val (.t a)] ∧ (Zs.t a).has K H1 xs ∧ R (ItR (hasE K (.t a))) H1
def enTD : List D → Option (List D)
  | [.tup xs] => some (xs.zipIdx.map fun p => D.tup [.int (p.2 : Nat), p.1])
  | _ => none
section
variable {X : Cx} {W : WX} {a : Expr} {p pos tpos : Pos} {elts : List Expr} {kk : Nat} {g : Env → R (List D)}
end
end DL

end
section
/-! ### a text behind a call, read backward -/
namespace DL
open PySem L2
section
variable {M : Model} {A : Around} {env : PySem.Env} {E : Value → Shared → Prop} {s : Shared}
end
section
variable {X : Cx} {e : Expr} {te : TE} {k : Nat} {p1 p2 p3 pos : Pos}
end
end DL

end
section
namespace DL
open PySem L2
section
variable {X : Cx} {W : WX} {x : Str} {pos : Pos}
/-- x, y = a, b: a value, a new list -/
def parSO (i j : Nat) (fa fb : Env → R D) : Env → R Fl := fun r => (fa r).bind fun a => (fb r).bind fun b => .ok (.nx ((r.set i (.sh a)).set j (.own b)))
end
end DL

end
section
/-! ### sorted(d), the keys of d ints, any number of them -/
namespace L2
open PySem PySem.Spec PyProof.Rows
end L2
namespace DL
open PySem L2
def intKs : List (Key × D) → Option (List Int)
  | [] => some []
  | (.inl i, _) :: r => (intKs r).map fun l => i :: l
  | (.inr _, _) :: _ => none
def srtZ (l : List Int) : List Int := l.mergeSort fun a b => decide (a ≤ b)
/-- sorted(d), its keys ints -/
def srtJD : List D → Option D
  | [d] => (kvsD d).bind fun kvs => (intKs kvs).map fun ks => .lst ((srtZ ks).map D.int)
  | _ => none
def rSrtJ : List V → Hp → VK → Prop := fun xs H Q => ∃ (a : Addr) (kvs : List (Key × V)) (ks : List Int), xs = [.ref a] ∧ Rd H a (.dK kvs) ∧ kvs.map (·.1) = ks.map Sum.inl ∧ ∀ p, H p = none → Q (.ref p) (upd H p (.lst ((srtZ ks).map V.int)))
end DL

end
section
/-! ### tables: a list or dict whose items are lists or dicts that only it holds -/
namespace DL
open PySem L2
/-- the frame that hides a table and its rows -/
def Fm.tab (F : Fm) (p : Addr) (as : List Addr) (os : List (Option Addr)) (H : Hp) : Fm := ⟨fun a => F.A0 a ∨ a = p ∨ a ∈ as, fun b => if some b ∈ os then none else H b, fun a => F.io a ∧ a ≠ p ∧ a ∉ as⟩
/-- what a statement may not hold on to while the table is hidden -/
abbrev An (F : Fm) (p : Addr) (as : List Addr) (os : List (Option Addr)) : Addr → Prop := Av (fun a => F.A0 a ∨ a = p ∨ a ∈ as) os
def TabO (K : PySem.W.Frag) (H : Hp) (A : Addr → Prop) : D → Addr → List Addr → Prop
  | .lst ds, p, as => H p = some (.lst (as.map V.ref)) ∧ Paired (RepO K H A) ds as
  | .dct kvs, p, as => H p = some (.dK ((kvs.map (·.1)).zip (as.map V.ref))) ∧ Paired (RepO K H A) (kvs.map (·.2)) as
  | _, _, _ => False
structure RelN (K : PySem.W.Frag) (F : Fm) (t : Nat) (p : Addr) (as : List Addr) (os : List (Option Addr)) (r : Env) (σ : St) (H : Hp) : Prop where
  hid : Rel K (F.tab p as os H) os (r.set t (.sh (.ref p))) σ H
  lt : t < r.length
  tab : ∃ T, r[t]? = some (.own T) ∧ TabO K H (An F p as os) T p as
  nd : (p :: as).Nodup
  out : ∀ a, a = p ∨ a ∈ as → ¬ F.A0 a ∧ (F.H0 a = none ∨ F.io a)
  same : ∀ b o, F.H0 b = some o → ¬ F.io b → H b = some o
  new : ∀ (i : Nat) (a : Addr), os[i]? = some (some a) → F.H0 a = none ∨ F.io a
section
variable {K : PySem.W.Frag} {F : Fm} {os os' : List (Option Addr)} {r r' : Env} {σ σ' : St} {H H' : Hp} {t : Nat} {p : Addr} {as as' : List Addr}
theorem paired_keep {A A' : Addr → Prop} (k : Keep A A' H H') (ak : AOk A H) : ∀ {ds : List D} {l : List Addr}, (∀ a ∈ l, H' a = H a) → Paired (RepO K H A) ds l → Paired (RepO K H' A') ds l
  | _, _, _, .nil => .nil
  | _, _, h, .cons h1 h2 => .cons (RepO.keepNe k ak h1 (h _ List.mem_cons_self)) (paired_keep k ak (fun a z => h a (List.mem_cons_of_mem _ z)) h2)
theorem TabO.keep {A A' : Addr → Prop} (k : Keep A A' H H') (ak : AOk A H) {T : D} (h : TabO K H A T p as) (hb : ∀ a, a = p ∨ a ∈ as → H' a = H a) : TabO K H' A' T p as := by
  cases T with
  | lst ds => exact ⟨(hb p (.inl rfl)).trans h.1, paired_keep k ak (fun a z => hb a (.inr z)) h.2⟩
  | dct ds => exact ⟨(hb p (.inl rfl)).trans h.1, paired_keep k ak (fun a z => hb a (.inr z)) h.2⟩
  | _ => exact h.elim
theorem RepO.some {A : Addr → Prop} {d : D} {b : Addr} (h : RepO K H A d b) : ∃ o, H b = some o := by
  obtain ⟨o, e, _⟩ := h.isT
  exact ⟨o, e⟩
theorem paired_mem {A : Addr → Prop} : ∀ {ds : List D} {l : List Addr} {a : Addr}, Paired (RepO K H A) ds l → a ∈ l → ∃ d, RepO K H A d a
  | _, _, _, .nil, h => nomatch h
  | _, _, _, .cons h1 h2, h => by
    rcases List.mem_cons.mp h with z | z
    · subst z; exact ⟨_, h1⟩
    · exact paired_mem h2 z
theorem TabO.at {A : Addr → Prop} {T : D} (h : TabO K H A T p as) {a : Addr} (ha : a = p ∨ a ∈ as) : ∃ o, H a = some o ∧ isT o = false := by
  cases T with
  | lst ds =>
    rcases ha with z | z
    · subst z; exact ⟨_, h.1, rfl⟩
    · obtain ⟨d, hd⟩ := paired_mem h.2 z; exact hd.isT
  | dct ds =>
    rcases ha with z | z
    · subst z; exact ⟨_, h.1, rfl⟩
    · obtain ⟨d, hd⟩ := paired_mem h.2 z; exact hd.isT
  | _ => exact h.elim
/-- the frame told anew -/
theorem Rel.anew {F1 F2 : Fm} (R : Rel K F1 os r σ H) (e : ∀ a, F2.A0 a ↔ F1.A0 a) (hio : ∀ a, some a ∈ os → F1.io a → F2.io a) (h0 : ∀ b, F2.H0 b = if some b ∈ os then none else H b) : Rel K F2 os r σ H := by
  have eA : F2.A0 = F1.A0 := funext fun a => propext (e a)
  refine ⟨R.lens, R.leno, fun i s v o e1 e2 e3 => ?_, R.inj, fun i a e1 z => R.out i a e1 ((e a).mp z), fun a z => R.aok a ((e a).mp z), fun b o e1 _ => ?_, fun i a e1 => .inl ?_⟩
  · have q := R.slot i s v o e1 e2 e3
    rw [eA]
    cases s with
    | un => exact q
    | sh d => exact q
    | own d => exact q
    | io d =>
      obtain ⟨a, z1, z2, z3, z4⟩ := q
      exact ⟨a, z1, z2, z3, hio a (List.mem_of_getElem? (z1 ▸ e3)) z4⟩
  · rw [h0] at e1
    by_cases z : some b ∈ os
    · rw [if_pos z] at e1; cases e1
    · rw [if_neg z] at e1; exact e1
  · rw [h0, if_pos (List.mem_of_getElem? e1)]
theorem RelN.nin (R : RelN K F t p as os r σ H) {a : Addr} (ha : a = p ∨ a ∈ as) : some a ∉ os := fun z => by
  obtain ⟨i, hi, e⟩ := List.getElem_of_mem z
  exact R.hid.out i a (by rw [List.getElem?_eq_getElem hi, e]) (.inr ha)
theorem RelN.getT (R : RelN K F t p as os r σ H) : σ[t]? = some (some (.ref p)) ∧ os[t]? = some none := by
  obtain ⟨v, o, e1, e2, z, u, e3, h⟩ := R.hid.get (i := t) (s := .sh (.ref p)) (List.getElem?_set_self R.lt)
  unfold Rep at h
  subst z e3 h
  exact ⟨e1, e2⟩
/-- what holds of the hidden frame at the end of a statement, holds of the table's -/
theorem RelN.back (R : RelN K F t p as os r σ H) (R' : Rel K (F.tab p as os H) os' r' σ' H') (hr : r'[t]? = some (.sh (.ref p))) (k : Keep (An F p as os) (An F p as os') H H') {s : Slot} (hs : r[t]? = some s) : RelN K F t p as os' (r'.set t s) σ' H' := by
  have hl : t < r'.length := (List.getElem?_eq_some_iff.mp hr).1
  have keepH : ∀ b o, H b = some o → some b ∉ os → ¬ (F.tab p as os H).io b → H' b = some o := fun b o e nb ni => R'.same b o (by show (if some b ∈ os then none else H b) = some o; rw [if_neg nb]; exact e) ni
  have hb : ∀ a, a = p ∨ a ∈ as → H' a = H a := fun a ha => by
    obtain ⟨T, _, h2⟩ := R.tab
    obtain ⟨o, e, _⟩ := h2.at ha
    rw [e]
    refine keepH a o e (R.nin ha) fun z => ?_
    rcases ha with y | y
    · exact z.2.1 y
    · exact z.2.2 y
  have er : (r'.set t s).set t (.sh (.ref p)) = r' := by
    rw [List.set_set]
    apply List.ext_getElem?
    intro i
    by_cases e : t = i
    · subst e; rw [List.getElem?_set_self hl, hr]
    · rw [List.getElem?_set_ne e]
  refine ⟨?_, by rw [List.length_set]; exact hl, ?_, R.nd, R.out, fun b o e ni => ?_, fun i a e => ?_⟩
  · rw [er]
    exact R'.anew (fun a => Iff.rfl) (fun a _ z => z) fun b => rfl
  · obtain ⟨T, h1, h2⟩ := R.tab
    rw [hs] at h1
    cases h1
    exact ⟨T, List.getElem?_set_self hl, h2.keep k R.hid.AOk hb⟩
  · have h1 := R.same b o e ni
    have nb : some b ∉ os := fun z => by
      obtain ⟨i, hi, e2⟩ := List.getElem_of_mem z
      rcases R.new i b (by rw [List.getElem?_eq_getElem hi, e2]) with q | q
      · rw [q] at e; cases e
      · exact ni q
    exact keepH b o h1 nb fun z => ni z.1
  · rcases R'.new i a e with q | q
    · have q : (if some a ∈ os then none else H a) = none := q
      by_cases z : some a ∈ os
      · obtain ⟨j, hj, e2⟩ := List.getElem_of_mem z
        exact R.new j a (by rw [List.getElem?_eq_getElem hj, e2])
      · rw [if_neg z] at q
        cases y : F.H0 a with
        | none => exact .inl rfl
        | some o =>
          by_cases w : F.io a
          · exact .inr w
          · have := R.same a o y w
            rw [q] at this
            cases this
    · exact .inr q.1
theorem RelN.same' (R : RelN K F t p as os r σ H) (s : Same H H') : RelN K F t p as os r σ H' := by
  obtain ⟨T, h1, h2⟩ := R.tab
  have := R.back (R.hid.same' s) (List.getElem?_set_self R.lt) (Keep.of s) h1
  rw [List.set_set] at this
  have e : r.set t (.own T) = r := by
    apply List.ext_getElem?
    intro i
    by_cases e : t = i
    · subst e; rw [List.getElem?_set_self R.lt, h1]
    · rw [List.getElem?_set_ne e]
  rw [e] at this
  exact this
theorem paired_rowsL {A A' : Addr → Prop} (k : Keep A A' H H) (ak : AOk A H) : ∀ {ds : List D} {l : List Addr}, (∀ a ∈ l, ¬ A' a) → Paired (RepO K H A) ds l → RepL K H A' ds (l.map V.ref)
  | _, _, _, .nil => by unfold RepL; rfl
  | _, _, h, .cons h1 h2 => by
    rw [List.map_cons]
    unfold RepL
    exact ⟨_, _, rfl, repO_rep h1 k ak (h _ List.mem_cons_self), paired_rowsL k ak (fun a z => h a (List.mem_cons_of_mem _ z)) h2⟩
theorem paired_rowsK {A A' : Addr → Prop} (k : Keep A A' H H) (ak : AOk A H) : ∀ {kvs : List (Key × D)} {l : List Addr}, (∀ a ∈ l, ¬ A' a) → Paired (RepO K H A) (kvs.map (·.2)) l → RepK K H A' kvs ((kvs.map (·.1)).zip (l.map V.ref))
  | [], _, _, h => by cases h; unfold RepK; rfl
  | (q, d) :: kvs, _, h, h3 => by
    cases h3 with
    | cons h1 h2 =>
      rw [List.map_cons, List.map_cons, List.zip_cons_cons]
      unfold RepK
      exact ⟨_, _, rfl, repO_rep h1 k ak (h _ List.mem_cons_self), paired_rowsK k ak (fun a z => h a (List.mem_cons_of_mem _ z)) h2⟩
/-- the table shown: its rows as values -/
theorem RelN.show (R : RelN K F t p as os r σ H) : Rel K F (os.set t (some p)) r σ H ∧ Keep (An F p as os) (Av F.A0 (os.set t (some p))) H H := by
  obtain ⟨e1, e2⟩ := R.getT
  have tlo : t < os.length := (List.getElem?_eq_some_iff.mp e2).1
  have kp : Keep (An F p as os) (Av F.A0 (os.set t (some p))) H H := fun b o e nb => ⟨e, fun z => nb (by
    rcases z with z | z
    · exact .inl (.inl z)
    · rcases mem_set_cases z with z | z
      · exact .inr z
      · cases z; exact .inl (.inr (.inl rfl)))⟩
  have ak := R.hid.AOk
  have notA : ∀ a ∈ as, ¬ Av F.A0 (os.set t (some p)) a := fun a ha z => by
    rcases z with z | z
    · exact (R.out a (.inr ha)).1 z
    · rcases mem_set_cases z with z | z
      · exact R.nin (.inr ha) z
      · cases z
        exact (List.nodup_cons.mp R.nd).1 ha
  refine ⟨⟨by rw [R.hid.lens, List.length_set], by rw [List.length_set, R.hid.leno, List.length_set], fun i s v o h1 h2 h3 => ?_, fun i j a h1 h2 => ?_, fun i a h1 z => ?_, fun a z => R.hid.aok a (.inl z), R.same, fun i a h1 => ?_⟩, kp⟩
  · by_cases e : t = i
    · subst e
      rw [List.getElem?_set_self tlo] at h3
      cases h3
      rw [e1] at h2
      cases h2
      obtain ⟨T, g1, g2⟩ := R.tab
      rw [g1] at h1
      cases h1
      refine ⟨p, rfl, rfl, ?_⟩
      cases T with
      | lst ds => exact ⟨_, g2.1, paired_rowsL kp ak notA g2.2⟩
      | dct ds => exact ⟨_, g2.1, paired_rowsK kp ak notA g2.2⟩
      | _ => exact g2.elim
    · rw [List.getElem?_set_ne e] at h3
      have q := R.hid.slot i s v o (by rw [List.getElem?_set_ne e]; exact h1) h2 h3
      have q : SlotOk K H (An F p as os) (F.tab p as os H).io s v o := q
      have q2 := q.keep kp ak fun _ _ => rfl
      cases s with
      | un => exact q2
      | sh d => exact q2
      | own d => exact q2
      | io d =>
        obtain ⟨a, z1, z2, z3, z4⟩ := q2
        exact ⟨a, z1, z2, z3, z4.1⟩
  · rcases getElem?_set_cases h1 with ⟨a1, b1⟩ | ⟨a1, b1⟩
    · rcases getElem?_set_cases h2 with ⟨a2, b2⟩ | ⟨a2, b2⟩
      · omega
      · cases b1
        exact absurd (List.mem_of_getElem? b2) (R.nin (.inl rfl))
    · rcases getElem?_set_cases h2 with ⟨a2, b2⟩ | ⟨a2, b2⟩
      · cases b2
        exact absurd (List.mem_of_getElem? b1) (R.nin (.inl rfl))
      · exact R.hid.inj i j a b1 b2
  · rcases getElem?_set_cases h1 with ⟨a1, b1⟩ | ⟨a1, b1⟩
    · cases b1
      exact (R.out p (.inl rfl)).1 z
    · exact R.hid.out i a b1 (.inl z)
  · rcases getElem?_set_cases h1 with ⟨a1, b1⟩ | ⟨a1, b1⟩
    · cases b1
      exact (R.out p (.inl rfl)).2
    · exact R.new i a b1
/-- an object that is hidden changes -/
theorem Rel.upd0 (R : Rel K F os r σ H) {a : Addr} {o : HO} (ha : F.A0 a) (ho : isT o = false) {F2 : Fm} (e : ∀ a, F2.A0 a ↔ F.A0 a) (hio : ∀ a, some a ∈ os → F.io a → F2.io a) (h0 : ∀ b, F2.H0 b = if some b ∈ os then none else upd H a o b) : Rel K F2 os r σ (upd H a o) ∧ Keep (Av F.A0 os) (Av F2.A0 os) H (upd H a o) := by
  have eA : F2.A0 = F.A0 := funext fun a => propext (e a)
  have ak := R.AOk
  have kp : Keep (Av F.A0 os) (Av F2.A0 os) H (upd H a o) := fun b u eb nb => ⟨by
    rw [upd_ne (fun z => nb (by rw [z]; exact .inl ha))]
    exact eb, by rw [eA]; exact nb⟩
  have no : ∀ (i : Nat) (b : Addr), os[i]? = some (some b) → b ≠ a := fun i b eb z => R.out i b eb (z ▸ ha)
  refine ⟨⟨R.lens, R.leno, fun i s v u e1 e2 e3 => ?_, R.inj, fun i b e1 z => R.out i b e1 ((e b).mp z), fun b z => ?_, fun b u eb _ => ?_, fun i b eb => .inl ?_⟩, kp⟩
  · have q := (R.slot i s v u e1 e2 e3).keep kp ak fun b z => upd_ne (no i b (by rw [e3, z]))
    cases s with
    | un => exact q
    | sh d => exact q
    | own d => exact q
    | io d =>
      obtain ⟨b, z1, z2, z3, z4⟩ := q
      exact ⟨b, z1, z2, z3, hio b (List.mem_of_getElem? (z1 ▸ e3)) z4⟩
  · by_cases y : b = a
    · subst y; exact ⟨o, upd_same, ho⟩
    · rw [upd_ne y]; exact R.aok b ((e b).mp z)
  · rw [h0] at eb
    by_cases z : some b ∈ os
    · rw [if_pos z] at eb; cases eb
    · rw [if_neg z] at eb; exact eb
  · rw [h0, if_pos (List.mem_of_getElem? eb)]
/-- a row, or the table itself, changes -/
theorem RelN.chg (R : RelN K F t p as os r σ H) {a : Addr} {o : HO} (ha : a = p ∨ a ∈ as) (ho : isT o = false) {T : D} (hT : TabO K (upd H a o) (An F p as os) T p as) : RelN K F t p as os (r.set t (.own T)) σ (upd H a o) ∧ Keep (An F p as os) (An F p as os) H (upd H a o) := by
  obtain ⟨R2, k⟩ := R.hid.upd0 (a := a) (o := o) (F2 := F.tab p as os (L2.upd H a o)) (.inr ha) ho (fun _ => Iff.rfl) (fun _ _ z => z) (fun _ => rfl)
  refine ⟨⟨by rw [List.set_set]; exact R2, by rw [List.length_set]; exact R.lt, ⟨T, List.getElem?_set_self R.lt, hT⟩, R.nd, R.out, fun b u e ni => ?_, R.new⟩, k⟩
  have ne : b ≠ a := fun z => by
    rcases (R.out a ha).2 with q | q
    · rw [z, q] at e; cases e
    · exact ni (z ▸ q)
  rw [upd_ne ne]
  exact R.same b u e ni
end
end DL

end
section
/-! ### statements where a table is held -/
namespace DL
open PySem L2
noncomputable section
open Classical in
/-- the slots behind f, run while the table is hidden -/
def hidE (t : Nat) (f : Env → R Env) : Env → R Env := fun r =>
  if h : ∃ r' : Env, t < r'.length ∧ ∀ p : Addr, f (r.set t (.sh (.ref p))) = .ok (r'.set t (.sh (.ref p))) then
    match r[t]? with
    | some s => .ok (h.choose.set t s)
    | none => .stk
  else .stk
open Classical in
def hidI {α : Type} (t : Nat) (f : Env → R α) : Env → R α := fun r =>
  if h : ∃ x : α, ∀ p : Addr, f (r.set t (.sh (.ref p))) = .ok x then .ok h.choose else .stk
def nxE (f : Env → R Fl) : Env → R Env := fun r => (f r).bind fun fl => match fl with
  | .nx r1 => .ok r1
  | _ => .stk
def hidS (t : Nat) (f : Env → R Fl) : Env → R Fl := fun r => (hidE t (nxE f) r).bind fun r' => .ok (.nx r')
def hidG (t : Nat) (g : D → Env → R Env) : D → Env → R Env := fun d => hidE t (g d)
end
def NPost (K : PySem.W.Frag) (F : Fm) (t : Nat) (p : Addr) (as : List Addr) (os : List (Option Addr)) (H : Hp) (D : Ends) : Fl → Prop
  | .nx r => ∀ as' os' σ' H', RelN K F t p as' os' r σ' H' → Keep (An F p as os) (An F p as' os') H H' → D.nx σ' H'
  | .bk r => ∀ as' os' σ' H', RelN K F t p as' os' r σ' H' → Keep (An F p as os) (An F p as' os') H H' → D.bk σ' H'
  | .ct r => ∀ as' os' σ' H', RelN K F t p as' os' r σ' H' → Keep (An F p as os) (An F p as' os') H H' → D.ct σ' H'
  | .rt _ _ => False
structure DSN (X : Cx) (W : WX) (t : Nat) (st : Stmt) (f : Env → R Fl) : Prop where
  ex : ∃ u, PS X st u ∧ ∀ (F : Fm) (p : Addr) (as : List Addr) (os : List (Option Addr)) (r : Env) (σ : St) (H : Hp) (D : Ends), RelN X.K F t p as os r σ H → Sat (NPost X.K F t p as os H D) (Er X W F) (f r) → u D σ H
structure DSNs (X : Cx) (W : WX) (t : Nat) (st : List Stmt) (f : Env → R Fl) : Prop where
  ex : ∃ u, PSs X st u ∧ ∀ (F : Fm) (p : Addr) (as : List Addr) (os : List (Option Addr)) (r : Env) (σ : St) (H : Hp) (D : Ends), RelN X.K F t p as os r σ H → Sat (NPost X.K F t p as os H D) (Er X W F) (f r) → u D σ H
/-- the statements up to the end of the def: the table is shown at last -/
structure DSNe (X : Cx) (W : WX) (t : Nat) (st : List Stmt) (f : Env → R Fl) : Prop where
  ex : ∃ u, PSs X st u ∧ ∀ (F : Fm) (p : Addr) (as : List Addr) (os os0 : List (Option Addr)) (r : Env) (σ : St) (H H0 : Hp) (D : Ends), RelN X.K F t p as os r σ H → Keep (Av F.A0 os0) (An F p as os) H0 H → Sat (SPost X.K F os0 H0 D) (Er X W F) (f r) → u D σ H
/-- a table is made -/
structure DNw (X : Cx) (W : WX) (t : Nat) (st : Stmt) (f : Env → R Env) : Prop where
  ex : ∃ u, PS X st u ∧ ∀ (F : Fm) (os : List (Option Addr)) (r : Env) (σ : St) (H : Hp) (D : Ends), Rel X.K F os r σ H → Sat (fun r' => ∀ p as os' σ' H', RelN X.K F t p as os' r' σ' H' → Keep (Av F.A0 os) (An F p as os') H H' → D.nx σ' H') (Er X W F) (f r) → u D σ H
def tabS (f : Env → R Env) : Env → R Fl := fun r => (f r).bind fun r' => .ok (.nx r')
def seqT (f g : Env → R Fl) : Env → R Fl := fun r => (f r).bind fun fl => match fl with
  | .nx r1 => g r1
  | _ => .stk
section
variable {X : Cx} {W : WX} {e : Expr} {pos pos' : Pos} {st : Stmt} {sts : List Stmt} {x : Str} {t : Nat}
theorem NPost.from {K : PySem.W.Frag} {F : Fm} {p : Addr} {as as1 : List Addr} {os os1 : List (Option Addr)} {H H1 : Hp} {D : Ends} (k : Keep (An F p as os) (An F p as1 os1) H H1) : ∀ {fl : Fl}, NPost K F t p as os H D fl → NPost K F t p as1 os1 H1 D fl
  | .nx r, h => fun as' os' σ' H' R k2 => h as' os' σ' H' R (k.trans k2)
  | .bk r, h => fun as' os' σ' H' R k2 => h as' os' σ' H' R (k.trans k2)
  | .ct r, h => fun as' os' σ' H' R k2 => h as' os' σ' H' R (k.trans k2)
  | .rt d r, h => h
end
end DL

end
section
/-! ### dicts of dicts -/
namespace DL
open PySem L2
section
variable {K : PySem.W.Frag} {F : Fm} {os os' : List (Option Addr)} {r r' : Env} {σ σ' : St} {H H' : Hp} {t : Nat} {p : Addr} {as as' : List Addr}
theorem RelN.start (R : Rel K F os r σ H) {T : D} (hp : H p = none) (ha : ∀ a ∈ as, H a = none) (nd : (p :: as).Nodup) (s : Same H H') (tlt : t < r.length) (hT : TabO K H' (An F p as (os.set t none)) T p as) :
    RelN K F t p as (os.set t none) (r.set t (.own T)) (σ.set t (some (.ref p))) H' ∧ Keep (Av F.A0 os) (An F p as (os.set t none)) H H' := by
  have ak := R.AOk
  have fresh : ∀ a, a = p ∨ a ∈ as → H a = none := fun a z => by
    rcases z with z | z
    · rw [z]; exact hp
    · exact ha a z
  have nin : ∀ a, a = p ∨ a ∈ as → ¬ Av F.A0 os a := fun a z => R.notIn (fresh a z)
  have k1 : Keep (Av F.A0 os) (An F p as os) H H' := fun b o e nb => ⟨s b o e, fun z => by
    rcases z with (z | z) | z
    · exact nb (.inl z)
    · rw [fresh b z] at e; cases e
    · exact nb (.inr z)⟩
  have hob : ∀ (j : Nat) (a : Addr), os[j]? = some (some a) → H' a = H a := fun j a e => by
    obtain ⟨o, h1, _⟩ := ak a (.inr (List.mem_of_getElem? e))
    rw [h1]
    exact s _ _ h1
  have R1 : Rel K (F.tab p as os H') os r σ H' := by
    refine ⟨R.lens, R.leno, fun i sl v o e1 e2 e3 => ?_, R.inj, fun i a e z => ?_, fun a z => ?_, fun b o e _ => ?_, fun i a e => .inl ?_⟩
    · have q := (R.slot i sl v o e1 e2 e3).keep k1 ak fun a z => hob i a (by rw [e3, z])
      cases sl with
      | un => exact q
      | sh d => exact q
      | own d => exact q
      | io d =>
        obtain ⟨a, z1, z2, z3, z4⟩ := q
        have ia : some a ∈ os := List.mem_of_getElem? (z1 ▸ e3)
        exact ⟨a, z1, z2, z3, z4, fun y => nin a (.inl y) (.inr ia), fun y => nin a (.inr y) (.inr ia)⟩
    · rcases z with z | z
      · exact R.out i a e z
      · exact nin a z (.inr (List.mem_of_getElem? e))
    · rcases z with z | z
      · obtain ⟨o, h1, h2⟩ := R.aok a z
        exact ⟨o, s _ _ h1, h2⟩
      · exact hT.at z
    · have e : (if some b ∈ os then none else H' b) = some o := e
      by_cases z : some b ∈ os
      · rw [if_pos z] at e; cases e
      · rw [if_neg z] at e; exact e
    · show (if some a ∈ os then none else H' a) = none
      rw [if_pos (List.mem_of_getElem? e)]
  obtain ⟨R2, k2⟩ := R1.setSh (i := t) (d := .ref p) (v := .ref p) (by unfold Rep; rfl)
  refine ⟨⟨?_, by rw [List.length_set]; exact tlt, ⟨T, List.getElem?_set_self tlt, hT⟩, nd, fun a z => ⟨fun y => nin a z (.inl y), ?_⟩, fun b o e ni => s _ _ (R.same b o e ni), fun i a e => ?_⟩, k1.trans k2⟩
  · rw [List.set_set]
    exact R2.anew (fun _ => Iff.rfl) (fun _ _ z => z) fun _ => rfl
  · cases y : F.H0 a with
    | none => exact .inl rfl
    | some o =>
      by_cases w : F.io a
      · exact .inr w
      · have := R.same a o y w
        rw [fresh a z] at this
        cases this
  · rcases getElem?_set_cases e with ⟨_, z⟩ | ⟨_, z⟩
    · cases z
    · exact R.new i a z
/-- the first pair with such a key takes another value -/
def setR : List (Key × D) → Key → D → List (Key × D)
  | [], _, _ => []
  | (q, d) :: l, k, x => if q = k then (q, x) :: l else (q, d) :: setR l k x
theorem getD_cons (q : Key) (d : D) (l : List (Key × D)) (k : Key) : getD_ ((q, d) :: l) k = if q = k then some d else getD_ l k := by
  unfold getD_
  rw [List.find?_cons]
  by_cases z : q = k
  · rw [if_pos z]; simp [z]
  · rw [if_neg z]; simp [z]
theorem tab_at {A : Addr → Prop} {k : Key} {d : D} : ∀ {kvs : List (Key × D)} {l : List Addr}, Paired (RepO K H A) (kvs.map (·.2)) l → l.Nodup → getD_ kvs k = some d →
    ∃ a ∈ l, valV ((kvs.map (·.1)).zip (l.map V.ref)) k = some (.ref a) ∧ RepO K H A d a ∧ ∀ (H' : Hp) (A' : Addr → Prop) (x : D), RepO K H' A' x a → (∀ b ∈ l, b ≠ a → ∀ y, RepO K H A y b → RepO K H' A' y b) →
      Paired (RepO K H' A') ((setR kvs k x).map (·.2)) l ∧ (setR kvs k x).map (·.1) = kvs.map (·.1)
  | [], _, _, _, e => nomatch e
  | (q, d0) :: kvs, _, h, nd, e => by
    cases h with
    | @cons d0 b _ l h1 h2 =>
      rw [getD_cons] at e
      by_cases z : q = k
      · rw [if_pos z] at e
        cases e
        refine ⟨b, List.mem_cons_self, valV_pos z, h1, fun H' A' x hx hr => ?_⟩
        have es : setR ((q, d) :: kvs) k x = (q, x) :: kvs := if_pos z
        rw [es]
        refine ⟨.cons hx ?_, rfl⟩
        have : ∀ {ds : List D} {m : List Addr}, Paired (RepO K H A) ds m → (∀ a ∈ m, a ∈ l) → Paired (RepO K H' A') ds m := fun {ds m} hp => by
          induction hp with
          | nil => exact fun _ => .nil
          | cons g1 g2 ih =>
            intro hm
            have ma := hm _ List.mem_cons_self
            exact .cons (hr _ (List.mem_cons_of_mem _ ma) (fun y => (List.nodup_cons.mp nd).1 (y ▸ ma)) _ g1) (ih fun a w => hm a (List.mem_cons_of_mem _ w))
        exact this h2 fun _ z => z
      · rw [if_neg z] at e
        obtain ⟨a, ha, e1, e2, e3⟩ := tab_at h2 (List.nodup_cons.mp nd).2 e
        refine ⟨a, List.mem_cons_of_mem _ ha, (valV_neg z).trans e1, e2, fun H' A' x hx hr => ?_⟩
        have es : setR ((q, d0) :: kvs) k x = (q, d0) :: setR kvs k x := if_neg z
        rw [es]
        obtain ⟨f1, f2⟩ := e3 H' A' x hx fun b hb ne y hy => hr b (List.mem_cons_of_mem _ hb) ne y hy
        refine ⟨.cons (hr b List.mem_cons_self (fun y => (List.nodup_cons.mp nd).1 (y ▸ ha)) _ h1) f1, ?_⟩
        rw [List.map_cons, List.map_cons, f2]
/-- a row changes -/
theorem RelN.row (R : RelN K F t p as os r σ H) {kvs : List (Key × D)} {k : Key} {d : D} (hr : r[t]? = some (.own (.dct kvs))) (e : getD_ kvs k = some d) : ∃ a vs, H p = some (.dK vs) ∧ valV vs k = some (.ref a) ∧ RepO K H (An F p as os) d a ∧ An F p as os a ∧
    ∀ (o : HO) (x : D), isT o = false → RepO K (upd H a o) (An F p as os) x a → RelN K F t p as os (r.set t (.own (.dct (setR kvs k x)))) σ (upd H a o) ∧ Keep (An F p as os) (An F p as os) H (upd H a o) := by
  obtain ⟨T, h1, h2⟩ := R.tab
  rw [hr] at h1
  cases h1
  obtain ⟨g1, g2⟩ := h2
  have nd := (List.nodup_cons.mp R.nd)
  obtain ⟨a, ha, e1, e2, e3⟩ := tab_at g2 nd.2 e
  refine ⟨a, _, g1, e1, e2, .inl (.inr (.inr ha)), fun o x ho hx => ?_⟩
  have kp : Keep (An F p as os) (An F p as os) H (upd H a o) := fun b u eb nb => ⟨by
    rw [upd_ne (fun z => nb (by rw [z]; exact .inl (.inr (.inr ha))))]
    exact eb, nb⟩
  obtain ⟨f1, f2⟩ := e3 (upd H a o) (An F p as os) x hx fun b hb ne y hy => RepO.keepNe kp R.hid.AOk hy (upd_ne ne)
  have pa : p ≠ a := fun z => nd.1 (z ▸ ha)
  exact R.chg (.inr ha) ho (T := .dct (setR kvs k x)) ⟨by rw [upd_ne pa, f2]; exact g1, f1⟩
theorem zip_snoc' {α β : Type} : ∀ {X : List α} {Y : List β}, X.length = Y.length → ∀ (x : α) (y : β), (X ++ [x]).zip (Y ++ [y]) = X.zip Y ++ [(x, y)]
  | [], [], _, _, _ => rfl
  | _ :: X, _ :: Y, h, x, y => by
    rw [List.cons_append, List.cons_append, List.zip_cons_cons, List.zip_cons_cons, zip_snoc' (by simpa using h)]
    rfl
theorem tab_no {A : Addr → Prop} {k : Key} : ∀ {kvs : List (Key × D)} {l : List Addr}, Paired (RepO K H A) (kvs.map (·.2)) l → (((kvs.map (·.1)).zip (l.map V.ref)).any fun kv => decide (kv.1 = k)) = kvs.any fun kv => decide (kv.1 = k)
  | [], _, h => by cases h; rfl
  | (q, d) :: kvs, _, h => by
    cases h with
    | cons h1 h2 =>
      rw [List.map_cons, List.map_cons, List.zip_cons_cons, List.any_cons, List.any_cons, tab_no h2]
/-- a new row -/
theorem RelN.more (R : RelN K F t p as os r σ H) {kvs : List (Key × D)} {k : Key} {q : Addr} (hr : r[t]? = some (.own (.dct kvs))) (hk : (kvs.any fun kv => decide (kv.1 = k)) = false) (hq : H q = none) (s : Same H H') (hq' : H' q = some (.dK [])) :
    ∃ vs, H' p = some (.dK vs) ∧ vs.length = kvs.length ∧ q ≠ p ∧ RelN K F t p (as ++ [q]) os (r.set t (.own (.dct (kvs ++ [(k, .dct [])])))) σ (upd H' p (.dK (putK vs k (.ref q)))) ∧ Keep (An F p as os) (An F p (as ++ [q]) os) H (upd H' p (.dK (putK vs k (.ref q)))) := by
  obtain ⟨T, h1, h2⟩ := R.tab
  rw [hr] at h1
  cases h1
  obtain ⟨g1, g2⟩ := h2
  have ll : as.length = kvs.length := by have := g2.length; rw [List.length_map] at this; exact this.symm
  have ak := R.hid.AOk
  have nq : ¬ An F p as os q := ak.fresh hq
  have qp : q ≠ p := fun z => nq (.inl (.inr (.inl z)))
  have qas : q ∉ as := fun z => nq (.inl (.inr (.inr z)))
  have qos : some q ∉ os := fun z => nq (.inr z)
  have nd := List.nodup_cons.mp R.nd
  have hv : putK ((kvs.map (·.1)).zip (as.map V.ref)) k (.ref q) = ((kvs ++ [(k, D.dct [])]).map (·.1)).zip ((as ++ [q]).map V.ref) := by
    unfold putK
    rw [tab_no g2, hk, if_neg (by decide), List.map_append, List.map_append, List.map_cons, List.map_nil, List.map_cons, List.map_nil, zip_snoc' (by rw [List.length_map, List.length_map, ll])]
  refine ⟨_, s _ _ g1, by rw [List.length_zip, List.length_map, List.length_map, ll, Nat.min_self], qp, ?_⟩
  rw [hv]
  have hHq : ∀ b o, H b = some o → b ≠ p → L2.upd H' p (.dK (((kvs ++ [(k, D.dct [])]).map (·.1)).zip ((as ++ [q]).map V.ref))) b = some o := fun b o e ne => by rw [upd_ne ne]; exact s _ _ e
  have k1 : Keep (An F p as os) (An F p (as ++ [q]) os) H (L2.upd H' p (.dK (((kvs ++ [(k, D.dct [])]).map (·.1)).zip ((as ++ [q]).map V.ref)))) := fun b o e nb => ⟨hHq b o e fun z => nb (.inl (.inr (.inl z))), fun z => by
    rcases z with (z | z | z) | z
    · exact nb (.inl (.inl z))
    · exact nb (.inl (.inr (.inl z)))
    · rcases List.mem_append.mp z with y | y
      · exact nb (.inl (.inr (.inr y)))
      · rw [List.mem_singleton.mp y, hq] at e; cases e
    · exact nb (.inr z)⟩
  refine ⟨?_, k1⟩
  have Rh := R.hid.hold (p := q) s hq ⟨_, hq', rfl⟩
  obtain ⟨R2, _⟩ := Rh.upd0 (a := p) (o := .dK (((kvs ++ [(k, D.dct [])]).map (·.1)).zip ((as ++ [q]).map V.ref))) (F2 := F.tab p (as ++ [q]) os (L2.upd H' p (.dK (((kvs ++ [(k, D.dct [])]).map (·.1)).zip ((as ++ [q]).map V.ref))))) (.inl (.inr (.inl rfl))) rfl (fun a => by
    show (F.A0 a ∨ a = p ∨ a ∈ as ++ [q]) ↔ ((F.A0 a ∨ a = p ∨ a ∈ as) ∨ a = q)
    rw [List.mem_append, List.mem_singleton]
    constructor
    · rintro (z | z | z | z)
      · exact .inl (.inl z)
      · exact .inl (.inr (.inl z))
      · exact .inl (.inr (.inr z))
      · exact .inr z
    · rintro ((z | z | z) | z)
      · exact .inl z
      · exact .inr (.inl z)
      · exact .inr (.inr (.inl z))
      · exact .inr (.inr (.inr z))) (fun a ha z => ⟨z.1, z.2.1, fun y => by
    rcases List.mem_append.mp y with y | y
    · exact z.2.2 y
    · exact qos (List.mem_singleton.mp y ▸ ha)⟩) fun _ => rfl
  refine ⟨by rw [List.set_set]; exact R2, by rw [List.length_set]; exact R.lt, ⟨_, List.getElem?_set_self R.lt, upd_same, ?_⟩, ?_, fun a ha => ?_, fun b o e ni => ?_, R.new⟩
  · have em : (kvs ++ [(k, D.dct [])]).map (·.2) = kvs.map (·.2) ++ [D.dct []] := List.map_append
    rw [em]
    refine Paired.snoc (paired_keep k1 ak (fun a ha => ?_) g2) (show RepO K _ _ (.dct []) q from ⟨[], by rw [upd_ne qp]; exact hq', by unfold RepK; rfl⟩)
    have : a ≠ p := fun z => nd.1 (z ▸ ha)
    obtain ⟨d, hd⟩ := paired_mem g2 ha
    obtain ⟨o, e⟩ := hd.some
    rw [e]
    exact hHq a o e this
  · rw [List.nodup_cons, List.mem_append, List.mem_singleton, List.nodup_append]
    refine ⟨fun z => z.elim nd.1 fun y => qp y.symm, nd.2, by simp, fun a ha b hb z => qas ?_⟩
    rw [← List.mem_singleton.mp hb, ← z]
    exact ha
  · rcases ha with z | z
    · exact R.out a (.inl z)
    · rcases List.mem_append.mp z with y | y
      · exact R.out a (.inr y)
      · have y := List.mem_singleton.mp y
        subst y
        refine ⟨fun w => nq (.inl (.inl w)), ?_⟩
        cases y : F.H0 a with
        | none => exact .inl rfl
        | some o =>
          by_cases w : F.io a
          · exact .inr w
          · have := R.same a o y w
            rw [hq] at this
            cases this
  · have := R.same b o e ni
    refine hHq b o this fun z => ?_
    rcases (R.out p (.inl rfl)).2 with y | y
    · rw [z, y] at e; cases e
    · exact ni (z ▸ y)
end
/-- x = {k: {}} -/
def newDD (t : Nat) (fa : Env → R D) : Env → R Env := fun r => (fa r).bind fun k => (R.ofO (keyD k)).bind fun k => if t < r.length then .ok (r.set t (.own (.dct [(k, .dct [])]))) else .stk
/-- x[k] = {}, k not yet there -/
def newR (t : Nat) (fk : Env → R D) : Env → R Fl := fun r => (fk r).bind fun k => (R.ofO (keyD k)).bind fun k => match r[t]? with
  | some (.own (.dct kvs)) => if (kvs.any fun kv => decide (kv.1 = k)) = false ∧ kvs.length < sizeLine then .ok (.nx (r.set t (.own (.dct (kvs ++ [(k, .dct [])]))))) else .stk
  | _ => .stk
/-- x[k][j] = e -/
def put2S (t : Nat) (fk fj fe : Env → R D) : Env → R Fl := fun r => (fe r).bind fun d => (fk r).bind fun k => (R.ofO (keyD k)).bind fun k => match r[t]? with
  | some (.own (.dct kvs)) => match getD_ kvs k with
    | some (.dct row) => (fj r).bind fun j => (R.ofO (keyD j)).bind fun j => if flatD d = true ∧ row.length < sizeLine then .ok (.nx (r.set t (.own (.dct (setR kvs k (.dct (putD row j d))))))) else .stk
    | _ => .stk
  | _ => .stk
section
variable {X : Cx} {W : WX} {e a ix jx : Expr} {pos pos' : Pos} {x : Str} {k : Nat}
end
end DL

end
section
/-! ### a dict of dicts is shown at last: its rows stand still -/
namespace DL
open PySem L2
def tLockN (t : TS) : TS := fun D σ H => ∃ as : List Addr, as.Nodup ∧ (∀ a ∈ as, ∃ u, H a = some u ∧ Mut (some u)) ∧ ∀ H' : Hp, (∀ a ∈ as, ∃ od u, H a = some u ∧ H' a = some (.frz od u)) → (∀ b, b ∉ as → H' b = H b) → t D σ H'
section
variable {K : PySem.W.Frag} {F : Fm} {os os' : List (Option Addr)} {r r' : Env} {σ σ' : St} {H H' : Hp} {t : Nat} {p : Addr} {as as' : List Addr}
/-- the rows stand still -/
def frzR : List (Key × D) → Option (List (Key × D))
  | [] => some []
  | (k, .dct l) :: r => (frzR r).map fun m => (k, .dctF l) :: m
  | _ :: _ => none
end
def fzT (t : Nat) (f : Env → R Fl) : Env → R Fl := fun r => match r[t]? with
  | some (.own (.dct kvs)) => (R.ofO (frzR kvs)).bind fun m => f (r.set t (.own (.dct m)))
  | _ => .stk
end DL

end
section
/-! ### lists of lists -/
namespace DL
open PySem L2
section
variable {K : PySem.W.Frag} {F : Fm} {os os' : List (Option Addr)} {r r' : Env} {σ σ' : St} {H H' : Hp} {t : Nat} {p : Addr} {as as' : List Addr}
end
/-- x[i][j] = e, x a list of lists -/
def itm2S (t : Nat) (fi fj fe : Env → R D) : Env → R Fl := fun r => (fe r).bind fun d => (fi r).bind fun i => (R.ofO (asI i)).bind fun i => match r[t]? with
  | some (.own (.lst rows)) => (R.ofO (ixN rows.length i)).bind fun i => match rows[i]? with
    | some (.lst row) => (fj r).bind fun j => (R.ofO (asI j)).bind fun j => (R.ofO (ixN row.length j)).bind fun j => if flatD d = true then .ok (.nx (r.set t (.own (.lst (rows.set i (.lst (row.set j d))))))) else .stk
    | _ => .stk
  | _ => .stk
/-- x[i][j] op= e -/
def itm2A (t : Nat) (g : D → D → Option D) (fi fj fe : Env → R D) : Env → R Fl := fun r => (fi r).bind fun i => (R.ofO (asI i)).bind fun i => match r[t]? with
  | some (.own (.lst rows)) => (R.ofO (ixN rows.length i)).bind fun i => match rows[i]? with
    | some (.lst row) => (fj r).bind fun j => (R.ofO (asN j)).bind fun n => (R.ofO row[n]?).bind fun x => (fe r).bind fun y => (R.ofO (g x y)).bind fun d => if flatD d = true then .ok (.nx (r.set t (.own (.lst (rows.set i (.lst (row.set n d))))))) else .stk
    | _ => .stk
  | _ => .stk
section
variable {X : Cx} {W : WX} {e a ix jx : Expr} {pos pos' : Pos} {x : Str} {k : Nat}
end
end DL

end
section
/-! ### a new list of new lists or dicts, by a comprehension -/
namespace DL
open PySem L2
def cF (K : PySem.W.Frag) (mg : Str → Option Value) (W : WX) (f : Env → R D) : TE := fun σ H Q => ∃ F os r, Rel K F os r σ H ∧
  Sat (fun d => ∀ p H', Same H H' → H p = none → RepO K H' (Ad (Av F.A0 os) p) d p → Q (.ref p) H') (ErK K mg W F) (f r)
theorem DF.can {X : Cx} {W : WX} {e : Expr} {f : Env → R D} (h : DF X W e f) : PE X e (cF X.K X.mg W f) := by
  obtain ⟨t, pe, w⟩ := h
  exact ⟨fun pins s σ H Q I ⟨F, os, r, R, S⟩ => pe.run pins s σ H Q I (w F os r σ H Q R S)⟩
def newLL (t : Nat) (own : List (Str × Nat)) (h : Env → R (List D)) (g : D → Env → R Env) (f : Env → R D) : Env → R Env := fun r => if noOwn (own.map (·.2)) r = true ∧ t < r.length then (h r).bind fun items => if items.length ≤ sizeLine then (lcP g yesB f (wipeE r (own.map (·.2))) items).bind fun ds => .ok (r.set t (.own (.lst ds))) else .stk else .stk
section
variable {X : Cx} {W : WX} {elt tg iter : Expr} {scope : Scope} {own : List (Str × Nat)} {pos : Pos} {ks : List Nat} {h : Env → R (List D)} {g : D → Env → R Env} {f : Env → R D} {y : Str} {py spos : Pos}
end
end DL

end
section
/-! ### lists of dicts -/
namespace DL
open PySem L2
/-- x[i][k] = e, x a list of dicts -/
def putLS (t : Nat) (fi fj fe : Env → R D) : Env → R Fl := fun r => (fe r).bind fun d => (fi r).bind fun i => (R.ofO (asI i)).bind fun i => match r[t]? with
  | some (.own (.lst rows)) => (R.ofO (ixN rows.length i)).bind fun i => match rows[i]? with
    | some (.dct row) => (fj r).bind fun j => (R.ofO (keyD j)).bind fun j => if flatD d = true ∧ row.length < sizeLine then .ok (.nx (r.set t (.own (.lst (rows.set i (.dct (putD row j d))))))) else .stk
    | _ => .stk
  | _ => .stk
section
variable {X : Cx} {W : WX} {e a ix jx : Expr} {pos pos' : Pos} {x : Str} {k : Nat}
end
end DL

end
section
/-! ### lists of dicts: a row is left for a new one -/
namespace DL
open PySem L2
section
variable {K : PySem.W.Frag} {F : Fm} {os os' : List (Option Addr)} {r r' : Env} {σ σ' : St} {H H' : Hp} {t : Nat} {p : Addr} {as as' : List Addr}
end
/-- x[i] = {}, x a list of dicts -/
def newRL (t : Nat) (fi : Env → R D) : Env → R Fl := fun r => (fi r).bind fun i => (R.ofO (asI i)).bind fun i => match r[t]? with
  | some (.own (.lst rows)) => (R.ofO (ixN rows.length i)).bind fun i => .ok (.nx (r.set t (.own (.lst (rows.set i (.dct []))))))
  | _ => .stk
section
variable {X : Cx} {W : WX} {e a ix jx : Expr} {pos pos' : Pos} {x : Str} {k : Nat}
end
end DL

end
section
/-! ### a name for a row of a table, for one statement -/
namespace DL
open PySem L2
section
variable {K : PySem.W.Frag} {F : Fm} {os os' : List (Option Addr)} {r r' : Env} {σ σ' : St} {H H' : Hp} {t c : Nat} {p : Addr} {as as' : List Addr}
end
end DL

end
section
/-! ### y = x[i]; y changed: x a list of lists or dicts -/
namespace DL
open PySem L2
noncomputable section
def noIoB (c : Nat) (r : Env) : Bool := (r.set c .un).all fun s => match s with
  | .io _ => false
  | _ => true
def curS (t c : Nat) (fi : Env → R D) (f2 : Env → R Fl) : Env → R Fl := fun r => (fi r).bind fun i => (R.ofO (asI i)).bind fun i => match r[t]? with
  | some (.own (.lst rows)) => (R.ofO (ixN rows.length i)).bind fun i => match rows[i]? with
    | some row => if noIoB c r = true ∧ c ≠ t ∧ c < r.length then (hidE t (nxE f2) (r.set c (.io row))).bind fun r1 => match r1[c]? with
        | some (.io d) => .ok (.nx ((r1.set t (.own (.lst (rows.set i d)))).set c .un))
        | _ => .stk
      else .stk
    | none => .stk
  | _ => .stk
section
variable {K : PySem.W.Frag} {F : Fm} {os os' : List (Option Addr)} {r r' : Env} {σ σ' : St} {H H' : Hp} {t c : Nat} {p : Addr} {as as' : List Addr}
def Fm.cur (F : Fm) (p : Addr) (as : List Addr) (os : List (Option Addr)) (H : Hp) (c : Nat) (a : Addr) : Fm := ⟨fun x => (F.A0 x ∨ x = p ∨ x ∈ as) ∧ x ≠ a, fun b => if some b ∈ os.set c none then none else H b, fun x => x = a⟩
end
section
variable {X : Cx} {W : WX} {e a ix jx : Expr} {pos pos' : Pos} {x y : Str} {k : Nat} {st : Stmt} {sts : List Stmt}
end
end
end DL

end
section
/-! ### y = what is read out of a table -/
namespace DL
open PySem L2
/-- a plain value, or a tuple of them -/
def flt2 : D → Bool
  | .tup ds => ds.all flatD
  | d => flatD d
theorem set_getE {α : Type} {l : List α} {t : Nat} {s : α} (h : l[t]? = some s) : l.set t s = l := by
  apply List.ext_getElem?
  intro i
  by_cases e : t = i
  · subst e; rw [List.getElem?_set_self (List.getElem?_eq_some_iff.mp h).1, h]
  · rw [List.getElem?_set_ne e]
/-- y = a new list of what is read out of the table t -/
def rdO (t c : Nat) (f : Env → R D) : Env → R Fl := fun r => (f r).bind fun d => match d with
  | .lst ds => if ds.all flt2 = true ∧ c ≠ t then .ok (.nx (r.set c (.own (.lst ds)))) else .stk
  | _ => .stk
/-- the same; nobody changes it -/
def rdF (t c : Nat) (f : Env → R D) : Env → R Fl := fun r => (f r).bind fun d => match d with
  | .lst ds => if ds.all flt2 = true ∧ c ≠ t then .ok (.nx (r.set c (.sh (.lst ds)))) else .stk
  | _ => .stk
/-- y = a value that is read out of the table t -/
def rdV (t c : Nat) (f : Env → R D) : Env → R Fl := fun r => (f r).bind fun d => if flt2 d = true ∧ c ≠ t then .ok (.nx (r.set c (.sh d))) else .stk
section
variable {X : Cx} {W : WX} {e a ix jx : Expr} {pos pos' : Pos} {x y : Str} {k : Nat} {st : Stmt} {sts : List Stmt}
theorem RelN.env {K : PySem.W.Frag} {F : Fm} {os os' : List (Option Addr)} {r : Env} {σ σ' : St} {H H' : Hp} {t c : Nat} {p : Addr} {as : List Addr} (R : RelN K F t p as os r σ H) {s : Slot} (ct : c ≠ t) (R' : Rel K (F.tab p as os H) os' ((r.set t (.sh (.ref p))).set c s) σ' H') (k : Keep (An F p as os) (An F p as os') H H') : RelN K F t p as os' (r.set c s) σ' H' := by
  obtain ⟨T, h1, _⟩ := R.tab
  have b := R.back R' (by rw [List.getElem?_set_ne ct, List.getElem?_set_self R.lt]) k h1
  rw [List.set_comm _ _ ct, List.set_set, set_getE h1] at b
  exact b
end
end DL

end
section
set_option maxHeartbeats 4000000
namespace DL
open PySem PySem.Spec PyProof.Rows L2 PySem.Froz PpSet
/-! ### {elt for target in iter if .. for target1 in iter1 if ..}, elt a text -/
section
variable {prog : Program} {w : World} {A : Around} {R : Result → Shared → Prop} {s : Shared} {elt tg iter tg1 iter1 : Expr} {ifs ifs1 : List Expr} {scope : Scope} {pos : Pos} {it acc : Value} {env : PySem.Env}
end
section
variable {X : Cx}
def tSc2 (P : Program) (w : World) (wi : TI) (g : TG) (tt : TT) (wi1 : TI) (g1 : TG) (tt1 : TT) (te : TE) (vs vs1 : List Nat) : TE := fun σ H Q => wi σ H fun J H1 => ∀ D, H1 D = none → ∃ W : Nat → Nat → Hp → Prop, (∃ m, W 0 m (upd H1 D (SetTO P w D []))) ∧ ∀ i m H, W i m H →
  (J.stop i H ∧ Q (.ref D) H) ∨ (J.go i H ∧ ∃ Nx : Hp → Prop, (∀ H', Nx H' → ∃ m', m' < m ∧ W (i + 1) m' H') ∧ ∀ x H', J.yld i H x H' → g x (L2.wipe σ vs) H' fun σ2 H2 => L2.wipe σ2 vs = L2.wipe σ vs ∧ tt σ2 H2 fun b H3 =>
    if b = true then wi1 σ2 H3 fun J1 H4 => ∃ W1 : Nat → Nat → Hp → Prop, (∃ m, W1 0 m H4) ∧ ∀ j k H, W1 j k H →
      (J1.stop j H ∧ Nx H) ∨ (J1.go j H ∧ ∃ Nx1 : Hp → Prop, (∀ H', Nx1 H' → ∃ k', k' < k ∧ W1 (j + 1) k' H') ∧ ∀ x H', J1.yld j H x H' → g1 x (L2.wipe σ2 vs1) H' fun σ3 H5 => L2.wipe σ3 vs1 = L2.wipe σ2 vs1 ∧ tt1 σ3 H5 fun b H6 =>
        if b = true then te σ3 H6 fun y H7 => ∃ (c : PySem.Str) (l : List PySem.Str), y = .str c ∧ H7 D = some (SetTO P w D l) ∧ l.length + 1 < scanBound ∧ Nx1 (upd H7 D (SetTO P w D (insT l c))) else Nx1 H6)
    else Nx H3)
end
end DL

end
section
set_option maxHeartbeats 4000000
namespace DL
open PySem L2
/-! ### over data: sorted({elt for target in iter if .. for target1 in iter1 if ..}) -/
def srtSc2D (own : List (Str × Nat)) (h : Env → R (List D)) (g : D → Env → R Env) (c : Env → R Bool) (h1 : Env → R (List D)) (vs1 : List Nat) (g1 : D → Env → R Env) (c1 : Env → R Bool) (f : Env → R D) : Env → R D := fun r =>
  if noOwn (own.map (·.2)) r = true then (h r).bind fun items => (R.ne (lc2P g c h1 vs1 g1 c1 f (wipeE r (own.map (·.2))) items)).bind fun ds =>
    (R.ofO (strsOf ds)).bind fun ss => if ss.length + 1 < scanBound then .ok (.lst ((sortStr (dedT ss)).map D.str)) else .stk else .stk
section
variable {X : Cx} {W : WX} {elt tg iter tg1 iter1 : Expr} {ifs ifs1 : List Expr} {scope : Scope} {own : List (Str × Nat)} {p pos pos2 : Pos} {ks k1 vs1 : List Nat} {h h1 : Env → R (List D)} {g g1 : D → Env → R Env} {c c1 : Env → R Bool} {f : Env → R D}
end
end DL

end
section
set_option maxHeartbeats 2000000
namespace DL
open PySem L2
/-! ### sorted({elt for target in iter if ..}): as many unlike texts as a set may have -/
def srtScUD (own : List (Str × Nat)) (h : Env → R (List D)) (g : D → Env → R Env) (c : Env → R Bool) (f : Env → R D) : Env → R D := fun r => if noOwn (own.map (·.2)) r = true then (h r).bind fun items => (R.ne (lcP g c f (wipeE r (own.map (·.2))) items)).bind fun ds =>
    (R.ofO (strsOf ds)).bind fun ss => if (dedT ss).length + 1 < scanBound then .ok (.lst ((sortStr (dedT ss)).map D.str)) else .stk else .stk
section
variable {X : Cx} {W : WX} {elt tg iter : Expr} {ifs : List Expr} {scope : Scope} {own : List (Str × Nat)} {p pos pos2 : Pos} {ks : List Nat} {h : Env → R (List D)} {g : D → Env → R Env} {c : Env → R Bool} {f : Env → R D}
end
end DL

end
section
namespace DL
open PySem L2 PyProof.Rows
/-! ### a tuple times a number from 0 on -/
def rMul0 (K : PySem.W.Frag) : R2 := fun x y H Q => ∃ (l : Addr) (k : Int) (xs : List V), x = .ref l ∧ y = .int k ∧ SqT K H l xs ∧ xs ≠ [] ∧ k ≤ 0 ∧ -1000 ≤ k ∧ ∀ p, H p = none → Q (.ref p) (upd H p (.tup []))
def mulTZ (x y : D) : Option D := match x, y with
  | .tup xs, .int k => if k ≤ 0 then (if xs.isEmpty = false ∧ -1000 ≤ k then some (.tup []) else none) else mulTD x y
  | _, _ => none
end DL

end
section
set_option maxHeartbeats 2000000
namespace DL
open PySem L2
/-! ### dict(zip(a, b)) of two things that are drawn from -/
section
variable {prog : Program} {w : World} {A : Around} {E : Value → Shared → Prop} {s : Shared} {z TI TO i1 i2 T : Addr} {fp1 fp2 : List Addr} {n1 n2 i : Nat} {P1 P2 : Nat → Value → Prop} {St1 St2 : Nat → Heap → Prop} {f : Bool} {oT : Obj}
theorem zh_item {Q : Value → Shared → Prop} (S : ZipSep2 z TI TO i1 i2 fp1 fp2) (D1 : Draws prog w A i1 fp1 n1 P1 St1) (D2 : Draws prog w A i2 fp2 n2 P2 St2)
    (hz : IsZipHeld s.heap z TI TO T f) (hT : s.heap.get? T = some oT) (hTI : IsTupOf2 s.heap TI (.ref i1) (.ref i2)) (st1 : St1 i s.heap) (st2 : St2 i s.heap) (hlt1 : i < n1) (hlt2 : i < n2)
    (hQ : ∀ x1 x2 h' tk, P1 i x1 → P2 i x2 → IsZipHeld h' z TI TO T true → St1 (i + 1) h' → St2 (i + 1) h' → IsTupOf2 h' s.heap.objs.size x1 x2 → h'.objs.size = s.heap.objs.size + 1 →
      (∀ c o, c ≠ z → c ≠ i1 → c ≠ i2 → s.heap.get? c = some o → h'.get? c = some o) → Q (.ref s.heap.objs.size) { s with heap := h', toks := tk }) :
    wpAny (model prog w) A (Builtin.«zip.__next__» ⟨[.ref z], []⟩) (fun fin s' => ∃ v, fin = .done (.ret v) ∧ Q v s') E s := by
  obtain ⟨hp, g, d, tk0, os⟩ := s
  show wpAny _ _ (field (.ref z) 2 >>= _) _ _ _
  refine wpAny_bind (wpAny_field hz rfl (x := .bool false) rfl ?_)
  show wpAny _ _ (field (.ref z) 3 >>= _) _ _ _
  refine wpAny_bind (wpAny_field hz rfl (x := .ref TI) rfl ?_)
  refine wpAny_bind (wpAny_seqItems hTI rfl ?_)
  show wpAny _ _ (Builtin.SmallTypes.ownedTupleIsFree (.ref z) >>= _) _ _ _
  refine wpAny_bind (wpAny_tupleHeld_zip hz hT fun g0 hz0 hs0 => ?_)
  replace hs0 : Heap.SameBut z hp g0 := hs0
  simp only [Bool.false_eq_true, if_false]
  refine wpAny_bind ?_
  rw [← Array.forIn_toList]
  simp only [List.forIn_cons, List.forIn_nil]
  refine wpAny_bind (wpAny_bind (wpAny_holding ?_))
  show wpAny _ _ (Builtin.SmallTypes.nextOf (.ref i1) >>= _) _ _ ⟨g0, g, d, tk0, os⟩
  refine wpAny_bind (D1.item i _ _ _ hlt1 (D1.over st1 hs0 S.zf1) fun x1 p1 tk1 hx1 sn1 hp1 => wpAny_pure ?_)
  replace hp1 : Heap.SameBut i1 g0 p1 := hp1
  refine wpAny_pure ?_
  refine wpAny_bind (wpAny_bind (wpAny_holding ?_))
  show wpAny _ _ (Builtin.SmallTypes.nextOf (.ref i2) >>= _) _ _ ⟨p1, g, d, tk1, os⟩
  refine wpAny_bind (D2.item i _ _ _ hlt2 (D2.over (D2.over st2 hs0 S.zf2) hp1 S.sep1_2) fun x2 p2 tk2 hx2 sn2 hp2 => wpAny_pure ?_)
  replace hp2 : Heap.SameBut i2 p1 p2 := hp2
  refine wpAny_pure (wpAny_pure ?_)
  show wpAny _ _ (newTuple [x1, x2] >>= _) _ _ ⟨p2, g, d, tk2, os⟩
  refine wpAny_bind (wpAny_newTuple ?_)
  have hsz : p2.objs.size = hp.objs.size := by rw [hp2.1, hp1.1, hs0.1]
  have hz3 : IsZipHeld p2 z TI TO T true := hp2.extBut _ _ S.zi2 (hp1.extBut _ _ S.zi1 hz0)
  have hk : ∀ c o, c ≠ z → c ≠ i1 → c ≠ i2 → hp.get? c = some o → p2.get? c = some o := fun c o c1 c2 c3 e => hp2.extBut _ _ c3 (hp1.extBut _ _ c2 (hs0.extBut _ _ c1 e))
  have hj1 : St1 (i + 1) p2 := D1.over sn1 hp2 S.sep2_1
  have hj2 : St2 (i + 1) p2 := sn2
  refine wpAny_pure ⟨_, rfl, ?_⟩
  show Q (.ref p2.objs.size) ⟨p2.push { cls := .type "tuple", data := .seq #[x1, x2] }, g, d, tk2, os⟩
  have hpp : IsTupOf2 (p2.push { cls := .type "tuple", data := .seq #[x1, x2] }) p2.objs.size x1 x2 := Heap.get?_push_size _ rfl
  have hz4 : (p2.push { cls := .type "tuple", data := .seq #[x1, x2] }).objs.size = p2.objs.size + 1 := Heap.size_push ..
  rw [hsz] at hpp hz4 ⊢
  exact hQ x1 x2 _ tk2 hx1 hx2 (Heap.get?_push_of_some _ hz3) (D1.frame _ _ _ hj1 fun b _ o e => Heap.get?_push_of_some _ e) (D2.frame _ _ _ hj2 fun b _ o e => Heap.get?_push_of_some _ e) hpp hz4 fun c o c1 c2 c3 e => Heap.get?_push_of_some _ (hk c o c1 c2 c3 e)
theorem zh_end {Q : Fin → Shared → Prop} (S : ZipSep2 z TI TO i1 i2 fp1 fp2) (D1 : Draws prog w A i1 fp1 n1 P1 St1) (D2 : Draws prog w A i2 fp2 n2 P2 St2)
    (hz : IsZipHeld s.heap z TI TO T f) (hT : s.heap.get? T = some oT) (hTI : IsTupOf2 s.heap TI (.ref i1) (.ref i2)) (st1 : St1 i s.heap) (st2 : St2 i s.heap) (hle1 : i ≤ n1) (hle2 : i ≤ n2) (hend : i = n1 ∨ i = n2)
    (hE : ∀ h' tk e, (∀ c o, c ≠ z → c ≠ i1 → c ≠ i2 → s.heap.get? c = some o → h'.get? c = some o) → (∃ o, h'.get? e = some o ∧ o.cls = .type "StopIteration") → E (.ref e) { s with heap := h', toks := tk }) :
    wpAny (model prog w) A (Builtin.«zip.__next__» ⟨[.ref z], []⟩) Q E s := by
  obtain ⟨hp, g, d, tk0, os⟩ := s
  show wpAny _ _ (field (.ref z) 2 >>= _) _ _ _
  refine wpAny_bind (wpAny_field hz rfl (x := .bool false) rfl ?_)
  show wpAny _ _ (field (.ref z) 3 >>= _) _ _ _
  refine wpAny_bind (wpAny_field hz rfl (x := .ref TI) rfl ?_)
  refine wpAny_bind (wpAny_seqItems hTI rfl ?_)
  show wpAny _ _ (Builtin.SmallTypes.ownedTupleIsFree (.ref z) >>= _) _ _ _
  refine wpAny_bind (wpAny_tupleHeld_zip hz hT fun g0 hz0 hs0 => ?_)
  replace hs0 : Heap.SameBut z hp g0 := hs0
  simp only [Bool.false_eq_true, if_false]
  refine wpAny_bind ?_
  rw [← Array.forIn_toList]
  simp only [List.forIn_cons, List.forIn_nil]
  refine wpAny_bind (wpAny_bind (wpAny_holding ?_))
  show wpAny _ _ (Builtin.SmallTypes.nextOf (.ref i1) >>= _) _ _ ⟨g0, g, d, tk0, os⟩
  by_cases hlt1 : i < n1
  · refine wpAny_bind (D1.item i _ _ _ hlt1 (D1.over st1 hs0 S.zf1) fun x1 p1 tk1 hx1 sn1 hp1 => wpAny_pure ?_)
    replace hp1 : Heap.SameBut i1 g0 p1 := hp1
    have hi2 : i = n2 := by omega
    refine wpAny_pure ?_
    refine wpAny_bind (wpAny_bind (wpAny_holding ?_))
    show wpAny _ _ (Builtin.SmallTypes.nextOf (.ref i2) >>= _) _ _ ⟨p1, g, d, tk1, os⟩
    refine wpAny_bind (D2.done ⟨p1, g, d, tk1, os⟩ _ _ (by rw [← hi2]; exact (D2.over (D2.over st2 hs0 S.zf2) hp1 S.sep1_2)) fun q e hq he => ?_)
    replace hq : Heap.ExtBut i2 p1 q := hq
    exact hE q tk1 e (fun c o cz c1 c2 x => hq _ _ c2 (hp1.extBut _ _ c1 (hs0.extBut _ _ cz x))) he
  · have hi1 : i = n1 := by omega
    refine wpAny_bind (D1.done ⟨g0, g, d, tk0, os⟩ _ _ (by rw [← hi1]; exact (D1.over st1 hs0 S.zf1)) fun q e hq he => ?_)
    replace hq : Heap.ExtBut i1 g0 q := hq
    exact hE q tk0 e (fun c o cz c1 c2 x => hq _ _ c1 (hs0.extBut _ _ cz x)) he
theorem zh_next_item {Q : Option Value → Shared → Prop} (S : ZipSep2 z TI TO i1 i2 fp1 fp2) (D1 : Draws prog w A.in1 i1 fp1 n1 P1 St1) (D2 : Draws prog w A.in1 i2 fp2 n2 P2 St2)
    (hz : IsZipHeld s.heap z TI TO T f) (hT : s.heap.get? T = some oT) (hTI : IsTupOf2 s.heap TI (.ref i1) (.ref i2)) (st1 : St1 i s.heap) (st2 : St2 i s.heap) (hlt1 : i < n1) (hlt2 : i < n2)
    (hQ : ∀ x1 x2 h' tk, P1 i x1 → P2 i x2 → IsZipHeld h' z TI TO T true → St1 (i + 1) h' → St2 (i + 1) h' → IsTupOf2 h' s.heap.objs.size x1 x2 → h'.objs.size = s.heap.objs.size + 1 →
      (∀ c o, c ≠ z → c ≠ i1 → c ≠ i2 → s.heap.get? c = some o → h'.get? c = some o) → Q (some (.ref s.heap.objs.size)) { s with heap := h', toks := tk }) :
    wpAny (model prog w) A (pyNext (.ref z)) Q E s := by
  have hTy : s.TypeIs (.ref z) "zip" := ⟨_, hz, rfl⟩
  unfold pyNext
  exact wpAny_bind (wpAny_attempt (wpAny_callSpecial?_slot (name := Str.ofString "__next__") hTy F.slot_zip_next
    (wpAny_call_entry F.slot_zip_next hTy F.entry_zip_next
      (zh_item S D1 D2 hz hT hTI st1 st2 hlt1 hlt2 fun x1 x2 h' tk y1 y2 b1 b2 d1 d2 b5 b6 => wpAny_pure (hQ x1 x2 h' tk y1 y2 b1 b2 d1 d2 b5 b6)) (F.args_zip_next_1 _))))
theorem zh_next_end {Q : Option Value → Shared → Prop} (S : ZipSep2 z TI TO i1 i2 fp1 fp2) (D1 : Draws prog w A.in1 i1 fp1 n1 P1 St1) (D2 : Draws prog w A.in1 i2 fp2 n2 P2 St2)
    (hz : IsZipHeld s.heap z TI TO T f) (hT : s.heap.get? T = some oT) (hTI : IsTupOf2 s.heap TI (.ref i1) (.ref i2)) (st1 : St1 i s.heap) (st2 : St2 i s.heap) (hle1 : i ≤ n1) (hle2 : i ≤ n2) (hend : i = n1 ∨ i = n2)
    (hQ : ∀ h' tk, (∀ c o, c ≠ z → c ≠ i1 → c ≠ i2 → s.heap.get? c = some o → h'.get? c = some o) → Q none { s with heap := h', toks := tk }) : wpAny (model prog w) A (pyNext (.ref z)) Q E s := by
  have hTy : s.TypeIs (.ref z) "zip" := ⟨_, hz, rfl⟩
  unfold pyNext
  refine wpAny_bind (wpAny_attempt (wpAny_callSpecial?_slot (name := Str.ofString "__next__") hTy F.slot_zip_next
    (wpAny_call_entry F.slot_zip_next hTy F.entry_zip_next (zh_end S D1 D2 hz hT hTI st1 st2 hle1 hle2 hend fun h' tk e hk he => ?_) (F.args_zip_next_1 _))))
  obtain ⟨o, ho, hc⟩ := he
  refine wpAny_bind (wpAny_isInstance (T := "StopIteration") (b := true) ⟨o, ho, hc⟩ isSubtype_stop ?_)
  exact wpAny_pure (hQ _ _ hk)
theorem zipD_arg (S : ZipSep2 z TI TO i1 i2 fp1 fp2) (D1 : ∀ A : Around, A.handled = none → Draws prog w A i1 fp1 n1 P1 St1) (D2 : ∀ A : Around, A.handled = none → Draws prog w A i2 fp2 n2 P2 St2) (th1 : ∀ h, St1 0 h → ∀ b ∈ fp1, ∃ o, h.get? b = some o) (th2 : ∀ h, St2 0 h → ∀ b ∈ fp2, ∃ o, h.get? b = some o) :
    PairArg prog w "zip" z (z :: TI :: TO :: (fp1 ++ fp2)) [z, TO, i1, i2] (min n1 n2) (fun i k v => P1 i k ∧ P2 i v)
      (fun h => IsZip h z TI TO .none ∧ IsTupOf2 h TI (.ref i1) (.ref i2) ∧ (∃ a b, IsTupOf2 h TO a b) ∧ St1 0 h ∧ St2 0 h) where
  type := fun s ok => ⟨_, ok.1, rfl⟩
  notDict := by decide
  keep := fun h h' ok hk => by
    obtain ⟨hz, hTI, ⟨a, b, hTO⟩, h1, h2⟩ := ok
    exact ⟨hk _ _ hz, hk _ _ hTI, ⟨a, b, hk _ _ hTO⟩, (D1 {} rfl).frame _ _ _ h1 fun b _ o e => hk _ o e, (D2 {} rfl).frame _ _ _ h2 fun b _ o e => hk _ o e⟩
  there := fun h ok b hb => by
    obtain ⟨hz, hTI, ⟨a, c, hTO⟩, h1, h2⟩ := ok
    simp only [List.mem_cons, List.mem_append] at hb
    rcases hb with rfl | rfl | rfl | y | y
    · exact ⟨_, hz⟩
    · exact ⟨_, hTI⟩
    · exact ⟨_, hTO⟩
    · exact th1 h h1 b y
    · exact th2 h h2 b y
  sub := fun b hb => by
    simp only [List.mem_cons, List.not_mem_nil, or_false] at hb
    simp only [List.mem_cons, List.mem_append]
    rcases hb with rfl | rfl | rfl | rfl
    · exact .inl rfl
    · exact .inr (.inr (.inl rfl))
    · exact .inr (.inr (.inr (.inl S.mem1)))
    · exact .inr (.inr (.inr (.inr S.mem2)))
  noKeys := fun A s Q E hA ok h => getAttrOr_miss_zip ok.1 rfl rfl rfl zip_no_keys (by decide +kernel) hA h
  iter := fun A s d Q E hA ok hd hdf h => by
    obtain ⟨hz, hTI, ⟨a, b, hTO⟩, h1, h2⟩ := ok
    have hA1 : A.in1.handled = none := hA
    have D1 := D1 A.in1 hA1
    have D2 := D2 A.in1 hA1
    simp only [List.mem_cons, List.mem_append, not_or] at hdf
    obtain ⟨dz, dTI, dTO, df1, df2⟩ := hdf
    refine wpAny_pyIter_zip hz (h z [z, TO, i1, i2] (fun i h => IsTupOf2 h TI (.ref i1) (.ref i2) ∧ St1 i h ∧ St2 i h ∧
      ((IsZip h z TI TO .none ∧ ∃ a b, IsTupOf2 h TO a b) ∨ ∃ T f oT, IsZipHeld h z TI TO T f ∧ h.get? T = some oT ∧ T ≠ z ∧ T ≠ i1 ∧ T ≠ i2 ∧ T ≠ d)) s.heap s.toks ?_
      ⟨hTI, h1, h2, .inl ⟨hz, a, b, hTO⟩⟩ (fun _ _ e => e) fun b hb => .inl hb)
    exact {
      off := fun hm => by
        simp only [List.mem_cons, List.not_mem_nil, or_false] at hm
        rcases hm with e | e | e | e
        · exact dz e
        · exact dTO e
        · exact df1 (e ▸ S.mem1)
        · exact df2 (e ▸ S.mem2)
      frame := fun i h₁ h₂ st hk => by
        obtain ⟨hTI, h1, h2, hz⟩ := st
        refine ⟨hk _ _ (Ne.symm dTI) hTI, D1.frame _ _ _ h1 fun b hb o e => hk _ o (fun q => df1 (q ▸ hb)) e, D2.frame _ _ _ h2 fun b hb o e => hk _ o (fun q => df2 (q ▸ hb)) e, ?_⟩
        rcases hz with ⟨hz, a, b, hTO⟩ | ⟨T, f, oT, hz, hT, r1, r2, r3, r4⟩
        · exact .inl ⟨hk _ _ (Ne.symm dz) hz, a, b, hk _ _ (Ne.symm dTO) hTO⟩
        · exact .inr ⟨T, f, oT, hk _ _ (Ne.symm dz) hz, hk _ _ r4 hT, r1, r2, r3, r4⟩
      item := fun i s₁ Q₁ E₁ hi st hds hQ => by
        obtain ⟨hTI, h1, h2, hz⟩ := st
        have hi1 : i < n1 := Nat.lt_of_lt_of_le hi (Nat.min_le_left ..)
        have hi2 : i < n2 := Nat.lt_of_lt_of_le hi (Nat.min_le_right ..)
        have lt : ∀ {c o}, s₁.heap.get? c = some o → s₁.heap.objs.size ≠ c := fun e => Nat.ne_of_gt (Heap.lt_size e)
        have m1 : s₁.heap.objs.size ≠ i1 := by obtain ⟨_, e⟩ := D1.live _ _ h1; exact lt e
        have m2 : s₁.heap.objs.size ≠ i2 := by obtain ⟨_, e⟩ := D2.live _ _ h2; exact lt e
        rcases hz with ⟨hz, a, b, hTO⟩ | ⟨T, f, oT, hz, hT, r1, r2, r3, r4⟩
        · refine wpAny_pyNext_zipD2_item S D1 D2 hz hTI hTO h1 h2 hi1 hi2 fun x1 x2 h' tk y1 y2 b1 b2 d1 d2 b5 b6 hk => ?_
          exact hQ s₁.heap.objs.size _ _ h' tk ⟨y1, y2⟩ (.inl ⟨_, b5, rfl, _, rfl⟩)
            ⟨hk _ _ S.TIz S.TITO S.TIi1 S.TIi2 hTI, d1, d2, .inr ⟨s₁.heap.objs.size, false, _, b1, b5, lt hz, m1, m2, Nat.ne_of_gt hds⟩⟩
            fun c o hc e => hk c o (fun x => hc (by simp [x])) (fun x => hc (by simp [x])) (fun x => hc (by simp [x])) (fun x => hc (by simp [x])) e
        · refine zh_next_item S D1 D2 hz hT hTI h1 h2 hi1 hi2 fun x1 x2 h' tk y1 y2 b1 d1 d2 b5 b6 hk => ?_
          exact hQ s₁.heap.objs.size _ _ h' tk ⟨y1, y2⟩ (.inl ⟨_, b5, rfl, _, rfl⟩)
            ⟨hk _ _ S.TIz S.TIi1 S.TIi2 hTI, d1, d2, .inr ⟨T, true, oT, b1, hk _ _ r1 r2 r3 hT, r1, r2, r3, r4⟩⟩
            fun c o hc e => hk c o (fun x => hc (by simp [x])) (fun x => hc (by simp [x])) (fun x => hc (by simp [x])) e
      done := fun s₁ Q₁ E₁ st hQ => by
        obtain ⟨hTI, h1, h2, hz⟩ := st
        have e1 : min n1 n2 ≤ n1 := Nat.min_le_left ..
        have e2 : min n1 n2 ≤ n2 := Nat.min_le_right ..
        have e3 : min n1 n2 = n1 ∨ min n1 n2 = n2 := by omega
        rcases hz with ⟨hz, a, b, hTO⟩ | ⟨T, f, oT, hz, hT, r1, r2, r3, r4⟩
        · exact wpAny_pyNext_zipD2_end S D1 D2 hz hTI hTO h1 h2 e1 e2 e3 fun h' tk hk => hQ h' tk fun c o hc e => hk c o (fun x => hc (by simp [x])) (fun x => hc (by simp [x])) (fun x => hc (by simp [x])) (fun x => hc (by simp [x])) e
        · exact zh_next_end S D1 D2 hz hT hTI h1 h2 e1 e2 e3 fun h' tk hk => hQ h' tk fun c o hc e => hk c o (fun x => hc (by simp [x])) (fun x => hc (by simp [x])) (fun x => hc (by simp [x])) e }
end
end DL

end
section
set_option maxHeartbeats 2000000
namespace DL
open PySem L2
/-! ### dict(zip(text, tuple)) -/
def keysT (x : Str) : List Key := x.cps.toList.map fun c => Sum.inr ⟨#[c]⟩
theorem vals_zip : ∀ (ks : List Key) {ys : List V} {us : List Value}, Vals ys us → KV (ks.zip ys) (ks.zip us)
  | [], _, _, _ => .nil
  | _ :: _, _, _, .nil => .nil
  | k :: ks, _, _, .cons h t => .cons ⟨rfl, h⟩ (vals_zip ks t)
def iDz (K : PySem.W.Frag) (ta : TA) : TE := fun σ H Q => ta σ H fun vs H1 => ∃ (x : Str) (l2 : Addr) (ys : List V), vs = [V.str x, V.ref l2] ∧ SqT K H1 l2 ys ∧ x.cps.size = ys.length ∧ ys.length ≤ sizeLine ∧ ∀ p, H1 p = none → Q (.ref p) (upd H1 p (.dK (mergeK [] ((keysT x).zip ys))))
theorem pe_dz {X : Cx} {a b : Expr} {ta : TA} {p p2 pos pos2 : Pos} (hc : X.calm = true) (hg : Gl X "dict") (hm : X.mg "dict" = none) (hg2 : Gl X "zip") (hm2 : X.mg "zip" = none) (ha : PA X [a, b] ta)
    (hs : starEach [a, b] X.env = (false, eval a X.env) :: starEach [b] X.env := by rfl) (hpl : (backTo pos2 (starEach [b] X.env)).any (·.1) = false := by rfl)
    (hs2 : starEach [.Call (.Name "zip" p2) [a, b] [] pos2] X.env = (false, eval (.Call (.Name "zip" p2) [a, b] [] pos2) X.env) :: starEach [] X.env := by rfl) :
    PE X (.Call (.Name "dict" p) [.Call (.Name "zip" p2) [a, b] [] pos2] [] pos) (iDz X.K ta) := by
  refine ⟨fun pins s σ H Q I h => ?_⟩
  refine PyProof.Rows.Call_ (ld_blt I hg hm PyProof.Rows.boot_dict (PyProof.Rows.callWith_type1 (PyProof.Rows.args_cons (PyProof.Rows.Call_ (ld_blt I hg2 hm2 PyProof.Rows.boot_zip (PyProof.Rows.callWith_type1 (thn (ha.run pos2 pins s σ H _ I h) fun us s1 q0 => ?_) hs hpl))) hs2) hs2 rfl))
  obtain ⟨vs, H1, I1, r1, x, l2, ys, ev, g2, len, lim, q⟩ := q0
  subst ev
  cases r1 with
  | cons r rr =>
    cases rr with
    | cons r' rr =>
      cases rr
      obtain ⟨o1, G1, B1, k1, t1⟩ := Zs.begins I1 (z := .s x) (xs := sgV x) rfl r
      obtain ⟨o2, G2, B2, k2, t2⟩ := Zs.begins I1 (z := .t l2) g2 r'
      obtain ⟨its, rv, ⟨ot, hot, hcl, ncl, hdt⟩, _⟩ := I1.tuple g2
      have hl2 : l2 < s1.heap.objs.size := Heap.lt_size hot
      have hh := I1.ok.hd hc
      refine zip_begins2 B1 B2 k1 k2 fun h' hz hT hO e1 e2 hsz k => PyProof.Rows.args_nil ?_
      obtain ⟨t, st1⟩ := t1 _ _ e1
      have st1 : h'.IsStrIter s1.heap.objs.size (strIterType x) x t 0 := st1
      have st2 : h'.IsTupleIter (s1.heap.objs.size + 1) l2 0 := t2 _ _ e2
      have I2 : Inv X pins σ H1 { s1 with heap := h' } := I1.kept (t' := s1.toks) k
      have hN : l2 ≠ s1.heap.objs.size + 1 := Nat.ne_of_lt (Nat.lt_succ_of_lt hl2)
      have e : its.toArray.size = ys.length := by rw [List.size_toArray, rv.length]
      have P := zipD_arg (prog := X.prog) (w := X.w) (zip_sep2 (N := s1.heap.objs.size) (fp1 := []) (fp2 := [l2]) (fun b hb => nomatch hb) (fun b hb => by rw [List.mem_singleton.mp hb]; exact hl2))
        (fun A hA => Draws.text (prog := X.prog) (w := X.w) hA s1.heap.objs.size x t) (fun A hA => Draws.tuple (prog := X.prog) (w := X.w) hA (s1.heap.objs.size + 1) l2 hN its.toArray)
        (fun h st b hb => by
          rw [List.mem_singleton.mp hb]
          obtain ⟨o, ho, _⟩ := st
          exact ⟨o, ho⟩)
        (fun h st b hb => by
          obtain ⟨⟨o, ho, _⟩, ⟨o', ho', _⟩⟩ := st
          rcases List.mem_cons.mp hb with y | y
          · rw [y]; exact ⟨o, ho⟩
          · rw [List.mem_singleton.mp y]; exact ⟨o', ho'⟩)
      rw [e, len, Nat.min_self] at P
      have fpk : ∀ b ∈ [s1.heap.objs.size + 4, s1.heap.objs.size + 3, s1.heap.objs.size, s1.heap.objs.size + 1], FpOk X pins H1 b := fun b hb => by
        have hle : s1.heap.objs.size ≤ b := by
          simp only [List.mem_cons, List.not_mem_nil, or_false] at hb
          rcases hb with y | y | y | y <;> rw [y] <;> omega
        exact I1.fpOk hle (I1.hok.fresh hle)
      have kl : (keysT x).length = ys.length := by
        unfold keysT
        rw [List.length_map, Array.length_toList, len]
      refine PySem.call_dict_pairs (A := X.A) (s := { s1 with heap := h' }) (knd := mixKind X.prog X.w) (kvs := (keysT x).zip its) P hh ⟨hz, hT, ⟨_, _, hO⟩, st1, st2, ⟨ot, k _ _ hot, hcl, ncl, hdt⟩⟩ ⟨?_, fun i key v hr => ?_⟩ lim fun h2 tk hd' kk => ?_
      · rw [List.length_zip, kl, ← rv.length, Nat.min_self]
      · obtain ⟨⟨c, u, e3, e4⟩, e5⟩ := hr
        refine ⟨.inr ⟨#[c]⟩, ?_, ?_⟩
        · rw [List.getElem?_zip_eq_some]
          refine ⟨?_, by simpa using e5⟩
          unfold keysT
          rw [List.getElem?_map, Array.getElem?_toList, e3]
          rfl
        · rw [e4]
          exact kV_is (k := .inr ⟨#[c]⟩) ⟨u, rfl⟩
      · have hm : (h'.objs.size == sysModules) = false := beq_eq_false_iff_ne.mpr (Nat.ne_of_gt I2.big)
        have rel : KV ((keysT x).zip ys) ((keysT x).zip its) := vals_zip _ rv
        have hlen : (mergeK [] ((keysT x).zip ys)).length ≤ sizeLine := by
          refine Nat.le_trans (length_mergeK _ []) ?_
          rw [List.length_nil, Nat.zero_add, List.length_zip, kl, Nat.min_self]
          exact lim
        have new : ObjOk X.prog X.w (upd H1 h'.objs.size (.dK (mergeK [] ((keysT x).zip ys)))) h2 h'.objs.size (.dK (mergeK [] ((keysT x).zip ys))) := ⟨hlen, hm, merged [] ((keysT x).zip its), KV.merge rel .nil, hd'⟩
        exact ⟨.ref h'.objs.size, upd H1 h'.objs.size (.dK (mergeK [] ((keysT x).zip ys))), I2.turnedNew (t' := tk) (ch := [s1.heap.objs.size + 4, s1.heap.objs.size + 3, s1.heap.objs.size, s1.heap.objs.size + 1]) kk fpk (Nat.le_refl _) new, rfl, q _ (I2.hok.fresh (Nat.le_refl _))⟩
def mrgD (kvs more : List (Key × D)) : List (Key × D) := more.foldl (fun acc kv => putD acc kv.1 kv.2) kvs
theorem repK_mrg {K : PySem.W.Frag} {H : Hp} {A : Addr → Prop} : ∀ {more : List (Key × D)} {us : List (Key × V)} {kvs : List (Key × D)} {vs : List (Key × V)}, RepK K H A more us → RepK K H A kvs vs → RepK K H A (mrgD kvs more) (mergeK vs us)
  | [], us, kvs, vs, h1, h2 => by
    unfold RepK at h1
    subst h1
    exact h2
  | (k, d) :: more, us, kvs, vs, h1, h2 => by
    unfold RepK at h1
    obtain ⟨v, r, e, h3, h4⟩ := h1
    subst e
    show RepK K H A (mrgD (putD kvs k d) more) (mergeK (putK vs k v) r)
    exact repK_mrg h4 (repK_put k h2 h3)
theorem repK_zip {K : PySem.W.Frag} {H : Hp} {A : Addr → Prop} : ∀ (ks : List Key) {ds : List D} {vs : List V}, RepL K H A ds vs → RepK K H A (ks.zip ds) (ks.zip vs)
  | [], ds, vs, _ => by show RepK K H A [] []; unfold RepK; rfl
  | k :: ks, [], vs, h => by
    unfold RepL at h
    subst h
    show RepK K H A [] []
    unfold RepK
    rfl
  | k :: ks, d :: ds, vs, h => by
    unfold RepL at h
    obtain ⟨v, r, e, h1, h2⟩ := h
    subst e
    exact repK_mk h1 (repK_zip ks h2)
def dzD : List D → Option D
  | [.str x, .tup ds] => if x.cps.size = ds.length ∧ ds.length ≤ sizeLine then some (.dct (mrgD [] ((keysT x).zip ds))) else none
  | _ => none
section
variable {X : Cx} {W : WX} {a b : Expr} {p p2 pos pos2 : Pos} {g : Env → R (List D)}
theorem d_dz (hc : X.calm = true) (hg : Gl X "dict") (hm : X.mg "dict" = none) (hg2 : Gl X "zip") (hm2 : X.mg "zip" = none) (ha : DBs X W [a, b] g)
    (hs : starEach [a, b] X.env = (false, eval a X.env) :: starEach [b] X.env := by rfl) (hpl : (backTo pos2 (starEach [b] X.env)).any (·.1) = false := by rfl)
    (hs2 : starEach [.Call (.Name "zip" p2) [a, b] [] pos2] X.env = (false, eval (.Call (.Name "zip" p2) [a, b] [] pos2) X.env) :: starEach [] X.env := by rfl) :
    DF X W (.Call (.Name "dict" p) [.Call (.Name "zip" p2) [a, b] [] pos2] [] pos) (appN dzD g) := by
  obtain ⟨t, pe, w⟩ := ha
  refine ⟨_, pe_dz hc hg hm hg2 hm2 pe hs hpl hs2, fun F os r σ H Q R S => w F os r σ H _ R (S.bind.imp fun ds S vs H1 s1 h1 => ?_)⟩
  obtain ⟨d, e, S⟩ := Sat.ofO S
  match ds, e with
  | [.str x, .tup xs], e =>
    obtain ⟨v, u, ev, q1, q2⟩ := rep2 h1
    have e : (if x.cps.size = xs.length ∧ xs.length ≤ sizeLine then some (D.dct (mrgD [] ((keysT x).zip xs))) else none) = some d := e
    by_cases hcn : x.cps.size = xs.length ∧ xs.length ≤ sizeLine
    · rw [if_pos hcn] at e
      cases e
      obtain ⟨l2, ws, e2, f2, r2⟩ := RepB.tup q2
      subst ev e2
      rw [RepB.str q1]
      have hl := repL_length r2
      have ak := (R.same' s1).AOk
      refine ⟨x, l2, ws, rfl, f2, by omega, by omega, fun p' n => S p' _ (s1.trans (same_upd n)) ?_ ⟨mergeK [] ((keysT x).zip ws), upd_same, ?_⟩⟩
      · cases z : H p' with
        | none => rfl
        | some o => rw [s1 _ _ z] at n; cases n
      · have kp : Keep (Av F.A0 os) (Ad (Av F.A0 os) p') H1 (upd H1 p' (.dK (mergeK [] ((keysT x).zip ws)))) := fun b o eb nb => ⟨by rw [upd_ne (ne_of_none eb n)]; exact eb, fun z => by
          rcases z with z | z
          · exact nb z
          · rw [z, n] at eb
            cases eb⟩
        exact RepK.keep kp ak _ _ (repK_mrg (repK_zip _ r2) (by unfold RepK; rfl))
    · rw [if_neg hcn] at e
      cases e
end
end DL

end
section
namespace DL
open PySem L2
/-! ### (number, text) < (number, text) -/
def ltIS (i : Int) (u : Str) (j : Int) (v : Str) : Bool := if i = j then (if u = v then false else decide (u.cps.toList < v.cps.toList)) else decide (i < j)
def rLtIS (K : PySem.W.Frag) : R2 := fun x y H Q => ∃ (a b : Addr) (i j : Int) (u v : Str), x = .ref a ∧ y = .ref b ∧ SqT K H a [V.int i, V.str u] ∧ SqT K H b [V.int j, V.str v] ∧ Q (.bl (ltIS i u j v)) H
def ltISD : D → D → Option D
  | .tup [.int i, .str u], .tup [.int j, .str v] => some (.bl (ltIS i u j v))
  | _, _ => none
end DL

end
section
namespace DL
open PySem L2
/-! ### for comprehensions whose element changes an own list: what is held beside is let go; the slots of the block come back -/
section
variable {K : PySem.W.Frag} {A0 : Addr → Prop} {H0 : Hp} {io : Addr → Prop} {os : List (Option Addr)} {r r' : Env} {σ : St} {H H' : Hp} {p : Addr}
theorem Rel.drop (R : Rel K ⟨Ad A0 p, H0, io⟩ os r σ H) : Rel K ⟨A0, H0, io⟩ os r σ H := by
  have ak := R.AOk
  have kp : Keep (Av (Ad A0 p) os) (Av A0 os) H H := fun b o e nb => ⟨e, fun z => nb (by
    rcases z with z | z
    · exact .inl (.inl z)
    · exact .inr z)⟩
  exact ⟨R.lens, R.leno, fun i s v o e1 e2 e3 => (R.slot i s v o e1 e2 e3).keep kp ak fun a z => rfl, R.inj, fun i a e z => R.out i a e (.inl z), fun a z => R.aok a (.inl z), R.same, R.new⟩
/-- the slots of a block as they stood before it -/
def backE (r r' : Env) : List Nat → Env
  | [] => r'
  | v :: vs => (backE r r' vs).set v (r.getD v .un)
theorem backE_len : ∀ (vs : List Nat), (backE r r' vs).length = r'.length
  | [] => rfl
  | v :: vs => by
    show ((backE r r' vs).set v _).length = _
    rw [List.length_set, backE_len vs]
theorem backE_get {i : Nat} {s : Slot} : ∀ {vs : List Nat}, (backE r r' vs)[i]? = some s → (i ∈ vs ∧ s = r.getD i .un) ∨ (i ∉ vs ∧ r'[i]? = some s)
  | [], h => .inr ⟨by simp, h⟩
  | v :: vs, h => by
    rcases getElem?_set_cases h with ⟨e, z⟩ | ⟨e, h⟩
    · subst e
      exact .inl ⟨List.mem_cons_self, z⟩
    · rcases backE_get h with ⟨m, z⟩ | ⟨m, z⟩
      · exact .inl ⟨List.mem_cons_of_mem _ m, z⟩
      · exact .inr ⟨fun w => (List.mem_cons.mp w).elim (fun x => e x.symm) m, z⟩
theorem Rel.back {F : Fm} {vs : List Nat} (R : Rel K F os r σ H) (hv : ∀ v ∈ vs, ∀ (s : Slot) (d : D), r[v]? = some s → s.cont ≠ some d) (R' : Rel K F os r' (L2.wipe σ vs) H') (k : Keep (Av F.A0 os) (Av F.A0 os) H H') : Rel K F os (backE r r' vs) σ H' := by
  have ll : r'.length = r.length := by rw [← R'.leno, R.leno]
  refine ⟨by rw [backE_len, ll, R.lens], by rw [backE_len, R'.leno], fun i s v o e1 e2 e3 => ?_, R'.inj, R'.out, R'.aok, R'.same, R'.new⟩
  rcases backE_get e1 with ⟨m, z⟩ | ⟨m, z⟩
  · have hi : i < r.length := by
      have := (List.getElem?_eq_some_iff.mp e2).1
      rw [R.lens] at this
      exact this
    have er : r[i]? = some s := by
      rw [z, List.getD_eq_getElem?_getD, List.getElem?_eq_getElem hi]
      rfl
    refine (R.slot i s v o er e2 e3).keep k R.AOk fun a w => ?_
    subst w
    obtain ⟨s', d, q1, q2, _⟩ := R.own e3
    exact absurd q2 (hv i m s' d q1)
  · exact R'.slot i s v o z (by rw [wipe_get m]; exact e2) e3
end
end DL

end
section
namespace DL
open PySem L2
/-! ### [elt for target in iter], elt changes an own list -/
def lcPE (g : D → Env → R Env) (f : Env → R (D × Env)) (vs : List Nat) : Env → List D → R (List D × Env)
  | r, [] => .ok ([], r)
  | r, x :: xs => (R.ne (g x r)).bind fun r1 => (R.ne (f r1)).bind fun p => if noOwn vs p.2 = true then (lcPE g f vs (wipeE p.2 vs) xs).bind fun q => .ok (p.1 :: q.1, q.2) else .stk
def lcE (own : List (Str × Nat)) (h : Env → R (List D)) (g : D → Env → R Env) (f : Env → R (D × Env)) : Env → R (D × Env) := fun r => if noOwn (own.map (·.2)) r = true then (h r).bind fun items => if items.length ≤ sizeLine then (lcPE g f (own.map (·.2)) (wipeE r (own.map (·.2))) items).bind fun q => .ok (.lst q.1, backE r q.2 (own.map (·.2))) else .stk else .stk
theorem lcPE_noerr {g : D → Env → R Env} {f : Env → R (D × Env)} {vs : List Nat} : ∀ (l : List DL.D) (r : Env) x e, lcPE g f vs r l ≠ .err x e
  | [], r, x, e, z => by cases z
  | y :: l, r, x, e, z => by
    unfold lcPE at z
    cases q1 : g y r with
    | err _ _ => rw [q1] at z; cases z
    | stk => rw [q1] at z; cases z
    | ok r1 =>
      rw [q1] at z
      simp only [DL.R.ne, DL.R.bind] at z
      cases q2 : f r1 with
      | err _ _ => rw [q2] at z; cases z
      | stk => rw [q2] at z; cases z
      | ok p =>
        rw [q2] at z
        simp only [DL.R.bind] at z
        by_cases hn : noOwn vs p.2 = true
        · rw [if_pos hn] at z
          cases q3 : lcPE g f vs (wipeE p.2 vs) l with
          | err x' e' => exact absurd q3 (lcPE_noerr l _ x' e')
          | stk => rw [q3] at z; cases z
          | ok q => rw [q3] at z; cases z
        · rw [if_neg hn] at z
          cases z
section
variable {K : PySem.W.Frag} {A0 : Addr → Prop} {H0 : Hp} {io : Addr → Prop} {os : List (Option Addr)} {r : Env} {σ : St} {H : Hp} {p : Addr}
/-- what is held beside, told with what it holds -/
abbrev snF (A0 : Addr → Prop) (H0 : Hp) (io : Addr → Prop) (p : Addr) (o : HO) : Fm := ⟨Ad A0 p, L2.upd H0 p o, fun a => io a ∧ a ≠ p⟩
theorem Rel.snap (R : Rel K ⟨Ad A0 p, H0, io⟩ os r σ H) {o : HO} (e : H p = some o) : Rel K (snF A0 H0 io p o) os r σ H := by
  have no : ∀ (i : Nat) (a : Addr), os[i]? = some (some a) → a ≠ p := fun i a h z => R.out i a h (.inr z)
  refine ⟨R.lens, R.leno, fun i s v u e1 e2 e3 => ?_, R.inj, R.out, R.aok, fun b o' h n => ?_, fun i a h => ?_⟩
  · have q := R.slot i s v u e1 e2 e3
    cases s with
    | io d =>
      obtain ⟨a, z1, z2, z3, z4⟩ := q
      subst z1
      exact ⟨a, rfl, z2, z3, z4, no i a e3⟩
    | un => exact q
    | sh d => exact q
    | own d => exact q
  · have h : L2.upd H0 p o b = some o' := h
    by_cases z : b = p
    · subst z
      rw [L2.upd_same] at h
      cases h
      exact e
    · rw [L2.upd_ne z] at h
      exact R.same b o' h fun w => n ⟨w, z⟩
  · have ne := no i a h
    rcases R.new i a h with w | w
    · exact .inl (by show L2.upd H0 p o a = none; rw [L2.upd_ne ne]; exact w)
    · exact .inr ⟨w, ne⟩
theorem Rel.unsnap {o : HO} (R : Rel K (snF A0 H0 io p o) os r σ H) (f0 : H0 p = none ∨ io p) : Rel K ⟨Ad A0 p, H0, io⟩ os r σ H ∧ H p = some o := by
  have no : ∀ (i : Nat) (a : Addr), os[i]? = some (some a) → a ≠ p := fun i a h z => R.out i a h (.inr z)
  refine ⟨⟨R.lens, R.leno, fun i s v u e1 e2 e3 => ?_, R.inj, R.out, R.aok, fun b o' h n => ?_, fun i a h => ?_⟩, R.same p o L2.upd_same fun w => w.2 rfl⟩
  · have q := R.slot i s v u e1 e2 e3
    cases s with
    | io d =>
      obtain ⟨a, z1, z2, z3, z4⟩ := q
      exact ⟨a, z1, z2, z3, z4.1⟩
    | un => exact q
    | sh d => exact q
    | own d => exact q
  · have hb : H0 b = some o' := h
    have z : b ≠ p := fun z => by
      rw [z] at hb n
      rcases f0 with w | w
      · rw [w] at hb; cases hb
      · exact n w
    exact R.same b o' (by show L2.upd H0 p o b = _; rw [L2.upd_ne z]; exact h) fun w => n w.1
  · have ne := no i a h
    rcases R.new i a h with w | w
    · exact .inl (by have w : L2.upd H0 p o a = none := w; rw [L2.upd_ne ne] at w; exact w)
    · exact .inr w.1
end
theorem lcE_snd {X : Cx} {W : WX} {own : List (Str × Nat)} {ks : List Nat} {h : Env → R (List D)} {g : D → Env → R Env} {f : Env → R (D × Env)}
    (hk : ∀ k ∈ ks, k ∈ own.map (·.2)) (F : Fm) (os : List (Option Addr)) (r : Env) (σ : St) (H : Hp) (Q : VK) (R : Rel X.K F os r σ H)
    (S : Sat (fun p => ∀ v H', Rel X.K F os p.2 σ H' → Keep (Av F.A0 os) (Av F.A0 os) H H' → Rep X.K H' (Av F.A0 os) p.1 v → Q v H') (Er X W F) (lcE own h g f r)) :
    tLc (cIp X.K X.mg W h) (cG X.K X.mg WF ks g) (cTp X.K X.mg WF yesB) (cE X.K X.mg WF f) (own.map (·.2)) σ H Q := by
  unfold lcE at S
  by_cases hv : noOwn (own.map (·.2)) r = true
  · rw [if_pos hv] at S
    have hv' := noOwn_ok hv
    generalize hvs : own.map (·.2) = vs at *
    refine ⟨F, os, r, R, Sat.mono (p := fun items => Sat (fun p => ∀ v H', Rel X.K F os p.2 σ H' → Keep (Av F.A0 os) (Av F.A0 os) H H' → Rep X.K H' (Av F.A0 os) p.1 v → Q v H') (Er X W F)
      (if items.length ≤ sizeLine then (lcPE g f vs (wipeE r vs) items).bind fun q => .ok (.lst q.1, backE r q.2 vs) else .stk)) S.bind (fun items S2 => ?_) (fun _ _ z => z)⟩
    intro J H1 G src s1 g1 D hD
    by_cases hl : items.length ≤ sizeLine
    · rw [if_pos hl] at S2
      have R1 := R.same' s1
      have nD : ¬ Av F.A0 os D := R1.notIn hD
      have hDH : H D = none := s1.free hD
      have F0 : F.H0 D = none ∨ F.io D := by
        by_cases hio : F.io D
        · exact .inr hio
        · cases q : F.H0 D with
          | none => exact .inl rfl
          | some o =>
            have := R1.same D o q hio
            rw [hD] at this
            cases this
      have R2 : Rel X.K ⟨Ad F.A0 D, F.H0, F.io⟩ os (wipeE r vs) (L2.wipe σ vs) (upd H1 D (.lst [])) := (R1.ext (p := D) (o := .lst []) hD rfl).wipe _ hv'
      have kp0 : Keep (Av F.A0 os) (Av (Ad F.A0 D) os) H1 (upd H1 D (.lst [])) := fun b u e nb => ⟨by rw [upd_ne (ne_of_none e hD)]; exact e, fun z => by
        rcases z with (z | z) | z
        · exact nb (.inl z)
        · rw [z, hD] at e
          cases e
        · exact nb (.inr z)⟩
      have g2 : G (Av (Ad F.A0 D) os) (upd H1 D (.lst [])) := src.keep _ _ _ _ R1.AOk kp0 g1
      have wk : Walk J items.length (fun H => ∃ A, AOk A H ∧ G A H) (fun i H x H' => i < items.length ∧ J.yld i H x H') :=
        ⟨fun i H hi ⟨A, ak, h⟩ => src.goes A i H ak hi h, fun H ⟨A, ak, h⟩ => src.stops A H ak h, fun i H x H' hi _ y => ⟨hi, y⟩⟩
      refine lc_it wk (fun i H' => ∃ acc vacc r', Rel X.K ⟨Ad F.A0 D, F.H0, F.io⟩ os r' (L2.wipe σ vs) H' ∧ H' D = some (.lst vacc) ∧ RepL X.K H' (Av (Ad F.A0 D) os) acc vacc ∧ G (Av (Ad F.A0 D) os) H' ∧ Keep (Av F.A0 os) (Av F.A0 os) H H' ∧ acc.length ≤ i ∧
        Sat (fun q => ∀ H', Rel X.K F os (backE r q.2 vs) σ H' → Keep (Av F.A0 os) (Av F.A0 os) H H' → Rep X.K H' (Av F.A0 os) (.lst (acc ++ q.1)) (.ref D) → Q (.ref D) H') (fun _ _ => False) (lcPE g f vs r' (items.drop i)))
        ⟨[], [], wipeE r vs, R2, upd_same, by unfold RepL; rfl, g2, Keep.of (s1.trans (same_upd hD)), Nat.le_refl _, ?_⟩ ?_ ?_ ?_
      · have S2 : Sat _ _ ((lcPE g f vs (wipeE r vs) items).bind fun q => .ok (DL.D.lst q.1, backE r q.2 vs)) := S2
        rw [List.drop_zero]
        cases q : lcPE g f vs (wipeE r vs) items with
        | ok ds =>
          rw [q] at S2
          exact fun H' R' k' h' => S2 (.ref D) H' R' k' h'
        | err x e => exact absurd q (lcPE_noerr _ _ x e)
        | stk => rw [q] at S2; exact S2
      · rintro i H' hi ⟨acc, vacc, r', R', _, _, g', _⟩
        exact ⟨_, R'.AOk, g'⟩
      · rintro i x H2 H3 hi ⟨acc, vacc, r', R', hDa, hacc, g', kH, hlen, S'⟩ ⟨_, y⟩
        obtain ⟨s3, d, ed, hd⟩ := src.yields _ i H2 x H3 R'.AOk hi g' y
        have ei : items.drop i = d :: items.drop (i + 1) := by
          rw [List.drop_eq_getElem_cons hi]
          rw [List.getElem?_eq_getElem hi] at ed
          cases ed
          rfl
        rw [ei] at S'
        unfold lcPE at S'
        have R3 := R'.same' s3
        have hD3 : H3 D = some (.lst vacc) := s3 _ _ hDa
        have Rs := R3.snap hD3
        have g3 := src.keep _ _ _ _ R'.AOk (Keep.of s3) g'
        have hacc3 := hacc.same s3 R'.AOk
        refine ⟨snF F.A0 F.H0 F.io D (.lst vacc), os, r', d, Rs, hd, (Sat.neB S').imp fun r4 S4 os4 σ4 H4 R4 k4 s4 o4 => ⟨wipe_off o4 hk, snF F.A0 F.H0 F.io D (.lst vacc), os4, r4, R4, fun H5 s5 => ?_⟩⟩
        have R5 := R4.same' s5
        simp only [if_true]
        refine ⟨snF F.A0 F.H0 F.io D (.lst vacc), os4, r4, R5, (Sat.neB S4).imp fun pp S6 v H6 R6 k6 h6 => ?_⟩
        by_cases hn : noOwn vs pp.2 = true
        · rw [if_pos hn] at S6
          have hn' := noOwn_ok hn
          have lo : os4.length = os.length := by
            rw [R4.leno, ← R4.lens, o4.1, R3.lens, R3.leno]
          have eo : os4 = os := by
            refine List.ext_getElem? fun j => ?_
            by_cases hj : j ∈ ks
            · have hjv := hk j hj
              have a1 : ∀ a, os4[j]? ≠ some (some a) := fun a e => by
                obtain ⟨s0, d0, e0, e0', _⟩ := R6.own e
                exact hn' j hjv s0 d0 e0 e0'
              have a2 : ∀ a, os[j]? ≠ some (some a) := fun a e => by
                obtain ⟨s0, d0, e0, e0', _⟩ := R.own e
                exact hv' j hjv s0 d0 e0 e0'
              by_cases hl2 : j < os.length
              · have b1 : os4[j]? = some (os4[j]'(by omega)) := List.getElem?_eq_getElem (by omega)
                have b2 : os[j]? = some os[j] := List.getElem?_eq_getElem hl2
                cases q1 : os4[j]'(by omega) with
                | some a => exact absurd (b1.trans (by rw [q1])) (a1 a)
                | none =>
                  cases q2 : os[j] with
                  | some a => exact absurd (b2.trans (by rw [q2])) (a2 a)
                  | none => rw [b1, b2, q1, q2]
              · rw [List.getElem?_eq_none (by omega), List.getElem?_eq_none (by omega)]
            · exact (o4.2 j hj).2
          rw [eo] at R6 k6 h6 k4
          obtain ⟨R6u, hD6⟩ := R6.unsnap F0
          have w0 := wipe_off o4 hk
          have R7 := R6u.wipe vs hn'
          rw [w0] at R7
          have k36 : Keep (Av (Ad F.A0 D) os) (Av (Ad F.A0 D) os) H3 H6 := (k4.trans (Keep.of s5)).trans k6
          have hacc6 : RepL X.K H6 (Av (Ad F.A0 D) os) acc vacc := RepL.keep k36 R3.AOk _ _ hacc3
          have g6 := src.keep _ _ _ _ R3.AOk k36 g3
          obtain ⟨R8, k8⟩ := R7.updA (p := D) (o := .lst (vacc ++ [v])) (.inr rfl) rfl F0
          have k38 := k36.trans k8
          have kH8 : Keep (Av F.A0 os) (Av F.A0 os) H (upd H6 D (.lst (vacc ++ [v]))) := fun b u e nb => by
            obtain ⟨e2, n2⟩ := kH b u e nb
            have bD : b ≠ D := fun z => by rw [z, hDH] at e; cases e
            have nA : ¬ Av (Ad F.A0 D) os b := fun z => by
              rcases z with (z | z) | z
              · exact nb (.inl z)
              · exact bD z
              · exact nb (.inr z)
            exact ⟨(k38 b u (s3 _ _ e2) nA).1, nb⟩
          refine ⟨vacc, hD6, ?_, acc ++ [pp.1], vacc ++ [v], wipeE pp.2 vs, R8, upd_same, ?_, src.keep _ _ _ _ R6u.AOk k8 g6, kH8, ?_, ?_⟩
          · rw [repL_length hacc6]
            omega
          · exact RepL.keep k8 R6u.AOk _ _ (repL_append hacc6 (by unfold RepL; exact ⟨v, [], rfl, h6, by unfold RepL; rfl⟩))
          · rw [List.length_append, List.length_singleton]
            omega
          · cases q : lcPE g f vs (wipeE pp.2 vs) (items.drop (i + 1)) with
            | ok ds =>
              rw [q] at S6
              intro H' R' k' h'
              have e : acc ++ [pp.1] ++ ds.1 = acc ++ pp.1 :: ds.1 := by simp
              rw [e] at h'
              exact S6 H' R' k' h'
            | err x e => rw [q] at S6; exact S6
            | stk => rw [q] at S6; exact S6
        · rw [if_neg hn] at S6
          exact S6.elim
      · rintro H' ⟨acc, vacc, r', R', hDa, hacc, g', kH, hlen, S'⟩
        rw [List.drop_length] at S'
        have Rd : Rel X.K F os r' (L2.wipe σ vs) H' := R'.drop
        have Rb := R.back hv' Rd kH
        refine S' H' Rb kH ?_
        rw [List.append_nil]
        refine repO_rep (A := Ad (Av F.A0 os) D) ⟨vacc, hDa, RepL.keep av_ad R'.AOk _ _ hacc⟩ ad_keep (fun b z => ?_) nD
        rcases z with z | z
        · exact Rb.AOk b z
        · rw [z]
          exact ⟨_, hDa, rfl⟩
    · rw [if_neg hl] at S2
      exact S2.elim
  · rw [if_neg hv] at S
    exact S.elim
section
variable {X : Cx} {W : WX} {elt tg iter : Expr} {scope : Scope} {own : List (Str × Nat)} {pos : Pos} {ks : List Nat} {h : Env → R (List D)} {g : D → Env → R Env} {f : Env → R (D × Env)}
theorem d_lcE (hc : X.calm = true) (hN : X.N.Nodup) (hi : DIp X W tg iter h) (ok : BlkOk X.N X.env.scope scope own)
    (hg : ∀ (s : Shared) (H : Hp) (C : Addr) (cl : List (Str × Addr)) (fp : List Addr), DG (X.blk s H scope (compEnvC scope cl C X.env) fp) WF ks tg g)
    (he : ∀ (s : Shared) (H : Hp) (C : Addr) (cl : List (Str × Addr)) (fp : List Addr), DE (X.blk s H scope (compEnvC scope cl C X.env) fp) WF elt f)
    (hk : ∀ k ∈ ks, k ∈ own.map (·.2) := by decide) (hs : ∀ x, foldedSetIterable iter X.env x = pure x := by intro _; rfl) : DE X W (.ListComp elt [⟨tg, iter, [], 0⟩] scope pos) (lcE own h g f) :=
  ⟨_, pe_lc hc hN hi.can ok (fun s H C cl fp => (hg s H C cl fp).can) (fun s H C cl fp => (c_nil (X := X.blk s H scope (compEnvC scope cl C X.env) fp) (W := WF)).can) (fun s H C cl fp => (he s H C cl fp).can) hs, fun F os r σ H Q R S => lcE_snd hk F os r σ H Q R S⟩
end
end DL

end
section
namespace LW
open PySem L2 DL
noncomputable section
abbrev topS (i : Nat) : Stmt := (PySem.W.OpenLaw.row PySem.Challenge.rw_jumpcuts_k75_across_least_and_greatest).prog.main.body.getD i (.Pass ⟨0, 0, 0, 0⟩)
abbrev FnP (K : PySem.W.Frag) (x : Str) (st : Stmt) (f : Addr) (fd : FuncData) : Prop := FunD K x x (defArgs st) (defBody st) (defScope st) [] [] f fd
structure Gs (mg : Str → Option Value) : Prop where
  f_bool : mg "bool" = none
  f_dict : mg "dict" = none
  f_enumerate : mg "enumerate" = none
  f_int : mg "int" = none
  f_isinstance : mg "isinstance" = none
  f_len : mg "len" = none
  f_list : mg "list" = none
  f_max : mg "max" = none
  f_min : mg "min" = none
  f_range : mg "range" = none
  f_reversed : mg "reversed" = none
  f_set : mg "set" = none
  f_sorted : mg "sorted" = none
  f_str : mg "str" = none
  f_sum : mg "sum" = none
  f_tuple : mg "tuple" = none
  f_zip : mg "zip" = none
  c_GREATEST_WEIGHT : ∃ t, mg "GREATEST_WEIGHT" = some (.int 1000 t)
  c_LETTERS : ∃ t, mg "LETTERS" = some (.str "abcdefgh" t)
  c_MOST_LETTERS : ∃ t, mg "MOST_LETTERS" = some (.int 200 t)
  c_MOST_LISTED : ∃ t, mg "MOST_LISTED" = some (.int 5000 t)
/-! ### the class Graph -/
abbrev sI_Graph : Stmt := inClass (topS 16) 0
theorem scI_Graph : FnScope ["self", "arrows", "ends"] ["self", "arrows", "ends"] (defScope sI_Graph) := ⟨rfl, rfl, rfl, by decide +kernel, rfl, by decide +kernel, by decide +kernel⟩
theorem ok_Graph {P : Program} {w : World} {K : PySem.W.Frag} {mg : Str → Option Value} {base : Heap} {C f : Addr} {fd : FuncData} (F : FunD K "__init__" "Graph.__init__" (defArgs sI_Graph) (defBody sI_Graph) (defScope sI_Graph) [] [] f fd) (M : Mk K C f) (hm : mg "Graph" = some (.ref C)) (hc : Cls K C) (n1 : NoAttr K C "arrows") (n2 : NoAttr K C "ends") : CalC P w K mg base 1 "Graph" "arrows" "ends" :=
  ⟨C, f, fd, ["self", "arrows", "ends"], init_ok F scI_Graph hc n1 n2 (by decide) (fun _ _ => ⟨by first | exact Or.inl rfl | exact Or.inr (Or.inl rfl) | exact Or.inr (Or.inr rfl), by first | exact Or.inl rfl | exact Or.inr (Or.inl rfl) | exact Or.inr (Or.inr rfl), by first | exact Or.inl rfl | exact Or.inr (Or.inl rfl) | exact Or.inr (Or.inr rfl)⟩) (by decide) (by decide), M, hm, F.bindsN (ps := ["self", "arrows", "ends"]) (fun _ _ _ _ _ _ us hl => match us, hl with | [_, _, _], _ => rfl), hc, n1, n2⟩
/-! ### _law_taken -/
abbrev s__law_taken : Stmt := topS 43
abbrev N__law_taken : List Str := ["row", "many", "found", "cell"]
def b__law_taken : DL.Env → DL.R Fl := (seqS (ifS (withEnv (tst (bin gtD (bin ixD (gAny 0) (kc (.int 3))) (kc (.int 0))))) (seqS (setS 2 (withEnv (bin modD (appN intD (aCons (bin ixD (gAny 0) (kc (.int 3))) aNil)) (gAny 1)))) (seqS (itmS 0 (kc (.int 3)) (bin fdivD (bin ixD (gAny 0) (kc (.int 3))) (gAny 1))) (retS (withEnv (gSh 2))))) skipS) (seqS (itmS 0 (kc (.int 1)) (bin plusD (bin ixD (gAny 0) (kc (.int 1))) (kc (.int 1)))) (seqS (ifS (withEnv (tst (bin gtD (bin ixD (gAny 0) (kc (.int 1))) (appN lenD (aCons (bin ixD (gAny 0) (kc (.int 0))) aNil))))) (seqS (itmS 0 (kc (.int 2)) (bin modD (appN intD (aCons (bin plusD (bin mulD (bin ixD (gAny 0) (kc (.int 2))) (kc (.int 48271))) (kc (.int 11))) aNil)) (kc (.int 2147483647)))) (retS (withEnv (bin modD (appN intD (aCons (bin fdivD (bin ixD (gAny 0) (kc (.int 2))) (kc (.int 7))) aNil)) (gAny 1))))) skipS) (seqS (setS 3 (withEnv (bin ixD (bin ixD (gAny 0) (kc (.int 0))) (bin subD (bin ixD (gAny 0) (kc (.int 1))) (kc (.int 1)))))) (seqS (itmS 0 (kc (.int 2)) (bin modD (appN intD (aCons (bin plusD (bin plusD (bin mulD (bin ixD (gAny 0) (kc (.int 2))) (kc (.int 48271))) (gAny 3)) (kc (.int 11))) aNil)) (kc (.int 2147483647)))) (seqS (ifS (withEnv (tst (bin geD (gAny 3) (bin powD (kc (.int 10)) (kc (.int 18)))))) (itmS 0 (kc (.int 3)) (bin fdivD (gAny 3) (gAny 1))) skipS) (retS (withEnv (bin modD (appN intD (aCons (gAny 3) aNil)) (gAny 1))))))))))
def F__law_taken : List D → List D → DL.R (D × List D) := fnIO 4 1 b__law_taken
theorem sc__law_taken : FnScope N__law_taken ["row", "many"] (defScope s__law_taken) := ⟨rfl, rfl, rfl, by decide +kernel, rfl, by decide +kernel, by decide +kernel⟩
theorem ok__law_taken {P : Program} {w : World} {K : PySem.W.Frag} {mg : Str → Option Value} {base : Heap} {f : Addr} {fd : FuncData} (G : Gs mg) (F : FnP K "_law_taken" s__law_taken f fd) (hm : mg "_law_taken" = some (.ref f))  : CalIO P w K mg base 1 "_law_taken" 1 F__law_taken := by
  have S := sc__law_taken
  refine calio_of (N := N__law_taken) (q := "row") (ps := ["many"]) (b := b__law_taken) F S hm (by decide) (fun _ _ _ _ _ _ us hl => match us, hl with | [_, _], _ => rfl) fun cdv A outer s H E hr => ?_
  exact (s_cons (s_if (DT.toE (t_cmp op_gt o_cmpI (DP.toB (d_ix (b_var 0) (DP.toB d_int))) (DP.toB d_int) (by rfl))) (s_cons (s_set 2 S.nd (DP.toE (d_op op_mod o_mod (DP.toB (d_callT call_int3 o_intc rfl G.f_int (by rfl) (b_cons (DP.toB (d_ix (b_var 0) (DP.toB d_int))) b_nil))) (b_var 1)))) (s_cons (s_item 0 (d_op op_fdiv o_fdiv (DP.toB (d_ix (b_var 0) (DP.toB d_int))) (b_var 1)) (DP.toB d_int)) (s_one (s_ret (DP.toE (d_var 2)))))) s_nil) (s_cons (s_item 0 (d_op op_plus o_plus (DP.toB (d_ix (b_var 0) (DP.toB d_int))) (DP.toB d_int)) (DP.toB d_int)) (s_cons (s_if (DT.toE (t_cmp op_gt o_cmpI (DP.toB (d_ix (b_var 0) (DP.toB d_int))) (DP.toB (d_callB call_len3 o_len rfl G.f_len (by rfl) (b_cons (DP.toB (d_ix (b_var 0) (DP.toB d_int))) b_nil))) (by rfl))) (s_cons (s_item 0 (d_op op_mod o_mod (DP.toB (d_callT call_int3 o_intc rfl G.f_int (by rfl) (b_cons (DP.toB (d_op op_plus o_plus (DP.toB (d_op op_mul o_mul (DP.toB (d_ix (b_var 0) (DP.toB d_int))) (DP.toB d_int))) (DP.toB d_int))) b_nil))) (DP.toB d_int)) (DP.toB d_int)) (s_one (s_ret (DP.toE (d_op op_mod o_mod (DP.toB (d_callT call_int3 o_intc rfl G.f_int (by rfl) (b_cons (DP.toB (d_op op_fdiv o_fdiv (DP.toB (d_ix (b_var 0) (DP.toB d_int))) (DP.toB d_int))) b_nil))) (b_var 1)))))) s_nil) (s_cons (s_set 3 S.nd (DP.toE (d_ix (DP.toB (d_ix (b_var 0) (DP.toB d_int))) (DP.toB (d_op op_sub o_sub (DP.toB (d_ix (b_var 0) (DP.toB d_int))) (DP.toB d_int)))))) (s_cons (s_item 0 (d_op op_mod o_mod (DP.toB (d_callT call_int3 o_intc rfl G.f_int (by rfl) (b_cons (DP.toB (d_op op_plus o_plus (DP.toB (d_op op_plus o_plus (DP.toB (d_op op_mul o_mul (DP.toB (d_ix (b_var 0) (DP.toB d_int))) (DP.toB d_int))) (b_var 3))) (DP.toB d_int))) b_nil))) (DP.toB d_int)) (DP.toB d_int)) (s_cons (s_if (DT.toE (t_cmp op_ge o_cmpI (b_var 3) (DP.toB (d_op op_pow o_pow (DP.toB d_int) (DP.toB d_int))) (by rfl))) (s_one (s_item 0 (d_op op_fdiv o_fdiv (b_var 3) (b_var 1)) (DP.toB d_int))) s_nil) (s_one (s_ret (DP.toE (d_op op_mod o_mod (DP.toB (d_callT call_int3 o_intc rfl G.f_int (by rfl) (b_cons (b_var 3) b_nil))) (b_var 1)))))))))))
/-! ### _law_film -/
abbrev s__law_film : Stmt := topS 44
abbrev N__law_film : List Str := ["row", "most", "many", "found", "turn"]
def b__law_film : DL.Env → DL.R Fl := (seqS (setS 3 (withEnv (kc (.str "")))) (seqS (forS (itR1 (aConsE (binE plusD (withEnv (kc (.int 1))) (callIO 0 1 F__law_taken (withEnv (aCons (gSh 1) aNil)))) (withEnv aNil))) (gSet 4) (setS 3 (binE plusD (withEnv (gSh 3)) (binE ixD (withEnv (kc (.str "abcdefgh"))) (callIO 0 1 F__law_taken (withEnv (aCons (gSh 2) aNil))))))) (retS (withEnv (gSh 3)))))
def F__law_film : List D → List D → DL.R (D × List D) := fnIO 5 2 b__law_film
theorem sc__law_film : FnScope N__law_film ["row", "most", "many"] (defScope s__law_film) := ⟨rfl, rfl, rfl, by decide +kernel, rfl, by decide +kernel, by decide +kernel⟩
theorem ok__law_film {P : Program} {w : World} {K : PySem.W.Frag} {mg : Str → Option Value} {base : Heap} {f : Addr} {fd : FuncData} (G : Gs mg) (F : FnP K "_law_film" s__law_film f fd) (hm : mg "_law_film" = some (.ref f)) (c__law_taken : CalIO P w K mg base 1 "_law_taken" 1 F__law_taken) : CalIO P w K mg base 2 "_law_film" 2 F__law_film := by
  have S := sc__law_film
  refine calio_of (N := N__law_film) (q := "row") (ps := ["most", "many"]) (b := b__law_film) F S hm (by decide) (fun _ _ _ _ _ _ us hl => match us, hl with | [_, _, _], _ => rfl) fun cdv A outer s H E hr => ?_
  exact (s_cons (s_set 3 S.nd (DP.toE d_str)) (s_cons (s_for (passes_of rfl) rfl (i_range1 rfl G.f_range (e_cons (e_op op_plus o_plus (DP.toE d_int) (e_fnIO 0 c__law_taken (hr.mono (by decide)) rfl (takes_of rfl rfl rfl rfl) (DPs.toE (p_cons (d_var 1) p_nil)))) (DPs.toE p_nil))) (g_name S.nd (i := 4)) (s_one (s_set 3 S.nd (e_op op_plus o_plus (DP.toE (d_var 3)) (e_ix (DP.toE d_str) (e_fnIO 0 c__law_taken (hr.mono (by decide)) rfl (takes_of rfl rfl rfl rfl) (DPs.toE (p_cons (d_var 2) p_nil)))))))) (s_one (s_ret (DP.toE (d_var 3))))))
/-! ### is_letter -/
abbrev s_is_letter : Stmt := topS 9
abbrev N_is_letter : List Str := ["value"]
def b_is_letter : DL.Env → DL.R Fl := (retS (withEnv (andV (appN isiD (aCons (gAny 0) (aCons (kc (.ty "str")) aNil))) (andV (bin eqD (appN lenD (aCons (gAny 0) aNil)) (kc (.int 1))) (bin (inB false) (gAny 0) (kc (.str "abcdefgh")))))))
def F_is_letter : List D → DL.R D := fnD 1 1 b_is_letter
theorem sc_is_letter : FnScope N_is_letter ["value"] (defScope s_is_letter) := ⟨rfl, rfl, rfl, by decide +kernel, rfl, by decide +kernel, by decide +kernel⟩
theorem ok_is_letter {P : Program} {w : World} {K : PySem.W.Frag} {mg : Str → Option Value} {base : Heap} {f : Addr} {fd : FuncData} (G : Gs mg) (F : FnP K "is_letter" s_is_letter f fd) (hm : mg "is_letter" = some (.ref f))  : Cal P w K mg base 1 "is_letter" 1 F_is_letter := by
  have S := sc_is_letter
  refine cal_of (N := N_is_letter) (ps := ["value"]) (b := b_is_letter) F S hm (by decide) (fun _ _ _ _ _ _ us hl => match us, hl with | [_], _ => rfl) fun cdv A outer s H E hr => ?_
  exact (s_one (s_ret (DP.toE (d_and (d_callB call_isi3 o_isi rfl G.f_isinstance (by rfl) (b_cons (b_var 0) (b_cons (DP.toB (b_ty rfl G.f_str (by rfl))) b_nil))) (d_and (d_cmp (op_eq2 hr.units) o_eq (DP.toB (d_callB call_len3 o_len rfl G.f_len (by rfl) (b_cons (b_var 0) b_nil))) (DP.toB d_int) (by rfl)) (d_one (d_cmp (op_in3 (u65 hr)) o_in (b_var 0) (DP.toB (d_gstr G.c_LETTERS rfl)) (by rfl))))))))
/-! ### check_film -/
abbrev s_check_film : Stmt := topS 10
abbrev N_check_film : List Str := ["value", "place", "sign"]
def b_check_film : DL.Env → DL.R Fl := (seqS (ifS (withEnv (orB (notB (tru (appN isiD (aCons (gAny 0) (aCons (kc (.ty "str")) aNil))))) (notB (tst (chn le2D le2D (kc (.int 1)) (appN lenD (aCons (gAny 0) aNil)) (kc (.int 200))))))) nvrS skipS) (forS (withEnv (itN enD (aCons (gSh 0) aNil))) (gTupD 2 (gsCons (gSet 1) (gsCons (gSet 2) gsNil))) (ifS (withEnv (notB (tru (callF 1 F_is_letter (aCons (gSh 2) aNil))))) nvrS skipS)))
def F_check_film : List D → DL.R D := fnD 3 1 b_check_film
theorem sc_check_film : FnScope N_check_film ["value"] (defScope s_check_film) := ⟨rfl, rfl, rfl, by decide +kernel, rfl, by decide +kernel, by decide +kernel⟩
theorem ok_check_film {P : Program} {w : World} {K : PySem.W.Frag} {mg : Str → Option Value} {base : Heap} {f : Addr} {fd : FuncData} (G : Gs mg) (F : FnP K "check_film" s_check_film f fd) (hm : mg "check_film" = some (.ref f)) (c_is_letter : Cal P w K mg base 1 "is_letter" 1 F_is_letter) : Cal P w K mg base 2 "check_film" 1 F_check_film := by
  have S := sc_check_film
  refine cal_of (N := N_check_film) (ps := ["value"]) (b := b_check_film) F S hm (by decide) (fun _ _ _ _ _ _ us hl => match us, hl with | [_], _ => rfl) fun cdv A outer s H E hr => ?_
  exact (s_cons (s_if (DT.toE (DW.t (w_or (t_not (t_tru (DP.toB (d_callB call_isi3 o_isi rfl G.f_isinstance (by rfl) (b_cons (b_var 0) (b_cons (DP.toB (b_ty rfl G.f_str (by rfl))) b_nil)))))) (w_or1 (t_not (t_chain (op_le2 hr.units0) (op_le2 hr.units0) o_le2 o_le2 (DP.toB d_int) (DP.toB (d_callB call_len3 o_len rfl G.f_len (by rfl) (b_cons (b_var 0) b_nil))) (DP.toB (d_gint G.c_MOST_LETTERS rfl)))))))) (s_one s_never) s_nil) (s_one (s_for (passes_of rfl) rfl (DIp.toI (p_en rfl G.f_enumerate (p_cons (d_var 0) p_nil))) (g_tup rfl (gs_cons (g_name S.nd (i := 1)) (gs_cons (g_name S.nd (i := 2)) gs_nil))) (s_one (s_if (DT.toE (t_not (t_tru (DP.toB (d_fn c_is_letter (hr.mono (by decide)) rfl (takes_of rfl rfl rfl rfl) (p_cons (d_var 2) p_nil)))))) (s_one s_never) s_nil)))))
/-! ### check_listed -/
abbrev s_check_listed : Stmt := topS 22
abbrev N_check_listed : List Str := ["many"]
def b_check_listed : DL.Env → DL.R Fl := (ifS (withEnv (tst (bin gtD (gAny 0) (kc (.int 5000))))) nvrS skipS)
def F_check_listed : List D → DL.R D := fnD 1 1 b_check_listed
theorem sc_check_listed : FnScope N_check_listed ["many"] (defScope s_check_listed) := ⟨rfl, rfl, rfl, by decide +kernel, rfl, by decide +kernel, by decide +kernel⟩
theorem ok_check_listed {P : Program} {w : World} {K : PySem.W.Frag} {mg : Str → Option Value} {base : Heap} {f : Addr} {fd : FuncData} (G : Gs mg) (F : FnP K "check_listed" s_check_listed f fd) (hm : mg "check_listed" = some (.ref f))  : Cal P w K mg base 1 "check_listed" 1 F_check_listed := by
  have S := sc_check_listed
  refine cal_of (N := N_check_listed) (ps := ["many"]) (b := b_check_listed) F S hm (by decide) (fun _ _ _ _ _ _ us hl => match us, hl with | [_], _ => rfl) fun cdv A outer s H E hr => ?_
  exact (s_one (s_if (DT.toE (t_cmp op_gt o_cmpI (b_var 0) (DP.toB (d_gint G.c_MOST_LISTED rfl)) (by rfl))) (s_one s_never) s_nil))
/-! ### counts_from -/
abbrev s_counts_from : Stmt := topS 19
abbrev N_counts_from : List Str := ["graph", "counts", "node", "after"]
def b_counts_from : DL.Env → DL.R Fl := (seqS (setO 1 (bin repD (mkL (aCons (kc (.int 0)) aNil)) (appN lenD (aCons (un1 (fldD "arrows") (gSh 0)) aNil)))) (seqS (forS (withEnv (itX (rvR (.int 0)) (appN lenD (aCons (un1 (fldD "arrows") (gSh 0)) aNil)))) (gSet 2) (seqS (itmS 1 (gAny 2) (appN sumD (aCons (lcD [("after", 3)] (itX valsD (bin ixD (un1 (fldD "arrows") (gSh 0)) (gAny 2))) (gSet 3) yesB (bin ixD (gAny 1) (gAny 3))) aNil))) (ifS (withEnv (tru (bin ixD (un1 (fldD "ends") (gSh 0)) (gAny 2)))) (itmA 1 (intOp (fun _ _ => true) fun i j => i + j) (gAny 2) (kc (.int 1))) skipS))) (retO 1)))
def F_counts_from : List D → DL.R D := fnD 4 1 b_counts_from
theorem sc_counts_from : FnScope N_counts_from ["graph"] (defScope s_counts_from) := ⟨rfl, rfl, rfl, by decide +kernel, rfl, by decide +kernel, by decide +kernel⟩
theorem ok_counts_from {P : Program} {w : World} {K : PySem.W.Frag} {mg : Str → Option Value} {base : Heap} {f : Addr} {fd : FuncData} (G : Gs mg) (F : FnP K "counts_from" s_counts_from f fd) (hm : mg "counts_from" = some (.ref f))  : Cal P w K mg base 1 "counts_from" 1 F_counts_from := by
  have S := sc_counts_from
  refine cal_of (N := N_counts_from) (ps := ["graph"]) (b := b_counts_from) F S hm (by decide) (fun _ _ _ _ _ _ us hl => match us, hl with | [_], _ => rfl) fun cdv A outer s H E hr => ?_
  exact (s_cons (s_setO 1 S.nd (d_repF (d_lst (p_cons d_int p_nil)) (DP.toB (d_callB call_len3 o_len rfl G.f_len (by rfl) (b_cons (DP.toB (d_fld (d_var 0))) b_nil))))) (s_cons (s_for (passes_of rfl) rfl (DIp.toI (p_revR1 rfl G.f_reversed rfl G.f_range (DP.toB (d_callB call_len3 o_len rfl G.f_len (by rfl) (b_cons (DP.toB (d_fld (d_var 0))) b_nil))))) (g_name S.nd (i := 2)) (s_cons (s_item 1 (d_callB (cr_sum2 rfl) o_sum rfl G.f_sum (by rfl) (b_cons (DP.toB (DF.toP (d_lc (own := [("after", 3)]) rfl S.nd (p_values (d_ix (DP.toB (d_fld (d_var 0))) (b_var 2))) (blkOk_by (by rfl)) (fun _ _ _ _ _ => (g_name S.nd (i := 3))) (fun _ _ _ _ _ => c_nil) (fun _ _ _ _ _ => (d_ix (b_var 1) (b_var 3)))))) b_nil)) (b_var 2)) (s_one (s_if (DT.toE (t_tru (DP.toB (d_ix (DP.toB (d_fld (d_var 0))) (b_var 2))))) (s_one (s_itmA 1 ip_add o_ipI (DP.toB d_int) (b_var 2))) s_nil)))) (s_one (s_retO 1))))
/-! ### count_words -/
abbrev s_count_words : Stmt := topS 20
abbrev N_count_words : List Str := ["graph"]
def b_count_words : DL.Env → DL.R Fl := (retS (withEnv (bin ixD (callF 1 F_counts_from (aCons (gSh 0) aNil)) (kc (.int 0)))))
def F_count_words : List D → DL.R D := fnD 1 1 b_count_words
theorem sc_count_words : FnScope N_count_words ["graph"] (defScope s_count_words) := ⟨rfl, rfl, rfl, by decide +kernel, rfl, by decide +kernel, by decide +kernel⟩
theorem ok_count_words {P : Program} {w : World} {K : PySem.W.Frag} {mg : Str → Option Value} {base : Heap} {f : Addr} {fd : FuncData} (G : Gs mg) (F : FnP K "count_words" s_count_words f fd) (hm : mg "count_words" = some (.ref f)) (c_counts_from : Cal P w K mg base 1 "counts_from" 1 F_counts_from) : Cal P w K mg base 2 "count_words" 1 F_count_words := by
  have S := sc_count_words
  refine cal_of (N := N_count_words) (ps := ["graph"]) (b := b_count_words) F S hm (by decide) (fun _ _ _ _ _ _ us hl => match us, hl with | [_], _ => rfl) fun cdv A outer s H E hr => ?_
  exact (s_one (s_ret (DP.toE (d_ix (DP.toB (d_fn c_counts_from (hr.mono (by decide)) rfl (takes_of rfl rfl rfl rfl) (p_cons (d_var 0) p_nil))) (DP.toB d_int)))))
/-! ### words_of -/
abbrev s_words_of : Stmt := topS 21
abbrev N_words_of : List Str := ["graph", "counts", "words", "waiting", "node", "word", "letter", "after"]
def b_words_of : DL.Env → DL.R Fl := (seqS (setS 1 (withEnv (callF 1 F_counts_from (aCons (gSh 0) aNil)))) (seqS (setO 2 (mkL aNil)) (seqS (setO 3 (mkL (aCons (mkT (aCons (kc (.int 0)) (aCons (kc (.str "")) aNil))) aNil))) (seqS (whlS (fun _ => 100000) (withEnv (tru (gAny 3))) (seqS (asgS (gTupD 2 (gsCons (gSet 4) (gsCons (gSet 5) gsNil))) (popE 3)) (seqS (ifS (withEnv (tru (bin ixD (un1 (fldD "ends") (gSh 0)) (gAny 4)))) (appS 2 (gSh 5)) skipS) (forS (withEnv (itX revZ (un1 lstItD (bin ixD (un1 (fldD "arrows") (gSh 0)) (gAny 4))))) (gTupD 2 (gsCons (gSet 6) (gsCons (gSet 7) gsNil))) (ifS (withEnv (tst (bin gtD (bin ixD (gAny 1) (gAny 7)) (kc (.int 0))))) (appS 3 (mkT (aCons (gSh 7) (aCons (bin plusD (gAny 5) (gAny 6)) aNil)))) skipS))))) (retO 2)))))
def F_words_of : List D → DL.R D := fnD 8 1 b_words_of
theorem sc_words_of : FnScope N_words_of ["graph"] (defScope s_words_of) := ⟨rfl, rfl, rfl, by decide +kernel, rfl, by decide +kernel, by decide +kernel⟩
theorem ok_words_of {P : Program} {w : World} {K : PySem.W.Frag} {mg : Str → Option Value} {base : Heap} {f : Addr} {fd : FuncData} (G : Gs mg) (F : FnP K "words_of" s_words_of f fd) (hm : mg "words_of" = some (.ref f)) (c_counts_from : Cal P w K mg base 1 "counts_from" 1 F_counts_from) : Cal P w K mg base 2 "words_of" 1 F_words_of := by
  have S := sc_words_of
  refine cal_of (N := N_words_of) (ps := ["graph"]) (b := b_words_of) F S hm (by decide) (fun _ _ _ _ _ _ us hl => match us, hl with | [_], _ => rfl) fun cdv A outer s H E hr => ?_
  exact (s_cons (s_set 1 S.nd (DP.toE (d_fn c_counts_from (hr.mono (by decide)) rfl (takes_of rfl rfl rfl rfl) (p_cons (d_var 0) p_nil)))) (s_cons (s_setO 2 S.nd (d_lst p_nil)) (s_cons (s_setO 3 S.nd (d_lst (p_cons (d_tup (p_cons d_int (p_cons d_str p_nil))) p_nil))) (s_cons (s_while (fun _ => 100000) (passes_of rfl) (DT.toE (t_tru (b_var 3))) (s_cons (s_asg (e_pop 3) (g_tup rfl (gs_cons (g_name S.nd (i := 4)) (gs_cons (g_name S.nd (i := 5)) gs_nil)))) (s_cons (s_if (DT.toE (t_tru (DP.toB (d_ix (DP.toB (d_fld (d_var 0))) (b_var 4))))) (s_one (s_append 2 (d_var 5))) s_nil) (s_one (s_for (passes_of rfl) rfl (DIp.toI (p_rev rfl G.f_reversed (DF.toP (d_lstIt rfl rfl G.f_list (DP.toB (d_ix (DP.toB (d_fld (d_var 0))) (b_var 4))))))) (g_tup rfl (gs_cons (g_name S.nd (i := 6)) (gs_cons (g_name S.nd (i := 7)) gs_nil))) (s_one (s_if (DT.toE (t_cmp op_gt o_cmpI (DP.toB (d_ix (b_var 1) (b_var 7))) (DP.toB d_int) (by rfl))) (s_one (s_append 3 (d_tup (p_cons (d_var 7) (p_cons (d_op op_plus o_plus (b_var 5) (b_var 6)) p_nil))))) s_nil))))))) (s_one (s_retO 2))))))
/-! ### listed -/
abbrev s_listed : Stmt := topS 23
abbrev N_listed : List Str := ["graph"]
def b_listed : DL.Env → DL.R Fl := (seqS (exprS (withEnv (callF 1 F_check_listed (aCons (callF 1 F_count_words (aCons (gSh 0) aNil)) aNil)))) (retS (withEnv (callF 1 F_words_of (aCons (gSh 0) aNil)))))
def F_listed : List D → DL.R D := fnD 1 1 b_listed
theorem sc_listed : FnScope N_listed ["graph"] (defScope s_listed) := ⟨rfl, rfl, rfl, by decide +kernel, rfl, by decide +kernel, by decide +kernel⟩
theorem ok_listed {P : Program} {w : World} {K : PySem.W.Frag} {mg : Str → Option Value} {base : Heap} {f : Addr} {fd : FuncData} (G : Gs mg) (F : FnP K "listed" s_listed f fd) (hm : mg "listed" = some (.ref f)) (c_check_listed : Cal P w K mg base 1 "check_listed" 1 F_check_listed) (c_count_words : Cal P w K mg base 2 "count_words" 1 F_count_words) (c_words_of : Cal P w K mg base 2 "words_of" 1 F_words_of) : Cal P w K mg base 3 "listed" 1 F_listed := by
  have S := sc_listed
  refine cal_of (N := N_listed) (ps := ["graph"]) (b := b_listed) F S hm (by decide) (fun _ _ _ _ _ _ us hl => match us, hl with | [_], _ => rfl) fun cdv A outer s H E hr => ?_
  exact (s_cons (s_expr (DP.toE (d_fn c_check_listed (hr.mono (by decide)) rfl (takes_of rfl rfl rfl rfl) (p_cons (d_fn c_count_words (hr.mono (by decide)) rfl (takes_of rfl rfl rfl rfl) (p_cons (d_var 0) p_nil)) p_nil)))) (s_one (s_ret (DP.toE (d_fn c_words_of (hr.mono (by decide)) rfl (takes_of rfl rfl rfl rfl) (p_cons (d_var 0) p_nil))))))
/-! ### outcome_graph -/
abbrev s_outcome_graph : Stmt := topS 17
abbrev N_outcome_graph : List Str := ["film", "behind", "arrows", "place", "row", "letter"]
def b_outcome_graph : DL.Env → DL.R Fl := bOg ogFt
def F_outcome_graph : List D → DL.R D := fnD 6 1 b_outcome_graph
theorem sc_outcome_graph : FnScope N_outcome_graph ["film"] (defScope s_outcome_graph) := ⟨rfl, rfl, rfl, by decide +kernel, rfl, by decide +kernel, by decide +kernel⟩
theorem ok_outcome_graph {P : Program} {w : World} {K : PySem.W.Frag} {mg : Str → Option Value} {base : Heap} {f : Addr} {fd : FuncData} (G : Gs mg) (F : FnP K "outcome_graph" s_outcome_graph f fd) (hm : mg "outcome_graph" = some (.ref f)) (c_Graph : CalC P w K mg base 1 "Graph" "arrows" "ends") : Cal P w K mg base 6 "outcome_graph" 1 F_outcome_graph := by
  have S := sc_outcome_graph
  refine cal_of (N := N_outcome_graph) (ps := ["film"]) (b := b_outcome_graph) F S hm (by decide) (fun _ _ _ _ _ _ us hl => match us, hl with | [_], _ => rfl) fun cdv A outer s H E hr => ?_
  exact og_body (f12 := ogF12) (ft := ogFt)
    (ps_setDc (i := 1) (own := [("letter", 5)]) rfl S.nd rfl rfl rfl (DIp.can (p_any (d_var 0))) (blkOk_by (by rfl)) (fun _ _ _ _ _ => DG.can (g_name S.nd (i := 5))) (fun _ _ _ _ _ => DC.can c_nil) (fun _ _ _ _ _ => DP.can (d_var 5)) (fun _ _ _ _ _ => pe_dnewK))
    (fun t pe => ps_set (i := 2) S.nd rfl (by first | exact Or.inl rfl | exact Or.inr rfl) pe) (d_lst p_nil)
    (passes_of rfl) rfl (p_revR1 rfl G.f_reversed rfl G.f_range (DP.toB (d_callB call_len3 o_len rfl G.f_len (by rfl) (b_cons (b_var 0) b_nil)))) (g_name S.nd (i := 3)) (DP.toB (d_ix (b_var 0) (b_var 3)))
    (fun t pe => ps_set (i := 4) S.nd rfl (by first | exact Or.inl rfl | exact Or.inr rfl) (pe_dget (og_hu hr) (pe_var (i := 1) rfl (by first | exact Or.inl rfl | exact Or.inr (Or.inl rfl) | exact Or.inr (Or.inr rfl))) pe (fun _ _ => rfl)))
    (s_cons (s_if (DT.toE (t_cmp op_lt o_cmpI (DP.toB (d_op op_plus o_plus (b_var 3) (DP.toB d_int))) (DP.toB (d_callB call_len3 o_len rfl G.f_len (by rfl) (b_cons (b_var 0) b_nil))) (by rfl))) (s_one (s_dput 4 hr (d_op op_plus o_plus (b_var 3) (DP.toB d_int)) (DP.toB (d_ix (b_var 0) (DP.toB (d_op op_plus o_plus (b_var 3) (DP.toB d_int))))))) s_nil) (s_one (s_append 2 (DF.frz (d_dc (own := [("letter", 5)]) rfl S.nd (p_any (DF.toP (d_callBF (cr_srtK rfl) o_srtK rfl G.f_sorted (by rfl) (b_cons (b_var 4) b_nil)))) (blkOk_by (by rfl)) (fun _ _ _ _ _ => (g_name S.nd (i := 5))) (fun _ _ _ _ _ => c_nil) (fun _ _ _ _ _ => (d_var 5)) (fun _ _ _ _ _ => (d_dget hr (b_var 4) (b_var 5))))))))
    (s_cons (s_append 2 (DF.frz (d_disp (d_ix (b_var 0) (DP.toB d_int)) d_int))) (s_cons (s_reverse 2) (s_frzS 2 (s_one (s_ret (DP.toE (d_mkC c_Graph (hr.mono (by decide)) rfl (p_cons (d_var 2) (p_cons (d_op op_plus o_plus (DP.toB (DF.toP (d_lst (p_cons d_bl p_nil)))) (DP.toB (DF.toP (d_lc (own := [("letter", 5)]) rfl S.nd (p_any (d_var 0)) (blkOk_by (by rfl)) (fun _ _ _ _ _ => (g_name S.nd (i := 5))) (fun _ _ _ _ _ => c_nil) (fun _ _ _ _ _ => (d_cmp (op_eq2 hr.units) o_eq (b_var 5) (DP.toB (d_ix (b_var 0) (DP.toB (d_neg (DP.toB d_int))))) (by rfl))))))) p_nil)))))))))
    (by intro _; rfl) og_hix og_hitems og_hstep
/-! ### outcomes -/
abbrev s_outcomes : Stmt := topS 34
abbrev N_outcomes : List Str := ["film"]
def b_outcomes : DL.Env → DL.R Fl := (seqS (exprS (withEnv (callF 1 F_check_film (aCons (gSh 0) aNil)))) (retS (withEnv (callF 1 F_listed (aCons (callF 1 F_outcome_graph (aCons (gSh 0) aNil)) aNil)))))
def F_outcomes : List D → DL.R D := fnD 1 1 b_outcomes
theorem sc_outcomes : FnScope N_outcomes ["film"] (defScope s_outcomes) := ⟨rfl, rfl, rfl, by decide +kernel, rfl, by decide +kernel, by decide +kernel⟩
theorem ok_outcomes {P : Program} {w : World} {K : PySem.W.Frag} {mg : Str → Option Value} {base : Heap} {f : Addr} {fd : FuncData} (G : Gs mg) (F : FnP K "outcomes" s_outcomes f fd) (hm : mg "outcomes" = some (.ref f)) (c_check_film : Cal P w K mg base 2 "check_film" 1 F_check_film) (c_listed : Cal P w K mg base 3 "listed" 1 F_listed) (c_outcome_graph : Cal P w K mg base 6 "outcome_graph" 1 F_outcome_graph) : Cal P w K mg base 7 "outcomes" 1 F_outcomes := by
  have S := sc_outcomes
  refine cal_of (N := N_outcomes) (ps := ["film"]) (b := b_outcomes) F S hm (by decide) (fun _ _ _ _ _ _ us hl => match us, hl with | [_], _ => rfl) fun cdv A outer s H E hr => ?_
  exact (s_cons (s_expr (DP.toE (d_fn c_check_film (hr.mono (by decide)) rfl (takes_of rfl rfl rfl rfl) (p_cons (d_var 0) p_nil)))) (s_one (s_ret (DP.toE (d_fn c_listed (hr.mono (by decide)) rfl (takes_of rfl rfl rfl rfl) (p_cons (d_fn c_outcome_graph (hr.mono (by decide)) rfl (takes_of rfl rfl rfl rfl) (p_cons (d_var 0) p_nil)) p_nil))))))
/-! ### is_whole -/
abbrev s_is_whole : Stmt := topS 8
abbrev N_is_whole : List Str := ["value"]
def b_is_whole : DL.Env → DL.R Fl := (retS (withEnv (andV (appN isiD (aCons (gAny 0) (aCons (kc (.ty "int")) aNil))) (notV (appN isiD (aCons (gAny 0) (aCons (kc (.ty "bool")) aNil)))))))
def F_is_whole : List D → DL.R D := fnD 1 1 b_is_whole
theorem sc_is_whole : FnScope N_is_whole ["value"] (defScope s_is_whole) := ⟨rfl, rfl, rfl, by decide +kernel, rfl, by decide +kernel, by decide +kernel⟩
theorem ok_is_whole {P : Program} {w : World} {K : PySem.W.Frag} {mg : Str → Option Value} {base : Heap} {f : Addr} {fd : FuncData} (G : Gs mg) (F : FnP K "is_whole" s_is_whole f fd) (hm : mg "is_whole" = some (.ref f))  : Cal P w K mg base 1 "is_whole" 1 F_is_whole := by
  have S := sc_is_whole
  refine cal_of (N := N_is_whole) (ps := ["value"]) (b := b_is_whole) F S hm (by decide) (fun _ _ _ _ _ _ us hl => match us, hl with | [_], _ => rfl) fun cdv A outer s H E hr => ?_
  exact (s_one (s_ret (DP.toE (d_and (d_callB call_isi3 o_isi rfl G.f_isinstance (by rfl) (b_cons (b_var 0) (b_cons (DP.toB (b_ty rfl G.f_int (by rfl))) b_nil))) (d_one (d_not (d_callB call_isi3 o_isi rfl G.f_isinstance (by rfl) (b_cons (b_var 0) (b_cons (DP.toB (b_ty rfl G.f_bool (by rfl))) b_nil)))))))))
/-! ### check_number -/
abbrev s_check_number : Stmt := topS 13
abbrev N_check_number : List Str := ["value", "least", "most"]
def b_check_number : DL.Env → DL.R Fl := (ifS (withEnv (orB (notB (tru (callF 1 F_is_whole (aCons (gSh 0) aNil)))) (notB (tst (chn le2D le2D (gAny 1) (gAny 0) (gAny 2)))))) nvrS skipS)
def F_check_number : List D → DL.R D := fnD 3 3 b_check_number
theorem sc_check_number : FnScope N_check_number ["value", "least", "most"] (defScope s_check_number) := ⟨rfl, rfl, rfl, by decide +kernel, rfl, by decide +kernel, by decide +kernel⟩
theorem ok_check_number {P : Program} {w : World} {K : PySem.W.Frag} {mg : Str → Option Value} {base : Heap} {f : Addr} {fd : FuncData} (G : Gs mg) (F : FnP K "check_number" s_check_number f fd) (hm : mg "check_number" = some (.ref f)) (c_is_whole : Cal P w K mg base 1 "is_whole" 1 F_is_whole) : Cal P w K mg base 2 "check_number" 3 F_check_number := by
  have S := sc_check_number
  refine cal_of (N := N_check_number) (ps := ["value", "least", "most"]) (b := b_check_number) F S hm (by decide) (fun _ _ _ _ _ _ us hl => match us, hl with | [_, _, _], _ => rfl) fun cdv A outer s H E hr => ?_
  exact (s_one (s_if (DT.toE (DW.t (w_or (t_not (t_tru (DP.toB (d_fn c_is_whole (hr.mono (by decide)) rfl (takes_of rfl rfl rfl rfl) (p_cons (d_var 0) p_nil))))) (w_or1 (t_not (t_chain (op_le2 hr.units0) (op_le2 hr.units0) o_le2 o_le2 (b_var 1) (b_var 0) (b_var 2))))))) (s_one s_never) s_nil))
/-! ### check_weights -/
abbrev s_check_weights : Stmt := topS 28
abbrev N_check_weights : List Str := ["value", "weight"]
def b_check_weights : DL.Env → DL.R Fl := (seqS (ifS (withEnv (orB (notB (tru (appN isiD (aCons (gAny 0) (aCons (kc (.ty "tuple")) aNil))))) (tst (bin neD (appN lenD (aCons (gAny 0) aNil)) (appN lenD (aCons (kc (.str "abcdefgh")) aNil)))))) nvrS skipS) (forS (withEnv (itX zD (gSh 0))) (gSet 1) (exprS (withEnv (callF 3 F_check_number (aCons (gSh 1) (aCons (un1 negD (kc (.int 1000))) (aCons (kc (.int 1000)) aNil))))))))
def F_check_weights : List D → DL.R D := fnD 2 1 b_check_weights
theorem sc_check_weights : FnScope N_check_weights ["value"] (defScope s_check_weights) := ⟨rfl, rfl, rfl, by decide +kernel, rfl, by decide +kernel, by decide +kernel⟩
theorem ok_check_weights {P : Program} {w : World} {K : PySem.W.Frag} {mg : Str → Option Value} {base : Heap} {f : Addr} {fd : FuncData} (G : Gs mg) (F : FnP K "check_weights" s_check_weights f fd) (hm : mg "check_weights" = some (.ref f)) (c_check_number : Cal P w K mg base 2 "check_number" 3 F_check_number) : Cal P w K mg base 3 "check_weights" 1 F_check_weights := by
  have S := sc_check_weights
  refine cal_of (N := N_check_weights) (ps := ["value"]) (b := b_check_weights) F S hm (by decide) (fun _ _ _ _ _ _ us hl => match us, hl with | [_], _ => rfl) fun cdv A outer s H E hr => ?_
  exact (s_cons (s_if (DT.toE (DW.t (w_or (t_not (t_tru (DP.toB (d_callB call_isi3 o_isi rfl G.f_isinstance (by rfl) (b_cons (b_var 0) (b_cons (DP.toB (b_ty rfl G.f_tuple (by rfl))) b_nil)))))) (w_or1 (t_cmp (op_ne2 hr.units) o_ne (DP.toB (d_callB call_len3 o_len rfl G.f_len (by rfl) (b_cons (b_var 0) b_nil))) (DP.toB (d_callB call_len3 o_len rfl G.f_len (by rfl) (b_cons (DP.toB (d_gstr G.c_LETTERS rfl)) b_nil))) (by rfl)))))) (s_one s_never) s_nil) (s_one (s_for (passes_of rfl) rfl (DIp.toI (p_any (d_var 0))) (g_name S.nd (i := 1)) (s_one (s_expr (DP.toE (d_fn c_check_number (hr.mono (by decide)) rfl (takes_of rfl rfl rfl rfl) (p_cons (d_var 1) (p_cons (d_neg (DP.toB (d_gint G.c_GREATEST_WEIGHT rfl))) (p_cons (d_gint G.c_GREATEST_WEIGHT rfl) p_nil))))))))))
/-! ### sum_of_weights -/
abbrev s_sum_of_weights : Stmt := topS 29
abbrev N_sum_of_weights : List Str := ["film", "weights", "letter"]
def b_sum_of_weights : DL.Env → DL.R Fl := (retS (withEnv (appN sumD (aCons (lcD [("letter", 2)] (itX zD (gSh 0)) (gSet 2) yesB (bin ixD (gAny 1) (mthV find1D (kc (.str "abcdefgh")) (aCons (gAny 2) aNil)))) aNil))))
def F_sum_of_weights : List D → DL.R D := fnD 3 2 b_sum_of_weights
theorem sc_sum_of_weights : FnScope N_sum_of_weights ["film", "weights"] (defScope s_sum_of_weights) := ⟨rfl, rfl, rfl, by decide +kernel, rfl, by decide +kernel, by decide +kernel⟩
theorem ok_sum_of_weights {P : Program} {w : World} {K : PySem.W.Frag} {mg : Str → Option Value} {base : Heap} {f : Addr} {fd : FuncData} (G : Gs mg) (F : FnP K "sum_of_weights" s_sum_of_weights f fd) (hm : mg "sum_of_weights" = some (.ref f))  : Cal P w K mg base 1 "sum_of_weights" 2 F_sum_of_weights := by
  have S := sc_sum_of_weights
  refine cal_of (N := N_sum_of_weights) (ps := ["film", "weights"]) (b := b_sum_of_weights) F S hm (by decide) (fun _ _ _ _ _ _ us hl => match us, hl with | [_, _], _ => rfl) fun cdv A outer s H E hr => ?_
  exact (s_one (s_ret (DP.toE (d_callB (cr_sum2 rfl) o_sum rfl G.f_sum (by rfl) (b_cons (DP.toB (DF.toP (d_lc (own := [("letter", 2)]) rfl S.nd (p_any (d_var 0)) (blkOk_by (by rfl)) (fun _ _ _ _ _ => (g_name S.nd (i := 2))) (fun _ _ _ _ _ => c_nil) (fun _ _ _ _ _ => (d_ix (b_var 1) (DP.toB (d_bm PySem.F.slot_str_find PySem.F.type_str_find mt_find o_find1 (DP.toB (d_gstr G.c_LETTERS rfl)) (b_cons (b_var 2) b_nil)))))))) b_nil)))))
/-! ### worth -/
abbrev s_worth : Stmt := topS 30
abbrev N_worth : List Str := ["film", "weights"]
def b_worth : DL.Env → DL.R Fl := (seqS (exprS (withEnv (callF 1 F_check_film (aCons (gSh 0) aNil)))) (seqS (exprS (withEnv (callF 1 F_check_weights (aCons (gSh 1) aNil)))) (retS (withEnv (callF 2 F_sum_of_weights (aCons (gSh 0) (aCons (gSh 1) aNil)))))))
def F_worth : List D → DL.R D := fnD 2 2 b_worth
theorem sc_worth : FnScope N_worth ["film", "weights"] (defScope s_worth) := ⟨rfl, rfl, rfl, by decide +kernel, rfl, by decide +kernel, by decide +kernel⟩
theorem ok_worth {P : Program} {w : World} {K : PySem.W.Frag} {mg : Str → Option Value} {base : Heap} {f : Addr} {fd : FuncData} (G : Gs mg) (F : FnP K "worth" s_worth f fd) (hm : mg "worth" = some (.ref f)) (c_check_film : Cal P w K mg base 2 "check_film" 1 F_check_film) (c_check_weights : Cal P w K mg base 3 "check_weights" 1 F_check_weights) (c_sum_of_weights : Cal P w K mg base 1 "sum_of_weights" 2 F_sum_of_weights) : Cal P w K mg base 4 "worth" 2 F_worth := by
  have S := sc_worth
  refine cal_of (N := N_worth) (ps := ["film", "weights"]) (b := b_worth) F S hm (by decide) (fun _ _ _ _ _ _ us hl => match us, hl with | [_, _], _ => rfl) fun cdv A outer s H E hr => ?_
  exact (s_cons (s_expr (DP.toE (d_fn c_check_film (hr.mono (by decide)) rfl (takes_of rfl rfl rfl rfl) (p_cons (d_var 0) p_nil)))) (s_cons (s_expr (DP.toE (d_fn c_check_weights (hr.mono (by decide)) rfl (takes_of rfl rfl rfl rfl) (p_cons (d_var 1) p_nil)))) (s_one (s_ret (DP.toE (d_fn c_sum_of_weights (hr.mono (by decide)) rfl (takes_of rfl rfl rfl rfl) (p_cons (d_var 0) (p_cons (d_var 1) p_nil))))))))
/-! ### best_from -/
abbrev s_best_from : Stmt := topS 24
abbrev N_best_from : List Str := ["graph", "worths", "best", "node", "sums", "letter", "after"]
def b_best_from : DL.Env → DL.R Fl := (seqS (setO 2 (bin repD (mkL (aCons (kc .non) aNil)) (appN lenD (aCons (un1 (fldD "arrows") (gSh 0)) aNil)))) (seqS (forS (withEnv (itX (rvR (.int 0)) (appN lenD (aCons (un1 (fldD "arrows") (gSh 0)) aNil)))) (gSet 3) (seqS (setO 4 (ifV (tru (bin ixD (un1 (fldD "ends") (gSh 0)) (gAny 3))) (mkL (aCons (kc (.int 0)) aNil)) (mkL aNil))) (seqS (forS (withEnv (itX itemsD (bin ixD (un1 (fldD "arrows") (gSh 0)) (gAny 3)))) (gTupD 2 (gsCons (gSet 5) (gsCons (gSet 6) gsNil))) (ifS (withEnv (tst (bin notN2 (bin ixD (gAny 2) (gAny 6)) (kc .non)))) (appS 4 (bin plusD (bin dgetD (gAny 1) (gAny 5)) (bin ixD (gAny 2) (gAny 6)))) skipS)) (itmS 2 (gAny 3) (appN maxND (aCons (gAny 4) aNil)))))) (retO 2)))
def F_best_from : List D → DL.R D := fnD 7 2 b_best_from
theorem sc_best_from : FnScope N_best_from ["graph", "worths"] (defScope s_best_from) := ⟨rfl, rfl, rfl, by decide +kernel, rfl, by decide +kernel, by decide +kernel⟩
theorem ok_best_from {P : Program} {w : World} {K : PySem.W.Frag} {mg : Str → Option Value} {base : Heap} {f : Addr} {fd : FuncData} (G : Gs mg) (F : FnP K "best_from" s_best_from f fd) (hm : mg "best_from" = some (.ref f))  : Cal P w K mg base 1 "best_from" 2 F_best_from := by
  have S := sc_best_from
  refine cal_of (N := N_best_from) (ps := ["graph", "worths"]) (b := b_best_from) F S hm (by decide) (fun _ _ _ _ _ _ us hl => match us, hl with | [_, _], _ => rfl) fun cdv A outer s H E hr => ?_
  exact (s_cons (s_setO 2 S.nd (d_repF (d_lst (p_cons d_non p_nil)) (DP.toB (d_callB call_len3 o_len rfl G.f_len (by rfl) (b_cons (DP.toB (d_fld (d_var 0))) b_nil))))) (s_cons (s_for (passes_of rfl) rfl (DIp.toI (p_revR1 rfl G.f_reversed rfl G.f_range (DP.toB (d_callB call_len3 o_len rfl G.f_len (by rfl) (b_cons (DP.toB (d_fld (d_var 0))) b_nil))))) (g_name S.nd (i := 3)) (s_cons (s_setO 4 S.nd (d_ifF (t_tru (DP.toB (d_ix (DP.toB (d_fld (d_var 0))) (b_var 3)))) (d_lst (p_cons d_int p_nil)) (d_lst p_nil))) (s_cons (s_for (passes_of rfl) rfl (DIp.toI (p_items (d_ix (DP.toB (d_fld (d_var 0))) (b_var 3)))) (g_tup rfl (gs_cons (g_name S.nd (i := 5)) (gs_cons (g_name S.nd (i := 6)) gs_nil))) (s_one (s_if (DT.toE (t_cmp op_notN o_notN (DP.toB (d_ix (b_var 2) (b_var 6))) (DP.toB d_non) (by rfl))) (s_one (s_append 4 (d_op op_plus o_plus (DP.toB (d_dget hr (b_var 1) (b_var 5))) (DP.toB (d_ix (b_var 2) (b_var 6)))))) s_nil))) (s_one (s_item 2 (d_maxN rfl hr.units rfl G.f_max (b_cons (b_var 4) b_nil) d_non) (b_var 3)))))) (s_one (s_retO 2))))
/-! ### best_word -/
abbrev s_best_word : Stmt := topS 25
abbrev N_best_word : List Str := ["graph", "worths", "best", "node", "word", "letter", "after"]
def b_best_word : DL.Env → DL.R Fl := (seqS (setS 2 (withEnv (callF 2 F_best_from (aCons (gSh 0) (aCons (gSh 1) aNil))))) (seqS (ifS (withEnv (tst (bin isN2 (bin ixD (gAny 2) (kc (.int 0))) (kc .non)))) (retS (withEnv (kc .non))) skipS) (seqS (setS 3 (withEnv (kc (.int 0)))) (seqS (setS 4 (withEnv (kc (.str "")))) (seqS (whlS (fun _ => 100000) (withEnv (orB (tst (bin neD (bin ixD (gAny 2) (gAny 3)) (kc (.int 0)))) (notB (tru (bin ixD (un1 (fldD "ends") (gSh 0)) (gAny 3)))))) (forS (withEnv (itX itemsD (bin ixD (un1 (fldD "arrows") (gSh 0)) (gAny 3)))) (gTupD 2 (gsCons (gSet 5) (gsCons (gSet 6) gsNil))) (ifS (withEnv (andB (tst (bin notN2 (bin ixD (gAny 2) (gAny 6)) (kc .non))) (tst (bin eqD (bin plusD (bin dgetD (gAny 1) (gAny 5)) (bin ixD (gAny 2) (gAny 6))) (bin ixD (gAny 2) (gAny 3)))))) (seqS (setS 3 (withEnv (gSh 6))) (seqS (augS 4 addSD (gAny 5)) brkS)) skipS))) (retS (withEnv (gSh 4))))))))
def F_best_word : List D → DL.R D := fnD 7 2 b_best_word
theorem sc_best_word : FnScope N_best_word ["graph", "worths"] (defScope s_best_word) := ⟨rfl, rfl, rfl, by decide +kernel, rfl, by decide +kernel, by decide +kernel⟩
theorem ok_best_word {P : Program} {w : World} {K : PySem.W.Frag} {mg : Str → Option Value} {base : Heap} {f : Addr} {fd : FuncData} (G : Gs mg) (F : FnP K "best_word" s_best_word f fd) (hm : mg "best_word" = some (.ref f)) (c_best_from : Cal P w K mg base 1 "best_from" 2 F_best_from) : Cal P w K mg base 2 "best_word" 2 F_best_word := by
  have S := sc_best_word
  refine cal_of (N := N_best_word) (ps := ["graph", "worths"]) (b := b_best_word) F S hm (by decide) (fun _ _ _ _ _ _ us hl => match us, hl with | [_, _], _ => rfl) fun cdv A outer s H E hr => ?_
  exact (s_cons (s_set 2 S.nd (DP.toE (d_fn c_best_from (hr.mono (by decide)) rfl (takes_of rfl rfl rfl rfl) (p_cons (d_var 0) (p_cons (d_var 1) p_nil))))) (s_cons (s_if (DT.toE (t_cmp op_isN o_isN (DP.toB (d_ix (b_var 2) (DP.toB d_int))) (DP.toB d_non) (by rfl))) (s_one (s_ret (DP.toE d_non))) s_nil) (s_cons (s_set 3 S.nd (DP.toE d_int)) (s_cons (s_set 4 S.nd (DP.toE d_str)) (s_cons (s_while (fun _ => 100000) (passes_of rfl) (DT.toE (DW.t (w_or (t_cmp (op_ne2 hr.units) o_ne (DP.toB (d_ix (b_var 2) (b_var 3))) (DP.toB d_int) (by rfl)) (w_or1 (t_not (t_tru (DP.toB (d_ix (DP.toB (d_fld (d_var 0))) (b_var 3))))))))) (s_one (s_for (passes_of rfl) rfl (DIp.toI (p_items (d_ix (DP.toB (d_fld (d_var 0))) (b_var 3)))) (g_tup rfl (gs_cons (g_name S.nd (i := 5)) (gs_cons (g_name S.nd (i := 6)) gs_nil))) (s_one (s_if (DT.toE (DW.t (w_and (t_cmp op_notN o_notN (DP.toB (d_ix (b_var 2) (b_var 6))) (DP.toB d_non) (by rfl)) (w_and1 (t_cmp (op_eq2 hr.units) o_eq (DP.toB (d_op op_plus o_plus (DP.toB (d_dget hr (b_var 1) (b_var 5))) (DP.toB (d_ix (b_var 2) (b_var 6))))) (DP.toB (d_ix (b_var 2) (b_var 3))) (by rfl)))))) (s_cons (s_set 3 S.nd (DP.toE (d_var 6))) (s_cons (s_aug 4 S.nd ip_addS o_ipS (b_var 5)) (s_one s_break))) s_nil))))) (s_one (s_ret (DP.toE (d_var 4)))))))))
/-! ### greatest_worth -/
abbrev s_greatest_worth : Stmt := topS 31
abbrev N_greatest_worth : List Str := ["film", "weights", "goal"]
def b_greatest_worth : DL.Env → DL.R Fl := (seqS (exprS (withEnv (callF 1 F_check_film (aCons (gSh 0) aNil)))) (seqS (exprS (withEnv (callF 1 F_check_weights (aCons (gSh 1) aNil)))) (seqS (setS 2 (withEnv (callF 2 F_best_word (aCons (callF 1 F_outcome_graph (aCons (gSh 0) aNil)) (aCons (un1 toFz (appN dzD (aCons (kc (.str "abcdefgh")) (aCons (gAny 1) aNil)))) aNil))))) (retS (withEnv (mkT (aCons (callF 2 F_sum_of_weights (aCons (gSh 2) (aCons (gSh 1) aNil))) (aCons (gSh 2) aNil))))))))
def F_greatest_worth : List D → DL.R D := fnD 3 2 b_greatest_worth
theorem sc_greatest_worth : FnScope N_greatest_worth ["film", "weights"] (defScope s_greatest_worth) := ⟨rfl, rfl, rfl, by decide +kernel, rfl, by decide +kernel, by decide +kernel⟩
theorem ok_greatest_worth {P : Program} {w : World} {K : PySem.W.Frag} {mg : Str → Option Value} {base : Heap} {f : Addr} {fd : FuncData} (G : Gs mg) (F : FnP K "greatest_worth" s_greatest_worth f fd) (hm : mg "greatest_worth" = some (.ref f)) (c_check_film : Cal P w K mg base 2 "check_film" 1 F_check_film) (c_check_weights : Cal P w K mg base 3 "check_weights" 1 F_check_weights) (c_best_word : Cal P w K mg base 2 "best_word" 2 F_best_word) (c_outcome_graph : Cal P w K mg base 6 "outcome_graph" 1 F_outcome_graph) (c_sum_of_weights : Cal P w K mg base 1 "sum_of_weights" 2 F_sum_of_weights) : Cal P w K mg base 7 "greatest_worth" 2 F_greatest_worth := by
  have S := sc_greatest_worth
  refine cal_of (N := N_greatest_worth) (ps := ["film", "weights"]) (b := b_greatest_worth) F S hm (by decide) (fun _ _ _ _ _ _ us hl => match us, hl with | [_, _], _ => rfl) fun cdv A outer s H E hr => ?_
  exact (s_cons (s_expr (DP.toE (d_fn c_check_film (hr.mono (by decide)) rfl (takes_of rfl rfl rfl rfl) (p_cons (d_var 0) p_nil)))) (s_cons (s_expr (DP.toE (d_fn c_check_weights (hr.mono (by decide)) rfl (takes_of rfl rfl rfl rfl) (p_cons (d_var 1) p_nil)))) (s_cons (s_set 2 S.nd (DP.toE (d_fn c_best_word (hr.mono (by decide)) rfl (takes_of rfl rfl rfl rfl) (p_cons (d_fn c_outcome_graph (hr.mono (by decide)) rfl (takes_of rfl rfl rfl rfl) (p_cons (d_var 0) p_nil)) (p_cons (DF.frz (d_dz rfl rfl G.f_dict rfl G.f_zip (b_cons (DP.toB (d_gstr G.c_LETTERS rfl)) (b_cons (b_var 1) b_nil)))) p_nil))))) (s_one (s_ret (DP.toE (d_tup (p_cons (d_fn c_sum_of_weights (hr.mono (by decide)) rfl (takes_of rfl rfl rfl rfl) (p_cons (d_var 2) (p_cons (d_var 1) p_nil))) (p_cons (d_var 2) p_nil)))))))))
/-! ### least_worth -/
abbrev s_least_worth : Stmt := topS 32
abbrev N_least_worth : List Str := ["film", "weights", "negated", "goal", "letter", "weight"]
def b_least_worth : DL.Env → DL.R Fl := (seqS (exprS (withEnv (callF 1 F_check_film (aCons (gSh 0) aNil)))) (seqS (exprS (withEnv (callF 1 F_check_weights (aCons (gSh 1) aNil)))) (seqS (setS 2 (withEnv (un1 toFz (dcD [("letter", 4), ("weight", 5)] (itN zip2D (aCons (kc (.str "abcdefgh")) (aCons (gSh 1) aNil))) (gTupD 2 (gsCons (gSet 4) (gsCons (gSet 5) gsNil))) yesB (gSh 4) (un1 negD (gAny 5)))))) (seqS (setS 3 (withEnv (callF 2 F_best_word (aCons (callF 1 F_outcome_graph (aCons (gSh 0) aNil)) (aCons (gSh 2) aNil))))) (retS (withEnv (mkT (aCons (callF 2 F_sum_of_weights (aCons (gSh 3) (aCons (gSh 1) aNil))) (aCons (gSh 3) aNil)))))))))
def F_least_worth : List D → DL.R D := fnD 6 2 b_least_worth
theorem sc_least_worth : FnScope N_least_worth ["film", "weights"] (defScope s_least_worth) := ⟨rfl, rfl, rfl, by decide +kernel, rfl, by decide +kernel, by decide +kernel⟩
theorem ok_least_worth {P : Program} {w : World} {K : PySem.W.Frag} {mg : Str → Option Value} {base : Heap} {f : Addr} {fd : FuncData} (G : Gs mg) (F : FnP K "least_worth" s_least_worth f fd) (hm : mg "least_worth" = some (.ref f)) (c_check_film : Cal P w K mg base 2 "check_film" 1 F_check_film) (c_check_weights : Cal P w K mg base 3 "check_weights" 1 F_check_weights) (c_best_word : Cal P w K mg base 2 "best_word" 2 F_best_word) (c_outcome_graph : Cal P w K mg base 6 "outcome_graph" 1 F_outcome_graph) (c_sum_of_weights : Cal P w K mg base 1 "sum_of_weights" 2 F_sum_of_weights) : Cal P w K mg base 7 "least_worth" 2 F_least_worth := by
  have S := sc_least_worth
  refine cal_of (N := N_least_worth) (ps := ["film", "weights"]) (b := b_least_worth) F S hm (by decide) (fun _ _ _ _ _ _ us hl => match us, hl with | [_, _], _ => rfl) fun cdv A outer s H E hr => ?_
  exact (s_cons (s_expr (DP.toE (d_fn c_check_film (hr.mono (by decide)) rfl (takes_of rfl rfl rfl rfl) (p_cons (d_var 0) p_nil)))) (s_cons (s_expr (DP.toE (d_fn c_check_weights (hr.mono (by decide)) rfl (takes_of rfl rfl rfl rfl) (p_cons (d_var 1) p_nil)))) (s_cons (s_setDc 2 (own := [("letter", 4), ("weight", 5)]) rfl S.nd (p_zip2 rfl G.f_zip (p_cons (d_gstr G.c_LETTERS rfl) (p_cons (d_var 1) p_nil))) (blkOk_by (by rfl)) (fun _ _ _ _ _ => (g_tup rfl (gs_cons (g_name S.nd (i := 4)) (gs_cons (g_name S.nd (i := 5)) gs_nil)))) (fun _ _ _ _ _ => c_nil) (fun _ _ _ _ _ => (d_var 4)) (fun _ _ _ _ _ => (d_neg (b_var 5)))) (s_cons (s_set 3 S.nd (DP.toE (d_fn c_best_word (hr.mono (by decide)) rfl (takes_of rfl rfl rfl rfl) (p_cons (d_fn c_outcome_graph (hr.mono (by decide)) rfl (takes_of rfl rfl rfl rfl) (p_cons (d_var 0) p_nil)) (p_cons (d_var 2) p_nil))))) (s_one (s_ret (DP.toE (d_tup (p_cons (d_fn c_sum_of_weights (hr.mono (by decide)) rfl (takes_of rfl rfl rfl rfl) (p_cons (d_var 3) (p_cons (d_var 1) p_nil))) (p_cons (d_var 3) p_nil))))))))))
/-! ### shortest -/
abbrev s_shortest : Stmt := topS 35
abbrev N_shortest : List Str := ["film", "letter"]
def b_shortest : DL.Env → DL.R Fl := (seqS (exprS (withEnv (callF 1 F_check_film (aCons (gSh 0) aNil)))) (retS (withEnv (callF 2 F_best_word (aCons (callF 1 F_outcome_graph (aCons (gSh 0) aNil)) (aCons (un1 toFz (dcD [("letter", 1)] (itX zD (kc (.str "abcdefgh"))) (gSet 1) yesB (gSh 1) (un1 negD (kc (.int 1))))) aNil))))))
def F_shortest : List D → DL.R D := fnD 2 1 b_shortest
theorem sc_shortest : FnScope N_shortest ["film"] (defScope s_shortest) := ⟨rfl, rfl, rfl, by decide +kernel, rfl, by decide +kernel, by decide +kernel⟩
theorem ok_shortest {P : Program} {w : World} {K : PySem.W.Frag} {mg : Str → Option Value} {base : Heap} {f : Addr} {fd : FuncData} (G : Gs mg) (F : FnP K "shortest" s_shortest f fd) (hm : mg "shortest" = some (.ref f)) (c_check_film : Cal P w K mg base 2 "check_film" 1 F_check_film) (c_best_word : Cal P w K mg base 2 "best_word" 2 F_best_word) (c_outcome_graph : Cal P w K mg base 6 "outcome_graph" 1 F_outcome_graph) : Cal P w K mg base 7 "shortest" 1 F_shortest := by
  have S := sc_shortest
  refine cal_of (N := N_shortest) (ps := ["film"]) (b := b_shortest) F S hm (by decide) (fun _ _ _ _ _ _ us hl => match us, hl with | [_], _ => rfl) fun cdv A outer s H E hr => ?_
  exact (s_cons (s_expr (DP.toE (d_fn c_check_film (hr.mono (by decide)) rfl (takes_of rfl rfl rfl rfl) (p_cons (d_var 0) p_nil)))) (s_one (s_ret (DP.toE (d_fn c_best_word (hr.mono (by decide)) rfl (takes_of rfl rfl rfl rfl) (p_cons (d_fn c_outcome_graph (hr.mono (by decide)) rfl (takes_of rfl rfl rfl rfl) (p_cons (d_var 0) p_nil)) (p_cons (DF.frz (d_dc (own := [("letter", 1)]) rfl S.nd (p_any (d_gstr G.c_LETTERS rfl)) (blkOk_by (by rfl)) (fun _ _ _ _ _ => (g_name S.nd (i := 1))) (fun _ _ _ _ _ => c_nil) (fun _ _ _ _ _ => (d_var 1)) (fun _ _ _ _ _ => (d_neg (DP.toB d_int))))) p_nil)))))))
/-! ### shortest_length -/
abbrev s_shortest_length : Stmt := topS 36
abbrev N_shortest_length : List Str := ["film"]
def b_shortest_length : DL.Env → DL.R Fl := (retS (withEnv (appN lenD (aCons (callF 1 F_shortest (aCons (gSh 0) aNil)) aNil))))
def F_shortest_length : List D → DL.R D := fnD 1 1 b_shortest_length
theorem sc_shortest_length : FnScope N_shortest_length ["film"] (defScope s_shortest_length) := ⟨rfl, rfl, rfl, by decide +kernel, rfl, by decide +kernel, by decide +kernel⟩
theorem ok_shortest_length {P : Program} {w : World} {K : PySem.W.Frag} {mg : Str → Option Value} {base : Heap} {f : Addr} {fd : FuncData} (G : Gs mg) (F : FnP K "shortest_length" s_shortest_length f fd) (hm : mg "shortest_length" = some (.ref f)) (c_shortest : Cal P w K mg base 7 "shortest" 1 F_shortest) : Cal P w K mg base 8 "shortest_length" 1 F_shortest_length := by
  have S := sc_shortest_length
  refine cal_of (N := N_shortest_length) (ps := ["film"]) (b := b_shortest_length) F S hm (by decide) (fun _ _ _ _ _ _ us hl => match us, hl with | [_], _ => rfl) fun cdv A outer s H E hr => ?_
  exact (s_one (s_ret (DP.toE (d_callB call_len3 o_len rfl G.f_len (by rfl) (b_cons (DP.toB (d_fn c_shortest (hr.mono (by decide)) rfl (takes_of rfl rfl rfl rfl) (p_cons (d_var 0) p_nil))) b_nil)))))
/-! ### check_letter -/
abbrev s_check_letter : Stmt := topS 11
abbrev N_check_letter : List Str := ["value"]
def b_check_letter : DL.Env → DL.R Fl := (ifS (withEnv (notB (tru (callF 1 F_is_letter (aCons (gSh 0) aNil))))) nvrS skipS)
def F_check_letter : List D → DL.R D := fnD 1 1 b_check_letter
theorem sc_check_letter : FnScope N_check_letter ["value"] (defScope s_check_letter) := ⟨rfl, rfl, rfl, by decide +kernel, rfl, by decide +kernel, by decide +kernel⟩
theorem ok_check_letter {P : Program} {w : World} {K : PySem.W.Frag} {mg : Str → Option Value} {base : Heap} {f : Addr} {fd : FuncData} (G : Gs mg) (F : FnP K "check_letter" s_check_letter f fd) (hm : mg "check_letter" = some (.ref f)) (c_is_letter : Cal P w K mg base 1 "is_letter" 1 F_is_letter) : Cal P w K mg base 2 "check_letter" 1 F_check_letter := by
  have S := sc_check_letter
  refine cal_of (N := N_check_letter) (ps := ["value"]) (b := b_check_letter) F S hm (by decide) (fun _ _ _ _ _ _ us hl => match us, hl with | [_], _ => rfl) fun cdv A outer s H E hr => ?_
  exact (s_one (s_if (DT.toE (t_not (t_tru (DP.toB (d_fn c_is_letter (hr.mono (by decide)) rfl (takes_of rfl rfl rfl rfl) (p_cons (d_var 0) p_nil)))))) (s_one s_never) s_nil))
/-! ### letter_range -/
abbrev s_letter_range : Stmt := topS 41
abbrev N_letter_range : List Str := ["film", "letter", "graph", "once", "fewest", "sign", "times"]
def b_letter_range : DL.Env → DL.R Fl := (seqS (exprS (withEnv (callF 1 F_check_film (aCons (gSh 0) aNil)))) (seqS (exprS (withEnv (callF 1 F_check_letter (aCons (gSh 1) aNil)))) (seqS (setS 2 (withEnv (callF 1 F_outcome_graph (aCons (gSh 0) aNil)))) (seqS (setS 3 (withEnv (un1 toFz (dcD [("sign", 5)] (itX zD (kc (.str "abcdefgh"))) (gSet 5) yesB (gSh 5) (ifV (tst (bin eqD (gAny 5) (gAny 1))) (kc (.int 1)) (kc (.int 0))))))) (seqS (setS 4 (withEnv (un1 negD (bin ixD (callF 2 F_best_from (aCons (gSh 2) (aCons (un1 toFz (dcD [("sign", 5), ("times", 6)] (itX itemsD (gSh 3)) (gTupD 2 (gsCons (gSet 5) (gsCons (gSet 6) gsNil))) yesB (gSh 5) (un1 negD (gAny 6)))) aNil))) (kc (.int 0)))))) (retS (withEnv (mkT (aCons (gSh 4) (aCons (bin ixD (callF 2 F_best_from (aCons (gSh 2) (aCons (gSh 3) aNil))) (kc (.int 0))) aNil))))))))))
def F_letter_range : List D → DL.R D := fnD 7 2 b_letter_range
theorem sc_letter_range : FnScope N_letter_range ["film", "letter"] (defScope s_letter_range) := ⟨rfl, rfl, rfl, by decide +kernel, rfl, by decide +kernel, by decide +kernel⟩
theorem ok_letter_range {P : Program} {w : World} {K : PySem.W.Frag} {mg : Str → Option Value} {base : Heap} {f : Addr} {fd : FuncData} (G : Gs mg) (F : FnP K "letter_range" s_letter_range f fd) (hm : mg "letter_range" = some (.ref f)) (c_check_film : Cal P w K mg base 2 "check_film" 1 F_check_film) (c_check_letter : Cal P w K mg base 2 "check_letter" 1 F_check_letter) (c_outcome_graph : Cal P w K mg base 6 "outcome_graph" 1 F_outcome_graph) (c_best_from : Cal P w K mg base 1 "best_from" 2 F_best_from) : Cal P w K mg base 7 "letter_range" 2 F_letter_range := by
  have S := sc_letter_range
  refine cal_of (N := N_letter_range) (ps := ["film", "letter"]) (b := b_letter_range) F S hm (by decide) (fun _ _ _ _ _ _ us hl => match us, hl with | [_, _], _ => rfl) fun cdv A outer s H E hr => ?_
  exact (s_cons (s_expr (DP.toE (d_fn c_check_film (hr.mono (by decide)) rfl (takes_of rfl rfl rfl rfl) (p_cons (d_var 0) p_nil)))) (s_cons (s_expr (DP.toE (d_fn c_check_letter (hr.mono (by decide)) rfl (takes_of rfl rfl rfl rfl) (p_cons (d_var 1) p_nil)))) (s_cons (s_set 2 S.nd (DP.toE (d_fn c_outcome_graph (hr.mono (by decide)) rfl (takes_of rfl rfl rfl rfl) (p_cons (d_var 0) p_nil)))) (s_cons (s_setDc 3 (own := [("sign", 5)]) rfl S.nd (p_any (d_gstr G.c_LETTERS rfl)) (blkOk_by (by rfl)) (fun _ _ _ _ _ => (g_name S.nd (i := 5))) (fun _ _ _ _ _ => c_nil) (fun _ _ _ _ _ => (d_var 5)) (fun _ _ _ _ _ => (d_if (t_cmp (op_eq2 hr.units) o_eq (b_var 5) (b_var 1) (by rfl)) d_int d_int))) (s_cons (s_set 4 S.nd (DP.toE (d_neg (DP.toB (d_ix (DP.toB (d_fn c_best_from (hr.mono (by decide)) rfl (takes_of rfl rfl rfl rfl) (p_cons (d_var 2) (p_cons (DF.frz (d_dc (own := [("sign", 5), ("times", 6)]) rfl S.nd (p_items (d_var 3)) (blkOk_by (by rfl)) (fun _ _ _ _ _ => (g_tup rfl (gs_cons (g_name S.nd (i := 5)) (gs_cons (g_name S.nd (i := 6)) gs_nil)))) (fun _ _ _ _ _ => c_nil) (fun _ _ _ _ _ => (d_var 5)) (fun _ _ _ _ _ => (d_neg (b_var 6))))) p_nil)))) (DP.toB d_int)))))) (s_one (s_ret (DP.toE (d_tup (p_cons (d_var 4) (p_cons (d_ix (DP.toB (d_fn c_best_from (hr.mono (by decide)) rfl (takes_of rfl rfl rfl rfl) (p_cons (d_var 2) (p_cons (d_var 3) p_nil)))) (DP.toB d_int)) p_nil)))))))))))
/-! ### check_letters -/
abbrev s_check_letters : Stmt := topS 12
abbrev N_check_letters : List Str := ["value", "letter"]
def b_check_letters : DL.Env → DL.R Fl := (seqS (ifS (withEnv (orB (notB (tru (appN isiD (aCons (gAny 0) (aCons (kc (.ty "str")) aNil))))) (tst (bin gtD (appN lenD (aCons (gAny 0) aNil)) (appN lenD (aCons (kc (.str "abcdefgh")) aNil)))))) nvrS skipS) (seqS (forS (withEnv (itX zD (gSh 0))) (gSet 1) (exprS (withEnv (callF 1 F_check_letter (aCons (gSh 1) aNil))))) (ifS (withEnv (tst (bin neD (gAny 0) (mthV joinD (kc (.str "")) (aCons (un1 srtSetD (gAny 0)) aNil))))) nvrS skipS)))
def F_check_letters : List D → DL.R D := fnD 2 1 b_check_letters
theorem sc_check_letters : FnScope N_check_letters ["value"] (defScope s_check_letters) := ⟨rfl, rfl, rfl, by decide +kernel, rfl, by decide +kernel, by decide +kernel⟩
theorem ok_check_letters {P : Program} {w : World} {K : PySem.W.Frag} {mg : Str → Option Value} {base : Heap} {f : Addr} {fd : FuncData} (G : Gs mg) (F : FnP K "check_letters" s_check_letters f fd) (hm : mg "check_letters" = some (.ref f)) (c_check_letter : Cal P w K mg base 2 "check_letter" 1 F_check_letter) : Cal P w K mg base 3 "check_letters" 1 F_check_letters := by
  have S := sc_check_letters
  refine cal_of (N := N_check_letters) (ps := ["value"]) (b := b_check_letters) F S hm (by decide) (fun _ _ _ _ _ _ us hl => match us, hl with | [_], _ => rfl) fun cdv A outer s H E hr => ?_
  exact (s_cons (s_if (DT.toE (DW.t (w_or (t_not (t_tru (DP.toB (d_callB call_isi3 o_isi rfl G.f_isinstance (by rfl) (b_cons (b_var 0) (b_cons (DP.toB (b_ty rfl G.f_str (by rfl))) b_nil)))))) (w_or1 (t_cmp op_gt o_cmpI (DP.toB (d_callB call_len3 o_len rfl G.f_len (by rfl) (b_cons (b_var 0) b_nil))) (DP.toB (d_callB call_len3 o_len rfl G.f_len (by rfl) (b_cons (DP.toB (d_gstr G.c_LETTERS rfl)) b_nil))) (by rfl)))))) (s_one s_never) s_nil) (s_cons (s_for (passes_of rfl) rfl (DIp.toI (p_any (d_var 0))) (g_name S.nd (i := 1)) (s_one (s_expr (DP.toE (d_fn c_check_letter (hr.mono (by decide)) rfl (takes_of rfl rfl rfl rfl) (p_cons (d_var 1) p_nil)))))) (s_one (s_if (DT.toE (t_cmp (op_ne2 hr.units) o_ne (b_var 0) (DP.toB (d_bm PySem.F.slot_str_join PySem.F.type_str_join mt_join o_join (DP.toB d_str) (b_cons (DP.toB (DF.toP (d_srtSet rfl rfl G.f_sorted rfl G.f_set (b_var 0)))) b_nil))) (by rfl))) (s_one s_never) s_nil))))
/-! ### with_letters -/
abbrev s_with_letters : Stmt := topS 18
abbrev N_with_letters : List Str := ["graph", "letters", "rows", "row", "letter", "after"]
def b_with_letters : DL.Env → DL.R Fl := (seqS (setO 2 (mkL aNil)) (seqS (forS (withEnv (itX zD (un1 (fldD "arrows") (gSh 0)))) (gSet 3) (appS 2 (un1 toFz (dcD [("letter", 4), ("after", 5)] (itX itemsD (gSh 3)) (gTupD 2 (gsCons (gSet 4) (gsCons (gSet 5) gsNil))) (tst (bin (inB false) (gAny 4) (gAny 1))) (gSh 4) (gSh 5))))) (frzS 2 (retS (withEnv (callF 2 (mkG "arrows" "ends") (aCons (gSh 2) (aCons (un1 (fldD "ends") (gSh 0)) aNil))))))))
def F_with_letters : List D → DL.R D := fnD 6 2 b_with_letters
theorem sc_with_letters : FnScope N_with_letters ["graph", "letters"] (defScope s_with_letters) := ⟨rfl, rfl, rfl, by decide +kernel, rfl, by decide +kernel, by decide +kernel⟩
theorem ok_with_letters {P : Program} {w : World} {K : PySem.W.Frag} {mg : Str → Option Value} {base : Heap} {f : Addr} {fd : FuncData} (G : Gs mg) (F : FnP K "with_letters" s_with_letters f fd) (hm : mg "with_letters" = some (.ref f)) (c_Graph : CalC P w K mg base 1 "Graph" "arrows" "ends") : Cal P w K mg base 3 "with_letters" 2 F_with_letters := by
  have S := sc_with_letters
  refine cal_of (N := N_with_letters) (ps := ["graph", "letters"]) (b := b_with_letters) F S hm (by decide) (fun _ _ _ _ _ _ us hl => match us, hl with | [_, _], _ => rfl) fun cdv A outer s H E hr => ?_
  exact (s_cons (s_setO 2 S.nd (d_lst p_nil)) (s_cons (s_for (passes_of rfl) rfl (DIp.toI (p_any (d_fld (d_var 0)))) (g_name S.nd (i := 3)) (s_one (s_append 2 (DF.frz (d_dc (own := [("letter", 4), ("after", 5)]) rfl S.nd (p_items (d_var 3)) (blkOk_by (by rfl)) (fun _ _ _ _ _ => (g_tup rfl (gs_cons (g_name S.nd (i := 4)) (gs_cons (g_name S.nd (i := 5)) gs_nil)))) (fun _ _ _ _ _ => (c_one (t_cmp (op_in3 (u65 hr)) o_in (b_var 4) (b_var 1) (by rfl)))) (fun _ _ _ _ _ => (d_var 4)) (fun _ _ _ _ _ => (d_var 5))))))) (s_frzS 2 (s_one (s_ret (DP.toE (d_mkC c_Graph (hr.mono (by decide)) rfl (p_cons (d_var 2) (p_cons (d_fld (d_var 0)) p_nil)))))))))
/-! ### best_without -/
abbrev s_best_without : Stmt := topS 38
abbrev N_best_without : List Str := ["film", "letters", "worth", "kept", "letter"]
def b_best_without : DL.Env → DL.R Fl := (seqS (setS 3 (withEnv (lcD [("letter", 4)] (itX zD (kc (.str "abcdefgh"))) (gSet 4) (tst (bin (inB true) (gAny 4) (gAny 1))) (gSh 4)))) (retS (withEnv (callF 2 F_best_word (aCons (callF 2 F_with_letters (aCons (callF 1 F_outcome_graph (aCons (gSh 0) aNil)) (aCons (gSh 3) aNil))) (aCons (un1 toFz (dcD [("letter", 4)] (itX zD (gSh 3)) (gSet 4) yesB (gSh 4) (gSh 2))) aNil))))))
def F_best_without : List D → DL.R D := fnD 5 3 b_best_without
theorem sc_best_without : FnScope N_best_without ["film", "letters", "worth"] (defScope s_best_without) := ⟨rfl, rfl, rfl, by decide +kernel, rfl, by decide +kernel, by decide +kernel⟩
theorem ok_best_without {P : Program} {w : World} {K : PySem.W.Frag} {mg : Str → Option Value} {base : Heap} {f : Addr} {fd : FuncData} (G : Gs mg) (F : FnP K "best_without" s_best_without f fd) (hm : mg "best_without" = some (.ref f)) (c_best_word : Cal P w K mg base 2 "best_word" 2 F_best_word) (c_with_letters : Cal P w K mg base 3 "with_letters" 2 F_with_letters) (c_outcome_graph : Cal P w K mg base 6 "outcome_graph" 1 F_outcome_graph) : Cal P w K mg base 7 "best_without" 3 F_best_without := by
  have S := sc_best_without
  refine cal_of (N := N_best_without) (ps := ["film", "letters", "worth"]) (b := b_best_without) F S hm (by decide) (fun _ _ _ _ _ _ us hl => match us, hl with | [_, _, _], _ => rfl) fun cdv A outer s H E hr => ?_
  exact (s_cons (s_setLc 3 (own := [("letter", 4)]) rfl S.nd (p_any (d_gstr G.c_LETTERS rfl)) (blkOk_by (by rfl)) (fun _ _ _ _ _ => (g_name S.nd (i := 4))) (fun _ _ _ _ _ => (c_one (t_cmp (op_notIn3 (u65 hr)) o_in (b_var 4) (b_var 1) (by rfl)))) (fun _ _ _ _ _ => (d_var 4))) (s_one (s_ret (DP.toE (d_fn c_best_word (hr.mono (by decide)) rfl (takes_of rfl rfl rfl rfl) (p_cons (d_fn c_with_letters (hr.mono (by decide)) rfl (takes_of rfl rfl rfl rfl) (p_cons (d_fn c_outcome_graph (hr.mono (by decide)) rfl (takes_of rfl rfl rfl rfl) (p_cons (d_var 0) p_nil)) (p_cons (d_var 3) p_nil))) (p_cons (DF.frz (d_dc (own := [("letter", 4)]) rfl S.nd (p_any (d_var 3)) (blkOk_by (by rfl)) (fun _ _ _ _ _ => (g_name S.nd (i := 4))) (fun _ _ _ _ _ => c_nil) (fun _ _ _ _ _ => (d_var 4)) (fun _ _ _ _ _ => (d_var 2)))) p_nil)))))))
/-! ### shortest_without -/
abbrev s_shortest_without : Stmt := topS 39
abbrev N_shortest_without : List Str := ["film", "letters"]
def b_shortest_without : DL.Env → DL.R Fl := (seqS (exprS (withEnv (callF 1 F_check_film (aCons (gSh 0) aNil)))) (seqS (exprS (withEnv (callF 1 F_check_letters (aCons (gSh 1) aNil)))) (retS (withEnv (callF 3 F_best_without (aCons (gSh 0) (aCons (gSh 1) (aCons (un1 negD (kc (.int 1))) aNil))))))))
def F_shortest_without : List D → DL.R D := fnD 2 2 b_shortest_without
theorem sc_shortest_without : FnScope N_shortest_without ["film", "letters"] (defScope s_shortest_without) := ⟨rfl, rfl, rfl, by decide +kernel, rfl, by decide +kernel, by decide +kernel⟩
theorem ok_shortest_without {P : Program} {w : World} {K : PySem.W.Frag} {mg : Str → Option Value} {base : Heap} {f : Addr} {fd : FuncData} (G : Gs mg) (F : FnP K "shortest_without" s_shortest_without f fd) (hm : mg "shortest_without" = some (.ref f)) (c_check_film : Cal P w K mg base 2 "check_film" 1 F_check_film) (c_check_letters : Cal P w K mg base 3 "check_letters" 1 F_check_letters) (c_best_without : Cal P w K mg base 7 "best_without" 3 F_best_without) : Cal P w K mg base 8 "shortest_without" 2 F_shortest_without := by
  have S := sc_shortest_without
  refine cal_of (N := N_shortest_without) (ps := ["film", "letters"]) (b := b_shortest_without) F S hm (by decide) (fun _ _ _ _ _ _ us hl => match us, hl with | [_, _], _ => rfl) fun cdv A outer s H E hr => ?_
  exact (s_cons (s_expr (DP.toE (d_fn c_check_film (hr.mono (by decide)) rfl (takes_of rfl rfl rfl rfl) (p_cons (d_var 0) p_nil)))) (s_cons (s_expr (DP.toE (d_fn c_check_letters (hr.mono (by decide)) rfl (takes_of rfl rfl rfl rfl) (p_cons (d_var 1) p_nil)))) (s_one (s_ret (DP.toE (d_fn c_best_without (hr.mono (by decide)) rfl (takes_of rfl rfl rfl rfl) (p_cons (d_var 0) (p_cons (d_var 1) (p_cons (d_neg (DP.toB d_int)) p_nil)))))))))
/-! ### longest_without -/
abbrev s_longest_without : Stmt := topS 40
abbrev N_longest_without : List Str := ["film", "letters"]
def b_longest_without : DL.Env → DL.R Fl := (seqS (exprS (withEnv (callF 1 F_check_film (aCons (gSh 0) aNil)))) (seqS (exprS (withEnv (callF 1 F_check_letters (aCons (gSh 1) aNil)))) (retS (withEnv (callF 3 F_best_without (aCons (gSh 0) (aCons (gSh 1) (aCons (kc (.int 1)) aNil))))))))
def F_longest_without : List D → DL.R D := fnD 2 2 b_longest_without
theorem sc_longest_without : FnScope N_longest_without ["film", "letters"] (defScope s_longest_without) := ⟨rfl, rfl, rfl, by decide +kernel, rfl, by decide +kernel, by decide +kernel⟩
theorem ok_longest_without {P : Program} {w : World} {K : PySem.W.Frag} {mg : Str → Option Value} {base : Heap} {f : Addr} {fd : FuncData} (G : Gs mg) (F : FnP K "longest_without" s_longest_without f fd) (hm : mg "longest_without" = some (.ref f)) (c_check_film : Cal P w K mg base 2 "check_film" 1 F_check_film) (c_check_letters : Cal P w K mg base 3 "check_letters" 1 F_check_letters) (c_best_without : Cal P w K mg base 7 "best_without" 3 F_best_without) : Cal P w K mg base 8 "longest_without" 2 F_longest_without := by
  have S := sc_longest_without
  refine cal_of (N := N_longest_without) (ps := ["film", "letters"]) (b := b_longest_without) F S hm (by decide) (fun _ _ _ _ _ _ us hl => match us, hl with | [_, _], _ => rfl) fun cdv A outer s H E hr => ?_
  exact (s_cons (s_expr (DP.toE (d_fn c_check_film (hr.mono (by decide)) rfl (takes_of rfl rfl rfl rfl) (p_cons (d_var 0) p_nil)))) (s_cons (s_expr (DP.toE (d_fn c_check_letters (hr.mono (by decide)) rfl (takes_of rfl rfl rfl rfl) (p_cons (d_var 1) p_nil)))) (s_one (s_ret (DP.toE (d_fn c_best_without (hr.mono (by decide)) rfl (takes_of rfl rfl rfl rfl) (p_cons (d_var 0) (p_cons (d_var 1) (p_cons d_int p_nil)))))))))
/-! ### law -/
abbrev s_law : Stmt := topS 45
abbrev N_law : List Str := ["script", "row", "film", "some", "weights", "values", "doubled", "shifted", "ones", "letter", "name", "low", "high", "heavy", "one", "told", "at"]
def b_law : DL.Env → DL.R Fl := (seqS (setO 1 (mkL (aCons (gSh 0) (aCons (kc (.int 0)) (aCons (kc (.int 5075)) (aCons (kc (.int 0)) aNil)))))) (seqS (setS 2 (callIO 1 2 F__law_film (aConsE (withEnv (kc (.int 11))) (aConsE (binE plusD (withEnv (kc (.int 1))) (callIO 1 1 F__law_taken (withEnv (aCons (kc (.int 4)) aNil)))) (withEnv aNil))))) (seqS (asgS (gTupD 2 (gsCons (gSet 3) (gsCons (gSet 4) gsNil))) (mkTE (aConsE (withEnv (callF 1 F_outcomes (aCons (gSh 2) aNil))) (aConsE (appNE tupC (aConsE (lcE [("one", 14)] (itN rg1 (aCons (kc (.int 8)) aNil)) (gSet 14) (binE subD (callIO 1 1 F__law_taken (withEnv (aCons (kc (.int 7)) aNil))) (withEnv (kc (.int 3))))) (withEnv aNil))) (withEnv aNil))))) (seqS (setS 5 (withEnv (lcD [("told", 15)] (itX zD (gSh 3)) (gSet 15) yesB (callF 2 F_worth (aCons (gSh 15) (aCons (gSh 4) aNil)))))) (seqS (ifS (withEnv (tst (bin neD (callF 2 F_greatest_worth (aCons (gSh 2) (aCons (gSh 4) aNil))) (mkT (aCons (appN maxLD (aCons (gAny 5) aNil)) (aCons (bin ixD (gAny 3) (mthL indexLD (gAny 5) (aCons (appN maxLD (aCons (gAny 5) aNil)) aNil))) aNil)))))) (retS (withEnv (kc (.bl false)))) skipS) (seqS (ifS (withEnv (tst (bin neD (callF 2 F_least_worth (aCons (gSh 2) (aCons (gSh 4) aNil))) (mkT (aCons (appN minLD (aCons (gAny 5) aNil)) (aCons (bin ixD (gAny 3) (mthL indexLD (gAny 5) (aCons (appN minLD (aCons (gAny 5) aNil)) aNil))) aNil)))))) (retS (withEnv (kc (.bl false)))) skipS) (seqS (setS 6 (withEnv (appN tupC (aCons (lcD [("one", 14)] (itX zD (gSh 4)) (gSet 14) yesB (bin mulD (kc (.int 2)) (gAny 14))) aNil)))) (seqS (ifS (withEnv (tst (bin neD (callF 2 F_greatest_worth (aCons (gSh 2) (aCons (gSh 6) aNil))) (mkT (aCons (bin mulD (kc (.int 2)) (appN maxLD (aCons (gAny 5) aNil))) (aCons (bin ixD (callF 2 F_greatest_worth (aCons (gSh 2) (aCons (gSh 4) aNil))) (kc (.int 1))) aNil)))))) (retS (withEnv (kc (.bl false)))) skipS) (seqS (setS 7 (withEnv (appN tupC (aCons (lcD [("one", 14)] (itX zD (gSh 4)) (gSet 14) yesB (bin plusD (gAny 14) (kc (.int 7)))) aNil)))) (seqS (ifS (withEnv (tst (bin gtD (bin ixD (callF 2 F_greatest_worth (aCons (gSh 2) (aCons (gSh 7) aNil))) (kc (.int 0))) (bin plusD (appN maxLD (aCons (gAny 5) aNil)) (bin mulD (kc (.int 7)) (appN lenD (aCons (gAny 2) aNil))))))) (retS (withEnv (kc (.bl false)))) skipS) (seqS (ifS (withEnv (tst (bin ltD (bin ixD (callF 2 F_least_worth (aCons (gSh 2) (aCons (gSh 7) aNil))) (kc (.int 0))) (bin plusD (appN minLD (aCons (gAny 5) aNil)) (bin mulD (kc (.int 7)) (callF 1 F_shortest_length (aCons (gSh 2) aNil))))))) (retS (withEnv (kc (.bl false)))) skipS) (seqS (setS 8 (withEnv (bin mulTD (mkT (aCons (kc (.int 1)) aNil)) (kc (.int 8))))) (seqS (ifS (withEnv (tst (bin neD (callF 2 F_least_worth (aCons (gSh 2) (aCons (gSh 8) aNil))) (mkT (aCons (callF 1 F_shortest_length (aCons (gSh 2) aNil)) (aCons (callF 1 F_shortest (aCons (gSh 2) aNil)) aNil)))))) (retS (withEnv (kc (.bl false)))) skipS) (seqS (ifS (withEnv (tst (bin neD (callF 2 F_greatest_worth (aCons (gSh 2) (aCons (gSh 8) aNil))) (mkT (aCons (appN lenD (aCons (gAny 2) aNil)) (aCons (gSh 2) aNil)))))) (retS (withEnv (kc (.bl false)))) skipS) (seqS (setS 9 (callIO 1 1 F__law_taken (withEnv (aCons (kc (.int 8)) aNil)))) (seqS (setS 10 (withEnv (bin ixD (kc (.str "abcdefgh")) (gAny 9)))) (seqS (asgS (gTupD 2 (gsCons (gSet 11) (gsCons (gSet 12) gsNil))) (withEnv (callF 2 F_letter_range (aCons (gSh 2) (aCons (gSh 10) aNil))))) (seqS (setS 13 (withEnv (appN tupC (aCons (lcD [("at", 16)] (itN rg1 (aCons (kc (.int 8)) aNil)) (gSet 16) yesB (ifV (tst (bin eqD (gAny 16) (gAny 9))) (kc (.int 1000)) (kc (.int 1)))) aNil)))) (seqS (ifS (withEnv (orB (tst (bin neD (bin fdivD (bin ixD (callF 2 F_least_worth (aCons (gSh 2) (aCons (gSh 13) aNil))) (kc (.int 0))) (kc (.int 1000))) (gAny 11))) (tst (bin neD (bin fdivD (bin ixD (callF 2 F_greatest_worth (aCons (gSh 2) (aCons (gSh 13) aNil))) (kc (.int 0))) (kc (.int 1000))) (gAny 12))))) (retS (withEnv (kc (.bl false)))) skipS) (seqS (ifS (withEnv (andB (tst (bin eqD (gAny 11) (kc (.int 0)))) (tst (bin neD (bin ixD (callF 2 F_least_worth (aCons (gSh 2) (aCons (gSh 13) aNil))) (kc (.int 1))) (callF 2 F_shortest_without (aCons (gSh 2) (aCons (gSh 10) aNil))))))) (retS (withEnv (kc (.bl false)))) skipS) (retS (withEnv (orV (bin gtD (gAny 11) (kc (.int 0))) (bin geD (appN lenD (aCons (callF 2 F_longest_without (aCons (gSh 2) (aCons (gSh 10) aNil))) aNil)) (appN lenD (aCons (callF 2 F_shortest_without (aCons (gSh 2) (aCons (gSh 10) aNil))) aNil))))))))))))))))))))))))))
def F_law : List D → DL.R D := fnD 17 1 b_law
theorem sc_law : FnScope N_law ["script"] (defScope s_law) := ⟨rfl, rfl, rfl, by decide +kernel, rfl, by decide +kernel, by decide +kernel⟩
theorem law_fn {P : Program} {w : World} {K : PySem.W.Frag} {mg : Str → Option Value} {base : Heap} {f : Addr} {fd : FuncData} (G : Gs mg) (F : FnP K "law" s_law f fd) (c__law_film : CalIO P w K mg base 2 "_law_film" 2 F__law_film) (c__law_taken : CalIO P w K mg base 1 "_law_taken" 1 F__law_taken) (c_outcomes : Cal P w K mg base 7 "outcomes" 1 F_outcomes) (c_worth : Cal P w K mg base 4 "worth" 2 F_worth) (c_greatest_worth : Cal P w K mg base 7 "greatest_worth" 2 F_greatest_worth) (c_least_worth : Cal P w K mg base 7 "least_worth" 2 F_least_worth) (c_shortest_length : Cal P w K mg base 8 "shortest_length" 1 F_shortest_length) (c_shortest : Cal P w K mg base 7 "shortest" 1 F_shortest) (c_letter_range : Cal P w K mg base 7 "letter_range" 2 F_letter_range) (c_shortest_without : Cal P w K mg base 8 "shortest_without" 2 F_shortest_without) (c_longest_without : Cal P w K mg base 8 "longest_without" 2 F_longest_without) : FnOk P w K mg base (L2.CX P w) 9 f fd ["script"] (SpF K mg 1 F_law) := by
  have S := sc_law
  refine fn_ok (N := N_law) (b := b_law) F S (by decide) fun cdv A outer s H E hr => ?_
  exact (s_cons (s_setO 1 S.nd (d_lst (p_cons (d_var 0) (p_cons d_int (p_cons d_int (p_cons d_int p_nil)))))) (s_cons (s_set 2 S.nd (e_fnIO 1 c__law_film (hr.mono (by decide)) rfl (takes_of rfl rfl rfl rfl) (e_cons (DP.toE d_int) (e_cons (e_op op_plus o_plus (DP.toE d_int) (e_fnIO 1 c__law_taken (hr.mono (by decide)) rfl (takes_of rfl rfl rfl rfl) (DPs.toE (p_cons d_int p_nil)))) (DPs.toE p_nil))))) (s_cons (s_asg (e_tup (e_cons (DP.toE (d_fn c_outcomes (hr.mono (by decide)) rfl (takes_of rfl rfl rfl rfl) (p_cons (d_var 2) p_nil))) (e_cons (e_callT call_tup3 o_tupc rfl G.f_tuple (by rfl) (e_cons (d_lcE (own := [("one", 14)]) rfl S.nd (p_range1 rfl G.f_range (b_cons (DP.toB d_int) b_nil)) (blkOk_by (by rfl)) (fun _ _ _ _ _ => (g_name S.nd (i := 14))) (fun _ _ _ _ _ => (e_op op_sub o_sub (e_fnIO 1 c__law_taken (hr.mono (by decide)) rfl takes_no (DPs.toE (p_cons d_int p_nil))) (DP.toE d_int)))) (DPs.toE p_nil))) (DPs.toE p_nil)))) (g_tup rfl (gs_cons (g_name S.nd (i := 3)) (gs_cons (g_name S.nd (i := 4)) gs_nil)))) (s_cons (s_setLc 5 (own := [("told", 15)]) rfl S.nd (p_any (d_var 3)) (blkOk_by (by rfl)) (fun _ _ _ _ _ => (g_name S.nd (i := 15))) (fun _ _ _ _ _ => c_nil) (fun _ _ _ _ _ => (d_fn c_worth (hr.mono (by decide)) rfl takes_no (p_cons (d_var 15) (p_cons (d_var 4) p_nil))))) (s_cons (s_if (DT.toE (t_cmp (op_ne2 hr.units) o_ne (DP.toB (d_fn c_greatest_worth (hr.mono (by decide)) rfl (takes_of rfl rfl rfl rfl) (p_cons (d_var 2) (p_cons (d_var 4) p_nil)))) (DP.toB (d_tup (p_cons (d_callB (cr_max rfl) o_maxL rfl G.f_max (by rfl) (b_cons (b_var 5) b_nil)) (p_cons (d_ix (b_var 3) (DP.toB (d_ml PySem.F.slot_list_index PySem.F.type_list_index (mt_indexD (u65 hr)) o_indexL (b_var 5) (b_cons (DP.toB (d_callB (cr_max rfl) o_maxL rfl G.f_max (by rfl) (b_cons (b_var 5) b_nil))) b_nil)))) p_nil)))) (by rfl))) (s_one (s_ret (DP.toE d_bl))) s_nil) (s_cons (s_if (DT.toE (t_cmp (op_ne2 hr.units) o_ne (DP.toB (d_fn c_least_worth (hr.mono (by decide)) rfl (takes_of rfl rfl rfl rfl) (p_cons (d_var 2) (p_cons (d_var 4) p_nil)))) (DP.toB (d_tup (p_cons (d_callB (cr_min rfl) o_minL rfl G.f_min (by rfl) (b_cons (b_var 5) b_nil)) (p_cons (d_ix (b_var 3) (DP.toB (d_ml PySem.F.slot_list_index PySem.F.type_list_index (mt_indexD (u65 hr)) o_indexL (b_var 5) (b_cons (DP.toB (d_callB (cr_min rfl) o_minL rfl G.f_min (by rfl) (b_cons (b_var 5) b_nil))) b_nil)))) p_nil)))) (by rfl))) (s_one (s_ret (DP.toE d_bl))) s_nil) (s_cons (s_set 6 S.nd (DP.toE (d_callT call_tup3 o_tupc rfl G.f_tuple (by rfl) (b_cons (DP.toB (DF.toP (d_lc (own := [("one", 14)]) rfl S.nd (p_any (d_var 4)) (blkOk_by (by rfl)) (fun _ _ _ _ _ => (g_name S.nd (i := 14))) (fun _ _ _ _ _ => c_nil) (fun _ _ _ _ _ => (d_op op_mul o_mul (DP.toB d_int) (b_var 14)))))) b_nil)))) (s_cons (s_if (DT.toE (t_cmp (op_ne2 hr.units) o_ne (DP.toB (d_fn c_greatest_worth (hr.mono (by decide)) rfl (takes_of rfl rfl rfl rfl) (p_cons (d_var 2) (p_cons (d_var 6) p_nil)))) (DP.toB (d_tup (p_cons (d_op op_mul o_mul (DP.toB d_int) (DP.toB (d_callB (cr_max rfl) o_maxL rfl G.f_max (by rfl) (b_cons (b_var 5) b_nil)))) (p_cons (d_ix (DP.toB (d_fn c_greatest_worth (hr.mono (by decide)) rfl (takes_of rfl rfl rfl rfl) (p_cons (d_var 2) (p_cons (d_var 4) p_nil)))) (DP.toB d_int)) p_nil)))) (by rfl))) (s_one (s_ret (DP.toE d_bl))) s_nil) (s_cons (s_set 7 S.nd (DP.toE (d_callT call_tup3 o_tupc rfl G.f_tuple (by rfl) (b_cons (DP.toB (DF.toP (d_lc (own := [("one", 14)]) rfl S.nd (p_any (d_var 4)) (blkOk_by (by rfl)) (fun _ _ _ _ _ => (g_name S.nd (i := 14))) (fun _ _ _ _ _ => c_nil) (fun _ _ _ _ _ => (d_op op_plus o_plus (b_var 14) (DP.toB d_int)))))) b_nil)))) (s_cons (s_if (DT.toE (t_cmp op_gt o_cmpI (DP.toB (d_ix (DP.toB (d_fn c_greatest_worth (hr.mono (by decide)) rfl (takes_of rfl rfl rfl rfl) (p_cons (d_var 2) (p_cons (d_var 7) p_nil)))) (DP.toB d_int))) (DP.toB (d_op op_plus o_plus (DP.toB (d_callB (cr_max rfl) o_maxL rfl G.f_max (by rfl) (b_cons (b_var 5) b_nil))) (DP.toB (d_op op_mul o_mul (DP.toB d_int) (DP.toB (d_callB call_len3 o_len rfl G.f_len (by rfl) (b_cons (b_var 2) b_nil))))))) (by rfl))) (s_one (s_ret (DP.toE d_bl))) s_nil) (s_cons (s_if (DT.toE (t_cmp op_lt o_cmpI (DP.toB (d_ix (DP.toB (d_fn c_least_worth (hr.mono (by decide)) rfl (takes_of rfl rfl rfl rfl) (p_cons (d_var 2) (p_cons (d_var 7) p_nil)))) (DP.toB d_int))) (DP.toB (d_op op_plus o_plus (DP.toB (d_callB (cr_min rfl) o_minL rfl G.f_min (by rfl) (b_cons (b_var 5) b_nil))) (DP.toB (d_op op_mul o_mul (DP.toB d_int) (DP.toB (d_fn c_shortest_length (hr.mono (by decide)) rfl (takes_of rfl rfl rfl rfl) (p_cons (d_var 2) p_nil))))))) (by rfl))) (s_one (s_ret (DP.toE d_bl))) s_nil) (s_cons (s_set 8 S.nd (DP.toE (d_op op_mulT o_mulT (DP.toB (d_tup (p_cons d_int p_nil))) (DP.toB d_int)))) (s_cons (s_if (DT.toE (t_cmp (op_ne2 hr.units) o_ne (DP.toB (d_fn c_least_worth (hr.mono (by decide)) rfl (takes_of rfl rfl rfl rfl) (p_cons (d_var 2) (p_cons (d_var 8) p_nil)))) (DP.toB (d_tup (p_cons (d_fn c_shortest_length (hr.mono (by decide)) rfl (takes_of rfl rfl rfl rfl) (p_cons (d_var 2) p_nil)) (p_cons (d_fn c_shortest (hr.mono (by decide)) rfl (takes_of rfl rfl rfl rfl) (p_cons (d_var 2) p_nil)) p_nil)))) (by rfl))) (s_one (s_ret (DP.toE d_bl))) s_nil) (s_cons (s_if (DT.toE (t_cmp (op_ne2 hr.units) o_ne (DP.toB (d_fn c_greatest_worth (hr.mono (by decide)) rfl (takes_of rfl rfl rfl rfl) (p_cons (d_var 2) (p_cons (d_var 8) p_nil)))) (DP.toB (d_tup (p_cons (d_callB call_len3 o_len rfl G.f_len (by rfl) (b_cons (b_var 2) b_nil)) (p_cons (d_var 2) p_nil)))) (by rfl))) (s_one (s_ret (DP.toE d_bl))) s_nil) (s_cons (s_set 9 S.nd (e_fnIO 1 c__law_taken (hr.mono (by decide)) rfl (takes_of rfl rfl rfl rfl) (DPs.toE (p_cons d_int p_nil)))) (s_cons (s_set 10 S.nd (DP.toE (d_ix (DP.toB d_str) (b_var 9)))) (s_cons (s_asg (DP.toE (d_fn c_letter_range (hr.mono (by decide)) rfl (takes_of rfl rfl rfl rfl) (p_cons (d_var 2) (p_cons (d_var 10) p_nil)))) (g_tup rfl (gs_cons (g_name S.nd (i := 11)) (gs_cons (g_name S.nd (i := 12)) gs_nil)))) (s_cons (s_set 13 S.nd (DP.toE (d_callT call_tup3 o_tupc rfl G.f_tuple (by rfl) (b_cons (DP.toB (DF.toP (d_lc (own := [("at", 16)]) rfl S.nd (p_range1 rfl G.f_range (b_cons (DP.toB d_int) b_nil)) (blkOk_by (by rfl)) (fun _ _ _ _ _ => (g_name S.nd (i := 16))) (fun _ _ _ _ _ => c_nil) (fun _ _ _ _ _ => (d_if (t_cmp (op_eq2 hr.units) o_eq (b_var 16) (b_var 9) (by rfl)) d_int d_int))))) b_nil)))) (s_cons (s_if (DT.toE (DW.t (w_or (t_cmp (op_ne2 hr.units) o_ne (DP.toB (d_op op_fdiv o_fdiv (DP.toB (d_ix (DP.toB (d_fn c_least_worth (hr.mono (by decide)) rfl (takes_of rfl rfl rfl rfl) (p_cons (d_var 2) (p_cons (d_var 13) p_nil)))) (DP.toB d_int))) (DP.toB d_int))) (b_var 11) (by rfl)) (w_or1 (t_cmp (op_ne2 hr.units) o_ne (DP.toB (d_op op_fdiv o_fdiv (DP.toB (d_ix (DP.toB (d_fn c_greatest_worth (hr.mono (by decide)) rfl (takes_of rfl rfl rfl rfl) (p_cons (d_var 2) (p_cons (d_var 13) p_nil)))) (DP.toB d_int))) (DP.toB d_int))) (b_var 12) (by rfl)))))) (s_one (s_ret (DP.toE d_bl))) s_nil) (s_cons (s_if (DT.toE (DW.t (w_and (t_cmp (op_eq2 hr.units) o_eq (b_var 11) (DP.toB d_int) (by rfl)) (w_and1 (t_cmp (op_ne2 hr.units) o_ne (DP.toB (d_ix (DP.toB (d_fn c_least_worth (hr.mono (by decide)) rfl (takes_of rfl rfl rfl rfl) (p_cons (d_var 2) (p_cons (d_var 13) p_nil)))) (DP.toB d_int))) (DP.toB (d_fn c_shortest_without (hr.mono (by decide)) rfl (takes_of rfl rfl rfl rfl) (p_cons (d_var 2) (p_cons (d_var 10) p_nil)))) (by rfl)))))) (s_one (s_ret (DP.toE d_bl))) s_nil) (s_one (s_ret (DP.toE (d_or (d_cmp op_gt o_cmpI (b_var 11) (DP.toB d_int) (by rfl)) (d_one (d_cmp op_ge o_cmpI (DP.toB (d_callB call_len3 o_len rfl G.f_len (by rfl) (b_cons (DP.toB (d_fn c_longest_without (hr.mono (by decide)) rfl (takes_of rfl rfl rfl rfl) (p_cons (d_var 2) (p_cons (d_var 10) p_nil)))) b_nil))) (DP.toB (d_callB call_len3 o_len rfl G.f_len (by rfl) (b_cons (DP.toB (d_fn c_shortest_without (hr.mono (by decide)) rfl (takes_of rfl rfl rfl rfl) (p_cons (d_var 2) (p_cons (d_var 10) p_nil)))) b_nil))) (by rfl)))))))))))))))))))))))))))
end
end LW

end
section
namespace LW
open PySem DL PT
/-! graphs as data -/
abbrev rwD (r : List (Nat × Nat)) : D := rwX r
abbrev gD (R : List (List (Nat × Nat))) (E : List Bool) : D := gr (R.map rwD) (E.map D.bl)
theorem gA_eq (A E : List D) : fldD "arrows" (gr A E) = some (.lst A) := (rfl)
theorem gE_eq (A E : List D) : fldD "ends" (gr A E) = some (.lst E) := (rfl)
theorem vals_rw (r : List (Nat × Nat)) : valsD (rwD r) = some (r.map fun p => ni p.2) := by
  show some ((r.map fun p => ((.inr (mkS [p.1]) : L2.Key), ni p.2)).map fun kv => kv.2) = _
  rw [List.map_map]
  rfl
theorem items_rw (r : List (Nat × Nat)) : itemsD (rwD r) = some (r.map fun p => .tup [tx [p.1], ni p.2]) := by
  show some ((r.map fun p => ((.inr (mkS [p.1]) : L2.Key), ni p.2)).map fun kv => D.tup [keyV kv.1, kv.2]) = _
  rw [List.map_map]
  rfl
theorem lst_rw (r : List (Nat × Nat)) : lstItD (rwD r) = some (.lst (r.map fun p => .tup [tx [p.1], ni p.2])) := by
  show some (D.lst ((r.map fun p => ((.inr (mkS [p.1]) : L2.Key), ni p.2)).map fun kv => D.tup [keyV kv.1, kv.2])) = _
  rw [List.map_map]
  rfl
theorem row_at {R : List (List (Nat × Nat))} {v : Nat} (h : v < R.length) : (R.map rwD)[v]? = some (rwD (R.getD v [])) := by
  rw [List.getElem?_map, List.getD_eq_getElem?_getD, List.getElem?_eq_getElem h]
  rfl
theorem end_at {E : List Bool} {v : Nat} (h : v < E.length) : (E.map D.bl)[v]? = some (.bl (E.getD v false)) := by
  rw [List.getElem?_map, List.getD_eq_getElem?_getD, List.getElem?_eq_getElem h]
  rfl
theorem itmA_ok {i n : Nat} {g : D → D → Option D} {fk fe : DL.Env → DL.R D} {r : DL.Env} {s : Slot} {xs : List D} {x y d : D} (h1 : ownL r i = some (s, xs)) (h2 : fk r = .ok (ni n)) (h3 : xs[n]? = some x) (h4 : fe r = .ok y) (h5 : g x y = some d) : itmA i g fk fe r = .ok (.nx (r.set i (s.put (.lst (xs.set n d))))) := by
  have a : asN (ni n) = some n := by
    show (if (0 : Int) ≤ (n : Int) then some (n : Int).toNat else none) = _
    rw [if_pos (Int.natCast_nonneg n)]
    rfl
  unfold itmA
  rw [h1]
  simp only [R.ofO, R.bind, h2, a, h3, h4, h5]
theorem rev_items {n : Nat} (h : n ≤ 1000000) : rvR (.int 0) (.int (n : Nat)) = some ((List.range n).map fun i => ni (n - 1 - i)) := by
  unfold rvR
  simp only
  rw [if_pos (by omega)]
  congr 1
  have : ((n : Int) - 0).toNat = n := by omega
  rw [this]
  apply List.ext_getElem?
  intro i
  by_cases hi : i < n
  · rw [List.getElem?_reverse (by rw [rngL_length]; exact hi), rngL_length]
    unfold rngL
    rw [List.getElem?_map, List.getElem?_map, List.getElem?_range hi, List.getElem?_range (by omega)]
    simp
  · rw [List.getElem?_eq_none (by rw [List.length_reverse, rngL_length]; omega), List.getElem?_eq_none (by rw [List.length_map, List.length_range]; omega)]
abbrev cntB : DL.Env → DL.R Fl := (seqS (itmS 1 (gAny 2) (appN sumD (aCons (lcD [("after", 3)] (itX valsD (bin ixD (un1 (fldD "arrows") (gSh 0)) (gAny 2))) (gSet 3) yesB (bin ixD (gAny 1) (gAny 3))) aNil))) (ifS (withEnv (tru (bin ixD (un1 (fldD "ends") (gSh 0)) (gAny 2)))) (itmA 1 (intOp (fun _ _ => true) fun i j => i + j) (gAny 2) (kc (.int 1))) skipS))
theorem counts_from_ok {R : List (List (Nat × Nat))} {E : List Bool} (hU : Up R) (hE : E.length = R.length) (hl : R.length ≤ 1000) (hr : ∀ v, (R.getD v []).length ≤ 1000) : F_counts_from [gD R E] = .ok (.lst ((csI R E R.length).map ni)) := by
  obtain ⟨t, y2, e, h1, n⟩ := for_run (b := cntB) (g := gSet 2) (τ := List Nat) (fun i => ni (R.length - 1 - i)) (fun t s => [.sh (gD R E), .own (.lst (t.map ni)), s, .un]) (fun j t => t = csI R E j) (List.range R.length) (csI R E 0) .un (fun _ _ _ => rfl) rfl rfl fun j i t ej ht => by
      subst ht
      have hj : j < R.length := by have := (List.getElem?_eq_some_iff.mp ej).1; rwa [List.length_range] at this
      have ei : i = j := by rw [List.getElem?_range hj] at ej; exact (Option.some.inj ej).symm
      subst ei
      generalize hv : R.length - 1 - i = v
      have hvl : v < R.length := by omega
      have ra := row_at hvl
      have ea := end_at (E := E) (v := v) (by omega)
      have ga := gA_eq (R.map rwD) (E.map D.bl)
      have ge := gE_eq (R.map rwD) (E.map D.bl)
      have it : itX valsD (bin ixD (un1 (fldD "arrows") (gSh 0)) (gAny 2)) [.sh (gD R E), .own (.lst ((csI R E i).map ni)), .sh (ni v), .un] = .ok ((R.getD v []).map fun p => ni p.2) := by wide_open with ((), ga, ra, vals_rw)
      have c := lcY (r := [.sh (gD R E), .own (.lst ((csI R E i).map ni)), .sh (ni v), .un]) (own := [("after", 3)]) (g := gSet 3) (f := bin ixD (gAny 1) (gAny 3)) (R.getD v []) (fun p => ni p.2) (fun p => ni (wd R E p.2).length) (fun p => [.sh (gD R E), .own (.lst ((csI R E i).map ni)), .sh (ni v), .sh (ni p.2)]) rfl it (by have := hr v; omega) (fun _ => rfl) fun p hp => by
        obtain ⟨u1, u2⟩ := hU v p hp
        have g1 : ((csI R E i).map ni)[p.2]? = some (ni (wd R E p.2).length) := by
          rw [List.getElem?_map, csI_get u2, if_pos (by omega)]
          rfl
        wide_open with ((), g1)
      have sm : sumD [.lst ((R.getD v []).map fun p => ni (wd R E p.2).length)] = some (ni ((R.getD v []).map fun p => (wd R E p.2).length).sum) := by
        have := sum_nl ((R.getD v []).map fun p => (wd R E p.2).length)
        rw [List.map_map] at this
        exact this
      have wl := wd_len (E := E) hU hvl
      have ix : L2.ixN ((csI R E i).map ni).length (v : Int) = some v := by
        unfold L2.ixN
        rw [List.length_map, csI_len, if_pos (Int.natCast_nonneg v), if_pos (by omega)]
        rfl
      have ix2 : L2.ixN (csI R E i).length (v : Int) = some v := by rw [← List.length_map (f := ni)]; exact ix
      have st := csI_set (E := E) hj
      rw [hv] at st
      generalize hs : ((R.getD v []).map fun p => (wd R E p.2).length).sum = sum at sm wl
      have m1 : ((csI R E i).map ni).set v (ni sum) = ((csI R E i).set v sum).map ni := by rw [List.map_set]
      cases q : E.getD v false with
      | false =>
        rw [q] at ea wl
        simp only [Bool.false_eq_true, if_false, Nat.add_zero] at wl
        rw [wl] at st
        refine ⟨csI R E (i + 1), ?_, rfl⟩
        rw [← st]
        wide_open with ((), c, sm, ix, ix2, ge, ea, m1)
      | true =>
        rw [q] at ea wl
        simp only [if_true] at wl
        rw [wl] at st
        have ia : itmA 1 (intOp (fun _ _ => true) fun i j => i + j) (gAny 2) (kc (.int 1)) [.sh (gD R E), .own (.lst (((csI R E i).set v sum).map ni)), .sh (ni v), .un] = .ok (.nx [.sh (gD R E), .own (.lst ((csI R E (i + 1)).map ni)), .sh (ni v), .un]) := by
          have := itmA_ok (i := 1) (n := v) (g := intOp (fun _ _ => true) fun i j => i + j) (fk := gAny 2) (fe := kc (.int 1)) (r := [.sh (gD R E), .own (.lst (((csI R E i).set v sum).map ni)), .sh (ni v), .un]) (s := .own (.lst (((csI R E i).set v sum).map ni))) (xs := ((csI R E i).set v sum).map ni) (x := ni sum) (y := .int 1) (d := ni (sum + 1)) rfl rfl (by
            rw [List.getElem?_map, List.getElem?_set_self (by rw [csI_len]; exact hvl)]
            rfl) rfl rfl
          rw [this, ← st]
          have : (((csI R E i).set v sum).map ni).set v (ni (sum + 1)) = ((csI R E i).set v (sum + 1)).map ni := by rw [← List.map_set, List.set_set]
          rw [this]
          rfl
        refine ⟨csI R E (i + 1), ?_, rfl⟩
        wide_open with ((), c, sm, ix, ix2, ge, ea, m1, ia)
  rw [List.length_range] at h1
  subst h1
  have z0 : (List.replicate R.length (.int 0) : List D) = (csI R E 0).map ni := by
    unfold csI
    apply List.ext_getElem?
    intro v
    by_cases hv : v < R.length
    · rw [List.getElem?_replicate, if_pos hv, List.getElem?_map, List.getElem?_map, List.getElem?_range hv]
      show _ = some (ni (if R.length - 0 ≤ v then _ else 0))
      rw [if_neg (by omega)]
      rfl
    · rw [List.getElem?_eq_none (by rw [List.length_replicate]; omega), List.getElem?_eq_none (by rw [List.length_map, List.length_map, List.length_range]; omega)]
  have rv := rev_items (n := R.length) (by omega)
  have ga := gA_eq (R.map rwD) (E.map D.bl)
  have ln : lenD [.lst (R.map rwD)] = some (ni R.length) := by simp [len_lst]
  refine fnD_rt (r1 := [.sh (gD R E), .sh (.lst ((csI R E R.length).map ni)), y2, .un]) rfl (show b_counts_from [.sh (gD R E), .un, .un, .un] = _ from ?_)
  unfold b_counts_from
  wide_open with ((), ga, ln, z0, rv, e)
end LW

end
section
namespace LW
open PySem DL PT
/-! the words of a graph -/
abbrev sdW (p : Nat × List Nat) : D := .tup [ni p.1, tx p.2]
abbrev kidB : DL.Env → DL.R Fl := ifS (withEnv (tst (bin gtD (bin ixD (gAny 1) (gAny 7)) (kc (.int 0))))) (appS 3 (mkT (aCons (gSh 7) (aCons (bin plusD (gAny 5) (gAny 6)) aNil)))) skipS
theorem kids_loop {R : List (List (Nat × Nat))} {E : List Bool} (x2 : Slot) (v : Nat) (w : List Nat) (hw : w.length ≤ 900) : ∀ (L : List (Nat × Nat)) (stk : List D) (s6 s7 : Slot), (∀ p ∈ L, p.2 < R.length) → stk.length + L.length ≤ 900000 →
    ∃ s6' s7', forD (gTupD 2 (gsCons (gSet 6) (gsCons (gSet 7) gsNil))) kidB (L.map fun p => .tup [tx [p.1], ni p.2]) [.sh (gD R E), .sh (.lst ((csI R E R.length).map ni)), x2, .own (.lst stk), .sh (ni v), .sh (tx w), s6, s7] =
      .ok (.nx [.sh (gD R E), .sh (.lst ((csI R E R.length).map ni)), x2, .own (.lst (stk ++ (L.filter fun p => decide (0 < (wd R E p.2).length)).map fun p => sdW (p.2, w ++ [p.1]))), .sh (ni v), .sh (tx w), s6', s7'])
  | [], stk, s6, s7, _, _ => ⟨s6, s7, by
    show forD _ _ [] _ = _
    simp only [List.filter_nil, List.map_nil, List.append_nil]
    rfl⟩
  | p :: L, stk, s6, s7, hL, hs => by
    have hp := hL p List.mem_cons_self
    have g1 : ((csI R E R.length).map ni)[p.2]? = some (ni (wd R E p.2).length) := by
      rw [List.getElem?_map, csI_get hp, if_pos (by omega)]
      rfl
    rw [List.length_cons] at hs
    rw [List.map_cons]
    unfold forD
    have g : gTupD 2 (gsCons (gSet 6) (gsCons (gSet 7) gsNil)) (.tup [tx [p.1], ni p.2]) [.sh (gD R E), .sh (.lst ((csI R E R.length).map ni)), x2, .own (.lst stk), .sh (ni v), .sh (tx w), s6, s7] = .ok [.sh (gD R E), .sh (.lst ((csI R E R.length).map ni)), x2, .own (.lst stk), .sh (ni v), .sh (tx w), .sh (tx [p.1]), .sh (ni p.2)] := by wide_open with ((), DL.eq_non)
    rw [g]
    simp only [bind_ok]
    by_cases z : 0 < (wd R E p.2).length
    · have z1 : decide ((0 : Int) < ((wd R E p.2).length : Int)) = true := decide_eq_true (by omega)
      have b : kidB [.sh (gD R E), .sh (.lst ((csI R E R.length).map ni)), x2, .own (.lst stk), .sh (ni v), .sh (tx w), .sh (tx [p.1]), .sh (ni p.2)] = .ok (.nx [.sh (gD R E), .sh (.lst ((csI R E R.length).map ni)), x2, .own (.lst (stk ++ [sdW (p.2, w ++ [p.1])])), .sh (ni v), .sh (tx w), .sh (tx [p.1]), .sh (ni p.2)]) := by wide_open with ((), g1, z1)
      rw [b]
      simp only [bind_ok]
      obtain ⟨s6', s7', e⟩ := kids_loop x2 v w hw L (stk ++ [sdW (p.2, w ++ [p.1])]) (.sh (tx [p.1])) (.sh (ni p.2)) (fun q hq => hL q (List.mem_cons_of_mem _ hq)) (by rw [List.length_append, List.length_singleton]; omega)
      refine ⟨s6', s7', ?_⟩
      have fc : (p :: L).filter (fun p => decide (0 < (wd R E p.2).length)) = p :: L.filter (fun p => decide (0 < (wd R E p.2).length)) := List.filter_cons_of_pos (p := fun p : Nat × Nat => decide (0 < (wd R E p.2).length)) (decide_eq_true z)
      rw [fc, List.map_cons]
      rw [List.append_assoc] at e
      exact e
    · have z1 : decide ((0 : Int) < ((wd R E p.2).length : Int)) = false := decide_eq_false (by omega)
      have b : kidB [.sh (gD R E), .sh (.lst ((csI R E R.length).map ni)), x2, .own (.lst stk), .sh (ni v), .sh (tx w), .sh (tx [p.1]), .sh (ni p.2)] = .ok (.nx [.sh (gD R E), .sh (.lst ((csI R E R.length).map ni)), x2, .own (.lst stk), .sh (ni v), .sh (tx w), .sh (tx [p.1]), .sh (ni p.2)]) := by wide_open with ((), g1, z1)
      rw [b]
      simp only [bind_ok]
      obtain ⟨s6', s7', e⟩ := kids_loop x2 v w hw L stk (.sh (tx [p.1])) (.sh (ni p.2)) (fun q hq => hL q (List.mem_cons_of_mem _ hq)) (by omega)
      refine ⟨s6', s7', ?_⟩
      have fc : (p :: L).filter (fun p => decide (0 < (wd R E p.2).length)) = L.filter (fun p => decide (0 < (wd R E p.2).length)) := List.filter_cons_of_neg (p := fun p : Nat × Nat => decide (0 < (wd R E p.2).length)) (by simpa using z)
      rw [fc]
      exact e
def wF (R : List (List (Nat × Nat))) (E : List Bool) (p : Nat × List Nat) : List (List Nat) := (wd R E p.1).map fun l => p.2 ++ l
def Ms (R : List (List (Nat × Nat))) (E : List Bool) (p : Nat × List Nat) : Nat := (wd R E p.1).length * (R.length - p.1) + 1
theorem flat_filter {α β : Type} {f : α → List β} {q : α → Bool} : ∀ {l : List α}, (∀ a ∈ l, q a = false → f a = []) → (l.filter q).flatMap f = l.flatMap f
  | [], _ => rfl
  | a :: l, h => by
    have ih := flat_filter (f := f) (q := q) (l := l) fun b hb => h b (List.mem_cons_of_mem _ hb)
    cases z : q a with
    | true => rw [List.filter_cons_of_pos z, List.flatMap_cons, List.flatMap_cons, ih]
    | false => rw [List.filter_cons_of_neg (by rw [z]; decide), List.flatMap_cons, h a List.mem_cons_self z, ih]; rfl
theorem kids_ms {R : List (List (Nat × Nat))} {E : List Bool} (hU : Up R) {v : Nat} (hv : v < R.length) (w : List Nat) : (((R.getD v []).filter fun p => decide (0 < (wd R E p.2).length)).map fun p => Ms R E (p.2, w ++ [p.1])).sum < Ms R E (v, w) := by
  have key : ∀ L : List (Nat × Nat), (∀ p ∈ L, v < p.2 ∧ p.2 < R.length) → ((L.filter fun p => decide (0 < (wd R E p.2).length)).map fun p => Ms R E (p.2, w ++ [p.1])).sum ≤ (L.map fun p => (wd R E p.2).length).sum * (R.length - v) := by
    intro L
    induction L with
    | nil => intro _; exact Nat.zero_le _
    | cons p L ih =>
      intro h
      have ih := ih fun q hq => h q (List.mem_cons_of_mem _ hq)
      obtain ⟨h1, h2⟩ := h p List.mem_cons_self
      rw [List.map_cons, List.sum_cons, Nat.add_mul]
      by_cases z : 0 < (wd R E p.2).length
      · have fc : (p :: L).filter (fun p => decide (0 < (wd R E p.2).length)) = p :: L.filter (fun p => decide (0 < (wd R E p.2).length)) := List.filter_cons_of_pos (p := fun p : Nat × Nat => decide (0 < (wd R E p.2).length)) (decide_eq_true z)
        rw [fc, List.map_cons, List.sum_cons]
        have : Ms R E (p.2, w ++ [p.1]) ≤ (wd R E p.2).length * (R.length - v) := by
          show (wd R E p.2).length * (R.length - p.2) + 1 ≤ _
          have a1 : (wd R E p.2).length * (R.length - p.2 + 1) ≤ (wd R E p.2).length * (R.length - v) := Nat.mul_le_mul (Nat.le_refl _) (by omega)
          rw [Nat.mul_add] at a1
          omega
        omega
      · have fc : (p :: L).filter (fun p => decide (0 < (wd R E p.2).length)) = L.filter (fun p => decide (0 < (wd R E p.2).length)) := List.filter_cons_of_neg (p := fun p : Nat × Nat => decide (0 < (wd R E p.2).length)) (by simpa using z)
        rw [fc]
        omega
  have k := key (R.getD v []) (hU v)
  have l := wd_len (E := E) hU hv
  show _ < (wd R E v).length * (R.length - v) + 1
  have : ((R.getD v []).map fun p => (wd R E p.2).length).sum * (R.length - v) ≤ (wd R E v).length * (R.length - v) := Nat.mul_le_mul (by omega) (Nat.le_refl _)
  omega
theorem wF_eq {R : List (List (Nat × Nat))} {E : List Bool} (hU : Up R) {v : Nat} (hv : v < R.length) (w : List Nat) : wF R E (v, w) = (if E.getD v false = true then [w] else []) ++ (((R.getD v []).filter fun p => decide (0 < (wd R E p.2).length)).map fun p => (p.2, w ++ [p.1])).flatMap (wF R E) := by
  show (wd R E v).map (fun l => w ++ l) = _
  rw [wd_eq hU hv, List.map_append]
  congr 1
  · split
    · show [w ++ []] = [w]
      rw [List.append_nil]
    · rfl
  · rw [List.flatMap_map, flat_filter (q := fun p : Nat × Nat => decide (0 < (wd R E p.2).length)) (f := fun p => wF R E (p.2, w ++ [p.1])) fun p _ hq => by
      have : ¬ 0 < (wd R E p.2).length := of_decide_eq_false hq
      have : wd R E p.2 = [] := List.eq_nil_of_length_eq_zero (by omega)
      show (wd R E p.2).map _ = []
      rw [this]
      rfl]
    rw [List.map_flatMap]
    refine flat_congr fun p _ => ?_
    show ((wd R E p.2).map fun l => p.1 :: l).map (fun l => w ++ l) = (wd R E p.2).map fun l => (w ++ [p.1]) ++ l
    rw [List.map_map]
    apply List.map_congr_left
    intro l _
    show w ++ p.1 :: l = (w ++ [p.1]) ++ l
    rw [List.append_assoc]
    rfl
abbrev woB : DL.Env → DL.R Fl := (seqS (asgS (gTupD 2 (gsCons (gSet 4) (gsCons (gSet 5) gsNil))) (popE 3)) (seqS (ifS (withEnv (tru (bin ixD (un1 (fldD "ends") (gSh 0)) (gAny 4)))) (appS 2 (gSh 5)) skipS) (forS (withEnv (itX revZ (un1 lstItD (bin ixD (un1 (fldD "arrows") (gSh 0)) (gAny 4))))) (gTupD 2 (gsCons (gSet 6) (gsCons (gSet 7) gsNil))) kidB)))
theorem wo_step {R : List (List (Nat × Nat))} {E : List Bool} (hU : Up R) (hE : E.length = R.length) (hl : R.length ≤ 900) (hr : ∀ v, (R.getD v []).length ≤ 1000) (outs : List (List Nat)) (st0 : List (Nat × List Nat)) (v : Nat) (w : List Nat) (hv : v < R.length) (hw : w.length ≤ v) (ho : outs.length ≤ 500000) (hs : st0.length ≤ 500000) (s4 s5 s6 s7 : Slot) :
    ∃ s6' s7', woB [.sh (gD R E), .sh (.lst ((csI R E R.length).map ni)), .own (.lst (outs.map fun l => tx l)), .own (.lst (st0.map sdW ++ [sdW (v, w)])), s4, s5, s6, s7] =
      .ok (.nx [.sh (gD R E), .sh (.lst ((csI R E R.length).map ni)), .own (.lst ((outs ++ (if E.getD v false = true then [w] else [])).map fun l => tx l)), .own (.lst ((st0 ++ (((R.getD v []).filter fun p => decide (0 < (wd R E p.2).length)).map fun p => (p.2, w ++ [p.1])).reverse).map sdW)), .sh (ni v), .sh (tx w), s6', s7']) := by
  have ga := gA_eq (R.map rwD) (E.map D.bl)
  have ge := gE_eq (R.map rwD) (E.map D.bl)
  have ra := row_at hv
  have ea := end_at (E := E) (v := v) (by omega)
  have rz : revZ (.lst ((R.getD v []).map fun p => D.tup [tx [p.1], ni p.2])) = some ((R.getD v []).reverse.map fun p => D.tup [tx [p.1], ni p.2]) := by
    rw [List.map_reverse]
    rfl
  have hR : ∀ p ∈ (R.getD v []).reverse, p.2 < R.length := fun p hp => (hU v p (List.mem_reverse.mp hp)).2
  have stq : (st0.map sdW ++ (((R.getD v []).reverse.filter fun p => decide (0 < (wd R E p.2).length)).map fun p => sdW (p.2, w ++ [p.1]))) = (st0 ++ (((R.getD v []).filter fun p => decide (0 < (wd R E p.2).length)).map fun p => (p.2, w ++ [p.1])).reverse).map sdW := by
    rw [List.map_append, List.filter_reverse, ← List.map_reverse, List.map_map]
    rfl
  have len : (st0.map sdW).length + (R.getD v []).reverse.length ≤ 900000 := by rw [List.length_map, List.length_reverse]; have := hr v; omega
  have ol : (outs.map fun l => tx l).length < 1000000 := by rw [List.length_map]; omega
  cases q : E.getD v false with
  | true =>
    rw [q] at ea
    obtain ⟨s6', s7', e⟩ := kids_loop (R := R) (E := E) (.own (.lst (outs.map (fun l => tx l) ++ [tx w]))) v w (by omega) (R.getD v []).reverse (st0.map sdW) s6 s7 hR len
    rw [stq] at e
    have oe : (outs ++ [w]).map (fun l => tx l) = outs.map (fun l => tx l) ++ [tx w] := by rw [List.map_append]; rfl
    refine ⟨s6', s7', ?_⟩
    simp only [if_true]
    rw [oe]
    wide_open with ((), ga, ge, ra, ea, lst_rw, rz, e)
  | false =>
    rw [q] at ea
    obtain ⟨s6', s7', e⟩ := kids_loop (R := R) (E := E) (.own (.lst (outs.map (fun l => tx l)))) v w (by omega) (R.getD v []).reverse (st0.map sdW) s6 s7 hR len
    rw [stq] at e
    refine ⟨s6', s7', ?_⟩
    simp only [Bool.false_eq_true, if_false, List.append_nil]
    wide_open with ((), ga, ge, ra, ea, lst_rw, rz, e)
theorem flat_ge {R : List (List (Nat × Nat))} {E : List Bool} (st : List (Nat × List Nat)) : ((st.map (Ms R E)).sum ≥ st.length) := by
  induction st with
  | nil => exact Nat.zero_le _
  | cons p st ih =>
    rw [List.map_cons, List.sum_cons, List.length_cons]
    have : 1 ≤ Ms R E p := Nat.le_add_left _ _
    omega
theorem sum_app (a b : List Nat) : (a ++ b).sum = a.sum + b.sum := by
  induction a with
  | nil => simp
  | cons x a ih => rw [List.cons_append, List.sum_cons, List.sum_cons, ih, Nat.add_assoc]
theorem sum_rev (a : List Nat) : a.reverse.sum = a.sum := by
  induction a with
  | nil => rfl
  | cons x a ih => rw [List.reverse_cons, sum_app, ih, List.sum_cons]; simp; omega
theorem words_of_ok {R : List (List (Nat × Nat))} {E : List Bool} (hU : Up R) (hE : E.length = R.length) (h0 : 0 < R.length) (hl : R.length ≤ 900) (hr : ∀ v, (R.getD v []).length ≤ 1000) (hb : (wd R E 0).length * R.length + 1 ≤ 99999) : F_words_of [gD R E] = .ok (.lst ((wd R E 0).map fun l => tx l)) := by
  obtain ⟨r', e, s4, s5, s6, s7, er⟩ := whl_inv (c := withEnv (tru (gAny 3))) (b := woB)
    (fun m r => ∃ (outs : List (List Nat)) (st : List (Nat × List Nat)) (s4 s5 s6 s7 : Slot), r = [.sh (gD R E), .sh (.lst ((csI R E R.length).map ni)), .own (.lst (outs.map fun l => tx l)), .own (.lst (st.map sdW)), s4, s5, s6, s7] ∧ outs ++ st.reverse.flatMap (wF R E) = wd R E 0 ∧ (∀ p ∈ st, p.1 < R.length ∧ p.2.length ≤ p.1) ∧ m = (st.map (Ms R E)).sum ∧ m ≤ 99999)
    (fun r => ∃ (s4 s5 s6 s7 : Slot), r = [.sh (gD R E), .sh (.lst ((csI R E R.length).map ni)), .own (.lst ((wd R E 0).map fun l => tx l)), .own (.lst []), s4, s5, s6, s7])
    (fun m r ⟨outs, st, s4, s5, s6, s7, er, h1, h2, h3, h4⟩ => by
      subst er
      by_cases z : st = []
      · subst z
        have h1 : outs ++ [] = wd R E 0 := h1
        rw [List.append_nil] at h1
        subst h1
        exact .inl ⟨_, rfl, s4, s5, s6, s7, rfl⟩
      · obtain ⟨st0, p, rfl⟩ : ∃ st0 p, st = st0 ++ [p] := ⟨st.dropLast, st.getLast z, (List.dropLast_concat_getLast z).symm⟩
        obtain ⟨v, w⟩ := p
        obtain ⟨hv, hw⟩ := h2 (v, w) (by simp)
        have hv : v < R.length := hv
        have hw : w.length ≤ v := hw
        have e1 : (st0 ++ [(v, w)]).map sdW = st0.map sdW ++ [sdW (v, w)] := by rw [List.map_append]; rfl
        have ol : outs.length ≤ 500000 := by
          have := congrArg List.length h1
          rw [List.length_append] at this
          have h5 : (wd R E 0).length ≤ (wd R E 0).length * R.length := Nat.le_mul_of_pos_right _ h0
          omega
        have sl : st0.length ≤ 500000 := by
          have := flat_ge (R := R) (E := E) (st0 ++ [(v, w)])
          rw [List.length_append] at this
          omega
        obtain ⟨s6', s7', e⟩ := wo_step hU hE hl hr outs st0 v w hv hw ol sl s4 s5 s6 s7
        refine .inr ⟨[.sh (gD R E), .sh (.lst ((csI R E R.length).map ni)), .own (.lst (outs.map fun l => tx l)), .own (.lst ((st0 ++ [(v, w)]).map sdW)), s4, s5, s6, s7], _, _, ?_, by rw [e1]; exact e, ?_, outs ++ (if E.getD v false = true then [w] else []), st0 ++ (((R.getD v []).filter fun p => decide (0 < (wd R E p.2).length)).map fun p => (p.2, w ++ [p.1])).reverse, .sh (ni v), .sh (tx w), s6', s7', rfl, ?_, ?_, rfl, ?_⟩
        · show (DL.R.ok (!((st0 ++ [(v, w)]).map sdW).isEmpty)).bind _ = _
          rw [e1]
          cases st0.map sdW <;> rfl
        · rw [h3, List.map_append, List.map_append, sum_app, sum_app, List.map_reverse, sum_rev, List.map_map]
          have := kids_ms (E := E) hU hv w
          show _ < _ + (Ms R E (v, w) + 0)
          have e3 : ((R.getD v []).filter fun p => decide (0 < (wd R E p.2).length)).map (Ms R E ∘ fun p => (p.2, w ++ [p.1])) = ((R.getD v []).filter fun p => decide (0 < (wd R E p.2).length)).map fun p => Ms R E (p.2, w ++ [p.1]) := rfl
          rw [e3]
          omega
        · rw [← h1, List.reverse_append, List.reverse_append, List.reverse_reverse, List.flatMap_append, List.reverse_singleton]
          show _ = outs ++ (wF R E (v, w) ++ _)
          rw [wF_eq hU hv w, List.append_assoc, List.append_assoc]
          rfl
        · intro p hp
          rcases List.mem_append.mp hp with y | y
          · exact h2 p (List.mem_append_left _ y)
          · obtain ⟨q, hq, eq⟩ := List.mem_map.mp (List.mem_reverse.mp y)
            obtain ⟨u1, u2⟩ := hU v q (List.mem_filter.mp hq).1
            subst eq
            refine ⟨u2, ?_⟩
            show (w ++ [q.1]).length ≤ q.2
            rw [List.length_append, List.length_singleton]
            omega
        · rw [List.map_append, sum_app, List.map_reverse, sum_rev, List.map_map]
          rw [h3, List.map_append, sum_app] at h4
          have := kids_ms (E := E) hU hv w
          have h4 : _ + (Ms R E (v, w) + 0) ≤ 99999 := h4
          have e3 : ((R.getD v []).filter fun p => decide (0 < (wd R E p.2).length)).map (Ms R E ∘ fun p => (p.2, w ++ [p.1])) = ((R.getD v []).filter fun p => decide (0 < (wd R E p.2).length)).map fun p => Ms R E (p.2, w ++ [p.1]) := rfl
          rw [e3]
          omega)
    100000 ((([(0, [])] : List (Nat × List Nat)).map (Ms R E)).sum) [.sh (gD R E), .sh (.lst ((csI R E R.length).map ni)), .own (.lst []), .own (.lst [.tup [.int 0, .str ""]]), .un, .un, .un, .un]
    (by show Ms R E (0, []) + 0 < 100000; show (wd R E 0).length * (R.length - 0) + 1 + 0 < 100000; rw [Nat.sub_zero]; omega)
    ⟨[], [(0, [])], .un, .un, .un, .un, rfl, by
      show [] ++ (wF R E (0, []) ++ []) = _
      rw [List.nil_append, List.append_nil]
      show (wd R E 0).map (fun l => [] ++ l) = _
      simp, fun p hp => by rw [List.mem_singleton.mp hp]; exact ⟨h0, Nat.le_refl _⟩, rfl, by show (wd R E 0).length * (R.length - 0) + 1 + 0 ≤ 99999; rw [Nat.sub_zero]; omega⟩
  subst er
  refine fnD_rt (r1 := [.sh (gD R E), .sh (.lst ((csI R E R.length).map ni)), .sh (.lst ((wd R E 0).map fun l => tx l)), .own (.lst []), s4, s5, s6, s7]) rfl (show b_words_of [.sh (gD R E), .un, .un, .un, .un, .un, .un, .un] = _ from ?_)
  unfold b_words_of
  wide_open with ((), counts_from_ok hU hE (by omega) hr, e)
end LW

end
section
namespace LW
open PySem DL PT


/-! ### what the defs answer -/
def Film (f : List Nat) : Prop := f ≠ [] ∧ f.length ≤ 200 ∧ ∀ c ∈ f, 97 ≤ c ∧ c ≤ 104
theorem in_letters {c : Nat} (h : 97 ≤ c ∧ c ≤ 104) : inB false (tx [c]) (.str "abcdefgh") = some (.bl true) := by
  have : c = 97 ∨ c = 98 ∨ c = 99 ∨ c = 100 ∨ c = 101 ∨ c = 102 ∨ c = 103 ∨ c = 104 := by omega
  have e : inStr (mkS [c]) "abcdefgh" = true := by
    rcases this with e | e | e | e | e | e | e | e <;> subst e <;> decide +kernel
  rw [tx_eq]
  unfold inB inD
  simp only [Option.map_some, e]
  rfl
theorem is_letter_ok {c : Nat} (h : 97 ≤ c ∧ c ≤ 104) : F_is_letter [tx [c]] = .ok (.bl true) := by
  have e1 : lenD [tx [c]] = some (.int 1) := len_tx (l := [c]) (by simp)
  refine fnD_rt rfl (ret_p (r := [.sh (tx [c])]) ?_)
  simp (disch := first | omega | (simp; done) | (simp; omega)) [DL.withEnv, DL.tst, DL.tstE, DL.tru, DL.truE, DL.bin, DL.binE, DL.appN, DL.appNE, DL.aCons, DL.aNil, DL.aConsE, DL.kc, DL.itN, DL.itX, DL.un1, DL.notB, DL.orB, DL.andB, DL.notV, DL.andV, DL.orV, DL.ifV, DL.chn, DL.oNone, DL.oSome, DL.sl3, DL.mthV, DL.mkT, DL.mkTE, DL.mkL, DL.yesB, DL.gSh_eq, DL.gAny_eq, DL.gS_sh, DL.gA_sh, DL.gA_own, DL.gA_io, DL.ownL_eq, DL.oL_own, DL.oL_io, DL.put_own, DL.put_io, DL.bind_ok, DL.ofO_some, DL.at_ok, DL.ne_ok, DL.asB_bl', DL.asI_int', DL.tru_bl, DL.tru_int, DL.tru_lst, DL.len_tx, DL.len_lst, DL.len_tup, DL.ix_tx, DL.ix_lst, DL.ix_tup, DL.sl_tx, DL.sl_lst, DL.sl_tup, DL.plus_tx, DL.plus_int, DL.plus_lst, DL.plus_tup, DL.cat_lst, DL.rep_lst1, DL.zD_tx, DL.zD_lst, DL.zD_tup, DL.rev_tx, DL.en_tx, DL.asStr_tx, DL.tup_lst, DL.lst_tup, DL.isi_tx, DL.isi_int, DL.isi_intb, DL.isi_tt, DL.isi_lt, DL.sub_int', DL.add_ip, DL.sub_ip, DL.mul_int', DL.lt_int, DL.gt_int, DL.ge_int, DL.le_int, DL.eq_int, DL.ne_int, DL.eq_tx, DL.ne_tx, DL.isn_int, DL.isn_non, DL.isb, DL.neg_int, DL.int_int, DL.atI_nat, DL.atI_zero, DL.atI_one, DL.atI_two, DL.atI_three, DL.atI_succ, DL.atI_last, DL.cut_to, DL.cut_from, DL.cut_both, DL.cut_butlast, PySem.sizeLine_eq, DL.sum_nl, DL.sum_nt, DL.gSet, DL.gTupD, DL.gsCons, DL.gsNil, DL.ini, DL.setS, e1, in_letters h]
theorem check_film_ok {f : List Nat} (h : Film f) : F_check_film [tx f] = .ok .non := by
  obtain ⟨h0, h1, h2⟩ := h
  have hl : 0 < f.length := List.length_pos_iff.mpr h0
  obtain ⟨r', e, _⟩ := for_inv (g := gTupD 2 (gsCons (gSet 1) (gsCons (gSet 2) gsNil))) (b := ifS (withEnv (notB (tru (callF 1 F_is_letter (aCons (gSh 2) aNil))))) nvrS skipS)
    (items := (f.zipIdx).map fun p => D.tup [.int (p.2 : Nat), tx [p.1]]) (r := [.sh (tx f), .un, .un]) (fun i r => ∃ a b, r = [.sh (tx f), a, b]) ⟨_, _, rfl⟩ (fun i x r e hI => by
      obtain ⟨a, b, er⟩ := hI
      subst er
      rw [List.getElem?_map, List.getElem?_zipIdx] at e
      cases q : f[i]? with
      | none => rw [q] at e; cases e
      | some c =>
        rw [q] at e
        simp only [Option.map_some, Option.some.injEq] at e
        subst e
        have hc := h2 c (List.mem_of_getElem? q)
        refine ⟨_, _, rfl, if_n (cond_p (b := false) ?_) rfl, ⟨.sh (.int ((0 + i : Nat) : Int)), .sh (tx [c]), rfl⟩⟩
        have e1 : callF 1 F_is_letter (aCons (gSh 2) aNil) [.sh (tx f), .sh (.int ((0 + i : Nat) : Int)), .sh (tx [c])] = .ok (.bl true) := call_p (ds := [tx [c]]) rfl rfl (is_letter_ok hc)
        simp (disch := first | omega | (simp; done) | (simp; omega)) [DL.withEnv, DL.tst, DL.tstE, DL.tru, DL.truE, DL.bin, DL.binE, DL.appN, DL.appNE, DL.aCons, DL.aNil, DL.aConsE, DL.kc, DL.itN, DL.itX, DL.un1, DL.notB, DL.orB, DL.andB, DL.notV, DL.andV, DL.orV, DL.ifV, DL.chn, DL.oNone, DL.oSome, DL.sl3, DL.mthV, DL.mkT, DL.mkTE, DL.mkL, DL.yesB, DL.gSh_eq, DL.gAny_eq, DL.gS_sh, DL.gA_sh, DL.gA_own, DL.gA_io, DL.ownL_eq, DL.oL_own, DL.oL_io, DL.put_own, DL.put_io, DL.bind_ok, DL.ofO_some, DL.at_ok, DL.ne_ok, DL.asB_bl', DL.asI_int', DL.tru_bl, DL.tru_int, DL.tru_lst, DL.len_tx, DL.len_lst, DL.len_tup, DL.ix_tx, DL.ix_lst, DL.ix_tup, DL.sl_tx, DL.sl_lst, DL.sl_tup, DL.plus_tx, DL.plus_int, DL.plus_lst, DL.plus_tup, DL.cat_lst, DL.rep_lst1, DL.zD_tx, DL.zD_lst, DL.zD_tup, DL.rev_tx, DL.en_tx, DL.asStr_tx, DL.tup_lst, DL.lst_tup, DL.isi_tx, DL.isi_int, DL.isi_intb, DL.isi_tt, DL.isi_lt, DL.sub_int', DL.add_ip, DL.sub_ip, DL.mul_int', DL.lt_int, DL.gt_int, DL.ge_int, DL.le_int, DL.eq_int, DL.ne_int, DL.eq_tx, DL.ne_tx, DL.isn_int, DL.isn_non, DL.isb, DL.neg_int, DL.int_int, DL.atI_nat, DL.atI_zero, DL.atI_one, DL.atI_two, DL.atI_three, DL.atI_succ, DL.atI_last, DL.cut_to, DL.cut_from, DL.cut_both, DL.cut_butlast, PySem.sizeLine_eq, DL.sum_nl, DL.sum_nt, DL.gSet, DL.gTupD, DL.gsCons, DL.gsNil, DL.ini, DL.setS, e1, Nat.zero_add]
        rw [Nat.zero_add] at e1
        simp (disch := first | omega | (simp; done) | (simp; omega)) [DL.withEnv, DL.tst, DL.tstE, DL.tru, DL.truE, DL.bin, DL.binE, DL.appN, DL.appNE, DL.aCons, DL.aNil, DL.aConsE, DL.kc, DL.itN, DL.itX, DL.un1, DL.notB, DL.orB, DL.andB, DL.notV, DL.andV, DL.orV, DL.ifV, DL.chn, DL.oNone, DL.oSome, DL.sl3, DL.mthV, DL.mkT, DL.mkTE, DL.mkL, DL.yesB, DL.gSh_eq, DL.gAny_eq, DL.gS_sh, DL.gA_sh, DL.gA_own, DL.gA_io, DL.ownL_eq, DL.oL_own, DL.oL_io, DL.put_own, DL.put_io, DL.bind_ok, DL.ofO_some, DL.at_ok, DL.ne_ok, DL.asB_bl', DL.asI_int', DL.tru_bl, DL.tru_int, DL.tru_lst, DL.len_tx, DL.len_lst, DL.len_tup, DL.ix_tx, DL.ix_lst, DL.ix_tup, DL.sl_tx, DL.sl_lst, DL.sl_tup, DL.plus_tx, DL.plus_int, DL.plus_lst, DL.plus_tup, DL.cat_lst, DL.rep_lst1, DL.zD_tx, DL.zD_lst, DL.zD_tup, DL.rev_tx, DL.en_tx, DL.asStr_tx, DL.tup_lst, DL.lst_tup, DL.isi_tx, DL.isi_int, DL.isi_intb, DL.isi_tt, DL.isi_lt, DL.sub_int', DL.add_ip, DL.sub_ip, DL.mul_int', DL.lt_int, DL.gt_int, DL.ge_int, DL.le_int, DL.eq_int, DL.ne_int, DL.eq_tx, DL.ne_tx, DL.isn_int, DL.isn_non, DL.isb, DL.neg_int, DL.int_int, DL.atI_nat, DL.atI_zero, DL.atI_one, DL.atI_two, DL.atI_three, DL.atI_succ, DL.atI_last, DL.cut_to, DL.cut_from, DL.cut_both, DL.cut_butlast, PySem.sizeLine_eq, DL.sum_nl, DL.sum_nt, DL.gSet, DL.gTupD, DL.gsCons, DL.gsNil, DL.ini, DL.setS, e1])
  refine fnD_nx (r1 := r') rfl (seq_nx (r1 := [.sh (tx f), .un, .un]) (if_n (cond_p (b := false) ?_) rfl) (for_p (items := _) ?_ e))
  · have p1 : (1 : Int) ≤ (f.length : Int) := by omega
    have p2 : (f.length : Int) ≤ 200 := by omega
    simp (disch := first | omega | (simp; done) | (simp; omega)) [DL.withEnv, DL.tst, DL.tstE, DL.tru, DL.truE, DL.bin, DL.binE, DL.appN, DL.appNE, DL.aCons, DL.aNil, DL.aConsE, DL.kc, DL.itN, DL.itX, DL.un1, DL.notB, DL.orB, DL.andB, DL.notV, DL.andV, DL.orV, DL.ifV, DL.chn, DL.oNone, DL.oSome, DL.sl3, DL.mthV, DL.mkT, DL.mkTE, DL.mkL, DL.yesB, DL.gSh_eq, DL.gAny_eq, DL.gS_sh, DL.gA_sh, DL.gA_own, DL.gA_io, DL.ownL_eq, DL.oL_own, DL.oL_io, DL.put_own, DL.put_io, DL.bind_ok, DL.ofO_some, DL.at_ok, DL.ne_ok, DL.asB_bl', DL.asI_int', DL.tru_bl, DL.tru_int, DL.tru_lst, DL.len_tx, DL.len_lst, DL.len_tup, DL.ix_tx, DL.ix_lst, DL.ix_tup, DL.sl_tx, DL.sl_lst, DL.sl_tup, DL.plus_tx, DL.plus_int, DL.plus_lst, DL.plus_tup, DL.cat_lst, DL.rep_lst1, DL.zD_tx, DL.zD_lst, DL.zD_tup, DL.rev_tx, DL.en_tx, DL.asStr_tx, DL.tup_lst, DL.lst_tup, DL.isi_tx, DL.isi_int, DL.isi_intb, DL.isi_tt, DL.isi_lt, DL.sub_int', DL.add_ip, DL.sub_ip, DL.mul_int', DL.lt_int, DL.gt_int, DL.ge_int, DL.le_int, DL.eq_int, DL.ne_int, DL.eq_tx, DL.ne_tx, DL.isn_int, DL.isn_non, DL.isb, DL.neg_int, DL.int_int, DL.atI_nat, DL.atI_zero, DL.atI_one, DL.atI_two, DL.atI_three, DL.atI_succ, DL.atI_last, DL.cut_to, DL.cut_from, DL.cut_both, DL.cut_butlast, PySem.sizeLine_eq, DL.sum_nl, DL.sum_nt, DL.gSet, DL.gTupD, DL.gsCons, DL.gsNil, DL.ini, DL.setS, p1, p2]
  · simp (disch := first | omega | (simp; done) | (simp; omega)) [DL.withEnv, DL.tst, DL.tstE, DL.tru, DL.truE, DL.bin, DL.binE, DL.appN, DL.appNE, DL.aCons, DL.aNil, DL.aConsE, DL.kc, DL.itN, DL.itX, DL.un1, DL.notB, DL.orB, DL.andB, DL.notV, DL.andV, DL.orV, DL.ifV, DL.chn, DL.oNone, DL.oSome, DL.sl3, DL.mthV, DL.mkT, DL.mkTE, DL.mkL, DL.yesB, DL.gSh_eq, DL.gAny_eq, DL.gS_sh, DL.gA_sh, DL.gA_own, DL.gA_io, DL.ownL_eq, DL.oL_own, DL.oL_io, DL.put_own, DL.put_io, DL.bind_ok, DL.ofO_some, DL.at_ok, DL.ne_ok, DL.asB_bl', DL.asI_int', DL.tru_bl, DL.tru_int, DL.tru_lst, DL.len_tx, DL.len_lst, DL.len_tup, DL.ix_tx, DL.ix_lst, DL.ix_tup, DL.sl_tx, DL.sl_lst, DL.sl_tup, DL.plus_tx, DL.plus_int, DL.plus_lst, DL.plus_tup, DL.cat_lst, DL.rep_lst1, DL.zD_tx, DL.zD_lst, DL.zD_tup, DL.rev_tx, DL.en_tx, DL.asStr_tx, DL.tup_lst, DL.lst_tup, DL.isi_tx, DL.isi_int, DL.isi_intb, DL.isi_tt, DL.isi_lt, DL.sub_int', DL.add_ip, DL.sub_ip, DL.mul_int', DL.lt_int, DL.gt_int, DL.ge_int, DL.le_int, DL.eq_int, DL.ne_int, DL.eq_tx, DL.ne_tx, DL.isn_int, DL.isn_non, DL.isb, DL.neg_int, DL.int_int, DL.atI_nat, DL.atI_zero, DL.atI_one, DL.atI_two, DL.atI_three, DL.atI_succ, DL.atI_last, DL.cut_to, DL.cut_from, DL.cut_both, DL.cut_butlast, PySem.sizeLine_eq, DL.sum_nl, DL.sum_nt, DL.gSet, DL.gTupD, DL.gsCons, DL.gsNil, DL.ini, DL.setS]

/-! counts -/
def tb (G : List Nat → Nat) (F : List Nat) : D := .lst ((List.range (F.length + 1)).map fun p => D.int (G (F.drop p) : Nat))
def cnt (c : Nat) (G : List Nat → Nat) (F : List Nat) (i : Nat) : List D := (List.range (F.length + 1)).map fun p => D.int ((if p < F.length - i then 0 else blk c G (F.drop p) : Nat) : Int)
def T (F g : List Nat) : List D := (List.range (g.length + 1)).map fun k => tb (W (g.drop k)) F
def Tr (F g : List Nat) (i : Nat) : List D := (List.range (i + 1)).map fun k => tb (W (g.drop (g.length - k))) F
end LW

end
section
namespace LW
open PySem DL PT

abbrev tn (l : List Nat) : D := .tup (l.map ni)
theorem is_whole_ok (i : Int) : F_is_whole [.int i] = .ok (.bl true) := by
  refine fnD_rt rfl (ret_p (r := [.sh (.int i)]) ?_)
  simp (disch := first | omega | (simp; done) | (simp; omega)) [DL.withEnv, DL.tst, DL.tstE, DL.tru, DL.truE, DL.bin, DL.binE, DL.appN, DL.appNE, DL.aCons, DL.aNil, DL.aConsE, DL.kc, DL.itN, DL.itX, DL.un1, DL.notB, DL.orB, DL.andB, DL.notV, DL.andV, DL.orV, DL.ifV, DL.chn, DL.oNone, DL.oSome, DL.sl3, DL.mthV, DL.mkT, DL.mkTE, DL.mkL, DL.yesB, DL.gSh_eq, DL.gAny_eq, DL.gS_sh, DL.gA_sh, DL.gA_own, DL.gA_io, DL.ownL_eq, DL.oL_own, DL.oL_io, DL.put_own, DL.put_io, DL.bind_ok, DL.ofO_some, DL.at_ok, DL.ne_ok, DL.asB_bl', DL.asI_int', DL.tru_bl, DL.tru_int, DL.tru_lst, DL.len_tx, DL.len_lst, DL.len_tup, DL.ix_tx, DL.ix_lst, DL.ix_tup, DL.sl_tx, DL.sl_lst, DL.sl_tup, DL.plus_tx, DL.plus_int, DL.plus_lst, DL.plus_tup, DL.cat_lst, DL.rep_lst1, DL.zD_tx, DL.zD_lst, DL.zD_tup, DL.rev_tx, DL.en_tx, DL.asStr_tx, DL.tup_lst, DL.lst_tup, DL.isi_tx, DL.isi_int, DL.isi_intb, DL.isi_tt, DL.isi_lt, DL.sub_int', DL.add_ip, DL.sub_ip, DL.mul_int', DL.lt_int, DL.gt_int, DL.ge_int, DL.le_int, DL.eq_int, DL.ne_int, DL.eq_tx, DL.ne_tx, DL.isn_int, DL.isn_non, DL.isb, DL.neg_int, DL.int_int, DL.atI_nat, DL.atI_zero, DL.atI_one, DL.atI_two, DL.atI_three, DL.atI_succ, DL.atI_last, DL.cut_to, DL.cut_from, DL.cut_both, DL.cut_butlast, PySem.sizeLine_eq, DL.sum_nl, DL.sum_nt, DL.gSet, DL.gTupD, DL.gsCons, DL.gsNil, DL.ini, DL.setS]
/-! is_parting_for -/
end LW

end
section
namespace LW
open PySem DL PT

/-! the tables behind the first -/
def Tl (F : List Nat) : List Nat → List D
  | [] => []
  | c :: g => tb (W g) F :: Tl F g
/-! parting_at -/
end LW

end
section
namespace LW
open PySem DL PT

/-! rank_of_parting -/
/-! blocks -/
end LW

end
section
namespace LW
open PySem DL PT

def RowOk (row : List D) : Prop := ∃ (ns : List Int) (p : Nat) (q k : Int), ns.length ≤ 63 ∧ row = [.lst (ns.map D.int), ni p, .int q, .int k]
theorem at_int {ns : List Int} {i : Nat} (h : i < ns.length) : (ns.map D.int)[i]? = some (.int ns[i]) := by
  rw [List.getElem?_map, List.getElem?_eq_getElem h]
  rfl
theorem taken_ok {row : List D} {m : Nat} (h : RowOk row) (hm : 0 < m) (hm2 : m ≤ 1000000) : ∃ (v : Nat) (row' : List D), F__law_taken row [ni m] = .ok (ni v, row') ∧ RowOk row' ∧ v < m := by
  obtain ⟨ns, p, q, k, hn, er⟩ := h
  subst er
  have m0 : (0 : Int) < (m : Int) := by omega
  have m1 : (0 : Int) < (m : Int) ∧ (m : Int) < 1073741824 := by omega
  have val : ∀ x : Int, ∃ v : Nat, x % (m : Int) = (v : Int) ∧ v < m := fun x => by
    have h1 := Int.emod_nonneg x (by omega : (m : Int) ≠ 0)
    have h2 := Int.emod_lt_of_pos x m0
    exact ⟨(x % (m : Int)).toNat, by omega, by omega⟩
  by_cases hk : 0 < k
  · obtain ⟨v, ev, hv⟩ := val k
    refine ⟨v, [.lst (ns.map D.int), ni p, .int q, .int (k / (m : Int))], ?_, ⟨ns, p, q, _, hn, rfl⟩, hv⟩
    refine fnIO_rt (r1 := [.sh (ni m), .sh (ni v), .un]) rfl (show b__law_taken [.io (.lst [.lst (ns.map D.int), ni p, .int q, .int k]), .sh (ni m), .un, .un] = _ from ?_)
    unfold b__law_taken
    refine seq_rt (if_y (cond_p (b := true) (by simp (disch := first | omega | (simp; done) | (simp; omega)) [DL.withEnv, DL.tst, DL.tstE, DL.tru, DL.truE, DL.bin, DL.binE, DL.appN, DL.appNE, DL.aCons, DL.aNil, DL.aConsE, DL.kc, DL.itN, DL.itX, DL.un1, DL.notB, DL.orB, DL.andB, DL.notV, DL.andV, DL.orV, DL.ifV, DL.chn, DL.oNone, DL.oSome, DL.sl3, DL.mthV, DL.mkT, DL.mkTE, DL.mkL, DL.yesB, DL.gSh_eq, DL.gAny_eq, DL.gS_sh, DL.gA_sh, DL.gA_own, DL.gA_io, DL.ownL_eq, DL.oL_own, DL.oL_io, DL.put_own, DL.put_io, DL.bind_ok, DL.ofO_some, DL.at_ok, DL.ne_ok, DL.asB_bl', DL.asI_int', DL.tru_bl, DL.tru_int, DL.tru_lst, DL.len_tx, DL.len_lst, DL.len_tup, DL.ix_tx, DL.ix_lst, DL.ix_tup, DL.sl_tx, DL.sl_lst, DL.sl_tup, DL.plus_tx, DL.plus_int, DL.plus_lst, DL.plus_tup, DL.cat_lst, DL.rep_lst1, DL.zD_tx, DL.zD_lst, DL.zD_tup, DL.rev_tx, DL.en_tx, DL.asStr_tx, DL.tup_lst, DL.lst_tup, DL.isi_tx, DL.isi_int, DL.isi_intb, DL.isi_tt, DL.isi_lt, DL.sub_int', DL.add_ip, DL.sub_ip, DL.mul_int', DL.lt_int, DL.gt_int, DL.ge_int, DL.le_int, DL.eq_int, DL.ne_int, DL.eq_tx, DL.ne_tx, DL.isn_int, DL.isn_non, DL.isb, DL.neg_int, DL.int_int, DL.atI_nat, DL.atI_zero, DL.atI_one, DL.atI_two, DL.atI_three, DL.atI_succ, DL.atI_last, DL.cut_to, DL.cut_from, DL.cut_both, DL.cut_butlast, PySem.sizeLine_eq, DL.sum_nl, DL.sum_nt, DL.gSet, DL.gTupD, DL.gsCons, DL.gsNil, DL.ini, DL.setS, hk])) ?_)
    refine seq_nx (r1 := [.io (.lst [.lst (ns.map D.int), ni p, .int q, .int k]), .sh (ni m), .sh (ni v), .un]) (set_p (d := ni v) (by simp (disch := first | omega | (simp; done) | (simp; omega)) [DL.withEnv, DL.tst, DL.tstE, DL.tru, DL.truE, DL.bin, DL.binE, DL.appN, DL.appNE, DL.aCons, DL.aNil, DL.aConsE, DL.kc, DL.itN, DL.itX, DL.un1, DL.notB, DL.orB, DL.andB, DL.notV, DL.andV, DL.orV, DL.ifV, DL.chn, DL.oNone, DL.oSome, DL.sl3, DL.mthV, DL.mkT, DL.mkTE, DL.mkL, DL.yesB, DL.gSh_eq, DL.gAny_eq, DL.gS_sh, DL.gA_sh, DL.gA_own, DL.gA_io, DL.ownL_eq, DL.oL_own, DL.oL_io, DL.put_own, DL.put_io, DL.bind_ok, DL.ofO_some, DL.at_ok, DL.ne_ok, DL.asB_bl', DL.asI_int', DL.tru_bl, DL.tru_int, DL.tru_lst, DL.len_tx, DL.len_lst, DL.len_tup, DL.ix_tx, DL.ix_lst, DL.ix_tup, DL.sl_tx, DL.sl_lst, DL.sl_tup, DL.plus_tx, DL.plus_int, DL.plus_lst, DL.plus_tup, DL.cat_lst, DL.rep_lst1, DL.zD_tx, DL.zD_lst, DL.zD_tup, DL.rev_tx, DL.en_tx, DL.asStr_tx, DL.tup_lst, DL.lst_tup, DL.isi_tx, DL.isi_int, DL.isi_intb, DL.isi_tt, DL.isi_lt, DL.sub_int', DL.add_ip, DL.sub_ip, DL.mul_int', DL.lt_int, DL.gt_int, DL.ge_int, DL.le_int, DL.eq_int, DL.ne_int, DL.eq_tx, DL.ne_tx, DL.isn_int, DL.isn_non, DL.isb, DL.neg_int, DL.int_int, DL.atI_nat, DL.atI_zero, DL.atI_one, DL.atI_two, DL.atI_three, DL.atI_succ, DL.atI_last, DL.cut_to, DL.cut_from, DL.cut_both, DL.cut_butlast, PySem.sizeLine_eq, DL.sum_nl, DL.sum_nt, DL.gSet, DL.gTupD, DL.gsCons, DL.gsNil, DL.ini, DL.setS, mod_int' m0, ev])) ?_
    refine seq_nx (itm_ok (s := .io (.lst [.lst (ns.map D.int), ni p, .int q, .int k])) (xs := [.lst (ns.map D.int), ni p, .int q, .int k]) (d := .int (k / (m : Int))) (k := 3) (j := 3) (by simp (disch := first | omega | (simp; done) | (simp; omega)) [DL.withEnv, DL.tst, DL.tstE, DL.tru, DL.truE, DL.bin, DL.binE, DL.appN, DL.appNE, DL.aCons, DL.aNil, DL.aConsE, DL.kc, DL.itN, DL.itX, DL.un1, DL.notB, DL.orB, DL.andB, DL.notV, DL.andV, DL.orV, DL.ifV, DL.chn, DL.oNone, DL.oSome, DL.sl3, DL.mthV, DL.mkT, DL.mkTE, DL.mkL, DL.yesB, DL.gSh_eq, DL.gAny_eq, DL.gS_sh, DL.gA_sh, DL.gA_own, DL.gA_io, DL.ownL_eq, DL.oL_own, DL.oL_io, DL.put_own, DL.put_io, DL.bind_ok, DL.ofO_some, DL.at_ok, DL.ne_ok, DL.asB_bl', DL.asI_int', DL.tru_bl, DL.tru_int, DL.tru_lst, DL.len_tx, DL.len_lst, DL.len_tup, DL.ix_tx, DL.ix_lst, DL.ix_tup, DL.sl_tx, DL.sl_lst, DL.sl_tup, DL.plus_tx, DL.plus_int, DL.plus_lst, DL.plus_tup, DL.cat_lst, DL.rep_lst1, DL.zD_tx, DL.zD_lst, DL.zD_tup, DL.rev_tx, DL.en_tx, DL.asStr_tx, DL.tup_lst, DL.lst_tup, DL.isi_tx, DL.isi_int, DL.isi_intb, DL.isi_tt, DL.isi_lt, DL.sub_int', DL.add_ip, DL.sub_ip, DL.mul_int', DL.lt_int, DL.gt_int, DL.ge_int, DL.le_int, DL.eq_int, DL.ne_int, DL.eq_tx, DL.ne_tx, DL.isn_int, DL.isn_non, DL.isb, DL.neg_int, DL.int_int, DL.atI_nat, DL.atI_zero, DL.atI_one, DL.atI_two, DL.atI_three, DL.atI_succ, DL.atI_last, DL.cut_to, DL.cut_from, DL.cut_both, DL.cut_butlast, PySem.sizeLine_eq, DL.sum_nl, DL.sum_nt, DL.gSet, DL.gTupD, DL.gsCons, DL.gsNil, DL.ini, DL.setS, fdiv_int' m1]) rfl rfl rfl) ?_
    exact ret_p rfl
  · have c0 : tst (bin gtD (bin ixD (gAny 0) (kc (.int 3))) (kc (.int 0))) [.io (.lst [.lst (ns.map D.int), ni p, .int q, .int k]), .sh (ni m), .un, .un] = .ok false := by simp (disch := first | omega | (simp; done) | (simp; omega)) [DL.withEnv, DL.tst, DL.tstE, DL.tru, DL.truE, DL.bin, DL.binE, DL.appN, DL.appNE, DL.aCons, DL.aNil, DL.aConsE, DL.kc, DL.itN, DL.itX, DL.un1, DL.notB, DL.orB, DL.andB, DL.notV, DL.andV, DL.orV, DL.ifV, DL.chn, DL.oNone, DL.oSome, DL.sl3, DL.mthV, DL.mkT, DL.mkTE, DL.mkL, DL.yesB, DL.gSh_eq, DL.gAny_eq, DL.gS_sh, DL.gA_sh, DL.gA_own, DL.gA_io, DL.ownL_eq, DL.oL_own, DL.oL_io, DL.put_own, DL.put_io, DL.bind_ok, DL.ofO_some, DL.at_ok, DL.ne_ok, DL.asB_bl', DL.asI_int', DL.tru_bl, DL.tru_int, DL.tru_lst, DL.len_tx, DL.len_lst, DL.len_tup, DL.ix_tx, DL.ix_lst, DL.ix_tup, DL.sl_tx, DL.sl_lst, DL.sl_tup, DL.plus_tx, DL.plus_int, DL.plus_lst, DL.plus_tup, DL.cat_lst, DL.rep_lst1, DL.zD_tx, DL.zD_lst, DL.zD_tup, DL.rev_tx, DL.en_tx, DL.asStr_tx, DL.tup_lst, DL.lst_tup, DL.isi_tx, DL.isi_int, DL.isi_intb, DL.isi_tt, DL.isi_lt, DL.sub_int', DL.add_ip, DL.sub_ip, DL.mul_int', DL.lt_int, DL.gt_int, DL.ge_int, DL.le_int, DL.eq_int, DL.ne_int, DL.eq_tx, DL.ne_tx, DL.isn_int, DL.isn_non, DL.isb, DL.neg_int, DL.int_int, DL.atI_nat, DL.atI_zero, DL.atI_one, DL.atI_two, DL.atI_three, DL.atI_succ, DL.atI_last, DL.cut_to, DL.cut_from, DL.cut_both, DL.cut_butlast, PySem.sizeLine_eq, DL.sum_nl, DL.sum_nt, DL.gSet, DL.gTupD, DL.gsCons, DL.gsNil, DL.ini, DL.setS, hk]
    by_cases hp : ns.length < p + 1
    · obtain ⟨v, ev, hv⟩ := val (((q * 48271 + 11) % 2147483647) / 7)
      refine ⟨v, [.lst (ns.map D.int), ni (p + 1), .int ((q * 48271 + 11) % 2147483647), .int k], ?_, ⟨ns, p + 1, _, _, hn, rfl⟩, hv⟩
      refine fnIO_rt (r1 := [.sh (ni m), .un, .un]) rfl (show b__law_taken [.io (.lst [.lst (ns.map D.int), ni p, .int q, .int k]), .sh (ni m), .un, .un] = _ from ?_)
      unfold b__law_taken
      refine seq_nx (if_n (cond_p c0) rfl) ?_
      refine seq_nx (r1 := [.io (.lst [.lst (ns.map D.int), ni (p + 1), .int q, .int k]), .sh (ni m), .un, .un]) (itm_ok (s := .io (.lst [.lst (ns.map D.int), ni p, .int q, .int k])) (xs := [.lst (ns.map D.int), ni p, .int q, .int k]) (d := ni (p + 1)) (k := 1) (j := 1) (by simp (disch := first | omega | (simp; done) | (simp; omega)) [DL.withEnv, DL.tst, DL.tstE, DL.tru, DL.truE, DL.bin, DL.binE, DL.appN, DL.appNE, DL.aCons, DL.aNil, DL.aConsE, DL.kc, DL.itN, DL.itX, DL.un1, DL.notB, DL.orB, DL.andB, DL.notV, DL.andV, DL.orV, DL.ifV, DL.chn, DL.oNone, DL.oSome, DL.sl3, DL.mthV, DL.mkT, DL.mkTE, DL.mkL, DL.yesB, DL.gSh_eq, DL.gAny_eq, DL.gS_sh, DL.gA_sh, DL.gA_own, DL.gA_io, DL.ownL_eq, DL.oL_own, DL.oL_io, DL.put_own, DL.put_io, DL.bind_ok, DL.ofO_some, DL.at_ok, DL.ne_ok, DL.asB_bl', DL.asI_int', DL.tru_bl, DL.tru_int, DL.tru_lst, DL.len_tx, DL.len_lst, DL.len_tup, DL.ix_tx, DL.ix_lst, DL.ix_tup, DL.sl_tx, DL.sl_lst, DL.sl_tup, DL.plus_tx, DL.plus_int, DL.plus_lst, DL.plus_tup, DL.cat_lst, DL.rep_lst1, DL.zD_tx, DL.zD_lst, DL.zD_tup, DL.rev_tx, DL.en_tx, DL.asStr_tx, DL.tup_lst, DL.lst_tup, DL.isi_tx, DL.isi_int, DL.isi_intb, DL.isi_tt, DL.isi_lt, DL.sub_int', DL.add_ip, DL.sub_ip, DL.mul_int', DL.lt_int, DL.gt_int, DL.ge_int, DL.le_int, DL.eq_int, DL.ne_int, DL.eq_tx, DL.ne_tx, DL.isn_int, DL.isn_non, DL.isb, DL.neg_int, DL.int_int, DL.atI_nat, DL.atI_zero, DL.atI_one, DL.atI_two, DL.atI_three, DL.atI_succ, DL.atI_last, DL.cut_to, DL.cut_from, DL.cut_both, DL.cut_butlast, PySem.sizeLine_eq, DL.sum_nl, DL.sum_nt, DL.gSet, DL.gTupD, DL.gsCons, DL.gsNil, DL.ini, DL.setS]) rfl rfl rfl) ?_
      have hp2 : (ns.length : Int) < (p : Int) + 1 := by omega
      refine seq_rt (if_y (cond_p (b := true) (by simp (disch := first | omega | (simp; done) | (simp; omega)) [DL.withEnv, DL.tst, DL.tstE, DL.tru, DL.truE, DL.bin, DL.binE, DL.appN, DL.appNE, DL.aCons, DL.aNil, DL.aConsE, DL.kc, DL.itN, DL.itX, DL.un1, DL.notB, DL.orB, DL.andB, DL.notV, DL.andV, DL.orV, DL.ifV, DL.chn, DL.oNone, DL.oSome, DL.sl3, DL.mthV, DL.mkT, DL.mkTE, DL.mkL, DL.yesB, DL.gSh_eq, DL.gAny_eq, DL.gS_sh, DL.gA_sh, DL.gA_own, DL.gA_io, DL.ownL_eq, DL.oL_own, DL.oL_io, DL.put_own, DL.put_io, DL.bind_ok, DL.ofO_some, DL.at_ok, DL.ne_ok, DL.asB_bl', DL.asI_int', DL.tru_bl, DL.tru_int, DL.tru_lst, DL.len_tx, DL.len_lst, DL.len_tup, DL.ix_tx, DL.ix_lst, DL.ix_tup, DL.sl_tx, DL.sl_lst, DL.sl_tup, DL.plus_tx, DL.plus_int, DL.plus_lst, DL.plus_tup, DL.cat_lst, DL.rep_lst1, DL.zD_tx, DL.zD_lst, DL.zD_tup, DL.rev_tx, DL.en_tx, DL.asStr_tx, DL.tup_lst, DL.lst_tup, DL.isi_tx, DL.isi_int, DL.isi_intb, DL.isi_tt, DL.isi_lt, DL.sub_int', DL.add_ip, DL.sub_ip, DL.mul_int', DL.lt_int, DL.gt_int, DL.ge_int, DL.le_int, DL.eq_int, DL.ne_int, DL.eq_tx, DL.ne_tx, DL.isn_int, DL.isn_non, DL.isb, DL.neg_int, DL.int_int, DL.atI_nat, DL.atI_zero, DL.atI_one, DL.atI_two, DL.atI_three, DL.atI_succ, DL.atI_last, DL.cut_to, DL.cut_from, DL.cut_both, DL.cut_butlast, PySem.sizeLine_eq, DL.sum_nl, DL.sum_nt, DL.gSet, DL.gTupD, DL.gsCons, DL.gsNil, DL.ini, DL.setS, hp2])) ?_)
      refine seq_nx (r1 := [.io (.lst [.lst (ns.map D.int), ni (p + 1), .int ((q * 48271 + 11) % 2147483647), .int k]), .sh (ni m), .un, .un]) (itm_ok (s := .io (.lst [.lst (ns.map D.int), ni (p + 1), .int q, .int k])) (xs := [.lst (ns.map D.int), ni (p + 1), .int q, .int k]) (d := .int ((q * 48271 + 11) % 2147483647)) (k := 2) (j := 2) ?_ rfl rfl rfl) (ret_p ?_)
      · simp (disch := first | omega | (simp; done) | (simp; omega)) [DL.withEnv, DL.tst, DL.tstE, DL.tru, DL.truE, DL.bin, DL.binE, DL.appN, DL.appNE, DL.aCons, DL.aNil, DL.aConsE, DL.kc, DL.itN, DL.itX, DL.un1, DL.notB, DL.orB, DL.andB, DL.notV, DL.andV, DL.orV, DL.ifV, DL.chn, DL.oNone, DL.oSome, DL.sl3, DL.mthV, DL.mkT, DL.mkTE, DL.mkL, DL.yesB, DL.gSh_eq, DL.gAny_eq, DL.gS_sh, DL.gA_sh, DL.gA_own, DL.gA_io, DL.ownL_eq, DL.oL_own, DL.oL_io, DL.put_own, DL.put_io, DL.bind_ok, DL.ofO_some, DL.at_ok, DL.ne_ok, DL.asB_bl', DL.asI_int', DL.tru_bl, DL.tru_int, DL.tru_lst, DL.len_tx, DL.len_lst, DL.len_tup, DL.ix_tx, DL.ix_lst, DL.ix_tup, DL.sl_tx, DL.sl_lst, DL.sl_tup, DL.plus_tx, DL.plus_int, DL.plus_lst, DL.plus_tup, DL.cat_lst, DL.rep_lst1, DL.zD_tx, DL.zD_lst, DL.zD_tup, DL.rev_tx, DL.en_tx, DL.asStr_tx, DL.tup_lst, DL.lst_tup, DL.isi_tx, DL.isi_int, DL.isi_intb, DL.isi_tt, DL.isi_lt, DL.sub_int', DL.add_ip, DL.sub_ip, DL.mul_int', DL.lt_int, DL.gt_int, DL.ge_int, DL.le_int, DL.eq_int, DL.ne_int, DL.eq_tx, DL.ne_tx, DL.isn_int, DL.isn_non, DL.isb, DL.neg_int, DL.int_int, DL.atI_nat, DL.atI_zero, DL.atI_one, DL.atI_two, DL.atI_three, DL.atI_succ, DL.atI_last, DL.cut_to, DL.cut_from, DL.cut_both, DL.cut_butlast, PySem.sizeLine_eq, DL.sum_nl, DL.sum_nt, DL.gSet, DL.gTupD, DL.gsCons, DL.gsNil, DL.ini, DL.setS, mul_int' (i := q) (j := 48271) (Or.inr (by decide)), mod_int' (j := 2147483647) (by decide)]
      · simp (disch := first | omega | (simp; done) | (simp; omega)) [DL.withEnv, DL.tst, DL.tstE, DL.tru, DL.truE, DL.bin, DL.binE, DL.appN, DL.appNE, DL.aCons, DL.aNil, DL.aConsE, DL.kc, DL.itN, DL.itX, DL.un1, DL.notB, DL.orB, DL.andB, DL.notV, DL.andV, DL.orV, DL.ifV, DL.chn, DL.oNone, DL.oSome, DL.sl3, DL.mthV, DL.mkT, DL.mkTE, DL.mkL, DL.yesB, DL.gSh_eq, DL.gAny_eq, DL.gS_sh, DL.gA_sh, DL.gA_own, DL.gA_io, DL.ownL_eq, DL.oL_own, DL.oL_io, DL.put_own, DL.put_io, DL.bind_ok, DL.ofO_some, DL.at_ok, DL.ne_ok, DL.asB_bl', DL.asI_int', DL.tru_bl, DL.tru_int, DL.tru_lst, DL.len_tx, DL.len_lst, DL.len_tup, DL.ix_tx, DL.ix_lst, DL.ix_tup, DL.sl_tx, DL.sl_lst, DL.sl_tup, DL.plus_tx, DL.plus_int, DL.plus_lst, DL.plus_tup, DL.cat_lst, DL.rep_lst1, DL.zD_tx, DL.zD_lst, DL.zD_tup, DL.rev_tx, DL.en_tx, DL.asStr_tx, DL.tup_lst, DL.lst_tup, DL.isi_tx, DL.isi_int, DL.isi_intb, DL.isi_tt, DL.isi_lt, DL.sub_int', DL.add_ip, DL.sub_ip, DL.mul_int', DL.lt_int, DL.gt_int, DL.ge_int, DL.le_int, DL.eq_int, DL.ne_int, DL.eq_tx, DL.ne_tx, DL.isn_int, DL.isn_non, DL.isb, DL.neg_int, DL.int_int, DL.atI_nat, DL.atI_zero, DL.atI_one, DL.atI_two, DL.atI_three, DL.atI_succ, DL.atI_last, DL.cut_to, DL.cut_from, DL.cut_both, DL.cut_butlast, PySem.sizeLine_eq, DL.sum_nl, DL.sum_nt, DL.gSet, DL.gTupD, DL.gsCons, DL.gsNil, DL.ini, DL.setS, mod_int' m0, fdiv_int' (j := 7) (by decide), ev]
    · have hpl : p < ns.length := by omega
      have ec := at_int hpl
      obtain ⟨v, ev, hv⟩ := val ns[p]
      have hp2 : ¬ (ns.length : Int) < (p : Int) + 1 := by omega
      have e1 : (p : Int) + 1 - 1 = (p : Int) := by omega
      have start : ∀ {x : DL.R Fl}, seqS (itmS 0 (kc (.int 2)) (bin modD (appN intD (aCons (bin plusD (bin plusD (bin mulD (bin ixD (gAny 0) (kc (.int 2))) (kc (.int 48271))) (gAny 3)) (kc (.int 11))) aNil)) (kc (.int 2147483647)))) (seqS (ifS (withEnv (tst (bin geD (gAny 3) (bin powD (kc (.int 10)) (kc (.int 18)))))) (itmS 0 (kc (.int 3)) (bin fdivD (gAny 3) (gAny 1))) skipS) (retS (withEnv (bin modD (appN intD (aCons (gAny 3) aNil)) (gAny 1))))) [.io (.lst [.lst (ns.map D.int), ni (p + 1), .int q, .int k]), .sh (ni m), .un, .sh (.int ns[p])] = x →
          b__law_taken [.io (.lst [.lst (ns.map D.int), ni p, .int q, .int k]), .sh (ni m), .un, .un] = x := fun {x} hx => by
        unfold b__law_taken
        refine seq_nx (if_n (cond_p c0) rfl) ?_
        refine seq_nx (r1 := [.io (.lst [.lst (ns.map D.int), ni (p + 1), .int q, .int k]), .sh (ni m), .un, .un]) (itm_ok (s := .io (.lst [.lst (ns.map D.int), ni p, .int q, .int k])) (xs := [.lst (ns.map D.int), ni p, .int q, .int k]) (d := ni (p + 1)) (k := 1) (j := 1) (by simp (disch := first | omega | (simp; done) | (simp; omega)) [DL.withEnv, DL.tst, DL.tstE, DL.tru, DL.truE, DL.bin, DL.binE, DL.appN, DL.appNE, DL.aCons, DL.aNil, DL.aConsE, DL.kc, DL.itN, DL.itX, DL.un1, DL.notB, DL.orB, DL.andB, DL.notV, DL.andV, DL.orV, DL.ifV, DL.chn, DL.oNone, DL.oSome, DL.sl3, DL.mthV, DL.mkT, DL.mkTE, DL.mkL, DL.yesB, DL.gSh_eq, DL.gAny_eq, DL.gS_sh, DL.gA_sh, DL.gA_own, DL.gA_io, DL.ownL_eq, DL.oL_own, DL.oL_io, DL.put_own, DL.put_io, DL.bind_ok, DL.ofO_some, DL.at_ok, DL.ne_ok, DL.asB_bl', DL.asI_int', DL.tru_bl, DL.tru_int, DL.tru_lst, DL.len_tx, DL.len_lst, DL.len_tup, DL.ix_tx, DL.ix_lst, DL.ix_tup, DL.sl_tx, DL.sl_lst, DL.sl_tup, DL.plus_tx, DL.plus_int, DL.plus_lst, DL.plus_tup, DL.cat_lst, DL.rep_lst1, DL.zD_tx, DL.zD_lst, DL.zD_tup, DL.rev_tx, DL.en_tx, DL.asStr_tx, DL.tup_lst, DL.lst_tup, DL.isi_tx, DL.isi_int, DL.isi_intb, DL.isi_tt, DL.isi_lt, DL.sub_int', DL.add_ip, DL.sub_ip, DL.mul_int', DL.lt_int, DL.gt_int, DL.ge_int, DL.le_int, DL.eq_int, DL.ne_int, DL.eq_tx, DL.ne_tx, DL.isn_int, DL.isn_non, DL.isb, DL.neg_int, DL.int_int, DL.atI_nat, DL.atI_zero, DL.atI_one, DL.atI_two, DL.atI_three, DL.atI_succ, DL.atI_last, DL.cut_to, DL.cut_from, DL.cut_both, DL.cut_butlast, PySem.sizeLine_eq, DL.sum_nl, DL.sum_nt, DL.gSet, DL.gTupD, DL.gsCons, DL.gsNil, DL.ini, DL.setS]) rfl rfl rfl) ?_
        refine seq_nx (if_n (cond_p (b := false) (by simp (disch := first | omega | (simp; done) | (simp; omega)) [DL.withEnv, DL.tst, DL.tstE, DL.tru, DL.truE, DL.bin, DL.binE, DL.appN, DL.appNE, DL.aCons, DL.aNil, DL.aConsE, DL.kc, DL.itN, DL.itX, DL.un1, DL.notB, DL.orB, DL.andB, DL.notV, DL.andV, DL.orV, DL.ifV, DL.chn, DL.oNone, DL.oSome, DL.sl3, DL.mthV, DL.mkT, DL.mkTE, DL.mkL, DL.yesB, DL.gSh_eq, DL.gAny_eq, DL.gS_sh, DL.gA_sh, DL.gA_own, DL.gA_io, DL.ownL_eq, DL.oL_own, DL.oL_io, DL.put_own, DL.put_io, DL.bind_ok, DL.ofO_some, DL.at_ok, DL.ne_ok, DL.asB_bl', DL.asI_int', DL.tru_bl, DL.tru_int, DL.tru_lst, DL.len_tx, DL.len_lst, DL.len_tup, DL.ix_tx, DL.ix_lst, DL.ix_tup, DL.sl_tx, DL.sl_lst, DL.sl_tup, DL.plus_tx, DL.plus_int, DL.plus_lst, DL.plus_tup, DL.cat_lst, DL.rep_lst1, DL.zD_tx, DL.zD_lst, DL.zD_tup, DL.rev_tx, DL.en_tx, DL.asStr_tx, DL.tup_lst, DL.lst_tup, DL.isi_tx, DL.isi_int, DL.isi_intb, DL.isi_tt, DL.isi_lt, DL.sub_int', DL.add_ip, DL.sub_ip, DL.mul_int', DL.lt_int, DL.gt_int, DL.ge_int, DL.le_int, DL.eq_int, DL.ne_int, DL.eq_tx, DL.ne_tx, DL.isn_int, DL.isn_non, DL.isb, DL.neg_int, DL.int_int, DL.atI_nat, DL.atI_zero, DL.atI_one, DL.atI_two, DL.atI_three, DL.atI_succ, DL.atI_last, DL.cut_to, DL.cut_from, DL.cut_both, DL.cut_butlast, PySem.sizeLine_eq, DL.sum_nl, DL.sum_nt, DL.gSet, DL.gTupD, DL.gsCons, DL.gsNil, DL.ini, DL.setS, hp2])) rfl) ?_
        exact seq_nx (r1 := [.io (.lst [.lst (ns.map D.int), ni (p + 1), .int q, .int k]), .sh (ni m), .un, .sh (.int ns[p])]) (set_p (d := .int ns[p]) (by simp (disch := first | omega | (simp; done) | (simp; omega)) [DL.withEnv, DL.tst, DL.tstE, DL.tru, DL.truE, DL.bin, DL.binE, DL.appN, DL.appNE, DL.aCons, DL.aNil, DL.aConsE, DL.kc, DL.itN, DL.itX, DL.un1, DL.notB, DL.orB, DL.andB, DL.notV, DL.andV, DL.orV, DL.ifV, DL.chn, DL.oNone, DL.oSome, DL.sl3, DL.mthV, DL.mkT, DL.mkTE, DL.mkL, DL.yesB, DL.gSh_eq, DL.gAny_eq, DL.gS_sh, DL.gA_sh, DL.gA_own, DL.gA_io, DL.ownL_eq, DL.oL_own, DL.oL_io, DL.put_own, DL.put_io, DL.bind_ok, DL.ofO_some, DL.at_ok, DL.ne_ok, DL.asB_bl', DL.asI_int', DL.tru_bl, DL.tru_int, DL.tru_lst, DL.len_tx, DL.len_lst, DL.len_tup, DL.ix_tx, DL.ix_lst, DL.ix_tup, DL.sl_tx, DL.sl_lst, DL.sl_tup, DL.plus_tx, DL.plus_int, DL.plus_lst, DL.plus_tup, DL.cat_lst, DL.rep_lst1, DL.zD_tx, DL.zD_lst, DL.zD_tup, DL.rev_tx, DL.en_tx, DL.asStr_tx, DL.tup_lst, DL.lst_tup, DL.isi_tx, DL.isi_int, DL.isi_intb, DL.isi_tt, DL.isi_lt, DL.sub_int', DL.add_ip, DL.sub_ip, DL.mul_int', DL.lt_int, DL.gt_int, DL.ge_int, DL.le_int, DL.eq_int, DL.ne_int, DL.eq_tx, DL.ne_tx, DL.isn_int, DL.isn_non, DL.isb, DL.neg_int, DL.int_int, DL.atI_nat, DL.atI_zero, DL.atI_one, DL.atI_two, DL.atI_three, DL.atI_succ, DL.atI_last, DL.cut_to, DL.cut_from, DL.cut_both, DL.cut_butlast, PySem.sizeLine_eq, DL.sum_nl, DL.sum_nt, DL.gSet, DL.gTupD, DL.gsCons, DL.gsNil, DL.ini, DL.setS, e1, ec])) hx
      have st2 : itmS 0 (kc (.int 2)) (bin modD (appN intD (aCons (bin plusD (bin plusD (bin mulD (bin ixD (gAny 0) (kc (.int 2))) (kc (.int 48271))) (gAny 3)) (kc (.int 11))) aNil)) (kc (.int 2147483647))) [.io (.lst [.lst (ns.map D.int), ni (p + 1), .int q, .int k]), .sh (ni m), .un, .sh (.int ns[p])] = .ok (.nx [.io (.lst [.lst (ns.map D.int), ni (p + 1), .int ((q * 48271 + ns[p] + 11) % 2147483647), .int k]), .sh (ni m), .un, .sh (.int ns[p])]) :=
        itm_ok (s := .io (.lst [.lst (ns.map D.int), ni (p + 1), .int q, .int k])) (xs := [.lst (ns.map D.int), ni (p + 1), .int q, .int k]) (d := .int ((q * 48271 + ns[p] + 11) % 2147483647)) (k := 2) (j := 2) (by simp (disch := first | omega | (simp; done) | (simp; omega)) [DL.withEnv, DL.tst, DL.tstE, DL.tru, DL.truE, DL.bin, DL.binE, DL.appN, DL.appNE, DL.aCons, DL.aNil, DL.aConsE, DL.kc, DL.itN, DL.itX, DL.un1, DL.notB, DL.orB, DL.andB, DL.notV, DL.andV, DL.orV, DL.ifV, DL.chn, DL.oNone, DL.oSome, DL.sl3, DL.mthV, DL.mkT, DL.mkTE, DL.mkL, DL.yesB, DL.gSh_eq, DL.gAny_eq, DL.gS_sh, DL.gA_sh, DL.gA_own, DL.gA_io, DL.ownL_eq, DL.oL_own, DL.oL_io, DL.put_own, DL.put_io, DL.bind_ok, DL.ofO_some, DL.at_ok, DL.ne_ok, DL.asB_bl', DL.asI_int', DL.tru_bl, DL.tru_int, DL.tru_lst, DL.len_tx, DL.len_lst, DL.len_tup, DL.ix_tx, DL.ix_lst, DL.ix_tup, DL.sl_tx, DL.sl_lst, DL.sl_tup, DL.plus_tx, DL.plus_int, DL.plus_lst, DL.plus_tup, DL.cat_lst, DL.rep_lst1, DL.zD_tx, DL.zD_lst, DL.zD_tup, DL.rev_tx, DL.en_tx, DL.asStr_tx, DL.tup_lst, DL.lst_tup, DL.isi_tx, DL.isi_int, DL.isi_intb, DL.isi_tt, DL.isi_lt, DL.sub_int', DL.add_ip, DL.sub_ip, DL.mul_int', DL.lt_int, DL.gt_int, DL.ge_int, DL.le_int, DL.eq_int, DL.ne_int, DL.eq_tx, DL.ne_tx, DL.isn_int, DL.isn_non, DL.isb, DL.neg_int, DL.int_int, DL.atI_nat, DL.atI_zero, DL.atI_one, DL.atI_two, DL.atI_three, DL.atI_succ, DL.atI_last, DL.cut_to, DL.cut_from, DL.cut_both, DL.cut_butlast, PySem.sizeLine_eq, DL.sum_nl, DL.sum_nt, DL.gSet, DL.gTupD, DL.gsCons, DL.gsNil, DL.ini, DL.setS, mul_int' (i := q) (j := 48271) (Or.inr (by decide)), mod_int' (j := 2147483647) (by decide)]) rfl rfl rfl
      have cge : ∀ bb : Bool, decide ((10 : Int) ^ 18 ≤ ns[p]) = bb → bin geD (gAny 3) (bin powD (kc (.int 10)) (kc (.int 18))) [.io (.lst [.lst (ns.map D.int), ni (p + 1), .int ((q * 48271 + ns[p] + 11) % 2147483647), .int k]), .sh (ni m), .un, .sh (.int ns[p])] = .ok (.bl bb) := fun bb hb =>
        bin_ok (f := gAny 3) (g := bin powD (kc (.int 10)) (kc (.int 18))) (r := [.io (.lst [.lst (ns.map D.int), ni (p + 1), .int ((q * 48271 + ns[p] + 11) % 2147483647), .int k]), .sh (ni m), .un, .sh (.int ns[p])]) (x := .int ns[p]) (y := .int (10 ^ 18)) (d := .bl bb) rfl (bin_ok (f := kc (.int 10)) (g := kc (.int 18)) (x := .int 10) (y := .int 18) rfl rfl pow18) (by rw [ge_int, hb])
      by_cases hc : (10 : Int) ^ 18 ≤ ns[p]
      · refine ⟨v, [.lst (ns.map D.int), ni (p + 1), .int ((q * 48271 + ns[p] + 11) % 2147483647), .int (ns[p] / (m : Int))], ?_, ⟨ns, p + 1, _, _, hn, rfl⟩, hv⟩
        refine fnIO_rt (r1 := [.sh (ni m), .un, .sh (.int ns[p])]) rfl (start ?_)
        refine seq_nx st2 (seq_nx (if_y (cond_p (b := true) ?_) (itm_ok (s := .io (.lst [.lst (ns.map D.int), ni (p + 1), .int ((q * 48271 + ns[p] + 11) % 2147483647), .int k])) (xs := [.lst (ns.map D.int), ni (p + 1), .int ((q * 48271 + ns[p] + 11) % 2147483647), .int k]) (d := .int (ns[p] / (m : Int))) (k := 3) (j := 3) (by simp (disch := first | omega | (simp; done) | (simp; omega)) [DL.withEnv, DL.tst, DL.tstE, DL.tru, DL.truE, DL.bin, DL.binE, DL.appN, DL.appNE, DL.aCons, DL.aNil, DL.aConsE, DL.kc, DL.itN, DL.itX, DL.un1, DL.notB, DL.orB, DL.andB, DL.notV, DL.andV, DL.orV, DL.ifV, DL.chn, DL.oNone, DL.oSome, DL.sl3, DL.mthV, DL.mkT, DL.mkTE, DL.mkL, DL.yesB, DL.gSh_eq, DL.gAny_eq, DL.gS_sh, DL.gA_sh, DL.gA_own, DL.gA_io, DL.ownL_eq, DL.oL_own, DL.oL_io, DL.put_own, DL.put_io, DL.bind_ok, DL.ofO_some, DL.at_ok, DL.ne_ok, DL.asB_bl', DL.asI_int', DL.tru_bl, DL.tru_int, DL.tru_lst, DL.len_tx, DL.len_lst, DL.len_tup, DL.ix_tx, DL.ix_lst, DL.ix_tup, DL.sl_tx, DL.sl_lst, DL.sl_tup, DL.plus_tx, DL.plus_int, DL.plus_lst, DL.plus_tup, DL.cat_lst, DL.rep_lst1, DL.zD_tx, DL.zD_lst, DL.zD_tup, DL.rev_tx, DL.en_tx, DL.asStr_tx, DL.tup_lst, DL.lst_tup, DL.isi_tx, DL.isi_int, DL.isi_intb, DL.isi_tt, DL.isi_lt, DL.sub_int', DL.add_ip, DL.sub_ip, DL.mul_int', DL.lt_int, DL.gt_int, DL.ge_int, DL.le_int, DL.eq_int, DL.ne_int, DL.eq_tx, DL.ne_tx, DL.isn_int, DL.isn_non, DL.isb, DL.neg_int, DL.int_int, DL.atI_nat, DL.atI_zero, DL.atI_one, DL.atI_two, DL.atI_three, DL.atI_succ, DL.atI_last, DL.cut_to, DL.cut_from, DL.cut_both, DL.cut_butlast, PySem.sizeLine_eq, DL.sum_nl, DL.sum_nt, DL.gSet, DL.gTupD, DL.gsCons, DL.gsNil, DL.ini, DL.setS, fdiv_int' m1]) rfl rfl rfl)) (ret_p (by simp (disch := first | omega | (simp; done) | (simp; omega)) [DL.withEnv, DL.tst, DL.tstE, DL.tru, DL.truE, DL.bin, DL.binE, DL.appN, DL.appNE, DL.aCons, DL.aNil, DL.aConsE, DL.kc, DL.itN, DL.itX, DL.un1, DL.notB, DL.orB, DL.andB, DL.notV, DL.andV, DL.orV, DL.ifV, DL.chn, DL.oNone, DL.oSome, DL.sl3, DL.mthV, DL.mkT, DL.mkTE, DL.mkL, DL.yesB, DL.gSh_eq, DL.gAny_eq, DL.gS_sh, DL.gA_sh, DL.gA_own, DL.gA_io, DL.ownL_eq, DL.oL_own, DL.oL_io, DL.put_own, DL.put_io, DL.bind_ok, DL.ofO_some, DL.at_ok, DL.ne_ok, DL.asB_bl', DL.asI_int', DL.tru_bl, DL.tru_int, DL.tru_lst, DL.len_tx, DL.len_lst, DL.len_tup, DL.ix_tx, DL.ix_lst, DL.ix_tup, DL.sl_tx, DL.sl_lst, DL.sl_tup, DL.plus_tx, DL.plus_int, DL.plus_lst, DL.plus_tup, DL.cat_lst, DL.rep_lst1, DL.zD_tx, DL.zD_lst, DL.zD_tup, DL.rev_tx, DL.en_tx, DL.asStr_tx, DL.tup_lst, DL.lst_tup, DL.isi_tx, DL.isi_int, DL.isi_intb, DL.isi_tt, DL.isi_lt, DL.sub_int', DL.add_ip, DL.sub_ip, DL.mul_int', DL.lt_int, DL.gt_int, DL.ge_int, DL.le_int, DL.eq_int, DL.ne_int, DL.eq_tx, DL.ne_tx, DL.isn_int, DL.isn_non, DL.isb, DL.neg_int, DL.int_int, DL.atI_nat, DL.atI_zero, DL.atI_one, DL.atI_two, DL.atI_three, DL.atI_succ, DL.atI_last, DL.cut_to, DL.cut_from, DL.cut_both, DL.cut_butlast, PySem.sizeLine_eq, DL.sum_nl, DL.sum_nt, DL.gSet, DL.gTupD, DL.gsCons, DL.gsNil, DL.ini, DL.setS, mod_int' m0, ev])))
        exact congrArg (fun z => z.bind fun d => R.ofO (asB d)) (cge _ (decide_eq_true hc))
      · refine ⟨v, [.lst (ns.map D.int), ni (p + 1), .int ((q * 48271 + ns[p] + 11) % 2147483647), .int k], ?_, ⟨ns, p + 1, _, _, hn, rfl⟩, hv⟩
        refine fnIO_rt (r1 := [.sh (ni m), .un, .sh (.int ns[p])]) rfl (start ?_)
        refine seq_nx st2 (seq_nx (if_n (cond_p (b := false) ?_) rfl) (ret_p (by simp (disch := first | omega | (simp; done) | (simp; omega)) [DL.withEnv, DL.tst, DL.tstE, DL.tru, DL.truE, DL.bin, DL.binE, DL.appN, DL.appNE, DL.aCons, DL.aNil, DL.aConsE, DL.kc, DL.itN, DL.itX, DL.un1, DL.notB, DL.orB, DL.andB, DL.notV, DL.andV, DL.orV, DL.ifV, DL.chn, DL.oNone, DL.oSome, DL.sl3, DL.mthV, DL.mkT, DL.mkTE, DL.mkL, DL.yesB, DL.gSh_eq, DL.gAny_eq, DL.gS_sh, DL.gA_sh, DL.gA_own, DL.gA_io, DL.ownL_eq, DL.oL_own, DL.oL_io, DL.put_own, DL.put_io, DL.bind_ok, DL.ofO_some, DL.at_ok, DL.ne_ok, DL.asB_bl', DL.asI_int', DL.tru_bl, DL.tru_int, DL.tru_lst, DL.len_tx, DL.len_lst, DL.len_tup, DL.ix_tx, DL.ix_lst, DL.ix_tup, DL.sl_tx, DL.sl_lst, DL.sl_tup, DL.plus_tx, DL.plus_int, DL.plus_lst, DL.plus_tup, DL.cat_lst, DL.rep_lst1, DL.zD_tx, DL.zD_lst, DL.zD_tup, DL.rev_tx, DL.en_tx, DL.asStr_tx, DL.tup_lst, DL.lst_tup, DL.isi_tx, DL.isi_int, DL.isi_intb, DL.isi_tt, DL.isi_lt, DL.sub_int', DL.add_ip, DL.sub_ip, DL.mul_int', DL.lt_int, DL.gt_int, DL.ge_int, DL.le_int, DL.eq_int, DL.ne_int, DL.eq_tx, DL.ne_tx, DL.isn_int, DL.isn_non, DL.isb, DL.neg_int, DL.int_int, DL.atI_nat, DL.atI_zero, DL.atI_one, DL.atI_two, DL.atI_three, DL.atI_succ, DL.atI_last, DL.cut_to, DL.cut_from, DL.cut_both, DL.cut_butlast, PySem.sizeLine_eq, DL.sum_nl, DL.sum_nt, DL.gSet, DL.gTupD, DL.gsCons, DL.gsNil, DL.ini, DL.setS, mod_int' m0, ev])))
        exact congrArg (fun z => z.bind fun d => R.ofO (asB d)) (cge _ (decide_eq_false hc))
theorem film_many {row : List D} {most many : Nat} (h : RowOk row) (h1 : 0 < most) (h2 : most ≤ 200) (h3 : 0 < many) (h4 : many ≤ 8) : ∃ (f : List Nat) (row' : List D), F__law_film row [ni most, ni many] = .ok (tx f, row') ∧ RowOk row' ∧ f ≠ [] ∧ f.length ≤ most ∧ ∀ c ∈ f, 97 ≤ c ∧ c < 97 + many := by
  obtain ⟨n, row1, e1, hr1, hn⟩ := taken_ok h h1 (by omega)
  obtain ⟨r', e, f, row', x, er, hr, hf, hl⟩ := for_inv (g := gSet 4) (b := setS 3 (binE plusD (withEnv (gSh 3)) (binE ixD (withEnv (kc (.str "abcdefgh"))) (callIO 0 1 F__law_taken (withEnv (aCons (gSh 2) aNil))))))
    (items := rngL 0 (1 + n)) (r := [.io (.lst row1), .sh (ni most), .sh (ni many), .sh (tx []), .un]) (fun i r => ∃ f row' x, r = [.io (.lst row'), .sh (ni most), .sh (ni many), .sh (tx f), x] ∧ RowOk row' ∧ f.length = i ∧ ∀ c ∈ f, 97 ≤ c ∧ c < 97 + many)
    ⟨[], row1, .un, rfl, hr1, rfl, fun c hc => nomatch hc⟩ (fun i x r e hI => by
      obtain ⟨f, row2, y, er, hr2, hf, hl⟩ := hI
      obtain ⟨hi, ex⟩ := rng_get 0 (1 + n) i x e
      subst er
      obtain ⟨v, row3, e3, hr3, hv⟩ := taken_ok hr2 h3 (by omega)
      have hv8 : v < [97, 98, 99, 100, 101, 102, 103, 104].length := by
        show v < 8
        omega
      have c1 : callIO 0 1 F__law_taken (withEnv (aCons (gSh 2) aNil)) [.io (.lst row2), .sh (ni most), .sh (ni many), .sh (tx f), .sh x] = .ok (ni v, [.io (.lst row3), .sh (ni most), .sh (ni many), .sh (tx f), .sh x]) := callIO_ok (s := .io (.lst row2)) (row := row2) (ds := [ni many]) rfl (wx rfl) rfl e3
      have g1 : [97, 98, 99, 100, 101, 102, 103, 104][v]? = some ([97, 98, 99, 100, 101, 102, 103, 104][v]) := List.getElem?_eq_getElem hv8
      have g2 : 97 ≤ [97, 98, 99, 100, 101, 102, 103, 104][v] ∧ [97, 98, 99, 100, 101, 102, 103, 104][v] < 97 + many := by
        have : v = 0 ∨ v = 1 ∨ v = 2 ∨ v = 3 ∨ v = 4 ∨ v = 5 ∨ v = 6 ∨ v = 7 := by omega
        rcases this with z | z | z | z | z | z | z | z <;> subst z <;> simp <;> omega
      generalize [97, 98, 99, 100, 101, 102, 103, 104][v] = w at g1 g2
      have hfl : f.length ≤ 200 := by omega
      have c2 : ixD (.str "abcdefgh") (ni v) = some (tx [w]) := by
        rw [abc, ix_tx (by decide), atI_nat, g1]
        rfl
      refine ⟨_, [.io (.lst row3), .sh (ni most), .sh (ni many), .sh (tx (f ++ [w])), .sh x], rfl, ?_, f ++ [w], row3, .sh x, rfl, hr3, by rw [List.length_append, List.length_singleton, hf], fun c hc => ?_⟩
      · refine set_e (d := tx (f ++ [w])) (r1 := [.io (.lst row3), .sh (ni most), .sh (ni many), .sh (tx f), .sh x]) ?_
        simp (disch := first | omega | (simp; done) | (simp; omega)) [DL.withEnv, DL.tst, DL.tstE, DL.tru, DL.truE, DL.bin, DL.binE, DL.appN, DL.appNE, DL.aCons, DL.aNil, DL.aConsE, DL.kc, DL.itN, DL.itX, DL.un1, DL.notB, DL.orB, DL.andB, DL.notV, DL.andV, DL.orV, DL.ifV, DL.chn, DL.oNone, DL.oSome, DL.sl3, DL.mthV, DL.mkT, DL.mkTE, DL.mkL, DL.yesB, DL.gSh_eq, DL.gAny_eq, DL.gS_sh, DL.gA_sh, DL.gA_own, DL.gA_io, DL.ownL_eq, DL.oL_own, DL.oL_io, DL.put_own, DL.put_io, DL.bind_ok, DL.ofO_some, DL.at_ok, DL.ne_ok, DL.asB_bl', DL.asI_int', DL.tru_bl, DL.tru_int, DL.tru_lst, DL.len_tx, DL.len_lst, DL.len_tup, DL.ix_tx, DL.ix_lst, DL.ix_tup, DL.sl_tx, DL.sl_lst, DL.sl_tup, DL.plus_tx, DL.plus_int, DL.plus_lst, DL.plus_tup, DL.cat_lst, DL.rep_lst1, DL.zD_tx, DL.zD_lst, DL.zD_tup, DL.rev_tx, DL.en_tx, DL.asStr_tx, DL.tup_lst, DL.lst_tup, DL.isi_tx, DL.isi_int, DL.isi_intb, DL.isi_tt, DL.isi_lt, DL.sub_int', DL.add_ip, DL.sub_ip, DL.mul_int', DL.lt_int, DL.gt_int, DL.ge_int, DL.le_int, DL.eq_int, DL.ne_int, DL.eq_tx, DL.ne_tx, DL.isn_int, DL.isn_non, DL.isb, DL.neg_int, DL.int_int, DL.atI_nat, DL.atI_zero, DL.atI_one, DL.atI_two, DL.atI_three, DL.atI_succ, DL.atI_last, DL.cut_to, DL.cut_from, DL.cut_both, DL.cut_butlast, PySem.sizeLine_eq, DL.sum_nl, DL.sum_nt, DL.gSet, DL.gTupD, DL.gsCons, DL.gsNil, DL.ini, DL.setS, c1, c2]
      · rcases List.mem_append.mp hc with z | z
        · exact hl c z
        · rw [List.mem_singleton.mp z]
          exact g2)
  rw [rngL_length] at hf
  refine ⟨f, row', ?_, hr, ?_, by omega, hl⟩
  · subst er
    refine fnIO_rt (r1 := [.sh (ni most), .sh (ni many), .sh (tx f), x]) rfl (show b__law_film [.io (.lst row), .sh (ni most), .sh (ni many), .un, .un] = _ from ?_)
    unfold b__law_film
    refine seq_nx (r1 := [.io (.lst row), .sh (ni most), .sh (ni many), .sh (tx []), .un]) (set_p rfl) ?_
    refine seq_nx (for_st (r1 := [.io (.lst row1), .sh (ni most), .sh (ni many), .sh (tx []), .un]) ?_ e) (ret_p rfl)
    have c1 : callIO 0 1 F__law_taken (withEnv (aCons (gSh 1) aNil)) [.io (.lst row), .sh (ni most), .sh (ni many), .sh (tx []), .un] = .ok (ni n, [.io (.lst row1), .sh (ni most), .sh (ni many), .sh (tx []), .un]) := callIO_ok (s := .io (.lst row)) (row := row) (ds := [ni most]) rfl (wx rfl) rfl e1
    have c2 : aConsE (binE plusD (withEnv (kc (.int 1))) (callIO 0 1 F__law_taken (withEnv (aCons (gSh 1) aNil)))) (withEnv aNil) [.io (.lst row), .sh (ni most), .sh (ni many), .sh (tx []), .un] = .ok ([ni (1 + n)], [.io (.lst row1), .sh (ni most), .sh (ni many), .sh (tx []), .un]) := by
      simp (disch := first | omega | (simp; done) | (simp; omega)) [DL.withEnv, DL.tst, DL.tstE, DL.tru, DL.truE, DL.bin, DL.binE, DL.appN, DL.appNE, DL.aCons, DL.aNil, DL.aConsE, DL.kc, DL.itN, DL.itX, DL.un1, DL.notB, DL.orB, DL.andB, DL.notV, DL.andV, DL.orV, DL.ifV, DL.chn, DL.oNone, DL.oSome, DL.sl3, DL.mthV, DL.mkT, DL.mkTE, DL.mkL, DL.yesB, DL.gSh_eq, DL.gAny_eq, DL.gS_sh, DL.gA_sh, DL.gA_own, DL.gA_io, DL.ownL_eq, DL.oL_own, DL.oL_io, DL.put_own, DL.put_io, DL.bind_ok, DL.ofO_some, DL.at_ok, DL.ne_ok, DL.asB_bl', DL.asI_int', DL.tru_bl, DL.tru_int, DL.tru_lst, DL.len_tx, DL.len_lst, DL.len_tup, DL.ix_tx, DL.ix_lst, DL.ix_tup, DL.sl_tx, DL.sl_lst, DL.sl_tup, DL.plus_tx, DL.plus_int, DL.plus_lst, DL.plus_tup, DL.cat_lst, DL.rep_lst1, DL.zD_tx, DL.zD_lst, DL.zD_tup, DL.rev_tx, DL.en_tx, DL.asStr_tx, DL.tup_lst, DL.lst_tup, DL.isi_tx, DL.isi_int, DL.isi_intb, DL.isi_tt, DL.isi_lt, DL.sub_int', DL.add_ip, DL.sub_ip, DL.mul_int', DL.lt_int, DL.gt_int, DL.ge_int, DL.le_int, DL.eq_int, DL.ne_int, DL.eq_tx, DL.ne_tx, DL.isn_int, DL.isn_non, DL.isb, DL.neg_int, DL.int_int, DL.atI_nat, DL.atI_zero, DL.atI_one, DL.atI_two, DL.atI_three, DL.atI_succ, DL.atI_last, DL.cut_to, DL.cut_from, DL.cut_both, DL.cut_butlast, PySem.sizeLine_eq, DL.sum_nl, DL.sum_nt, DL.gSet, DL.gTupD, DL.gsCons, DL.gsNil, DL.ini, DL.setS, c1]
    unfold itR1
    rw [c2]
    simp only [bind_ok]
    rw [if_pos (by omega)]
    congr 3
  · intro z
    rw [z] at hf
    simp at hf
    omega
/-! _law_drawn -/
def Pairs (now : List Nat) (xs : List D) : Prop := ∀ d ∈ xs, ∃ a b : Nat, d = .tup [ni a, ni b] ∧ a < b ∧ b < now.length ∧ now[a]? = now[b]?
/-- now comes from F by cuts -/
def From (F now : List Nat) : Prop := now ≠ [] ∧ now.length ≤ F.length ∧ (∀ c ∈ now, c ∈ F) ∧ ∀ g, 0 < W g now → 0 < W g F
end LW

end
section
namespace LW
open PySem DL PT

/-! find -/
def Hit (s sub : Str) (hi i : Nat) : Prop := i + sub.length ≤ hi ∧ Builtin.Str.subAt s sub i = true
/-! ends -/
def Alive (F g : List Nat) (k s : Nat) : Prop := ∃ t, s ≤ t ∧ 0 < W (g.drop k) (F.drop t)
def Good (F g : List Nat) (st : List Nat) : Prop := ∀ k s, st[k]? = some s → F[s]? = g[k]? ∧ 0 < W (g.take k) (F.take s)
end LW

end
section
namespace LW
open PySem DL PT
/-! ### earliest_starts, exactly -/
end LW

end
section
namespace LW
open PySem DL PT
/-! ### alike -/
end LW

end
section
namespace LW
open PySem DL PT
/-! ### all that one cut makes -/
def cutAt (f : List Nat) (a b : Nat) : List Nat := f.take (a + 1) ++ f.drop (b + 1)
end LW

end
section
namespace PT
/-! ### the place of a word -/
def Asc (R : List (List (Nat × Nat))) : Prop := ∀ v, ((R.getD v []).map (·.1)).Pairwise (· < ·)
end PT

end
section
namespace PT
/-! ### outcomes of unlike letters -/
def wD (R : List (List (Nat × Nat))) (E : List Bool) (p : Nat × List Nat) : List (List Nat) := ((wd R E p.1).filter fun u => decide ((p.2 ++ u).Nodup)).map fun u => p.2 ++ u
def TT : Nat → Nat
  | 0 => 1
  | j + 1 => 1 + (j + 1) * TT j
/-- a bound for the turns behind a word -/
def MD (p : Nat × List Nat) : Nat := if p.2 = [] then 1 + TT 7 else TT (8 - p.2.length)
end PT

end
section
namespace PT
/-! ### how many words of each length a graph has -/
def lc (R : List (List (Nat × Nat))) (E : List Bool) (s v : Nat) : Nat := ((wd R E v).filter fun w => decide (w.length = s)).length
/-! weighed sums of a table -/
def ws (f : Nat → Nat) : Nat → List Nat → Nat
  | _, [] => 0
  | k, t :: T => t * f k + ws f (k + 1) T
/-! counting like things -/
/-! ### a graph with some letters alone -/
theorem getD_map_nil {α β : Type} (f : List α → List β) (hf : f [] = []) (R : List (List α)) (v : Nat) : (R.map f).getD v [] = f (R.getD v []) := by
  rw [List.getD_eq_getElem?_getD, List.getD_eq_getElem?_getD, List.getElem?_map]
  cases R[v]? with
  | none => exact hf.symm
  | some r => rfl
def keepL (L : List Nat) (R : List (List (Nat × Nat))) : List (List (Nat × Nat)) := R.map fun r => r.filter fun p => decide (p.1 ∈ L)
theorem keepL_len (L : List Nat) (R : List (List (Nat × Nat))) : (keepL L R).length = R.length := by unfold keepL; rw [List.length_map]
theorem keepL_row (L : List Nat) (R : List (List (Nat × Nat))) (v : Nat) : (keepL L R).getD v [] = (R.getD v []).filter fun p => decide (p.1 ∈ L) := getD_map_nil _ rfl R v
theorem keepL_up {L : List Nat} {R : List (List (Nat × Nat))} (h : Up R) : Up (keepL L R) := fun v p hp => by
  rw [keepL_row] at hp
  rw [keepL_len]
  exact h v p (List.mem_filter.mp hp).1
theorem filter_flat {α β : Type} (p : β → Bool) (f : α → List β) : ∀ L : List α, (L.flatMap f).filter p = L.flatMap fun a => (f a).filter p
  | [] => rfl
  | a :: L => by rw [List.flatMap_cons, List.filter_append, filter_flat p f L, List.flatMap_cons]
theorem wds_keep (L : List Nat) (R : List (List (Nat × Nat))) (E : List Bool) : ∀ (f v : Nat), wds (keepL L R) E f v = (wds R E f v).filter fun w => w.all fun c => decide (c ∈ L)
  | 0, v => rfl
  | f + 1, v => by
    have ih := wds_keep L R E f
    have e1 : wds (keepL L R) E (f + 1) v = (if E.getD v false = true then [[]] else []) ++ (((keepL L R).getD v []).flatMap fun p => (wds (keepL L R) E f p.2).map fun l => p.1 :: l) := rfl
    have e2 : wds R E (f + 1) v = (if E.getD v false = true then [[]] else []) ++ ((R.getD v []).flatMap fun p => (wds R E f p.2).map fun l => p.1 :: l) := rfl
    rw [e1, e2, List.filter_append, keepL_row, filter_flat]
    congr 1
    · split <;> rfl
    · generalize R.getD v [] = r
      induction r with
      | nil => rfl
      | cons p r ihr =>
        rw [List.flatMap_cons, ← ihr]
        by_cases z : p.1 ∈ L
        · rw [List.filter_cons_of_pos (by simpa using z), List.flatMap_cons, ih]
          congr 1
          rw [List.filter_map]
          congr 2
          funext l
          show (l.all fun c => decide (c ∈ L)) = (decide (p.1 ∈ L) && l.all fun c => decide (c ∈ L))
          rw [decide_eq_true z, Bool.true_and]
        · rw [List.filter_cons_of_neg (by simpa using z)]
          have : ((wds R E f p.2).map fun l => p.1 :: l).filter (fun w => w.all fun c => decide (c ∈ L)) = [] := List.filter_eq_nil_iff.mpr fun w hw => by
            obtain ⟨l, _, e⟩ := List.mem_map.mp hw
            rw [← e, List.all_cons, decide_eq_false z, Bool.false_and]
            decide
          rw [this, List.nil_append]
theorem wd_keep (L : List Nat) (R : List (List (Nat × Nat))) (E : List Bool) (v : Nat) : wd (keepL L R) E v = (wd R E v).filter fun w => w.all fun c => decide (c ∈ L) := by
  unfold wd
  rw [keepL_len, wds_keep]
/-! ### the words stand in order -/
end PT

end
section
namespace DL
open PySem L2 PT
/-! ### sorted lists of films -/
def srtW (L : List (List Nat)) : List (List Nat) := (sortStr (L.map fun l => mkS l)).map fun s => s.cps.toList
/-- sorted({..}) of films -/
def srtU (L : List (List Nat)) : List (List Nat) := (sortStr (dedT (L.map fun l => mkS l))).map fun s => s.cps.toList
end DL

end
section
namespace LW
open PySem DL PT
/-! ### all films to which a film comes -/
theorem strOk_tx {l : List Nat} (h : ∀ c ∈ l, 97 ≤ c ∧ c ≤ 104) : PyData.strOk (mkS l) = true := by
  show l.toArray.all (fun c => decide (c < 0x110000)) = true
  rw [List.all_toArray, List.all_eq_true]
  intro c hc
  have := h c hc
  exact decide_eq_true (by omega)
abbrev allB : DL.Env → DL.R Fl := ifS (withEnv (tst (bin (inA true) (gAny 4) (gAny 1)))) (seqS (putS 1 (gAny 4) (kc (.bl true))) (appS 2 (gSh 4))) skipS
def Reach (f h : List Nat) : Prop := ∀ g, 0 < W g h → 0 < W g f
theorem W_sub : ∀ {g f : List Nat}, 0 < W g f → g.Sublist f
  | [], f, _ => List.nil_sublist f
  | c :: g, f, h => by
    obtain ⟨_, u, v, e, hv⟩ := blk_pos.mp (show 0 < blk c (W g) f from h)
    rw [e]
    exact ((W_sub hv).cons_cons c).trans (List.sublist_append_right _ _)
end LW

end
section
namespace LW
open PySem DL PT
/-! the outcomes of a film -/
theorem okF_film {F : List Nat} (hF : Film F) : okF F = true := by
  unfold okF
  rw [decide_eq_true hF.1, decide_eq_true hF.2.1]
  exact List.all_eq_true.mpr fun c hc => decide_eq_true (hF.2.2 c hc)
theorem outcome_graph_ok {F : List Nat} (hF : Film F) : F_outcome_graph [tx F] = .ok (gD (oR F) (oE F)) := og_graph (okF_film hF)
theorem film_L8 {F : List Nat} (hF : Film F) : ∀ c ∈ F, c ∈ L8 := fun c hc => mem_L8.mpr (hF.2.2 c hc)
theorem ocs_mem {F : List Nat} (hF : Film F) {g : List Nat} : g ∈ ocs F ↔ 0 < W g F := wd_W hF.1 (film_L8 hF) g
theorem ocs_few {F : List Nat} (hF : Film F) : (ocs F).length ≤ 2 ^ F.length := by
  have := nodup_le (l := ocs F) (m := subs F) (ocs_nodup F) fun g hg => subs_mem (W_sub ((ocs_mem hF).mp hg))
  rw [subs_len] at this
  exact this
theorem counts_og {F : List Nat} (hF : Film F) : F_counts_from [gD (oR F) (oE F)] = .ok (.lst ((csI (oR F) (oE F) (oR F).length).map ni)) :=
  counts_from_ok (oR_up hF.1) (by rw [oE_len, oR_len]) (by have := hF.2.1; rw [oR_len]; omega) oR_short
theorem count_words_og {F : List Nat} (hF : Film F) : F_count_words [gD (oR F) (oE F)] = .ok (ni (ocs F).length) := by
  have c := counts_og hF
  have g0 : ((csI (oR F) (oE F) (oR F).length).map ni)[0]? = some (ni (ocs F).length) := by
    rw [List.getElem?_map, csI_get (by rw [oR_len]; omega), if_pos (by omega)]
    rfl
  refine fnD_rt (r1 := [.sh (gD (oR F) (oE F))]) rfl (show b_count_words [.sh (gD (oR F) (oE F))] = _ from ?_)
  unfold b_count_words
  wide_open with ((), c, g0)
theorem check_listed_ok {n : Nat} (h : n ≤ 5000) : F_check_listed [ni n] = .ok .non := by
  have e : decide ((5000 : Int) < (n : Int)) = false := decide_eq_false (by omega)
  refine fnD_nx (r1 := [.sh (ni n)]) rfl (show b_check_listed [.sh (ni n)] = _ from ?_)
  unfold b_check_listed
  wide_open with ((), e)
theorem listed_og {F : List Nat} (hF : Film F) (h1 : (ocs F).length ≤ 5000) (h2 : (ocs F).length * (F.length + 1) + 1 ≤ 99999) : F_listed [gD (oR F) (oE F)] = .ok (.lst ((ocs F).map fun l => tx l)) := by
  have w := words_of_ok (R := oR F) (E := oE F) (oR_up hF.1) (by rw [oE_len, oR_len]) (by rw [oR_len]; omega) (by have := hF.2.1; rw [oR_len]; omega) oR_short (by rw [oR_len]; exact h2)
  refine fnD_rt (r1 := [.sh (gD (oR F) (oE F))]) rfl (show b_listed [.sh (gD (oR F) (oE F))] = _ from ?_)
  unfold b_listed
  wide_open with ((), count_words_og hF, check_listed_ok h1, w)
  rfl
theorem outcomes_ok {F : List Nat} (hF : Film F) (h1 : (ocs F).length ≤ 5000) (h2 : (ocs F).length * (F.length + 1) + 1 ≤ 99999) : F_outcomes [tx F] = .ok (.lst ((ocs F).map fun l => tx l)) := by
  refine fnD_rt (r1 := [.sh (tx F)]) rfl (show b_outcomes [.sh (tx F)] = _ from ?_)
  unfold b_outcomes
  wide_open with ((), check_film_ok hF, outcome_graph_ok hF, listed_og hF h1 h2)
theorem outcomes_ok' {F : List Nat} (hF : Film F) (h : F.length ≤ 11) : F_outcomes [tx F] = .ok (.lst ((ocs F).map fun l => tx l)) := by
  have a := ocs_few hF
  have b : 2 ^ F.length ≤ 2 ^ 11 := Nat.pow_le_pow_right (by decide) h
  have c : (ocs F).length * (F.length + 1) ≤ 2048 * 12 := Nat.mul_le_mul (by omega) (by omega)
  exact outcomes_ok hF (by omega) (by omega)
end LW

end
section
namespace LW
open PySem DL PT
abbrev riB : DL.Env → DL.R Fl := (seqS (setS 6 (withEnv (bin ixD (un1 (fldD "arrows") (gSh 0)) (gAny 3)))) (seqS (ifS (withEnv (tst (bin (inA true) (gAny 5) (gAny 6)))) (retS (withEnv (kc .non))) skipS) (seqS (ifS (withEnv (tru (bin ixD (un1 (fldD "ends") (gSh 0)) (gAny 3)))) (augS 4 (intOp (fun _ _ => true) fun i j => i + j) (kc (.int 1))) skipS) (seqS (augS 4 (intOp (fun _ _ => true) fun i j => i + j) (appN sumD (aCons (lcD [("other", 7), ("after", 8)] (itX itemsD (gSh 6)) (gTupD 2 (gsCons (gSet 7) (gsCons (gSet 8) gsNil))) (tst (bin ltSD (gAny 7) (gAny 5))) (bin ixD (gAny 2) (gAny 8))) aNil))) (setS 3 (withEnv (bin dgetD (gAny 6) (gAny 5))))))))
end LW

end
section
namespace LW
open PySem DL PT
abbrev waB : DL.Env → DL.R Fl := (seqS (ifS (withEnv (tst (bin ltD (gAny 5) (bin ixD (gAny 2) (gAny 7))))) (seqS (setS 3 (withEnv (gSh 7))) (seqS (augS 4 addSD (gAny 6)) brkS)) skipS) (augS 5 (intOp (fun _ _ => true) fun i j => i - j) (bin ixD (gAny 2) (gAny 7))))
abbrev waC : DL.Env → DL.R (Bool × DL.Env) := withEnv (orB (tst (bin gtD (gAny 5) (kc (.int 0)))) (notB (tru (bin ixD (un1 (fldD "ends") (gSh 0)) (gAny 3)))))
abbrev waD : DL.Env → DL.R Fl := (seqS (ifS (withEnv (tru (bin ixD (un1 (fldD "ends") (gSh 0)) (gAny 3)))) (augS 5 (intOp (fun _ _ => true) fun i j => i - j) (kc (.int 1))) skipS) (forS (withEnv (itX itemsD (bin ixD (un1 (fldD "arrows") (gSh 0)) (gAny 3)))) (gTupD 2 (gsCons (gSet 6) (gsCons (gSet 7) gsNil))) waB))
end LW

end
section
namespace PT
/-! ### the greatest sum of the letters' worths of the words of a graph, and the first word that has it -/
section
variable (w : Nat → Int)
def sw (u : List Nat) : Int := (u.map w).sum
theorem sw_nil : sw w [] = 0 := rfl
theorem sw_cons (c : Nat) (u : List Nat) : sw w (c :: u) = w c + sw w u := by unfold sw; rw [List.map_cons, List.sum_cons]
variable (R : List (List (Nat × Nat))) (E : List Bool)
def bw (v : Nat) : Option Int := ((wd R E v).map (sw w)).max?
def smsOf (L : List (Nat × Nat)) : List Int := L.filterMap fun p => (bw w R E p.2).map fun b => w p.1 + b
def sms (v : Nat) : List Int := (if E.getD v false = true then [0] else []) ++ smsOf w R E (R.getD v [])
variable {w R E}
theorem bw_none {v : Nat} : bw w R E v = none ↔ wd R E v = [] := by
  unfold bw
  rw [List.max?_eq_none_iff, List.map_eq_nil_iff]
theorem bw_some {v : Nat} {m : Int} : bw w R E v = some m ↔ (∃ u, u ∈ wd R E v ∧ sw w u = m) ∧ ∀ u ∈ wd R E v, sw w u ≤ m := by
  unfold bw
  rw [List.max?_eq_some_iff, List.mem_map]
  constructor
  · rintro ⟨a, b⟩
    exact ⟨a, fun u hu => b _ (List.mem_map.mpr ⟨u, hu, rfl⟩)⟩
  · rintro ⟨a, b⟩
    exact ⟨a, fun x hx => by
      obtain ⟨u, hu, e⟩ := List.mem_map.mp hx
      rw [← e]
      exact b u hu⟩
theorem bw_rec (hU : Up R) {v : Nat} (hv : v < R.length) : (sms w R E v).max? = bw w R E v := by
  cases q : bw w R E v with
  | none =>
    have e := bw_none.mp q
    have ne : ∀ u, u ∉ wd R E v := fun u hu => by rw [e] at hu; cases hu
    rw [List.max?_eq_none_iff]
    unfold sms
    rw [if_neg (fun z => ne [] ((mem_wd hU hv).mpr (.inl ⟨z, rfl⟩))), List.nil_append]
    refine List.filterMap_eq_nil_iff.mpr fun p hp => ?_
    cases z : bw w R E p.2 with
    | none => rfl
    | some b =>
      obtain ⟨⟨l, hl, _⟩, _⟩ := bw_some.mp z
      exact absurd ((mem_wd hU hv).mpr (.inr ⟨p, hp, l, hl, rfl⟩)) (ne _)
  | some m =>
    obtain ⟨⟨u, hu, eu⟩, mx⟩ := bw_some.mp q
    rw [List.max?_eq_some_iff]
    constructor
    · unfold sms
      rw [List.mem_append]
      rcases (mem_wd hU hv).mp hu with ⟨h1, h2⟩ | ⟨p, hp, l, hl, h2⟩
      · rw [if_pos h1]
        rw [h2, sw_nil] at eu
        exact .inl (by rw [← eu]; exact List.mem_singleton.mpr rfl)
      · refine .inr (List.mem_filterMap.mpr ⟨p, hp, ?_⟩)
        rw [h2, sw_cons] at eu
        have : bw w R E p.2 = some (sw w l) := bw_some.mpr ⟨⟨l, hl, rfl⟩, fun x hx => by
          have := mx _ ((mem_wd hU hv).mpr (.inr ⟨p, hp, x, hx, rfl⟩))
          rw [sw_cons] at this
          omega⟩
        rw [this]
        show some (w p.1 + sw w l) = some m
        rw [eu]
    · intro x hx
      unfold sms at hx
      rcases List.mem_append.mp hx with h | h
      · split at h
        · rename_i z
          rw [List.mem_singleton.mp h, ← sw_nil w]
          exact mx _ ((mem_wd hU hv).mpr (.inl ⟨z, rfl⟩))
        · cases h
      · obtain ⟨p, hp, e⟩ := List.mem_filterMap.mp h
        obtain ⟨b, e1, e2⟩ := Option.map_eq_some_iff.mp e
        obtain ⟨⟨l, hl, el⟩, _⟩ := bw_some.mp e1
        have := mx _ ((mem_wd hU hv).mpr (.inr ⟨p, hp, l, hl, rfl⟩))
        rw [sw_cons, el, e2] at this
        exact this
/-- the first word of a sum -/
def fst (w : Nat → Int) (b : Int) (L : List (List Nat)) : Option (List Nat) := L.find? fun u => decide (sw w u = b)
theorem fst_none {b : Int} {L : List (List Nat)} (h : ∀ u ∈ L, sw w u ≠ b) : fst w b L = none := List.find?_eq_none.mpr fun u hu z => h u hu (of_decide_eq_true z)
theorem fst_mem {b : Int} {L : List (List Nat)} {u : List Nat} (h : fst w b L = some u) : u ∈ L ∧ sw w u = b := ⟨List.mem_of_find?_eq_some h, of_decide_eq_true (List.find?_some (p := fun u => decide (sw w u = b)) h)⟩
theorem fst_some {b : Int} {L : List (List Nat)} {u : List Nat} (h : u ∈ L) (e : sw w u = b) : ∃ x, fst w b L = some x := by
  cases q : fst w b L with
  | some x => exact ⟨x, rfl⟩
  | none =>
    have := List.find?_eq_none.mp q u h
    exact absurd (decide_eq_true e) this
theorem fst_app (b : Int) (L M : List (List Nat)) : fst w b (L ++ M) = (fst w b L).or (fst w b M) := List.find?_append
theorem fst_cons (b : Int) (c : Nat) : ∀ L : List (List Nat), fst w b (L.map fun l => c :: l) = (fst w (b - w c) L).map fun l => c :: l
  | [] => rfl
  | l :: L => by
    have ih := fst_cons b c L
    unfold fst at ih ⊢
    rw [List.map_cons, List.find?_cons, List.find?_cons, ih, sw_cons]
    by_cases z : sw w l = b - w c
    · rw [decide_eq_true z, decide_eq_true (show w c + sw w l = b by omega)]
      rfl
    · rw [decide_eq_false z, decide_eq_false (fun y => z (by omega))]
theorem fst_child {b : Int} {p : Nat × Nat} (mx : ∀ l ∈ wd R E p.2, w p.1 + sw w l ≤ b) : fst w b ((wd R E p.2).map fun l => p.1 :: l) = if bw w R E p.2 = some (b - w p.1) then (fst w (b - w p.1) (wd R E p.2)).map fun l => p.1 :: l else none := by
  rw [fst_cons]
  split
  · rfl
  · rename_i z
    rw [fst_none]
    · rfl
    · intro u hu e
      exact z (bw_some.mpr ⟨⟨u, hu, e⟩, fun x hx => by have := mx x hx; omega⟩)
end
end PT

end
section
namespace DL
open PySem L2 PT
/-! ### min of a list of numbers or none; sorted({.. for .. for ..}) evaluated -/
def onD : Option Nat → D
  | some m => ni m
  | none => .non
end DL

end
section
namespace LW
open PySem DL PT
/-! ### the best word of a graph -/
theorem intsD_int : ∀ xs : List Int, intsD (xs.map D.int) = some xs
  | [] => rfl
  | x :: xs => by
    show (intsD (xs.map D.int)).map (fun l => x :: l) = _
    rw [intsD_int xs]
    rfl
theorem maxN_int (xs : List Int) : maxND [.lst (xs.map D.int)] = some (optI xs.max?) := by
  show (intsD (xs.map D.int)).map (fun ns => optI ns.max?) = _
  rw [intsD_int]
  rfl
def bsI (w : Nat → Int) (R : List (List (Nat × Nat))) (E : List Bool) (i : Nat) : List D := (List.range R.length).map fun v => if R.length - i ≤ v then optI (bw w R E v) else .non
theorem bsI_len (w : Nat → Int) (R : List (List (Nat × Nat))) (E : List Bool) (i : Nat) : (bsI w R E i).length = R.length := by unfold bsI; rw [List.length_map, List.length_range]
theorem bsI_get {w : Nat → Int} {R : List (List (Nat × Nat))} {E : List Bool} {i v : Nat} (hv : v < R.length) : (bsI w R E i)[v]? = some (if R.length - i ≤ v then optI (bw w R E v) else .non) := map_get _ _ _ hv
theorem bsI_set {w : Nat → Int} {R : List (List (Nat × Nat))} {E : List Bool} {i : Nat} (hi : i < R.length) : (bsI w R E i).set (R.length - 1 - i) (optI (bw w R E (R.length - 1 - i))) = bsI w R E (i + 1) := by
  apply List.ext_getElem?
  intro v
  by_cases hv : v < R.length
  · rw [bsI_get hv]
    by_cases z : v = R.length - 1 - i
    · subst z
      rw [List.getElem?_set_self (by rw [bsI_len]; omega), if_pos (by omega)]
    · rw [List.getElem?_set_ne (fun y => z y.symm), bsI_get hv]
      by_cases y : R.length - i ≤ v
      · rw [if_pos y, if_pos (by omega)]
      · rw [if_neg y, if_neg (by omega)]
  · rw [List.getElem?_eq_none (by rw [List.length_set, bsI_len]; omega), List.getElem?_eq_none (by rw [bsI_len]; omega)]
abbrev bfI : DL.Env → DL.R Fl := (ifS (withEnv (tst (bin notN2 (bin ixD (gAny 2) (gAny 6)) (kc .non)))) (appS 4 (bin plusD (bin dgetD (gAny 1) (gAny 5)) (bin ixD (gAny 2) (gAny 6)))) skipS)
abbrev bfT : D → DL.Env → DL.R DL.Env := gTupD 2 (gsCons (gSet 5) (gsCons (gSet 6) gsNil))
theorem bf_kids {w : Nat → Int} {R : List (List (Nat × Nat))} {E : List Bool} {wD : D} {i v : Nat} : ∀ (L : List (Nat × Nat)) (xs : List Int) (s5 s6 : DL.Slot), (∀ p ∈ L, R.length - i ≤ p.2 ∧ p.2 < R.length ∧ dgetD wD (tx [p.1]) = some (.int (w p.1))) → xs.length + L.length ≤ 900000 → isOwn (some s5) = false → isOwn (some s6) = false →
    ∃ y5 y6, isOwn (some y5) = false ∧ isOwn (some y6) = false ∧ forD bfT bfI (L.map fun p => .tup [tx [p.1], ni p.2]) [.sh (gD R E), .sh wD, .own (.lst (bsI w R E i)), .sh (ni v), .own (.lst (xs.map D.int)), s5, s6] = .ok (.nx [.sh (gD R E), .sh wD, .own (.lst (bsI w R E i)), .sh (ni v), .own (.lst ((xs ++ smsOf w R E L).map D.int)), y5, y6])
  | [], xs, s5, s6, _, _, n5, n6 => ⟨s5, s6, n5, n6, by
    show _ = DL.R.ok (Fl.nx [.sh (gD R E), .sh wD, .own (.lst (bsI w R E i)), .sh (ni v), .own (.lst ((xs ++ []).map D.int)), s5, s6])
    rw [List.append_nil]
    rfl⟩
  | p :: L, xs, s5, s6, hL, hl, n5, n6 => by
    obtain ⟨p1, p2, p3⟩ := hL p List.mem_cons_self
    have g1 : (bsI w R E i)[p.2]? = some (optI (bw w R E p.2)) := by rw [bsI_get p2, if_pos p1]
    have g : bfT (.tup [tx [p.1], ni p.2]) [.sh (gD R E), .sh wD, .own (.lst (bsI w R E i)), .sh (ni v), .own (.lst (xs.map D.int)), s5, s6] = .ok [.sh (gD R E), .sh wD, .own (.lst (bsI w R E i)), .sh (ni v), .own (.lst (xs.map D.int)), .sh (tx [p.1]), .sh (ni p.2)] := by wide_open with ((), DL.eq_non)
    rw [List.length_cons] at hl
    rw [List.map_cons]
    unfold forD
    rw [g]
    simp only [bind_ok]
    have hL' : ∀ q ∈ L, _ := fun q hq => hL q (List.mem_cons_of_mem _ hq)
    cases q : bw w R E p.2 with
    | none =>
      rw [q] at g1
      obtain ⟨y5, y6, m5, m6, e⟩ := bf_kids (w := w) (R := R) (E := E) (wD := wD) (i := i) (v := v) L xs (.sh (tx [p.1])) (.sh (ni p.2)) hL' (by omega) rfl rfl
      refine ⟨y5, y6, m5, m6, ?_⟩
      have es : smsOf w R E (p :: L) = smsOf w R E L := by unfold smsOf; rw [List.filterMap_cons_none (by rw [q]; rfl)]
      rw [es]
      have g1 : (bsI w R E i)[p.2]? = some .non := g1
      generalize bsI w R E i = B at g1 e ⊢
      have b : bfI [.sh (gD R E), .sh wD, .own (.lst B), .sh (ni v), .own (.lst (xs.map D.int)), .sh (tx [p.1]), .sh (ni p.2)] = .ok (.nx [.sh (gD R E), .sh wD, .own (.lst B), .sh (ni v), .own (.lst (xs.map D.int)), .sh (tx [p.1]), .sh (ni p.2)]) := by wide_open with ((), g1)
      rw [b]
      exact e
    | some m =>
      rw [q] at g1
      obtain ⟨y5, y6, m5, m6, e⟩ := bf_kids (w := w) (R := R) (E := E) (wD := wD) (i := i) (v := v) L (xs ++ [w p.1 + m]) (.sh (tx [p.1])) (.sh (ni p.2)) hL' (by rw [List.length_append, List.length_singleton]; omega) rfl rfl
      refine ⟨y5, y6, m5, m6, ?_⟩
      have es : smsOf w R E (p :: L) = (w p.1 + m) :: smsOf w R E L := by unfold smsOf; rw [List.filterMap_cons_some (b := w p.1 + m) (by rw [q]; rfl)]
      rw [es]
      rw [List.append_assoc] at e
      have g1 : (bsI w R E i)[p.2]? = some (.int m) := g1
      have lx : (xs.map D.int).length < 1000000 := by rw [List.length_map]; omega
      have ma : (xs ++ [w p.1 + m]).map D.int = xs.map D.int ++ [.int (w p.1 + m)] := by rw [List.map_append]; rfl
      rw [ma] at e
      generalize bsI w R E i = B at g1 e ⊢
      generalize xs.map D.int = XS at lx e ⊢
      have b : bfI [.sh (gD R E), .sh wD, .own (.lst B), .sh (ni v), .own (.lst XS), .sh (tx [p.1]), .sh (ni p.2)] = .ok (.nx [.sh (gD R E), .sh wD, .own (.lst B), .sh (ni v), .own (.lst (XS ++ [.int (w p.1 + m)])), .sh (tx [p.1]), .sh (ni p.2)]) := by wide_open with ((), g1, p3, lx)
      rw [b]
      exact e
abbrev bfO : DL.Env → DL.R Fl := (seqS (setO 4 (ifV (tru (bin ixD (un1 (fldD "ends") (gSh 0)) (gAny 3))) (mkL (aCons (kc (.int 0)) aNil)) (mkL aNil))) (seqS (forS (withEnv (itX itemsD (bin ixD (un1 (fldD "arrows") (gSh 0)) (gAny 3)))) (gTupD 2 (gsCons (gSet 5) (gsCons (gSet 6) gsNil))) (ifS (withEnv (tst (bin notN2 (bin ixD (gAny 2) (gAny 6)) (kc .non)))) (appS 4 (bin plusD (bin dgetD (gAny 1) (gAny 5)) (bin ixD (gAny 2) (gAny 6)))) skipS)) (itmS 2 (gAny 3) (appN maxND (aCons (gAny 4) aNil)))))
abbrev bsE (w : Nat → Int) (R : List (List (Nat × Nat))) (E : List Bool) : List D := (List.range R.length).map fun v => optI (bw w R E v)
theorem best_from_ok {w : Nat → Int} {R : List (List (Nat × Nat))} {E : List Bool} {wD : D} (hU : Up R) (hE : E.length = R.length) (hl : R.length ≤ 1000) (hr : ∀ v, (R.getD v []).length ≤ 1000) (hw : ∀ v, ∀ p ∈ R.getD v [], dgetD wD (tx [p.1]) = some (.int (w p.1))) : F_best_from [gD R E, wD] = .ok (.lst (bsE w R E)) := by
  obtain ⟨⟨B, s4, s5, s6⟩, y3, e, ⟨h1, _⟩, n⟩ := for_run (b := bfO) (g := gSet 3) (τ := List D × DL.Slot × DL.Slot × DL.Slot) (fun i => ni (R.length - 1 - i)) (fun t s => [.sh (gD R E), .sh wD, .own (.lst t.1), s, t.2.1, t.2.2.1, t.2.2.2]) (fun j t => t.1 = bsI w R E j ∧ isOwn (some t.2.2.1) = false ∧ isOwn (some t.2.2.2) = false) (List.range R.length) (bsI w R E 0, .un, .un, .un) .un (fun _ _ _ => rfl) ⟨rfl, rfl, rfl⟩ rfl fun j i t ej ht => by
      obtain ⟨B, s4, s5, s6⟩ := t
      obtain ⟨ht, n5, n6⟩ := ht
      have ht : B = bsI w R E j := ht
      subst ht
      have hj : j < R.length := by have := (List.getElem?_eq_some_iff.mp ej).1; rwa [List.length_range] at this
      have ei : i = j := by rw [List.getElem?_range hj] at ej; exact (Option.some.inj ej).symm
      subst ei
      generalize hv : R.length - 1 - i = v
      have hvl : v < R.length := by omega
      have ra := row_at hvl
      have ea := end_at (E := E) (v := v) (by omega)
      have ga := gA_eq (R.map rwD) (E.map D.bl)
      have ge := gE_eq (R.map rwD) (E.map D.bl)
      have it := items_rw (R.getD v [])
      have rcc := bw_rec (w := w) (E := E) hU hvl
      have bl := bsI_len w R E i
      have st := bsI_set (w := w) (E := E) hj
      rw [hv] at st
      have ix : L2.ixN (bsI w R E i).length (v : Int) = some v := by
        unfold L2.ixN
        rw [bl, if_pos (Int.natCast_nonneg v), if_pos (by omega)]
        rfl
      have hrv := hr v
      obtain ⟨x0, ex0, lx0⟩ : ∃ x0 : List Int, x0 = (if E.getD v false = true then [0] else []) ∧ x0.length ≤ 1 := ⟨_, rfl, by split <;> simp⟩
      obtain ⟨y5, y6, m5, m6, e⟩ := bf_kids (w := w) (R := R) (E := E) (wD := wD) (i := i) (v := v) (R.getD v []) x0 s5 s6 (fun p hp => by
        obtain ⟨u1, u2⟩ := hU v p hp
        exact ⟨by omega, u2, hw v p hp⟩) (by omega) n5 n6
      have mx := maxN_int (x0 ++ smsOf w R E (R.getD v []))
      have rcc : (x0 ++ smsOf w R E (R.getD v [])).max? = bw w R E v := by rw [ex0]; exact rcc
      rw [rcc] at mx
      have i0 : setO 4 (ifV (tru (bin ixD (un1 (fldD "ends") (gSh 0)) (gAny 3))) (mkL (aCons (kc (.int 0)) aNil)) (mkL aNil)) [.sh (gD R E), .sh wD, .own (.lst (bsI w R E i)), .sh (ni v), s4, s5, s6] = .ok (.nx [.sh (gD R E), .sh wD, .own (.lst (bsI w R E i)), .sh (ni v), .own (.lst (x0.map D.int)), s5, s6]) := by
        generalize bsI w R E i = B
        cases q : E.getD v false with
        | true =>
          rw [q] at ea ex0
          have ex0 : x0 = [0] := ex0
          subst ex0
          wide_open with ((), ge, ea, List.map_cons)
        | false =>
          rw [q] at ea ex0
          have ex0 : x0 = [] := ex0
          subst ex0
          wide_open with ((), ge, ea)
      refine ⟨(bsI w R E (i + 1), .own (.lst ((x0 ++ smsOf w R E (R.getD v [])).map D.int)), y5, y6), ?_, rfl, m5, m6⟩
      show bfO [.sh (gD R E), .sh wD, .own (.lst (bsI w R E i)), .sh (ni v), s4, s5, s6] = .ok (.nx [.sh (gD R E), .sh wD, .own (.lst (bsI w R E (i + 1))), .sh (ni v), .own (.lst ((x0 ++ smsOf w R E (R.getD v [])).map D.int)), y5, y6])
      rw [← st]
      refine seq_nx i0 (seq_nx (for_p (items := (R.getD v []).map fun p => .tup [tx [p.1], ni p.2]) ?_ e) ?_)
      · generalize bsI w R E i = B
        wide_open with ((), ga, ra, it)
      · generalize (x0 ++ smsOf w R E (R.getD v [])).map D.int = YS at mx ⊢
        generalize optI (bw w R E v) = o at mx ⊢
        generalize bsI w R E i = B at ix ⊢
        wide_open with ((), mx, ix)
  rw [List.length_range] at h1
  have h1 : B = bsI w R E R.length := h1
  have z0 : (List.replicate R.length (.non) : List D) = bsI w R E 0 := by
    apply List.ext_getElem?
    intro v
    by_cases hv : v < R.length
    · rw [List.getElem?_replicate, if_pos hv, bsI_get hv, if_neg (by omega)]
    · rw [List.getElem?_eq_none (by rw [List.length_replicate]; omega), List.getElem?_eq_none (by rw [bsI_len]; omega)]
  have eE : bsI w R E R.length = bsE w R E := by
    unfold bsI
    refine List.map_congr_left fun v _ => ?_
    rw [if_pos (by omega)]
  rw [h1, eE] at e
  have rv := rev_items (n := R.length) (by omega)
  have ga := gA_eq (R.map rwD) (E.map D.bl)
  have ln : lenD [.lst (R.map rwD)] = some (ni R.length) := by simp [len_lst]
  refine fnD_rt (r1 := [.sh (gD R E), .sh wD, .sh (.lst (bsE w R E)), y3, s4, s5, s6]) rfl (show b_best_from [.sh (gD R E), .sh wD, .un, .un, .un, .un, .un] = _ from ?_)
  unfold b_best_from
  have e : forD (gSet 3) bfO ((List.range R.length).map fun i => ni (R.length - 1 - i)) [.sh (gD R E), .sh wD, .own (.lst (bsI w R E 0)), .un, .un, .un, .un] = _ := e
  rw [← z0] at e
  generalize bsE w R E = BE at e ⊢
  refine seq_nx (r1 := [.sh (gD R E), .sh wD, .own (.lst (List.replicate R.length .non)), .un, .un, .un, .un]) (by wide_open with ((), ga, ln)) (seq_nx (for_p (items := (List.range R.length).map fun i => ni (R.length - 1 - i)) ?_ e) (by wide_open with ((), DL.eq_non)))
  generalize List.replicate R.length D.non = RP
  wide_open with ((), ga, ln, rv)
/-! ### best_word -/
abbrev bwB : DL.Env → DL.R Fl := (ifS (withEnv (andB (tst (bin notN2 (bin ixD (gAny 2) (gAny 6)) (kc .non))) (tst (bin eqD (bin plusD (bin dgetD (gAny 1) (gAny 5)) (bin ixD (gAny 2) (gAny 6))) (bin ixD (gAny 2) (gAny 3)))))) (seqS (setS 3 (withEnv (gSh 6))) (seqS (augS 4 addSD (gAny 5)) brkS)) skipS)
theorem bsE_get {w : Nat → Int} {R : List (List (Nat × Nat))} {E : List Bool} {v : Nat} (hv : v < R.length) : (bsE w R E)[v]? = some (optI (bw w R E v)) := map_get _ _ _ hv
theorem bwk_kids {w : Nat → Int} {R : List (List (Nat × Nat))} {E : List Bool} {wD : D} {v : Nat} {b : Int} (hv : v < R.length) (hb : bw w R E v = some b) (x : List Nat) (hx : x.length ≤ 900) : ∀ (L : List (Nat × Nat)) (u : List Nat) (s5 s6 : DL.Slot), (∀ p ∈ L, p.2 < R.length ∧ dgetD wD (tx [p.1]) = some (.int (w p.1)) ∧ ∀ l ∈ wd R E p.2, w p.1 + sw w l ≤ b) → fst w b (L.flatMap fun p => (wd R E p.2).map fun l => p.1 :: l) = some u →
    ∃ p l, p ∈ L ∧ u = p.1 :: l ∧ bw w R E p.2 = some (b - w p.1) ∧ fst w (b - w p.1) (wd R E p.2) = some l ∧ forD bfT bwB (L.map fun p => .tup [tx [p.1], ni p.2]) [.sh (gD R E), .sh wD, .sh (.lst (bsE w R E)), .sh (ni v), .sh (tx x), s5, s6] =
      .ok (.nx [.sh (gD R E), .sh wD, .sh (.lst (bsE w R E)), .sh (ni p.2), .sh (tx (x ++ [p.1])), .sh (tx [p.1]), .sh (ni p.2)])
  | [], u, s5, s6, _, h => by cases h
  | p :: L, u, s5, s6, hL, h => by
    obtain ⟨p2, p3, p4⟩ := hL p List.mem_cons_self
    have gv := bsE_get (w := w) (E := E) hv
    rw [hb] at gv
    have gv : (bsE w R E)[v]? = some (.int b) := gv
    have g1 := bsE_get (w := w) (E := E) p2
    have g : bfT (.tup [tx [p.1], ni p.2]) [.sh (gD R E), .sh wD, .sh (.lst (bsE w R E)), .sh (ni v), .sh (tx x), s5, s6] = .ok [.sh (gD R E), .sh wD, .sh (.lst (bsE w R E)), .sh (ni v), .sh (tx x), .sh (tx [p.1]), .sh (ni p.2)] := by wide_open with ((), DL.eq_non)
    rw [List.flatMap_cons, fst_app, fst_child p4] at h
    rw [List.map_cons]
    unfold forD
    rw [g]
    simp only [bind_ok]
    by_cases z : bw w R E p.2 = some (b - w p.1)
    · rw [if_pos z] at h
      obtain ⟨⟨l0, hl0, el0⟩, _⟩ := bw_some.mp z
      obtain ⟨l, el⟩ := fst_some hl0 el0
      rw [el] at h
      have h : u = p.1 :: l := (Option.some.inj h).symm
      refine ⟨p, l, List.mem_cons_self, h, z, el, ?_⟩
      rw [z] at g1
      have g1 : (bsE w R E)[p.2]? = some (.int (b - w p.1)) := g1
      have z1 : decide (w p.1 + (b - w p.1) = b) = true := decide_eq_true (by omega)
      have ad := addS_tx (l := x) (m := [p.1]) (by omega) (by simp)
      generalize bsE w R E = B at g1 gv ⊢
      have b : bwB [.sh (gD R E), .sh wD, .sh (.lst B), .sh (ni v), .sh (tx x), .sh (tx [p.1]), .sh (ni p.2)] = .ok (.bk [.sh (gD R E), .sh wD, .sh (.lst B), .sh (ni p.2), .sh (tx (x ++ [p.1])), .sh (tx [p.1]), .sh (ni p.2)]) := by wide_open with ((), g1, gv, p3, z1, ad)
      rw [b]
      rfl
    · rw [if_neg z] at h
      have h : fst w b (L.flatMap fun p => (wd R E p.2).map fun l => p.1 :: l) = some u := h
      obtain ⟨q, l, q1, q2, q3, q4, e⟩ := bwk_kids hv hb x hx L u (.sh (tx [p.1])) (.sh (ni p.2)) (fun q hq => hL q (List.mem_cons_of_mem _ hq)) h
      refine ⟨q, l, List.mem_cons_of_mem _ q1, q2, q3, q4, ?_⟩
      cases y : bw w R E p.2 with
      | none =>
        rw [y] at g1
        have g1 : (bsE w R E)[p.2]? = some .non := g1
        generalize bsE w R E = B at g1 gv e ⊢
        have b : bwB [.sh (gD R E), .sh wD, .sh (.lst B), .sh (ni v), .sh (tx x), .sh (tx [p.1]), .sh (ni p.2)] = .ok (.nx [.sh (gD R E), .sh wD, .sh (.lst B), .sh (ni v), .sh (tx x), .sh (tx [p.1]), .sh (ni p.2)]) := by wide_open with ((), g1)
        rw [b]
        exact e
      | some m =>
        rw [y] at g1 z
        have g1 : (bsE w R E)[p.2]? = some (.int m) := g1
        have z1 : decide (w p.1 + m = b) = false := decide_eq_false fun k => z (congrArg some (by omega))
        generalize bsE w R E = B at g1 gv e ⊢
        have b : bwB [.sh (gD R E), .sh wD, .sh (.lst B), .sh (ni v), .sh (tx x), .sh (tx [p.1]), .sh (ni p.2)] = .ok (.nx [.sh (gD R E), .sh wD, .sh (.lst B), .sh (ni v), .sh (tx x), .sh (tx [p.1]), .sh (ni p.2)]) := by wide_open with ((), g1, gv, p3, z1)
        rw [b]
        exact e
abbrev bwC : DL.Env → DL.R (Bool × DL.Env) := (withEnv (orB (tst (bin neD (bin ixD (gAny 2) (gAny 3)) (kc (.int 0)))) (notB (tru (bin ixD (un1 (fldD "ends") (gSh 0)) (gAny 3))))))
abbrev bwL : DL.Env → DL.R Fl := (forS (withEnv (itX itemsD (bin ixD (un1 (fldD "arrows") (gSh 0)) (gAny 3)))) (gTupD 2 (gsCons (gSet 5) (gsCons (gSet 6) gsNil))) (ifS (withEnv (andB (tst (bin notN2 (bin ixD (gAny 2) (gAny 6)) (kc .non))) (tst (bin eqD (bin plusD (bin dgetD (gAny 1) (gAny 5)) (bin ixD (gAny 2) (gAny 6))) (bin ixD (gAny 2) (gAny 3)))))) (seqS (setS 3 (withEnv (gSh 6))) (seqS (augS 4 addSD (gAny 5)) brkS)) skipS))
theorem best_word_ok {w : Nat → Int} {R : List (List (Nat × Nat))} {E : List Bool} {wD : D} (hU : Up R) (hE : E.length = R.length) (h0 : 0 < R.length) (hl : R.length ≤ 900) (hr : ∀ v, (R.getD v []).length ≤ 1000) (hw : ∀ v, ∀ p ∈ R.getD v [], dgetD wD (tx [p.1]) = some (.int (w p.1))) {b : Int} {g : List Nat} (hb : bw w R E 0 = some b) (hg : fst w b (wd R E 0) = some g) : F_best_word [gD R E, wD] = .ok (tx g) := by
  have bf := best_from_ok hU hE (by omega) hr hw
  have ga := gA_eq (R.map rwD) (E.map D.bl)
  have ge := gE_eq (R.map rwD) (E.map D.bl)
  obtain ⟨r', e, s3, s5, s6, er⟩ := whl_inv (c := bwC) (b := bwL)
    (fun m r => ∃ (v : Nat) (c : Int) (x u : List Nat) (s5 s6 : DL.Slot), r = [.sh (gD R E), .sh wD, .sh (.lst (bsE w R E)), .sh (ni v), .sh (tx x), s5, s6] ∧ v < R.length ∧ x.length ≤ v ∧ bw w R E v = some c ∧ fst w c (wd R E v) = some u ∧ g = x ++ u ∧ m = R.length - v)
    (fun r => ∃ (s3 s5 s6 : DL.Slot), r = [.sh (gD R E), .sh wD, .sh (.lst (bsE w R E)), s3, .sh (tx g), s5, s6])
    (fun m r ⟨v, c, x, u, s5, s6, er, hv, hx, hc, hu, hgx, hm⟩ => by
      subst er
      have ra := row_at hv
      have ea := end_at (E := E) (v := v) (by omega)
      have we := wd_eq (E := E) hU hv
      have gv := bsE_get (w := w) (E := E) hv
      rw [hc] at gv
      have gv : (bsE w R E)[v]? = some (.int c) := gv
      obtain ⟨_, mx⟩ := bw_some.mp hc
      have kl : ∀ p ∈ R.getD v [], p.2 < R.length ∧ dgetD wD (tx [p.1]) = some (.int (w p.1)) ∧ ∀ l ∈ wd R E p.2, w p.1 + sw w l ≤ c := fun p hp => ⟨(hU v p hp).2, hw v p hp, fun l hl => by
        have := mx _ ((mem_wd hU hv).mpr (.inr ⟨p, hp, l, hl, rfl⟩))
        rw [sw_cons] at this
        exact this⟩
      by_cases stop : c = 0 ∧ E.getD v false = true
      · obtain ⟨c0, ev⟩ := stop
        rw [ev] at ea
        rw [we, if_pos ev, c0] at hu
        have hu : some [] = some u := hu
        have hu := Option.some.inj hu
        subst hu
        rw [List.append_nil] at hgx
        subst hgx
        rw [c0] at gv
        have cnd : bwC [.sh (gD R E), .sh wD, .sh (.lst (bsE w R E)), .sh (ni v), .sh (tx g), s5, s6] = .ok (false, [.sh (gD R E), .sh wD, .sh (.lst (bsE w R E)), .sh (ni v), .sh (tx g), s5, s6]) := by
          generalize bsE w R E = B at gv ⊢
          have d0 : decide ((0 : Int) = 0) = true := rfl
          wide_open with ((), gv, d0, ge, ea)
        exact .inl ⟨_, cnd, _, _, _, rfl⟩
      · have cnd : bwC [.sh (gD R E), .sh wD, .sh (.lst (bsE w R E)), .sh (ni v), .sh (tx x), s5, s6] = .ok (true, [.sh (gD R E), .sh wD, .sh (.lst (bsE w R E)), .sh (ni v), .sh (tx x), s5, s6]) := by
          generalize bsE w R E = B at gv ⊢
          by_cases c0 : c = 0
          · have ev : E.getD v false = false := by
              cases q : E.getD v false with
              | false => rfl
              | true => exact absurd ⟨c0, q⟩ stop
            rw [ev] at ea
            have d0 : decide ((0 : Int) = 0) = true := rfl
            rw [c0] at gv
            wide_open with ((), gv, d0, ge, ea)
          · have d0 : decide (c = 0) = false := decide_eq_false c0
            wide_open with ((), gv, d0)
        have hk : fst w c ((R.getD v []).flatMap fun p => (wd R E p.2).map fun l => p.1 :: l) = some u := by
          rw [we, fst_app] at hu
          by_cases ev : E.getD v false = true
          · rw [if_pos ev] at hu
            have : fst w c [[]] = none := fst_none fun y hy ey => stop ⟨by rw [List.mem_singleton.mp hy, sw_nil] at ey; exact ey.symm, ev⟩
            rw [this] at hu
            exact hu
          · rw [if_neg ev] at hu
            exact hu
        obtain ⟨p, l, p1, p2, p3, p4, e⟩ := bwk_kids (R := R) (E := E) (wD := wD) hv hc x (by omega) (R.getD v []) u s5 s6 kl hk
        have it := items_rw (R.getD v [])
        refine .inr ⟨_, _, R.length - p.2, cnd, (?_ : bwL _ = .ok (.nx [.sh (gD R E), .sh wD, .sh (.lst (bsE w R E)), .sh (ni p.2), .sh (tx (x ++ [p.1])), .sh (tx [p.1]), .sh (ni p.2)])), ?_, p.2, _, x ++ [p.1], l, _, _, rfl, (hU v p p1).2, ?_, p3, p4, ?_, rfl⟩
        · refine for_p (items := (R.getD v []).map fun p => .tup [tx [p.1], ni p.2]) ?_ e
          generalize bsE w R E = B
          wide_open with ((), ga, ra, it)
        · have := hU v p p1; omega
        · have := hU v p p1; rw [List.length_append, List.length_singleton]; omega
        · rw [hgx, p2, List.append_assoc]; rfl)
    100000 (R.length - 0) [.sh (gD R E), .sh wD, .sh (.lst (bsE w R E)), .sh (ni 0), .sh (tx []), .un, .un] (by omega) ⟨0, b, [], g, .un, .un, rfl, h0, Nat.le_refl _, hb, hg, rfl, rfl⟩
  subst er
  have g0 := bsE_get (w := w) (E := E) h0
  rw [hb] at g0
  have g0 : (bsE w R E)[0]? = some (.int b) := g0
  have e' : whlD bwC bwL 100000 [.sh (gD R E), .sh wD, .sh (.lst (bsE w R E)), .sh (.int 0), .sh (.str ""), .un, .un] = _ := e
  refine fnD_rt (r1 := [.sh (gD R E), .sh wD, .sh (.lst (bsE w R E)), s3, .sh (tx g), s5, s6]) rfl (show b_best_word [.sh (gD R E), .sh wD, .un, .un, .un, .un, .un] = _ from ?_)
  unfold b_best_word
  generalize bsE w R E = B at bf g0 e' ⊢
  wide_open with ((), bf, g0, e')
theorem best_word_no {w : Nat → Int} {R : List (List (Nat × Nat))} {E : List Bool} {wD : D} (hU : Up R) (hE : E.length = R.length) (h0 : 0 < R.length) (hl : R.length ≤ 900) (hr : ∀ v, (R.getD v []).length ≤ 1000) (hw : ∀ v, ∀ p ∈ R.getD v [], dgetD wD (tx [p.1]) = some (.int (w p.1))) (hn : wd R E 0 = []) : F_best_word [gD R E, wD] = .ok .non := by
  have bf := best_from_ok hU hE (by omega) hr hw
  have g0 := bsE_get (w := w) (E := E) h0
  rw [bw_none.mpr hn] at g0
  have g0 : (bsE w R E)[0]? = some .non := g0
  refine fnD_rt (r1 := [.sh (gD R E), .sh wD, .sh (.lst (bsE w R E)), .un, .un, .un, .un]) rfl (show b_best_word [.sh (gD R E), .sh wD, .un, .un, .un, .un, .un] = _ from ?_)
  unfold b_best_word
  generalize bsE w R E = B at bf g0 ⊢
  wide_open with ((), bf, g0)
end LW

end
section
namespace LW
open PySem DL PT
theorem W_film {f g : List Nat} (hf : Film f) (h : 0 < W g f) : Film g := by
  have s := W_sub h
  refine ⟨?_, by have := s.length_le; have := hf.2.1; omega, fun c hc => hf.2.2 c (s.subset hc)⟩
  intro z
  subst z
  have : ¬ 0 < W [] f := by
    show ¬ 0 < (if f = [] then 1 else 0)
    rw [if_neg hf.1]
    omega
  exact this h
/-! ranks of films that are none -/
end LW

end
section
namespace LW
open PySem DL PT
/-! how many words of each length -/
def mvRow (ts : List Nat) : List (Nat × Nat) := (ddI (ts.map fun k => ((k : Nat) : Int))).map fun k => (k.toNat, (ts.map fun k => ((k : Nat) : Int)).count k)
abbrev mwA : DL.Env → DL.R Fl := itmA 6 (intOp (fun _ _ => true) fun i j => i + j) (gAny 9) (bin mulD (gAny 8) (gAny 10))
abbrev mwB : DL.Env → DL.R Fl := (ifS (withEnv (tst (bin gtD (gAny 8) (kc (.int 0))))) (forS (withEnv (itX zD (bin ixD (gAny 4) (gAny 7)))) (gTupD 2 (gsCons (gSet 9) (gsCons (gSet 10) gsNil))) mwA) skipS)
abbrev mwD (M : List (List (Nat × Nat))) : List D := M.map fun L => .lst (L.map fun p => .tup [ni p.1, ni p.2])
abbrev mwC : DL.Env → DL.R Fl := (seqS (setO 6 (bin repD (mkL (aCons (kc (.int 0)) aNil)) (appN lenD (aCons (gAny 3) aNil)))) (frzS 3 (seqS (forS (withEnv (itN enD (aCons (gSh 3) aNil))) (gTupD 2 (gsCons (gSet 7) (gsCons (gSet 8) gsNil))) mwB) (frzS 6 (seqS (setS 3 (withEnv (gSh 6))) (appS 2 (appN sumD (aCons (lcD [("node", 7), ("many", 8)] (itN enD (aCons (gSh 3) aNil)) (gTupD 2 (gsCons (gSet 7) (gsCons (gSet 8) gsNil))) (tru (bin ixD (un1 (fldD "ends") (gSh 0)) (gAny 7))) (gSh 8)) aNil))))))))
end LW

end
section
namespace LW
open PySem DL PT
/-! a graph with some letters alone; letters checked -/
theorem letter_ok {c : Nat} (h : 97 ≤ c ∧ c ≤ 104) : F_check_letter [tx [c]] = .ok .non := by
  refine fnD_nx (r1 := [.sh (tx [c])]) rfl (show b_check_letter [.sh (tx [c])] = _ from ?_)
  unfold b_check_letter
  wide_open with ((), is_letter_ok h)
theorem check_letters_ok {L : List Nat} (h8 : Lt L) (hk : kd L = L) : F_check_letters [tx L] = .ok .non := by
  have hl : L.length ≤ 8 := by rw [← hk]; exact kd_le L
  have z1 : decide ((8 : Int) < (L.length : Int)) = false := decide_eq_false (by omega)
  have l8 : lenD [.str "abcdefgh"] = some (.int 8) := (rfl)
  have ss := srtSet_tx h8 (by omega)
  rw [hk] at ss
  have jn := jn_signs (g := L) (by omega)
  have dd : decide (L = L) = true := decide_eq_true rfl
  obtain ⟨s1, e, _⟩ := for_no (b := exprS (withEnv (callF 1 F_check_letter (aCons (gSh 1) aNil)))) (g := gSet 1) (fun c => tx [c]) (fun s => [.sh (tx L), s]) L .un (fun _ _ => rfl) rfl fun c hc => by
    have := letter_ok (h8 c hc)
    wide_open with ((), this)
  refine fnD_nx (r1 := [.sh (tx L), s1]) rfl (show b_check_letters [.sh (tx L), .un] = _ from ?_)
  unfold b_check_letters
  wide_open with ((), l8, z1, e, ss, jn, dd)
abbrev wlB : DL.Env → DL.R Fl := appS 2 (un1 toFz (dcD [("letter", 4), ("after", 5)] (itX itemsD (gSh 3)) (gTupD 2 (gsCons (gSet 4) (gsCons (gSet 5) gsNil))) (tst (bin (inB false) (gAny 4) (gAny 1))) (gSh 4) (gSh 5)))
end LW

end
section
namespace PT
/-! ### loops cut away as they close -/
def lgs (st : List Nat × List (List Nat)) (c : Nat) : List Nat × List (List Nat) := if c ∈ st.1 then (st.1.take (ix st.1 c + 1), st.2 ++ [st.1.drop (ix st.1 c) ++ [c]]) else (st.1 ++ [c], st.2)
def lgo : List Nat × List (List Nat) → List Nat → List Nat × List (List Nat)
  | st, [] => st
  | st, c :: l => lgo (lgs st c) l
def lgF (F : List Nat) : List Nat × List (List Nat) := lgo ([], []) F
end PT

end
section
namespace PT
/-! ### the loops of a film as cuts of it -/
def lgc : List Nat → List Nat → List (Nat × Nat)
  | _, [] => []
  | g, c :: l => if c ∈ g then (ix g c, g.length) :: lgc (g.take (ix g c + 1)) l else lgc (g ++ [c]) l
def lgl : List Nat → List Nat → List (List Nat)
  | _, [] => []
  | g, c :: l => if c ∈ g then (g.drop (ix g c) ++ [c]) :: lgl (g.take (ix g c + 1)) l else lgl (g ++ [c]) l
def lgg : List Nat → List Nat → List Nat
  | g, [] => g
  | g, c :: l => if c ∈ g then lgg (g.take (ix g c + 1)) l else lgg (g ++ [c]) l
/-! ### as many loops as blocks of more than one letter, at least -/
end PT

end
section
namespace PT
/-! ### a row of cuts has no fewer cuts than the best parting -/
/-! ### places that are kept -/
def cutAll (K : List Nat) (ps : List (Nat × Nat)) : List Nat := ps.foldl cutBy K
end PT

end
section
namespace PT
/-! ### a cut makes no more partings -/
def ups (a d : Nat) (es : List Nat) : List Nat := es.map fun e => if e < a then e else e + d
/-! a letter doubled -/
def dbl (F : List Nat) (i : Nat) : List Nat := F.take i ++ F.getD i 0 :: F.drop i
end PT

end
section
namespace PT
/-! ### mends: letters put in, left out, changed -/
section
variable (g : List Nat) (pi lo ch : Nat)
def mpe (e w : Nat → Nat) : Nat → Nat
  | 0 => e 0
  | b + 1 => min (min (e (b + 1)) (mpe e w b + pi)) (w (b + 1) + pi)
def mpw (e w : Nat → Nat) : Nat → Nat
  | 0 => w 0
  | b + 1 => min (w (b + 1)) (mpe pi e w (b + 1))
def mco (c b : Nat) : Nat := if g[b]? = some c then 0 else ch
def mne (c : Nat) (e w : Nat → Nat) : Nat → Nat
  | 0 => e 0 + lo
  | b + 1 => min (min (e b) (w (b + 1)) + mco g ch c b) (e (b + 1) + lo)
def mnw (c : Nat) (e w : Nat → Nat) : Nat → Nat
  | 0 => w 0
  | b + 1 => min (min (e b) (w (b + 1)) + mco g ch c b) (w (b + 1))
def me0 : Nat → Nat
  | 0 => 0
  | _ + 1 => 1000
def mw0 : Nat → Nat := fun _ => 1000
/-- the two rows behind the letters of A -/
def msta : List Nat → (Nat → Nat) × (Nat → Nat) := fun A => A.foldl (fun s c => (mpe pi (mne g lo ch c s.1 s.2) (mnw g ch c s.1 s.2), mpw pi (mne g lo ch c s.1 s.2) (mnw g ch c s.1 s.2))) (mpe pi me0 mw0, mpw pi me0 mw0)
def SE (A : List Nat) : Nat → Nat := (msta g pi lo ch A).1
def SW (A : List Nat) : Nat → Nat := (msta g pi lo ch A).2
end
section
variable {g : List Nat} {pi lo ch : Nat}
/-- what put-ins leave closed -/
def Clo (pi : Nat) (e w : Nat → Nat) : Prop := ∀ b, e (b + 1) ≤ e b + pi ∧ e (b + 1) ≤ w (b + 1) + pi ∧ w (b + 1) ≤ e (b + 1)
/-- a word made another one, at a price -/
inductive Al (P : Nat → Prop) (pi lo ch : Nat) : List Nat → List Nat → Nat → Prop
  | nil : Al P pi lo ch [] [] 0
  | keep {A A' : List Nat} {k : Nat} (c : Nat) (h : Al P pi lo ch A A' k) : Al P pi lo ch (A ++ [c]) (A' ++ [c]) k
  | put {A A' : List Nat} {k : Nat} (c : Nat) (hc : P c) (h : Al P pi lo ch A A' k) : Al P pi lo ch A (A' ++ [c]) (k + pi)
  | out {A A' : List Nat} {k : Nat} (c : Nat) (h : Al P pi lo ch A A' k) : Al P pi lo ch (A ++ [c]) A' (k + lo)
  | chg {A A' : List Nat} {k : Nat} (c d : Nat) (hd : P d) (h : Al P pi lo ch A A' k) : Al P pi lo ch (A ++ [c]) (A' ++ [d]) (k + ch)
/-! what comes to the goal costs nothing -/
/-- the words that stand in the block of the letter j, open -/
def Ins (g : List Nat) (j : Nat) (A : List Nat) : Prop := ∃ (U V : List Nat) (c : Nat), g[j]? = some c ∧ A = U ++ c :: V ∧ 0 < W (g.take j) U
/-! what the rows say can be done -/
def Can (g : List Nat) (pi lo ch : Nat) (A : List Nat) (e w : Nat → Nat) : Prop := ∀ j, j ≤ g.length → (e j < 1000 → ∃ A' k, k ≤ e j ∧ Al (· ∈ g) pi lo ch A A' k ∧ 0 < W (g.take j) A') ∧ (j < g.length → w (j + 1) < 1000 → ∃ A' k, k ≤ w (j + 1) ∧ Al (· ∈ g) pi lo ch A A' k ∧ Ins g j A')
end
/-- the least price -/
def dm (F g : List Nat) (pi lo ch : Nat) : Nat := SE g pi lo ch F g.length
end PT

end
section
namespace PT
/-! ### the graph of the films that come to a goal -/
def nxt (g : List Nat) (v c : Nat) : Option Nat :=
  if v % 2 = 0 ∧ g[v / 2]? = some c then some (v + 2)
  else if v = 0 then none
  else if g[(v + 1) / 2 - 1]? = some c then some (2 * ((v + 1) / 2)) else some (2 * ((v + 1) / 2) - 1)
def run (g : List Nat) : Nat → List Nat → Option Nat
  | v, [] => some v
  | v, c :: A => match nxt g v c with
    | none => none
    | some u => run g u A
section
variable {g : List Nat}
def St (g : List Nat) (A : List Nat) (v : Nat) : Prop :=
  (A = [] ∧ v = 0) ∨ ∃ b, 1 ≤ b ∧ (v = 2 * b ∨ v = 2 * b - 1) ∧ Ins g (b - 1) A ∧ (∀ j, b ≤ j → ¬ Ins g j A) ∧ (v = 2 * b ↔ A.getLast? = g[b - 1]?)
end
/-! ### words of a length in a graph -/
def wx (R : List (List (Nat × Nat))) (E : List Bool) : Nat → Nat → List (List Nat)
  | 0, v => if E.getD v false = true then [[]] else []
  | k + 1, v => (R.getD v []).flatMap fun p => (wx R E k p.2).map fun l => p.1 :: l
def aw (L : List Nat) : Nat → List (List Nat)
  | 0 => [[]]
  | k + 1 => L.flatMap fun c => (aw L k).map fun l => c :: l
def bR (g L : List Nat) : List (List (Nat × Nat)) := (List.range (2 * g.length + 1)).map fun v => L.filterMap fun c => (nxt g v c).map fun u => (c, u)
def bE (g : List Nat) : List Bool := List.replicate (2 * g.length) false ++ [true]
/-! ### unrolled -/
def urow (R : List (List (Nat × Nat))) (i : Nat) : List (Nat × Nat) := (R.getD (i % R.length) []).map fun p => (p.1, (i / R.length + 1) * R.length + p.2)
def uR (R : List (List (Nat × Nat))) (s : Nat) : List (List (Nat × Nat)) := (List.range (s * R.length)).map (urow R) ++ List.replicate R.length []
def uE (R : List (List (Nat × Nat))) (E : List Bool) (s : Nat) : List Bool := List.replicate (s * R.length) false ++ E
section
variable {R : List (List (Nat × Nat))} {E : List Bool} {s : Nat}
end
end PT

end
section
namespace LW
open PySem DL PT
/-! ### the graph of the films that come to a goal, unrolled -/
abbrev kvR (f : Nat → Nat) : List (L2.Key × D) := L8.map fun c => (.inr (mkS [c]), ni (f c))
def wrow (g : List Nat) (b c : Nat) : Nat := if c = g.getD (b - 1) 0 then 2 * b else 2 * b - 1
def arow (g : List Nat) (b c : Nat) : Nat := if g[b]? = some c then 2 * b + 2 else wrow g b c
abbrev bfB : DL.Env → DL.R Fl := (seqS (setO 4 (dcD [("letter", 7)] (itX zD (kc (.str "abcdefgh"))) (gSet 7) yesB (gSh 7) (bin subD (bin mulD (kc (.int 2)) (gAny 3)) (kc (.int 1))))) (seqS (putS 4 (bin ixD (gAny 0) (bin subD (gAny 3) (kc (.int 1)))) (bin mulD (kc (.int 2)) (gAny 3))) (seqS (setO 5 (appN dctC (aCons (gAny 4) aNil))) (seqS (ifS (withEnv (tst (bin ltD (gAny 3) (appN lenD (aCons (gAny 0) aNil))))) (putS 5 (bin ixD (gAny 0) (gAny 3)) (bin plusD (bin mulD (kc (.int 2)) (gAny 3)) (kc (.int 2)))) skipS) (frzD 4 (seqS (appS 2 (gSh 4)) (frzD 5 (appS 2 (gSh 5)))))))))
end LW

end
section
namespace LW
open PySem DL PT
/-! ### the best outcome by worths of letters; the shortest -/
def wdK (K : List Nat) (f : Nat → Int) : D := .dctF (K.map fun c => ((.inr (mkS [c]) : L2.Key), .int (f c)))
theorem get_wdK {f : Nat → Int} {d : Nat} : ∀ {K : List Nat}, d ∈ K → getD_ (K.map fun c => ((.inr (mkS [c]) : L2.Key), D.int (f c))) (.inr (mkS [d])) = some (.int (f d))
  | c :: K, h => by
    unfold getD_
    rw [List.map_cons, List.find?_cons]
    by_cases z : c = d
    · have e1 : decide ((Sum.inr (mkS [c]) : L2.Key) = Sum.inr (mkS [d])) = true := decide_eq_true (by rw [z])
      simp only [e1]
      rw [z]
      rfl
    · have e1 : decide ((Sum.inr (mkS [c]) : L2.Key) = Sum.inr (mkS [d])) = false := decide_eq_false fun w => z (sg_inj (Sum.inr.inj w))
      simp only [e1]
      exact get_wdK ((List.mem_cons.mp h).resolve_left fun y => z y.symm)
theorem dget_wdK {f : Nat → Int} {K : List Nat} {d : Nat} (h : d ∈ K) : dgetD (wdK K f) (tx [d]) = some (.int (f d)) := get_wdK h
def bm (w : Nat → Int) (F : List Nat) : Int := (bw w (oR F) (oE F) 0).getD 0
def bo (w : Nat → Int) (F : List Nat) : List Nat := (fst w (bm w F) (ocs F)).getD []
theorem bo_ok {w : Nat → Int} {F : List Nat} (hF : Film F) : bw w (oR F) (oE F) 0 = some (bm w F) ∧ fst w (bm w F) (ocs F) = some (bo w F) ∧ bo w F ∈ ocs F ∧ sw w (bo w F) = bm w F ∧ ∀ u ∈ ocs F, sw w u ≤ bm w F := by
  have ne : wd (oR F) (oE F) 0 ≠ [] := fun z => by
    have : F ∈ ocs F := (ocs_mem hF).mpr (W_self F)
    unfold ocs at this
    rw [z] at this
    cases this
  have h1 : bw w (oR F) (oE F) 0 = some (bm w F) := by
    unfold bm
    cases q : bw w (oR F) (oE F) 0 with
    | none => exact absurd (bw_none.mp q) ne
    | some b => rfl
  obtain ⟨⟨u, hu, eu⟩, mx⟩ := bw_some.mp h1
  obtain ⟨x, ex⟩ := fst_some hu eu
  have h2 : fst w (bm w F) (ocs F) = some (bo w F) := by
    unfold bo
    have ex : fst w (bm w F) (ocs F) = some x := ex
    rw [ex]
    rfl
  obtain ⟨h3, h4⟩ := fst_mem h2
  exact ⟨h1, h2, h3, h4, mx⟩
theorem oR_in {F : List Nat} (hF : Film F) {v : Nat} {p : Nat × Nat} (hp : p ∈ (oR F).getD v []) : p.1 ∈ L8 := by
  cases v with
  | zero =>
    have : p = (F.getD 0 0, 1) := List.mem_singleton.mp hp
    rw [this]
    have h0 := List.length_pos_iff.mpr hF.1
    show F.getD 0 0 ∈ L8
    rw [List.getD_eq_getElem?_getD, List.getElem?_eq_getElem h0]
    exact mem_L8.mpr (hF.2.2 _ (List.getElem_mem h0))
  | succ v =>
    by_cases h : v < F.length
    · rw [oR_row h] at hp
      exact (mem_orow.mp hp).1
    · rw [oR_beyond (by omega)] at hp
      cases hp
theorem best_word_oc {w : Nat → Int} {F : List Nat} {wD : D} (hF : Film F) (hw : ∀ c ∈ L8, dgetD wD (tx [c]) = some (.int (w c))) : F_best_word [gD (oR F) (oE F), wD] = .ok (tx (bo w F)) := by
  obtain ⟨h1, h2, _⟩ := bo_ok (w := w) hF
  have hl := hF.2.1
  exact best_word_ok (w := w) (oR_up hF.1) (by rw [oR_len, oE_len]) (by rw [oR_len]; omega) (by rw [oR_len]; omega) oR_short (fun v p hp => hw _ (oR_in hF hp)) h1 h2
theorem best_from_oc {w : Nat → Int} {F : List Nat} {wD : D} (hF : Film F) (hw : ∀ c ∈ L8, dgetD wD (tx [c]) = some (.int (w c))) : F_best_from [gD (oR F) (oE F), wD] = .ok (.lst (bsE w (oR F) (oE F))) ∧ (bsE w (oR F) (oE F))[0]? = some (.int (bm w F)) := by
  obtain ⟨h1, h2, _⟩ := bo_ok (w := w) hF
  have hl := hF.2.1
  refine ⟨best_from_ok (w := w) (oR_up hF.1) (by rw [oR_len, oE_len]) (by rw [oR_len]; omega) oR_short fun v p hp => hw _ (oR_in hF hp), ?_⟩
  rw [bsE_get (by rw [oR_len]; omega), h1]
  rfl
def neg1 : Nat → Int := fun _ => -1
theorem sw_neg1 : ∀ u : List Nat, sw neg1 u = -(u.length : Int)
  | [] => rfl
  | c :: u => by
    rw [sw_cons, sw_neg1 u, List.length_cons]
    show (-1 : Int) + -(u.length : Int) = _
    omega
/-- the first of the shortest outcomes -/
def sho (F : List Nat) : List Nat := bo neg1 F
theorem sho_ok {F : List Nat} (hF : Film F) : sho F ∈ ocs F ∧ (∀ u ∈ ocs F, (sho F).length ≤ u.length) ∧ (ocs F).find? (fun u => decide (u.length = (sho F).length)) = some (sho F) := by
  obtain ⟨h1, h2, h3, h4, h5⟩ := bo_ok (w := neg1) hF
  have h4 : sw neg1 (sho F) = bm neg1 F := h4
  rw [sw_neg1] at h4
  refine ⟨h3, fun u hu => ?_, ?_⟩
  · have := h5 u hu
    rw [sw_neg1] at this
    omega
  · have h2 : (ocs F).find? (fun u => decide (sw neg1 u = bm neg1 F)) = some (sho F) := h2
    rw [← h2]
    congr 1
    funext u
    rw [Bool.eq_iff_iff, decide_eq_true_eq, decide_eq_true_eq, sw_neg1]
    omega
theorem shortest_ok {F : List Nat} (hF : Film F) : F_shortest [tx F] = .ok (tx (sho F)) := by
  have bk := best_word_oc (w := neg1) (wD := wdK L8 neg1) hF fun c hc => dget_wdK hc
  have bk : F_best_word [gD (oR F) (oE F), wdK L8 neg1] = .ok (tx (sho F)) := bk
  have og := outcome_graph_ok hF
  have c1 := dcA (r := [.sh (tx F), .un]) (own := [("letter", 1)]) (h := itX zD (kc (.str "abcdefgh"))) (g := gSet 1) (c := yesB) (fk := gSh 1) (fv := un1 negD (kc (.int 1))) L8 (fun c => tx [c]) (fun c => .int (neg1 c)) (fun c => mkS [c]) (fun _ => true) (fun c => [.sh (tx F), .sh (tx [c])]) rfl rfl (by decide) (by decide +kernel) fun c _ => ⟨rfl, rfl, fun _ => ⟨rfl, rfl⟩⟩
  rw [List.filter_eq_self.mpr (fun _ _ => rfl)] at c1
  have tz : toFz (.dct (L8.map fun c => ((.inr (mkS [c]) : L2.Key), D.int (neg1 c)))) = some (wdK L8 neg1) := rfl
  refine fnD_rt (r1 := [.sh (tx F), .un]) rfl (show b_shortest [.sh (tx F), .un] = _ from ?_)
  unfold b_shortest
  generalize L8.map (fun c => ((.inr (mkS [c]) : L2.Key), D.int (neg1 c))) = KV at c1 tz
  generalize wdK L8 neg1 = WD at tz bk
  have ck := check_film_ok hF
  generalize gD (oR F) (oE F) = GG at og bk
  wide_open with ((), ck, og, c1, tz, bk)
theorem sho_film {F : List Nat} (hF : Film F) : Film (sho F) := W_film hF ((ocs_mem hF).mp (sho_ok hF).1)
theorem shortest_length_ok {F : List Nat} (hF : Film F) : F_shortest_length [tx F] = .ok (ni (sho F).length) := by
  have k := shortest_ok hF
  have l := (sho_film hF).2.1
  have ln : lenD [tx (sho F)] = some (ni (sho F).length) := len_tx (by omega)
  refine fnD_rt (r1 := [.sh (tx F)]) rfl (show b_shortest_length [.sh (tx F)] = _ from ?_)
  unfold b_shortest_length
  wide_open with ((), k, ln)
end LW

end
section
namespace LW
open PySem DL PT
/-! ### how often a letter stands in an outcome; the best outcome without letters -/
def occ1 (c : Nat) : Nat → Int := fun d => if d = c then 1 else 0
def occN (c : Nat) : Nat → Int := fun d => -occ1 c d
theorem sw_occ (c : Nat) : ∀ u : List Nat, sw (occ1 c) u = (u.count c : Nat)
  | [] => rfl
  | d :: u => by
    rw [sw_cons, sw_occ c u, List.count_cons]
    unfold occ1
    by_cases z : d = c
    · rw [if_pos z, if_pos (by simp [z])]
      omega
    · rw [if_neg z, if_neg (by simp [z])]
      omega
theorem sw_neg (w : Nat → Int) : ∀ u : List Nat, sw (fun d => -w d) u = -sw w u
  | [] => rfl
  | d :: u => by
    rw [sw_cons, sw_cons, sw_neg w u]
    omega
/-- the fewest and the most -/
theorem letter_range_ok {F : List Nat} {c : Nat} (hF : Film F) (hc : 97 ≤ c ∧ c ≤ 104) : F_letter_range [tx F, tx [c]] = .ok (.tup [.int (-bm (occN c) F), .int (bm (occ1 c) F)]) := by
  obtain ⟨k1, k2⟩ := best_from_oc (w := occ1 c) (wD := wdK L8 (occ1 c)) hF fun d hd => dget_wdK hd
  obtain ⟨k3, k4⟩ := best_from_oc (w := occN c) (wD := wdK L8 (occN c)) hF fun d hd => dget_wdK hd
  have og := outcome_graph_ok hF
  have cf := check_film_ok hF
  have cl := letter_ok hc
  have j2 : ixD (.lst (bsE (occ1 c) (oR F) (oE F))) (.int 0) = some (.int (bm (occ1 c) F)) := (ix_lst _ 0).trans (by rw [atI_zero]; exact k2)
  have j4 : ixD (.lst (bsE (occN c) (oR F) (oE F))) (.int 0) = some (.int (bm (occN c) F)) := (ix_lst _ 0).trans (by rw [atI_zero]; exact k4)
  have c1 := dcA (r := [.sh (tx F), .sh (tx [c]), .sh (gD (oR F) (oE F)), .un, .un, .un, .un]) (own := [("sign", 5)]) (h := itX zD (kc (.str "abcdefgh"))) (g := gSet 5) (c := yesB) (fk := gSh 5) (fv := ifV (tst (bin eqD (gAny 5) (gAny 1))) (kc (.int 1)) (kc (.int 0))) L8 (fun c => tx [c]) (fun d => .int (occ1 c d)) (fun c => mkS [c]) (fun _ => true) (fun d => [.sh (tx F), .sh (tx [c]), .sh (gD (oR F) (oE F)), .un, .un, .sh (tx [d]), .un]) rfl rfl (by decide) (by decide +kernel) fun d _ => ⟨rfl, rfl, fun _ => ⟨rfl, by
    have e := eq_tx [d] [c]
    unfold occ1
    by_cases z : d = c
    · rw [decide_eq_true (by rw [z])] at e
      rw [if_pos z]
      wide_open with ((), e)
    · rw [decide_eq_false (fun y => z (List.cons.inj y).1)] at e
      rw [if_neg z]
      wide_open with ((), e)⟩⟩
  rw [List.filter_eq_self.mpr (fun _ _ => rfl)] at c1
  have tz : toFz (.dct (L8.map fun d => ((.inr (mkS [d]) : L2.Key), D.int (occ1 c d)))) = some (wdK L8 (occ1 c)) := rfl
  have c2 := dcA (r := [.sh (tx F), .sh (tx [c]), .sh (gD (oR F) (oE F)), .sh (wdK L8 (occ1 c)), .un, .un, .un]) (own := [("sign", 5), ("times", 6)]) (h := itX itemsD (gSh 3)) (g := gTupD 2 (gsCons (gSet 5) (gsCons (gSet 6) gsNil))) (c := yesB) (fk := gSh 5) (fv := un1 negD (gAny 6)) L8 (fun d => .tup [tx [d], .int (occ1 c d)]) (fun d => .int (occN c d)) (fun c => mkS [c]) (fun _ => true) (fun d => [.sh (tx F), .sh (tx [c]), .sh (gD (oR F) (oE F)), .sh (wdK L8 (occ1 c)), .un, .sh (tx [d]), .sh (.int (occ1 c d))]) rfl rfl (by decide) (by decide +kernel) fun d _ => ⟨rfl, rfl, fun _ => ⟨rfl, rfl⟩⟩
  rw [List.filter_eq_self.mpr (fun _ _ => rfl)] at c2
  have tz2 : toFz (.dct (L8.map fun d => ((.inr (mkS [d]) : L2.Key), D.int (occN c d)))) = some (wdK L8 (occN c)) := rfl
  refine fnD_rt (r1 := [.sh (tx F), .sh (tx [c]), .sh (gD (oR F) (oE F)), .sh (wdK L8 (occ1 c)), .sh (.int (-bm (occN c) F)), .un, .un]) rfl (show b_letter_range [.sh (tx F), .sh (tx [c]), .un, .un, .un, .un, .un] = _ from ?_)
  unfold b_letter_range
  generalize L8.map (fun d => ((.inr (mkS [d]) : L2.Key), D.int (occ1 c d))) = KV at c1 tz
  generalize L8.map (fun d => ((.inr (mkS [d]) : L2.Key), D.int (occN c d))) = KW at c2 tz2
  generalize wdK L8 (occ1 c) = WD at *
  generalize wdK L8 (occN c) = WE at *
  generalize bsE (occ1 c) (oR F) (oE F) = B1 at *
  generalize bsE (occN c) (oR F) (oE F) = B2 at *
  generalize gD (oR F) (oE F) = GG at *
  wide_open with ((), cf, cl, og, c1, tz, c2, tz2, k3, j4, k1, j2)
abbrev wmB : DL.Env → DL.R Fl := appS 2 (un1 toFz (dcD [("letter", 4), ("after", 5)] (itX itemsD (gSh 3)) (gTupD 2 (gsCons (gSet 4) (gsCons (gSet 5) gsNil))) (tst (bin (inB false) (gAny 4) (gAny 1))) (gSh 4) (gSh 5)))
theorem with_letters_of {R : List (List (Nat × Nat))} {E : List Bool} (hD : Dis R) (hl : R.length ≤ 1000) (hr : ∀ v, (R.getD v []).length ≤ 1000) (L : List Nat) {lD : D} (hin : ∀ c, inB false (tx [c]) lD = some (.bl (decide (c ∈ L)))) : F_with_letters [gD R E, lD] = .ok (gD (keepL L R) E) := by
  have ga := gA_eq (R.map rwD) (E.map D.bl)
  have ge := gE_eq (R.map rwD) (E.map D.bl)
  obtain ⟨t, y3, e, h1, n3⟩ := for_run (b := wmB) (g := gSet 3) (τ := List (List (Nat × Nat))) (fun r => rwD r) (fun t s => [.sh (gD R E), .sh lD, .own (.lst (t.map rwD)), s, .un, .un]) (fun j t => t = keepL L (R.take j)) R [] .un (fun _ _ _ => rfl) rfl rfl fun j r t ej ht => by
      subst ht
      obtain ⟨hj, er⟩ := List.getElem?_eq_some_iff.mp ej
      have rd : R.getD j [] = r := by rw [List.getD_eq_getElem?_getD, ej]; rfl
      have hr2 := hr j
      have hn := hD j
      rw [rd] at hr2 hn
      have c := dcA (r := [.sh (gD R E), .sh lD, .own (.lst ((keepL L (R.take j)).map rwD)), .sh (rwD r), .un, .un]) (own := [("letter", 4), ("after", 5)]) (h := itX itemsD (gSh 3)) (g := gTupD 2 (gsCons (gSet 4) (gsCons (gSet 5) gsNil))) (c := tst (bin (inB false) (gAny 4) (gAny 1))) (fk := gSh 4) (fv := gSh 5) r (fun p => .tup [tx [p.1], ni p.2]) (fun p => ni p.2) (fun p => mkS [p.1]) (fun p => decide (p.1 ∈ L)) (fun p => [.sh (gD R E), .sh lD, .own (.lst ((keepL L (R.take j)).map rwD)), .sh (rwD r), .sh (tx [p.1]), .sh (ni p.2)]) rfl (by wide_open with ((), items_rw)) (by omega) (by
        have : r.map (fun p => mkS [p.1]) = (r.map (·.1)).map fun c => mkS [c] := by rw [List.map_map]; rfl
        rw [this]
        exact List.Pairwise.map _ (fun a b h z => h (mk_inj z)) hn) fun p hp => ⟨rfl, by
          have := hin p.1
          wide_open with ((), this), fun _ => ⟨rfl, rfl⟩⟩
      have fz : toFz (.dct ((r.filter fun p => decide (p.1 ∈ L)).map fun p => ((.inr (mkS [p.1]) : L2.Key), ni p.2))) = some (rwD (r.filter fun p => decide (p.1 ∈ L))) := (rfl)
      have kt : keepL L (R.take (j + 1)) = keepL L (R.take j) ++ [r.filter fun p => decide (p.1 ∈ L)] := by
        rw [List.take_add_one, ej]
        unfold keepL
        rw [List.map_append]
        rfl
      have mp : (keepL L (R.take (j + 1))).map rwD = (keepL L (R.take j)).map rwD ++ [rwD (r.filter fun p => decide (p.1 ∈ L))] := by rw [kt, List.map_append]; rfl
      have ll : ((keepL L (R.take j)).map rwD).length < 1000000 := by rw [List.length_map, keepL_len, List.length_take]; omega
      refine ⟨keepL L (R.take (j + 1)), ?_, rfl⟩
      rw [mp]
      wide_open with ((), c, fz)
  rw [List.take_length] at h1
  subst h1
  have mk : ∀ a b : D, mkG "arrows" "ends" [a, b] = .ok (.obj [("arrows", a), ("ends", b)]) := fun _ _ => (rfl)
  have e' : forD (gSet 3) wmB (R.map rwD) [.sh (gD R E), .sh lD, .own (.lst []), .un, .un, .un] = _ := e
  refine fnD_rt (r1 := [.sh (gD R E), .sh lD, .sh (.lst ((keepL L R).map rwD)), y3, .un, .un]) rfl (show b_with_letters [.sh (gD R E), .sh lD, .un, .un, .un, .un] = _ from ?_)
  unfold b_with_letters
  wide_open with ((), ga, ge, e', mk)
  rfl
/-- the first of the best among words -/
def BestO (w : Nat → Int) (C : List (List Nat)) (o : Option (List Nat)) : Prop := (C = [] → o = none) ∧ (C ≠ [] → ∃ g, o = some g ∧ g ∈ C ∧ (∀ u ∈ C, sw w u ≤ sw w g) ∧ C.find? (fun u => decide (sw w u = sw w g)) = some g)
abbrev oTw : Option (List Nat) → D
  | some u => tx u
  | none => .non
theorem best_of {w : Nat → Int} {R : List (List (Nat × Nat))} {E : List Bool} {wD : D} (hU : Up R) (hE : E.length = R.length) (h0 : 0 < R.length) (hl : R.length ≤ 900) (hr : ∀ v, (R.getD v []).length ≤ 1000) (hw : ∀ v, ∀ p ∈ R.getD v [], dgetD wD (tx [p.1]) = some (.int (w p.1))) : ∃ o, BestO w (wd R E 0) o ∧ F_best_word [gD R E, wD] = .ok (oTw o) := by
  by_cases z : wd R E 0 = []
  · exact ⟨none, ⟨fun _ => rfl, fun h => absurd z h⟩, best_word_no (w := w) hU hE h0 hl hr hw z⟩
  · cases q : bw w R E 0 with
    | none => exact absurd (bw_none.mp q) z
    | some b =>
      obtain ⟨⟨x, hx, ex⟩, mx⟩ := bw_some.mp q
      obtain ⟨g, hg⟩ := fst_some hx ex
      obtain ⟨gm, ge⟩ := fst_mem hg
      refine ⟨some g, ⟨fun h => absurd h z, fun _ => ⟨g, rfl, gm, fun y hy => ?_, ?_⟩⟩, best_word_ok (w := w) hU hE h0 hl hr hw q hg⟩
      · rw [ge]
        exact mx y hy
      · rw [ge]
        exact hg
/-- the letters that are left -/
def lftQ (L : List Nat) : List Nat := L8.filter fun c => decide (c ∉ L)
def wout (F L : List Nat) : List (List Nat) := (ocs F).filter fun w => w.all fun c => decide (c ∈ lftQ L)
theorem best_without_ok {F L : List Nat} (hF : Film F) (x : Int) : ∃ o, BestO (fun _ => x) (wout F L) o ∧ F_best_without [tx F, tx L, .int x] = .ok (oTw o) := by
  have hFl := hF.2.1
  have rl := oR_len F
  have kl := keepL_len (lftQ L) (oR F)
  obtain ⟨o, ho, bk⟩ := best_of (w := fun _ => x) (R := keepL (lftQ L) (oR F)) (E := oE F) (wD := wdK (lftQ L) fun _ => x) (keepL_up (oR_up hF.1)) (by rw [kl, rl, oE_len]) (by omega) (by omega) (fun v => by
    rw [keepL_row]
    exact Nat.le_trans (List.length_filter_le ..) (oR_short v)) fun v p hp => by
    rw [keepL_row] at hp
    exact dget_wdK (of_decide_eq_true (List.mem_filter.mp hp).2)
  rw [wd_keep] at ho
  refine ⟨o, ho, ?_⟩
  have og := outcome_graph_ok hF
  have fl : (lftQ L).length ≤ 8 := List.length_filter_le _ _
  have in2 : ∀ c, inB false (tx [c]) (.lst ((lftQ L).map fun c => tx [c])) = some (.bl (decide (c ∈ lftQ L))) := fun c => by
    have h := in_films [c] ((lftQ L).map fun c => [c])
    rw [List.map_map] at h
    have d : decide ([c] ∈ (lftQ L).map fun c => [c]) = decide (c ∈ lftQ L) := by
      rw [decide_eq_decide, List.mem_map]
      exact ⟨fun ⟨d, h1, h2⟩ => (List.cons.inj h2).1 ▸ h1, fun h => ⟨c, h, rfl⟩⟩
    rw [d] at h
    exact h
  have wl := with_letters_of (R := oR F) (E := oE F) oR_dis (by omega) oR_short (lftQ L) in2
  have c1 := lcA (r := [.sh (tx F), .sh (tx L), .sh (.int x), .un, .un]) (own := [("letter", 4)]) (h := itX zD (kc (.str "abcdefgh"))) (g := gSet 4) (c := tst (bin (inB true) (gAny 4) (gAny 1))) (f := gSh 4) L8 (fun c => tx [c]) (fun c => tx [c]) (fun c => decide (c ∉ L)) (fun c => [.sh (tx F), .sh (tx L), .sh (.int x), .un, .sh (tx [c])]) rfl rfl (by decide) (fun _ => rfl) fun c hc => by
    have h := in_sign true c L
    have h : inB true (tx [c]) (tx L) = some (.bl (decide (c ∉ L))) := by
      rw [h]
      by_cases z : c ∈ L
      · rw [decide_eq_true z, decide_eq_false (fun w => w z)]; rfl
      · rw [decide_eq_false z, decide_eq_true z]; rfl
    generalize decide (c ∉ L) = q at h ⊢
    exact ⟨by wide_open with ((), h), fun _ => by wide_open with ((), DL.eq_non)⟩
  have c1 : lcD [("letter", 4)] (itX zD (kc (.str "abcdefgh"))) (gSet 4) (tst (bin (inB true) (gAny 4) (gAny 1))) (gSh 4) [.sh (tx F), .sh (tx L), .sh (.int x), .un, .un] = .ok (.lst ((lftQ L).map fun c => tx [c])) := c1
  have c2 := dcA (r := [.sh (tx F), .sh (tx L), .sh (.int x), .sh (.lst ((lftQ L).map fun c => tx [c])), .un]) (own := [("letter", 4)]) (h := itX zD (gSh 3)) (g := gSet 4) (c := yesB) (fk := gSh 4) (fv := gSh 2) (lftQ L) (fun c => tx [c]) (fun c => .int x) (fun c => mkS [c]) (fun _ => true) (fun c => [.sh (tx F), .sh (tx L), .sh (.int x), .sh (.lst ((lftQ L).map fun c => tx [c])), .sh (tx [c])]) rfl rfl (by omega) (List.Pairwise.map _ (fun a b h z => h (mk_inj z)) ((List.filter_sublist).nodup L8_nodup)) fun c _ => ⟨rfl, rfl, fun _ => ⟨rfl, rfl⟩⟩
  rw [List.filter_eq_self.mpr (fun _ _ => rfl)] at c2
  have tz : toFz (.dct ((lftQ L).map fun c => ((.inr (mkS [c]) : L2.Key), D.int x))) = some (wdK (lftQ L) fun _ => x) := rfl
  refine fnD_rt (r1 := [.sh (tx F), .sh (tx L), .sh (.int x), .sh (.lst ((lftQ L).map fun c => tx [c])), .un]) rfl (show b_best_without [.sh (tx F), .sh (tx L), .sh (.int x), .un, .un] = _ from ?_)
  unfold b_best_without
  generalize (lftQ L).map (fun c => ((.inr (mkS [c]) : L2.Key), D.int x)) = KV at c2 tz
  generalize wdK (lftQ L) (fun _ => x) = WD at *
  generalize (lftQ L).map (fun c => tx [c]) = LL at *
  generalize gD (keepL (lftQ L) (oR F)) (oE F) = GK at *
  generalize gD (oR F) (oE F) = GG at *
  wide_open with ((), c1, og, wl, c2, tz, bk)
theorem shortest_without_ok {F L : List Nat} (hF : Film F) (h8 : Lt L) (hk : kd L = L) : ∃ o, BestO (fun _ => -1) (wout F L) o ∧ F_shortest_without [tx F, tx L] = .ok (oTw o) := by
  obtain ⟨o, ho, e⟩ := best_without_ok (L := L) hF (-1)
  refine ⟨o, ho, ?_⟩
  have c1 := check_film_ok hF
  have c2 := check_letters_ok h8 hk
  refine fnD_rt (r1 := [.sh (tx F), .sh (tx L)]) rfl (show b_shortest_without [.sh (tx F), .sh (tx L)] = _ from ?_)
  unfold b_shortest_without
  wide_open with ((), c1, c2, e)
theorem longest_without_ok {F L : List Nat} (hF : Film F) (h8 : Lt L) (hk : kd L = L) : ∃ o, BestO (fun _ => 1) (wout F L) o ∧ F_longest_without [tx F, tx L] = .ok (oTw o) := by
  obtain ⟨o, ho, e⟩ := best_without_ok (L := L) hF 1
  refine ⟨o, ho, ?_⟩
  have c1 := check_film_ok hF
  have c2 := check_letters_ok h8 hk
  refine fnD_rt (r1 := [.sh (tx F), .sh (tx L)]) rfl (show b_longest_without [.sh (tx F), .sh (tx L)] = _ from ?_)
  unfold b_longest_without
  wide_open with ((), c1, c2, e)
end LW

end
section
namespace LW
open PySem DL PT
/-! lists of films as data: in, ==, index, alike -/
theorem eqPy_tx (l m : List Nat) : eqPy (tx l) (tx m) = decide (l = m) := by
  unfold eqPy tx
  simp only [toPy, PyData.eqv]
  rw [Bool.eq_iff_iff, decide_eq_true_eq, beq_iff_eq]
  exact tx_inj
end LW

end
section
namespace LW
open PySem DL PT
/-! lengths, count_of_length -/
end LW

end
section
namespace LW
open PySem DL PT
/-! ### weights of letters -/
def wtD (w : Nat → Int) : D := .tup (L8.map fun c => .int (w c))
def WtOk (w : Nat → Int) : Prop := ∀ c ∈ L8, -1000 ≤ w c ∧ w c ≤ 1000
theorem check_num_int {i a b : Int} (h1 : a ≤ i) (h2 : i ≤ b) : F_check_number [.int i, .int a, .int b] = .ok .non := by
  have w := is_whole_ok i
  have e1 : decide (a ≤ i) = true := decide_eq_true h1
  have e2 : decide (i ≤ b) = true := decide_eq_true h2
  refine fnD_nx (r1 := [.sh (.int i), .sh (.int a), .sh (.int b)]) rfl (show b_check_number [.sh (.int i), .sh (.int a), .sh (.int b)] = _ from ?_)
  unfold b_check_number
  wide_open with ((), w, e1, e2)
theorem check_weights_ok {w : Nat → Int} (h : WtOk w) : F_check_weights [wtD w] = .ok .non := by
  obtain ⟨s1, e, _⟩ := for_no (b := exprS (withEnv (callF 3 F_check_number (aCons (gSh 1) (aCons (un1 negD (kc (.int 1000))) (aCons (kc (.int 1000)) aNil)))))) (g := gSet 1) (fun c => D.int (w c)) (fun s => [.sh (wtD w), s]) L8 .un (fun _ _ => rfl) rfl fun c hc => by
    obtain ⟨h1, h2⟩ := h c hc
    have k : F_check_number [.int (w c), .int (-1000), .int 1000] = .ok .non := check_num_int h1 h2
    generalize wtD w = W
    wide_open with ((), k)
  have i1 : isiD [wtD w, .ty "tuple"] = some (.bl true) := rfl
  have l1 : lenD [wtD w] = some (.int 8) := by
    unfold wtD
    rw [len_tup, List.length_map]
    rfl
  have l8 : lenD [.str "abcdefgh"] = some (.int 8) := rfl
  have z : zD (wtD w) = some (L8.map fun c => D.int (w c)) := rfl
  refine fnD_nx (r1 := [.sh (wtD w), s1]) rfl (show b_check_weights [.sh (wtD w), .un] = _ from ?_)
  unfold b_check_weights
  generalize L8.map (fun c => D.int (w c)) = LI at z e
  generalize wtD w = W at *
  wide_open with ((), i1, l1, l8, z, e)
theorem find_abc8 : ∀ c ∈ L8, Txt.find ("abcdefgh" : Str) (mkS [c]) = (c : Int) - 97 := by decide +kernel
theorem ix_wt {w : Nat → Int} {c : Nat} (hc : c ∈ L8) : ixD (wtD w) (.int ((c : Int) - 97)) = some (.int (w c)) := by
  have h := mem_L8.mp hc
  obtain ⟨k, hk, ek⟩ : ∃ k : Nat, k < 8 ∧ c = 97 + k := ⟨c - 97, by omega, by omega⟩
  subst ek
  rw [show ((97 + k : Nat) : Int) - 97 = (k : Int) by omega]
  unfold wtD
  rw [ix_tup, atI_nat]
  match k, hk with
  | 0, _ => rfl
  | 1, _ => rfl
  | 2, _ => rfl
  | 3, _ => rfl
  | 4, _ => rfl
  | 5, _ => rfl
  | 6, _ => rfl
  | 7, _ => rfl
theorem ints_mapI {α : Type} (f : α → Int) : ∀ l : List α, intsD (l.map fun c => D.int (f c)) = some (l.map f)
  | [] => rfl
  | c :: l => by
    show (intsD (l.map fun c => D.int (f c))).map _ = _
    rw [ints_mapI f l]
    rfl
theorem sum_of_weights_ok {w : Nat → Int} {g : List Nat} (hg : ∀ c ∈ g, c ∈ L8) (hl : g.length ≤ 1000000) : F_sum_of_weights [tx g, wtD w] = .ok (.int (sw w g)) := by
  have c1 := lcY (r := [.sh (tx g), .sh (wtD w), .un]) (own := [("letter", 2)]) (h := itX zD (gSh 0)) (g := gSet 2) (f := bin ixD (gAny 1) (mthV find1D (kc (.str "abcdefgh")) (aCons (gAny 2) aNil))) g (fun c => tx [c]) (fun c => D.int (w c)) (fun c => [.sh (tx g), .sh (wtD w), .sh (tx [c])]) rfl (by
    have z := zD_tx g
    generalize wtD w = W
    wide_open with ((), z)) hl (fun _ => rfl) fun c hc => by
    have fd : mvB find1D (.ok (.str "abcdefgh")) (.ok [tx [c]]) = .ok (.int ((c : Int) - 97)) := by
      show DL.R.ofO (find1D "abcdefgh" [tx [c]]) = _
      show DL.R.ofO (some (D.int (Txt.find ("abcdefgh" : Str) (mkS [c])))) = _
      rw [find_abc8 c (hg c hc)]
      rfl
    have ix := ix_wt (w := w) (hg c hc)
    generalize wtD w = W at ix ⊢
    wide_open with ((), fd, ix)
  have sm : sumD [.lst (g.map fun c => D.int (w c))] = some (.int (sw w g)) := by
    show (intsD (g.map fun c => D.int (w c))).map _ = _
    rw [ints_mapI w g]
    rfl
  refine fnD_rt (r1 := [.sh (tx g), .sh (wtD w), .un]) rfl (show b_sum_of_weights [.sh (tx g), .sh (wtD w), .un] = _ from ?_)
  unfold b_sum_of_weights
  generalize g.map (fun c => D.int (w c)) = LI at c1 sm
  generalize wtD w = W at *
  wide_open with ((), c1, sm)
theorem worth_ok {w : Nat → Int} {g : List Nat} (hg : Film g) (h : WtOk w) : F_worth [tx g, wtD w] = .ok (.int (sw w g)) := by
  have c1 := check_film_ok hg
  have c2 := check_weights_ok h
  have s := sum_of_weights_ok (w := w) (g := g) (fun c hc => mem_L8.mpr (hg.2.2 c hc)) (by have := hg.2.1; omega)
  refine fnD_rt (r1 := [.sh (tx g), .sh (wtD w)]) rfl (show b_worth [.sh (tx g), .sh (wtD w)] = _ from ?_)
  unfold b_worth
  generalize wtD w = W at *
  wide_open with ((), c1, c2, s)
def ngw (w : Nat → Int) : Nat → Int := fun c => -w c
theorem least_worth_ok {w : Nat → Int} {F : List Nat} (hF : Film F) (h : WtOk w) : F_least_worth [tx F, wtD w] = .ok (.tup [.int (sw w (bo (ngw w) F)), tx (bo (ngw w) F)]) := by
  have c1 := check_film_ok hF
  have c2 := check_weights_ok h
  have og := outcome_graph_ok hF
  have bk := best_word_oc (w := ngw w) (wD := wdK L8 (ngw w)) hF fun c hc => dget_wdK hc
  have gf := W_film hF ((ocs_mem hF).mp (bo_ok (w := ngw w) hF).2.2.1)
  have s := sum_of_weights_ok (w := w) (g := bo (ngw w) F) (fun c hc => mem_L8.mpr (gf.2.2 c hc)) (by have := gf.2.1; omega)
  have zp : zip2D [.str "abcdefgh", wtD w] = some (L8.map fun c => D.tup [tx [c], .int (w c)]) := rfl
  have d1 := dcA (r := [.sh (tx F), .sh (wtD w), .un, .un, .un, .un]) (own := [("letter", 4), ("weight", 5)]) (h := itN zip2D (aCons (kc (.str "abcdefgh")) (aCons (gSh 1) aNil))) (g := gTupD 2 (gsCons (gSet 4) (gsCons (gSet 5) gsNil))) (c := yesB) (fk := gSh 4) (fv := un1 negD (gAny 5)) L8 (fun c => .tup [tx [c], .int (w c)]) (fun c => .int (ngw w c)) (fun c => mkS [c]) (fun _ => true) (fun c => [.sh (tx F), .sh (wtD w), .un, .un, .sh (tx [c]), .sh (.int (w c))]) rfl rfl (by decide) (by decide +kernel) fun c _ => ⟨rfl, rfl, fun _ => ⟨rfl, rfl⟩⟩
  rw [List.filter_eq_self.mpr (fun _ _ => rfl)] at d1
  have tz : toFz (.dct (L8.map fun c => ((.inr (mkS [c]) : L2.Key), D.int (ngw w c)))) = some (wdK L8 (ngw w)) := rfl
  refine fnD_rt (r1 := [.sh (tx F), .sh (wtD w), .sh (wdK L8 (ngw w)), .sh (tx (bo (ngw w) F)), .un, .un]) rfl (show b_least_worth [.sh (tx F), .sh (wtD w), .un, .un, .un, .un] = _ from ?_)
  unfold b_least_worth
  generalize L8.map (fun c => ((.inr (mkS [c]) : L2.Key), D.int (ngw w c))) = KV at d1 tz
  generalize wdK L8 (ngw w) = WD at *
  generalize tx (bo (ngw w) F) = TB at *
  generalize gD (oR F) (oE F) = GG at *
  generalize wtD w = W at *
  wide_open with ((), c1, c2, d1, tz, og, bk, s)
end LW

end
section
namespace LW
open PySem DL PT
/-! ### greatest_worth -/
theorem greatest_worth_ok {w : Nat → Int} {F : List Nat} (hF : Film F) (h : WtOk w) : F_greatest_worth [tx F, wtD w] = .ok (.tup [.int (sw w (bo w F)), tx (bo w F)]) := by
  have c1 := check_film_ok hF
  have c2 := check_weights_ok h
  have og := outcome_graph_ok hF
  have bk := best_word_oc (w := w) (wD := wdK L8 w) hF fun c hc => dget_wdK hc
  have gf := W_film hF ((ocs_mem hF).mp (bo_ok (w := w) hF).2.2.1)
  have s := sum_of_weights_ok (w := w) (g := bo w F) (fun c hc => mem_L8.mpr (gf.2.2 c hc)) (by have := gf.2.1; omega)
  have dz : dzD [.str "abcdefgh", wtD w] = some (.dct (L8.map fun c => ((.inr (mkS [c]) : L2.Key), D.int (w c)))) := by
    show (if ("abcdefgh" : Str).cps.size = (L8.map fun c => D.int (w c)).length ∧ (L8.map fun c => D.int (w c)).length ≤ sizeLine then some (D.dct (mrgD [] ((keysT "abcdefgh").zip (L8.map fun c => D.int (w c))))) else none) = _
    rw [if_pos ⟨rfl, by rw [List.length_map]; decide⟩]
    rfl
  have tz : toFz (.dct (L8.map fun c => ((.inr (mkS [c]) : L2.Key), D.int (w c)))) = some (wdK L8 w) := rfl
  refine fnD_rt (r1 := [.sh (tx F), .sh (wtD w), .sh (tx (bo w F))]) rfl (show b_greatest_worth [.sh (tx F), .sh (wtD w), .un] = _ from ?_)
  unfold b_greatest_worth
  generalize L8.map (fun c => ((.inr (mkS [c]) : L2.Key), D.int (w c))) = KV at dz tz
  generalize wdK L8 w = WD at *
  generalize tx (bo w F) = TB at *
  generalize gD (oR F) (oE F) = GG at *
  generalize wtD w = W at *
  wide_open with ((), c1, c2, dz, tz, og, bk, s)
end LW

end
section
namespace LW
open PySem DL PT
/-! ### values of outcomes by worths: the greatest, the least, the place of the first -/
theorem lay_intI {α : Type} (f : α → Int) : ∀ L : List α, PyData.canLayAll0 (toPyL (L.map fun u => D.int (f u))) = true ∧ PyData.depthAll (toPyL (L.map fun u => D.int (f u))) = 0
  | [] => ⟨by simp only [List.map_nil, toPyL, PyData.canLayAll0], by simp only [List.map_nil, toPyL, PyData.depthAll]⟩
  | a :: t => by
    obtain ⟨h1, h2⟩ := lay_intI f t
    constructor
    · simp only [List.map_cons, toPyL, toPy, PyData.canLayAll0, PyData.canLay0, h1, Bool.and_self]
    · simp only [List.map_cons, toPyL, toPy, PyData.depthAll, PyData.depth, h2]
      rfl
theorem shp_intI {α : Type} (f : α → Int) (L : List α) : shp (.lst (L.map fun u => D.int (f u))) = true := shp_of (by simp only [toPy, PyData.canLay0, (lay_intI f L).1]) (by simp only [toPy, PyData.depth, (lay_intI f L).2]; omega)
theorem shp_int1 (a : Int) : shp (.int a) = true := shp_of (by simp only [toPy, PyData.canLay0]) (by simp only [toPy, PyData.depth]; omega)
theorem eqPy_int1 (a b : Int) : eqPy (.int a) (.int b) = decide (a = b) := by
  unfold eqPy
  simp only [toPy, PyData.eqv]
  rw [Bool.eq_iff_iff]
  simp
theorem index_find {L : List (List Nat)} {f : List Nat → Int} {M : Int} {g : List Nat} (h : L.find? (fun u => decide (f u = M)) = some g) : ∃ k, indexLD (L.map fun u => D.int (f u)) [.int M] = some (ni k) ∧ L[k]? = some g := by
  have key : ∀ L : List (List Nat), L.find? (fun u => decide (f u = M)) = some g → ∃ k, L.findIdx? (fun u => decide (f u = M)) = some k ∧ L[k]? = some g := fun L => by
    induction L with
    | nil => intro h; cases h
    | cons u L ih =>
      intro h
      by_cases z : f u = M
      · rw [List.find?_cons_of_pos (by exact decide_eq_true z)] at h
        exact ⟨0, by rw [List.findIdx?_cons, if_pos (decide_eq_true z)], h⟩
      · rw [List.find?_cons_of_neg (by intro w; exact z (of_decide_eq_true w))] at h
        obtain ⟨k, e1, e2⟩ := ih h
        exact ⟨k + 1, by rw [List.findIdx?_cons, if_neg (fun w => z (of_decide_eq_true w)), e1]; rfl, e2⟩
  obtain ⟨k, e1, e2⟩ := key L h
  refine ⟨k, ?_, e2⟩
  show (if shp (.lst (L.map fun u => D.int (f u))) && shp (.int M) then ((L.map fun u => D.int (f u)).findIdx? fun y => eqPy y (.int M)).map fun j => D.int (j : Nat) else none) = _
  rw [shp_intI, shp_int1]
  simp only [Bool.and_self, if_true]
  have e : (L.map fun u => D.int (f u)).findIdx? (fun y => eqPy y (.int M)) = some k := by
    rw [List.findIdx?_map]
    have : ((fun y => eqPy y (.int M)) ∘ fun u => D.int (f u)) = fun u => decide (f u = M) := funext fun u => eqPy_int1 _ _
    rw [this]
    exact e1
  rw [e]
  rfl
theorem max_worth {w : Nat → Int} {F : List Nat} (hF : Film F) : maxLD [.lst ((ocs F).map fun u => D.int (sw w u))] = some (.int (bm w F)) := by
  have h := (bo_ok (w := w) hF).1
  show ((intsD ((ocs F).map fun u => D.int (sw w u))).bind fun ns => ns.max?.map D.int) = _
  rw [ints_mapI]
  have h : ((ocs F).map (sw w)).max? = some (bm w F) := h
  show (((ocs F).map (sw w)).max?).map D.int = _
  rw [h]
  rfl
/-- the first of the least -/
theorem low_ok {w : Nat → Int} {F : List Nat} (hF : Film F) : bo (ngw w) F ∈ ocs F ∧ (∀ u ∈ ocs F, sw w (bo (ngw w) F) ≤ sw w u) ∧ (ocs F).find? (fun u => decide (sw w u = sw w (bo (ngw w) F))) = some (bo (ngw w) F) := by
  obtain ⟨_, h2, h3, h4, h5⟩ := bo_ok (w := ngw w) hF
  have ng : ∀ u, sw (ngw w) u = -sw w u := sw_neg w
  rw [ng] at h4
  refine ⟨h3, fun u hu => ?_, ?_⟩
  · have := h5 u hu
    rw [ng] at this
    omega
  · have h2 : (ocs F).find? (fun u => decide (sw (ngw w) u = bm (ngw w) F)) = some (bo (ngw w) F) := h2
    have fe : (fun u => decide (sw w u = sw w (bo (ngw w) F))) = fun u => decide (sw (ngw w) u = bm (ngw w) F) := funext fun u => by
      rw [decide_eq_decide, ng]
      omega
    rw [fe]
    exact h2
theorem top_ok {w : Nat → Int} {F : List Nat} (hF : Film F) : bo w F ∈ ocs F ∧ sw w (bo w F) = bm w F ∧ (∀ u ∈ ocs F, sw w u ≤ sw w (bo w F)) ∧ (ocs F).find? (fun u => decide (sw w u = sw w (bo w F))) = some (bo w F) := by
  obtain ⟨_, h2, h3, h4, h5⟩ := bo_ok (w := w) hF
  refine ⟨h3, h4, fun u hu => by rw [h4]; exact h5 u hu, ?_⟩
  rw [h4]
  exact h2
theorem min_worth {w : Nat → Int} {F : List Nat} (hF : Film F) : minLD [.lst ((ocs F).map fun u => D.int (sw w u))] = some (.int (sw w (bo (ngw w) F))) := by
  obtain ⟨h1, h2, _⟩ := low_ok (w := w) hF
  show ((intsD ((ocs F).map fun u => D.int (sw w u))).bind fun ns => ns.min?.map D.int) = _
  rw [ints_mapI]
  have h : ((ocs F).map (sw w)).min? = some (sw w (bo (ngw w) F)) := List.min?_eq_some_iff.mpr ⟨List.mem_map.mpr ⟨_, h1, rfl⟩, fun b hb => by
    obtain ⟨u, hu, e⟩ := List.mem_map.mp hb
    rw [← e]
    exact h2 u hu⟩
  show (((ocs F).map (sw w)).min?).map D.int = _
  rw [h]
  rfl
theorem find_unique {L : List (List Nat)} {p q : List Nat → Bool} {g h : List Nat} (e : ∀ u ∈ L, p u = q u) (h1 : L.find? p = some g) (h2 : L.find? q = some h) : g = h := by
  have : L.find? p = L.find? q := by
    clear h1 h2
    induction L with
    | nil => rfl
    | cons u L ih =>
      have eu := e u List.mem_cons_self
      cases z : p u with
      | true => rw [List.find?_cons_of_pos z, List.find?_cons_of_pos (by rw [← eu]; exact z)]
      | false => rw [List.find?_cons_of_neg (by rw [z]; decide), List.find?_cons_of_neg (by rw [← eu, z]; decide), ih fun x hx => e x (List.mem_cons_of_mem _ hx)]
  rw [h1, h2] at this
  exact Option.some.inj this
/-- two worths that order the outcomes alike have the same first best -/
theorem bo_same {w v : Nat → Int} {F : List Nat} (hF : Film F) (h : ∀ a ∈ ocs F, ∀ b ∈ ocs F, (sw w a ≤ sw w b ↔ sw v a ≤ sw v b)) : bo w F = bo v F := by
  obtain ⟨a1, a2, a3, a4⟩ := top_ok (w := w) hF
  obtain ⟨b1, b2, b3, b4⟩ := top_ok (w := v) hF
  refine find_unique (fun u hu => ?_) a4 b4
  rw [decide_eq_decide]
  have e1 := a3 u hu
  have e2 := b3 u hu
  have k1 := h u hu (bo w F) a1
  have k2 := h (bo w F) a1 u hu
  have k3 := h u hu (bo v F) b1
  have k4 := h (bo v F) b1 u hu
  have k5 := h (bo w F) a1 (bo v F) b1
  have k6 := h (bo v F) b1 (bo w F) a1
  have m1 := a3 (bo v F) b1
  have m2 := b3 (bo w F) a1
  constructor
  · intro z
    have := k4.mp (k6.mpr (k6.mp m1 |> fun x => by omega) |> fun x => by omega)
    omega
  · intro z
    have := k2.mpr (by omega)
    omega
theorem sw_scale (k : Int) (w : Nat → Int) : ∀ u : List Nat, sw (fun c => k * w c) u = k * sw w u
  | [] => by
    show (0 : Int) = k * 0
    rw [Int.mul_zero]
  | c :: u => by rw [sw_cons, sw_cons, sw_scale k w u, Int.mul_add]
theorem sw_shift (k : Int) (w : Nat → Int) : ∀ u : List Nat, sw (fun c => w c + k) u = sw w u + k * (u.length : Int)
  | [] => by
    show (0 : Int) = 0 + k * 0
    rw [Int.mul_zero]
    rfl
  | c :: u => by
    rw [sw_cons, sw_cons, sw_shift k w u, List.length_cons, Int.natCast_add, Int.mul_add]
    show w c + k + (sw w u + k * (u.length : Int)) = w c + sw w u + (k * (u.length : Int) + k * 1)
    rw [Int.mul_one]
    omega
/-- pairs of a number and a text are the same -/
theorem ne_it {n : Int} {y : List Nat} (h : ∀ c ∈ y, 97 ≤ c ∧ c ≤ 104) : neD (.tup [.int n, tx y]) (.tup [.int n, tx y]) = some (.bl false) := by
  have s : shp (.tup [.int n, tx y]) = true := shp_of (by
    show PyData.canLay0 (toPy (.tup [.int n, .str (mkS y)])) = true
    simp only [toPy, toPyL, PyData.canLay0, PyData.canLayAll0, strOk_tx h, Bool.and_self]) (by
    show (toPy (.tup [.int n, .str (mkS y)])).depth ≤ 20
    simp only [toPy, toPyL, PyData.depth, PyData.depthAll]
    omega)
  have e1 := eqPy_int1 n n
  have e2 := eqPy_tx y y
  rw [decide_eq_true (p := n = n) rfl] at e1
  rw [decide_eq_true (p := y = y) rfl] at e2
  show (if shp _ && shp _ then some (D.bl (!eqPy _ _)) else none) = _
  rw [s]
  simp only [Bool.and_self, if_true]
  congr 2
  unfold eqPy at e1 e2 ⊢
  simp only [toPy, toPyL, PyData.eqv, PyData.eqvAll] at e1 e2 ⊢
  simp only [e1, e2, Bool.and_self, Bool.not_true]
end LW

end
section
namespace PT
/-- the loops: one letter at both ends, the others once -/
def Lo (l : List Nat) : Prop := ∃ (c : Nat) (t : List Nat), l = c :: t ++ [c] ∧ (c :: t).Nodup
end PT

end
section
namespace PT
/-! ### loops cut out from the beginning on, told by last visits -/
/-- what stands behind the last place of a letter, all if there is none -/
def aft (c : Nat) : List Nat → List Nat
  | [] => []
  | d :: T => if c ∈ T then aft c T else if d = c then T else d :: T
/-- what is left without loops -/
def le : Nat → List Nat → List Nat
  | 0, _ => []
  | _ + 1, [] => []
  | n + 1, c :: T => c :: le n (aft c T)
abbrev lE (F : List Nat) : List Nat := le F.length F
end PT

end
section
namespace PT
/-! ### walks, closed walks, walks by what is left of them -/
section
variable (A : Nat → Nat → Bool)
def Wk : List Nat → Bool
  | [] => true
  | [_] => true
  | a :: b :: l => A a b && Wk (b :: l)
def nb (gone : List Nat) (a : Nat) : List Nat := L8.filter fun b => decide (b ∉ gone) && A a b
def wn (gone : List Nat) : Nat → Nat → List (List Nat)
  | 0, a => [[a]]
  | n + 1, a => (nb A gone a).flatMap fun b => (wn gone n b).map fun u => a :: u
variable {A}
variable (A)
/-- walks of so many steps from a letter to another one -/
def wl (gone : List Nat) (last : Nat) (n x : Nat) : Nat := ((wn A gone n x).filter fun u => decide (u.getLast? = some last)).length
variable {A}
variable (A)
/-- the walks of so many letters -/
def wds' (gone : List Nat) : Nat → List (List Nat)
  | 0 => [[]]
  | m + 1 => (L8.filter fun b => decide (b ∉ gone)).flatMap fun a => wn A gone m a
/-- how many walks are left as a told one without their loops, with so many letters more -/
def lD (gone p : List Nat) (t : Nat) : Nat := ((wds' A gone (p.length + t)).filter fun u => decide (lE u = p)).length
variable {A}
/-- sums of products -/
def cvN (f g : Nat → Nat) (t : Nat) : Nat := ((List.range (t + 1)).map fun k => f k * g (t - k)).sum
end
end PT

end
section
namespace PT
/-! ### sums of products, walks counted by what is left of them -/
def dl0 (t : Nat) : Nat := if t = 0 then 1 else 0
section
variable {A : Nat → Nat → Bool}
/-- counts_together in turn -/
def fW (A : Nat → Nat → Bool) : List Nat → (Nat → Nat) → List Nat → Nat → Nat
  | _, F, [] => F
  | gone, F, c :: p => fW A (gone ++ [c]) (fun t => cvN F (fun l => wl A gone c l c) t) p
/-! ### there is a walk of as many letters with a told path -/
def Ex (A : Nat → Nat → Bool) (gone p : List Nat) (t : Nat) : Prop := ∃ u, u.length = p.length + t ∧ Wk A u = true ∧ (∀ x ∈ u, x ∈ L8 ∧ x ∉ gone) ∧ lE u = p
end
end PT

end
section
namespace PT
/-! ### the paths from a letter to another one -/
section
variable (A : Nat → Nat → Bool)
def kid (u : List Nat) : List Nat := (nb A [] (u.getLastD 0)).filter fun c => decide (c ∉ u)
def pth (b : Nat) : Nat → List Nat → List (List Nat)
  | 0, u => if u.getLast? = some b then [u] else []
  | k + 1, u => if u.getLast? = some b then [u] else (kid A u).reverse.flatMap fun c => pth b k (u ++ [c])
variable {A}
/-- a simple path: no letter twice, a walk, with its last letter -/
def Sp (A : Nat → Nat → Bool) (b : Nat) (x : List Nat) : Prop := x.Nodup ∧ Wk A x = true ∧ (∀ c ∈ x, c ∈ L8) ∧ x.getLast? = some b
end
end PT

end
section
namespace PT
/-! ### two graphs at once -/
/-- by letters, the pairs behind a pair -/
def jrow (w : Nat) (R R2 : List (List (Nat × Nat))) (p : Nat) : List (Nat × Nat) := (R.getD (p / w) []).filterMap fun q => ((R2.getD (p % w) []).lookup q.1).map fun b => (q.1, q.2 * w + b)
end PT

end
section
namespace PT
/-! ### words that two graphs have in common -/
/-- a row of the graph of the words in common -/
def idx (P : List Nat) (x : Nat) : Nat := P.findIdx fun y => decide (y = x)
def cR (P : List Nat) (R R2 : List (List (Nat × Nat))) : List (List (Nat × Nat)) := P.map fun x => (jrow R2.length R R2 x).map fun q => (q.1, idx P q.2)
def cEn (P : List Nat) (w : Nat) (E E2 : List Bool) : List Bool := P.map fun x => E.getD (x / w) false && E2.getD (x % w) false
end PT

end
section
namespace PT
/-! ### all walks, letter by letter behind -/
section
variable (A : Nat → Nat → Bool)
def lwk (c : Nat) : Nat → List (List Nat)
  | 0 => [[c]]
  | n + 1 => (lwk c n).flatMap fun u => (nb A [] (u.getLastD 0)).map fun d => u ++ [d]
variable {A}
end
/-! ### the counts of some words by their names -/
/-- the names in the order in which they come first -/
def nmo (f : List Nat → List Nat) : List (List Nat) → List (List Nat) → List (List Nat)
  | K, [] => K
  | K, u :: L => nmo f (if f u ∈ K then K else K ++ [f u]) L
def cnm (f : List Nat → List Nat) (L : List (List Nat)) (p : List Nat) : Nat := (L.filter fun u => decide (f u = p)).length
end PT

end
section
namespace PT
/-! ### walks by the graph of a web, and those that come to a goal -/
section
variable {A : Nat → Nat → Bool}
def wR (A : Nat → Nat → Bool) : List (List (Nat × Nat)) := (L8.map fun c => (c, c - 96)) :: L8.map fun c => (nb A [] c).map fun d => (d, d - 96)
def wE : List Bool := false :: List.replicate 8 true
/-- how many walks of so many letters come to a goal -/
def wto (A : Nat → Nat → Bool) (g : List Nat) (n : Nat) : List (List Nat) := (aw L8 n).filter fun u => decide (0 < W g u) && Wk A u
end
end PT

end
section
namespace PT
/-! ### turned films -/
def tr (F : List Nat) (i : Nat) : List Nat := F.drop i ++ F.take i
def turns (F : List Nat) : List (List Nat) := (List.range F.length).map (tr F)
/-- one of the other by turning -/
def Rt (F G : List Nat) : Prop := ∃ U V, F = U ++ V ∧ G = V ++ U
/-- the least of some words -/
def lw (x : List Nat) (xs : List (List Nat)) : List Nat := xs.foldl (fun a y => if decide (y < a) = true then y else a) x
/-- a ring's name -/
def nm (F : List Nat) : List Nat := lw (tr F 0) ((List.range' 1 (F.length - 1)).map (tr F))
/-- the least period -/
def per (F : List Nat) : Nat := (((List.range' 1 F.length).filter fun p => decide (tr F p = F)).head?).getD F.length
end PT

end
section
namespace PT
/-! ### films renamed, films repeated, rings -/
section
variable {f : Nat → Nat}
end
/-! ### repeated -/
def rpt (F : List Nat) (k : Nat) : List Nat := (List.replicate k F).flatten
end PT

end
section
namespace PT
/-! ### mends, few -/
section
variable {P : Nat → Prop} {pi lo ch : Nat}
def PutIn (P : Nat → Prop) (A A' : List Nat) : Prop := ∃ p c, p ≤ A.length ∧ P c ∧ A' = A.take p ++ c :: A.drop p
def LeftOut (A A' : List Nat) : Prop := ∃ p, p < A.length ∧ A' = A.take p ++ A.drop (p + 1)
end
section
variable {F g : List Nat}
end
end PT

end
section
/-! ### how many films of a size come to a goal -/
namespace PT
/-- films of k letters over L that come to g (M54 has the same by the name bef) -/
abbrev bfw (g L : List Nat) (k : Nat) : List (List Nat) := (aw L k).filter fun F => decide (0 < W g F)
theorem W_subl : ∀ {g f : List Nat}, 0 < W g f → g.Sublist f
  | [], f, _ => List.nil_sublist f
  | c :: g, f, h => by
    obtain ⟨_, u, v, e, hv⟩ := blk_pos.mp (show 0 < blk c (W g) f from h)
    rw [e]
    exact ((W_subl hv).cons_cons c).trans (List.sublist_append_right _ _)
theorem W_eqlen {g F : List Nat} (h : 0 < W g F) (hl : F.length = g.length) : F = g := ((W_subl h).eq_of_length hl.symm).symm
/-- the letters one on, the last one to the first -/
def nx8 (c : Nat) : Nat := if c = 104 then 97 else if 97 ≤ c ∧ c < 104 then c + 1 else c
def pv8 (c : Nat) : Nat := if c = 97 then 104 else if 97 < c ∧ c ≤ 104 then c - 1 else c
end PT

end
section
namespace LW
open PySem DL PT
noncomputable section
abbrev fW : DL.Env → DL.R (D × DL.Env) := (binE subD (callIO 1 1 F__law_taken (withEnv (aCons (kc (.int 7)) aNil))) (withEnv (kc (.int 3))))
def lawC : DL.Env → DL.R Fl := (seqS (setS 8 (withEnv (bin mulTD (mkT (aCons (kc (.int 1)) aNil)) (kc (.int 8))))) (seqS (ifS (withEnv (tst (bin neD (callF 2 F_least_worth (aCons (gSh 2) (aCons (gSh 8) aNil))) (mkT (aCons (callF 1 F_shortest_length (aCons (gSh 2) aNil)) (aCons (callF 1 F_shortest (aCons (gSh 2) aNil)) aNil)))))) (retS (withEnv (kc (.bl false)))) skipS) (seqS (ifS (withEnv (tst (bin neD (callF 2 F_greatest_worth (aCons (gSh 2) (aCons (gSh 8) aNil))) (mkT (aCons (appN lenD (aCons (gAny 2) aNil)) (aCons (gSh 2) aNil)))))) (retS (withEnv (kc (.bl false)))) skipS) (seqS (setS 9 (callIO 1 1 F__law_taken (withEnv (aCons (kc (.int 8)) aNil)))) (seqS (setS 10 (withEnv (bin ixD (kc (.str "abcdefgh")) (gAny 9)))) (seqS (asgS (gTupD 2 (gsCons (gSet 11) (gsCons (gSet 12) gsNil))) (withEnv (callF 2 F_letter_range (aCons (gSh 2) (aCons (gSh 10) aNil))))) (seqS (setS 13 (withEnv (appN tupC (aCons (lcD [("at", 16)] (itN rg1 (aCons (kc (.int 8)) aNil)) (gSet 16) yesB (ifV (tst (bin eqD (gAny 16) (gAny 9))) (kc (.int 1000)) (kc (.int 1)))) aNil)))) (seqS (ifS (withEnv (orB (tst (bin neD (bin fdivD (bin ixD (callF 2 F_least_worth (aCons (gSh 2) (aCons (gSh 13) aNil))) (kc (.int 0))) (kc (.int 1000))) (gAny 11))) (tst (bin neD (bin fdivD (bin ixD (callF 2 F_greatest_worth (aCons (gSh 2) (aCons (gSh 13) aNil))) (kc (.int 0))) (kc (.int 1000))) (gAny 12))))) (retS (withEnv (kc (.bl false)))) skipS) (seqS (ifS (withEnv (andB (tst (bin eqD (gAny 11) (kc (.int 0)))) (tst (bin neD (bin ixD (callF 2 F_least_worth (aCons (gSh 2) (aCons (gSh 13) aNil))) (kc (.int 1))) (callF 2 F_shortest_without (aCons (gSh 2) (aCons (gSh 10) aNil))))))) (retS (withEnv (kc (.bl false)))) skipS) (retS (withEnv (orV (bin gtD (gAny 11) (kc (.int 0))) (bin geD (appN lenD (aCons (callF 2 F_longest_without (aCons (gSh 2) (aCons (gSh 10) aNil))) aNil)) (appN lenD (aCons (callF 2 F_shortest_without (aCons (gSh 2) (aCons (gSh 10) aNil))) aNil)))))))))))))))
def lawB : DL.Env → DL.R Fl := (seqS (setS 5 (withEnv (lcD [("told", 15)] (itX zD (gSh 3)) (gSet 15) yesB (callF 2 F_worth (aCons (gSh 15) (aCons (gSh 4) aNil)))))) (seqS (ifS (withEnv (tst (bin neD (callF 2 F_greatest_worth (aCons (gSh 2) (aCons (gSh 4) aNil))) (mkT (aCons (appN maxLD (aCons (gAny 5) aNil)) (aCons (bin ixD (gAny 3) (mthL indexLD (gAny 5) (aCons (appN maxLD (aCons (gAny 5) aNil)) aNil))) aNil)))))) (retS (withEnv (kc (.bl false)))) skipS) (seqS (ifS (withEnv (tst (bin neD (callF 2 F_least_worth (aCons (gSh 2) (aCons (gSh 4) aNil))) (mkT (aCons (appN minLD (aCons (gAny 5) aNil)) (aCons (bin ixD (gAny 3) (mthL indexLD (gAny 5) (aCons (appN minLD (aCons (gAny 5) aNil)) aNil))) aNil)))))) (retS (withEnv (kc (.bl false)))) skipS) (seqS (setS 6 (withEnv (appN tupC (aCons (lcD [("one", 14)] (itX zD (gSh 4)) (gSet 14) yesB (bin mulD (kc (.int 2)) (gAny 14))) aNil)))) (seqS (ifS (withEnv (tst (bin neD (callF 2 F_greatest_worth (aCons (gSh 2) (aCons (gSh 6) aNil))) (mkT (aCons (bin mulD (kc (.int 2)) (appN maxLD (aCons (gAny 5) aNil))) (aCons (bin ixD (callF 2 F_greatest_worth (aCons (gSh 2) (aCons (gSh 4) aNil))) (kc (.int 1))) aNil)))))) (retS (withEnv (kc (.bl false)))) skipS) (seqS (setS 7 (withEnv (appN tupC (aCons (lcD [("one", 14)] (itX zD (gSh 4)) (gSet 14) yesB (bin plusD (gAny 14) (kc (.int 7)))) aNil)))) (seqS (ifS (withEnv (tst (bin gtD (bin ixD (callF 2 F_greatest_worth (aCons (gSh 2) (aCons (gSh 7) aNil))) (kc (.int 0))) (bin plusD (appN maxLD (aCons (gAny 5) aNil)) (bin mulD (kc (.int 7)) (appN lenD (aCons (gAny 2) aNil))))))) (retS (withEnv (kc (.bl false)))) skipS) (seqS (ifS (withEnv (tst (bin ltD (bin ixD (callF 2 F_least_worth (aCons (gSh 2) (aCons (gSh 7) aNil))) (kc (.int 0))) (bin plusD (appN minLD (aCons (gAny 5) aNil)) (bin mulD (kc (.int 7)) (callF 1 F_shortest_length (aCons (gSh 2) aNil))))))) (retS (withEnv (kc (.bl false)))) skipS) lawC))))))))
theorem b_law_eq : b_law = (seqS (setO 1 (mkL (aCons (gSh 0) (aCons (kc (.int 0)) (aCons (kc (.int 5075)) (aCons (kc (.int 0)) aNil)))))) (seqS (setS 2 (callIO 1 2 F__law_film (aConsE (withEnv (kc (.int 11))) (aConsE (binE plusD (withEnv (kc (.int 1))) (callIO 1 1 F__law_taken (withEnv (aCons (kc (.int 4)) aNil)))) (withEnv aNil))))) (seqS (asgS (gTupD 2 (gsCons (gSet 3) (gsCons (gSet 4) gsNil))) (mkTE (aConsE (withEnv (callF 1 F_outcomes (aCons (gSh 2) aNil))) (aConsE (appNE tupC (aConsE (lcE [("one", 14)] (itN rg1 (aCons (kc (.int 8)) aNil)) (gSet 14) (binE subD (callIO 1 1 F__law_taken (withEnv (aCons (kc (.int 7)) aNil))) (withEnv (kc (.int 3))))) (withEnv aNil))) (withEnv aNil))))) lawB))) := rfl
theorem ix_abc {i : Nat} (h : i < 8) : ixD (.str "abcdefgh") (ni i) = some (tx [97 + i]) := by
  have z : i = 0 ∨ i = 1 ∨ i = 2 ∨ i = 3 ∨ i = 4 ∨ i = 5 ∨ i = 6 ∨ i = 7 := by omega
  rcases z with z | z | z | z | z | z | z | z <;> subst z <;> rfl
theorem ix_t0 (a b : D) : ixD (.tup [a, b]) (.int 0) = some a := (ix_tup _ 0).trans (atI_zero _)
theorem ix_t1 (a b : D) : ixD (.tup [a, b]) (.int 1) = some b := (ix_tup _ 1).trans (atI_one _)
def uno : Nat → Int := fun _ => 1
theorem sw_uno : ∀ u : List Nat, sw uno u = (u.length : Int)
  | [] => rfl
  | c :: u => by
    rw [sw_cons, sw_uno u, List.length_cons]
    show (1 : Int) + (u.length : Int) = _
    omega
theorem bo_uno {F : List Nat} (hF : Film F) : bo uno F = F := by
  obtain ⟨h1, _, h3, _⟩ := top_ok (w := uno) hF
  have e := h3 F ((ocs_mem hF).mpr (W_self F))
  rw [sw_uno, sw_uno] at e
  have w := (ocs_mem hF).mp h1
  have l := (W_subl w).length_le
  exact (W_eqlen w (by omega)).symm
def hvy (c : Nat) : Nat → Int := fun d => if d = c then 1000 else 1
theorem sw_hvy (c : Nat) : ∀ u : List Nat, sw (hvy c) u = 999 * (u.count c : Nat) + (u.length : Nat)
  | [] => rfl
  | d :: u => by
    rw [sw_cons, sw_hvy c u, List.count_cons, List.length_cons]
    unfold hvy
    by_cases z : d = c
    · rw [if_pos z, if_pos (by simp [z])]
      omega
    · rw [if_neg z, if_neg (by simp [z])]
      omega
/-- how the heavy letter tells its fewest and most -/
theorem hvy_ok {F : List Nat} {c : Nat} (hF : Film F) (hl : F.length ≤ 11) : ∃ lo hi m1 m2 : Nat, -bm (occN c) F = (lo : Int) ∧ bm (occ1 c) F = (hi : Int) ∧ sw (hvy c) (bo (ngw (hvy c)) F) = 1000 * (lo : Int) + (m1 : Int) ∧ m1 < 1000 ∧ sw (hvy c) (bo (hvy c) F) = 1000 * (hi : Int) + (m2 : Int) ∧ m2 < 1000 ∧ (bo (ngw (hvy c)) F).count c = lo := by
  have cl : ∀ u ∈ ocs F, u.count c ≤ u.length ∧ u.length ≤ 11 := fun u hu => ⟨List.count_le_length, Nat.le_trans (W_subl ((ocs_mem hF).mp hu)).length_le hl⟩
  obtain ⟨a1, a2, _⟩ := low_ok (w := occ1 c) hF
  obtain ⟨b1, b2, b3, _⟩ := top_ok (w := occ1 c) hF
  obtain ⟨c1, c2, _⟩ := low_ok (w := hvy c) hF
  obtain ⟨d1, _, d3, _⟩ := top_ok (w := hvy c) hF
  have eN : ngw (occ1 c) = occN c := rfl
  rw [eN] at a1 a2
  obtain ⟨_, n2, _, _⟩ := top_ok (w := occN c) hF
  have n3 : sw (occN c) (bo (occN c) F) = -sw (occ1 c) (bo (occN c) F) := sw_neg (occ1 c) _
  rw [sw_occ] at n3
  have e1 := a2 _ c1
  rw [sw_occ, sw_occ] at e1
  have e2 := c2 _ a1
  rw [sw_hvy, sw_hvy] at e2
  have e3 := b3 _ d1
  rw [sw_occ, sw_occ] at e3
  have e4 := d3 _ b1
  rw [sw_hvy, sw_hvy] at e4
  have l1 := cl _ a1
  have l2 := cl _ c1
  have l3 := cl _ b1
  have l4 := cl _ d1
  rw [sw_occ] at b2
  have q1 : (bo (ngw (hvy c)) F).count c = (bo (occN c) F).count c := by omega
  have q2 : (bo (hvy c) F).count c = (bo (occ1 c) F).count c := by omega
  refine ⟨(bo (occN c) F).count c, (bo (occ1 c) F).count c, (bo (ngw (hvy c)) F).length - (bo (ngw (hvy c)) F).count c, (bo (hvy c) F).length - (bo (hvy c) F).count c, by omega, by omega, ?_, by omega, ?_, by omega, q1⟩
  · rw [sw_hvy]
    omega
  · rw [sw_hvy]
    omega
theorem mem_wout {F : List Nat} {c : Nat} (hF : Film F) {u : List Nat} : u ∈ wout F [c] ↔ u ∈ ocs F ∧ u.count c = 0 := by
  unfold wout
  rw [List.mem_filter, List.all_eq_true]
  constructor
  · rintro ⟨h1, h2⟩
    refine ⟨h1, List.count_eq_zero.mpr fun z => ?_⟩
    have := (List.mem_filter.mp (of_decide_eq_true (h2 c z))).2
    exact (of_decide_eq_true this) (List.mem_singleton.mpr rfl)
  · rintro ⟨h1, h2⟩
    refine ⟨h1, fun d hd => decide_eq_true (List.mem_filter.mpr ⟨mem_L8.mpr ((W_film hF ((ocs_mem hF).mp h1)).2.2 d hd), decide_eq_true fun z => ?_⟩)⟩
    rw [List.mem_singleton.mp z] at hd
    exact (List.count_eq_zero.mp h2) hd
theorem sw_const (k : Int) : ∀ u : List Nat, sw (fun _ => k) u = k * (u.length : Int)
  | [] => by
    show (0 : Int) = k * 0
    rw [Int.mul_zero]
  | c :: u => by
    rw [sw_cons, sw_const k u, List.length_cons, Int.natCast_add, Int.mul_add]
    show k + k * (u.length : Int) = k * (u.length : Int) + k * 1
    rw [Int.mul_one]
    omega
/-- the first of the lightest is the first of the shortest without the letter -/
theorem light_short {F g : List Nat} {c : Nat} (hF : Film F) (hl : F.length ≤ 11) (h0 : (bo (ngw (hvy c)) F).count c = 0) (hb : BestO (fun _ => -1) (wout F [c]) (some g)) : bo (ngw (hvy c)) F = g ∧ g ∈ wout F [c] := by
  obtain ⟨c1, c2, c3⟩ := low_ok (w := hvy c) hF
  have inw : bo (ngw (hvy c)) F ∈ wout F [c] := (mem_wout hF).mpr ⟨c1, h0⟩
  have ne : wout F [c] ≠ [] := fun z => by rw [z] at inw; cases inw
  obtain ⟨g', eg, gm, gx, gf⟩ := hb.2 ne
  cases eg
  obtain ⟨g1, g0⟩ := (mem_wout hF).mp gm
  have x1 := gx _ inw
  rw [sw_const, sw_const] at x1
  have x2 := c2 g g1
  rw [sw_hvy, sw_hvy, h0, g0] at x2
  have eql : g.length = (bo (ngw (hvy c)) F).length := by omega
  have gl : g.length ≤ 11 := Nat.le_trans (W_subl ((ocs_mem hF).mp g1)).length_le hl
  refine ⟨?_, gm⟩
  unfold wout at gf
  rw [List.find?_filter] at gf
  refine find_unique (fun u hu => ?_) c3 gf
  have iff1 := mem_wout (c := c) hF (u := u)
  unfold wout at iff1
  rw [List.mem_filter] at iff1
  refine Bool.eq_iff_iff.mpr ⟨fun z => ?_, fun z => ?_⟩
  · have z := of_decide_eq_true z
    rw [sw_hvy, sw_hvy, h0] at z
    have u0 : u.count c = 0 := by omega
    exact decide_eq_true ⟨(iff1.mpr ⟨hu, u0⟩).2, decide_eq_true (by rw [sw_const, sw_const]; omega)⟩
  · obtain ⟨z1, z2⟩ := of_decide_eq_true z
    have z2 := of_decide_eq_true z2
    rw [sw_const, sw_const] at z2
    have u0 := (iff1.mp ⟨hu, z1⟩).2
    exact decide_eq_true (by rw [sw_hvy, sw_hvy, h0, u0]; omega)
theorem lawC_true (sc : D) {row : List D} (hr : RowOk row) {F : List Nat} (hF : Film F) (hl : F.length ≤ 11) (x3 x4 x5 x6 x7 : DL.Slot) : ∃ r, lawC [.sh sc, .own (.lst row), .sh (tx F), x3, x4, x5, x6, x7, .un, .un, .un, .un, .un, .un, .un, .un, .un] = .ok (.rt (.bl true) r) := by
  have m8 : mulTD (.tup [.int 1]) (.int 8) = some (wtD uno) := rfl
  have u1 : WtOk uno := fun c _ => by
    show (-1000 : Int) ≤ 1 ∧ (1 : Int) ≤ 1000
    omega
  have lw := least_worth_ok hF u1
  have eu : bo (ngw uno) F = sho F := rfl
  rw [eu, sw_uno] at lw
  have sl := shortest_length_ok hF
  have so := shortest_ok hF
  have n1 := ne_it (n := ((sho F).length : Int)) (sho_film hF).2.2
  have gw := greatest_worth_ok hF u1
  rw [bo_uno hF, sw_uno] at gw
  have lf : lenD [tx F] = some (ni F.length) := len_tx (by omega)
  have n2 := ne_it (n := (F.length : Int)) hF.2.2
  obtain ⟨a, row1, e1, hr1, ha⟩ := taken_ok (m := 8) hr (by decide) (by decide)
  have e1 : F__law_taken row [.int 8] = .ok (ni a, row1) := e1
  have x1 := ix_abc (i := a) ha
  obtain ⟨c, hc⟩ : ∃ c, c = 97 + a := ⟨_, rfl⟩
  rw [← hc] at x1
  have lr := letter_range_ok (c := c) hF (by omega)
  obtain ⟨lo, hi, m1, m2, o1, o2, o3, o4, o5, o6, o7⟩ := hvy_ok (c := c) hF hl
  rw [o1, o2] at lr
  have rg : rg1 [.int 8] = some ((List.range 8).map fun i => ni i) := by
    have := rg1_nat (n := 8) (by omega)
    rw [rng_map] at this
    exact this
  have l17 := lcY (r := [.sh sc, .own (.lst row1), .sh (tx F), x3, x4, x5, x6, x7, .sh (wtD uno), .sh (ni a), .sh (tx [c]), .sh (ni lo), .sh (ni hi), .un, .un, .un, .un]) (own := [("at", 16)]) (h := (itN rg1 (aCons (kc (.int 8)) aNil))) (g := (gSet 16)) (f := (ifV (tst (bin eqD (gAny 16) (gAny 9))) (kc (.int 1000)) (kc (.int 1)))) (List.range 8) (fun i => ni i) (fun i => .int (hvy c (97 + i))) (fun i => [.sh sc, .own (.lst row1), .sh (tx F), x3, x4, x5, x6, x7, .sh (wtD uno), .sh (ni a), .sh (tx [c]), .sh (ni lo), .sh (ni hi), .un, .un, .un, .sh (ni i)]) rfl (by wide_open with ((), rg)) (by decide) (fun _ => rfl) fun i hi' => by
    unfold hvy
    by_cases z : i = a
    · have d : decide ((i : Int) = (a : Int)) = true := decide_eq_true (by omega)
      rw [if_pos (by omega)]
      wide_open with ((), d)
    · have d : decide ((i : Int) = (a : Int)) = false := decide_eq_false (by omega)
      rw [if_neg (by omega)]
      wide_open with ((), d)
  have t17 : tupC [.lst ((List.range 8).map fun i => D.int (hvy c (97 + i)))] = some (wtD (hvy c)) := rfl
  have hok : WtOk (hvy c) := fun d _ => by
    unfold hvy
    by_cases z : d = c
    · rw [if_pos z]; omega
    · rw [if_neg z]; omega
  have lh := least_worth_ok hF hok
  have gh := greatest_worth_ok hF hok
  rw [o3] at lh
  rw [o5] at gh
  have i1 := ix_t0 (.int (1000 * (lo : Int) + (m1 : Int))) (tx (bo (ngw (hvy c)) F))
  have i2 := ix_t0 (.int (1000 * (hi : Int) + (m2 : Int))) (tx (bo (hvy c) F))
  have i3 := ix_t1 (.int (1000 * (lo : Int) + (m1 : Int))) (tx (bo (ngw (hvy c)) F))
  have f1 : fdivD (.int (1000 * (lo : Int) + (m1 : Int))) (.int 1000) = some (ni lo) := by
    rw [fdiv_int' (by omega)]
    congr 2
    omega
  have f2 : fdivD (.int (1000 * (hi : Int) + (m2 : Int))) (.int 1000) = some (ni hi) := by
    rw [fdiv_int' (by omega)]
    congr 2
    omega
  have k1 : decide ((lo : Int) = (lo : Int)) = true := decide_eq_true rfl
  have k2 : decide ((hi : Int) = (hi : Int)) = true := decide_eq_true rfl
  have c8 : Lt [c] := fun d hd => by rw [List.mem_singleton.mp hd]; omega
  have kc' : kd [c] = [c] := by
    have z : a = 0 ∨ a = 1 ∨ a = 2 ∨ a = 3 ∨ a = 4 ∨ a = 5 ∨ a = 6 ∨ a = 7 := by omega
    rw [hc]
    rcases z with z | z | z | z | z | z | z | z <;> subst z <;> rfl
  obtain ⟨os_, hs, es⟩ := shortest_without_ok hF c8 kc'
  obtain ⟨ol, ho, el⟩ := longest_without_ok hF c8 kc'
  refine ⟨[.sh sc, .own (.lst row1), .sh (tx F), x3, x4, x5, x6, x7, .sh (wtD uno), .sh (ni a), .sh (tx [c]), .sh (ni lo), .sh (ni hi), .sh (wtD (hvy c)), .un, .un, .un], ?_⟩
  unfold lawC
  generalize wtD uno = WU at *
  generalize (List.range 8).map (fun i => D.int (hvy c (97 + i))) = LI at l17 t17
  generalize wtD (hvy c) = WH at *
  have st : ∀ g : Prop, g → g := fun _ h => h
  refine seq_nx (r1 := [.sh sc, .own (.lst row), .sh (tx F), x3, x4, x5, x6, x7, .sh WU, .un, .un, .un, .un, .un, .un, .un, .un]) (by wide_open with ((), m8)) (seq_nx (r1 := [.sh sc, .own (.lst row), .sh (tx F), x3, x4, x5, x6, x7, .sh WU, .un, .un, .un, .un, .un, .un, .un, .un]) (by wide_open with ((), lw, sl, so, n1)) (seq_nx (r1 := [.sh sc, .own (.lst row), .sh (tx F), x3, x4, x5, x6, x7, .sh WU, .un, .un, .un, .un, .un, .un, .un, .un]) (by wide_open with ((), gw, lf, n2)) (seq_nx (r1 := [.sh sc, .own (.lst row1), .sh (tx F), x3, x4, x5, x6, x7, .sh WU, .sh (ni a), .un, .un, .un, .un, .un, .un, .un]) (by wide_open with ((), e1)) (seq_nx (r1 := [.sh sc, .own (.lst row1), .sh (tx F), x3, x4, x5, x6, x7, .sh WU, .sh (ni a), .sh (tx [c]), .un, .un, .un, .un, .un, .un]) (by wide_open with ((), x1)) (seq_nx (r1 := [.sh sc, .own (.lst row1), .sh (tx F), x3, x4, x5, x6, x7, .sh WU, .sh (ni a), .sh (tx [c]), .sh (ni lo), .sh (ni hi), .un, .un, .un, .un]) (by wide_open with ((), lr)) (seq_nx (r1 := [.sh sc, .own (.lst row1), .sh (tx F), x3, x4, x5, x6, x7, .sh WU, .sh (ni a), .sh (tx [c]), .sh (ni lo), .sh (ni hi), .sh WH, .un, .un, .un]) (by wide_open with ((), l17, t17)) (seq_nx (r1 := [.sh sc, .own (.lst row1), .sh (tx F), x3, x4, x5, x6, x7, .sh WU, .sh (ni a), .sh (tx [c]), .sh (ni lo), .sh (ni hi), .sh WH, .un, .un, .un]) (by wide_open with ((), lh, i1, f1, k1, gh, i2, f2, k2)) ?_)))))))
  by_cases z : lo = 0
  · have d0 : decide ((lo : Int) = 0) = true := decide_eq_true (by omega)
    have d1 : decide ((0 : Int) < (lo : Int)) = false := decide_eq_false (by omega)
    have inw : bo (ngw (hvy c)) F ∈ wout F [c] := (mem_wout hF).mpr ⟨(low_ok (w := hvy c) hF).1, by omega⟩
    have ne : wout F [c] ≠ [] := fun z => by rw [z] at inw; cases inw
    obtain ⟨g, eg, _⟩ := hs.2 ne
    subst eg
    obtain ⟨g1, g2⟩ := light_short hF hl (by omega) hs
    rw [g1] at lh i3
    obtain ⟨g', eg', gm', gx', _⟩ := ho.2 ne
    subst eg'
    have es : F_shortest_without [tx F, tx [c]] = .ok (tx g) := es
    have el : F_longest_without [tx F, tx [c]] = .ok (tx g') := el
    have ng := ne_tx g g
    rw [decide_eq_true (p := g = g) rfl] at ng
    have le := gx' g g2
    rw [sw_const, sw_const] at le
    have gf := W_film hF ((ocs_mem hF).mp ((mem_wout hF).mp g2).1)
    have gf' := W_film hF ((ocs_mem hF).mp ((mem_wout hF).mp gm').1)
    have lg : lenD [tx g] = some (ni g.length) := len_tx (by have := gf.2.1; omega)
    have lg' : lenD [tx g'] = some (ni g'.length) := len_tx (by have := gf'.2.1; omega)
    have d2 : decide ((g.length : Int) ≤ (g'.length : Int)) = true := decide_eq_true (by omega)
    exact seq_nx (r1 := [.sh sc, .own (.lst row1), .sh (tx F), x3, x4, x5, x6, x7, .sh WU, .sh (ni a), .sh (tx [c]), .sh (ni lo), .sh (ni hi), .sh WH, .un, .un, .un]) (by wide_open with ((), d0, lh, i3, es, ng)) (by wide_open with ((), d1, el, es, lg, lg', d2))
  · have d0 : decide ((lo : Int) = 0) = false := decide_eq_false (by omega)
    have d1 : decide ((0 : Int) < (lo : Int)) = true := decide_eq_true (by omega)
    exact seq_nx (r1 := [.sh sc, .own (.lst row1), .sh (tx F), x3, x4, x5, x6, x7, .sh WU, .sh (ni a), .sh (tx [c]), .sh (ni lo), .sh (ni hi), .sh WH, .un, .un, .un]) (by wide_open with ((), d0)) (by wide_open with ((), d1))
theorem lawB_true (sc : D) {row : List D} (hr : RowOk row) {F : List Nat} {w : Nat → Int} (hF : Film F) (hl : F.length ≤ 11) (hw : ∀ c ∈ L8, -3 ≤ w c ∧ w c ≤ 3) : ∃ r, lawB [.sh sc, .own (.lst row), .sh (tx F), .sh (.lst ((ocs F).map fun l => tx l)), .sh (wtD w), .un, .un, .un, .un, .un, .un, .un, .un, .un, .un, .un, .un] = .ok (.rt (.bl true) r) := by
  have few : (ocs F).length ≤ 1000000 := by
    have h1 := ocs_few hF
    have h2 : 2 ^ F.length ≤ 2 ^ 11 := Nat.pow_le_pow_right (by decide) hl
    have h3 : (2 : Nat) ^ 11 = 2048 := rfl
    omega
  have wok : WtOk w := fun c hc => by have := hw c hc; omega
  have ub : ∀ u ∈ ocs F, u.length ≤ F.length := fun u hu => (W_subl ((ocs_mem hF).mp hu)).length_le
  have lf : lenD [tx F] = some (ni F.length) := len_tx (by omega)
  have c3 := lcY (r := [.sh sc, .own (.lst row), .sh (tx F), .sh (.lst ((ocs F).map fun l => tx l)), .sh (wtD w), .un, .un, .un, .un, .un, .un, .un, .un, .un, .un, .un, .un]) (own := [("told", 15)]) (h := (itX zD (gSh 3))) (g := (gSet 15)) (f := (callF 2 F_worth (aCons (gSh 15) (aCons (gSh 4) aNil)))) (ocs F) (fun l => tx l) (fun u => D.int (sw w u)) (fun l => [.sh sc, .own (.lst row), .sh (tx F), .sh (.lst ((ocs F).map fun l => tx l)), .sh (wtD w), .un, .un, .un, .un, .un, .un, .un, .un, .un, .un, .sh (tx l), .un]) rfl (by wide_open with ((), DL.eq_non)) few (fun _ => rfl) fun u hu => by
    have k := worth_ok (w := w) (W_film hF ((ocs_mem hF).mp hu)) wok
    generalize wtD w = WT at k ⊢
    generalize (ocs F).map (fun l => tx l) = SO
    wide_open with ((), k)
  have mxw := max_worth (w := w) hF
  have mnw := min_worth (w := w) hF
  obtain ⟨a1, a2, a3, a4⟩ := top_ok (w := w) hF
  obtain ⟨b1, b2, b3⟩ := low_ok (w := w) hF
  rw [← a2] at mxw
  obtain ⟨k1, j1, j2⟩ := index_find a4
  obtain ⟨k2, j3, j4⟩ := index_find b3
  have sx : ∀ {k : Nat} {g : List Nat}, (ocs F)[k]? = some g → ixD (.lst ((ocs F).map fun l => tx l)) (ni k) = some (tx g) := fun {k g} e => (ix_lst _ _).trans (by rw [atI_nat, List.getElem?_map, e]; rfl)
  have i1 := sx j2
  have i2 := sx j4
  have gw := greatest_worth_ok hF wok
  have lw := least_worth_ok hF wok
  have n1 := ne_it (n := sw w (bo w F)) (W_film hF ((ocs_mem hF).mp a1)).2.2
  have n2 := ne_it (n := sw w (bo (ngw w) F)) (W_film hF ((ocs_mem hF).mp b1)).2.2
  have dok : WtOk (fun c => 2 * w c) := fun c hc => by
    have := hw c hc
    show (-1000 : Int) ≤ 2 * w c ∧ 2 * w c ≤ 1000
    omega
  have c6 := lcY (r := [.sh sc, .own (.lst row), .sh (tx F), .sh (.lst ((ocs F).map fun l => tx l)), .sh (wtD w), .sh (.lst ((ocs F).map fun u => D.int (sw w u))), .un, .un, .un, .un, .un, .un, .un, .un, .un, .un, .un]) (own := [("one", 14)]) (h := (itX zD (gSh 4))) (g := (gSet 14)) (f := (bin mulD (kc (.int 2)) (gAny 14))) L8 (fun c => D.int (w c)) (fun c => D.int (2 * w c)) (fun c => [.sh sc, .own (.lst row), .sh (tx F), .sh (.lst ((ocs F).map fun l => tx l)), .sh (wtD w), .sh (.lst ((ocs F).map fun u => D.int (sw w u))), .un, .un, .un, .un, .un, .un, .un, .un, .sh (.int (w c)), .un, .un]) rfl (by
    have z : zD (wtD w) = some (L8.map fun c => D.int (w c)) := rfl
    generalize wtD w = WT at z ⊢
    generalize (ocs F).map (fun l => tx l) = SO
    generalize (ocs F).map (fun u => D.int (sw w u)) = VL
    wide_open with ((), z)) (by decide) (fun _ => rfl) fun c _ => by
    have m := mul_int' (i := 2) (j := w c) (.inl (by omega))
    generalize wtD w = WT
    generalize (ocs F).map (fun l => tx l) = SO
    generalize (ocs F).map (fun u => D.int (sw w u)) = VL
    wide_open with ((), m)
  have t6 : tupC [.lst (L8.map fun c => D.int (2 * w c))] = some (wtD fun c => 2 * w c) := rfl
  have gd := greatest_worth_ok hF dok
  have bd : bo (fun c => 2 * w c) F = bo w F := bo_same hF fun x _ y _ => by rw [sw_scale, sw_scale]; omega
  rw [bd, sw_scale] at gd
  have md := mul_int' (i := 2) (j := sw w (bo w F)) (.inl (by omega))
  have t1 := ix_t1 (.int (sw w (bo w F))) (tx (bo w F))
  have n3 := ne_it (n := 2 * sw w (bo w F)) (W_film hF ((ocs_mem hF).mp a1)).2.2
  have sok : WtOk (fun c => w c + 7) := fun c hc => by
    have := hw c hc
    show (-1000 : Int) ≤ w c + 7 ∧ w c + 7 ≤ 1000
    omega
  have c8 := lcY (r := [.sh sc, .own (.lst row), .sh (tx F), .sh (.lst ((ocs F).map fun l => tx l)), .sh (wtD w), .sh (.lst ((ocs F).map fun u => D.int (sw w u))), .sh (wtD fun c => 2 * w c), .un, .un, .un, .un, .un, .un, .un, .un, .un, .un]) (own := [("one", 14)]) (h := (itX zD (gSh 4))) (g := (gSet 14)) (f := (bin plusD (gAny 14) (kc (.int 7)))) L8 (fun c => D.int (w c)) (fun c => D.int (w c + 7)) (fun c => [.sh sc, .own (.lst row), .sh (tx F), .sh (.lst ((ocs F).map fun l => tx l)), .sh (wtD w), .sh (.lst ((ocs F).map fun u => D.int (sw w u))), .sh (wtD fun c => 2 * w c), .un, .un, .un, .un, .un, .un, .un, .sh (.int (w c)), .un, .un]) rfl (by
    have z : zD (wtD w) = some (L8.map fun c => D.int (w c)) := rfl
    generalize wtD w = WT at z ⊢
    generalize (wtD fun c => 2 * w c) = WD
    generalize (ocs F).map (fun l => tx l) = SO
    generalize (ocs F).map (fun u => D.int (sw w u)) = VL
    wide_open with ((), z)) (by decide) (fun _ => rfl) fun c _ => by
    generalize wtD w = WT
    generalize (wtD fun c => 2 * w c) = WD
    generalize (ocs F).map (fun l => tx l) = SO
    generalize (ocs F).map (fun u => D.int (sw w u)) = VL
    wide_open with ((), DL.eq_non)
  have t8 : tupC [.lst (L8.map fun c => D.int (w c + 7))] = some (wtD fun c => w c + 7) := rfl
  have gs := greatest_worth_ok hF sok
  have ls := least_worth_ok hF sok
  obtain ⟨p1, _, _, _⟩ := top_ok (w := fun c => w c + 7) hF
  obtain ⟨q1, _, _⟩ := low_ok (w := fun c => w c + 7) hF
  rw [sw_shift] at gs ls
  have ma := mul_int' (i := 7) (j := (F.length : Int)) (.inl (by omega))
  have mb := mul_int' (i := 7) (j := ((sho F).length : Int)) (.inl (by omega))
  have sl := shortest_length_ok hF
  have d1 : decide (sw w (bo w F) + 7 * (F.length : Int) < sw w (bo (fun c => w c + 7) F) + 7 * ((bo (fun c => w c + 7) F).length : Int)) = false := decide_eq_false (by have h1 := a3 _ p1; have h2 := ub _ p1; omega)
  have d2 : decide (sw w (bo (ngw fun c => w c + 7) F) + 7 * ((bo (ngw fun c => w c + 7) F).length : Int) < sw w (bo (ngw w) F) + 7 * ((sho F).length : Int)) = false := decide_eq_false (by have h1 := b2 _ q1; have h2 := (sho_ok hF).2.1 _ q1; omega)
  have t2 := ix_t0 (.int (sw w (bo (fun c => w c + 7) F) + 7 * ((bo (fun c => w c + 7) F).length : Int))) (tx (bo (fun c => w c + 7) F))
  have t3 := ix_t0 (.int (sw w (bo (ngw fun c => w c + 7) F) + 7 * ((bo (ngw fun c => w c + 7) F).length : Int))) (tx (bo (ngw fun c => w c + 7) F))
  obtain ⟨r, ec⟩ := lawC_true sc hr hF hl (.sh (.lst ((ocs F).map fun l => tx l))) (.sh (wtD w)) (.sh (.lst ((ocs F).map fun u => D.int (sw w u)))) (.sh (wtD fun c => 2 * w c)) (.sh (wtD fun c => w c + 7))
  refine ⟨r, ?_⟩
  unfold lawB
  generalize sw w (bo (fun c => w c + 7) F) + 7 * ((bo (fun c => w c + 7) F).length : Int) = q5 at *
  generalize sw w (bo (ngw fun c => w c + 7) F) + 7 * ((bo (ngw fun c => w c + 7) F).length : Int) = q6 at *
  generalize tx (bo (fun c => w c + 7) F) = T5 at *
  generalize tx (bo (ngw fun c => w c + 7) F) = T6 at *
  generalize tx (bo w F) = T1 at *
  generalize tx (bo (ngw w) F) = T2 at *
  generalize sw w (bo w F) = q1' at *
  generalize sw w (bo (ngw w) F) = q2' at *
  generalize (sho F).length = q3 at *
  generalize L8.map (fun c => D.int (2 * w c)) = L2' at c6 t6
  generalize L8.map (fun c => D.int (w c + 7)) = L7' at c8 t8
  generalize (wtD fun c => 2 * w c) = WD at *
  generalize (wtD fun c => w c + 7) = WS at *
  generalize wtD w = WT at *
  generalize (ocs F).map (fun l => tx l) = SO at *
  generalize (ocs F).map (fun u => D.int (sw w u)) = VL at *
  exact seq_nx (r1 := [.sh sc, .own (.lst row), .sh (tx F), .sh (.lst SO), .sh WT, .sh (.lst VL), .un, .un, .un, .un, .un, .un, .un, .un, .un, .un, .un]) (by wide_open with ((), c3)) (seq_nx (r1 := [.sh sc, .own (.lst row), .sh (tx F), .sh (.lst SO), .sh WT, .sh (.lst VL), .un, .un, .un, .un, .un, .un, .un, .un, .un, .un, .un]) (by wide_open with ((), gw, mxw, j1, i1, n1)) (seq_nx (r1 := [.sh sc, .own (.lst row), .sh (tx F), .sh (.lst SO), .sh WT, .sh (.lst VL), .un, .un, .un, .un, .un, .un, .un, .un, .un, .un, .un]) (by wide_open with ((), lw, mnw, j3, i2, n2)) (seq_nx (r1 := [.sh sc, .own (.lst row), .sh (tx F), .sh (.lst SO), .sh WT, .sh (.lst VL), .sh WD, .un, .un, .un, .un, .un, .un, .un, .un, .un, .un]) (by wide_open with ((), c6, t6)) (seq_nx (r1 := [.sh sc, .own (.lst row), .sh (tx F), .sh (.lst SO), .sh WT, .sh (.lst VL), .sh WD, .un, .un, .un, .un, .un, .un, .un, .un, .un, .un]) (by wide_open with ((), gd, mxw, md, gw, t1, n3)) (seq_nx (r1 := [.sh sc, .own (.lst row), .sh (tx F), .sh (.lst SO), .sh WT, .sh (.lst VL), .sh WD, .sh WS, .un, .un, .un, .un, .un, .un, .un, .un, .un]) (by wide_open with ((), c8, t8)) (seq_nx (r1 := [.sh sc, .own (.lst row), .sh (tx F), .sh (.lst SO), .sh WT, .sh (.lst VL), .sh WD, .sh WS, .un, .un, .un, .un, .un, .un, .un, .un, .un]) (by wide_open with ((), gs, t2, mxw, lf, ma, d1)) (seq_nx (r1 := [.sh sc, .own (.lst row), .sh (tx F), .sh (.lst SO), .sh WT, .sh (.lst VL), .sh WD, .sh WS, .un, .un, .un, .un, .un, .un, .un, .un, .un]) (by wide_open with ((), ls, t3, mnw, sl, mb, d2)) ec)))))))
theorem draws (sc : D) (F : List Nat) : ∀ (items : List D) (row : List D), RowOk row → ∃ (xs : List Int) (row' : List D), xs.length = items.length ∧ (∀ x ∈ xs, -3 ≤ x ∧ x ≤ 3) ∧ RowOk row' ∧ lcPE (gSet 14) fW [14] [.sh sc, .own (.lst row), .sh (tx F), .un, .un, .un, .un, .un, .un, .un, .un, .un, .un, .un, .un, .un, .un] items = .ok (xs.map D.int, [.sh sc, .own (.lst row'), .sh (tx F), .un, .un, .un, .un, .un, .un, .un, .un, .un, .un, .un, .un, .un, .un])
  | [], row, h => ⟨[], row, rfl, (fun x hx => nomatch hx), h, rfl⟩
  | d :: items, row, h => by
    obtain ⟨v, row1, e1, hr1, hv⟩ := taken_ok (m := 7) h (by decide) (by decide)
    have e1 : F__law_taken row [.int 7] = .ok (ni v, row1) := e1
    obtain ⟨xs, row', l1, l2, l3, l4⟩ := draws sc F items row1 hr1
    refine ⟨((v : Int) - 3) :: xs, row', by rw [List.length_cons, List.length_cons, l1], fun x hx => ?_, l3, ?_⟩
    · rcases List.mem_cons.mp hx with z | z
      · rw [z]; omega
      · exact l2 x z
    · have h2 : fW [.sh sc, .own (.lst row), .sh (tx F), .un, .un, .un, .un, .un, .un, .un, .un, .un, .un, .un, .sh d, .un, .un] = .ok (.int ((v : Int) - 3), [.sh sc, .own (.lst row1), .sh (tx F), .un, .un, .un, .un, .un, .un, .un, .un, .un, .un, .un, .sh d, .un, .un]) := by wide_open with ((), e1)
      show (DL.R.ne (DL.R.ok [.sh sc, .own (.lst row), .sh (tx F), .un, .un, .un, .un, .un, .un, .un, .un, .un, .un, .un, .sh d, .un, .un])).bind (fun r1 => (DL.R.ne (fW r1)).bind fun p => if noOwn [14] p.2 = true then (lcPE (gSet 14) fW [14] (wipeE p.2 [14]) items).bind fun q => .ok (p.1 :: q.1, q.2) else .stk) = _
      show (DL.R.ne (fW [.sh sc, .own (.lst row), .sh (tx F), .un, .un, .un, .un, .un, .un, .un, .un, .un, .un, .un, .sh d, .un, .un])).bind (fun p => if noOwn [14] p.2 = true then (lcPE (gSet 14) fW [14] (wipeE p.2 [14]) items).bind fun q => .ok (p.1 :: q.1, q.2) else .stk) = _
      rw [h2]
      show (lcPE (gSet 14) fW [14] [.sh sc, .own (.lst row1), .sh (tx F), .un, .un, .un, .un, .un, .un, .un, .un, .un, .un, .un, .un, .un, .un] items).bind (fun q => .ok (D.int ((v : Int) - 3) :: q.1, q.2)) = _
      rw [l4]
      rfl
theorem law_true (ns : List Int) (hns : ns.length ≤ 63) : F_law [.lst (ns.map D.int)] = .ok (.bl true) := by
  have hr0 : RowOk [.lst (ns.map D.int), .int 0, .int 5075, .int 0] := ⟨ns, 0, 5075, 0, hns, rfl⟩
  obtain ⟨v0, row1, e1, hr1, hv0⟩ := taken_ok (m := 4) hr0 (by decide) (by decide)
  have e1 : F__law_taken [.lst (ns.map D.int), .int 0, .int 5075, .int 0] [.int 4] = .ok (ni v0, row1) := e1
  have a1 : (1 : Int) + (v0 : Int) = ((1 + v0 : Nat) : Int) := by omega
  obtain ⟨m, hm⟩ : ∃ m, m = 1 + v0 := ⟨_, rfl⟩
  rw [← hm] at a1
  obtain ⟨F, row2, e2, hr2, hf1, hf2, hf3⟩ := film_many (most := 11) (many := m) hr1 (by decide) (by decide) (by omega) (by omega)
  have e2 : F__law_film row1 [.int 11, ni m] = .ok (tx F, row2) := e2
  have hF : Film F := ⟨hf1, by omega, fun c hc => by have := hf3 c hc; omega⟩
  obtain ⟨sc, hsc⟩ : ∃ sc : D, sc = .lst (ns.map D.int) := ⟨_, rfl⟩
  obtain ⟨xs, row, l1, l2, hr, l4⟩ := draws sc F ((List.range 8).map fun i => ni i) row2 hr2
  have oc := outcomes_ok' hF (by omega)
  rw [List.length_map, List.length_range] at l1
  obtain ⟨w, hw, hwb⟩ : ∃ w : Nat → Int, D.tup (xs.map D.int) = wtD w ∧ ∀ c ∈ L8, -3 ≤ w c ∧ w c ≤ 3 := by
    match xs, l1, l2 with
    | [y0, y1, y2, y3, y4, y5, y6, y7], _, l2 =>
      refine ⟨fun c => [y0, y1, y2, y3, y4, y5, y6, y7].getD (c - 97) 0, rfl, fun c hc => ?_⟩
      have h8 := mem_L8.mp hc
      refine l2 _ ?_
      show [y0, y1, y2, y3, y4, y5, y6, y7].getD (c - 97) 0 ∈ _
      rw [List.getD_eq_getElem?_getD, List.getElem?_eq_getElem (show c - 97 < [y0, y1, y2, y3, y4, y5, y6, y7].length by show c - 97 < 8; omega)]
      exact List.getElem_mem _
  have rg : rg1 [.int 8] = some ((List.range 8).map fun i => ni i) := by
    have := rg1_nat (n := 8) (by omega)
    rw [rng_map] at this
    exact this
  have le : (lcE [("one", 14)] (itN rg1 (aCons (kc (.int 8)) aNil)) (gSet 14) (binE subD (callIO 1 1 F__law_taken (withEnv (aCons (kc (.int 7)) aNil))) (withEnv (kc (.int 3))))) [.sh sc, .own (.lst row2), .sh (tx F), .un, .un, .un, .un, .un, .un, .un, .un, .un, .un, .un, .un, .un, .un] = .ok (.lst (xs.map D.int), [.sh sc, .own (.lst row), .sh (tx F), .un, .un, .un, .un, .un, .un, .un, .un, .un, .un, .un, .un, .un, .un]) := by
    unfold lcE
    rw [if_pos (by rfl)]
    have hi : itN rg1 (aCons (kc (.int 8)) aNil) [.sh sc, .own (.lst row2), .sh (tx F), .un, .un, .un, .un, .un, .un, .un, .un, .un, .un, .un, .un, .un, .un] = .ok ((List.range 8).map fun i => ni i) := by wide_open with ((), rg)
    rw [hi]
    show (if ((List.range 8).map fun i => ni i).length ≤ sizeLine then (lcPE (gSet 14) fW [14] [.sh sc, .own (.lst row2), .sh (tx F), .un, .un, .un, .un, .un, .un, .un, .un, .un, .un, .un, .un, .un, .un] ((List.range 8).map fun i => ni i)).bind fun q => .ok (D.lst q.1, backE [.sh sc, .own (.lst row2), .sh (tx F), .un, .un, .un, .un, .un, .un, .un, .un, .un, .un, .un, .un, .un, .un] q.2 [14]) else .stk) = _
    rw [if_pos (by rw [List.length_map, List.length_range]; decide), l4]
    rfl
  have tc : tupC [.lst (xs.map D.int)] = some (wtD w) := by
    rw [← hw]
    rfl
  obtain ⟨r, eb⟩ := lawB_true sc hr hF hf2 hwb
  refine fnD_rt (r1 := r) rfl (show b_law [.sh (.lst (ns.map D.int)), .un, .un, .un, .un, .un, .un, .un, .un, .un, .un, .un, .un, .un, .un, .un, .un] = _ from ?_)
  rw [b_law_eq, ← hsc]
  rw [← hsc] at e1
  generalize xs.map D.int = XS at le tc
  exact seq_nx (r1 := [.sh sc, .own (.lst [sc, .int 0, .int 5075, .int 0]), .un, .un, .un, .un, .un, .un, .un, .un, .un, .un, .un, .un, .un, .un, .un]) (by wide_open with ((), DL.eq_non)) (seq_nx (r1 := [.sh sc, .own (.lst row2), .sh (tx F), .un, .un, .un, .un, .un, .un, .un, .un, .un, .un, .un, .un, .un, .un]) (by wide_open with ((), e1, a1, e2)) (seq_nx (r1 := [.sh sc, .own (.lst row), .sh (tx F), .sh (.lst ((ocs F).map fun l => tx l)), .sh (wtD w), .un, .un, .un, .un, .un, .un, .un, .un, .un, .un, .un, .un]) (by
    generalize (ocs F).map (fun l => tx l) = SO at oc ⊢
    generalize wtD w = WT at tc ⊢
    wide_open with ((), oc, le, tc)) eb))
end
end LW

end
section
namespace LW
open PySem L2 DL
def d__law_taken : He.DefD := ⟨("_law_taken", none), "_law_taken", "_law_taken", defArgs s__law_taken, defBody s__law_taken, defScope s__law_taken, [], []⟩
def d__law_film : He.DefD := ⟨("_law_film", none), "_law_film", "_law_film", defArgs s__law_film, defBody s__law_film, defScope s__law_film, [], []⟩
def d_is_letter : He.DefD := ⟨("is_letter", none), "is_letter", "is_letter", defArgs s_is_letter, defBody s_is_letter, defScope s_is_letter, [], []⟩
def d_check_film : He.DefD := ⟨("check_film", none), "check_film", "check_film", defArgs s_check_film, defBody s_check_film, defScope s_check_film, [], []⟩
def d_check_listed : He.DefD := ⟨("check_listed", none), "check_listed", "check_listed", defArgs s_check_listed, defBody s_check_listed, defScope s_check_listed, [], []⟩
def d_counts_from : He.DefD := ⟨("counts_from", none), "counts_from", "counts_from", defArgs s_counts_from, defBody s_counts_from, defScope s_counts_from, [], []⟩
def d_count_words : He.DefD := ⟨("count_words", none), "count_words", "count_words", defArgs s_count_words, defBody s_count_words, defScope s_count_words, [], []⟩
def d_words_of : He.DefD := ⟨("words_of", none), "words_of", "words_of", defArgs s_words_of, defBody s_words_of, defScope s_words_of, [], []⟩
def d_listed : He.DefD := ⟨("listed", none), "listed", "listed", defArgs s_listed, defBody s_listed, defScope s_listed, [], []⟩
def d_outcome_graph : He.DefD := ⟨("outcome_graph", none), "outcome_graph", "outcome_graph", defArgs s_outcome_graph, defBody s_outcome_graph, defScope s_outcome_graph, [], []⟩
def d_outcomes : He.DefD := ⟨("outcomes", none), "outcomes", "outcomes", defArgs s_outcomes, defBody s_outcomes, defScope s_outcomes, [], []⟩
def d_is_whole : He.DefD := ⟨("is_whole", none), "is_whole", "is_whole", defArgs s_is_whole, defBody s_is_whole, defScope s_is_whole, [], []⟩
def d_check_number : He.DefD := ⟨("check_number", none), "check_number", "check_number", defArgs s_check_number, defBody s_check_number, defScope s_check_number, [], []⟩
def d_check_weights : He.DefD := ⟨("check_weights", none), "check_weights", "check_weights", defArgs s_check_weights, defBody s_check_weights, defScope s_check_weights, [], []⟩
def d_sum_of_weights : He.DefD := ⟨("sum_of_weights", none), "sum_of_weights", "sum_of_weights", defArgs s_sum_of_weights, defBody s_sum_of_weights, defScope s_sum_of_weights, [], []⟩
def d_worth : He.DefD := ⟨("worth", none), "worth", "worth", defArgs s_worth, defBody s_worth, defScope s_worth, [], []⟩
def d_best_from : He.DefD := ⟨("best_from", none), "best_from", "best_from", defArgs s_best_from, defBody s_best_from, defScope s_best_from, [], []⟩
def d_best_word : He.DefD := ⟨("best_word", none), "best_word", "best_word", defArgs s_best_word, defBody s_best_word, defScope s_best_word, [], []⟩
def d_greatest_worth : He.DefD := ⟨("greatest_worth", none), "greatest_worth", "greatest_worth", defArgs s_greatest_worth, defBody s_greatest_worth, defScope s_greatest_worth, [], []⟩
def d_least_worth : He.DefD := ⟨("least_worth", none), "least_worth", "least_worth", defArgs s_least_worth, defBody s_least_worth, defScope s_least_worth, [], []⟩
def d_shortest : He.DefD := ⟨("shortest", none), "shortest", "shortest", defArgs s_shortest, defBody s_shortest, defScope s_shortest, [], []⟩
def d_shortest_length : He.DefD := ⟨("shortest_length", none), "shortest_length", "shortest_length", defArgs s_shortest_length, defBody s_shortest_length, defScope s_shortest_length, [], []⟩
def d_check_letter : He.DefD := ⟨("check_letter", none), "check_letter", "check_letter", defArgs s_check_letter, defBody s_check_letter, defScope s_check_letter, [], []⟩
def d_letter_range : He.DefD := ⟨("letter_range", none), "letter_range", "letter_range", defArgs s_letter_range, defBody s_letter_range, defScope s_letter_range, [], []⟩
def d_check_letters : He.DefD := ⟨("check_letters", none), "check_letters", "check_letters", defArgs s_check_letters, defBody s_check_letters, defScope s_check_letters, [], []⟩
def d_with_letters : He.DefD := ⟨("with_letters", none), "with_letters", "with_letters", defArgs s_with_letters, defBody s_with_letters, defScope s_with_letters, [], []⟩
def d_best_without : He.DefD := ⟨("best_without", none), "best_without", "best_without", defArgs s_best_without, defBody s_best_without, defScope s_best_without, [], []⟩
def d_shortest_without : He.DefD := ⟨("shortest_without", none), "shortest_without", "shortest_without", defArgs s_shortest_without, defBody s_shortest_without, defScope s_shortest_without, [], []⟩
def d_longest_without : He.DefD := ⟨("longest_without", none), "longest_without", "longest_without", defArgs s_longest_without, defBody s_longest_without, defScope s_longest_without, [], []⟩
def d_law : He.DefD := ⟨("law", none), "law", "law", defArgs s_law, defBody s_law, defScope s_law, [], []⟩
def di_Graph : He.DefD := ⟨("Graph", some "__init__"), "__init__", "Graph.__init__", defArgs sI_Graph, defBody sI_Graph, defScope sI_Graph, [], []⟩
def fns : List He.DefD := [d__law_taken, d__law_film, d_is_letter, d_check_film, d_check_listed, d_counts_from, d_count_words, d_words_of, d_listed, d_outcome_graph, d_outcomes, d_is_whole, d_check_number, d_check_weights, d_sum_of_weights, d_worth, d_best_from, d_best_word, d_greatest_worth, d_least_worth, d_shortest, d_shortest_length, d_check_letter, d_letter_range, d_check_letters, d_with_letters, d_best_without, d_shortest_without, d_longest_without, d_law, di_Graph]
def fas : List He.Fa := [.glo "_law_taken", .glo "_law_film", .glo "is_letter", .glo "check_film", .glo "check_listed", .glo "counts_from", .glo "count_words", .glo "words_of", .glo "listed", .glo "outcome_graph", .glo "outcomes", .glo "is_whole", .glo "check_number", .glo "check_weights", .glo "sum_of_weights", .glo "worth", .glo "best_from", .glo "best_word", .glo "greatest_worth", .glo "least_worth", .glo "shortest", .glo "shortest_length", .glo "check_letter", .glo "letter_range", .glo "check_letters", .glo "with_letters", .glo "best_without", .glo "shortest_without", .glo "longest_without", .glo "law", .free "bool", .free "dict", .free "enumerate", .free "int", .free "isinstance", .free "len", .free "list", .free "max", .free "min", .free "range", .free "reversed", .free "set", .free "sorted", .free "str", .free "sum", .free "tuple", .free "zip", .int "GREATEST_WEIGHT" 1000, .str "LETTERS" "abcdefgh", .int "MOST_LETTERS" 200, .int "MOST_LISTED" 5000, .glo "Graph", .cls "Graph", .noat "Graph" "arrows", .noat "Graph" "ends", .mkr "Graph"]
abbrev Rw : PySem.W.OpenRow := PySem.W.OpenLaw.row PySem.Challenge.rw_jumpcuts_k75_across_least_and_greatest
abbrev hk : PySem.W.Hook := He.hookD 4 fas fns
def ob (s : PySem.W.SharedT) : He.AlD := He.obsDG 4 fas fns (HandSHeadRun.getT s)
theorem ob_eq (s : PySem.W.SharedT) : ob s = hk.obs s.abs := He.obsDG_eq (HandSHeadRun.getT_eq s)
def lo0 : List Str := ["CutError", "BadFilm", "BadNumber", "TooLong", "Graph", "LETTERS", "MOST_LETTERS", "MOST_LISTED", "GREATEST_WEIGHT", "is_whole", "is_letter", "check_film", "check_letter", "check_letters", "check_number", "outcome_graph", "with_letters", "counts_from", "count_words", "words_of"]
def lo1 : List Str := ["check_listed", "listed", "best_from", "best_word", "check_weights", "sum_of_weights", "worth", "greatest_worth", "least_worth", "outcomes", "shortest", "shortest_length", "best_without", "shortest_without", "longest_without", "letter_range", "_law_taken", "_law_film"]
def loose : List Str := lo0 ++ lo1
set_option maxHeartbeats 0 in
theorem run (w : World) : HandSHeadRun.RunEq Rw (PySem.W.view Rw.prog [45]) hk ob 4000 loose w := by
  intro os
  kernel_rfl
theorem gs_of {K : PySem.W.Frag} {h : Heap} {mg : Str → Option Value} (X : K.In h) (G : h.Ns mainGlobals mg) (c : He.SaysD fas fns K) : Gs mg where
  f_bool := He.free_ok X G (c.fact 30 (f := .free "bool") rfl)
  f_dict := He.free_ok X G (c.fact 31 (f := .free "dict") rfl)
  f_enumerate := He.free_ok X G (c.fact 32 (f := .free "enumerate") rfl)
  f_int := He.free_ok X G (c.fact 33 (f := .free "int") rfl)
  f_isinstance := He.free_ok X G (c.fact 34 (f := .free "isinstance") rfl)
  f_len := He.free_ok X G (c.fact 35 (f := .free "len") rfl)
  f_list := He.free_ok X G (c.fact 36 (f := .free "list") rfl)
  f_max := He.free_ok X G (c.fact 37 (f := .free "max") rfl)
  f_min := He.free_ok X G (c.fact 38 (f := .free "min") rfl)
  f_range := He.free_ok X G (c.fact 39 (f := .free "range") rfl)
  f_reversed := He.free_ok X G (c.fact 40 (f := .free "reversed") rfl)
  f_set := He.free_ok X G (c.fact 41 (f := .free "set") rfl)
  f_sorted := He.free_ok X G (c.fact 42 (f := .free "sorted") rfl)
  f_str := He.free_ok X G (c.fact 43 (f := .free "str") rfl)
  f_sum := He.free_ok X G (c.fact 44 (f := .free "sum") rfl)
  f_tuple := He.free_ok X G (c.fact 45 (f := .free "tuple") rfl)
  f_zip := He.free_ok X G (c.fact 46 (f := .free "zip") rfl)
  c_GREATEST_WEIGHT := He.int_ok X G (c.fact 47 (f := .int "GREATEST_WEIGHT" 1000) rfl)
  c_LETTERS := He.str_ok X G (c.fact 48 (f := .str "LETTERS" "abcdefgh") rfl)
  c_MOST_LETTERS := He.int_ok X G (c.fact 49 (f := .int "MOST_LETTERS" 200) rfl)
  c_MOST_LISTED := He.int_ok X G (c.fact 50 (f := .int "MOST_LISTED" 5000) rfl)
theorem facts {P : Program} {w : World} {K : PySem.W.Frag} {h : Heap} {mg : Str → Option Value} {f : Addr} (X : K.In h) (G : h.Ns mainGlobals mg) (hfa : mg ("law" : Str) = some (.ref f)) (c : He.SaysD fas fns K) :
    ∃ fd : FuncData, (∀ (s : Shared) (v : Value), BindsTo s fd ⟨[v], []⟩ [("script", v)]) ∧ ∀ base : Heap, K.In base → base.Ns mainGlobals mg → FnOk P w K mg base (L2.CX P w) 9 f fd ["script"] (SpF K mg 1 F_law) := by
  have g := gs_of X G c
  obtain ⟨e__law_taken, D__law_taken⟩ := c.def_ 0 (d := d__law_taken) rfl
  have m__law_taken := He.glo_ok X G (c.fact 0 (f := .glo "_law_taken") rfl)
  obtain ⟨e__law_film, D__law_film⟩ := c.def_ 1 (d := d__law_film) rfl
  have m__law_film := He.glo_ok X G (c.fact 1 (f := .glo "_law_film") rfl)
  obtain ⟨e_is_letter, D_is_letter⟩ := c.def_ 2 (d := d_is_letter) rfl
  have m_is_letter := He.glo_ok X G (c.fact 2 (f := .glo "is_letter") rfl)
  obtain ⟨e_check_film, D_check_film⟩ := c.def_ 3 (d := d_check_film) rfl
  have m_check_film := He.glo_ok X G (c.fact 3 (f := .glo "check_film") rfl)
  obtain ⟨e_check_listed, D_check_listed⟩ := c.def_ 4 (d := d_check_listed) rfl
  have m_check_listed := He.glo_ok X G (c.fact 4 (f := .glo "check_listed") rfl)
  obtain ⟨e_counts_from, D_counts_from⟩ := c.def_ 5 (d := d_counts_from) rfl
  have m_counts_from := He.glo_ok X G (c.fact 5 (f := .glo "counts_from") rfl)
  obtain ⟨e_count_words, D_count_words⟩ := c.def_ 6 (d := d_count_words) rfl
  have m_count_words := He.glo_ok X G (c.fact 6 (f := .glo "count_words") rfl)
  obtain ⟨e_words_of, D_words_of⟩ := c.def_ 7 (d := d_words_of) rfl
  have m_words_of := He.glo_ok X G (c.fact 7 (f := .glo "words_of") rfl)
  obtain ⟨e_listed, D_listed⟩ := c.def_ 8 (d := d_listed) rfl
  have m_listed := He.glo_ok X G (c.fact 8 (f := .glo "listed") rfl)
  obtain ⟨e_outcome_graph, D_outcome_graph⟩ := c.def_ 9 (d := d_outcome_graph) rfl
  have m_outcome_graph := He.glo_ok X G (c.fact 9 (f := .glo "outcome_graph") rfl)
  obtain ⟨e_outcomes, D_outcomes⟩ := c.def_ 10 (d := d_outcomes) rfl
  have m_outcomes := He.glo_ok X G (c.fact 10 (f := .glo "outcomes") rfl)
  obtain ⟨e_is_whole, D_is_whole⟩ := c.def_ 11 (d := d_is_whole) rfl
  have m_is_whole := He.glo_ok X G (c.fact 11 (f := .glo "is_whole") rfl)
  obtain ⟨e_check_number, D_check_number⟩ := c.def_ 12 (d := d_check_number) rfl
  have m_check_number := He.glo_ok X G (c.fact 12 (f := .glo "check_number") rfl)
  obtain ⟨e_check_weights, D_check_weights⟩ := c.def_ 13 (d := d_check_weights) rfl
  have m_check_weights := He.glo_ok X G (c.fact 13 (f := .glo "check_weights") rfl)
  obtain ⟨e_sum_of_weights, D_sum_of_weights⟩ := c.def_ 14 (d := d_sum_of_weights) rfl
  have m_sum_of_weights := He.glo_ok X G (c.fact 14 (f := .glo "sum_of_weights") rfl)
  obtain ⟨e_worth, D_worth⟩ := c.def_ 15 (d := d_worth) rfl
  have m_worth := He.glo_ok X G (c.fact 15 (f := .glo "worth") rfl)
  obtain ⟨e_best_from, D_best_from⟩ := c.def_ 16 (d := d_best_from) rfl
  have m_best_from := He.glo_ok X G (c.fact 16 (f := .glo "best_from") rfl)
  obtain ⟨e_best_word, D_best_word⟩ := c.def_ 17 (d := d_best_word) rfl
  have m_best_word := He.glo_ok X G (c.fact 17 (f := .glo "best_word") rfl)
  obtain ⟨e_greatest_worth, D_greatest_worth⟩ := c.def_ 18 (d := d_greatest_worth) rfl
  have m_greatest_worth := He.glo_ok X G (c.fact 18 (f := .glo "greatest_worth") rfl)
  obtain ⟨e_least_worth, D_least_worth⟩ := c.def_ 19 (d := d_least_worth) rfl
  have m_least_worth := He.glo_ok X G (c.fact 19 (f := .glo "least_worth") rfl)
  obtain ⟨e_shortest, D_shortest⟩ := c.def_ 20 (d := d_shortest) rfl
  have m_shortest := He.glo_ok X G (c.fact 20 (f := .glo "shortest") rfl)
  obtain ⟨e_shortest_length, D_shortest_length⟩ := c.def_ 21 (d := d_shortest_length) rfl
  have m_shortest_length := He.glo_ok X G (c.fact 21 (f := .glo "shortest_length") rfl)
  obtain ⟨e_check_letter, D_check_letter⟩ := c.def_ 22 (d := d_check_letter) rfl
  have m_check_letter := He.glo_ok X G (c.fact 22 (f := .glo "check_letter") rfl)
  obtain ⟨e_letter_range, D_letter_range⟩ := c.def_ 23 (d := d_letter_range) rfl
  have m_letter_range := He.glo_ok X G (c.fact 23 (f := .glo "letter_range") rfl)
  obtain ⟨e_check_letters, D_check_letters⟩ := c.def_ 24 (d := d_check_letters) rfl
  have m_check_letters := He.glo_ok X G (c.fact 24 (f := .glo "check_letters") rfl)
  obtain ⟨e_with_letters, D_with_letters⟩ := c.def_ 25 (d := d_with_letters) rfl
  have m_with_letters := He.glo_ok X G (c.fact 25 (f := .glo "with_letters") rfl)
  obtain ⟨e_best_without, D_best_without⟩ := c.def_ 26 (d := d_best_without) rfl
  have m_best_without := He.glo_ok X G (c.fact 26 (f := .glo "best_without") rfl)
  obtain ⟨e_shortest_without, D_shortest_without⟩ := c.def_ 27 (d := d_shortest_without) rfl
  have m_shortest_without := He.glo_ok X G (c.fact 27 (f := .glo "shortest_without") rfl)
  obtain ⟨e_longest_without, D_longest_without⟩ := c.def_ 28 (d := d_longest_without) rfl
  have m_longest_without := He.glo_ok X G (c.fact 28 (f := .glo "longest_without") rfl)
  obtain ⟨e_law, D_law⟩ := c.def_ 29 (d := d_law) rfl
  have e := hfa.symm.trans (He.glo_ok X G (c.fact 29 (f := .glo "law") rfl))
  cases e
  have b := FunD.bindsA (ps := ["script"]) D_law fun _ _ _ _ _ _ us hl => match us, hl with | [_], _ => rfl
  refine ⟨e_law, fun s v => b s [v] rfl, fun base _ _ => ?_⟩
  obtain ⟨ei_Graph, Di_Graph⟩ := c.def_ 30 (d := di_Graph) rfl
  have hi_Graph := He.glo_ok X G (c.fact 51 (f := .glo "Graph") rfl)
  have c_Graph := ok_Graph (P := P) (w := w) (base := base) Di_Graph (He.mkr_ok (c.fact 55 (f := .mkr "Graph") rfl)) hi_Graph (He.cls_ok (c.fact 52 (f := .cls "Graph") rfl)) (He.noat_ok (c.fact 53 (f := .noat "Graph" "arrows") rfl)) (He.noat_ok (c.fact 54 (f := .noat "Graph" "ends") rfl))
  have c__law_taken := ok__law_taken (P := P) (w := w) (base := base) g D__law_taken m__law_taken 
  have c__law_film := ok__law_film (P := P) (w := w) (base := base) g D__law_film m__law_film c__law_taken
  have c_is_letter := ok_is_letter (P := P) (w := w) (base := base) g D_is_letter m_is_letter 
  have c_check_film := ok_check_film (P := P) (w := w) (base := base) g D_check_film m_check_film c_is_letter
  have c_check_listed := ok_check_listed (P := P) (w := w) (base := base) g D_check_listed m_check_listed 
  have c_counts_from := ok_counts_from (P := P) (w := w) (base := base) g D_counts_from m_counts_from 
  have c_count_words := ok_count_words (P := P) (w := w) (base := base) g D_count_words m_count_words c_counts_from
  have c_words_of := ok_words_of (P := P) (w := w) (base := base) g D_words_of m_words_of c_counts_from
  have c_listed := ok_listed (P := P) (w := w) (base := base) g D_listed m_listed c_check_listed c_count_words c_words_of
  have c_outcome_graph := ok_outcome_graph (P := P) (w := w) (base := base) g D_outcome_graph m_outcome_graph c_Graph
  have c_outcomes := ok_outcomes (P := P) (w := w) (base := base) g D_outcomes m_outcomes c_check_film c_listed c_outcome_graph
  have c_is_whole := ok_is_whole (P := P) (w := w) (base := base) g D_is_whole m_is_whole 
  have c_check_number := ok_check_number (P := P) (w := w) (base := base) g D_check_number m_check_number c_is_whole
  have c_check_weights := ok_check_weights (P := P) (w := w) (base := base) g D_check_weights m_check_weights c_check_number
  have c_sum_of_weights := ok_sum_of_weights (P := P) (w := w) (base := base) g D_sum_of_weights m_sum_of_weights 
  have c_worth := ok_worth (P := P) (w := w) (base := base) g D_worth m_worth c_check_film c_check_weights c_sum_of_weights
  have c_best_from := ok_best_from (P := P) (w := w) (base := base) g D_best_from m_best_from 
  have c_best_word := ok_best_word (P := P) (w := w) (base := base) g D_best_word m_best_word c_best_from
  have c_greatest_worth := ok_greatest_worth (P := P) (w := w) (base := base) g D_greatest_worth m_greatest_worth c_check_film c_check_weights c_best_word c_outcome_graph c_sum_of_weights
  have c_least_worth := ok_least_worth (P := P) (w := w) (base := base) g D_least_worth m_least_worth c_check_film c_check_weights c_best_word c_outcome_graph c_sum_of_weights
  have c_shortest := ok_shortest (P := P) (w := w) (base := base) g D_shortest m_shortest c_check_film c_best_word c_outcome_graph
  have c_shortest_length := ok_shortest_length (P := P) (w := w) (base := base) g D_shortest_length m_shortest_length c_shortest
  have c_check_letter := ok_check_letter (P := P) (w := w) (base := base) g D_check_letter m_check_letter c_is_letter
  have c_letter_range := ok_letter_range (P := P) (w := w) (base := base) g D_letter_range m_letter_range c_check_film c_check_letter c_outcome_graph c_best_from
  have c_check_letters := ok_check_letters (P := P) (w := w) (base := base) g D_check_letters m_check_letters c_check_letter
  have c_with_letters := ok_with_letters (P := P) (w := w) (base := base) g D_with_letters m_with_letters c_Graph
  have c_best_without := ok_best_without (P := P) (w := w) (base := base) g D_best_without m_best_without c_best_word c_with_letters c_outcome_graph
  have c_shortest_without := ok_shortest_without (P := P) (w := w) (base := base) g D_shortest_without m_shortest_without c_check_film c_check_letters c_best_without
  have c_longest_without := ok_longest_without (P := P) (w := w) (base := base) g D_longest_without m_longest_without c_check_film c_check_letters c_best_without
  exact law_fn g D_law c__law_film c__law_taken c_outcomes c_worth c_greatest_worth c_least_worth c_shortest_length c_shortest c_letter_range c_shortest_without c_longest_without
end LW
open PySem PySem.W PySem.Calls PyProof.Rows
theorem PySem.Challenge.cw_jumpcuts_k75_across_least_and_greatest_holds : PySem.Challenge.rw_jumpcuts_k75_across_least_and_greatest.Holds := by
  w_on; o_law
  refine HandSHeadRun.head_any (r := OpenLaw.row PySem.Challenge.rw_jumpcuts_k75_across_least_and_greatest) (q := view (OpenLaw.row PySem.Challenge.rw_jumpcuts_k75_across_least_and_greatest).prog [45]) (H := LW.hk) (ob := LW.ob) (M := 4000) (loose := LW.loose) (d := HandSHeadRun.topDef (OpenLaw.row PySem.Challenge.rw_jumpcuts_k75_across_least_and_greatest).prog 45) (kwd := []) LW.ob_eq
    (by kernel_rfl) (fun s => by kernel_rfl) LW.run (by kernel_rfl) (by kernel_rfl) (by kernel_rfl) (by rfl) (by first | assumption | decide +kernel) (by decide +kernel) ⟨rfl, rfl, rfl, rfl, rfl, by decide +kernel⟩ ?hw ?hc
  case hw => w_witness2
  case hc =>
    refine DL.walk_data (l := PySem.Challenge.rw_jumpcuts_k75_across_least_and_greatest) (n := 63) (k := 9) (x := "script") (G := LW.F_law) rfl (by decide) (by kernel_rfl) ⟨rfl, by decide, by decide⟩ ?F LW.law_true
    intro w mg fa h Y G hmg0
    obtain ⟨K, KX, c⟩ := Y
    have hmg : mg ("law" : PySem.Str) = some (.ref fa) := by
      have e : (HandSHeadRun.topDef (OpenLaw.row PySem.Challenge.rw_jumpcuts_k75_across_least_and_greatest).prog 45).name = ("law" : PySem.Str) := by kernel_rfl
      rw [← e] <;> exact hmg0
    obtain ⟨fd, hb, hF⟩ := LW.facts (P := (PySem.Challenge.rw_jumpcuts_k75_across_least_and_greatest).prog) (w := w) KX G hmg c
    exact ⟨K, fd, KX, hb, hF⟩

end
