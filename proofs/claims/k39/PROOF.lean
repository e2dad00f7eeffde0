import PyProof.Rows.All
import Wide.All
import OpenK.AllK
import Wide.FinOn
import HandS.ForMost
import HandS.Walk
import HandS.Exc
import HandS.ExcOwn
import HandS.WordsExc
import HandS.IsInst
import HandS.Flow
import HandS.WideBits
import HandS.StrMore
import HandS.TupAny
import HandS.Deep
import HandS.TupLe
import HandS.SortInts
import HandS.Defaults
import HandS.HeadHook2
import KE.GoesEnum
import KE.GoesMore
import HandS.Zip
import HandS.Rev
import HandS.RevRange
import HandS.TupMul
import HandS.Style
import HandS.HeadEnd
import HandS.Ends
import HandS.Dict
import HandS.More
import HandS.SortRule
import HandS.TupSets
import PyProof.StrBlock2
import HandS.Text
import KE.KDictZip
import HandS.SetFor
import HandS.Replace
import HandS.Conv
import HandS.SetTxt0
import HandS.SetBool
import HandS.SortOrd
import KE.DataEq
import HandS.DictComp
import HandS.ListItems
import HandS.Comp
import PyProof.StrLawsIn
import HandS.Flt
import KE.KDictList
import HandS.Strs
import PyProof.DelItemList
import KE.GoesEnumKw
import HandS.SortKw
import KE.DataMinMax
import PyProof.Rows.TupReads
import HandS.FltList
import PyProof.WalkInts
import PyProof.StrWalks
import PyProof.SliceSyntax
import PySem.Challenge.RW_jumpcuts_k39_across_ranks_of_long_films
import HandS.Head0
import HandS.Head1
import HandS.Head2
import HandS.HeadHook1
set_option Elab.async false
set_option linter.all false
set_option maxRecDepth 100000
set_option autoImplicit false
section
namespace DL
open PySem L2

/-! ### data: values as trees -/
inductive D where
  | non | bl (b : Bool) | int (i : Int) | str (x : Str) | tup (xs : List D) | lst (xs : List D) | dct (kvs : List (Key × D)) | dctT (kvs : List (List Key × D)) | obj (fs : List (Str × D)) | dctF (kvs : List (Key × D)) | ref (a : Addr) | ty (n : String)

/-- a slot of a def: unknown; a value that nothing changes any more; a list or dict that this slot alone holds -/
inductive Slot where
  | un | sh (d : D) | own (d : D) | io (d : D)
/-- what a slot holds that it may change -/
def Slot.cont : Slot → Option D
  | .own d => some d
  | .io d => some d
  | _ => none
def Slot.put : Slot → D → Slot
  | .own _, d => .own d
  | .io _, d => .io d
  | s, _ => s
abbrev Env := List Slot
structure Ex where
  name : Str
  fs : List (Str × D)
/-- a value, an error (with the slots as they stand then), or no word -/
inductive R (α : Type) where
  | ok (a : α) | err (x : Ex) (r : Env) | stk
def R.bind {α β : Type} : R α → (α → R β) → R β
  | .ok a, g => g a
  | .err x r, _ => .err x r
  | .stk, _ => .stk
def R.ofO {α : Type} : Option α → R α
  | some a => .ok a
  | none => .stk
@[simp] def Sat {α : Type} (p : α → Prop) (q : Ex → Env → Prop) : R α → Prop
  | .ok a => p a
  | .err x r => q x r
  | .stk => False
theorem Sat.bind {α β : Type} {p : β → Prop} {q : Ex → Env → Prop} {r : R α} {g : α → R β} (h : Sat p q (r.bind g)) : Sat (fun a => Sat p q (g a)) q r := by
  cases r <;> exact h
theorem Sat.mono {α : Type} {p p' : α → Prop} {q q' : Ex → Env → Prop} {r : R α} (h : Sat p q r) (hp : ∀ a, p a → p' a) (hq : ∀ x e, q x e → q' x e) : Sat p' q' r := by
  cases r with
  | ok a => exact hp a h
  | err x e => exact hq x e h
  | stk => exact h
theorem Sat.imp {α : Type} {p p' : α → Prop} {q : Ex → Env → Prop} {r : R α} (h : Sat p q r) (hp : ∀ a, p a → p' a) : Sat p' q r := h.mono hp fun _ _ z => z
theorem Sat.ofO {α : Type} {p : α → Prop} {q : Ex → Env → Prop} {o : Option α} (h : Sat p q (R.ofO o)) : ∃ a, o = some a ∧ p a := by
  cases o with
  | none => exact h.elim
  | some a => exact ⟨a, rfl, h⟩

/-! ### how data stand in the abstract heap -/
def isT : HO → Bool
  | .tup _ => true
  | .frz _ u => isT u
  | _ => false
/-- a list of the written part -/
def WrL (K : PySem.W.Frag) (a : Addr) (xs : List V) : Prop :=
  ∃ (o : Obj) (its : Array Value) (n : Nat), K.lookup a = some o ∧ o.cls = .type "list" ∧ o.dict = none ∧ o.data = .seq its n ∧ its.size ≤ sizeLine ∧ Vals xs its.toList
/-- a tuple of the written part -/
def WrT (K : PySem.W.Frag) (a : Addr) (xs : List V) : Prop :=
  ∃ (o : Obj) (its : Array Value) (n : Nat), K.lookup a = some o ∧ o.cls = .type "tuple" ∧ o.data = .seq its n ∧ its.size ≤ sizeLine ∧ Vals xs its.toList
mutual
/-- the value v stands for d; no list or dict of it is one of A -/
def Rep (K : PySem.W.Frag) (H : Hp) (A : Addr → Prop) : D → V → Prop
  | .non, v => v = .non
  | .bl b, v => v = .bl b
  | .int i, v => v = .int i
  | .str x, v => v = .str x
  | .ref a, v => v = .ref a
  | .ty n, v => v = .ty n
  | .tup ds, v => ∃ a xs, v = .ref a ∧ (H a = some (.tup xs) ∨ WrT K a xs) ∧ RepL K H A ds xs
  | .lst ds, v => ∃ a xs, v = .ref a ∧ ((Rd H a (.lst xs) ∧ ¬ A a) ∨ WrL K a xs) ∧ RepL K H A ds xs
  | .dct kvs, v => ∃ a vs, v = .ref a ∧ H a = some (.dK vs) ∧ ¬ A a ∧ RepK K H A kvs vs
  | .dctT kvs, v => ∃ a vs, v = .ref a ∧ H a = some (.dT vs) ∧ ¬ A a ∧ RepM K H A kvs vs
  | .dctF kvs, v => ∃ a o vs, v = .ref a ∧ H a = some (.frz o (.dK vs)) ∧ ¬ A a ∧ RepK K H A kvs vs
  | .obj fs, v => ∃ a C dx vs, v = .ref a ∧ H a = some (.ins C dx vs) ∧ ¬ A a ∧ Cls K C ∧ (∀ p ∈ fs, NoAttr K C p.1) ∧ RepF K H A fs vs
def RepL (K : PySem.W.Frag) (H : Hp) (A : Addr → Prop) : List D → List V → Prop
  | [], vs => vs = []
  | d :: ds, vs => ∃ v r, vs = v :: r ∧ Rep K H A d v ∧ RepL K H A ds r
def RepK (K : PySem.W.Frag) (H : Hp) (A : Addr → Prop) : List (Key × D) → List (Key × V) → Prop
  | [], vs => vs = []
  | (k, d) :: ds, vs => ∃ v r, vs = (k, v) :: r ∧ Rep K H A d v ∧ RepK K H A ds r
def RepM (K : PySem.W.Frag) (H : Hp) (A : Addr → Prop) : List (List Key × D) → List (List Key × V) → Prop
  | [], vs => vs = []
  | (k, d) :: ds, vs => ∃ v r, vs = (k, v) :: r ∧ Rep K H A d v ∧ RepM K H A ds r
def RepF (K : PySem.W.Frag) (H : Hp) (A : Addr → Prop) : List (Str × D) → List (Str × V) → Prop
  | [], vs => vs = []
  | (k, d) :: ds, vs => ∃ v r, vs = (k, v) :: r ∧ Rep K H A d v ∧ RepF K H A ds r
end
def AOk (A : Addr → Prop) (H : Hp) : Prop := ∀ a, A a → ∃ o, H a = some o ∧ isT o = false
/-- what is not A's stays, and does not become A''s -/
def Keep (A A' : Addr → Prop) (H H' : Hp) : Prop := ∀ b o, H b = some o → ¬ A b → H' b = some o ∧ ¬ A' b
theorem Keep.refl {A : Addr → Prop} {H : Hp} : Keep A A H H := fun _ _ h n => ⟨h, n⟩
theorem Keep.trans {A A' A'' : Addr → Prop} {H H' H'' : Hp} (a : Keep A A' H H') (b : Keep A' A'' H' H'') : Keep A A'' H H'' := fun c o h n => by
  obtain ⟨h1, n1⟩ := a c o h n
  exact b c o h1 n1
theorem Keep.of {A : Addr → Prop} {H H' : Hp} (s : Same H H') : Keep A A H H' := fun b o h n => ⟨s b o h, n⟩
section
variable {K : PySem.W.Frag} {H H' : Hp} {A A' : Addr → Prop}
theorem AOk.tup (a : AOk A H) {b : Addr} {o : HO} (h : H b = some o) (t : isT o = true) : ¬ A b := fun z => by
  obtain ⟨u, e, f⟩ := a b z
  rw [h] at e
  cases e
  rw [t] at f
  cases f
theorem AOk.fresh (a : AOk A H) {p : Addr} (h : H p = none) : ¬ A p := fun z => by
  obtain ⟨u, e, f⟩ := a p z
  rw [h] at e
  cases e
theorem tup_keep (k : Keep A A' H H') (a : AOk A H) {b : Addr} {xs : List V} (h : H b = some (.tup xs) ∨ WrT K b xs) : H' b = some (.tup xs) ∨ WrT K b xs := by
  rcases h with h | h
  · exact .inl (k _ _ h (a.tup h rfl)).1
  · exact .inr h
theorem tup_sq {b : Addr} {xs : List V} (h : H b = some (.tup xs) ∨ WrT K b xs) : SqT K H b xs := by
  rcases h with h | h
  · exact .inl (.inl h)
  · exact .inr h
theorem Rd.keep (k : Keep A A' H H') {b : Addr} {u : HO} (h : Rd H b u) (n : ¬ A b) : Rd H' b u ∧ ¬ A' b := by
  rcases h with h | ⟨o, h⟩
  · exact ⟨.inl (k _ _ h n).1, (k _ _ h n).2⟩
  · exact ⟨.inr ⟨o, (k _ _ h n).1⟩, (k _ _ h n).2⟩
mutual
theorem Rep.keep (k : Keep A A' H H') (a : AOk A H) : ∀ (d : D) (v : V), Rep K H A d v → Rep K H' A' d v
  | .non, _, h => h
  | .bl _, _, h => h
  | .int _, _, h => h
  | .str _, _, h => h
  | .ref _, _, h => h
  | .ty _, _, h => h
  | .tup ds, v, h => by
    unfold Rep at h ⊢
    obtain ⟨b, xs, e, hs, hr⟩ := h
    exact ⟨b, xs, e, tup_keep k a hs, RepL.keep k a ds xs hr⟩
  | .lst ds, v, h => by
    unfold Rep at h ⊢
    obtain ⟨b, xs, e, hs, hr⟩ := h
    refine ⟨b, xs, e, ?_, RepL.keep k a ds xs hr⟩
    rcases hs with ⟨h1, h2⟩ | hs
    · exact .inl (Rd.keep k h1 h2)
    · exact .inr hs
  | .dct ds, v, h => by
    unfold Rep at h ⊢
    obtain ⟨b, xs, e, hs, hn, hr⟩ := h
    exact ⟨b, xs, e, (k _ _ hs hn).1, (k _ _ hs hn).2, RepK.keep k a ds xs hr⟩
  | .dctT ds, v, h => by
    unfold Rep at h ⊢
    obtain ⟨b, xs, e, hs, hn, hr⟩ := h
    exact ⟨b, xs, e, (k _ _ hs hn).1, (k _ _ hs hn).2, RepM.keep k a ds xs hr⟩
  | .dctF ds, v, h => by
    unfold Rep at h ⊢
    obtain ⟨b, o, xs, e, hs, hn, hr⟩ := h
    exact ⟨b, o, xs, e, (k _ _ hs hn).1, (k _ _ hs hn).2, RepK.keep k a ds xs hr⟩
  | .obj ds, v, h => by
    unfold Rep at h ⊢
    obtain ⟨b, C, dx, xs, e, hs, hn, hc, hno, hr⟩ := h
    exact ⟨b, C, dx, xs, e, (k _ _ hs hn).1, (k _ _ hs hn).2, hc, hno, RepF.keep k a ds xs hr⟩
theorem RepL.keep (k : Keep A A' H H') (a : AOk A H) : ∀ (ds : List D) (vs : List V), RepL K H A ds vs → RepL K H' A' ds vs
  | [], _, h => h
  | d :: ds, vs, h => by
    unfold RepL at h ⊢
    obtain ⟨v, r, e, h1, h2⟩ := h
    exact ⟨v, r, e, Rep.keep k a d v h1, RepL.keep k a ds r h2⟩
theorem RepK.keep (k : Keep A A' H H') (a : AOk A H) : ∀ (ds : List (Key × D)) (vs : List (Key × V)), RepK K H A ds vs → RepK K H' A' ds vs
  | [], _, h => h
  | (q, d) :: ds, vs, h => by
    unfold RepK at h ⊢
    obtain ⟨v, r, e, h1, h2⟩ := h
    exact ⟨v, r, e, Rep.keep k a d v h1, RepK.keep k a ds r h2⟩
theorem RepM.keep (k : Keep A A' H H') (a : AOk A H) : ∀ (ds : List (List Key × D)) (vs : List (List Key × V)), RepM K H A ds vs → RepM K H' A' ds vs
  | [], _, h => h
  | (q, d) :: ds, vs, h => by
    unfold RepM at h ⊢
    obtain ⟨v, r, e, h1, h2⟩ := h
    exact ⟨v, r, e, Rep.keep k a d v h1, RepM.keep k a ds r h2⟩
theorem RepF.keep (k : Keep A A' H H') (a : AOk A H) : ∀ (ds : List (Str × D)) (vs : List (Str × V)), RepF K H A ds vs → RepF K H' A' ds vs
  | [], _, h => h
  | (q, d) :: ds, vs, h => by
    unfold RepF at h ⊢
    obtain ⟨v, r, e, h1, h2⟩ := h
    exact ⟨v, r, e, Rep.keep k a d v h1, RepF.keep k a ds r h2⟩
end
theorem Rep.same (s : Same H H') (a : AOk A H) {d : D} {v : V} (h : Rep K H A d v) : Rep K H' A d v := Rep.keep (Keep.of s) a d v h
theorem RepL.same (s : Same H H') (a : AOk A H) {d : List D} {v : List V} (h : RepL K H A d v) : RepL K H' A d v := RepL.keep (Keep.of s) a d v h
end
/-- the list or dict at a, a slot's own -/
def RepO (K : PySem.W.Frag) (H : Hp) (A : Addr → Prop) : D → Addr → Prop
  | .lst ds, a => ∃ xs, H a = some (.lst xs) ∧ RepL K H A ds xs
  | .dct kvs, a => ∃ vs, H a = some (.dK vs) ∧ RepK K H A kvs vs
  | .dctT kvs, a => ∃ vs, H a = some (.dT vs) ∧ RepM K H A kvs vs
  | _, _ => False
/-- a value that is only looked at: it may be a slot's own -/
def RepB (K : PySem.W.Frag) (H : Hp) (A : Addr → Prop) (d : D) (v : V) : Prop := Rep K H A d v ∨ ∃ a, v = .ref a ∧ RepO K H A d a
section
variable {K : PySem.W.Frag} {H H' : Hp} {A A' : Addr → Prop}
theorem RepO.same (s : Same H H') (a : AOk A H) {d : D} {b : Addr} (h : RepO K H A d b) : RepO K H' A d b := by
  cases d with
  | lst ds => obtain ⟨xs, e, r⟩ := h; exact ⟨xs, s _ _ e, RepL.keep (Keep.of s) a _ _ r⟩
  | dct ds => obtain ⟨xs, e, r⟩ := h; exact ⟨xs, s _ _ e, RepK.keep (Keep.of s) a _ _ r⟩
  | dctT ds => obtain ⟨xs, e, r⟩ := h; exact ⟨xs, s _ _ e, RepM.keep (Keep.of s) a _ _ r⟩
  | _ => exact h.elim
theorem RepB.same (s : Same H H') (a : AOk A H) {d : D} {v : V} (h : RepB K H A d v) : RepB K H' A d v := by
  rcases h with h | ⟨b, e, h⟩
  · exact .inl (h.same s a)
  · exact .inr ⟨b, e, RepO.same s a h⟩
theorem RepO.isT {d : D} {b : Addr} (h : RepO K H A d b) : ∃ o, H b = some o ∧ isT o = false := by
  cases d with
  | lst ds => obtain ⟨xs, e, r⟩ := h; exact ⟨_, e, rfl⟩
  | dct ds => obtain ⟨xs, e, r⟩ := h; exact ⟨_, e, rfl⟩
  | dctT ds => obtain ⟨xs, e, r⟩ := h; exact ⟨_, e, rfl⟩
  | _ => exact h.elim
theorem RepO.keepNe (k : Keep A A' H H') (a : AOk A H) {d : D} {b : Addr} (h : RepO K H A d b) (hb : H' b = H b) : RepO K H' A' d b := by
  cases d with
  | lst ds => obtain ⟨xs, e, r⟩ := h; exact ⟨xs, hb.trans e, RepL.keep k a _ _ r⟩
  | dct ds => obtain ⟨xs, e, r⟩ := h; exact ⟨xs, hb.trans e, RepK.keep k a _ _ r⟩
  | dctT ds => obtain ⟨xs, e, r⟩ := h; exact ⟨xs, hb.trans e, RepM.keep k a _ _ r⟩
  | _ => exact h.elim
end

/-! ### the slots -/
def Av (A0 : Addr → Prop) (os : List (Option Addr)) (a : Addr) : Prop := A0 a ∨ some a ∈ os
def SlotOk (K : PySem.W.Frag) (H : Hp) (A : Addr → Prop) (io : Addr → Prop) : Slot → Option V → Option Addr → Prop
  | .un, _, o => o = none
  | .sh d, v, o => o = none ∧ ∃ u, v = some u ∧ Rep K H A d u
  | .own d, v, o => ∃ a, o = some a ∧ v = some (.ref a) ∧ RepO K H A d a
  | .io d, v, o => ∃ a, o = some a ∧ v = some (.ref a) ∧ RepO K H A d a ∧ io a
theorem SlotOk.cont {K : PySem.W.Frag} {H : Hp} {A io : Addr → Prop} {s : Slot} {d : D} {v : Option V} {o : Option Addr} (q : SlotOk K H A io s v o) (e : s.cont = some d) : ∃ a, o = some a ∧ v = some (.ref a) ∧ RepO K H A d a ∧ ∀ H' A' d', RepO K H' A' d' a → SlotOk K H' A' io (s.put d') v o := by
  cases s with
  | own d0 =>
    cases e
    obtain ⟨a, e1, e2, h⟩ := q
    exact ⟨a, e1, e2, h, fun H' A' d' h' => ⟨a, e1, e2, h'⟩⟩
  | io d0 =>
    cases e
    obtain ⟨a, e1, e2, h, i⟩ := q
    exact ⟨a, e1, e2, h, fun H' A' d' h' => ⟨a, e1, e2, h', i⟩⟩
  | _ => cases e
/-- a def's frame: the lists and dicts of its callers' slots, the heap at the entry, what it may change of it -/
structure Fm where
  A0 : Addr → Prop
  H0 : Hp
  io : Addr → Prop
structure Rel (K : PySem.W.Frag) (F : Fm) (os : List (Option Addr)) (r : Env) (σ : St) (H : Hp) : Prop where
  lens : σ.length = r.length
  leno : os.length = r.length
  slot : ∀ (i : Nat) (s : Slot) (v : Option V) (o : Option Addr), r[i]? = some s → σ[i]? = some v → os[i]? = some o → SlotOk K H (Av F.A0 os) F.io s v o
  inj : ∀ (i j : Nat) (a : Addr), os[i]? = some (some a) → os[j]? = some (some a) → i = j
  out : ∀ (i : Nat) (a : Addr), os[i]? = some (some a) → ¬ F.A0 a
  aok : ∀ (a : Addr), F.A0 a → ∃ o, H a = some o ∧ isT o = false
  same : ∀ (b : Addr) (o : HO), F.H0 b = some o → ¬ F.io b → H b = some o
  new : ∀ (i : Nat) (a : Addr), os[i]? = some (some a) → F.H0 a = none ∨ F.io a
theorem getElem?_set_cases {α : Type} {l : List α} {i j : Nat} {x y : α} (h : (l.set i x)[j]? = some y) : (i = j ∧ y = x) ∨ (i ≠ j ∧ l[j]? = some y) := by
  by_cases e : i = j
  · subst e
    by_cases hl : i < l.length
    · rw [List.getElem?_set_self hl] at h
      exact .inl ⟨rfl, (Option.some.inj h).symm⟩
    · rw [List.getElem?_eq_none (by simpa using hl)] at h
      cases h
  · rw [List.getElem?_set_ne e] at h
    exact .inr ⟨e, h⟩
theorem mem_set_cases {os : List (Option Addr)} {i : Nat} {o : Option Addr} {a : Addr} (h : some a ∈ os.set i o) : some a ∈ os ∨ o = some a := by
  rcases List.mem_or_eq_of_mem_set h with h | h
  · exact .inl h
  · exact .inr h.symm
section
variable {K : PySem.W.Frag} {F : Fm} {os : List (Option Addr)} {r : Env} {σ : St} {H H' : Hp}
theorem Rel.get (R : Rel K F os r σ H) {i : Nat} {s : Slot} (e : r[i]? = some s) : ∃ v o, σ[i]? = some v ∧ os[i]? = some o ∧ SlotOk K H (Av F.A0 os) F.io s v o := by
  have hi : i < r.length := (List.getElem?_eq_some_iff.mp e).1
  have h1 : i < σ.length := by rw [R.lens]; exact hi
  have h2 : i < os.length := by rw [R.leno]; exact hi
  exact ⟨σ[i], os[i], List.getElem?_eq_getElem h1, List.getElem?_eq_getElem h2, R.slot i s _ _ e (List.getElem?_eq_getElem h1) (List.getElem?_eq_getElem h2)⟩
theorem Rel.own (R : Rel K F os r σ H) {i : Nat} {a : Addr} (e : os[i]? = some (some a)) : ∃ s d, r[i]? = some s ∧ s.cont = some d ∧ σ[i]? = some (some (.ref a)) ∧ RepO K H (Av F.A0 os) d a := by
  have hi : i < os.length := (List.getElem?_eq_some_iff.mp e).1
  have hr : i < r.length := by rw [← R.leno]; exact hi
  have er : r[i]? = some r[i] := List.getElem?_eq_getElem hr
  obtain ⟨v, o, e1, e2, s⟩ := R.get er
  rw [e] at e2
  cases e2
  cases q : r[i] with
  | un =>
    rw [q] at s
    have z : some a = (none : Option Addr) := s
    cases z
  | sh d =>
    rw [q] at s
    have z : some a = (none : Option Addr) := s.1
    cases z
  | own d =>
    rw [q] at s
    obtain ⟨a', e3, e4, s⟩ := s
    cases e3
    exact ⟨.own d, d, by rw [er, q], rfl, by rw [e1, e4], s⟩
  | io d =>
    rw [q] at s
    obtain ⟨a', e3, e4, s, _⟩ := s
    cases e3
    exact ⟨.io d, d, by rw [er, q], rfl, by rw [e1, e4], s⟩
theorem Rel.AOk (R : Rel K F os r σ H) : AOk (Av F.A0 os) H := fun a h => by
  rcases h with h | h
  · exact R.aok a h
  · obtain ⟨i, hi, e⟩ := List.getElem_of_mem h
    obtain ⟨_, d, _, _, _, s⟩ := R.own (i := i) (a := a) (by rw [List.getElem?_eq_getElem hi, e])
    exact s.isT
theorem Rel.same' (R : Rel K F os r σ H) (s : Same H H') : Rel K F os r σ H' := by
  have ak := R.AOk
  refine ⟨R.lens, R.leno, fun i sl v o e1 e2 e3 => ?_, R.inj, R.out, fun a h => ?_, fun b o e n => s _ _ (R.same b o e n), R.new⟩
  · have q := R.slot i sl v o e1 e2 e3
    cases sl with
    | un => exact q
    | sh d =>
      obtain ⟨q1, u, q2, q3⟩ := q
      exact ⟨q1, u, q2, q3.same s ak⟩
    | own d =>
      obtain ⟨a, q1, q2, q3⟩ := q
      exact ⟨a, q1, q2, RepO.same s ak q3⟩
    | io d =>
      obtain ⟨a, q1, q2, q3, q4⟩ := q
      exact ⟨a, q1, q2, RepO.same s ak q3, q4⟩
  · obtain ⟨o, h1, h2⟩ := R.aok a h
    exact ⟨o, s _ _ h1, h2⟩
theorem Rel.notIn (R : Rel K F os r σ H) {p : Addr} (h : H p = none) : ¬ Av F.A0 os p := R.AOk.fresh h
theorem SlotOk.keep {A A' io : Addr → Prop} (k : Keep A A' H H') (ak : DL.AOk A H) {sl : Slot} {v : Option V} {o : Option Addr} (q : SlotOk K H A io sl v o) (ho : ∀ a, o = some a → H' a = H a) : SlotOk K H' A' io sl v o := by
  cases sl with
  | un => exact q
  | sh d =>
    obtain ⟨q1, u, q2, q3⟩ := q
    exact ⟨q1, u, q2, Rep.keep k ak _ _ q3⟩
  | own d =>
    obtain ⟨a, q1, q2, q3⟩ := q
    exact ⟨a, q1, q2, RepO.keepNe k ak q3 (ho a q1)⟩
  | io d =>
    obtain ⟨a, q1, q2, q3, q4⟩ := q
    exact ⟨a, q1, q2, RepO.keepNe k ak q3 (ho a q1), q4⟩
/-- a slot takes a new value: shared -/
theorem Rel.setSh (R : Rel K F os r σ H) {i : Nat} {d : D} {v : V} (h : Rep K H (Av F.A0 os) d v) :
    Rel K F (os.set i none) (r.set i (.sh d)) (σ.set i (some v)) H ∧ Keep (Av F.A0 os) (Av F.A0 (os.set i none)) H H := by
  have ak := R.AOk
  have kp : Keep (Av F.A0 os) (Av F.A0 (os.set i none)) H H := fun b o e n => ⟨e, fun z => n (by
    rcases z with z | z
    · exact .inl z
    · rcases mem_set_cases z with z | z
      · exact .inr z
      · cases z)⟩
  refine ⟨⟨by simp [R.lens], by simp [R.leno], fun j sl w o e1 e2 e3 => ?_, fun j k a e1 e2 => ?_, fun j a e => ?_, R.aok, R.same, fun j a e => ?_⟩, kp⟩
  · rcases getElem?_set_cases e1 with ⟨e, z1⟩ | ⟨e, e1⟩
    · subst e
      subst z1
      rcases getElem?_set_cases e2 with ⟨_, z2⟩ | ⟨z, _⟩
      · rcases getElem?_set_cases e3 with ⟨_, z3⟩ | ⟨z, _⟩
        · exact ⟨z3, v, z2, Rep.keep kp ak d v h⟩
        · exact absurd rfl z
      · exact absurd rfl z
    · rw [List.getElem?_set_ne e] at e2 e3
      exact (R.slot j sl w o e1 e2 e3).keep kp ak fun _ _ => rfl
  · rcases getElem?_set_cases e1 with ⟨_, z⟩ | ⟨_, e1⟩
    · cases z
    · rcases getElem?_set_cases e2 with ⟨_, z⟩ | ⟨_, e2⟩
      · cases z
      · exact R.inj j k a e1 e2
  · rcases getElem?_set_cases e with ⟨_, z⟩ | ⟨_, e⟩
    · cases z
    · exact R.out j a e
  · rcases getElem?_set_cases e with ⟨_, z⟩ | ⟨_, e⟩
    · cases z
    · exact R.new j a e
def Ad (A : Addr → Prop) (p : Addr) (a : Addr) : Prop := A a ∨ a = p
/-- a slot takes a new list or dict, its own from now on -/
theorem Rel.setOwn (R : Rel K F os r σ H) {i : Nat} {d : D} {p : Addr} (s : Same H H') (n : H p = none) (h : RepO K H' (Ad (Av F.A0 os) p) d p) :
    Rel K F (os.set i (some p)) (r.set i (.own d)) (σ.set i (some (.ref p))) H' ∧ Keep (Av F.A0 os) (Av F.A0 (os.set i (some p))) H H' := by
  have ak := R.AOk
  have np := R.notIn n
  have nos : some p ∉ os := fun z => np (.inr z)
  have kp : Keep (Av F.A0 os) (Av F.A0 (os.set i (some p))) H H' := fun b o e nb => ⟨s b o e, fun z => nb (by
    rcases z with z | z
    · exact .inl z
    · rcases mem_set_cases z with z | z
      · exact .inr z
      · cases z
        rw [n] at e
        cases e)⟩
  obtain ⟨oT, hT, fT⟩ := h.isT
  have ak2 : DL.AOk (Ad (Av F.A0 os) p) H' := fun a z => by
    rcases z with z | z
    · obtain ⟨o, h1, h2⟩ := ak a z
      exact ⟨o, s _ _ h1, h2⟩
    · subst z
      exact ⟨oT, hT, fT⟩
  have kp2 : Keep (Ad (Av F.A0 os) p) (Av F.A0 (os.set i (some p))) H' H' := fun b o e nb => ⟨e, fun z => nb (by
    rcases z with z | z
    · exact .inl (.inl z)
    · rcases mem_set_cases z with z | z
      · exact .inl (.inr z)
      · cases z
        exact .inr rfl)⟩
  have ho : ∀ (j : Nat) (a : Addr), os[j]? = some (some a) → H' a = H a := fun j a e => by
    obtain ⟨_, _, _, _, _, q⟩ := R.own e
    obtain ⟨o, h1, _⟩ := q.isT
    rw [h1]
    exact s _ _ h1
  refine ⟨⟨by simp [R.lens], by simp [R.leno], fun j sl w o e1 e2 e3 => ?_, fun j k a e1 e2 => ?_, fun j a e => ?_, fun a z => ?_, fun b o e nb => s _ _ (R.same b o e nb), fun j a e => ?_⟩, kp⟩
  · rcases getElem?_set_cases e1 with ⟨e, z1⟩ | ⟨e, e1⟩
    · subst e
      subst z1
      rcases getElem?_set_cases e2 with ⟨_, z2⟩ | ⟨z, _⟩
      · rcases getElem?_set_cases e3 with ⟨_, z3⟩ | ⟨z, _⟩
        · exact ⟨p, z3, z2, RepO.keepNe kp2 ak2 h rfl⟩
        · exact absurd rfl z
      · exact absurd rfl z
    · rw [List.getElem?_set_ne e] at e2 e3
      exact (R.slot j sl w o e1 e2 e3).keep kp ak fun a z => ho j a (by rw [e3, z])
  · rcases getElem?_set_cases e1 with ⟨q1, z1⟩ | ⟨q1, e1⟩
    · rcases getElem?_set_cases e2 with ⟨q2, z2⟩ | ⟨q2, e2⟩
      · rw [← q1, ← q2]
      · cases z1
        exact absurd (List.mem_of_getElem? e2) nos
    · rcases getElem?_set_cases e2 with ⟨q2, z2⟩ | ⟨q2, e2⟩
      · cases z2
        exact absurd (List.mem_of_getElem? e1) nos
      · exact R.inj j k a e1 e2
  · rcases getElem?_set_cases e with ⟨_, z⟩ | ⟨_, e⟩
    · cases z
      exact fun z => np (.inl z)
    · exact R.out j a e
  · obtain ⟨o, h1, h2⟩ := R.aok a z
    exact ⟨o, s _ _ h1, h2⟩
  · rcases getElem?_set_cases e with ⟨_, z⟩ | ⟨_, e⟩
    · cases z
      by_cases hio : F.io p
      · exact .inr hio
      · cases q : F.H0 p with
        | none => exact .inl rfl
        | some o =>
          have := R.same p o q hio
          rw [n] at this
          cases this
    · exact R.new j a e
/-- a slot's own list or dict changes -/
theorem Rel.updOwn (R : Rel K F os r σ H) {i : Nat} {s : Slot} {d d' : D} {a : Addr} {o' : HO} (e : r[i]? = some s) (ec : s.cont = some d) (ea : σ[i]? = some (some (.ref a))) (h : RepO K (upd H a o') (Av F.A0 os) d' a) :
    Rel K F os (r.set i (s.put d')) σ (upd H a o') ∧ Keep (Av F.A0 os) (Av F.A0 os) H (upd H a o') := by
  have ak := R.AOk
  obtain ⟨v, o, e1, e2, q0⟩ := R.get e
  obtain ⟨a', z1, z2, q, qq⟩ := q0.cont ec
  subst z1
  rw [ea] at e1
  cases e1
  cases z2
  have inA : Av F.A0 os a := .inr (List.mem_of_getElem? e2)
  have kp : Keep (Av F.A0 os) (Av F.A0 os) H (upd H a o') := fun b u eb nb => ⟨by
    rw [upd_ne (fun z => nb (by rw [z]; exact inA))]
    exact eb, nb⟩
  refine ⟨⟨by simp [R.lens], by simp [R.leno], fun j sl w u e1 e2' e3 => ?_, R.inj, R.out, fun b z => ?_, fun b u eb nb => ?_, R.new⟩, kp⟩
  · rcases getElem?_set_cases e1 with ⟨ej, z1⟩ | ⟨ej, e1⟩
    · subst ej
      subst z1
      rw [e2] at e3
      cases e3
      rw [ea] at e2'
      cases e2'
      exact qq _ _ _ h
    · refine (R.slot j sl w u e1 e2' e3).keep kp ak fun b z => upd_ne fun zz => ej ?_
      subst z
      subst zz
      exact R.inj i j b e2 e3
  · obtain ⟨u, h1, h2⟩ := R.aok b z
    have hne : b ≠ a := fun zz => R.out i a e2 (by rw [← zz]; exact z)
    exact ⟨u, by rw [upd_ne hne]; exact h1, h2⟩
  · have hne : b ≠ a := fun zz => by
      subst zz
      rcases R.new i b e2 with h1 | h1
      · rw [h1] at eb
        cases eb
      · exact nb h1
    rw [upd_ne hne]
    exact R.same b u eb nb
/-- a slot's own list or dict becomes a value as others -/
theorem Rel.freeze (R : Rel K F os r σ H) {i : Nat} {d : D} (e : r[i]? = some (.own d)) :
    Rel K F (os.set i none) (r.set i (.sh d)) σ H ∧ Keep (Av F.A0 os) (Av F.A0 (os.set i none)) H H ∧ ∃ a, σ[i]? = some (some (.ref a)) ∧ Rep K H (Av F.A0 (os.set i none)) d (.ref a) := by
  have ak := R.AOk
  obtain ⟨v, o, e1, e2, a, z1, z2, q⟩ := R.get e
  subst z1
  subst z2
  have kp : Keep (Av F.A0 os) (Av F.A0 (os.set i none)) H H := fun b o e n => ⟨e, fun z => n (by
    rcases z with z | z
    · exact .inl z
    · rcases mem_set_cases z with z | z
      · exact .inr z
      · cases z)⟩
  have na : ¬ Av F.A0 (os.set i none) a := fun z => by
    rcases z with z | z
    · exact R.out i a e2 z
    · obtain ⟨j, hj, ej⟩ := List.getElem_of_mem z
      have ej' : (os.set i none)[j]? = some (some a) := by rw [List.getElem?_eq_getElem hj, ej]
      rcases getElem?_set_cases ej' with ⟨_, z⟩ | ⟨nij, z⟩
      · cases z
      · exact nij (R.inj i j a e2 z)
  have rep : Rep K H (Av F.A0 (os.set i none)) d (.ref a) := by
    cases d with
    | lst ds =>
      obtain ⟨xs, h1, h2⟩ := q
      unfold Rep
      exact ⟨a, xs, rfl, .inl ⟨.inl h1, na⟩, RepL.keep kp ak _ _ h2⟩
    | dct ds =>
      obtain ⟨xs, h1, h2⟩ := q
      unfold Rep
      exact ⟨a, xs, rfl, h1, na, RepK.keep kp ak _ _ h2⟩
    | dctT ds =>
      obtain ⟨xs, h1, h2⟩ := q
      unfold Rep
      exact ⟨a, xs, rfl, h1, na, RepM.keep kp ak _ _ h2⟩
    | _ => exact q.elim
  refine ⟨⟨by simp [R.lens], by simp [R.leno], fun j sl w u e3 e4 e5 => ?_, fun j k b e3 e4 => ?_, fun j b e3 => ?_, R.aok, R.same, fun j b e3 => ?_⟩, kp, a, e1, rep⟩
  · rcases getElem?_set_cases e3 with ⟨ej, z1⟩ | ⟨ej, e3⟩
    · subst ej
      subst z1
      rw [e1] at e4
      cases e4
      rcases getElem?_set_cases e5 with ⟨_, z3⟩ | ⟨z, _⟩
      · exact ⟨z3, _, rfl, rep⟩
      · exact absurd rfl z
    · rw [List.getElem?_set_ne ej] at e5
      exact (R.slot j sl w u e3 e4 e5).keep kp ak fun _ _ => rfl
  · rcases getElem?_set_cases e3 with ⟨_, z⟩ | ⟨_, e3⟩
    · cases z
    · rcases getElem?_set_cases e4 with ⟨_, z⟩ | ⟨_, e4⟩
      · cases z
      · exact R.inj j k b e3 e4
  · rcases getElem?_set_cases e3 with ⟨_, z⟩ | ⟨_, e3⟩
    · cases z
    · exact R.out j b e3
  · rcases getElem?_set_cases e3 with ⟨_, z⟩ | ⟨_, e3⟩
    · cases z
    · exact R.new j b e3
end
end DL

end
section
namespace DL
open PySem L2

/-! ### errors in the air, wishes -/
def XRep (K : PySem.W.Frag) (mg : Str → Option Value) (H : Hp) (x : Ex) (cls : Value) (dd : Option Addr) : Prop :=
  ∃ C, mg x.name = some (.ref C) ∧ cls = .ref C ∧ (x.fs = [] ∨ ∃ d vs, dd = some d ∧ H d = some (.xd vs) ∧ x.fs.map (·.1) = vs.map (·.1) ∧ ∀ (i : Nat) p q, x.fs[i]? = some p → vs[i]? = some q → Rep K H (fun _ => False) p.2 q.2)
def ErK (K : PySem.W.Frag) (mg : Str → Option Value) (W : WX) (F : Fm) (x : Ex) (r : Env) : Prop :=
  ∀ (os : List (Option Addr)) (σ : St) (cls : Value) (dd : Option Addr) (H : Hp), Rel K F os r σ H → XRep K mg H x cls dd → W cls dd σ H
abbrev Er (X : Cx) (W : WX) (F : Fm) (x : Ex) (r : Env) : Prop := ErK X.K X.mg W F x r
/-- a value that is only looked at; the slots stay -/
structure DB (X : Cx) (W : WX) (e : Expr) (f : Env → R D) : Prop where
  ex : ∃ t, PE X e t ∧ ∀ (F : Fm) (os : List (Option Addr)) (r : Env) (σ : St) (H : Hp) (Q : VK), Rel X.K F os r σ H →
    Sat (fun d => ∀ v H', Same H H' → RepB X.K H' (Av F.A0 os) d v → Q v H') (Er X W F) (f r) → t σ H Q
/-- a value; the slots stay -/
structure DP (X : Cx) (W : WX) (e : Expr) (f : Env → R D) : Prop where
  ex : ∃ t, PE X e t ∧ ∀ (F : Fm) (os : List (Option Addr)) (r : Env) (σ : St) (H : Hp) (Q : VK), Rel X.K F os r σ H →
    Sat (fun d => ∀ v H', Same H H' → Rep X.K H' (Av F.A0 os) d v → Q v H') (Er X W F) (f r) → t σ H Q
/-- a new list or dict; the slots stay -/
structure DF (X : Cx) (W : WX) (e : Expr) (f : Env → R D) : Prop where
  ex : ∃ t, PE X e t ∧ ∀ (F : Fm) (os : List (Option Addr)) (r : Env) (σ : St) (H : Hp) (Q : VK), Rel X.K F os r σ H →
    Sat (fun d => ∀ p H', Same H H' → H p = none → RepO X.K H' (Ad (Av F.A0 os) p) d p → Q (.ref p) H') (Er X W F) (f r) → t σ H Q
/-- a value; the lists that slots hold may change -/
structure DE (X : Cx) (W : WX) (e : Expr) (f : Env → R (D × Env)) : Prop where
  ex : ∃ t, PE X e t ∧ ∀ (F : Fm) (os : List (Option Addr)) (r : Env) (σ : St) (H : Hp) (Q : VK), Rel X.K F os r σ H →
    Sat (fun p => ∀ v H', Rel X.K F os p.2 σ H' → Keep (Av F.A0 os) (Av F.A0 os) H H' → Rep X.K H' (Av F.A0 os) p.1 v → Q v H') (Er X W F) (f r) → t σ H Q
/-- tests -/
structure DT (X : Cx) (W : WX) (e : Expr) (f : Env → R Bool) : Prop where
  ex : ∃ t, PT X e t ∧ ∀ (F : Fm) (os : List (Option Addr)) (r : Env) (σ : St) (H : Hp) (Q : Bool → Hp → Prop), Rel X.K F os r σ H →
    Sat (fun b => ∀ H', Same H H' → Q b H') (Er X W F) (f r) → t σ H Q
structure DTE (X : Cx) (W : WX) (e : Expr) (f : Env → R (Bool × Env)) : Prop where
  ex : ∃ t, PT X e t ∧ ∀ (F : Fm) (os : List (Option Addr)) (r : Env) (σ : St) (H : Hp) (Q : Bool → Hp → Prop), Rel X.K F os r σ H →
    Sat (fun p => ∀ H', Rel X.K F os p.2 σ H' → Keep (Av F.A0 os) (Av F.A0 os) H H' → Q p.1 H') (Er X W F) (f r) → t σ H Q
/-- arguments -/
structure DBs (X : Cx) (W : WX) (es : List Expr) (f : Env → R (List D)) : Prop where
  ex : ∃ t, PA X es t ∧ ∀ (F : Fm) (os : List (Option Addr)) (r : Env) (σ : St) (H : Hp) (Q : List V → Hp → Prop), Rel X.K F os r σ H →
    Sat (fun ds => ∀ vs H', Same H H' → Paired (RepB X.K H' (Av F.A0 os)) ds vs → Q vs H') (Er X W F) (f r) → t σ H Q
structure DPs (X : Cx) (W : WX) (es : List Expr) (f : Env → R (List D)) : Prop where
  ex : ∃ t, PA X es t ∧ ∀ (F : Fm) (os : List (Option Addr)) (r : Env) (σ : St) (H : Hp) (Q : List V → Hp → Prop), Rel X.K F os r σ H →
    Sat (fun ds => ∀ vs H', Same H H' → RepL X.K H' (Av F.A0 os) ds vs → Q vs H') (Er X W F) (f r) → t σ H Q
structure DEs (X : Cx) (W : WX) (es : List Expr) (f : Env → R (List D × Env)) : Prop where
  ex : ∃ t, PA X es t ∧ ∀ (F : Fm) (os : List (Option Addr)) (r : Env) (σ : St) (H : Hp) (Q : List V → Hp → Prop), Rel X.K F os r σ H →
    Sat (fun p => ∀ vs H', Rel X.K F os p.2 σ H' → Keep (Av F.A0 os) (Av F.A0 os) H H' → RepL X.K H' (Av F.A0 os) p.1 vs → Q vs H') (Er X W F) (f r) → t σ H Q
section
variable {X : Cx} {W : WX} {e a b c : Expr} {es : List Expr} {f fa fb fc : Env → R D}

theorem Same.of_eq {H : Hp} : Same H H := Same.refl H
theorem same_upd {H : Hp} {p : Addr} {o : HO} (n : H p = none) : Same H (upd H p o) := fun b u e => by rw [upd_ne (ne_of_none e n)]; exact e

theorem DP.toB (h : DP X W e f) : DB X W e f := by
  obtain ⟨t, pe, w⟩ := h
  exact ⟨t, pe, fun F os r σ H Q R S => w F os r σ H Q R (S.imp fun d q v H' s h => q v H' s (.inl h))⟩
theorem repO_rep {K : PySem.W.Frag} {H : Hp} {A A' : Addr → Prop} {d : D} {p : Addr} (h : RepO K H A d p) (k : Keep A A' H H) (ak : AOk A H) (n : ¬ A' p) : Rep K H A' d (.ref p) := by
  cases d with
  | lst ds =>
    obtain ⟨xs, h1, h2⟩ := h
    unfold Rep
    exact ⟨p, xs, rfl, .inl ⟨.inl h1, n⟩, RepL.keep k ak _ _ h2⟩
  | dct ds =>
    obtain ⟨xs, h1, h2⟩ := h
    unfold Rep
    exact ⟨p, xs, rfl, h1, n, RepK.keep k ak _ _ h2⟩
  | dctT ds =>
    obtain ⟨xs, h1, h2⟩ := h
    unfold Rep
    exact ⟨p, xs, rfl, h1, n, RepM.keep k ak _ _ h2⟩
  | _ => exact h.elim
theorem ad_keep {H : Hp} {A : Addr → Prop} {p : Addr} : Keep (Ad A p) A H H := fun b o e n => ⟨e, fun z => n (.inl z)⟩
theorem ad_ok {K : PySem.W.Frag} {H H' : Hp} {A : Addr → Prop} {d : D} {p : Addr} (ak : AOk A H) (s : Same H H') (h : RepO K H' (Ad A p) d p) : AOk (Ad A p) H' := fun b z => by
  rcases z with z | z
  · obtain ⟨o, h1, h2⟩ := ak b z
    exact ⟨o, s _ _ h1, h2⟩
  · subst z
    exact h.isT
theorem DF.toP (h : DF X W e f) : DP X W e f := by
  obtain ⟨t, pe, w⟩ := h
  refine ⟨t, pe, fun F os r σ H Q R S => w F os r σ H Q R (S.imp fun d q p H' s n h => q _ H' s ?_)⟩
  exact repO_rep h ad_keep (ad_ok R.AOk s h) (R.notIn n)
def withEnv {α : Type} (f : Env → R α) : Env → R (α × Env) := fun r => (f r).bind fun a => .ok (a, r)
theorem DP.toE (h : DP X W e f) : DE X W e (withEnv f) := by
  obtain ⟨t, pe, w⟩ := h
  exact ⟨t, pe, fun F os r σ H Q R S => w F os r σ H Q R (S.bind.imp fun d q v H' s h => q v H' (R.same' s) (Keep.of s) h)⟩
theorem DT.toE {g : Env → R Bool} (h : DT X W e g) : DTE X W e (withEnv g) := by
  obtain ⟨t, pe, w⟩ := h
  exact ⟨t, pe, fun F os r σ H Q R S => w F os r σ H Q R (S.bind.imp fun d q H' s => q H' (R.same' s) (Keep.of s))⟩
theorem DPs.toE {g : Env → R (List D)} (h : DPs X W es g) : DEs X W es (withEnv g) := by
  obtain ⟨t, pe, w⟩ := h
  exact ⟨t, pe, fun F os r σ H Q R S => w F os r σ H Q R (S.bind.imp fun d q v H' s h => q v H' (R.same' s) (Keep.of s) h)⟩

/-! ### names, constants -/
def gSh (i : Nat) : Env → R D := fun r => match r[i]? with
  | some (.sh d) => .ok d
  | _ => .stk
def gAny (i : Nat) : Env → R D := fun r => match r[i]? with
  | some (.sh d) => .ok d
  | some (.own d) => .ok d
  | some (.io d) => .ok d
  | _ => .stk
theorem d_var (i : Nat) {x : Str} {pos : Pos} (hN : X.N[i]? = some x := by rfl) (hv : Vis X.env.scope x := by first | exact Or.inl rfl | exact Or.inr (Or.inl rfl) | exact Or.inr (Or.inr rfl)) (hd : (x == ("__debug__" : Str)) = false := by decide)
    (hcd : (x == ("__classdict__" : Str)) = false := by decide) : DP X W (.Name x pos) (gSh i) := by
  refine ⟨_, pe_var (i := i) hN hv hd hcd, fun F os r σ H Q R S => ?_⟩
  unfold gSh at S
  cases e : r[i]? with
  | none => rw [e] at S; exact S.elim
  | some sl =>
    rw [e] at S
    cases sl with
    | sh d =>
      obtain ⟨v, o, e1, e2, z, u, e3, h⟩ := R.get e
      subst e3
      exact ⟨u, e1, S u H (Same.refl H) h⟩
    | _ => exact S.elim
theorem b_var (i : Nat) {x : Str} {pos : Pos} (hN : X.N[i]? = some x := by rfl) (hv : Vis X.env.scope x := by first | exact Or.inl rfl | exact Or.inr (Or.inl rfl) | exact Or.inr (Or.inr rfl)) (hd : (x == ("__debug__" : Str)) = false := by decide)
    (hcd : (x == ("__classdict__" : Str)) = false := by decide) : DB X W (.Name x pos) (gAny i) := by
  refine ⟨_, pe_var (i := i) hN hv hd hcd, fun F os r σ H Q R S => ?_⟩
  unfold gAny at S
  cases e : r[i]? with
  | none => rw [e] at S; exact S.elim
  | some sl =>
    rw [e] at S
    cases sl with
    | sh d =>
      obtain ⟨v, o, e1, e2, z, u, e3, h⟩ := R.get e
      subst e3
      exact ⟨u, e1, S u H (Same.refl H) (.inl h)⟩
    | own d =>
      obtain ⟨v, o, e1, e2, a, z, e3, h⟩ := R.get e
      subst e3
      exact ⟨_, e1, S _ H (Same.refl H) (.inr ⟨a, rfl, h⟩)⟩
    | io d =>
      obtain ⟨v, o, e1, e2, a, z, e3, h, _⟩ := R.get e
      subst e3
      exact ⟨_, e1, S _ H (Same.refl H) (.inr ⟨a, rfl, h⟩)⟩
    | un => exact S.elim
@[simp] def kc (d : D) : Env → R D := fun _ => .ok d
theorem d_int {i : Int} {j : Nat} {pos : Pos} : DP X W (.Constant (.int i) j pos) (kc (.int i)) := ⟨_, pe_int, fun F os r σ H Q R S => S _ H (Same.refl H) (by unfold Rep; rfl)⟩
theorem d_bl {i : Bool} {j : Nat} {pos : Pos} : DP X W (.Constant (.bool i) j pos) (kc (.bl i)) := ⟨_, pe_bl, fun F os r σ H Q R S => S _ H (Same.refl H) (by unfold Rep; rfl)⟩
theorem d_non {j : Nat} {pos : Pos} : DP X W (.Constant .none j pos) (kc .non) := ⟨_, pe_non, fun F os r σ H Q R S => S _ H (Same.refl H) (by unfold Rep; rfl)⟩
theorem d_str {i : Str} {j : Nat} {pos : Pos} : DP X W (.Constant (.str i) j pos) (kc (.str i)) := ⟨_, pe_str, fun F os r σ H Q R S => S _ H (Same.refl H) (by unfold Rep; rfl)⟩
/-- a module's constant -/
theorem d_glob {x : Str} {d : D} {v : V} {u : Value} {pos : Pos} (hg : Gl X x) (hm : X.mg x = some u) (r : RelV v u) (hd : ∀ H A, Rep X.K H A d v) (hdb : (x == ("__debug__" : Str)) = false := by decide) : DP X W (.Name x pos) (kc d) :=
  ⟨_, pe_glob hg hm r hdb, fun F os r σ H Q R S => S v H (Same.refl H) (hd _ _)⟩

/-! ### arguments -/
@[simp] def aNil : Env → R (List D) := fun _ => .ok []
@[simp] def aCons (f : Env → R D) (g : Env → R (List D)) : Env → R (List D) := fun r => (f r).bind fun d => (g r).bind fun ds => .ok (d :: ds)
@[simp] def aConsE (f : Env → R (D × Env)) (g : Env → R (List D × Env)) : Env → R (List D × Env) := fun r => (f r).bind fun p => (g p.2).bind fun q => .ok (p.1 :: q.1, q.2)
theorem b_nil : DBs X W [] aNil := ⟨_, pa_nil, fun F os r σ H Q R S => S [] H (Same.refl H) .nil⟩
theorem p_nil : DPs X W [] aNil := ⟨_, pa_nil, fun F os r σ H Q R S => S [] H (Same.refl H) (by unfold RepL; rfl)⟩
theorem b_cons {g : Env → R (List D)} (h : DB X W e f) (h2 : DBs X W es g) (hs : starEach (e :: es) X.env = (false, eval e X.env) :: starEach es X.env := by rfl) : DBs X W (e :: es) (aCons f g) := by
  obtain ⟨t, pe, w⟩ := h
  obtain ⟨u, pa, z⟩ := h2
  refine ⟨_, pa_cons pe pa hs, fun F os r σ H Q R S => ?_⟩
  refine w F os r σ H _ R (S.bind.imp fun d S v H1 s1 h1 => ?_)
  refine z F os r σ H1 _ (R.same' s1) (S.bind.imp fun ds S vs H2 s2 h2 => ?_)
  exact S _ H2 (s1.trans s2) (.cons (h1.same s2 (R.same' s1).AOk) h2)
theorem p_cons {g : Env → R (List D)} (h : DP X W e f) (h2 : DPs X W es g) (hs : starEach (e :: es) X.env = (false, eval e X.env) :: starEach es X.env := by rfl) : DPs X W (e :: es) (aCons f g) := by
  obtain ⟨t, pe, w⟩ := h
  obtain ⟨u, pa, z⟩ := h2
  refine ⟨_, pa_cons pe pa hs, fun F os r σ H Q R S => ?_⟩
  refine w F os r σ H _ R (S.bind.imp fun d S v H1 s1 h1 => ?_)
  refine z F os r σ H1 _ (R.same' s1) (S.bind.imp fun ds S vs H2 s2 h2 => ?_)
  exact S _ H2 (s1.trans s2) (by unfold RepL; exact ⟨v, vs, rfl, h1.same s2 (R.same' s1).AOk, h2⟩)
theorem e_cons {h : Env → R (D × Env)} {g : Env → R (List D × Env)} (h1 : DE X W e h) (h2 : DEs X W es g) (hs : starEach (e :: es) X.env = (false, eval e X.env) :: starEach es X.env := by rfl) : DEs X W (e :: es) (aConsE h g) := by
  obtain ⟨t, pe, w⟩ := h1
  obtain ⟨u, pa, z⟩ := h2
  refine ⟨_, pa_cons pe pa hs, fun F os r σ H Q R S => ?_⟩
  refine w F os r σ H _ R (S.bind.imp fun d S v H1 R1 k1 h1 => ?_)
  refine z F os _ σ H1 _ R1 (S.bind.imp fun ds S vs H2 R2 k2 h2 => ?_)
  exact S _ H2 R2 (k1.trans k2) (by unfold RepL; exact ⟨v, vs, rfl, Rep.keep k2 R1.AOk _ _ h1, h2⟩)

/-! ### an operation of two values, of several, of one -/
/-- r asks no more than the data say -/
def Op2 (X : Cx) (r : R2) (op : D → D → Option D) : Prop := ∀ (A : Addr → Prop) (H : Hp) (x y : D) (v w : V) (d : D) (Q : VK), AOk A H → op x y = some d → RepB X.K H A x v → RepB X.K H A y w →
  (∀ u H', Same H H' → Rep X.K H' A d u → Q u H') → r v w H Q
/-- .. with a new list -/
def Op2F (X : Cx) (r : R2) (op : D → D → Option D) : Prop := ∀ (A : Addr → Prop) (H : Hp) (x y : D) (v w : V) (d : D) (Q : VK), AOk A H → op x y = some d → RepB X.K H A x v → RepB X.K H A y w →
  (∀ p H', Same H H' → H p = none → RepO X.K H' (Ad A p) d p → Q (.ref p) H') → r v w H Q
@[simp] def bin (op : D → D → Option D) (fa fb : Env → R D) : Env → R D := fun r => (fa r).bind fun x => (fb r).bind fun y => R.ofO (op x y)
@[simp] def binE (op : D → D → Option D) (fa fb : Env → R (D × Env)) : Env → R (D × Env) := fun r => (fa r).bind fun x => (fb x.2).bind fun y => (R.ofO (op x.1 y.1)).bind fun d => .ok (d, y.2)
theorem d_bin {mk : Expr} {r : R2} {op : D → D → Option D} (m : ∀ {ta tb : TE}, PE X a ta → PE X b tb → PE X mk (tOp r ta tb)) (o : Op2 X r op) (ha : DB X W a fa) (hb : DB X W b fb) : DP X W mk (bin op fa fb) := by
  obtain ⟨ta, pa, wa⟩ := ha
  obtain ⟨tb, pb, wb⟩ := hb
  refine ⟨_, m pa pb, fun F os r σ H Q R S => ?_⟩
  refine wa F os r σ H _ R (S.bind.imp fun x S v H1 s1 h1 => ?_)
  refine wb F os r σ H1 _ (R.same' s1) (S.bind.imp fun y S w H2 s2 h2 => ?_)
  obtain ⟨d, ed, S⟩ := S.ofO
  have R2 := (R.same' s1).same' s2
  exact o _ H2 x y v w d Q R2.AOk ed (h1.same s2 (R.same' s1).AOk) h2 fun u H3 s3 h3 => S u H3 ((s1.trans s2).trans s3) h3
theorem d_binE {mk : Expr} {r : R2} {op : D → D → Option D} {ga gb : Env → R (D × Env)} (m : ∀ {ta tb : TE}, PE X a ta → PE X b tb → PE X mk (tOp r ta tb)) (o : Op2 X r op) (ha : DE X W a ga) (hb : DE X W b gb) : DE X W mk (binE op ga gb) := by
  obtain ⟨ta, pa, wa⟩ := ha
  obtain ⟨tb, pb, wb⟩ := hb
  refine ⟨_, m pa pb, fun F os r σ H Q R S => ?_⟩
  refine wa F os r σ H _ R (S.bind.imp fun x S v H1 R1 k1 h1 => ?_)
  refine wb F os _ σ H1 _ R1 (S.bind.imp fun y S w H2 R2 k2 h2 => ?_)
  obtain ⟨d, ed, S⟩ := S.bind.ofO
  exact o _ H2 x.1 y.1 v w d Q R2.AOk ed (.inl (Rep.keep k2 R1.AOk _ _ h1)) (.inl h2) fun u H3 s3 h3 => S u H3 (R2.same' s3) ((k1.trans k2).trans (Keep.of s3)) h3
/-- n arguments -/
def OpN (X : Cx) (r : List V → Hp → VK → Prop) (op : List D → Option D) : Prop := ∀ (A : Addr → Prop) (H : Hp) (xs : List D) (vs : List V) (d : D) (Q : VK), AOk A H → op xs = some d → Paired (RepB X.K H A) xs vs →
  (∀ u H', Same H H' → Rep X.K H' A d u → Q u H') → r vs H Q
def OpNF (X : Cx) (r : List V → Hp → VK → Prop) (op : List D → Option D) : Prop := ∀ (A : Addr → Prop) (H : Hp) (xs : List D) (vs : List V) (d : D) (Q : VK), AOk A H → op xs = some d → Paired (RepB X.K H A) xs vs →
  (∀ p H', Same H H' → H p = none → RepO X.K H' (Ad A p) d p → Q (.ref p) H') → r vs H Q
@[simp] def appN (op : List D → Option D) (g : Env → R (List D)) : Env → R D := fun r => (g r).bind fun ds => R.ofO (op ds)
@[simp] def appNE (op : List D → Option D) (g : Env → R (List D × Env)) : Env → R (D × Env) := fun r => (g r).bind fun p => (R.ofO (op p.1)).bind fun d => .ok (d, p.2)
theorem d_app {mk : Expr} {r : List V → Hp → VK → Prop} {op : List D → Option D} {g : Env → R (List D)} (m : ∀ {ta : TA}, PA X es ta → PE X mk (tCB r ta)) (o : OpN X r op) (ha : DBs X W es g) : DP X W mk (appN op g) := by
  obtain ⟨ta, pa, wa⟩ := ha
  refine ⟨_, m pa, fun F os r σ H Q R S => ?_⟩
  refine wa F os r σ H _ R (S.bind.imp fun xs S vs H1 s1 h1 => ?_)
  obtain ⟨d, ed, S⟩ := S.ofO
  exact o _ H1 xs vs d Q (R.same' s1).AOk ed h1 fun u H3 s3 h3 => S u H3 (s1.trans s3) h3
theorem d_appF {mk : Expr} {r : List V → Hp → VK → Prop} {op : List D → Option D} {g : Env → R (List D)} (m : ∀ {ta : TA}, PA X es ta → PE X mk (tCB r ta)) (o : OpNF X r op) (ha : DBs X W es g) : DF X W mk (appN op g) := by
  obtain ⟨ta, pa, wa⟩ := ha
  refine ⟨_, m pa, fun F os r σ H Q R S => ?_⟩
  refine wa F os r σ H _ R (S.bind.imp fun xs S vs H1 s1 h1 => ?_)
  obtain ⟨d, ed, S⟩ := S.ofO
  exact o _ H1 xs vs d Q (R.same' s1).AOk ed h1 fun p H3 s3 n3 h3 => S p H3 (s1.trans s3) (s1.free n3) h3
/-! ### tests -/
def asB : D → Option Bool
  | .bl b => some b
  | _ => none
@[simp] def tst (f : Env → R D) : Env → R Bool := fun r => (f r).bind fun d => R.ofO (asB d)
@[simp] def tstE (f : Env → R (D × Env)) : Env → R (Bool × Env) := fun r => (f r).bind fun p => (R.ofO (asB p.1)).bind fun b => .ok (b, p.2)
theorem asB_bl {K : PySem.W.Frag} {H : Hp} {A : Addr → Prop} {d : D} {v : V} {k : Bool} (e : asB d = some k) (h : RepB K H A d v) : v = .bl k := by
  cases d with
  | bl b =>
    cases e
    rcases h with h | ⟨a, _, h⟩
    · unfold Rep at h
      exact h
    · exact h.elim
  | _ => cases e
/-- a comparison as a test -/
theorem t_cmp {op : CmpOp} {r : R2} {g : D → D → Option D} {pos : Pos} (ho : OpR X (compareOp op) r) (o : Op2 X r g) (ha : DB X W a fa) (hb : DB X W b fb) (hm : behindInMarks op b = false) : DT X W (.Compare a [op] [b] pos) (tst (bin g fa fb)) := by
  obtain ⟨ta, pa, wa⟩ := ha
  obtain ⟨tb, pb, wb⟩ := hb
  refine ⟨_, pt_cmpR ho pa pb hm, fun F os r σ H Q R S => ?_⟩
  have S := S.bind
  show ta σ H _
  refine wa F os r σ H _ R (S.bind.imp fun x S v H1 s1 h1 => ?_)
  refine wb F os r σ H1 _ (R.same' s1) (S.bind.imp fun y S w H2 s2 h2 => ?_)
  obtain ⟨d, ed, S⟩ := S.ofO
  obtain ⟨k, ek, S⟩ := S.ofO
  have R2 := (R.same' s1).same' s2
  exact o _ H2 x y v w d _ R2.AOk ed (h1.same s2 (R.same' s1).AOk) h2 fun u H3 s3 h3 => ⟨k, asB_bl ek (.inl h3), S H3 ((s1.trans s2).trans s3)⟩
/-- truth -/
def truD : D → Option Bool
  | .non => some false
  | .bl b => some b
  | .int i => some (i != 0)
  | .str y => if y.length ≤ sizeLine then some ((y.length : Int) != 0) else none
  | .lst xs => some (!xs.isEmpty)
  | .tup xs => some (!xs.isEmpty)
  | .dct xs => some (!xs.isEmpty)
  | _ => none
theorem repL_empty {K : PySem.W.Frag} {H : Hp} {A : Addr → Prop} {ds : List D} {vs : List V} (h : RepL K H A ds vs) : ds.isEmpty = vs.isEmpty := by
  cases ds with
  | nil => unfold RepL at h; subst h; rfl
  | cons d ds => unfold RepL at h; obtain ⟨v, r, e, _, _⟩ := h; subst e; rfl
theorem repL_length {K : PySem.W.Frag} {H : Hp} {A : Addr → Prop} : ∀ {ds : List D} {vs : List V}, RepL K H A ds vs → vs.length = ds.length
  | [], vs, h => by unfold RepL at h; subst h; rfl
  | d :: ds, vs, h => by
    unfold RepL at h
    obtain ⟨v, r, e, _, h2⟩ := h
    subst e
    simp [repL_length h2]
theorem repK_empty {K : PySem.W.Frag} {H : Hp} {A : Addr → Prop} {ds : List (Key × D)} {vs : List (Key × V)} (h : RepK K H A ds vs) : ds.isEmpty = vs.isEmpty := by
  cases ds with
  | nil => unfold RepK at h; subst h; rfl
  | cons d ds => obtain ⟨k, d⟩ := d; unfold RepK at h; obtain ⟨v, r, e, _, _⟩ := h; subst e; rfl
/-- a list that may be read: where it stands, its values -/
theorem RepB.lst {K : PySem.W.Frag} {H : Hp} {A : Addr → Prop} {ds : List D} {v : V} (h : RepB K H A (.lst ds) v) : ∃ a xs, v = .ref a ∧ SqL K H a xs ∧ RepL K H A ds xs := by
  rcases h with h | ⟨a, e, xs, h1, h2⟩
  · unfold Rep at h
    obtain ⟨a, xs, e, h1, h2⟩ := h
    rcases h1 with ⟨h1, _⟩ | h1
    · exact ⟨a, xs, e, .inl h1, h2⟩
    · exact ⟨a, xs, e, .inr h1, h2⟩
  · exact ⟨a, xs, e, SqL.of h1, h2⟩
theorem RepB.tup {K : PySem.W.Frag} {H : Hp} {A : Addr → Prop} {ds : List D} {v : V} (h : RepB K H A (.tup ds) v) : ∃ a xs, v = .ref a ∧ SqT K H a xs ∧ RepL K H A ds xs := by
  rcases h with h | ⟨a, e, h⟩
  · unfold Rep at h
    obtain ⟨a, xs, e, h1, h2⟩ := h
    exact ⟨a, xs, e, tup_sq h1, h2⟩
  · exact h.elim
theorem RepB.dct {K : PySem.W.Frag} {H : Hp} {A : Addr → Prop} {ds : List (Key × D)} {v : V} (h : RepB K H A (.dct ds) v) : ∃ a xs, v = .ref a ∧ H a = some (.dK xs) ∧ RepK K H A ds xs := by
  rcases h with h | ⟨a, e, xs, h1, h2⟩
  · unfold Rep at h
    obtain ⟨a, xs, e, h1, h2, h3⟩ := h
    exact ⟨a, xs, e, h1, h3⟩
  · exact ⟨a, xs, e, h1, h2⟩
theorem RepB.int {K : PySem.W.Frag} {H : Hp} {A : Addr → Prop} {i : Int} {v : V} (h : RepB K H A (.int i) v) : v = .int i := by
  rcases h with h | ⟨a, e, h⟩
  · unfold Rep at h; exact h
  · exact h.elim
theorem RepB.str {K : PySem.W.Frag} {H : Hp} {A : Addr → Prop} {i : Str} {v : V} (h : RepB K H A (.str i) v) : v = .str i := by
  rcases h with h | ⟨a, e, h⟩
  · unfold Rep at h; exact h
  · exact h.elim
theorem RepB.bl {K : PySem.W.Frag} {H : Hp} {A : Addr → Prop} {i : Bool} {v : V} (h : RepB K H A (.bl i) v) : v = .bl i := by
  rcases h with h | ⟨a, e, h⟩
  · unfold Rep at h; exact h
  · exact h.elim
theorem RepB.non {K : PySem.W.Frag} {H : Hp} {A : Addr → Prop} {v : V} (h : RepB K H A .non v) : v = .non := by
  rcases h with h | ⟨a, e, h⟩
  · unfold Rep at h; exact h
  · exact h.elim
theorem tru_of {K : PySem.W.Frag} {H : Hp} {A : Addr → Prop} {d : D} {v : V} {k : Bool} (e : truD d = some k) (h : RepB K H A d v) : TruV K v H k := by
  cases d with
  | non => cases e; rw [h.non]; rfl
  | bl b => cases e; rw [h.bl]; rfl
  | int i => cases e; rw [h.int]; rfl
  | str y =>
    simp only [truD] at e
    split at e
    · rename_i hy
      cases e
      rw [h.str]
      exact ⟨hy, rfl⟩
    · cases e
  | lst xs =>
    cases e
    obtain ⟨a, ys, e1, h1, h2⟩ := h.lst
    subst e1
    exact .inl ⟨ys, h1, by rw [repL_empty h2]⟩
  | tup xs =>
    cases e
    obtain ⟨a, ys, e1, h1, h2⟩ := h.tup
    subst e1
    exact .inr (.inl ⟨ys, h1, by rw [repL_empty h2]⟩)
  | dct xs =>
    cases e
    obtain ⟨a, ys, e1, h1, h2⟩ := h.dct
    subst e1
    exact .inr (.inr ⟨ys, h1, by rw [repK_empty h2]⟩)
  | _ => cases e
@[simp] def tru (f : Env → R D) : Env → R Bool := fun r => (f r).bind fun d => R.ofO (truD d)
@[simp] def truE (f : Env → R (D × Env)) : Env → R (Bool × Env) := fun r => (f r).bind fun p => (R.ofO (truD p.1)).bind fun b => .ok (b, p.2)
theorem t_tru (ha : DB X W a fa) (he : ∀ whole, isTrue a X.env whole = (do let v ← whole; standAt a.pos; holding [v] (truthy v)) := by intro _; rfl) : DT X W a (tru fa) := by
  obtain ⟨ta, pa, wa⟩ := ha
  refine ⟨_, pt_truth pa he, fun F os r σ H Q R S => ?_⟩
  show ta σ H _
  refine wa F os r σ H _ R (S.bind.imp fun x S v H1 s1 h1 => ?_)
  obtain ⟨k, ek, S⟩ := S.ofO
  exact ⟨k, tru_of ek h1, S H1 s1⟩
end
end DL

end
section
namespace DL
open PySem L2
section
variable {X : Cx}
theorem repL_append {K : PySem.W.Frag} {H : Hp} {A : Addr → Prop} : ∀ {ds es : List D} {vs ws : List V}, RepL K H A ds vs → RepL K H A es ws → RepL K H A (ds ++ es) (vs ++ ws)
  | [], es, vs, ws, h, h2 => by
    unfold RepL at h
    subst h
    exact h2
  | d :: ds, es, vs, ws, h, h2 => by
    unfold RepL at h
    obtain ⟨v, r, e, h1, h3⟩ := h
    subst e
    show RepL K H A (d :: (ds ++ es)) (v :: (r ++ ws))
    unfold RepL
    exact ⟨v, r ++ ws, rfl, h1, repL_append h3 h2⟩
theorem repL_get {K : PySem.W.Frag} {H : Hp} {A : Addr → Prop} : ∀ {ds : List D} {vs : List V} {i : Nat} {d : D}, RepL K H A ds vs → ds[i]? = some d → ∃ v, vs[i]? = some v ∧ Rep K H A d v
  | [], vs, i, d, h, e => by simp at e
  | d :: ds, vs, 0, d', h, e => by
    unfold RepL at h
    obtain ⟨v, r, e1, h1, h3⟩ := h
    subst e1
    simp at e
    subst e
    exact ⟨v, rfl, h1⟩
  | d :: ds, vs, i + 1, d', h, e => by
    unfold RepL at h
    obtain ⟨v, r, e1, h1, h3⟩ := h
    subst e1
    obtain ⟨u, h4, h5⟩ := repL_get (i := i) h3 (by simpa using e)
    exact ⟨u, by simpa using h4, h5⟩
theorem repL_take {K : PySem.W.Frag} {H : Hp} {A : Addr → Prop} : ∀ {ds : List D} {vs : List V} (n : Nat), RepL K H A ds vs → RepL K H A (ds.take n) (vs.take n)
  | ds, vs, 0, h => by simp only [List.take_zero]; unfold RepL; rfl
  | [], vs, n + 1, h => by
    unfold RepL at h
    subst h
    simp only [List.take_nil]
    unfold RepL; rfl
  | d :: ds, vs, n + 1, h => by
    unfold RepL at h
    obtain ⟨v, r, e1, h1, h3⟩ := h
    subst e1
    simp only [List.take_succ_cons]
    unfold RepL
    exact ⟨v, _, rfl, h1, repL_take n h3⟩
theorem repL_drop {K : PySem.W.Frag} {H : Hp} {A : Addr → Prop} : ∀ {ds : List D} {vs : List V} (n : Nat), RepL K H A ds vs → RepL K H A (ds.drop n) (vs.drop n)
  | ds, vs, 0, h => by simpa using h
  | [], vs, n + 1, h => by
    unfold RepL at h
    subst h
    simp only [List.drop_nil]
    unfold RepL; rfl
  | d :: ds, vs, n + 1, h => by
    unfold RepL at h
    obtain ⟨v, r, e1, h1, h3⟩ := h
    subst e1
    simp only [List.drop_succ_cons]
    exact repL_drop n h3
theorem repL_rev {K : PySem.W.Frag} {H : Hp} {A : Addr → Prop} : ∀ {ds : List D} {vs : List V}, RepL K H A ds vs → RepL K H A ds.reverse vs.reverse
  | [], vs, h => by
    unfold RepL at h
    subst h
    simp only [List.reverse_nil]
    unfold RepL; rfl
  | d :: ds, vs, h => by
    unfold RepL at h
    obtain ⟨v, r, e1, h1, h3⟩ := h
    subst e1
    simp only [List.reverse_cons]
    exact repL_append (repL_rev h3) (by unfold RepL; exact ⟨v, [], rfl, h1, by unfold RepL; rfl⟩)
/-- a new tuple, a new list -/
theorem rep_newtup {K : PySem.W.Frag} {H : Hp} {A : Addr → Prop} {ds : List D} {vs : List V} {p : Addr} (ak : AOk A H) (h : RepL K H A ds vs) (n : H p = none) : Rep K (upd H p (.tup vs)) A (.tup ds) (.ref p) := by
  unfold Rep
  exact ⟨p, vs, rfl, .inl upd_same, h.same (same_upd n) ak⟩
theorem repO_newlst {K : PySem.W.Frag} {H : Hp} {A : Addr → Prop} {ds : List D} {vs : List V} {p : Addr} (ak : AOk A H) (h : RepL K H A ds vs) (n : H p = none) : RepO K (upd H p (.lst vs)) (Ad A p) (.lst ds) p := by
  refine ⟨vs, upd_same, RepL.keep (A := A) (fun b o e nb => ⟨by rw [upd_ne (ne_of_none e n)]; exact e, fun z => ?_⟩) ak _ _ h⟩
  rcases z with z | z
  · exact nb z
  · rw [z, n] at e
    cases e

/-! ### + -/
@[simp] def addD : D → D → Option D
  | .int i, .int j => some (.int (i + j))
  | .str x, .str y => if x.length + y.length ≤ sizeLine then some (.str (x ++ y)) else none
  | .tup xs, .tup ys => if xs.length + ys.length ≤ sizeLine then some (.tup (xs ++ ys)) else none
  | _, _ => none
def rAddS : R2 := fun x y H Q => ∃ i j, x = .str i ∧ y = .str j ∧ i.length + j.length ≤ sizeLine ∧ Q (.str (i ++ j)) H
def rAdd3 (K : PySem.W.Frag) : R2 := fun x y H Q => rI0 (fun i j => .int (i + j)) x y H Q ∨ rAddS x y H Q ∨ rCatA K x y H Q
theorem op_add3 : OpR X (binaryOp .Add) (rAdd3 X.K) := op_add.or (OpR.or (r := rAddS) op_add_str op_catA)
theorem o_add : Op2 X (rAdd3 X.K) addD := by
  intro A H x y v w d Q ak e hx hy q
  cases x with
  | int i =>
    cases y with
    | int j => cases e; exact .inl ⟨i, j, hx.int, hy.int, q _ H (Same.refl H) (by unfold Rep; rfl)⟩
    | _ => cases e
  | str i =>
    cases y with
    | str j =>
      simp only [addD] at e
      split at e
      · rename_i hl
        cases e
        exact .inr (.inl ⟨i, j, hx.str, hy.str, hl, q _ H (Same.refl H) (by unfold Rep; rfl)⟩)
      · cases e
    | _ => cases e
  | tup i =>
    cases y with
    | tup j =>
      simp only [addD] at e
      split at e
      · rename_i hl
        cases e
        have hx0 := hx
        have hy0 := hy
        obtain ⟨a, xs, e1, h1, h2⟩ := hx.tup
        obtain ⟨b, ys, e2, h3, h4⟩ := hy.tup
        have l1 := repL_length h2
        have l2 := repL_length h4
        have rx : Rep X.K H A (.tup i) v := by
          rcases hx0 with z | ⟨_, _, z⟩
          · exact z
          · exact z.elim
        have ry : Rep X.K H A (.tup j) w := by
          rcases hy0 with z | ⟨_, _, z⟩
          · exact z
          · exact z.elim
        refine .inr (.inr ⟨a, b, xs, ys, e1, e2, h1, h3, by omega, fun z => ?_, fun z1 z2 => ?_, fun z1 z2 p n => ?_⟩)
        · subst z
          have : i = [] := List.eq_nil_of_length_eq_zero (by simpa using l1.symm)
          subst this
          exact q _ H (Same.refl H) (by rw [← e2]; exact ry)
        · subst z2
          have : j = [] := List.eq_nil_of_length_eq_zero (by simpa using l2.symm)
          subst this
          exact q _ H (Same.refl H) (by rw [List.append_nil, ← e1]; exact rx)
        · exact q _ _ (same_upd n) (rep_newtup ak (repL_append h2 h4) n)
      · cases e
    | _ => cases e
  | _ => cases e
/-- list + list -/
def catD : D → D → Option D
  | .lst xs, .lst ys => if xs.length + ys.length ≤ sizeLine then some (.lst (xs ++ ys)) else none
  | _, _ => none
def rCatL (K : PySem.W.Frag) : R2 := fun x y H Q => ∃ l b xs zs, x = .ref l ∧ y = .ref b ∧ SqL K H l xs ∧ SqL K H b zs ∧ xs.length + zs.length ≤ sizeLine ∧ ∀ p, H p = none → Q (.ref p) (upd H p (.lst (xs ++ zs)))
theorem op_catL : OpR X (binaryOp .Add) (rCatL X.K) := by
  intro pins s σ H x y v u Q I rx ry h
  obtain ⟨l, b, xs, zs, rfl, rfl, hH, hB, hz, q⟩ := h
  cases rx
  cases ry
  obtain ⟨its, r, ⟨⟨cls, dd, data, sl⟩, n, ho, hc, hdn, hd⟩, hl⟩ := I.list hH
  obtain ⟨its2, r2, ⟨⟨cls2, dd2, data2, sl2⟩, n2, ho2, hc2, hdn2, hd2⟩, hl2⟩ := I.list hB
  simp only at hc hd hc2 hd2
  subst hc hd hc2 hd2
  have e1 := r.length
  have e2 := r2.length
  have ea : its.toArray ++ its2.toArray = (its ++ its2).toArray := by simp
  refine PySem.concat_meets ⟨_, ho, rfl⟩ ⟨_, ho2, rfl⟩ PySem.noFill_list_add PySem.seq_list_add PySem.F.slot_list_add PySem.F.entry_list_add (PySem.F.args_list_add_2 _ _) (PyProof.Rows.list_addW l b its.toArray its2.toArray n n2 dd dd2 sl sl2 (by simp; omega)) ⟨ho, ho2, ?_⟩
  rw [ea]
  exact ⟨.ref _, _, I.lnew (t' := s.toks) (r.append r2) (by rw [List.length_append]; omega), rfl, q _ I.fresh⟩
theorem o_cat : Op2F X (rCatL X.K) catD := by
  intro A H x y v w d Q ak e hx hy q
  cases x with
  | lst i =>
    cases y with
    | lst j =>
      simp only [catD] at e
      split at e
      · rename_i hl
        cases e
        obtain ⟨a, xs, e1, h1, h2⟩ := hx.lst
        obtain ⟨b, ys, e2, h3, h4⟩ := hy.lst
        have l1 := repL_length h2
        have l2 := repL_length h4
        exact ⟨a, b, xs, ys, e1, e2, h1, h3, by omega, fun p n => q p _ (same_upd n) n (repO_newlst ak (repL_append h2 h4) n)⟩
      · cases e
    | _ => cases e
  | _ => cases e

/-! ### other arithmetic -/
theorem rep_int {K : PySem.W.Frag} {H : Hp} {A : Addr → Prop} {i : Int} : Rep K H A (.int i) (.int i) := by unfold Rep; rfl
theorem rep_bl {K : PySem.W.Frag} {H : Hp} {A : Addr → Prop} {i : Bool} : Rep K H A (.bl i) (.bl i) := by unfold Rep; rfl
theorem rep_str {K : PySem.W.Frag} {H : Hp} {A : Addr → Prop} {i : Str} : Rep K H A (.str i) (.str i) := by unfold Rep; rfl
theorem rep_non {K : PySem.W.Frag} {H : Hp} {A : Addr → Prop} : Rep K H A .non .non := by unfold Rep; rfl
def intOp (C : Int → Int → Bool) (g : Int → Int → Int) : D → D → Option D
  | .int i, .int j => if C i j then some (.int (g i j)) else none
  | _, _ => none
theorem o_int {P : Int → Int → Prop} {C : Int → Int → Bool} {g : Int → Int → Int} (h : ∀ i j, C i j = true → P i j) : Op2 X (rI P fun i j => .int (g i j)) (intOp C g) := by
  intro A H x y v w d Q ak e hx hy q
  cases x with
  | int i =>
    cases y with
    | int j =>
      simp only [intOp] at e
      split at e
      · rename_i hc
        cases e
        exact ⟨i, j, hx.int, hy.int, h i j hc, q _ H (Same.refl H) rep_int⟩
      · cases e
    | _ => cases e
  | _ => cases e
theorem o_int0 {g : Int → Int → Int} : Op2 X (rI0 fun i j => .int (g i j)) (intOp (fun _ _ => true) g) := by
  intro A H x y v w d Q ak e hx hy q
  cases x with
  | int i =>
    cases y with
    | int j =>
      cases e
      exact ⟨i, j, hx.int, hy.int, q _ H (Same.refl H) rep_int⟩
    | _ => cases e
  | _ => cases e
abbrev subD : D → D → Option D := intOp (fun _ _ => true) fun i j => i - j
theorem o_sub : Op2 X (rI0 fun i j => .int (i - j)) subD := o_int0
abbrev mulD : D → D → Option D := intOp (fun i j => decide (-(2 ^ 64) < i ∧ i < 2 ^ 64) || decide (-(2 ^ 64) < j ∧ j < 2 ^ 64)) fun i j => i * j
theorem o_mul : Op2 X (rI CMul fun i j => .int (i * j)) mulD := o_int fun i j h => by
  rcases Bool.or_eq_true_iff.mp h with h | h
  · exact .inl (of_decide_eq_true h)
  · exact .inr (of_decide_eq_true h)
abbrev fdivD : D → D → Option D := intOp (fun _ j => decide (0 < j ∧ j < 1073741824)) fun i j => i / j
theorem o_fdiv : Op2 X (rI CDiv fun i j => .int (i / j)) fdivD := o_int fun i j h => show 0 < j ∧ j < 1073741824 from of_decide_eq_true h
abbrev modD : D → D → Option D := intOp (fun _ j => decide (0 < j)) fun i j => i % j
theorem o_mod : Op2 X (rI (fun _ j => 0 < j) fun i j => .int (i % j)) modD := o_int fun i j h => of_decide_eq_true h
abbrev powD : D → D → Option D := intOp (fun i j => decide (0 ≤ j ∧ j ≤ 1000000 ∧ i.natAbs < 2 ^ 64)) fun i j => i ^ j.toNat
theorem o_pow : Op2 X (rI CPow fun i j => .int (i ^ j.toNat)) powD := o_int fun i j h => show 0 ≤ j ∧ j ≤ 1000000 ∧ i.natAbs < 2 ^ 64 from of_decide_eq_true h

/-! ### comparisons -/
mutual
def toPy : D → PyData
  | .non => .none
  | .bl b => .bool b
  | .int i => .int i
  | .str x => .str x
  | .tup xs => .tuple (toPyL xs)
  | .lst xs => .list (toPyL xs)
  | .dct _ => .dict []
  | .dctT _ => .dict []
  | .obj _ => .dict []
  | .dctF _ => .dict []
  | .ref _ => .dict []
  | .ty _ => .dict []
def toPyL : List D → List PyData
  | [] => []
  | x :: xs => toPy x :: toPyL xs
end
mutual
theorem dp_of {K : PySem.W.Frag} {H : Hp} {A : Addr → Prop} : ∀ (d : D) (v : V), PyData.canLay0 (toPy d) = true → Rep K H A d v → Dp K H v (toPy d)
  | .non, v, _, h => by unfold Rep at h; subst h; exact .non
  | .bl b, v, _, h => by unfold Rep at h; subst h; exact .bl b
  | .int b, v, _, h => by unfold Rep at h; subst h; exact .int b
  | .str b, v, _, h => by unfold Rep at h; subst h; exact .str b
  | .tup ds, v, l, h => by
    unfold Rep at h
    obtain ⟨a, xs, e, h1, h2⟩ := h
    subst e
    exact .tup (tup_sq h1) (dp_ofL ds xs (by simpa [toPy, PyData.canLay0] using l) h2)
  | .lst ds, v, l, h => by
    unfold Rep at h
    obtain ⟨a, xs, e, h1, h2⟩ := h
    subst e
    refine .lst ?_ (dp_ofL ds xs (by simpa [toPy, PyData.canLay0] using l) h2)
    rcases h1 with ⟨h1, _⟩ | h1
    · exact .inl h1
    · exact .inr h1
  | .dct _, _, l, _ => by simp [toPy, PyData.canLay0] at l
  | .dctT _, _, l, _ => by simp [toPy, PyData.canLay0] at l
  | .obj _, _, l, _ => by simp [toPy, PyData.canLay0] at l
  | .dctF _, _, l, _ => by simp [toPy, PyData.canLay0] at l
  | .ref _, _, l, _ => by simp [toPy, PyData.canLay0] at l
  | .ty _, _, l, _ => by simp [toPy, PyData.canLay0] at l
theorem dp_ofL {K : PySem.W.Frag} {H : Hp} {A : Addr → Prop} : ∀ (ds : List D) (vs : List V), PyData.canLayAll0 (toPyL ds) = true → RepL K H A ds vs → DpAll K H vs (toPyL ds)
  | [], vs, _, h => by unfold RepL at h; subst h; exact .nil
  | d :: ds, vs, l, h => by
    unfold RepL at h
    obtain ⟨v, r, e, h1, h2⟩ := h
    subst e
    have l' : PyData.canLay0 (toPy d) = true ∧ PyData.canLayAll0 (toPyL ds) = true := by simpa [toPyL, PyData.canLayAll0] using l
    exact .cons (dp_of d v l'.1 h1) (dp_ofL ds r l'.2 h2)
end
theorem dp_ofB {K : PySem.W.Frag} {H : Hp} {A : Addr → Prop} {d : D} {v : V} (l : PyData.canLay0 (toPy d) = true) (h : RepB K H A d v) : Dp K H v (toPy d) := by
  rcases h with h | ⟨a, e, h⟩
  · exact dp_of d v l h
  · subst e
    cases d with
    | lst ds =>
      obtain ⟨xs, h1, h2⟩ := h
      exact .lst (SqL.of h1) (dp_ofL ds xs (by simpa [toPy, PyData.canLay0] using l) h2)
    | dct ds => simp [toPy, PyData.canLay0] at l
    | dctT ds => simp [toPy, PyData.canLay0] at l
    | _ => exact h.elim
def shp (d : D) : Bool := SeqAt.shaped (toPy d)
/-- == of what Python compares by content -/
def eqPy (x y : D) : Bool := PyData.eqv (toPy x) (toPy y)
def eqD : D → D → Option D
  | .int i, .int j => some (.bl (decide (i = j)))
  | .str i, .str j => some (.bl (decide (i = j)))
  | x, y => if shp x && shp y then some (.bl (eqPy x y)) else none
def neD : D → D → Option D
  | .int i, .int j => some (.bl (!decide (i = j)))
  | .str i, .str j => some (.bl (!decide (i = j)))
  | x, y => if shp x && shp y then some (.bl (!eqPy x y)) else none
def rEq2 (K : PySem.W.Frag) : R2 := fun x y H Q => rEq x y H Q ∨ rEqD K x y H Q
def rNe2 (K : PySem.W.Frag) : R2 := fun x y H Q => rNe x y H Q ∨ rNeD K x y H Q
theorem op_eq2 (hu : X.A.units + 64 < cLine) : OpR X (compareOp .Eq) (rEq2 X.K) := op_eq.or (op_eqD hu)
theorem op_ne2 (hu : X.A.units + 64 < cLine) : OpR X (compareOp .NotEq) (rNe2 X.K) := op_ne.or (op_neD hu)
theorem eqD_gen {x y d : D} (e : eqD x y = some d) : (∃ i j, x = .int i ∧ y = .int j ∧ d = .bl (decide (i = j))) ∨ (∃ i j, x = .str i ∧ y = .str j ∧ d = .bl (decide (i = j))) ∨ (shp x = true ∧ shp y = true ∧ d = .bl (eqPy x y)) := by
  unfold eqD at e
  split at e
  · cases e; exact .inl ⟨_, _, rfl, rfl, rfl⟩
  · cases e; exact .inr (.inl ⟨_, _, rfl, rfl, rfl⟩)
  · split at e
    · rename_i hc
      cases e
      rw [Bool.and_eq_true] at hc
      exact .inr (.inr ⟨hc.1, hc.2, rfl⟩)
    · cases e
theorem neD_gen {x y d : D} (e : neD x y = some d) : (∃ i j, x = .int i ∧ y = .int j ∧ d = .bl (!decide (i = j))) ∨ (∃ i j, x = .str i ∧ y = .str j ∧ d = .bl (!decide (i = j))) ∨ (shp x = true ∧ shp y = true ∧ d = .bl (!eqPy x y)) := by
  unfold neD at e
  split at e
  · cases e; exact .inl ⟨_, _, rfl, rfl, rfl⟩
  · cases e; exact .inr (.inl ⟨_, _, rfl, rfl, rfl⟩)
  · split at e
    · rename_i hc
      cases e
      rw [Bool.and_eq_true] at hc
      exact .inr (.inr ⟨hc.1, hc.2, rfl⟩)
    · cases e
theorem o_eq : Op2 X (rEq2 X.K) eqD := by
  intro A H x y v w d Q ak e hx hy q
  rcases eqD_gen e with ⟨i, j, rfl, rfl, rfl⟩ | ⟨i, j, rfl, rfl, rfl⟩ | ⟨h1, h2, rfl⟩
  · refine .inl ⟨by rw [hx.int, hy.int]; rfl, ?_⟩
    rw [hx.int, hy.int, show decide (V.int i = V.int j) = decide (i = j) by simp]
    exact q _ H (Same.refl H) rep_bl
  · refine .inl ⟨by rw [hx.str, hy.str]; rfl, ?_⟩
    rw [hx.str, hy.str, show decide (V.str i = V.str j) = decide (i = j) by simp]
    exact q _ H (Same.refl H) rep_bl
  · exact .inr ⟨toPy x, toPy y, dp_ofB (SeqAt.canLay_of_shaped h1) hx, dp_ofB (SeqAt.canLay_of_shaped h2) hy, h1, h2, q _ H (Same.refl H) rep_bl⟩
theorem o_ne : Op2 X (rNe2 X.K) neD := by
  intro A H x y v w d Q ak e hx hy q
  rcases neD_gen e with ⟨i, j, rfl, rfl, rfl⟩ | ⟨i, j, rfl, rfl, rfl⟩ | ⟨h1, h2, rfl⟩
  · refine .inl ⟨by rw [hx.int, hy.int]; rfl, ?_⟩
    rw [hx.int, hy.int, show decide (V.int i = V.int j) = decide (i = j) by simp]
    exact q _ H (Same.refl H) rep_bl
  · refine .inl ⟨by rw [hx.str, hy.str]; rfl, ?_⟩
    rw [hx.str, hy.str, show decide (V.str i = V.str j) = decide (i = j) by simp]
    exact q _ H (Same.refl H) rep_bl
  · exact .inr ⟨toPy x, toPy y, dp_ofB (SeqAt.canLay_of_shaped h1) hx, dp_ofB (SeqAt.canLay_of_shaped h2) hy, h1, h2, q _ H (Same.refl H) rep_bl⟩
def cmpI (p : Int → Int → Bool) : D → D → Option D
  | .int i, .int j => some (.bl (p i j))
  | _, _ => none
theorem o_cmpI {p : Int → Int → Bool} : Op2 X (rI0 fun i j => .bl (p i j)) (cmpI p) := by
  intro A H x y v w d Q ak e hx hy q
  cases x with
  | int i =>
    cases y with
    | int j =>
      cases e
      exact ⟨i, j, hx.int, hy.int, q _ H (Same.refl H) rep_bl⟩
    | _ => cases e
  | _ => cases e
abbrev ltD := cmpI fun i j => decide (i < j)
abbrev leD := cmpI fun i j => decide (i ≤ j)
abbrev gtD := cmpI fun i j => decide (j < i)
abbrev geD := cmpI fun i j => decide (j ≤ i)
/-- x is None, x is not None -/
def isND : D → Bool
  | .non => true
  | _ => false
def isN2 : D → D → Option D
  | x, .non => some (.bl (isND x))
  | _, _ => none
def notN2 : D → D → Option D
  | x, .non => some (.bl (!isND x))
  | _, _ => none
theorem isND_of {K : PySem.W.Frag} {H : Hp} {A : Addr → Prop} {x : D} {v : V} (h : RepB K H A x v) : decide (v = .non) = isND x := by
  cases x with
  | non => rw [h.non]; rfl
  | bl b => rw [h.bl]; rfl
  | int b => rw [h.int]; rfl
  | str b => rw [h.str]; rfl
  | tup b => obtain ⟨a, xs, e, _⟩ := h.tup; rw [e]; rfl
  | lst b => obtain ⟨a, xs, e, _⟩ := h.lst; rw [e]; rfl
  | dct b => obtain ⟨a, xs, e, _⟩ := h.dct; rw [e]; rfl
  | dctF b =>
    rcases h with h | ⟨a, e, _⟩
    · unfold Rep at h
      obtain ⟨a, o, xs, e, _⟩ := h
      rw [e]; rfl
    · rw [e]; rfl
  | obj b =>
    rcases h with h | ⟨a, e, _⟩
    · unfold Rep at h
      obtain ⟨a, C, dx, xs, e, _⟩ := h
      rw [e]; rfl
    · rw [e]; rfl
  | dctT b =>
    rcases h with h | ⟨a, e, _⟩
    · unfold Rep at h
      obtain ⟨a, xs, e, _⟩ := h
      rw [e]; rfl
    · rw [e]; rfl
  | ref b =>
    rcases h with h | ⟨a, e, _⟩
    · unfold Rep at h
      rw [h]; rfl
    · rw [e]; rfl
  | ty b =>
    rcases h with h | ⟨a, e, h⟩
    · unfold Rep at h
      rw [h]; rfl
    · exact h.elim
theorem o_isN : Op2 X (fun x y H Q => y = .non ∧ Q (.bl (decide (x = .non))) H) isN2 := by
  intro A H x y v w d Q ak e hx hy q
  cases y with
  | non =>
    cases e
    refine ⟨hy.non, ?_⟩
    rw [isND_of hx]
    exact q _ H (Same.refl H) rep_bl
  | _ => cases e
theorem o_notN : Op2 X (fun x y H Q => y = .non ∧ Q (.bl (!decide (x = .non))) H) notN2 := by
  intro A H x y v w d Q ak e hx hy q
  cases y with
  | non =>
    cases e
    refine ⟨hy.non, ?_⟩
    rw [isND_of hx]
    exact q _ H (Same.refl H) rep_bl
  | _ => cases e

/-! ### in -/
/-- a text within a text; an item of a list or tuple of plain things -/
def flatD : D → Bool
  | .non => true | .bl _ => true | .int _ => true | .str _ => true
  | _ => false
def inStr (x y : Str) : Bool := !(Builtin.Str.occurrences y x 0 y.length 1).isEmpty
def inD : D → D → Option Bool
  | .str x, .str y => some (inStr x y)
  | x, .lst ys => if flatD x && ys.all flatD then some (ys.any fun y => eqPy y x) else if shp x && shp (.lst ys) then some (ys.any fun y => eqPy y x) else none
  | x, .tup ys => if flatD x && ys.all flatD then some (ys.any fun y => eqPy y x) else none
  | _, _ => none
def inB (n : Bool) (x y : D) : Option D := (inD x y).map fun b => .bl (if n then !b else b)
def rInS (n : Bool) : R2 := fun x y H Q => ∃ i j, x = .str i ∧ y = .str j ∧ Q (.bl (if n then !(inStr i j) else inStr i j)) H
def rIn3 (K : PySem.W.Frag) (n : Bool) : R2 := fun x y H Q => rInS n x y H Q ∨ rIn K n x y H Q ∨ (∃ d ds, Dp K H x d ∧ Dp K H y (.list ds) ∧ SeqAt.shaped d = true ∧ SeqAt.shaped (.list ds) = true ∧ Q (.bl (if n then !ds.any fun z => PyData.eqv z d else ds.any fun z => PyData.eqv z d)) H)
theorem op_in3 (hu : X.A.units + 65 < cLine) : OpR X (compareOp .In) (rIn3 X.K false) := OpR.or (r := rInS false) op_in_str (op_in_seq.or (op_inD hu))
theorem op_notIn3 (hu : X.A.units + 65 < cLine) : OpR X (compareOp .NotIn) (rIn3 X.K true) := OpR.or (r := rInS true) op_notIn_str (op_notIn_seq.or (op_notInD hu))
theorem flat_of {K : PySem.W.Frag} {H : Hp} {A : Addr → Prop} {x : D} {v : V} (f : flatD x = true) (h : RepB K H A x v) : flatV v = true := by
  cases x with
  | non => rw [h.non]; rfl
  | bl b => rw [h.bl]; rfl
  | int b => rw [h.int]; rfl
  | str b => rw [h.str]; rfl
  | _ => cases f
theorem eqV_of {K : PySem.W.Frag} {H : Hp} {A : Addr → Prop} {x y : D} {v w : V} (f : flatD x = true) (g : flatD y = true) (h : RepB K H A x v) (h2 : RepB K H A y w) : eqV v w = eqPy x y := by
  cases x with
  | non =>
    rw [h.non]
    cases y with
    | non => rw [h2.non]; simp [eqV, eqPy, toPy, PyData.eqv]
    | bl b => rw [h2.bl]; simp [eqV, eqPy, toPy, PyData.eqv]
    | int b => rw [h2.int]; simp [eqV, eqPy, toPy, PyData.eqv]
    | str b => rw [h2.str]; simp [eqV, eqPy, toPy, PyData.eqv]
    | _ => cases g
  | bl a =>
    rw [h.bl]
    cases y with
    | non => rw [h2.non]; simp [eqV, eqPy, toPy, PyData.eqv]
    | bl b => rw [h2.bl]; simp [eqV, eqPy, toPy, PyData.eqv]
    | int b => rw [h2.int]; simp [eqV, eqPy, toPy, PyData.eqv]
    | str b => rw [h2.str]; simp [eqV, eqPy, toPy, PyData.eqv]
    | _ => cases g
  | int a =>
    rw [h.int]
    cases y with
    | non => rw [h2.non]; simp [eqV, eqPy, toPy, PyData.eqv]
    | bl b => rw [h2.bl]; simp [eqV, eqPy, toPy, PyData.eqv]
    | int b => rw [h2.int]; simp [eqV, eqPy, toPy, PyData.eqv]
    | str b => rw [h2.str]; simp [eqV, eqPy, toPy, PyData.eqv]
    | _ => cases g
  | str a =>
    rw [h.str]
    cases y with
    | non => rw [h2.non]; simp [eqV, eqPy, toPy, PyData.eqv]
    | bl b => rw [h2.bl]; simp [eqV, eqPy, toPy, PyData.eqv]
    | int b => rw [h2.int]; simp [eqV, eqPy, toPy, PyData.eqv]
    | str b => rw [h2.str]; simp [eqV, eqPy, toPy, PyData.eqv]
    | _ => cases g
  | _ => cases f
theorem flats_of {K : PySem.W.Frag} {H : Hp} {A : Addr → Prop} : ∀ {ds : List D} {vs : List V}, ds.all flatD = true → RepL K H A ds vs → vs.all flatV = true
  | [], vs, f, h => by unfold RepL at h; subst h; rfl
  | d :: ds, vs, f, h => by
    unfold RepL at h
    obtain ⟨v, r, e, h1, h2⟩ := h
    subst e
    rw [List.all_cons, Bool.and_eq_true] at f ⊢
    exact ⟨flat_of f.1 (.inl h1), flats_of f.2 h2⟩
theorem inV_of {K : PySem.W.Frag} {H : Hp} {A : Addr → Prop} {x : D} {v : V} (f : flatD x = true) (h : RepB K H A x v) : ∀ {ds : List D} {vs : List V}, ds.all flatD = true → RepL K H A ds vs → inV v vs = ds.any fun y => eqPy y x
  | [], vs, g, h2 => by unfold RepL at h2; subst h2; rfl
  | d :: ds, vs, g, h2 => by
    unfold RepL at h2
    obtain ⟨w, r, e, h3, h4⟩ := h2
    subst e
    rw [List.all_cons, Bool.and_eq_true] at g
    have ih := inV_of f h g.2 h4
    show (eqV w v || inV v r) = _
    rw [List.any_cons, ih, eqV_of g.1 f (.inl h3) h]
theorem any_py (x : D) : ∀ ys : List D, (toPyL ys).any (fun z => PyData.eqv z (toPy x)) = ys.any fun y => eqPy y x
  | [] => rfl
  | y :: ys => by
    show (PyData.eqv (toPy y) (toPy x) || (toPyL ys).any _) = _
    rw [any_py x ys]
    rfl
theorem o_in {n : Bool} : Op2 X (rIn3 X.K n) (inB n) := by
  intro A H x y v w d Q ak e hx hy q
  unfold inB at e
  cases q' : inD x y with
  | none => rw [q'] at e; cases e
  | some b =>
    rw [q'] at e
    cases e
    unfold inD at q'
    split at q'
    · cases q'
      exact .inl ⟨_, _, hx.str, hy.str, q _ H (Same.refl H) rep_bl⟩
    · rename_i ys
      obtain ⟨a, xs, e1, h1, h2⟩ := hy.lst
      split at q'
      · rename_i hf
        cases q'
        rw [Bool.and_eq_true] at hf
        refine .inr (.inl ⟨a, xs, e1, .inl h1, flat_of hf.1 hx, flats_of hf.2 h2, ?_⟩)
        rw [inV_of hf.1 hx hf.2 h2]
        exact q _ H (Same.refl H) rep_bl
      · split at q'
        · rename_i hs
          cases q'
          rw [Bool.and_eq_true] at hs
          refine .inr (.inr ⟨toPy x, toPyL ys, dp_ofB (SeqAt.canLay_of_shaped hs.1) hx, ?_, hs.1, ?_, ?_⟩)
          · exact dp_ofB (SeqAt.canLay_of_shaped hs.2) hy
          · exact hs.2
          · rw [any_py]
            exact q _ H (Same.refl H) rep_bl
        · cases q'
    · rename_i ys
      obtain ⟨a, xs, e1, h1, h2⟩ := hy.tup
      split at q'
      · rename_i hf
        cases q'
        rw [Bool.and_eq_true] at hf
        refine .inr (.inl ⟨a, xs, e1, .inr h1, flat_of hf.1 hx, flats_of hf.2 h2, ?_⟩)
        rw [inV_of hf.1 hx hf.2 h2]
        exact q _ H (Same.refl H) rep_bl
      · cases q'
    · cases q'

/-! ### items, slices -/
def ixD : D → D → Option D
  | .lst xs, .int i => atI xs i
  | .tup xs, .int i => atI xs i
  | .str z, .int i => if z.length ≤ sizeLine then (atI z.cps.toList i).map fun c => .str ⟨#[c]⟩ else none
  | _, _ => none
theorem atI_rep {K : PySem.W.Frag} {H : Hp} {A : Addr → Prop} {ds : List D} {vs : List V} {i : Int} {d : D} (h : RepL K H A ds vs) (e : atI ds i = some d) : ∃ v, atI vs i = some v ∧ Rep K H A d v := by
  unfold atI at e ⊢
  rw [repL_length h]
  cases q : ixN ds.length i with
  | none => rw [q] at e; cases e
  | some j =>
    rw [q] at e
    exact repL_get h e
theorem o_ix : Op2 X (rIx X.K) ixD := by
  intro A H x y v w d Q ak e hx hy q
  cases y with
  | int i =>
    cases x with
    | lst xs =>
      obtain ⟨a, ys, e1, h1, h2⟩ := hx.lst
      obtain ⟨z, h3, h4⟩ := atI_rep h2 e
      exact .inl ⟨a, ys, i, z, e1, hy.int, h1, h3, q _ H (Same.refl H) h4⟩
    | tup xs =>
      obtain ⟨a, ys, e1, h1, h2⟩ := hx.tup
      obtain ⟨z, h3, h4⟩ := atI_rep h2 e
      exact .inr (.inl ⟨a, ys, i, z, e1, hy.int, h1, h3, q _ H (Same.refl H) h4⟩)
    | str z =>
      simp only [ixD] at e
      split at e
      · rename_i hz
        cases q' : atI z.cps.toList i with
        | none => rw [q'] at e; cases e
        | some c =>
          rw [q'] at e
          cases e
          exact .inr (.inr ⟨z, i, c, hx.str, hy.int, hz, q', q _ H (Same.refl H) rep_str⟩)
      · cases e
    | _ => cases e
  | _ => cases x <;> cases e
theorem d_ix {W : WX} {a b : Expr} {fa fb : Env → R D} {pos : Pos} (ha : DB X W a fa) (hb : DB X W b fb) (hs : PlainIx b := by exact fun _ _ => rfl) : DP X W (.Subscript a b pos) (bin ixD fa fb) := d_bin (fun pa pb => pe_ix ix_seq pa pb hs) o_ix ha hb
theorem e_ix {W : WX} {a b : Expr} {fa fb : Env → R (D × Env)} {pos : Pos} (ha : DE X W a fa) (hb : DE X W b fb) (hs : PlainIx b := by exact fun _ _ => rfl) : DE X W (.Subscript a b pos) (binE ixD fa fb) := d_binE (fun pa pb => pe_ix ix_seq pa pb hs) o_ix ha hb
/-- a part of a slice -/
structure DO (X : Cx) (W : WX) (e : Option Expr) (f : Env → R (Option Int)) : Prop where
  ex : ∃ t, PO X e t ∧ ∀ (F : Fm) (os : List (Option Addr)) (r : Env) (σ : St) (H : Hp) (Q : Option Int → Hp → Prop), Rel X.K F os r σ H →
    Sat (fun o => ∀ H', Same H H' → Q o H') (Er X W F) (f r) → t σ H Q
@[simp] def oNone : Env → R (Option Int) := fun _ => .ok none
def asI : D → Option Int
  | .int i => some i
  | _ => none
@[simp] def oSome (f : Env → R D) : Env → R (Option Int) := fun r => (f r).bind fun d => (R.ofO (asI d)).bind fun i => .ok (some i)
theorem do_none {W : WX} : DO X W none oNone := ⟨_, po_none, fun F os r σ H Q R S => S H (Same.refl H)⟩
theorem do_some {W : WX} {e : Expr} {f : Env → R D} (h : DB X W e f) : DO X W (some e) (oSome f) := by
  obtain ⟨t, pe, w⟩ := h
  refine ⟨_, po_some pe, fun F os r σ H Q R S => ?_⟩
  refine w F os r σ H _ R (S.bind.imp fun d S v H1 s1 h1 => ?_)
  obtain ⟨i, e, S⟩ := S.bind.ofO
  cases d with
  | int j =>
    cases e
    exact ⟨_, h1.int, S H1 s1⟩
  | _ => cases e
def cutL {α : Type} (xs : List α) (lo hi : Option Int) : List α := (xs.drop (HT.sIx xs.length 0 lo)).take (HT.sIx xs.length xs.length hi - HT.sIx xs.length 0 lo)
@[simp] def slD : D → Option Int → Option Int → Option D
  | .str z, lo, hi => if z.length ≤ sizeLine then some (.str (cutS z lo hi)) else none
  | .tup xs, lo, hi => some (.tup (cutL xs lo hi))
  | _, _, _ => none
@[simp] def slLD : D → Option Int → Option Int → Option D
  | .lst xs, lo, hi => some (.lst (cutL xs lo hi))
  | _, _, _ => none
def rSl2 (K : PySem.W.Frag) : V → Option Int → Option Int → Hp → VK → Prop := fun x lo hi H Q => rSlS x lo hi H Q ∨ rSlA K x lo hi H Q
theorem sl_2 : SlR X (rSl2 X.K) := sl_str.or sl_tupA
theorem repL_cut {K : PySem.W.Frag} {H : Hp} {A : Addr → Prop} {ds : List D} {vs : List V} {lo hi : Option Int} (h : RepL K H A ds vs) : RepL K H A (cutL ds lo hi) (cutV vs lo hi) := by
  unfold cutL cutV
  rw [repL_length h]
  exact repL_take _ (repL_drop _ h)
@[simp] def sl3 (op : D → Option Int → Option Int → Option D) (fa : Env → R D) (fl fh : Env → R (Option Int)) : Env → R D := fun r => (fa r).bind fun x => (fl r).bind fun l => (fh r).bind fun h => R.ofO (op x l h)
theorem d_sl {W : WX} {e : Expr} {lo hi : Option Expr} {fa : Env → R D} {fl fh : Env → R (Option Int)} {p2 pos : Pos} (he : DB X W e fa) (hl : DO X W lo fl) (hh : DO X W hi fh) : DP X W (.Subscript e (.Slice lo hi none p2) pos) (sl3 slD fa fl fh) := by
  obtain ⟨t, pe, w⟩ := he
  obtain ⟨tl, pl, wl⟩ := hl
  obtain ⟨th, ph, wh⟩ := hh
  refine ⟨_, pe_slice sl_2 pe pl ph, fun F os r σ H Q R S => ?_⟩
  refine w F os r σ H _ R (S.bind.imp fun d S v H1 s1 h1 => ?_)
  refine wl F os r σ H1 _ (R.same' s1) (S.bind.imp fun l S H2 s2 => ?_)
  refine wh F os r σ H2 _ ((R.same' s1).same' s2) (S.bind.imp fun h S H3 s3 => ?_)
  obtain ⟨d', e', S⟩ := S.ofO
  have R3 := ((R.same' s1).same' s2).same' s3
  have h3 := (h1.same s2 (R.same' s1).AOk).same s3 ((R.same' s1).same' s2).AOk
  have s13 := (s1.trans s2).trans s3
  cases d with
  | str z =>
    simp only [slD] at e'
    split at e'
    · rename_i hz
      cases e'
      exact .inl ⟨z, h3.str, hz, S _ H3 s13 rep_str⟩
    · cases e'
  | tup xs =>
    cases e'
    have h3' : Rep X.K H3 (Av F.A0 os) (.tup xs) v := by
      rcases h3 with z | ⟨_, _, z⟩
      · exact z
      · exact z.elim
    obtain ⟨a, ys, e1, h4, h5⟩ := h3.tup
    refine .inr ⟨a, ys, e1, h4, fun hw => ?_, fun hw p n => ?_⟩
    · refine S _ H3 s13 ?_
      have ll := repL_length h5
      rw [ll] at hw
      have ex : cutL xs l h = xs := by
        unfold cutL
        rw [hw.1, hw.2, List.drop_zero, Nat.sub_zero, List.take_length]
      rw [ex, ← e1]
      exact h3'
    · exact S _ _ (s13.trans (same_upd n)) (rep_newtup R3.AOk (repL_cut h5) n)
  | _ => cases e'
theorem d_slL {W : WX} {e : Expr} {lo hi : Option Expr} {fa : Env → R D} {fl fh : Env → R (Option Int)} {p2 pos : Pos} (he : DB X W e fa) (hl : DO X W lo fl) (hh : DO X W hi fh) : DF X W (.Subscript e (.Slice lo hi none p2) pos) (sl3 slLD fa fl fh) := by
  obtain ⟨t, pe, w⟩ := he
  obtain ⟨tl, pl, wl⟩ := hl
  obtain ⟨th, ph, wh⟩ := hh
  refine ⟨_, pe_slice sl_list pe pl ph, fun F os r σ H Q R S => ?_⟩
  refine w F os r σ H _ R (S.bind.imp fun d S v H1 s1 h1 => ?_)
  refine wl F os r σ H1 _ (R.same' s1) (S.bind.imp fun l S H2 s2 => ?_)
  refine wh F os r σ H2 _ ((R.same' s1).same' s2) (S.bind.imp fun h S H3 s3 => ?_)
  obtain ⟨d', e', S⟩ := S.ofO
  have R3 := ((R.same' s1).same' s2).same' s3
  have h3 := (h1.same s2 (R.same' s1).AOk).same s3 ((R.same' s1).same' s2).AOk
  have s13 := (s1.trans s2).trans s3
  cases d with
  | lst xs =>
    cases e'
    obtain ⟨a, ys, e1, h4, h5⟩ := h3.lst
    exact ⟨a, ys, e1, h4, fun p n => S p _ (s13.trans (same_upd n)) (s13.free n) (repO_newlst R3.AOk (repL_cut h5) n)⟩
  | _ => cases e'

/-! ### tuples and lists written out -/
def mkT (g : Env → R (List D)) : Env → R D := fun r => (g r).bind fun ds => if ds.length ≤ sizeLine then .ok (.tup ds) else .stk
def mkTE (g : Env → R (List D × Env)) : Env → R (D × Env) := fun r => (g r).bind fun p => if p.1.length ≤ sizeLine then .ok (.tup p.1, p.2) else .stk
def mkL (g : Env → R (List D)) : Env → R D := fun r => (g r).bind fun ds => if ds.length ≤ sizeLine then .ok (.lst ds) else .stk
theorem d_tup {W : WX} {es : List Expr} {g : Env → R (List D)} {k : Nat} {pos : Pos} (h : DPs X W es g) : DP X W (.Tuple es k pos) (mkT g) := by
  obtain ⟨t, pe, w⟩ := h
  refine ⟨_, pe_tup pe, fun F os r σ H Q R S => ?_⟩
  refine w F os r σ H _ R (S.bind.imp fun ds S vs H1 s1 h1 => ?_)
  by_cases hl : ds.length ≤ sizeLine
  · rw [if_pos hl] at S
    exact ⟨by rw [repL_length h1]; exact hl, fun p n => S _ _ (s1.trans (same_upd n)) (rep_newtup (R.same' s1).AOk h1 n)⟩
  · rw [if_neg hl] at S
    exact S.elim
theorem d_lst {W : WX} {es : List Expr} {g : Env → R (List D)} {pos : Pos} (h : DPs X W es g) : DF X W (.List es pos) (mkL g) := by
  obtain ⟨t, pe, w⟩ := h
  refine ⟨_, pe_lst pe, fun F os r σ H Q R S => ?_⟩
  refine w F os r σ H _ R (S.bind.imp fun ds S vs H1 s1 h1 => ?_)
  by_cases hl : ds.length ≤ sizeLine
  · rw [if_pos hl] at S
    exact ⟨by rw [repL_length h1]; exact hl, fun p n => S _ _ (s1.trans (same_upd n)) (s1.free n) (repO_newlst (R.same' s1).AOk h1 n)⟩
  · rw [if_neg hl] at S
    exact S.elim
end
end DL

end
section
namespace DL
open PySem L2
section
variable {X : Cx} {W : WX} {e a b c : Expr} {es rest : List Expr} {f fa fb fc : Env → R D} {pos : Pos}

/-! ### readings by the data alone -/
def cE (K : PySem.W.Frag) (mg : Str → Option Value) (W : WX) (f : Env → R (D × Env)) : TE := fun σ H Q => ∃ F os r, Rel K F os r σ H ∧
  Sat (fun p => ∀ v H', Rel K F os p.2 σ H' → Keep (Av F.A0 os) (Av F.A0 os) H H' → Rep K H' (Av F.A0 os) p.1 v → Q v H') (ErK K mg W F) (f r)
theorem DE.can {g : Env → R (D × Env)} (h : DE X W e g) : PE X e (cE X.K X.mg W g) := by
  obtain ⟨t, pe, w⟩ := h
  exact ⟨fun pins s σ H Q I ⟨F, os, r, R, S⟩ => pe.run pins s σ H Q I (w F os r σ H Q R S)⟩
def cT (K : PySem.W.Frag) (mg : Str → Option Value) (W : WX) (f : Env → R (Bool × Env)) : TT := fun σ H Q => ∃ F os r, Rel K F os r σ H ∧
  Sat (fun p => ∀ H', Rel K F os p.2 σ H' → Keep (Av F.A0 os) (Av F.A0 os) H H' → Q p.1 H') (ErK K mg W F) (f r)
theorem DTE.can {g : Env → R (Bool × Env)} (h : DTE X W e g) : PT X e (cT X.K X.mg W g) := by
  obtain ⟨t, pe, w⟩ := h
  exact ⟨fun pins s σ H Q I ⟨F, os, r, R, S⟩ => pe.run pins s σ H Q I (w F os r σ H Q R S)⟩

/-! ### not, and, or, if else: tests -/
def notB (g : Env → R Bool) : Env → R Bool := fun r => (g r).bind fun b => .ok (!b)
def andB (g h : Env → R Bool) : Env → R Bool := fun r => (g r).bind fun b => if b = true then h r else .ok false
def orB (g h : Env → R Bool) : Env → R Bool := fun r => (g r).bind fun b => if b = true then .ok true else h r
@[simp] def notBE (g : Env → R (Bool × Env)) : Env → R (Bool × Env) := fun r => (g r).bind fun b => .ok (!b.1, b.2)
@[simp] def andBE (g h : Env → R (Bool × Env)) : Env → R (Bool × Env) := fun r => (g r).bind fun b => if b.1 = true then h b.2 else .ok (false, b.2)
@[simp] def orBE (g h : Env → R (Bool × Env)) : Env → R (Bool × Env) := fun r => (g r).bind fun b => if b.1 = true then .ok (true, b.2) else h b.2
/-- and, or: a chain -/
structure DW (X : Cx) (W : WX) (e : Expr) (f : Env → R Bool) : Prop where
  ex : ∃ t, PW X e t ∧ ∀ (F : Fm) (os : List (Option Addr)) (r : Env) (σ : St) (H : Hp) (Q : Bool → Hp → Prop), Rel X.K F os r σ H →
    Sat (fun b => ∀ H', Same H H' → Q b H') (Er X W F) (f r) → t σ H Q
structure DWE (X : Cx) (W : WX) (e : Expr) (f : Env → R (Bool × Env)) : Prop where
  ex : ∃ t, PW X e t ∧ ∀ (F : Fm) (os : List (Option Addr)) (r : Env) (σ : St) (H : Hp) (Q : Bool → Hp → Prop), Rel X.K F os r σ H →
    Sat (fun p => ∀ H', Rel X.K F os p.2 σ H' → Keep (Av F.A0 os) (Av F.A0 os) H H' → Q p.1 H') (Er X W F) (f r) → t σ H Q
variable {ga gb : Env → R Bool} {gaE gbE : Env → R (Bool × Env)}
theorem t_not (h : DT X W a ga) : DT X W (.UnaryOp .Not a pos) (notB ga) := by
  obtain ⟨t, pe, w⟩ := h
  exact ⟨_, pt_not pe, fun F os r σ H Q R S => w F os r σ H _ R (S.bind.imp fun b S H' s => S H' s)⟩
theorem w_and1 (h : DT X W a ga) : DW X W (.BoolOp .And [a] pos) ga := by
  obtain ⟨t, pe, w⟩ := h
  exact ⟨_, pw_and1 pe, w⟩
theorem w_or1 (h : DT X W a ga) : DW X W (.BoolOp .Or [a] pos) ga := by
  obtain ⟨t, pe, w⟩ := h
  exact ⟨_, pw_or1 pe, w⟩
theorem w_and (h : DT X W a ga) (h2 : DW X W (.BoolOp .And (b :: rest) pos) gb) : DW X W (.BoolOp .And (a :: b :: rest) pos) (andB ga gb) := by
  obtain ⟨t, pe, w⟩ := h
  obtain ⟨u, pu, z⟩ := h2
  refine ⟨_, pw_and pe pu, fun F os r σ H Q R S => w F os r σ H _ R (S.bind.imp fun b S H' s => ?_)⟩
  by_cases hb : b = true
  · rw [if_pos hb] at S ⊢
    exact z F os r σ H' Q (R.same' s) (S.imp fun b q H2 s2 => q H2 (s.trans s2))
  · rw [if_neg hb] at S ⊢
    exact S H' s
theorem w_or (h : DT X W a ga) (h2 : DW X W (.BoolOp .Or (b :: rest) pos) gb) : DW X W (.BoolOp .Or (a :: b :: rest) pos) (orB ga gb) := by
  obtain ⟨t, pe, w⟩ := h
  obtain ⟨u, pu, z⟩ := h2
  refine ⟨_, pw_or pe pu, fun F os r σ H Q R S => w F os r σ H _ R (S.bind.imp fun b S H' s => ?_)⟩
  by_cases hb : b = true
  · rw [if_pos hb] at S ⊢
    exact S H' s
  · rw [if_neg hb] at S ⊢
    exact z F os r σ H' Q (R.same' s) (S.imp fun b q H2 s2 => q H2 (s.trans s2))
theorem DW.t (h : DW X W e ga) : DT X W e ga := by
  obtain ⟨t, pe, w⟩ := h
  exact ⟨_, pe.pt, w⟩
theorem DWE.t (h : DWE X W e gaE) : DTE X W e gaE := by
  obtain ⟨t, pe, w⟩ := h
  exact ⟨_, pe.pt, w⟩

/-! ### the same as values -/
def notV (g : Env → R D) : Env → R D := fun r => (g r).bind fun d => (R.ofO (asB d)).bind fun b => .ok (.bl (!b))
def andV (g h : Env → R D) : Env → R D := fun r => (g r).bind fun d => (R.ofO (asB d)).bind fun b => if b = true then h r else .ok (.bl false)
def orV (g h : Env → R D) : Env → R D := fun r => (g r).bind fun d => (R.ofO (asB d)).bind fun b => if b = true then .ok (.bl true) else h r
def ifV (g : Env → R Bool) (h k : Env → R D) : Env → R D := fun r => (g r).bind fun b => if b = true then h r else k r
@[simp] def ifVE (g : Env → R (Bool × Env)) (h k : Env → R (D × Env)) : Env → R (D × Env) := fun r => (g r).bind fun b => if b.1 = true then h b.2 else k b.2
theorem d_not (h : DP X W a fa) : DP X W (.UnaryOp .Not a pos) (notV fa) := by
  obtain ⟨t, pe, w⟩ := h
  refine ⟨_, pe_not pe, fun F os r σ H Q R S => w F os r σ H _ R (S.bind.imp fun d S v H' s h => ?_)⟩
  obtain ⟨k, ek, S⟩ := S.bind.ofO
  exact ⟨k, asB_bl ek (.inl h), S _ H' s rep_bl⟩
theorem d_one {op : BoolOp} (h : DP X W a fa) : DP X W (.BoolOp op [a] pos) fa := by
  obtain ⟨t, pe, w⟩ := h
  exact ⟨_, pe_one pe, w⟩
theorem d_and (h : DP X W a fa) (h2 : DP X W (.BoolOp .And (b :: rest) pos) fb) : DP X W (.BoolOp .And (a :: b :: rest) pos) (andV fa fb) := by
  obtain ⟨t, pe, w⟩ := h
  obtain ⟨u, pu, z⟩ := h2
  refine ⟨_, pe_and pe pu, fun F os r σ H Q R S => w F os r σ H _ R (S.bind.imp fun d S v H' s h => ?_)⟩
  obtain ⟨k, ek, S⟩ := S.bind.ofO
  refine ⟨k, asB_bl ek (.inl h), ?_⟩
  by_cases hb : k = true
  · rw [if_pos hb] at S ⊢
    exact z F os r σ H' Q (R.same' s) (S.imp fun b q u H2 s2 => q u H2 (s.trans s2))
  · rw [if_neg hb] at S ⊢
    exact S _ H' s rep_bl
theorem d_if (hc : DT X W c ga) (ha : DP X W a fa) (hb : DP X W b fb) : DP X W (.IfExp c a b pos) (ifV ga fa fb) := by
  obtain ⟨t, pe, w⟩ := hc
  obtain ⟨u, pu, z⟩ := ha
  obtain ⟨u2, pu2, z2⟩ := hb
  refine ⟨_, pe_ifExp pe pu pu2, fun F os r σ H Q R S => w F os r σ H _ R (S.bind.imp fun k S H' s => ?_)⟩
  by_cases hb : k = true
  · rw [if_pos hb] at S ⊢
    exact z F os r σ H' Q (R.same' s) (S.imp fun b q u H2 s2 => q u H2 (s.trans s2))
  · rw [if_neg hb] at S ⊢
    exact z2 F os r σ H' Q (R.same' s) (S.imp fun b q u H2 s2 => q u H2 (s.trans s2))
/-- a op1 b op2 c -/
def chn (o1 o2 : D → D → Option D) (fa fb fc : Env → R D) : Env → R D := fun r => (fa r).bind fun x => (fb r).bind fun y => (R.ofO (o1 x y)).bind fun d => (R.ofO (asB d)).bind fun k =>
  if k = true then (fc r).bind fun z => R.ofO (o2 y z) else .ok (.bl false)
theorem chain_go {ta tb tc : TE} {r1 r2 : R2} {o1 o2 : D → D → Option D} (h1 : Op2 X r1 o1) (h2 : Op2 X r2 o2)
    (wa : ∀ (F : Fm) (os : List (Option Addr)) (r : Env) (σ : St) (H : Hp) (Q : VK), Rel X.K F os r σ H → Sat (fun d => ∀ v H', Same H H' → RepB X.K H' (Av F.A0 os) d v → Q v H') (Er X W F) (fa r) → ta σ H Q)
    (wb : ∀ (F : Fm) (os : List (Option Addr)) (r : Env) (σ : St) (H : Hp) (Q : VK), Rel X.K F os r σ H → Sat (fun d => ∀ v H', Same H H' → RepB X.K H' (Av F.A0 os) d v → Q v H') (Er X W F) (fb r) → tb σ H Q)
    (wc : ∀ (F : Fm) (os : List (Option Addr)) (r : Env) (σ : St) (H : Hp) (Q : VK), Rel X.K F os r σ H → Sat (fun d => ∀ v H', Same H H' → RepB X.K H' (Av F.A0 os) d v → Q v H') (Er X W F) (fc r) → tc σ H Q)
    {F : Fm} {os : List (Option Addr)} {r : Env} {σ : St} {H : Hp} {Q : VK} (R : Rel X.K F os r σ H) (S : Sat (fun d => ∀ v H', Same H H' → Rep X.K H' (Av F.A0 os) d v → Q v H') (Er X W F) (chn o1 o2 fa fb fc r)) :
    tChain r1 r2 ta tb tc σ H Q := by
  refine wa F os r σ H _ R (S.bind.imp fun x S v H1 s1 e1 => ?_)
  have R1 := R.same' s1
  refine wb F os r σ H1 _ R1 (S.bind.imp fun y S w H2 s2 e2 => ?_)
  have R2 := R1.same' s2
  obtain ⟨d, ed, S⟩ := S.bind.ofO
  obtain ⟨k, ek, S⟩ := S.bind.ofO
  refine h1 _ H2 x y v w d _ R2.AOk ed (e1.same s2 R1.AOk) e2 fun u H3 s3 e3 => ?_
  have R3 := R2.same' s3
  refine ⟨k, asB_bl ek (.inl e3), ?_⟩
  have s13 := (s1.trans s2).trans s3
  by_cases hb : k = true
  · rw [if_pos hb] at S ⊢
    refine wc F os r σ H3 _ R3 (S.bind.imp fun z S zv H4 s4 e4 => ?_)
    obtain ⟨d2, ed2, S⟩ := S.ofO
    exact h2 _ H4 y z w zv d2 Q (R3.same' s4).AOk ed2 ((e2.same s3 R2.AOk).same s4 R3.AOk) e4 fun u2 H5 s5 e5 => S u2 H5 ((s13.trans s4).trans s5) e5
  · rw [if_neg hb] at S ⊢
    exact S _ H3 s13 rep_bl
theorem t_chain {op op' : CmpOp} {r1 r2 : R2} {o1 o2 : D → D → Option D} (ho : OpR X (compareOp op) r1) (ho' : OpR X (compareOp op') r2) (h1 : Op2 X r1 o1) (h2 : Op2 X r2 o2) (ha : DB X W a fa) (hb : DB X W b fb) (hc : DB X W c fc)
    (hm : lastMarks [op, op'] [b, c] = false := by with_unfolding_all rfl) : DT X W (.Compare a [op, op'] [b, c] pos) (tst (chn o1 o2 fa fb fc)) := by
  obtain ⟨ta, pa, wa⟩ := ha
  obtain ⟨tb, pb, wb⟩ := hb
  obtain ⟨tc, pc, wc⟩ := hc
  refine ⟨_, pt_chain ho ho' pa pb pc hm, fun F os r σ H Q R S => ?_⟩
  show tChain r1 r2 ta tb tc σ H _
  refine chain_go (W := W) h1 h2 wa wb wc R (S.bind.imp fun d S v H' s h => ?_)
  obtain ⟨k, ek, S⟩ := S.ofO
  exact ⟨k, asB_bl ek (.inl h), S H' s⟩
/-- a comparison as a value -/
theorem d_cmp {op : CmpOp} {r : R2} {g : D → D → Option D} (ho : OpR X (compareOp op) r) (o : Op2 X r g) (ha : DB X W a fa) (hb : DB X W b fb) (hm : behindInMarks op b = false) : DP X W (.Compare a [op] [b] pos) (bin g fa fb) :=
  d_bin (fun pa pb => pe_cmpR ho pa pb hm) o ha hb
theorem d_op {op : Operator} {r : R2} {g : D → D → Option D} (ho : OpR X (binaryOp op) r) (o : Op2 X r g) (ha : DB X W a fa) (hb : DB X W b fb) : DP X W (.BinOp a op b pos) (bin g fa fb) :=
  d_bin (fun pa pb => pe_op ho pa pb) o ha hb
theorem e_op {op : Operator} {r : R2} {g : D → D → Option D} {ha' hb' : Env → R (D × Env)} (ho : OpR X (binaryOp op) r) (o : Op2 X r g) (ha : DE X W a ha') (hb : DE X W b hb') : DE X W (.BinOp a op b pos) (binE g ha' hb') :=
  d_binE (fun pa pb => pe_op ho pa pb) o ha hb

/-! ### built-in functions and types called -/
variable {g : Env → R (List D)} {x : Str} {id T : String} {p : Pos} {rr : List V → Hp → VK → Prop} {op : List D → Option D}
theorem d_callB (hc : CallR X (.builtin id) rr) (o : OpN X rr op) (hg : Gl X x) (hm : X.mg x = none) (hv : bootBuiltins x = some (.builtin id)) (ha : DBs X W (e :: es) g) (hn : x ≠ "__name__" := by decide) (hdb : (x == ("__debug__" : Str)) = false := by decide)
    (he : starEach (e :: es) X.env = (false, eval e X.env) :: starEach es X.env := by rfl) (hpl : (backTo pos (starEach es X.env)).any (·.1) = false := by rfl) : DP X W (.Call (.Name x p) (e :: es) [] pos) (appN op g) :=
  d_app (fun pa => pe_callB hc hg hm hv pa hn hdb he hpl) o ha
theorem d_callBF (hc : CallR X (.builtin id) rr) (o : OpNF X rr op) (hg : Gl X x) (hm : X.mg x = none) (hv : bootBuiltins x = some (.builtin id)) (ha : DBs X W (e :: es) g) (hn : x ≠ "__name__" := by decide) (hdb : (x == ("__debug__" : Str)) = false := by decide)
    (he : starEach (e :: es) X.env = (false, eval e X.env) :: starEach es X.env := by rfl) (hpl : (backTo pos (starEach es X.env)).any (·.1) = false := by rfl) : DF X W (.Call (.Name x p) (e :: es) [] pos) (appN op g) :=
  d_appF (fun pa => pe_callB hc hg hm hv pa hn hdb he hpl) o ha
theorem d_callT (hc : CallR X (.type T) rr) (o : OpN X rr op) (hg : Gl X x) (hm : X.mg x = none) (hv : bootBuiltins x = some (.type T)) (ha : DBs X W (e :: es) g) (hn : x ≠ "__name__" := by decide) (hdb : (x == ("__debug__" : Str)) = false := by decide)
    (he : starEach (e :: es) X.env = (false, eval e X.env) :: starEach es X.env := by rfl) (hpl : (backTo pos (starEach es X.env)).any (·.1) = false := by rfl) : DP X W (.Call (.Name x p) (e :: es) [] pos) (appN op g) :=
  d_app (fun pa => pe_callTy hc hg hm hv pa hn hdb he hpl) o ha
/-- a built-in type's name as a value -/
theorem b_ty {n : String} (hg : Gl X x) (hm : X.mg x = none) (hv : bootBuiltins x = some (.type n)) (hn : x ≠ "__name__" := by decide) (hd : (x == ("__debug__" : Str)) = false := by decide) : DP X W (.Name x p) (kc (.ty n)) :=
  ⟨_, pe_bltn (v := .ty n) hg hm hv rfl hn hd, fun F os r σ H Q R S => S _ H (Same.refl H) (by unfold Rep; rfl)⟩
end
section
variable {X : Cx}
theorem rep1 {K : PySem.W.Frag} {H : Hp} {A : Addr → Prop} {x : D} {vs : List V} (h : Paired (RepB K H A) [x] vs) : ∃ v, vs = [v] ∧ RepB K H A x v := by
  cases h with
  | cons a b => cases b; exact ⟨_, rfl, a⟩
theorem rep2 {K : PySem.W.Frag} {H : Hp} {A : Addr → Prop} {x y : D} {vs : List V} (h : Paired (RepB K H A) [x, y] vs) : ∃ v w, vs = [v, w] ∧ RepB K H A x v ∧ RepB K H A y w := by
  cases h with
  | cons a b =>
    cases b with
    | cons c d => cases d; exact ⟨_, _, rfl, a, c⟩
def lenD : List D → Option D
  | [.str z] => if z.length ≤ sizeLine then some (.int z.length) else none
  | [.lst xs] => some (.int xs.length)
  | [.tup xs] => some (.int xs.length)
  | _ => none
def rLen3 (K : PySem.W.Frag) : List V → Hp → VK → Prop := fun xs H Q => ∃ x n, xs = [x] ∧ LenV K x H n ∧ Q (.int n) H
theorem call_len3 : CallR X (.builtin "len") (rLen3 X.K) := call_len
theorem o_len : OpN X (rLen3 X.K) lenD := by
  intro A H xs vs d Q ak e h q
  unfold lenD at e
  split at e
  · rename_i z
    obtain ⟨v, rfl, h1⟩ := rep1 h
    split at e
    · rename_i hz
      cases e
      exact ⟨v, z.length, rfl, by rw [h1.str]; exact ⟨hz, rfl⟩, q _ H (Same.refl H) rep_int⟩
    · cases e
  · rename_i ys
    obtain ⟨v, rfl, h1⟩ := rep1 h
    cases e
    obtain ⟨a, ws, rfl, h2, h3⟩ := h1.lst
    exact ⟨_, ys.length, rfl, .inl ⟨ws, h2, (repL_length h3).symm⟩, q _ H (Same.refl H) rep_int⟩
  · rename_i ys
    obtain ⟨v, rfl, h1⟩ := rep1 h
    cases e
    obtain ⟨a, ws, rfl, h2, h3⟩ := h1.tup
    exact ⟨_, ys.length, rfl, .inr ⟨ws, h2, (repL_length h3).symm⟩, q _ H (Same.refl H) rep_int⟩
  · cases e
def intD : List D → Option D
  | [.int i] => some (.int i)
  | [.bl b] => some (.int (if b then 1 else 0))
  | _ => none
def rInt1 : List V → Hp → VK → Prop := fun xs H Q => (∃ i, xs = [.int i] ∧ Q (.int i) H) ∨ ∃ k, xs = [.bl k] ∧ Q (.int (if k then 1 else 0)) H
theorem call_int3 : CallR X (.type "int") rInt1 := call_int1
theorem o_intc : OpN X rInt1 intD := by
  intro A H xs vs d Q ak e h q
  unfold intD at e
  split at e
  · rename_i i
    obtain ⟨v, rfl, h1⟩ := rep1 h
    cases e
    exact .inl ⟨i, by rw [h1.int], q _ H (Same.refl H) rep_int⟩
  · rename_i i
    obtain ⟨v, rfl, h1⟩ := rep1 h
    cases e
    exact .inr ⟨i, by rw [h1.bl], q _ H (Same.refl H) rep_int⟩
  · cases e
/-- tuple(list), tuple(tuple) -/
def tupC : List D → Option D
  | [.lst xs] => some (.tup xs)
  | [.tup xs] => some (.tup xs)
  | _ => none
def rTupC (K : PySem.W.Frag) : List V → Hp → VK → Prop := fun xs H Q => ∃ p ys, xs = [.ref p] ∧ ((SqL K H p ys ∧ ∀ l, H l = none → Q (.ref l) (upd H l (.tup ys))) ∨ (SqT K H p ys ∧ Q (.ref p) H))
theorem call_tup3 : CallR X (.type "tuple") (rTupC X.K) := call_tuple_of
theorem o_tupc : OpN X (rTupC X.K) tupC := by
  intro A H xs vs d Q ak e h q
  unfold tupC at e
  split at e
  · rename_i i
    obtain ⟨v, rfl, h1⟩ := rep1 h
    cases e
    obtain ⟨a, ws, rfl, h2, h3⟩ := h1.lst
    exact ⟨a, ws, rfl, .inl ⟨h2, fun l n => q _ _ (same_upd n) (rep_newtup ak h3 n)⟩⟩
  · rename_i i
    obtain ⟨v, rfl, h1⟩ := rep1 h
    cases e
    obtain ⟨a, ws, e1, h2, h3⟩ := h1.tup
    have rx : Rep X.K H A (.tup i) v := by
      rcases h1 with z | ⟨_, _, z⟩
      · exact z
      · exact z.elim
    subst e1
    exact ⟨a, ws, rfl, .inr ⟨h2, q _ H (Same.refl H) rx⟩⟩
  · cases e
def lstC : List D → Option D
  | [.lst xs] => some (.lst xs)
  | [.tup xs] => some (.lst xs)
  | _ => none
def rLstC (K : PySem.W.Frag) : List V → Hp → VK → Prop := fun xs H Q => ∃ p ys, xs = [.ref p] ∧ (SqL K H p ys ∨ SqT K H p ys) ∧ ∀ l, H l = none → Q (.ref l) (upd H l (.lst ys))
/-- isinstance of a built-in type, of a tuple of such -/
def tyD : D → String
  | .non => "NoneType" | .bl _ => "bool" | .int _ => "int" | .str _ => "str" | .tup _ => "tuple" | .lst _ => "list" | .dct _ => "dict" | .dctT _ => "dict" | .obj _ => "" | .dctF _ => "" | .ref _ => "" | .ty _ => ""
def isTy (x : D) (n : String) : Option Bool := if tyD x = "" then none else kitB (tyD x) n
def allN : List D → Option (List String)
  | [] => some []
  | .ty n :: r => (allN r).map fun l => n :: l
  | _ :: _ => none
def isAny (x : D) : List String → Option Bool
  | [] => some false
  | n :: r => match isTy x n with
    | some true => some true
    | some false => isAny x r
    | none => none
def isiD : List D → Option D
  | [x, .ty n] => (isTy x n).map .bl
  | [x, .tup ts] => if tyD x = "" then none else ((allN ts).bind (isAny x)).map .bl
  | _ => none
def rIsi3 (K : PySem.W.Frag) : List V → Hp → VK → Prop := fun xs H Q => rIsi K xs H Q ∨ rIsiT K xs H Q ∨ rIsiK K xs H Q
theorem call_isi3 : CallR X (.builtin "isinstance") (rIsi3 X.K) := call_isi.or (call_isiT.or call_isiK)
theorem tyx_of {K : PySem.W.Frag} {H : Hp} {A : Addr → Prop} {x : D} {v : V} (h : RepB K H A x v) (t : tyD x ≠ "") : TyX K H v (.type (tyD x)) := by
  cases x with
  | non => rw [h.non]; exact .base .non
  | bl b => rw [h.bl]; exact .base (.bl b)
  | int b => rw [h.int]; exact .base (.int b)
  | str b => rw [h.str]; exact .base (.str b)
  | tup b =>
    rcases h with h | ⟨a, e, h⟩
    · unfold Rep at h
      obtain ⟨a, xs, e, h1, h2⟩ := h
      subst e
      rcases h1 with h1 | ⟨o, its, n, h1, h3, _⟩
      · exact .base (.tup h1)
      · exact .kTuple h1 h3
    · exact h.elim
  | lst b =>
    rcases h with h | ⟨a, e, h⟩
    · unfold Rep at h
      obtain ⟨a, xs, e, h1, h2⟩ := h
      subst e
      rcases h1 with ⟨h1 | ⟨o, h1⟩, _⟩ | ⟨o, its, n, h1, h3, _⟩
      · exact .base (.lst h1)
      · exact .base (.frz h1)
      · exact .kList h1 h3
    · subst e
      obtain ⟨xs, h1, h2⟩ := h
      exact .base (.lst h1)
  | dct b => obtain ⟨a, xs, e, h1, _⟩ := h.dct; subst e; exact .base (.dK h1)
  | dctT b =>
    rcases h with h | ⟨a, e, h⟩
    · unfold Rep at h
      obtain ⟨a, xs, e, h1, h2, h3⟩ := h
      subst e
      exact .base (.dT h1)
    · subst e
      obtain ⟨xs, h1, h2⟩ := h
      exact .base (.dT h1)
  | obj b => exact absurd rfl t
  | dctF b => exact absurd rfl t
  | ref b => exact absurd rfl t
  | ty b => exact absurd rfl t
theorem allN_ok {K : PySem.W.Frag} {H : Hp} {A : Addr → Prop} : ∀ {ts : List D} {cs : List V} {ns : List String}, allN ts = some ns → RepL K H A ts cs → Paired ClsV cs (ns.map Value.type)
  | [], cs, ns, e, h => by
    unfold RepL at h
    subst h
    cases e
    exact .nil
  | t :: ts, cs, ns, e, h => by
    unfold RepL at h
    obtain ⟨v, r, ev, h1, h2⟩ := h
    subst ev
    cases t with
    | ty n =>
      unfold Rep at h1
      subst h1
      unfold allN at e
      cases q : allN ts with
      | none => rw [q] at e; cases e
      | some l =>
        rw [q] at e
        cases e
        exact .cons (.ty n) (allN_ok q h2)
    | _ => cases e
theorem isTy_kit {x : D} {n : String} {k : Bool} (q : isTy x n = some k) : kitB (tyD x) n = some k ∧ tyD x ≠ "" := by
  unfold isTy at q
  split at q
  · cases q
  · rename_i h
    exact ⟨q, h⟩
theorem isAny_ok {K : PySem.W.Frag} {x : D} : ∀ {ns : List String} {b : Bool}, isAny x ns = some b → PySem.W.kitAny K (.type (tyD x)) (ns.map Value.type) = some b
  | [], b, e => by cases e; rfl
  | n :: ns, b, e => by
    unfold isAny at e
    cases q : isTy x n with
    | none => rw [q] at e; cases e
    | some k =>
      rw [q] at e
      obtain ⟨q2, _⟩ := isTy_kit q
      cases k with
      | true =>
        cases e
        exact kitAny_cons (kit_ty q2) (fun z => nomatch z) (fun _ => rfl)
      | false => exact kitAny_cons (kit_ty q2) (fun _ => isAny_ok e) (fun z => nomatch z)
theorem o_isi : OpN X (rIsi3 X.K) isiD := by
  intro A H xs vs d Q ak e h q
  unfold isiD at e
  split at e
  · rename_i x n
    obtain ⟨v, w, rfl, h1, h2⟩ := rep2 h
    cases q' : isTy x n with
    | none => rw [q'] at e; cases e
    | some k =>
      rw [q'] at e
      cases e
      obtain ⟨k1, k2⟩ := isTy_kit q'
      have ew : w = .ty n := by
        rcases h2 with z | ⟨_, _, z⟩
        · unfold Rep at z; exact z
        · exact z.elim
      subst ew
      exact .inl ⟨v, _, _, _, k, rfl, .ty n, tyx_of h1 k2, kit_ty k1, q _ H (Same.refl H) rep_bl⟩
  · rename_i x ts
    obtain ⟨v, w, rfl, h1, h2⟩ := rep2 h
    split at e
    · cases e
    · rename_i hn
      cases q1 : allN ts with
      | none => rw [q1] at e; cases e
      | some ns =>
        rw [q1] at e
        cases q2 : isAny x ns with
        | none => simp [q2] at e
        | some k =>
          simp [q2] at e
          subst e
          have hw : Rep X.K H A (.tup ts) w := by
            rcases h2 with z | ⟨_, _, z⟩
            · exact z
            · exact z.elim
          unfold Rep at hw
          obtain ⟨a, cs, ea, h3, h4⟩ := hw
          subst ea
          rcases h3 with h3 | ⟨o, its, n, h3, h5, h6, h7, h8⟩
          · exact .inr (.inl ⟨v, a, cs, _, _, k, rfl, h3, allN_ok q1 h4, tyx_of h1 hn, isAny_ok q2, q _ H (Same.refl H) rep_bl⟩)
          · obtain ⟨oc, od, dt, sl⟩ := o
            simp only at h5 h6
            subst h5 h6
            have e3 := ClsV.all (allN_ok q1 h4) h8
            have e4 : its = (ns.map Value.type).toArray := by rw [← e3]
            rw [e4] at h3
            exact .inr (.inr ⟨v, a, od, ns.map Value.type, n, sl, _, k, rfl, h3, tyx_of h1 hn, isAny_ok q2, q _ H (Same.refl H) rep_bl⟩)
  · cases e
end
end DL

end
section
namespace DL
open PySem L2

/-! ### what a def promises, by data -/
def SpF (K : PySem.W.Frag) (mg : Str → Option Value) (n : Nat) (F : List D → R D) : Sp := fun vs H Q E => vs.length = n ∧ ∃ (A : Addr → Prop) (ds : List D), AOk A H ∧ RepL K H A ds vs ∧
  Sat (fun d => ∀ v H', Same H H' → Rep K H' A d v → Q v H') (fun x _ => ∀ cls dd H', Same H H' → XRep K mg H' x cls dd → E cls dd H') (F ds)
def But (a : Addr) (H H' : Hp) : Prop := ∀ b o, H b = some o → b ≠ a → H' b = some o
/-- the first argument: a list of the caller's own that the def changes -/
def SpIO (K : PySem.W.Frag) (n : Nat) (F : List D → List D → R (D × List D)) : Sp := fun vs H Q _ => ∃ (A : Addr → Prop) (a : Addr) (xs rest : List V) (row ds : List D), vs = .ref a :: rest ∧ rest.length = n ∧ H a = some (.lst xs) ∧ A a ∧ AOk A H ∧ RepL K H A row xs ∧ RepL K H A ds rest ∧
  Sat (fun p => ∀ v H' xs', But a H H' → H' a = some (.lst xs') → RepL K H' A p.2 xs' → Rep K H' A p.1 v → Q v H') (fun _ _ => False) (F row ds)
def R.at {α : Type} (r : Env) : R α → R α
  | .ok a => .ok a
  | .err x _ => .err x r
  | .stk => .stk
def R.ne {α : Type} : R α → R α
  | .ok a => .ok a
  | .err _ _ => .stk
  | .stk => .stk
def callF (n : Nat) (F : List D → R D) (g : Env → R (List D)) : Env → R D := fun r => (g r).bind fun ds => if ds.length = n then R.at r (F ds) else .stk
def callFE (n : Nat) (F : List D → R D) (g : Env → R (List D × Env)) : Env → R (D × Env) := fun r => (g r).bind fun p => if p.1.length = n then (R.at p.2 (F p.1)).bind fun d => .ok (d, p.2) else .stk
/-- the list that a slot holds and may change -/
def ownL (r : Env) (i : Nat) : Option (Slot × List D) := match r[i]? with
  | some s => match s.cont with
    | some (.lst xs) => some (s, xs)
    | _ => none
  | none => none
theorem ownL_ok {r : Env} {i : Nat} {s : Slot} {xs : List D} (e : ownL r i = some (s, xs)) : r[i]? = some s ∧ s.cont = some (.lst xs) := by
  unfold ownL at e
  cases q : r[i]? with
  | none => rw [q] at e; cases e
  | some t =>
    rw [q] at e
    cases q2 : t.cont with
    | none => simp only [q2] at e; cases e
    | some d =>
      cases d with
      | lst ys => simp only [q2] at e; cases e; exact ⟨rfl, q2⟩
      | _ => simp only [q2] at e; cases e
def callIO (i : Nat) (n : Nat) (F : List D → List D → R (D × List D)) (g : Env → R (List D × Env)) : Env → R (D × Env) := fun r => (R.ofO (ownL r i)).bind fun _ => (g r).bind fun p => (R.ofO (ownL p.2 i)).bind fun s =>
  if p.1.length = n then (R.ne (F s.2 p.1)).bind fun q => .ok (q.1, p.2.set i (s.1.put (.lst q.2))) else .stk
section
variable {X : Cx} {W : WX} {e : Expr} {es : List Expr} {x : Str} {p pos : Pos} {k : Nat} {f : Addr} {fd : FuncData} {ps : List Str}
theorem d_call {g : Env → R (List D)} {n : Nat} {F : List D → R D} (G : FnOk X.prog X.w X.K X.mg X.base (L2.CX X.prog X.w) k f fd ps (SpF X.K X.mg n F)) (hr : Room k X.A) (hg : Gl X x) (hm : X.mg x = some (.ref f)) (hk : PySem.W.keepIn X.K (.ref f) = true) (hb : Binds X.K fd ps [])
    (tk : Takes X W) (ha : DPs X W (e :: es) g) (hdb : (x == ("__debug__" : Str)) = false := by decide) (he : starEach (e :: es) X.env = (false, eval e X.env) :: starEach es X.env := by rfl) (hpl : (backTo pos (starEach es X.env)).any (·.1) = false := by rfl) :
    DP X W (.Call (.Name x p) (e :: es) [] pos) (callF n F g) := by
  obtain ⟨ta, pa, wa⟩ := ha
  refine ⟨_, pe_callS (E := WE W) G hr hg hm hk hb (passAt tk) pa hdb he hpl, fun Fm os r σ H Q Rl S => ?_⟩
  refine wa Fm os r σ H _ Rl (S.bind.imp fun ds S vs H1 s1 h1 => ?_)
  have R1 := Rl.same' s1
  by_cases hl : ds.length = n
  · rw [if_pos hl] at S
    refine ⟨by rw [repL_length h1]; exact hl, _, ds, R1.AOk, h1, ?_⟩
    cases q : F ds with
    | ok d =>
      rw [q] at S
      exact fun v H' s h => S v H' (s1.trans s) h
    | err x r' =>
      rw [q] at S
      exact fun cls dd H' s h => S os σ cls dd H' (R1.same' s) h
    | stk =>
      rw [q] at S
      exact S.elim
  · rw [if_neg hl] at S
    exact S.elim
/-- an own list changed by a callee -/
theorem Rel.but {K : PySem.W.Frag} {F : Fm} {os : List (Option Addr)} {r : Env} {σ : St} {H H' : Hp} {i : Nat} {s : Slot} {d d' : D} {a : Addr} (R : Rel K F os r σ H) (e : r[i]? = some s) (ec : s.cont = some d) (ea : σ[i]? = some (some (.ref a))) (b : But a H H') (h : RepO K H' (Av F.A0 os) d' a) :
    Rel K F os (r.set i (s.put d')) σ H' ∧ Keep (Av F.A0 os) (Av F.A0 os) H H' := by
  have ak := R.AOk
  obtain ⟨v, o, e1, e2, q0⟩ := R.get e
  obtain ⟨a', z1, z2, q, qq⟩ := q0.cont ec
  subst z1
  rw [ea] at e1
  cases e1
  cases z2
  have inA : Av F.A0 os a := .inr (List.mem_of_getElem? e2)
  have kp : Keep (Av F.A0 os) (Av F.A0 os) H H' := fun c u ec nc => ⟨b c u ec fun z => nc (by rw [z]; exact inA), nc⟩
  refine ⟨⟨by simp [R.lens], by simp [R.leno], fun j sl w u e1 e2' e3 => ?_, R.inj, R.out, fun c z => ?_, fun c u ec nc => ?_, R.new⟩, kp⟩
  · rcases getElem?_set_cases e1 with ⟨ej, z1⟩ | ⟨ej, e1⟩
    · subst ej
      subst z1
      rw [e2] at e3
      cases e3
      rw [ea] at e2'
      cases e2'
      exact qq _ _ _ h
    · refine (R.slot j sl w u e1 e2' e3).keep kp ak fun c z => ?_
      subst z
      obtain ⟨_, _, _, _, _, q⟩ := R.own e3
      obtain ⟨o, h1, _⟩ := q.isT
      rw [h1]
      refine b c o h1 fun zz => ej ?_
      subst zz
      exact R.inj i j c e2 e3
  · obtain ⟨u, h1, h2⟩ := R.aok c z
    exact ⟨u, b c u h1 fun zz => R.out i a e2 (by rw [← zz]; exact z), h2⟩
  · refine b c u (R.same c u ec nc) fun zz => ?_
    subst zz
    rcases R.new i c e2 with h1 | h1
    · rw [h1] at ec
      cases ec
    · exact nc h1
theorem Rel.ownA {K : PySem.W.Frag} {F : Fm} {os : List (Option Addr)} {r : Env} {σ : St} {H : Hp} (R : Rel K F os r σ H) {i : Nat} {s : Slot} {d : D} (e : r[i]? = some s) (ec : s.cont = some d) : ∃ a, σ[i]? = some (some (.ref a)) ∧ Av F.A0 os a ∧ RepO K H (Av F.A0 os) d a := by
  obtain ⟨v, o, e1, e2, q0⟩ := R.get e
  obtain ⟨a, z1, z2, q, _⟩ := q0.cont ec
  subst z1
  subst z2
  exact ⟨a, e1, .inr (List.mem_of_getElem? e2), q⟩
theorem e_callIO {i : Nat} {y : Str} {py : Pos} {g : Env → R (List D × Env)} {n : Nat} {F : List D → List D → R (D × List D)} (G : FnOk X.prog X.w X.K X.mg X.base (L2.CX X.prog X.w) k f fd ps (SpIO X.K n F)) (hr : Room k X.A) (hg : Gl X x) (hm : X.mg x = some (.ref f)) (hk : PySem.W.keepIn X.K (.ref f) = true) (hb : Binds X.K fd ps [])
    (tk : Takes X W) (hN : X.N[i]? = some y) (hv : Vis X.env.scope y) (ha : DEs X W es g) (hd : (y == ("__debug__" : Str)) = false := by decide) (hcd : (y == ("__classdict__" : Str)) = false := by decide)
    (hdb : (x == ("__debug__" : Str)) = false := by decide) (he : starEach (.Name y py :: es) X.env = (false, eval (.Name y py) X.env) :: starEach es X.env := by rfl) (hpl : (backTo pos (starEach es X.env)).any (·.1) = false := by rfl) :
    DE X W (.Call (.Name x p) (.Name y py :: es) [] pos) (callIO i n F g) := by
  obtain ⟨ta, pa, wa⟩ := ha
  refine ⟨_, pe_callS (E := WE W) G hr hg hm hk hb (passAt tk) (pa_cons (pe_var (i := i) hN hv hd hcd) pa he) hdb he hpl, fun Fm os r σ H Q Rl S => ?_⟩
  obtain ⟨s0, e0, S⟩ := S.bind.ofO
  obtain ⟨e00, e01⟩ := ownL_ok (s := s0.1) (xs := s0.2) e0
  obtain ⟨a, e1, _, _⟩ := Rl.ownA e00 e01
  refine ⟨_, e1, wa Fm os r σ H _ Rl (S.bind.imp fun p S vs H1 R1 k1 h1 => ?_)⟩
  obtain ⟨s3, e3, S⟩ := S.bind.ofO
  obtain ⟨e30, e31⟩ := ownL_ok (s := s3.1) (xs := s3.2) e3
  obtain ⟨a', e4, inA, xs, hx, hxr⟩ := R1.ownA e30 e31
  rw [e1] at e4
  cases e4
  by_cases hl : p.1.length = n
  · rw [if_pos hl] at S
    refine ⟨_, a, xs, vs, s3.2, p.1, rfl, by rw [repL_length h1]; exact hl, hx, inA, R1.AOk, hxr, h1, ?_⟩
    cases q2 : F s3.2 p.1 with
    | ok w =>
      rw [q2] at S
      intro u H' xs' bt hx' hr' hu
      obtain ⟨R2, k2⟩ := Rel.but R1 e30 e31 e1 bt (d' := .lst w.2) ⟨xs', hx', hr'⟩
      exact S u H' R2 (k1.trans k2) hu
    | err x r' =>
      rw [q2] at S
      exact S.elim
    | stk =>
      rw [q2] at S
      exact S.elim
  · rw [if_neg hl] at S
    exact S.elim
end
/-! ### statements -/
/-- how a statement ends -/
inductive Fl where
  | nx (r : Env) | rt (d : D) (r : Env) | bk (r : Env) | ct (r : Env)
def SPost (K : PySem.W.Frag) (F : Fm) (os : List (Option Addr)) (H : Hp) (D : Ends) : Fl → Prop
  | .nx r => ∀ os' σ' H', Rel K F os' r σ' H' → Keep (Av F.A0 os) (Av F.A0 os') H H' → D.nx σ' H'
  | .bk r => ∀ os' σ' H', Rel K F os' r σ' H' → Keep (Av F.A0 os) (Av F.A0 os') H H' → D.bk σ' H'
  | .ct r => ∀ os' σ' H', Rel K F os' r σ' H' → Keep (Av F.A0 os) (Av F.A0 os') H H' → D.ct σ' H'
  | .rt d r => ∀ os' v σ' H', Rel K F os' r σ' H' → Rep K H' (Av F.A0 os') d v → D.rt v H'
structure DS (X : Cx) (W : WX) (st : Stmt) (f : Env → R Fl) : Prop where
  ex : ∃ t, PS X st t ∧ ∀ (F : Fm) (os : List (Option Addr)) (r : Env) (σ : St) (H : Hp) (D : Ends), Rel X.K F os r σ H → Sat (SPost X.K F os H D) (Er X W F) (f r) → t D σ H
structure DSs (X : Cx) (W : WX) (st : List Stmt) (f : Env → R Fl) : Prop where
  ex : ∃ t, PSs X st t ∧ ∀ (F : Fm) (os : List (Option Addr)) (r : Env) (σ : St) (H : Hp) (D : Ends), Rel X.K F os r σ H → Sat (SPost X.K F os H D) (Er X W F) (f r) → t D σ H
/-- only the slots of ks differ -/
def Off (ks : List Nat) (σ σ' : St) (os os' : List (Option Addr)) : Prop := σ'.length = σ.length ∧ ∀ i, i ∉ ks → σ'[i]? = σ[i]? ∧ os'[i]? = os[i]?
structure DG (X : Cx) (W : WX) (ks : List Nat) (tg : Expr) (g : D → Env → R Env) : Prop where
  ex : ∃ t, PG X tg t ∧ ∀ (F : Fm) (os : List (Option Addr)) (r : Env) (σ : St) (H : Hp) (v : V) (d : D) (Q : St → Hp → Prop), Rel X.K F os r σ H → Rep X.K H (Av F.A0 os) d v →
    Sat (fun r' => ∀ os' σ' H', Rel X.K F os' r' σ' H' → Keep (Av F.A0 os) (Av F.A0 os') H H' → Same H H' → Off ks σ σ' os os' → Q σ' H') (Er X W F) (g d r) → t v σ H Q
structure DGs (X : Cx) (W : WX) (ks : List Nat) (tg : List Expr) (g : List D → Env → R Env) : Prop where
  ex : ∃ t, PGs X tg t ∧ ∀ (F : Fm) (os : List (Option Addr)) (r : Env) (σ : St) (H : Hp) (vs : List V) (ds : List D) (Q : St → Hp → Prop), Rel X.K F os r σ H → RepL X.K H (Av F.A0 os) ds vs →
    Sat (fun r' => ∀ os' σ' H', Rel X.K F os' r' σ' H' → Keep (Av F.A0 os) (Av F.A0 os') H H' → Same H H' → Off ks σ σ' os os' → Q σ' H') (Er X W F) (g ds r) → t vs σ H Q
@[simp] def gSet (i : Nat) : D → Env → R Env := fun d r => .ok (r.set i (.sh d))
def gsNil : List D → Env → R Env := fun ds r => match ds with
  | [] => .ok r
  | _ => .stk
def gsCons (g : D → Env → R Env) (h : List D → Env → R Env) : List D → Env → R Env := fun ds r => match ds with
  | d :: r' => (g d r).bind fun r1 => h r' r1
  | [] => .stk
def gTupD (n : Nat) (g : List D → Env → R Env) : D → Env → R Env := fun d r => match d with
  | .tup ds => if ds.length = n then g ds r else .stk
  | _ => .stk
section
variable {X : Cx} {W : WX} {e : Expr} {pos pos' : Pos} {st : Stmt} {sts : List Stmt} {x : Str}
theorem SPost.from {K : PySem.W.Frag} {F : Fm} {os os1 : List (Option Addr)} {H H1 : Hp} {D : Ends} (k : Keep (Av F.A0 os) (Av F.A0 os1) H H1) : ∀ {fl : Fl}, SPost K F os H D fl → SPost K F os1 H1 D fl
  | .nx r, h => fun os' σ' H' R k2 => h os' σ' H' R (k.trans k2)
  | .bk r, h => fun os' σ' H' R k2 => h os' σ' H' R (k.trans k2)
  | .ct r, h => fun os' σ' H' R k2 => h os' σ' H' R (k.trans k2)
  | .rt d r, h => h
theorem g_name {i : Nat} (hN : X.N.Nodup) (hi : X.N[i]? = some x := by rfl) (hx : Loc X.env.scope x := by first | exact Or.inl rfl | exact Or.inr rfl) (hf : X.fn x = true ∨ X.env.scope.names.lookup x = some .local := by first | exact .inl rfl | exact .inr rfl) : DG X W [i] (.Name x pos) (gSet i) := by
  refine ⟨_, pg_name (i := i) hN hi hx hf, fun F os r σ H v d Q R h S => ?_⟩
  obtain ⟨R1, k1⟩ := R.setSh (i := i) h
  exact S _ _ _ R1 k1 (Same.refl H) ⟨by simp, fun j hj => ⟨List.getElem?_set_ne (fun z => hj (by simp [z])), List.getElem?_set_ne (fun z => hj (by simp [z]))⟩⟩
theorem gs_nil : DGs X W [] [] gsNil := by
  refine ⟨_, pgs_nil, fun F os r σ H vs ds Q R h S => ?_⟩
  cases ds with
  | nil =>
    unfold RepL at h
    exact ⟨h, S os σ H R Keep.refl (Same.refl H) ⟨rfl, fun _ _ => ⟨rfl, rfl⟩⟩⟩
  | cons d ds => exact S.elim
theorem Off.trans {a b : List Nat} {σ σ1 σ2 : St} {o o1 o2 : List (Option Addr)} (h : Off a σ σ1 o o1) (h2 : Off b σ1 σ2 o1 o2) : Off (a ++ b) σ σ2 o o2 := ⟨h2.1.trans h.1, fun i hi => by
  rw [List.mem_append, not_or] at hi
  exact ⟨(h2.2 i hi.2).1.trans (h.2 i hi.1).1, (h2.2 i hi.2).2.trans (h.2 i hi.1).2⟩⟩
theorem gs_cons {es : List Expr} {ka kb : List Nat} {g : D → Env → R Env} {h : List D → Env → R Env} (h1 : DG X W ka e g) (h2 : DGs X W kb es h) (hs : (assignEach (e :: es) X.env).map (·.2) = assign e X.env :: (assignEach es X.env).map (·.2) := by rfl) : DGs X W (ka ++ kb) (e :: es) (gsCons g h) := by
  obtain ⟨t, pe, w⟩ := h1
  obtain ⟨u, pu, z⟩ := h2
  refine ⟨_, pgs_cons pe pu hs, fun F os r σ H vs ds Q R h S => ?_⟩
  cases ds with
  | nil => exact S.elim
  | cons d ds =>
    unfold RepL at h
    obtain ⟨v, rs, e1, h3, h4⟩ := h
    refine ⟨v, rs, e1, w F os r σ H v d _ R h3 (S.bind.imp fun r1 S os1 σ1 H1 R1 k1 s1 o1 => ?_)⟩
    exact z F os1 r1 σ1 H1 rs ds Q R1 (RepL.keep k1 R.AOk _ _ h4) (S.imp fun r2 q os2 σ2 H2 R2 k2 s2 o2 => q os2 σ2 H2 R2 (k1.trans k2) (s1.trans s2) (o1.trans o2))
theorem g_tup {es : List Expr} {ks : List Nat} {k n : Nat} {h : List D → Env → R Env} (hc : X.calm = true) (h2 : DGs X W ks es h) (hn : (assignEach es X.env).length = n := by rfl) (hst : (assignEach es X.env).findIdx? (·.1) = none := by rfl) : DG X W ks (.Tuple es k pos) (gTupD n h) := by
  obtain ⟨u, pu, z⟩ := h2
  refine ⟨_, pg_tup hc pu hn hst, fun F os r σ H v d Q R h S => ?_⟩
  cases d with
  | tup ds =>
    simp only [gTupD] at S
    by_cases hl : ds.length = n
    · rw [if_pos hl] at S
      unfold Rep at h
      obtain ⟨a, xs, e1, h1, h2⟩ := h
      exact ⟨a, xs, e1, tup_sq h1, by rw [repL_length h2]; exact hl, z F os r σ H xs ds Q R h2 S⟩
    · rw [if_neg hl] at S
      exact S.elim
  | _ => exact S.elim

def seqS (f g : Env → R Fl) : Env → R Fl := fun r => (f r).bind fun fl => match fl with
  | .nx r1 => g r1
  | .rt d r1 => .ok (.rt d r1)
  | .bk r1 => .ok (.bk r1)
  | .ct r1 => .ok (.ct r1)
@[simp] def skipS : Env → R Fl := fun r => .ok (.nx r)
theorem s_nil : DSs X W [] skipS := ⟨_, pss_nil, fun F os r σ H D R S => S os σ H R Keep.refl⟩
theorem s_one {f : Env → R Fl} (h : DS X W st f) : DSs X W [st] f := by
  obtain ⟨t, p, w⟩ := h
  exact ⟨_, pss_one p, w⟩
theorem s_cons {f g : Env → R Fl} (h : DS X W st f) (h2 : DSs X W sts g) : DSs X W (st :: sts) (seqS f g) := by
  obtain ⟨t, p, w⟩ := h
  obtain ⟨u, q, z⟩ := h2
  refine ⟨_, pss_cons p q, fun F os r σ H D R S => w F os r σ H _ R (S.bind.imp fun fl S => ?_)⟩
  cases fl with
  | nx r1 => exact fun os1 σ1 H1 R1 k1 => z F os1 r1 σ1 H1 D R1 (S.imp fun fl q => q.from k1)
  | rt d r1 => exact S
  | bk r1 => exact S
  | ct r1 => exact S
@[simp] def brkS : Env → R Fl := fun r => .ok (.bk r)
@[simp] def cntS : Env → R Fl := fun r => .ok (.ct r)
theorem s_break : DS X W (.Break pos) brkS := ⟨_, ps_break, fun F os r σ H D R S => S os σ H R Keep.refl⟩
/-- a statement that the data never reach -/
@[simp] def nvrS : Env → R Fl := fun _ => .stk
theorem s_never : DS X W st nvrS := ⟨_, ps_never, fun F os r σ H D R S => S.elim⟩
def exprS (f : Env → R (D × Env)) : Env → R Fl := fun r => (f r).bind fun p => .ok (.nx p.2)
theorem s_expr {f : Env → R (D × Env)} (h : DE X W e f) (hs : swapsWith e none pos.line X.env = pure false := by rfl) : DS X W (.Expr e pos) (exprS f) := by
  obtain ⟨t, pe, w⟩ := h
  exact ⟨_, ps_expr pe hs, fun F os r σ H D R S => w F os r σ H _ R (S.bind.imp fun p S v H1 R1 k1 h1 => S os σ H1 R1 k1)⟩
def retS (f : Env → R (D × Env)) : Env → R Fl := fun r => (f r).bind fun p => .ok (.rt p.1 p.2)
theorem s_ret {f : Env → R (D × Env)} (h : DE X W e f) : DS X W (.Return (some e) pos) (retS f) := by
  obtain ⟨t, pe, w⟩ := h
  exact ⟨_, ps_ret pe, fun F os r σ H D R S => w F os r σ H _ R (S.bind.imp fun p S v H1 R1 k1 h1 => S os v σ H1 R1 h1)⟩
@[simp] def retN : Env → R Fl := fun r => .ok (.rt .non r)
/-- return x, x a slot's own list -/
def retO (i : Nat) : Env → R Fl := fun r => match r[i]? with
  | some (.own d) => .ok (.rt d (r.set i (.sh d)))
  | some (.sh d) => .ok (.rt d r)
  | _ => .stk
theorem s_retO (i : Nat) {p : Pos} (hN : X.N[i]? = some x := by rfl) (hv : Vis X.env.scope x := by first | exact Or.inl rfl | exact Or.inr (Or.inl rfl) | exact Or.inr (Or.inr rfl)) (hd : (x == ("__debug__" : Str)) = false := by decide)
    (hcd : (x == ("__classdict__" : Str)) = false := by decide) : DS X W (.Return (some (.Name x p)) pos) (retO i) := by
  refine ⟨_, ps_ret (pe_var (i := i) hN hv hd hcd), fun F os r σ H D R S => ?_⟩
  unfold retO at S
  split at S
  · rename_i d e
    obtain ⟨R1, k1, a, ea, h1⟩ := R.freeze e
    exact ⟨_, ea, S _ _ σ H R1 h1⟩
  · rename_i d e
    obtain ⟨v, o, e1, e2, z, u, e3, h⟩ := R.get e
    subst e3
    exact ⟨u, e1, S os u σ H R h⟩
  · exact S.elim
def ifS (c : Env → R (Bool × Env)) (f g : Env → R Fl) : Env → R Fl := fun r => (c r).bind fun p => if p.1 = true then f p.2 else g p.2
theorem s_if {c : Env → R (Bool × Env)} {f g : Env → R Fl} {a b : List Stmt} (hc : DTE X W e c) (ha : DSs X W a f) (hb : DSs X W b g) : DS X W (.If e a b pos) (ifS c f g) := by
  obtain ⟨t, pe, w⟩ := hc
  obtain ⟨u, pu, z⟩ := ha
  obtain ⟨u2, pu2, z2⟩ := hb
  refine ⟨_, ps_if pe pu pu2, fun F os r σ H D R S => w F os r σ H _ R (S.bind.imp fun p S H1 R1 k1 => ?_)⟩
  by_cases hp : p.1 = true
  · rw [if_pos hp] at S ⊢
    exact z F os p.2 σ H1 D R1 (S.imp fun fl q => q.from k1)
  · rw [if_neg hp] at S ⊢
    exact z2 F os p.2 σ H1 D R1 (S.imp fun fl q => q.from k1)
/-- x = e -/
def setS (i : Nat) (f : Env → R (D × Env)) : Env → R Fl := fun r => (f r).bind fun p => .ok (.nx (p.2.set i (.sh p.1)))
theorem s_set (i : Nat) {p : Pos} {f : Env → R (D × Env)} (hN : X.N.Nodup) (h : DE X W e f) (hi : X.N[i]? = some x := by rfl) (hx : Loc X.env.scope x := by first | exact Or.inl rfl | exact Or.inr rfl) (hs : swapsWith e (some (.Name x p)) pos.line X.env = pure false := by rfl)
    (hf : X.fn x = true ∨ X.env.scope.names.lookup x = some .local := by first | exact .inl rfl | exact .inr rfl) : DS X W (.Assign [.Name x p] e pos) (setS i f) := by
  obtain ⟨t, pe, w⟩ := h
  refine ⟨_, ps_set (i := i) hN hi hx pe hs hf, fun F os r σ H D R S => w F os r σ H _ R (S.bind.imp fun q S v H1 R1 k1 h1 => ?_)⟩
  obtain ⟨R2, k2⟩ := R1.setSh (i := i) h1
  exact S _ _ _ R2 (k1.trans k2)
/-- x = a new list or dict that is x's own -/
def setO (i : Nat) (f : Env → R D) : Env → R Fl := fun r => (f r).bind fun d => .ok (.nx (r.set i (.own d)))
theorem s_setO (i : Nat) {p : Pos} {f : Env → R D} (hN : X.N.Nodup) (h : DF X W e f) (hi : X.N[i]? = some x := by rfl) (hx : Loc X.env.scope x := by first | exact Or.inl rfl | exact Or.inr rfl) (hs : swapsWith e (some (.Name x p)) pos.line X.env = pure false := by rfl)
    (hf : X.fn x = true ∨ X.env.scope.names.lookup x = some .local := by first | exact .inl rfl | exact .inr rfl) : DS X W (.Assign [.Name x p] e pos) (setO i f) := by
  obtain ⟨t, pe, w⟩ := h
  refine ⟨_, ps_set (i := i) hN hi hx pe hs hf, fun F os r σ H D R S => w F os r σ H _ R (S.bind.imp fun q S v H1 s1 n1 h1 => ?_)⟩
  obtain ⟨R2, k2⟩ := R.setOwn (i := i) s1 n1 h1
  exact S _ _ _ R2 k2
/-- target = e, any target -/
def asgS (g : D → Env → R Env) (f : Env → R (D × Env)) : Env → R Fl := fun r => (f r).bind fun p => (g p.1 p.2).bind fun r2 => .ok (.nx r2)
theorem s_asg {tg : Expr} {ks : List Nat} {g : D → Env → R Env} {f : Env → R (D × Env)} (h : DE X W e f) (h2 : DG X W ks tg g) (hs : swapsWithSole [tg] e pos.line X.env = pure false := by rfl) (hw : swappedStores [tg] e X.env = pure none := by rfl)
    (h1 : (assignEach [tg] X.env).map (·.2) = [assign tg X.env] := by rfl) : DS X W (.Assign [tg] e pos) (asgS g f) := by
  obtain ⟨t, pe, w⟩ := h
  obtain ⟨u, pu, z⟩ := h2
  refine ⟨_, ps_asg pe pu hs hw h1, fun F os r σ H D R S => w F os r σ H _ R (S.bind.imp fun q S v H1 R1 k1 h1 => ?_)⟩
  exact z F os q.2 σ H1 v q.1 _ R1 h1 (S.bind.imp fun r2 S os' σ' H' R' k' _ _ => S os' σ' H' R' (k1.trans k'))
/-- x, y = a, b: two local names -/
def parS (i j : Nat) (f : Env → R (List D × Env)) : Env → R Fl := fun r => (f r).bind fun p => match p.1 with
  | [d, e] => .ok (.nx ((p.2.set i (.sh d)).set j (.sh e)))
  | _ => .stk
/-- x += e, by the operator's in-place rule -/
def augS (i : Nat) (op : D → D → Option D) (f : Env → R D) : Env → R Fl := fun r => match r[i]? with
  | some (.sh x) => (f r).bind fun y => (R.ofO (op x y)).bind fun d => .ok (.nx (r.set i (.sh d)))
  | _ => .stk
def OpIp (X : Cx) (r : TIp) (op : D → D → Option D) : Prop := ∀ (A : Addr → Prop) (H : Hp) (x y : D) (v w : V) (d : D) (Q : VK), AOk A H → op x y = some d → Rep X.K H A x v → RepB X.K H A y w →
  (∀ u H', Same H H' → Rep X.K H' A d u → Q u H') → r v w H Q
theorem s_aug (i : Nat) {op : Operator} {ti : TIp} {g : D → D → Option D} {p : Pos} {f : Env → R D} (hN : X.N.Nodup) (ho : PIp X op ti) (o : OpIp X ti g) (h : DB X W e f) (hi : X.N[i]? = some x := by rfl) (hx : Loc X.env.scope x := by first | exact Or.inl rfl | exact Or.inr rfl)
    (hf : X.fn x = true ∨ X.env.scope.names.lookup x = some .local := by first | exact .inl rfl | exact .inr rfl) : DS X W (.AugAssign (.Name x p) op e pos) (augS i g f) := by
  obtain ⟨t, pe, w⟩ := h
  refine ⟨_, ps_aug (i := i) hN hi hx pe ho hf, fun F os r σ H D R S => ?_⟩
  unfold augS at S
  split at S
  · rename_i d0 e0
    obtain ⟨v, o', e1, e2, z, u, e3, h0⟩ := R.get e0
    subst e3
    refine ⟨u, e1, w F os r σ H _ R (S.bind.imp fun y S v1 H1 s1 h1 => ?_)⟩
    obtain ⟨d, ed, S⟩ := S.bind.ofO
    have R1 := R.same' s1
    refine o _ H1 d0 y u v1 d _ R1.AOk ed (h0.same s1 R.AOk) h1 fun w2 H2 s2 h2 => ?_
    obtain ⟨R3, k3⟩ := (R1.same' s2).setSh (i := i) h2
    exact S _ _ _ R3 ((Keep.of (s1.trans s2)).trans k3)
  · exact S.elim

/-! ### a slot's own list changes -/
/-- x[k] = e -/
def itmS (i : Nat) (fk : Env → R D) (fe : Env → R D) : Env → R Fl := fun r => (fe r).bind fun d => (R.ofO (ownL r i)).bind fun s => (fk r).bind fun k => (R.ofO (asI k)).bind fun k => (R.ofO (ixN s.2.length k)).bind fun j => .ok (.nx (r.set i (s.1.put (.lst (s.2.set j d)))))
theorem repL_set {K : PySem.W.Frag} {H : Hp} {A : Addr → Prop} {d : D} {v : V} (h2 : Rep K H A d v) : ∀ {ds : List D} {vs : List V} (j : Nat), RepL K H A ds vs → RepL K H A (ds.set j d) (vs.set j v)
  | [], vs, j, h => by
    unfold RepL at h
    subst h
    simp only [List.set_nil]
    unfold RepL; rfl
  | x :: ds, vs, 0, h => by
    unfold RepL at h
    obtain ⟨w, r, e, h1, h3⟩ := h
    subst e
    simp only [List.set_cons_zero]
    unfold RepL
    exact ⟨v, r, rfl, h2, h3⟩
  | x :: ds, vs, j + 1, h => by
    unfold RepL at h
    obtain ⟨w, r, e, h1, h3⟩ := h
    subst e
    simp only [List.set_cons_succ]
    unfold RepL
    exact ⟨w, _, rfl, h1, repL_set h2 j h3⟩
/-- the values of an own list, kept when the list alone changes -/
theorem own_upd {K : PySem.W.Frag} {A : Addr → Prop} {H : Hp} {a : Addr} {o' : HO} {ds : List D} {vs : List V} (ak : AOk A H) (ha : A a) (h : RepL K H A ds vs) : RepL K (upd H a o') A ds vs :=
  RepL.keep (fun b u eb nb => ⟨by rw [upd_ne (fun z => nb (by rw [z]; exact ha))]; exact eb, nb⟩) ak _ _ h
theorem s_item (i : Nat) {ix : Expr} {p p2 : Pos} {fk fe : Env → R D} (h : DP X W e fe) (h2 : DB X W ix fk) (hN : X.N[i]? = some x := by rfl) (hv : Vis X.env.scope x := by first | exact Or.inl rfl | exact Or.inr (Or.inl rfl) | exact Or.inr (Or.inr rfl)) (hd : (x == ("__debug__" : Str)) = false := by decide)
    (hcd : (x == ("__classdict__" : Str)) = false := by decide)
    (ha : ∀ v, assign (.Subscript (.Name x p) ix p2) X.env v = (do
      let ov ← holding [v] (eval (.Name x p) X.env)
      let iv ← holding [v, ov] (eval ix X.env)
      standAt p2
      holding [v, ov, iv] (setItem ov iv v)
      release [v, ov, iv] []) := by intro _; rfl)
    (hs : swapsWithSole [.Subscript (.Name x p) ix p2] e pos.line X.env = pure false := by rfl) (hw : swappedStores [.Subscript (.Name x p) ix p2] e X.env = pure none := by rfl)
    (h1 : (assignEach [.Subscript (.Name x p) ix p2] X.env).map (·.2) = [assign (.Subscript (.Name x p) ix p2) X.env] := by rfl) : DS X W (.Assign [.Subscript (.Name x p) ix p2] e pos) (itmS i fk fe) := by
  obtain ⟨t, pe, w⟩ := h
  obtain ⟨u, pu, z⟩ := h2
  refine ⟨_, ps_asg pe (pg_sub (pe_var (i := i) hN hv hd hcd) pu set_list ha) hs hw h1, fun F os r σ H D R S => w F os r σ H _ R (S.bind.imp fun d S v H1 s1 h1 => ?_)⟩
  have R1 := R.same' s1
  obtain ⟨s0, e0, S⟩ := S.bind.ofO
  obtain ⟨e00, e01⟩ := ownL_ok (s := s0.1) (xs := s0.2) e0
  obtain ⟨a, ea, inA, _⟩ := R1.ownA e00 e01
  refine ⟨_, ea, z F os r σ H1 _ R1 (S.bind.imp fun k S v2 H2 s2 h2 => ?_)⟩
  have R2 := R1.same' s2
  obtain ⟨k', ek, S2⟩ := S.bind.ofO
  clear S
  obtain ⟨j, ej, S3⟩ := S2.bind.ofO
  obtain ⟨a', ea', inA', ys, hy, hr⟩ := R2.ownA e00 e01
  rw [ea] at ea'
  cases ea'
  cases k with
  | int k0 =>
    cases ek
    refine ⟨a, ys, _, j, rfl, h2.int, hy, by rw [repL_length hr]; exact ej, ?_⟩
    have rep' : RepO X.K (upd H2 a (.lst (ys.set j v))) (Av F.A0 os) (.lst (s0.2.set j d)) a := ⟨_, upd_same, own_upd R2.AOk inA (repL_set (h1.same s2 R1.AOk) j hr)⟩
    obtain ⟨R3, k3⟩ := R2.updOwn e00 e01 ea rep'
    exact S3 os σ _ R3 ((Keep.of (s1.trans s2)).trans k3)
  | _ => cases ek
/-- x.append(e) -/
def appS (i : Nat) (fe : Env → R D) : Env → R Fl := fun r => (R.ofO (ownL r i)).bind fun s => (fe r).bind fun d => if s.2.length < sizeLine then .ok (.nx (r.set i (s.1.put (.lst (s.2 ++ [d]))))) else .stk
theorem s_append (i : Nat) {p apos cpos : Pos} {fe : Env → R D} (h : DP X W e fe) (hN : X.N[i]? = some x := by rfl) (hv : Vis X.env.scope x := by first | exact Or.inl rfl | exact Or.inr (Or.inl rfl) | exact Or.inr (Or.inr rfl)) (hd : (x == ("__debug__" : Str)) = false := by decide)
    (hcd : (x == ("__classdict__" : Str)) = false := by decide)
    (hbase : attributeBase (.Name x p) "append" X.env (eval (.Name x p) X.env) = eval (.Name x p) X.env := by rfl)
    (hfew : ((backTo cpos (starEach [e] X.env)).all (fun x => !x.1) && (backToKw cpos (keywordEach [] X.env)).all (fun x => x.1.isSome)
      && decide ([e].length + ([] : List Keyword).length + (if ([] : List Keyword).isEmpty then 0 else 1) < 30)) = true := by rfl)
    (hline : (apos.endLine == cpos.line) = true := by rfl) (he : starEach [e] X.env = [(false, eval e X.env)] := by rfl)
    (hs : swapsWith (.Call (.Attribute (.Name x p) "append" apos) [e] [] cpos) none pos.line X.env = pure false := by rfl) :
    DS X W (.Expr (.Call (.Attribute (.Name x p) "append" apos) [e] [] cpos) pos) (appS i fe) := by
  obtain ⟨t, pe, w⟩ := h
  refine ⟨_, ps_expr (pe_bm PySem.F.plainAttrs_list PySem.F.slot_list_append PySem.F.type_list_append mt_append (pe_var (i := i) hN hv hd hcd) (pa_cons pe pa_nil he) hbase hfew hline he rfl) hs, fun F os r σ H D R S => ?_⟩
  obtain ⟨s0, e0, S⟩ := S.bind.ofO
  obtain ⟨e00, e01⟩ := ownL_ok (s := s0.1) (xs := s0.2) e0
  obtain ⟨a, ea, inA, ys, hy, hr⟩ := R.ownA e00 e01
  refine ⟨_, ea, .inl ⟨rfl, ys, SqL.of hy⟩, w F os r σ H _ R (S.bind.imp fun d S v H1 s1 h1 => ?_)⟩
  have R1 := R.same' s1
  obtain ⟨a', ea', inA', ys', hy', hr'⟩ := R1.ownA e00 e01
  rw [ea] at ea'
  cases ea'
  by_cases hl : s0.2.length < sizeLine
  · rw [if_pos hl] at S
    refine ⟨a, ys', v, rfl, rfl, hy', by rw [repL_length hr']; exact hl, ?_⟩
    have rep' : RepO X.K (upd H1 a (.lst (ys' ++ [v]))) (Av F.A0 os) (.lst (s0.2 ++ [d])) a := ⟨_, upd_same, own_upd R1.AOk inA (repL_append hr' (by unfold RepL; exact ⟨v, [], rfl, h1, by unfold RepL; rfl⟩))⟩
    obtain ⟨R3, k3⟩ := R1.updOwn e00 e01 ea rep'
    exact S os σ _ R3 ((Keep.of s1).trans k3)
  · rw [if_neg hl] at S
    exact S.elim
/-- from here on the list is a value as others -/
@[simp] def frz1 (i : Nat) (r : Env) : Env := match r[i]? with
  | some (.own d) => r.set i (.sh d)
  | _ => r
theorem s_frz (i : Nat) {f : Env → R Fl} (h : DSs X W sts f) : DSs X W sts (fun r => f (frz1 i r)) := by
  obtain ⟨t, p, w⟩ := h
  refine ⟨t, p, fun F os r σ H D R S => ?_⟩
  cases q : r[i]? with
  | none =>
    have e1 : frz1 i r = r := by unfold frz1; rw [q]
    simp only [e1] at S
    exact w F os r σ H D R S
  | some sl =>
    cases sl with
    | own d =>
      have e1 : frz1 i r = r.set i (.sh d) := by unfold frz1; rw [q]
      simp only [e1] at S
      obtain ⟨R1, k1, _⟩ := R.freeze q
      exact w F _ _ σ H D R1 (S.imp fun fl q => q.from k1)
    | sh d =>
      have e1 : frz1 i r = r := by unfold frz1; rw [q]
      simp only [e1] at S
      exact w F os r σ H D R S
    | io d =>
      have e1 : frz1 i r = r := by unfold frz1; rw [q]
      simp only [e1] at S
      exact w F os r σ H D R S
    | un =>
      have e1 : frz1 i r = r := by unfold frz1; rw [q]
      simp only [e1] at S
      exact w F os r σ H D R S
end
end DL

end
section
namespace DL
open PySem L2

/-! ### what is walked -/
/-- J gives the items, while G holds (of what a slot owns, and the heap) -/
structure Src (K : PySem.W.Frag) (J : It) (items : List D) (G : (Addr → Prop) → Hp → Prop) : Prop where
  keep : ∀ (A A' : Addr → Prop) (H H' : Hp), AOk A H → Keep A A' H H' → G A H → G A' H'
  goes : ∀ (A : Addr → Prop) (i : Nat) (H : Hp), AOk A H → i < items.length → G A H → J.go i H
  stops : ∀ (A : Addr → Prop) (H : Hp), AOk A H → G A H → J.stop items.length H
  yields : ∀ (A : Addr → Prop) (i : Nat) (H : Hp) (x : V) (H' : Hp), AOk A H → i < items.length → G A H → J.yld i H x H' → Same H H' ∧ ∃ d, items[i]? = some d ∧ Rep K H' A d x
structure DI (X : Cx) (W : WX) (tg iter : Expr) (f : Env → R (List D × Env)) : Prop where
  ex : ∃ t, PI X tg iter t ∧ ∀ (F : Fm) (os : List (Option Addr)) (r : Env) (σ : St) (H : Hp) (Q : It → Hp → Prop), Rel X.K F os r σ H →
    Sat (fun p => ∀ J H' G, Src X.K J p.1 G → Rel X.K F os p.2 σ H' → Keep (Av F.A0 os) (Av F.A0 os) H H' → G (Av F.A0 os) H' → Q J H') (Er X W F) (f r) → t σ H Q
def cI (K : PySem.W.Frag) (mg : Str → Option Value) (W : WX) (f : Env → R (List D × Env)) : TI := fun σ H Q => ∃ F os r, Rel K F os r σ H ∧
  Sat (fun p => ∀ J H' G, Src K J p.1 G → Rel K F os p.2 σ H' → Keep (Av F.A0 os) (Av F.A0 os) H H' → G (Av F.A0 os) H' → Q J H') (ErK K mg W F) (f r)
theorem DI.can {X : Cx} {W : WX} {tg iter : Expr} {f : Env → R (List D × Env)} (h : DI X W tg iter f) : PI X tg iter (cI X.K X.mg W f) := by
  obtain ⟨t, pe, w⟩ := h
  exact ⟨fun pins s σ H Q I ⟨F, os, r, R, S⟩ => pe.run pins s σ H Q I (w F os r σ H Q R S)⟩
section
variable {X : Cx} {W : WX} {e tg : Expr} {es : List Expr} {pos p : Pos}
theorem src_list {K : PySem.W.Frag} {a : Addr} {ds : List D} : Src K (Itl K a) ds (fun A H => Rep K H A (.lst ds) (.ref a)) := by
  have rd : ∀ {A : Addr → Prop} {H : Hp}, Rep K H A (.lst ds) (.ref a) → ∃ xs, SqL K H a xs ∧ RepL K H A ds xs := fun {A H} h => by
    obtain ⟨b, xs, e, h1, h2⟩ := RepB.lst (.inl h)
    cases e
    exact ⟨xs, h1, h2⟩
  refine ⟨fun A A' H H' ak k h => Rep.keep k ak _ _ h, fun A i H ak hi h => ?_, fun A H ak h => ?_, fun A i H x H' ak hi h y => ?_⟩
  · obtain ⟨xs, h1, h2⟩ := rd h
    obtain ⟨v, h3, _⟩ := repL_get h2 (List.getElem?_eq_getElem hi)
    exact ⟨xs, v, h1, h3⟩
  · obtain ⟨xs, h1, h2⟩ := rd h
    exact ⟨xs, h1, by rw [repL_length h2]; exact Nat.le_refl _⟩
  · obtain ⟨xs, h1, h2⟩ := rd h
    obtain ⟨e1, y⟩ := y
    subst e1
    obtain ⟨v, h3, h4⟩ := repL_get h2 (List.getElem?_eq_getElem hi)
    have e3 := y xs h1
    rw [h3] at e3
    cases e3
    exact ⟨Same.refl _, _, List.getElem?_eq_getElem hi, h4⟩
theorem src_tup {K : PySem.W.Frag} {a : Addr} {ds : List D} : Src K (Itt K a) ds (fun A H => Rep K H A (.tup ds) (.ref a)) := by
  have rd : ∀ {A : Addr → Prop} {H : Hp}, Rep K H A (.tup ds) (.ref a) → ∃ xs, SqT K H a xs ∧ RepL K H A ds xs := fun {A H} h => by
    obtain ⟨b, xs, e, h1, h2⟩ := RepB.tup (.inl h)
    cases e
    exact ⟨xs, h1, h2⟩
  refine ⟨fun A A' H H' ak k h => Rep.keep k ak _ _ h, fun A i H ak hi h => ?_, fun A H ak h => ?_, fun A i H x H' ak hi h y => ?_⟩
  · obtain ⟨xs, h1, h2⟩ := rd h
    obtain ⟨v, h3, _⟩ := repL_get h2 (List.getElem?_eq_getElem hi)
    exact ⟨xs, v, h1, h3⟩
  · obtain ⟨xs, h1, h2⟩ := rd h
    exact ⟨xs, h1, by rw [repL_length h2]; exact Nat.le_refl _⟩
  · obtain ⟨xs, h1, h2⟩ := rd h
    obtain ⟨e1, y⟩ := y
    subst e1
    obtain ⟨v, h3, h4⟩ := repL_get h2 (List.getElem?_eq_getElem hi)
    have e3 := y xs h1
    rw [h3] at e3
    cases e3
    exact ⟨Same.refl _, _, List.getElem?_eq_getElem hi, h4⟩
/-- the ints lo, lo + 1, .. -/
def rngL (lo : Int) (n : Nat) : List D := (List.range n).map fun i => D.int (lo + (i : Nat))
theorem rngL_length (lo : Int) (n : Nat) : (rngL lo n).length = n := by simp [rngL]
theorem src_range {K : PySem.W.Frag} {lo : Int} {n : Nat} : Src K (Itr lo n) (rngL lo n) (fun _ _ => True) := by
  refine ⟨fun _ _ _ _ _ _ h => h, fun A i H ak hi h => ?_, fun A H ak h => ?_, fun A i H x H' ak hi h y => ?_⟩
  · rw [rngL_length] at hi
    exact hi
  · rw [rngL_length]
    exact Nat.le_refl _
  · obtain ⟨e1, e2⟩ := y
    subst e1 e2
    rw [rngL_length] at hi
    exact ⟨Same.refl _, .int (lo + (i : Nat)), by simp [rngL, hi], rep_int⟩
/-- the signs of a text -/
def sgs (z : Str) : List D := z.cps.toList.map fun c => D.str ⟨#[c]⟩
theorem src_str {K : PySem.W.Frag} {z : Str} : Src K (Its z) (sgs z) (fun _ _ => True) := by
  have hl : (sgs z).length = z.cps.size := by simp [sgs]
  refine ⟨fun _ _ _ _ _ _ h => h, fun A i H ak hi h => ?_, fun A H ak h => ?_, fun A i H x H' ak hi h y => ?_⟩
  · rw [hl] at hi
    exact hi
  · rw [hl]
    exact Nat.le_refl _
  · obtain ⟨e1, c, e2, e3⟩ := y
    subst e1 e3
    refine ⟨Same.refl _, .str ⟨#[c]⟩, ?_, rep_str⟩
    unfold sgs
    rw [List.getElem?_map]
    have : z.cps.toList[i]? = some c := by rw [Array.getElem?_toList]; exact e2
    rw [this]
    rfl
@[simp] def itL (f : Env → R (D × Env)) : Env → R (List D × Env) := fun r => (f r).bind fun p => match p.1 with
  | .lst ds => .ok (ds, p.2)
  | _ => .stk
@[simp] def itT (f : Env → R (D × Env)) : Env → R (List D × Env) := fun r => (f r).bind fun p => match p.1 with
  | .tup ds => .ok (ds, p.2)
  | _ => .stk
@[simp] def itS (f : Env → R (D × Env)) : Env → R (List D × Env) := fun r => (f r).bind fun p => match p.1 with
  | .str z => .ok (sgs z, p.2)
  | _ => .stk
@[simp] def itR1 (g : Env → R (List D × Env)) : Env → R (List D × Env) := fun r => (g r).bind fun p => match p.1 with
  | [.int j] => if -(2 ^ 62) ≤ j ∧ j < 2 ^ 62 then .ok (rngL 0 j.toNat, p.2) else .stk
  | _ => .stk
@[simp] def itR2 (g : Env → R (List D × Env)) : Env → R (List D × Env) := fun r => (g r).bind fun p => match p.1 with
  | [.int i, .int j] => if -(2 ^ 62) ≤ i ∧ i < 2 ^ 62 ∧ -(2 ^ 62) ≤ j ∧ j < 2 ^ 62 then .ok (rngL i (j - i).toNat, p.2) else .stk
  | _ => .stk
theorem i_range1 {g : Env → R (List D × Env)} (hg : Gl X "range") (hm : X.mg "range" = none) (h : DEs X W [e] g) (hs : starEach [e] X.env = [(false, eval e X.env)] := by rfl) : DI X W tg (.Call (.Name "range" p) [e] [] pos) (itR1 g) := by
  obtain ⟨t, pe, w⟩ := h
  refine ⟨_, pi_range1 hg hm pe hs, fun F os r σ H Q R S => w F os r σ H _ R (S.bind.imp fun q S vs H1 R1 k1 h1 => ?_)⟩
  obtain ⟨ds, r1⟩ := q
  match ds, S, h1 with
  | [.int j], S, h1 =>
    unfold RepL at h1
    obtain ⟨v, rs, e1, h3, h4⟩ := h1
    unfold RepL at h4
    subst h4 e1
    unfold Rep at h3
    subst h3
    by_cases hj : -(2 ^ 62) ≤ j ∧ j < 2 ^ 62
    · simp only [if_pos hj] at S
      exact ⟨j, rfl, hj.1, hj.2, S _ H1 _ src_range R1 k1 trivial⟩
    · simp only [if_neg hj] at S
      exact S.elim
/-! the same, the slots staying as they are -/
structure DIp (X : Cx) (W : WX) (tg iter : Expr) (f : Env → R (List D)) : Prop where
  ex : ∃ t, PI X tg iter t ∧ ∀ (F : Fm) (os : List (Option Addr)) (r : Env) (σ : St) (H : Hp) (Q : It → Hp → Prop), Rel X.K F os r σ H →
    Sat (fun items => ∀ J H' G, Src X.K J items G → Same H H' → G (Av F.A0 os) H' → Q J H') (Er X W F) (f r) → t σ H Q
def cIp (K : PySem.W.Frag) (mg : Str → Option Value) (W : WX) (f : Env → R (List D)) : TI := fun σ H Q => ∃ F os r, Rel K F os r σ H ∧
  Sat (fun items => ∀ J H' G, Src K J items G → Same H H' → G (Av F.A0 os) H' → Q J H') (ErK K mg W F) (f r)
theorem DIp.can {f : Env → R (List D)} (h : DIp X W tg e f) : PI X tg e (cIp X.K X.mg W f) := by
  obtain ⟨t, pe, w⟩ := h
  exact ⟨fun pins s σ H Q I ⟨F, os, r, R, S⟩ => pe.run pins s σ H Q I (w F os r σ H Q R S)⟩
theorem DIp.toI {f : Env → R (List D)} (h : DIp X W tg e f) : DI X W tg e (withEnv f) := by
  obtain ⟨t, pe, w⟩ := h
  exact ⟨t, pe, fun F os r σ H Q R S => w F os r σ H Q R (S.bind.imp fun d q J H' G src s g => q J H' G src (R.same' s) (Keep.of s) g)⟩
@[simp] def asL : D → Option (List D)
  | .lst ds => some ds
  | _ => none
@[simp] def asT : D → Option (List D)
  | .tup ds => some ds
  | _ => none
@[simp] def asS : D → Option (List D)
  | .str z => some (sgs z)
  | _ => none
@[simp] def itX (p : D → Option (List D)) (f : Env → R D) : Env → R (List D) := fun r => (f r).bind fun d => R.ofO (p d)
def rg1 : List D → Option (List D)
  | [.int j] => if -(2 ^ 62) ≤ j ∧ j < 2 ^ 62 then some (rngL 0 j.toNat) else none
  | _ => none
def rg2 : List D → Option (List D)
  | [.int i, .int j] => if -(2 ^ 62) ≤ i ∧ i < 2 ^ 62 ∧ -(2 ^ 62) ≤ j ∧ j < 2 ^ 62 then some (rngL i (j - i).toNat) else none
  | _ => none
@[simp] def itN (p : List D → Option (List D)) (g : Env → R (List D)) : Env → R (List D) := fun r => (g r).bind fun d => R.ofO (p d)
theorem p_range1 {g : Env → R (List D)} (hg : Gl X "range") (hm : X.mg "range" = none) (h : DBs X W [e] g) (hs : starEach [e] X.env = [(false, eval e X.env)] := by rfl) : DIp X W tg (.Call (.Name "range" p) [e] [] pos) (itN rg1 g) := by
  obtain ⟨t, pe, w⟩ := h
  refine ⟨_, pi_range1 hg hm pe hs, fun F os r σ H Q R S => w F os r σ H _ R (S.bind.imp fun ds S vs H1 s1 h1 => ?_)⟩
  obtain ⟨items, ei, S⟩ := S.ofO
  unfold rg1 at ei
  split at ei
  · rename_i j
    obtain ⟨v, e1, h3⟩ := rep1 h1
    subst e1
    split at ei
    · rename_i hj
      cases ei
      rw [h3.int]
      exact ⟨j, rfl, hj.1, hj.2, S _ H1 _ src_range s1 trivial⟩
    · cases ei
  · cases ei
theorem p_range2 {a b : Expr} {g : Env → R (List D)} (hg : Gl X "range") (hm : X.mg "range" = none) (h : DBs X W [a, b] g) (hs : starEach [a, b] X.env = [(false, eval a X.env), (false, eval b X.env)] := by rfl) (hs2 : starEach [b] X.env = [(false, eval b X.env)] := by rfl) :
    DIp X W tg (.Call (.Name "range" p) [a, b] [] pos) (itN rg2 g) := by
  obtain ⟨t, pe, w⟩ := h
  refine ⟨_, pi_range2 hg hm pe hs hs2, fun F os r σ H Q R S => w F os r σ H _ R (S.bind.imp fun ds S vs H1 s1 h1 => ?_)⟩
  obtain ⟨items, ei, S⟩ := S.ofO
  unfold rg2 at ei
  split at ei
  · rename_i i j
    obtain ⟨v, u, e1, h3, h4⟩ := rep2 h1
    subst e1
    split at ei
    · rename_i hj
      cases ei
      rw [h3.int, h4.int]
      exact ⟨i, j, rfl, hj, S _ H1 _ src_range s1 trivial⟩
    · cases ei
  · cases ei

/-! ### for -/
def forD (g : D → Env → R Env) (b : Env → R Fl) : List D → Env → R Fl
  | [], r => .ok (.nx r)
  | x :: xs, r => (g x r).bind fun r1 => (b r1).bind fun fl => match fl with
    | .nx r2 => forD g b xs r2
    | .ct r2 => forD g b xs r2
    | .bk r2 => .ok (.nx r2)
    | .rt d r2 => .ok (.rt d r2)
def forS (f : Env → R (List D × Env)) (g : D → Env → R Env) (b : Env → R Fl) : Env → R Fl := fun r => (f r).bind fun p => forD g b p.1 p.2
theorem s_for {iter : Expr} {ks : List Nat} {body : List Stmt} {f : Env → R (List D × Env)} {g : D → Env → R Env} {b : Env → R Fl} (hp : PassesOwn (model X.prog X.w) X.A X.env X.xe) (hc : X.calm = true) (hi : DI X W tg iter f) (hg : DG X W ks tg g) (hb : DSs X W body b)
    (hs : ∀ x, foldedSetIterable iter X.env x = pure x := by intro _; rfl) : DS X W (.For tg iter body [] pos) (forS f g b) := by
  obtain ⟨ti, pi, wi⟩ := hi
  obtain ⟨tG, pg, wg⟩ := hg
  obtain ⟨tb, pb, wb⟩ := hb
  refine ⟨_, ps_for hp hc pi pg pb hs, fun F os r σ H D R S => wi F os r σ H _ R (S.bind.imp fun q S J H1 G src R1 k1 g1 => ?_)⟩
  obtain ⟨items, r1⟩ := q
  have wk : Walk J items.length (fun H => ∃ A, AOk A H ∧ G A H) (fun i H x H' => i < items.length ∧ J.yld i H x H') :=
    ⟨fun i H hi ⟨A, ak, h⟩ => src.goes A i H ak hi h, fun H ⟨A, ak, h⟩ => src.stops A H ak h, fun i H x H' hi _ y => ⟨hi, y⟩⟩
  refine for_it wk (fun i σ' H' => ∃ os' r', Rel X.K F os' r' σ' H' ∧ Keep (Av F.A0 os) (Av F.A0 os') H1 H' ∧ G (Av F.A0 os') H' ∧ Sat (SPost X.K F os H D) (Er X W F) (forD g b (items.drop i) r')) ⟨os, r1, R1, Keep.refl, g1, S⟩ ?_ ?_ ?_
  · rintro i σ' H' hi ⟨os', r', R', k', g', S'⟩
    exact ⟨_, R'.AOk, g'⟩
  · rintro i x σ' H2 H3 hi ⟨os', r', R', k', g', S'⟩ ⟨_, y⟩
    obtain ⟨s3, d, ed, hd⟩ := src.yields _ i H2 x H3 R'.AOk hi g' y
    have ei : items.drop i = d :: items.drop (i + 1) := by
      rw [List.drop_eq_getElem_cons hi]
      rw [List.getElem?_eq_getElem hi] at ed
      cases ed
      rfl
    rw [ei] at S'
    have S'' : Sat (SPost X.K F os H D) (Er X W F) ((g d r').bind fun r1 => (b r1).bind fun fl => match fl with
      | .nx r2 => forD g b (items.drop (i + 1)) r2
      | .ct r2 => forD g b (items.drop (i + 1)) r2
      | .bk r2 => .ok (.nx r2)
      | .rt d r2 => .ok (.rt d r2)) := S'
    have R3 := R'.same' s3
    have g3 := src.keep _ _ _ _ R'.AOk (Keep.of s3) g'
    refine wg F os' r' σ' H3 x d _ R3 hd (S''.bind.imp fun r4 S4 os4 σ4 H4 R4 k4 _ _ => ?_)
    have g4 := src.keep _ _ _ _ R3.AOk k4 g3
    have k14 : Keep (Av F.A0 os) (Av F.A0 os4) H1 H4 := (k'.trans (Keep.of s3)).trans k4
    refine wb F os4 r4 σ4 H4 _ R4 (S4.bind.imp fun fl S5 => ?_)
    cases fl with
    | nx r5 => exact fun os5 σ5 H5 R5 k5 => ⟨os5, r5, R5, k14.trans k5, src.keep _ _ _ _ R4.AOk k5 g4, S5⟩
    | ct r5 => exact fun os5 σ5 H5 R5 k5 => ⟨os5, r5, R5, k14.trans k5, src.keep _ _ _ _ R4.AOk k5 g4, S5⟩
    | bk r5 => exact fun os5 σ5 H5 R5 k5 => S5 os5 σ5 H5 R5 (k1.trans (k14.trans k5))
    | rt d r5 => exact fun os5 v σ5 H5 R5 h5 => S5 os5 v σ5 H5 R5 h5
  · rintro σ' H' ⟨os', r', R', k', g', S'⟩
    rw [List.drop_length] at S'
    exact S' os' σ' H' R' (k1.trans k')

/-! ### while: n bounds the turns -/
def whlD (c : Env → R (Bool × Env)) (b : Env → R Fl) : Nat → Env → R Fl
  | 0, _ => .stk
  | n + 1, r => (c r).bind fun p => if p.1 = true then (b p.2).bind fun fl => match fl with
    | .nx r2 => whlD c b n r2
    | .ct r2 => whlD c b n r2
    | .bk r2 => .ok (.nx r2)
    | .rt d r2 => .ok (.rt d r2)
    else .ok (.nx p.2)
@[simp] def whlS (n : Env → Nat) (c : Env → R (Bool × Env)) (b : Env → R Fl) : Env → R Fl := fun r => whlD c b (n r) r
theorem s_while {body : List Stmt} {c : Env → R (Bool × Env)} {b : Env → R Fl} (n : Env → Nat) (hp : PassesOwn (model X.prog X.w) X.A X.env X.xe) (hc : DTE X W e c) (hb : DSs X W body b) : DS X W (.While e body [] pos) (whlS n c b) := by
  obtain ⟨tc, pc, wc⟩ := hc
  obtain ⟨tb, pb, wb⟩ := hb
  refine ⟨_, ps_while hp pc pb, fun F os r σ H D R S => ?_⟩
  refine ⟨fun m σ' H' => ∃ os' r', Rel X.K F os' r' σ' H' ∧ Keep (Av F.A0 os) (Av F.A0 os') H H' ∧ Sat (SPost X.K F os H D) (Er X W F) (whlD c b m r'), ⟨n r, os, r, R, Keep.refl, S⟩, ?_⟩
  rintro m σ' H' ⟨os', r', R', k', S'⟩
  cases m with
  | zero => exact S'.elim
  | succ m =>
    have S'' : Sat (SPost X.K F os H D) (Er X W F) ((c r').bind fun p => if p.1 = true then (b p.2).bind fun fl => match fl with
      | .nx r2 => whlD c b m r2
      | .ct r2 => whlD c b m r2
      | .bk r2 => .ok (.nx r2)
      | .rt d r2 => .ok (.rt d r2)
      else .ok (.nx p.2)) := S'
    refine wc F os' r' σ' H' _ R' (S''.bind.imp fun q S1 H1 R1 k1 => ?_)
    obtain ⟨bb, r1⟩ := q
    cases bb with
    | false => exact S1 os' σ' H1 R1 (k'.trans k1)
    | true =>
      simp only [if_true] at S1 ⊢
      refine ⟨fun σ2 H2 => ∃ os2 r2, Rel X.K F os2 r2 σ2 H2 ∧ Keep (Av F.A0 os) (Av F.A0 os2) H H2 ∧ Sat (SPost X.K F os H D) (Er X W F) (whlD c b m r2), fun σ2 H2 h => ⟨m, Nat.lt_succ_self m, h⟩, ?_⟩
      refine wb F os' r1 σ' H1 _ R1 (S1.bind.imp fun fl S5 => ?_)
      have k01 := k'.trans k1
      cases fl with
      | nx r5 => exact fun os5 σ5 H5 R5 k5 => ⟨os5, r5, R5, k01.trans k5, S5⟩
      | ct r5 => exact fun os5 σ5 H5 R5 k5 => ⟨os5, r5, R5, k01.trans k5, S5⟩
      | bk r5 => exact fun os5 σ5 H5 R5 k5 => S5 os5 σ5 H5 R5 (k01.trans k5)
      | rt d r5 => exact fun os5 v σ5 H5 R5 h5 => S5 os5 v σ5 H5 R5 h5
end
end DL

end
section
namespace DL
open PySem L2

/-! ### list comprehensions that change nothing -/
def wipeE (r : Env) : List Nat → Env
  | [] => r
  | v :: vs => (wipeE r vs).set v .un
def lcP (g : D → Env → R Env) (c : Env → R Bool) (f : Env → R D) (r0 : Env) : List D → R (List D)
  | [] => .ok []
  | x :: xs => (R.ne (g x r0)).bind fun r1 => (R.ne (c r1)).bind fun b => if b = true then (R.ne (f r1)).bind fun d => (lcP g c f r0 xs).bind fun ds => .ok (d :: ds) else lcP g c f r0 xs
@[simp] def lcV (vs : List Nat) (h : Env → R (List D)) (g : D → Env → R Env) (c : Env → R Bool) (f : Env → R D) : Env → R D := fun r => (h r).bind fun items => if items.length ≤ sizeLine then (lcP g c f (wipeE r vs) items).bind fun ds => .ok (.lst ds) else .stk
@[simp] def yesB : Env → R Bool := fun _ => .ok true
theorem Sat.ne {α : Type} {p : α → Prop} {q : Ex → Env → Prop} {r : R α} (h : Sat p q (R.ne r)) {q' : Ex → Env → Prop} : Sat p q' r := by
  cases r with
  | ok a => exact h
  | err x e => exact h.elim
  | stk => exact h
theorem Sat.neB {α β : Type} {p : β → Prop} {q q' : Ex → Env → Prop} {r : R α} {g : α → R β} (h : Sat p q ((R.ne r).bind g)) : Sat (fun a => Sat p q (g a)) q' r := by
  cases r with
  | ok a => exact h
  | err x e => exact h.elim
  | stk => exact h
def cG (K : PySem.W.Frag) (mg : Str → Option Value) (W : WX) (ks : List Nat) (g : D → Env → R Env) : TG := fun v σ H Q => ∃ F os r d, Rel K F os r σ H ∧ Rep K H (Av F.A0 os) d v ∧
  Sat (fun r' => ∀ os' σ' H', Rel K F os' r' σ' H' → Keep (Av F.A0 os) (Av F.A0 os') H H' → Same H H' → Off ks σ σ' os os' → Q σ' H') (ErK K mg W F) (g d r)
theorem DG.can {X : Cx} {W : WX} {ks : List Nat} {tg : Expr} {g : D → Env → R Env} (h : DG X W ks tg g) : PG X tg (cG X.K X.mg W ks g) := by
  obtain ⟨t, pe, w⟩ := h
  exact ⟨fun pins s σ H v u Q I rv ⟨F, os, r, d, R, rd, S⟩ => pe.run pins s σ H v u Q I rv (w F os r σ H v d Q R rd S)⟩
def cP (K : PySem.W.Frag) (mg : Str → Option Value) (W : WX) (f : Env → R D) : TE := fun σ H Q => ∃ F os r, Rel K F os r σ H ∧
  Sat (fun d => ∀ v H', Same H H' → Rep K H' (Av F.A0 os) d v → Q v H') (ErK K mg W F) (f r)
theorem DP.can {X : Cx} {W : WX} {e : Expr} {f : Env → R D} (h : DP X W e f) : PE X e (cP X.K X.mg W f) := by
  obtain ⟨t, pe, w⟩ := h
  exact ⟨fun pins s σ H Q I ⟨F, os, r, R, S⟩ => pe.run pins s σ H Q I (w F os r σ H Q R S)⟩
def cTp (K : PySem.W.Frag) (mg : Str → Option Value) (W : WX) (f : Env → R Bool) : TT := fun σ H Q => ∃ F os r, Rel K F os r σ H ∧
  Sat (fun b => ∀ H', Same H H' → Q b H') (ErK K mg W F) (f r)
/-- a clause's tests -/
structure DC (X : Cx) (W : WX) (ifs : List Expr) (f : Env → R Bool) : Prop where
  ex : ∃ t, PTs X ifs t ∧ ∀ (F : Fm) (os : List (Option Addr)) (r : Env) (σ : St) (H : Hp) (Q : Bool → Hp → Prop), Rel X.K F os r σ H →
    Sat (fun b => ∀ H', Same H H' → Q b H') (Er X W F) (f r) → t σ H Q
theorem DC.can {X : Cx} {W : WX} {ifs : List Expr} {f : Env → R Bool} (h : DC X W ifs f) : PTs X ifs (cTp X.K X.mg W f) := by
  obtain ⟨t, pe, w⟩ := h
  exact ⟨fun pins s σ H Q I ⟨F, os, r, R, S⟩ => pe.run pins s σ H Q I (w F os r σ H Q R S)⟩
theorem c_nil {X : Cx} {W : WX} : DC X W [] yesB := ⟨_, pts_nil, fun F os r σ H Q R S => S H (Same.refl H)⟩
theorem c_one {X : Cx} {W : WX} {e : Expr} {f : Env → R Bool} (h : DT X W e f) : DC X W [e] f := by
  obtain ⟨t, pe, w⟩ := h
  exact ⟨_, pts_one pe, w⟩
abbrev WF : WX := fun _ _ _ _ => False
section
variable {K : PySem.W.Frag} {F : Fm} {os : List (Option Addr)} {r : Env} {σ : St} {H H' : Hp}
/-- a new object that is nobody's -/
theorem Rel.ext (R : Rel K F os r σ H) {p : Addr} {o : HO} (n : H p = none) (ho : isT o = false) : Rel K ⟨Ad F.A0 p, F.H0, F.io⟩ os r σ (upd H p o) := by
  have ak := R.AOk
  have np := R.notIn n
  have kp : Keep (Av F.A0 os) (Av (Ad F.A0 p) os) H (upd H p o) := fun b u e nb => ⟨by rw [upd_ne (ne_of_none e n)]; exact e, fun z => by
    rcases z with (z | z) | z
    · exact nb (.inl z)
    · rw [z, n] at e
      cases e
    · exact nb (.inr z)⟩
  refine ⟨R.lens, R.leno, fun i s v u e1 e2 e3 => (R.slot i s v u e1 e2 e3).keep kp ak fun a z => ?_, R.inj, fun i a e z => ?_, fun a z => ?_, fun b u e nb => ?_, R.new⟩
  · subst z
    refine upd_ne fun z => np (.inr ?_)
    rw [← z]
    exact List.mem_of_getElem? e3
  · rcases z with z | z
    · exact R.out i a e z
    · refine np (.inr ?_)
      rw [← z]
      exact List.mem_of_getElem? e
  · rcases z with z | z
    · obtain ⟨u, h1, h2⟩ := R.aok a z
      exact ⟨u, by rw [upd_ne (ne_of_none h1 n)]; exact h1, h2⟩
    · exact ⟨o, by rw [z, upd_same], ho⟩
  · have h1 := R.same b u e nb
    rw [upd_ne (ne_of_none h1 n)]
    exact h1
/-- what nobody holds changes -/
theorem Rel.updA (R : Rel K F os r σ H) {p : Addr} {o : HO} (hp : F.A0 p) (ho : isT o = false) (n : F.H0 p = none ∨ F.io p) : Rel K F os r σ (upd H p o) ∧ Keep (Av F.A0 os) (Av F.A0 os) H (upd H p o) := by
  have ak := R.AOk
  have kp : Keep (Av F.A0 os) (Av F.A0 os) H (upd H p o) := fun b u e nb => ⟨by rw [upd_ne (fun z => nb (.inl (by rw [z]; exact hp)))]; exact e, nb⟩
  refine ⟨⟨R.lens, R.leno, fun i s v u e1 e2 e3 => (R.slot i s v u e1 e2 e3).keep kp ak fun a z => ?_, R.inj, R.out, fun a z => ?_, fun b u e nb => ?_, R.new⟩, kp⟩
  · subst z
    exact upd_ne fun z => R.out i a e3 (by rw [z]; exact hp)
  · by_cases e : a = p
    · subst e
      exact ⟨o, upd_same, ho⟩
    · rw [upd_ne e]
      exact R.aok a z
  · have h1 := R.same b u e nb
    rw [upd_ne (fun z => by
      subst z
      rcases n with n | n
      · rw [n] at e
        cases e
      · exact nb n)]
    exact h1
theorem Rel.wipe (R : Rel K F os r σ H) : ∀ (vs : List Nat), (∀ v ∈ vs, ∀ (s : Slot) (d : D), r[v]? = some s → s.cont ≠ some d) → Rel K F os (wipeE r vs) (L2.wipe σ vs) H
  | [], _ => R
  | v :: vs, hv => by
    have R1 := Rel.wipe R vs fun u hu => hv u (List.mem_cons_of_mem _ hu)
    have hvo : ∀ a, os[v]? ≠ some (some a) := fun a e => by
      obtain ⟨s, d, e1, e2, _⟩ := R.own e
      exact hv v (List.mem_cons_self ..) s d e1 e2
    show Rel K F os ((wipeE r vs).set v .un) ((L2.wipe σ vs).set v none) H
    refine ⟨by simp [R1.lens], by simp [R1.leno], fun i s u o e1 e2 e3 => ?_, R1.inj, R1.out, R1.aok, R1.same, R1.new⟩
    rcases getElem?_set_cases e1 with ⟨e, z1⟩ | ⟨e, e1⟩
    · subst e
      subst z1
      show o = none
      cases o with
      | none => rfl
      | some a => exact absurd e3 (hvo a)
    · rw [List.getElem?_set_ne e] at e2
      exact R1.slot i s u o e1 e2 e3
end
theorem wipe_get {σ : St} {vs : List Nat} {i : Nat} : i ∉ vs → (L2.wipe σ vs)[i]? = σ[i]? := by
  induction vs with
  | nil => intro _; rfl
  | cons v vs ih =>
    intro h
    rw [List.mem_cons, not_or] at h
    unfold L2.wipe
    rw [List.getElem?_set_ne (Ne.symm h.1)]
    exact ih h.2
theorem wipe_in {σ : St} {vs : List Nat} {i : Nat} : i ∈ vs → i < σ.length → (L2.wipe σ vs)[i]? = some none := by
  induction vs with
  | nil => intro h; simp at h
  | cons v vs ih =>
    intro h hl
    unfold L2.wipe
    by_cases e : v = i
    · subst e
      rw [List.getElem?_set_self (by rw [L2.wipe_length]; exact hl)]
    · rw [List.getElem?_set_ne e]
      rcases List.mem_cons.mp h with z | z
      · exact absurd z.symm e
      · exact ih z hl
theorem wipe_off {σ σ2 : St} {o o2 : List (Option Addr)} {vs ks : List Nat} (h : Off ks (L2.wipe σ vs) σ2 o o2) (hk : ∀ k ∈ ks, k ∈ vs) : L2.wipe σ2 vs = L2.wipe σ vs := by
  have hl : σ2.length = σ.length := by rw [h.1, L2.wipe_length]
  refine List.ext_getElem? fun i => ?_
  by_cases hi : i ∈ vs
  · by_cases hn : i < σ.length
    · rw [wipe_in hi hn, wipe_in hi (by omega)]
    · rw [List.getElem?_eq_none (by rw [L2.wipe_length]; omega), List.getElem?_eq_none (by rw [L2.wipe_length]; omega)]
  · rw [wipe_get hi, (h.2 i (fun z => hi (hk i z))).1]
@[simp] def isOwn : Option Slot → Bool
  | some (.own _) => true
  | some (.io _) => true
  | _ => false
def noOwn (vs : List Nat) (r : Env) : Bool := vs.all fun v => !isOwn r[v]?
theorem noOwn_ok {vs : List Nat} {r : Env} (h : noOwn vs r = true) : ∀ v ∈ vs, ∀ (s : Slot) (d : D), r[v]? = some s → s.cont ≠ some d := fun v hm s d e z => by
  have := List.all_eq_true.mp h v hm
  rw [e] at this
  cases s with
  | own _ => cases this
  | io _ => cases this
  | _ => cases z
theorem wipeE_un {r : Env} {vs : List Nat} {i : Nat} (h : i ∈ vs) : ∀ (s : Slot) (d : D), (wipeE r vs)[i]? = some s → s.cont ≠ some d := by
  induction vs with
  | nil => simp at h
  | cons v vs ih =>
    intro s d e
    unfold wipeE at e
    rcases getElem?_set_cases e with ⟨_, z⟩ | ⟨ne, e⟩
    · subst z
      exact fun z => nomatch z
    · rcases List.mem_cons.mp h with z | z
      · exact absurd z.symm ne
      · exact ih z s d e
theorem av_ad {A0 : Addr → Prop} {os : List (Option Addr)} {p : Addr} {H : Hp} : Keep (Av (Ad A0 p) os) (Ad (Av A0 os) p) H H := fun b o e n => ⟨e, fun z => n (by
  rcases z with (z | z) | z
  · exact .inl (.inl z)
  · exact .inr z
  · exact .inl (.inr z))⟩
/-- one turn of a comprehension's block, for both forms -/
def lcD (own : List (Str × Nat)) (h : Env → R (List D)) (g : D → Env → R Env) (c : Env → R Bool) (f : Env → R D) : Env → R D := fun r => if noOwn (own.map (·.2)) r = true then lcV (own.map (·.2)) h g c f r else .stk
theorem lc_snd {X : Cx} {W : WX} {own : List (Str × Nat)} {ks : List Nat} {h : Env → R (List D)} {g : D → Env → R Env} {c : Env → R Bool} {f : Env → R D}
    (hk : ∀ k ∈ ks, k ∈ own.map (·.2)) (F : Fm) (os : List (Option Addr)) (r : Env) (σ : St) (H : Hp) (Q : VK) (R : Rel X.K F os r σ H)
    (S : Sat (fun d => ∀ p H', Same H H' → H p = none → RepO X.K H' (Ad (Av F.A0 os) p) d p → Q (.ref p) H') (Er X W F) (lcD own h g c f r)) :
    tLc (cIp X.K X.mg W h) (cG X.K X.mg WF ks g) (cTp X.K X.mg WF c) (cP X.K X.mg WF f) (own.map (·.2)) σ H Q := by
  unfold lcD at S
  by_cases hv : noOwn (own.map (·.2)) r = true
  · rw [if_pos hv] at S
    have hv' := noOwn_ok hv
    refine ⟨F, os, r, R, Sat.mono (p := fun items => Sat (fun d => ∀ p H', Same H H' → H p = none → RepO X.K H' (Ad (Av F.A0 os) p) d p → Q (.ref p) H') (Er X W F)
      (if items.length ≤ sizeLine then (lcP g c f (wipeE r (own.map (·.2))) items).bind fun ds => .ok (.lst ds) else .stk)) S.bind (fun items S2 => ?_) (fun _ _ z => z)⟩
    intro J H1 G src s1 g1 D hD
    by_cases hl : items.length ≤ sizeLine
    · rw [if_pos hl] at S2
      have R1 := R.same' s1
      have nD : ¬ Av F.A0 os D := R1.notIn hD
      have hDH : H D = none := s1.free hD
      have F0 : F.H0 D = none ∨ F.io D := by
        by_cases hio : F.io D
        · exact .inr hio
        · cases q : F.H0 D with
          | none => exact .inl rfl
          | some o =>
            have := R1.same D o q hio
            rw [hD] at this
            cases this
      have R2 : Rel X.K ⟨Ad F.A0 D, F.H0, F.io⟩ os (wipeE r (own.map (·.2))) (L2.wipe σ (own.map (·.2))) (upd H1 D (.lst [])) := (R1.ext (p := D) (o := .lst []) hD rfl).wipe _ hv'
      have kp0 : Keep (Av F.A0 os) (Av (Ad F.A0 D) os) H1 (upd H1 D (.lst [])) := fun b u e nb => ⟨by rw [upd_ne (ne_of_none e hD)]; exact e, fun z => by
        rcases z with (z | z) | z
        · exact nb (.inl z)
        · rw [z, hD] at e
          cases e
        · exact nb (.inr z)⟩
      have g2 : G (Av (Ad F.A0 D) os) (upd H1 D (.lst [])) := src.keep _ _ _ _ R1.AOk kp0 g1
      have wk : Walk J items.length (fun H => ∃ A, AOk A H ∧ G A H) (fun i H x H' => i < items.length ∧ J.yld i H x H') :=
        ⟨fun i H hi ⟨A, ak, h⟩ => src.goes A i H ak hi h, fun H ⟨A, ak, h⟩ => src.stops A H ak h, fun i H x H' hi _ y => ⟨hi, y⟩⟩
      refine lc_it wk (fun i H' => ∃ acc vacc, Rel X.K ⟨Ad F.A0 D, F.H0, F.io⟩ os (wipeE r (own.map (·.2))) (L2.wipe σ (own.map (·.2))) H' ∧ H' D = some (.lst vacc) ∧ RepL X.K H' (Av (Ad F.A0 D) os) acc vacc ∧ G (Av (Ad F.A0 D) os) H' ∧ Same H H' ∧ acc.length ≤ i ∧
        Sat (fun ds => ∀ p H', Same H H' → H p = none → RepO X.K H' (Ad (Av F.A0 os) p) (.lst (acc ++ ds)) p → Q (.ref p) H') (fun _ _ => False) (lcP g c f (wipeE r (own.map (·.2))) (items.drop i)))
        ⟨[], [], R2, upd_same, by unfold RepL; rfl, g2, s1.trans (same_upd hD), Nat.le_refl _, ?_⟩ ?_ ?_ ?_
      · have : ∀ {rr : DL.R (List DL.D)}, Sat (fun d => ∀ p H', Same H H' → H p = none → RepO X.K H' (Ad (Av F.A0 os) p) d p → Q (.ref p) H') (Er X W F) (rr.bind fun ds => .ok (.lst ds)) → (∀ x e, rr ≠ .err x e) →
            Sat (fun ds => ∀ p H', Same H H' → H p = none → RepO X.K H' (Ad (Av F.A0 os) p) (.lst ([] ++ ds)) p → Q (.ref p) H') (fun _ _ => False) rr := by
          intro rr z ne
          cases rr with
          | ok ds => exact z
          | err x e => exact absurd rfl (ne x e)
          | stk => exact z
        refine this S2 ?_
        have noerr : ∀ (r0 : Env) (l : List DL.D) x e, lcP g c f r0 l ≠ .err x e := by
          intro r0 l
          induction l with
          | nil => intro x e z; cases z
          | cons y l ih =>
            intro x e z
            unfold lcP at z
            cases q1 : g y r0 with
            | err _ _ => rw [q1] at z; cases z
            | stk => rw [q1] at z; cases z
            | ok r1 =>
              rw [q1] at z
              simp only [DL.R.ne, DL.R.bind] at z
              cases q2 : c r1 with
              | err _ _ => rw [q2] at z; cases z
              | stk => rw [q2] at z; cases z
              | ok b =>
                rw [q2] at z
                simp only [DL.R.bind] at z
                cases b with
                | false =>
                  simp only [Bool.false_eq_true, if_false] at z
                  exact ih x e z
                | true =>
                  simp only [if_true] at z
                  cases q3 : f r1 with
                  | err _ _ => rw [q3] at z; cases z
                  | stk => rw [q3] at z; cases z
                  | ok d =>
                    rw [q3] at z
                    simp only [DL.R.bind] at z
                    cases q4 : lcP g c f r0 l with
                    | err x' e' => exact absurd q4 (ih x' e')
                    | stk => rw [q4] at z; cases z
                    | ok ds => rw [q4] at z; cases z
        exact noerr _ _
      · rintro i H' hi ⟨acc, vacc, R', _, _, g', _⟩
        exact ⟨_, R'.AOk, g'⟩
      · rintro i x H2 H3 hi ⟨acc, vacc, R', hDa, hacc, g', sm, hlen, S'⟩ ⟨_, y⟩
        obtain ⟨s3, d, ed, hd⟩ := src.yields _ i H2 x H3 R'.AOk hi g' y
        have ei : items.drop i = d :: items.drop (i + 1) := by
          rw [List.drop_eq_getElem_cons hi]
          rw [List.getElem?_eq_getElem hi] at ed
          cases ed
          rfl
        rw [ei] at S'
        unfold lcP at S'
        have R3 := R'.same' s3
        have g3 := src.keep _ _ _ _ R'.AOk (Keep.of s3) g'
        have hacc3 := hacc.same s3 R'.AOk
        refine ⟨_, os, _, d, R3, hd, (Sat.neB S').imp fun r4 S4 os4 σ4 H4 R4 k4 s4 o4 => ⟨wipe_off o4 hk, _, os4, r4, R4, (Sat.neB S4).imp fun b S5 H5 s5 => ?_⟩⟩
        have R5 := R4.same' s5
        have sm5 : Same H H5 := ((sm.trans s3).trans s4).trans s5
        have s35 : Same H3 H5 := s4.trans s5
        have R35 := R3.same' s35
        have hD5 : H5 D = some (.lst vacc) := s35 _ _ (s3 _ _ hDa)
        have hacc5 := hacc3.same s35 R3.AOk
        have g5 := src.keep _ _ _ _ R3.AOk (Keep.of s35) g3
        cases b with
        | false =>
          simp only [Bool.false_eq_true, if_false] at S5 ⊢
          exact ⟨acc, vacc, R35, hD5, hacc5, g5, sm5, Nat.le_succ_of_le hlen, S5⟩
        | true =>
          simp only [if_true] at S5 ⊢
          refine ⟨_, os4, r4, R5, (Sat.neB S5).imp fun dd S6 v H6 s6 h6 => ?_⟩
          have s36 : Same H3 H6 := s35.trans s6
          have R36 := R3.same' s36
          have hD6 : H6 D = some (.lst vacc) := s6 _ _ hD5
          have hacc6 := hacc3.same s36 R3.AOk
          have g6 := src.keep _ _ _ _ R3.AOk (Keep.of s36) g3
          have hdd : Rep X.K H6 (Av (Ad F.A0 D) os) dd v := by
            have kk : Keep (Av (Ad F.A0 D) os4) (Av (Ad F.A0 D) os) H6 H6 := fun b u e nb => ⟨e, fun z => nb (by
              rcases z with z | z
              · exact .inl z
              · obtain ⟨j, hj, ej⟩ := List.getElem_of_mem z
                have ej' : os[j]? = some (some b) := by rw [List.getElem?_eq_getElem hj, ej]
                have nk : j ∉ ks := fun hjk => by
                  obtain ⟨s0, d0, e0, e0', _⟩ := R'.own ej'
                  exact wipeE_un (hk j hjk) s0 d0 e0 e0'
                exact .inr (List.mem_of_getElem? (((o4.2 j nk).2).trans ej')))⟩
            exact Rep.keep kk (R5.same' s6).AOk _ _ h6
          obtain ⟨R7, k7⟩ := R36.updA (p := D) (o := .lst (vacc ++ [v])) (.inr rfl) rfl F0
          refine ⟨vacc, hD6, ?_, acc ++ [dd], vacc ++ [v], R7, upd_same, ?_, src.keep _ _ _ _ R36.AOk k7 g6, ?_, ?_, ?_⟩
          · rw [repL_length hacc6]
            omega
          · exact RepL.keep k7 R36.AOk _ _ (repL_append hacc6 (by unfold RepL; exact ⟨v, [], rfl, hdd, by unfold RepL; rfl⟩))
          · intro b u e
            rw [upd_ne (fun z => by rw [z, hDH] at e; cases e)]
            exact s6 _ _ (sm5 _ _ e)
          · rw [List.length_append, List.length_singleton]
            omega
          · refine (Sat.mono (p := fun ds => ∀ p H', Same H H' → H p = none → RepO X.K H' (Ad (Av F.A0 os) p) (.lst (acc ++ (dd :: ds))) p → Q (.ref p) H') (q := fun _ _ => False) ?_ (fun ds z => ?_) fun _ _ z => z)
            · cases q : lcP g c f (wipeE r (own.map (·.2))) (items.drop (i + 1)) with
              | ok ds => rw [q] at S6; exact S6
              | err x e => rw [q] at S6; exact S6
              | stk => rw [q] at S6; exact S6
            · have e : acc ++ [dd] ++ ds = acc ++ dd :: ds := by simp
              rw [e]
              exact z
      · rintro H' ⟨acc, vacc, R', hDa, hacc, g', sm, hlen, S'⟩
        rw [List.drop_length] at S'
        refine S' D H' sm hDH ⟨vacc, hDa, ?_⟩
        rw [List.append_nil]
        exact RepL.keep av_ad R'.AOk _ _ hacc
    · rw [if_neg hl] at S2
      exact S2.elim
  · rw [if_neg hv] at S
    exact S.elim
section
variable {X : Cx} {W : WX} {elt tg iter : Expr} {ifs : List Expr} {scope : Scope} {own : List (Str × Nat)} {pos : Pos} {ks : List Nat} {h : Env → R (List D)} {g : D → Env → R Env} {c : Env → R Bool} {f : Env → R D}
theorem d_lc (hc : X.calm = true) (hN : X.N.Nodup) (hi : DIp X W tg iter h) (ok : BlkOk X.N X.env.scope scope own)
    (hg : ∀ (s : Shared) (H : Hp) (C : Addr) (cl : List (Str × Addr)) (fp : List Addr), DG (X.blk s H scope (compEnvC scope cl C X.env) fp) WF ks tg g)
    (ht : ∀ (s : Shared) (H : Hp) (C : Addr) (cl : List (Str × Addr)) (fp : List Addr), DC (X.blk s H scope (compEnvC scope cl C X.env) fp) WF ifs c)
    (he : ∀ (s : Shared) (H : Hp) (C : Addr) (cl : List (Str × Addr)) (fp : List Addr), DP (X.blk s H scope (compEnvC scope cl C X.env) fp) WF elt f)
    (hk : ∀ k ∈ ks, k ∈ own.map (·.2) := by decide) (hs : ∀ x, foldedSetIterable iter X.env x = pure x := by intro _; rfl) : DF X W (.ListComp elt [⟨tg, iter, ifs, 0⟩] scope pos) (lcD own h g c f) :=
  ⟨_, pe_lc hc hN hi.can ok (fun s H C cl fp => (hg s H C cl fp).can) (fun s H C cl fp => (ht s H C cl fp).can) (fun s H C cl fp => (he s H C cl fp).can) hs, fun F os r σ H Q R S => lc_snd hk F os r σ H Q R S⟩
variable {y : Str} {py spos : Pos}
end
end DL

end
section
namespace DL
open PySem L2

/-! ### a def by its body -/
def ini (n : Nat) (ds : List D) : Env := ds.map Slot.sh ++ List.replicate (n - ds.length) .un
/-- what a body's end is worth -/
@[simp] def Fl.val : Fl → R D
  | .rt d _ => .ok d
  | .nx _ => .ok .non
  | _ => .stk
/-- the def as a function of data: N slots, n parameters -/
def fnD (N n : Nat) (f : Env → R Fl) : List D → R D := fun ds => if ds.length = n then (f (ini N ds)).bind Fl.val else .stk
section
variable {P : Program} {w : World} {K : PySem.W.Frag} {mg : Str → Option Value} {base : Heap} {x qual : Str} {params : Arguments} {body : List Stmt} {scope : Scope} {f : Addr} {fd : FuncData}
theorem rel_start {N : List Str} {A : Addr → Prop} {ds : List D} {vs : List V} {H : Hp} (ak : AOk A H) (h : RepL K H A ds vs) (hn : ds.length ≤ N.length) :
    Rel K ⟨A, H, fun _ => False⟩ (List.replicate N.length none) (ini N.length ds) (L2.start N vs) H := by
  have hl := repL_length h
  have nos : ∀ (i : Nat) (a : Addr), (List.replicate N.length (none : Option Addr))[i]? ≠ some (some a) := fun i a e => by
    rw [List.getElem?_replicate] at e
    split at e
    · cases e
    · cases e
  refine ⟨?_, ?_, fun i s v o e1 e2 e3 => ?_, fun i j a e => absurd e (nos i a), fun i a e => absurd e (nos i a), ak, fun b o e _ => e, fun i a e => absurd e (nos i a)⟩
  · simp [L2.start, ini, hl]
  · simp only [List.length_replicate, ini, List.length_append, List.length_map]
    omega
  · have eo : o = none := by
      rw [List.getElem?_replicate] at e3
      split at e3
      · cases e3; rfl
      · cases e3
    subst eo
    unfold ini at e1
    by_cases hi : i < ds.length
    · rw [List.getElem?_append_left (by simpa using hi), List.getElem?_map] at e1
      rw [List.getElem?_eq_getElem hi] at e1
      cases e1
      obtain ⟨u, h1, h2⟩ := repL_get h (List.getElem?_eq_getElem hi)
      unfold L2.start at e2
      have hi2 : i < vs.length := by omega
      rw [List.getElem?_append_left (by simpa using hi2), List.getElem?_map, h1] at e2
      cases e2
      refine ⟨rfl, u, rfl, Rep.keep (fun b o e nb => ⟨e, fun z => nb ?_⟩) ak _ _ h2⟩
      rcases z with z | z
      · exact z
      · exact absurd z (by simp [List.mem_replicate])
    · rw [List.getElem?_append_right (by simpa using hi)] at e1
      rw [List.getElem?_replicate] at e1
      split at e1
      · cases e1; rfl
      · cases e1
/-- THE RULE for a def of data -/
theorem fn_ok {N ps : List Str} {k : Nat} {dvs : List V} {kws : List (Str × V)} {b : Env → R Fl} (F : FunD K x qual params body scope dvs kws f fd) (S : FnScope N ps scope) (hp : ps.length ≤ N.length)
    (hb : ∀ (cdv : Value) (A : Around) (outer : List PySem.Env) (s : Shared) (H : Hp) (E : XK), Room k (A.deeper (PyProof.Rows.envOfC qual scope s.heap.objs.size f cdv)) →
      DSs (cxOf (L2.CX P w) P w K mg base N qual scope f cdv A outer s H E) (fun cls d _ H' => E cls d H') body b) :
    FnOk P w K mg base (L2.CX P w) (k + 1) f fd ps (SpF K mg ps.length (fnD N.length ps.length b)) := by
  refine F.ok S (fun vs H Q E h => h.1) fun cdv A outer s H vs Q E hr h => ?_
  obtain ⟨hl, A0, ds, ak, rp, S1⟩ := h
  obtain ⟨t, pt, wt⟩ := hb cdv A outer s H E hr
  refine ⟨t, pt, ?_⟩
  have hd : ds.length = ps.length := by rw [← repL_length rp]; exact hl
  have S2 : Sat (fun d => ∀ v H', Same H H' → Rep K H' A0 d v → Q v H') (fun x _ => ∀ cls dd H', Same H H' → XRep K mg H' x cls dd → E cls dd H') ((b (ini N.length ds)).bind Fl.val) := by
    unfold fnD at S1
    rw [if_pos hd] at S1
    exact S1
  have R0 : Rel K ⟨A0, H, fun _ => False⟩ (List.replicate N.length none) (ini N.length ds) (L2.start N vs) H := rel_start ak rp (by omega)
  refine wt ⟨A0, H, fun _ => False⟩ _ _ _ H _ R0 (S2.bind.mono (fun fl S3 => ?_) fun x r S3 => ?_)
  · have sm : ∀ {os' r' σ' H'}, Rel K ⟨A0, H, fun _ => False⟩ os' r' σ' H' → Same H H' := fun R b o e => R.same b o e fun z => z
    cases fl with
    | nx r => exact fun os' σ' H' R' k' => S3 .non H' (sm R') rep_non
    | rt d r => exact fun os' v σ' H' R' h' => S3 v H' (sm R') (Rep.keep (fun b o e nb => ⟨e, fun z => nb (.inl z)⟩) R'.AOk _ _ h')
    | bk r => exact S3.elim
    | ct r => exact S3.elim
  · exact fun os σ cls dd H' R' xr => S3 cls dd H' (fun b o e => R'.same b o e fun z => z) xr
/-- the def as a function of data whose first argument is a list that it changes -/
def fnIO (N n : Nat) (f : Env → R Fl) : List D → List D → R (D × List D) := fun row ds => if ds.length = n then (f (.io (.lst row) :: ini (N - 1) ds)).bind fun fl => match fl with
  | .rt d (.io (.lst row') :: _) => .ok (d, row')
  | .nx (.io (.lst row') :: _) => .ok (.non, row')
  | _ => .stk else .stk
theorem fnio_ok {N ps : List Str} {p : Str} {k : Nat} {dvs : List V} {kws : List (Str × V)} {b : Env → R Fl} (F : FunD K x qual params body scope dvs kws f fd) (S : FnScope N (p :: ps) scope) (hp : ps.length + 1 ≤ N.length)
    (hb : ∀ (cdv : Value) (A : Around) (outer : List PySem.Env) (s : Shared) (H : Hp) (E : XK), Room k (A.deeper (PyProof.Rows.envOfC qual scope s.heap.objs.size f cdv)) →
      DSs (cxOf (L2.CX P w) P w K mg base N qual scope f cdv A outer s H E) (fun cls d _ H' => E cls d H') body b) :
    FnOk P w K mg base (L2.CX P w) (k + 1) f fd (p :: ps) (SpIO K ps.length (fnIO N.length ps.length b)) := by
  refine F.ok S (fun vs H Q E h => ?_) fun cdv A outer s H vs Q E hr h => ?_
  · obtain ⟨_, _, _, rest, _, _, rfl, hl, _⟩ := h
    rw [List.length_cons, List.length_cons, hl]
  obtain ⟨A0, a, xs, rest, row, ds, rfl, hl, hx, inA, ak, rrow, rp, S1⟩ := h
  obtain ⟨t, pt, wt⟩ := hb cdv A outer s H E hr
  refine ⟨t, pt, ?_⟩
  have hd : ds.length = ps.length := by rw [← repL_length rp]; exact hl
  have S2 := S1
  unfold fnIO at S2
  rw [if_pos hd] at S2
  let A1 : Addr → Prop := fun c => A0 c ∧ c ≠ a
  have avA : ∀ c, Av A1 (some a :: List.replicate (N.length - 1) none) c ↔ A0 c := fun c => by
    constructor
    · intro z
      rcases z with z | z
      · exact z.1
      · rcases List.mem_cons.mp z with z | z
        · cases z; exact inA
        · simp [List.mem_replicate] at z
    · intro z
      by_cases e : c = a
      · exact .inr (by rw [e]; exact List.mem_cons_self ..)
      · exact .inl ⟨z, e⟩
  have kp : Keep A0 (Av A1 (some a :: List.replicate (N.length - 1) none)) H H := fun c o e n => ⟨e, fun z => n ((avA c).mp z)⟩
  have R0 : Rel K ⟨A1, H, fun c => c = a⟩ (some a :: List.replicate (N.length - 1) none) (.io (.lst row) :: ini (N.length - 1) ds) (L2.start N (.ref a :: rest)) H := by
    have nos : ∀ (i : Nat) (c : Addr), (List.replicate (N.length - 1) (none : Option Addr))[i]? ≠ some (some c) := fun i c e => by
      rw [List.getElem?_replicate] at e
      split at e
      · cases e
      · cases e
    have only : ∀ (i : Nat) (c : Addr), (some a :: List.replicate (N.length - 1) (none : Option Addr))[i]? = some (some c) → i = 0 ∧ c = a := fun i c e => by
      cases i with
      | zero => cases e; exact ⟨rfl, rfl⟩
      | succ i => exact absurd (by simpa using e) (nos i c)
    have hr0 := repL_length rp
    refine ⟨?_, ?_, fun i s v o e1 e2 e3 => ?_, fun i j c e1 e2 => ?_, fun i c e z => ?_, fun c z => ak c z.1, fun c o e n => e, fun i c e => .inr (only i c e).2⟩
    · simp [L2.start, ini, hl, hd]
      omega
    · simp only [List.length_cons, List.length_replicate, ini, List.length_append, List.length_map]
      omega
    · cases i with
      | zero =>
        cases e1
        cases e3
        have e4 : v = some (.ref a) := by
          unfold L2.start at e2
          simpa using e2.symm
        subst e4
        exact ⟨a, rfl, rfl, ⟨xs, hx, RepL.keep kp ak _ _ rrow⟩, rfl⟩
      | succ i =>
        have eo : o = none := by
          have e3' : (List.replicate (N.length - 1) (none : Option Addr))[i]? = some o := by simpa using e3
          rw [List.getElem?_replicate] at e3'
          split at e3'
          · cases e3'; rfl
          · cases e3'
        subst eo
        have e1' : (ini (N.length - 1) ds)[i]? = some s := by simpa using e1
        unfold ini at e1'
        by_cases hi : i < ds.length
        · rw [List.getElem?_append_left (by simpa using hi), List.getElem?_map, List.getElem?_eq_getElem hi] at e1'
          cases e1'
          obtain ⟨u, h1, h2⟩ := repL_get rp (List.getElem?_eq_getElem hi)
          have e2' : v = some u := by
            unfold L2.start at e2
            have hi2 : i < rest.length := by omega
            rw [List.map_cons, List.cons_append, List.getElem?_cons_succ, List.getElem?_append_left (by simpa using hi2), List.getElem?_map, h1] at e2
            cases e2
            rfl
          subst e2'
          exact ⟨rfl, u, rfl, Rep.keep kp ak _ _ h2⟩
        · rw [List.getElem?_append_right (by simpa using hi), List.getElem?_replicate] at e1'
          split at e1'
          · cases e1'; rfl
          · cases e1'
    · rw [(only i c e1).1, (only j c e2).1]
    · exact z.2 (only i c e).2
  refine wt ⟨A1, H, fun c => c = a⟩ _ _ _ H _ R0 (S2.bind.mono (fun fl S3 => ?_) fun x r S3 => S3.elim)
  have fin : ∀ {os' r' σ' H' row'} {d : D} {v : V}, Rel K ⟨A1, H, fun c => c = a⟩ os' (.io (.lst row') :: r') σ' H' → Rep K H' (Av A1 os') d v → (∀ v H' xs', But a H H' → H' a = some (.lst xs') → RepL K H' A0 row' xs' → Rep K H' A0 d v → Q v H') → Q v H' := by
    intro os' r' σ' H' row' d v R' h' q
    obtain ⟨v0, o0, e1, e2, a', z1, z2, ⟨xs', hx', hr'⟩, z3⟩ := R'.get (i := 0) (s := .io (.lst row')) rfl
    have z4 : a' = a := z3
    subst z4
    subst z1
    have kk : Keep (Av A1 os') A0 H' H' := fun b o e nb => ⟨e, fun z => nb (by
      by_cases eb : b = a'
      · rw [eb]
        exact .inr (List.mem_of_getElem? e2)
      · exact .inl ⟨z, eb⟩)⟩
    exact q v H' xs' (fun b o e nb => R'.same b o e nb) hx' (RepL.keep kk R'.AOk _ _ hr') (Rep.keep kk R'.AOk _ _ h')
  cases fl with
  | nx r =>
    match r, S3 with
    | .io (.lst row') :: r', S3 => exact fun os' σ' H' R' k' => fin (d := .non) R' rep_non S3
  | rt d r =>
    match r, S3 with
    | .io (.lst row') :: r', S3 => exact fun os' v σ' H' R' h' => fin R' h' S3
  | bk r => exact S3.elim
  | ct r => exact S3.elim
end
end DL

end
section
namespace DL
open PySem L2

/-! ### things that are drawn from: lists, tuples, texts -/
inductive Zs where
  | l (a : Addr) | t (a : Addr) | s (x : Str)
def Zs.val : Zs → V
  | .l a => .ref a
  | .t a => .ref a
  | .s x => .str x
def Zs.fp : Zs → List Addr
  | .l a => [a]
  | .t a => [a]
  | .s _ => []
def sgV (z : Str) : List V := z.cps.toList.map fun c => V.str ⟨#[c]⟩
def Zs.has (K : PySem.W.Frag) (H : Hp) : Zs → List V → Prop
  | .l a, xs => SqL K H a xs
  | .t a, xs => SqT K H a xs
  | .s x, xs => xs = sgV x
def Zs.st (it : Addr) (i : Nat) (h : Heap) : Zs → Prop
  | .l a => h.IsListIter it a i
  | .t a => h.IsTupleIter it a i
  | .s x => ∃ t, h.IsStrIter it (strIterType x) x t i
theorem Zs.obj {it : Addr} {i : Nat} {h : Heap} : ∀ {z : Zs}, z.st it i h → ∃ o, h.get? it = some o ∧ ∀ v, o.data ≠ .cell v
  | .l a, st => by
    obtain ⟨o, e, _, d⟩ := st
    exact ⟨o, e, fun v q => by rw [d] at q; cases q⟩
  | .t a, st => by
    obtain ⟨o, e, _, d⟩ := st
    exact ⟨o, e, fun v q => by rw [d] at q; cases q⟩
  | .s x, st => by
    obtain ⟨t, o, e, _, d⟩ := st
    exact ⟨o, e, fun v q => by rw [d] at q; cases q⟩
theorem Zs.kp {it : Addr} {i : Nat} {h h' : Heap} (k : ∀ o, h.get? it = some o → h'.get? it = some o) : ∀ {z : Zs}, z.st it i h → z.st it i h'
  | .l a, st => by
    obtain ⟨o, e, r⟩ := st
    exact ⟨o, k o e, r⟩
  | .t a, st => by
    obtain ⟨o, e, r⟩ := st
    exact ⟨o, k o e, r⟩
  | .s x, st => by
    obtain ⟨t, o, e, r⟩ := st
    exact ⟨t, o, k o e, r⟩
section
variable {X : Cx} {pins : List (Addr × Obj)} {σ : St} {H : Hp} {s : Shared}
theorem vals_at {xs : List V} {us : List Value} {i : Nat} {u : Value} (r : Vals xs us) (h : us[i]? = some u) : ∃ x, xs[i]? = some x ∧ RelV x u := by
  have hi : i < us.length := (List.getElem?_eq_some_iff.mp h).1
  have hx : xs[i]? = some (xs[i]'(by rw [r.length]; exact hi)) := List.getElem?_eq_getElem _
  obtain ⟨u', hu, ru⟩ := r.get hx
  rw [h] at hu
  cases hu
  exact ⟨_, hx, ru⟩
theorem Zs.inj (I : Inv X pins σ H s) : ∀ {z : Zs} {xs ys : List V}, z.has X.K H xs → z.has X.K H ys → xs = ys
  | .l _, _, _, h, h2 => I.list_inj h h2
  | .t _, _, _, h, h2 => I.tuple_inj h h2
  | .s _, _, _, h, h2 => h.trans h2.symm
theorem Zs.low (I : Inv X pins σ H s) : ∀ {z : Zs} {xs : List V}, z.has X.K H xs → ∀ b ∈ z.fp, b < s.heap.objs.size
  | .l a, xs, h, b, hb => by
    obtain ⟨its, _, p, _⟩ := I.list h
    cases List.mem_singleton.mp hb
    exact p.lt
  | .t a, xs, h, b, hb => by
    obtain ⟨its, _, ⟨o, ho, _⟩, _⟩ := I.tuple h
    cases List.mem_singleton.mp hb
    exact Heap.lt_size ho
  | .s _, _, _, b, hb => nomatch hb
theorem Zs.draws (I : Inv X pins σ H s) (hh : X.A.handled = none) {it : Addr} {i : Nat} : ∀ {z : Zs} {xs : List V}, z.has X.K H xs → it ∉ z.fp → z.st it i s.heap →
    ∃ P Q, Draws X.prog X.w X.A.in1 it (it :: z.fp) xs.length P Q ∧ Q i s.heap ∧ (∀ j h, Q j h → z.st it j h) ∧ ∀ j v, P j v → ∃ x, xs[j]? = some x ∧ RelV x v
  | .l a, xs, h, hn, st => by
    obtain ⟨its, r, p, _⟩ := I.list h
    have D := Draws.list (prog := X.prog) (w := X.w) (A := X.A.in1) hh it a (fun e => hn (List.mem_singleton.mpr e.symm)) its.toArray
    have e : its.toArray.size = xs.length := by rw [List.size_toArray, r.length]
    rw [e] at D
    exact ⟨_, _, D, ⟨st, p.isList⟩, fun j h q => q.1, fun j v q => vals_at r (by simpa using q)⟩
  | .t a, xs, h, hn, st => by
    obtain ⟨its, r, ⟨o, ho, p⟩, _⟩ := I.tuple h
    have D := Draws.tuple (prog := X.prog) (w := X.w) (A := X.A.in1) hh it a (fun e => hn (List.mem_singleton.mpr e.symm)) its.toArray
    have e : its.toArray.size = xs.length := by rw [List.size_toArray, r.length]
    rw [e] at D
    exact ⟨_, _, D, ⟨st, ⟨o, ho, p⟩⟩, fun j h q => q.1, fun j v q => vals_at r (by simpa using q)⟩
  | .s x, xs, h, hn, st => by
    obtain ⟨t, st⟩ := st
    cases h
    have D := Draws.text (prog := X.prog) (w := X.w) (A := X.A.in1) hh it x t
    have e : x.cps.size = (sgV x).length := by simp [sgV]
    rw [e] at D
    refine ⟨_, _, D, st, fun j h q => ⟨t, q⟩, fun j v q => ?_⟩
    obtain ⟨c, u, e1, e2⟩ := q
    subst e2
    refine ⟨.str ⟨#[c]⟩, ?_, u, rfl⟩
    unfold sgV
    rw [List.getElem?_map, Array.getElem?_toList, e1]
    rfl
end

/-! ### what gives a new tuple at each turn -/
def ItR (has : Hp → List (List V) → Prop) : It :=
  ⟨fun i H => ∃ rows, has H rows ∧ i < rows.length, fun i H v H' => ∃ T row, v = .ref T ∧ H T = none ∧ H' = upd H T (.tup row) ∧ ∀ rows, has H rows → rows[i]? = some row, fun i H => ∃ rows, has H rows ∧ rows.length = i⟩
theorem turn_rows {P : Program} {w : World} {K : PySem.W.Frag} {elts : List Expr} {kk : Nat} {tpos : Pos} {has : Hp → List (List V) → Prop} {fp wr : List Addr} {it : Addr} {tn : Nat → Heap → Prop}
    (hm : it ∈ fp) (hwr : ∀ b ∈ wr, b ∈ fp) (hobj : ∀ i h, tn i h → ∀ b ∈ fp, ∃ o, h.get? b = some o ∧ ∀ v, o.data ≠ .cell v)
    (hkeep : ∀ i h h', tn i h → (∀ b ∈ fp, ∀ o, h.get? b = some o → h'.get? b = some o) → tn i h')
    (hself : ∀ (A : Around) (i : Nat) (s : Shared) (Q : Value → Shared → Prop) (E : Value → Shared → Prop), tn i s.heap → Q (.ref it) s → wpAny (model P w) A (pyIter (.ref it)) Q E s)
    (hW : ∀ (X : Cx), X.prog = P → X.w = w → X.K = K → X.calm = true → ∀ (i : Nat) (pins : List (Addr × Obj)) (s : Shared) (σ : St) (H : Hp), Inv X pins σ H s → tn i s.heap → ∀ rows, has H rows →
      ∃ fpw Pt Q Mid, WalksT X.prog X.w X.A it fpw wr rows.length Pt Q Mid ∧ Q i s.heap ∧ (∀ j h, Q j h → tn j h) ∧ ∀ j vals, Pt j vals → ∃ row, rows[j]? = some row ∧ Vals row vals.toList ∧ row.length ≤ 3)
    (hinj : ∀ (X : Cx), X.K = K → ∀ (pins : List (Addr × Obj)) (s : Shared) (σ : St) (H : Hp), Inv X pins σ H s → ∀ r1 r2, has H r1 → has H r2 → r1 = r2) : Turn P w K (.Tuple elts kk tpos) (ItR has) fp it tn where
  mem := hm
  obj := hobj
  keep := hkeep
  self := fun A i s Q E st h => hself A i s Q E st h
  item := by
    intro X hP hw hK hc i pins s σ H E I hf st hg
    obtain ⟨rows, hr, hlt⟩ := hg
    obtain ⟨fpw, Pt, Q, Mid, W, q0, down, vals⟩ := hW X hP hw hK hc i pins s σ H I st rows hr
    have hi := hinj X hK pins s σ H I
    subst hP hw hK
    refine W.item i s _ E hlt q0 fun T vs h' tk pt lT isT mid k1 => ⟨.ref T, rfl, W.go elts kk tpos i T _ _ E mid fun h2 q1 k2 => ?_⟩
    obtain ⟨row, e1, rv, l3⟩ := vals i vs pt
    obtain ⟨oT, g1, g2, g3⟩ := isT
    have g4 : h2.get? T = some oT := k2 T oT (W.apart i T h' mid) g1
    obtain ⟨nT, g5⟩ := g3
    have ot : ObjOk X.prog X.w (upd H T (.tup row)) h2 T (.tup row) := ⟨Nat.le_trans l3 (by decide), vs.toList, rv, ⟨oT, g4, g2, nT, by simpa using g5⟩⟩
    have I1 : Inv X pins σ (upd H T (.tup row)) { s with heap := h2, toks := tk } := I.turnedNew (ch := wr) (fun b o hb e => k2 b o hb (k1 b o hb e)) (fun b hb => hf b (hwr b hb)) lT ot
    refine ⟨.ref T, _, I1, rfl, ⟨T, row, rfl, I.hok.fresh lT, rfl, fun rows' h3 => ?_⟩, down _ _ q1, fun b hb => ?_⟩
    · rw [hi _ _ h3 hr]
      exact e1
    · obtain ⟨ob, hob, _⟩ := hobj i _ st b hb
      rw [upd_ne (Nat.ne_of_lt (Nat.lt_of_lt_of_le (Heap.lt_size hob) lT))]
      exact (hf b hb).1
  done := by
    intro X hP hw hK hc i pins s σ H E I hf st hg
    obtain ⟨rows, hr, hl⟩ := hg
    obtain ⟨fpw, Pt, Q, Mid, W, q0, down, vals⟩ := hW X hP hw hK hc i pins s σ H I st rows hr
    subst hP hw hK
    subst hl
    exact W.done s _ E q0 fun h' tk k => ⟨rfl, I.turnedL k fun b hb => hf b (hwr b hb)⟩

/-! ### zip of two -/
def has2 (K : PySem.W.Frag) (z1 z2 : Zs) (H : Hp) (rows : List (List V)) : Prop := ∃ xs ys, z1.has K H xs ∧ z2.has K H ys ∧ rows = List.zipWith (fun x y => [x, y]) xs ys
def tnZ2 (N : Addr) (z1 z2 : Zs) (i : Nat) (h : Heap) : Prop := IsZip h (N + 4) (N + 2) (N + 3) .none ∧ IsTupOf2 h (N + 2) (.ref N) (.ref (N + 1)) ∧ (∃ a b, IsTupOf2 h (N + 3) a b) ∧ z1.st N i h ∧ z2.st (N + 1) i h
def iZ2 (K : PySem.W.Frag) (ta : TA) : TI := fun σ H R => ta σ H fun vs H1 => ∃ z1 z2 xs ys, vs = [Zs.val z1, Zs.val z2] ∧ z1.has K H1 xs ∧ z2.has K H1 ys ∧ R (ItR (has2 K z1 z2)) H1
end DL

end
section
namespace DL
open PySem L2

/-! ### zip of three -/
def has3 (K : PySem.W.Frag) (z1 z2 z3 : Zs) (H : Hp) (rows : List (List V)) : Prop := ∃ xs ys us, z1.has K H xs ∧ z2.has K H ys ∧ z3.has K H us ∧ rows = List.zipWith (fun x r => x :: r) xs (List.zipWith (fun y u => [y, u]) ys us)
def tnZ3 (N : Addr) (z1 z2 z3 : Zs) (i : Nat) (h : Heap) : Prop := IsZip h (N + 5) (N + 3) (N + 4) .none ∧ IsTupOf3 h (N + 3) (.ref N) (.ref (N + 1)) (.ref (N + 2)) ∧ (∃ a b c, IsTupOf3 h (N + 4) a b c) ∧ z1.st N i h ∧ z2.st (N + 1) i h ∧ z3.st (N + 2) i h
def iZ3 (K : PySem.W.Frag) (ta : TA) : TI := fun σ H R => ta σ H fun vs H1 => ∃ z1 z2 z3 xs ys us, vs = [Zs.val z1, Zs.val z2, Zs.val z3] ∧ z1.has K H1 xs ∧ z2.has K H1 ys ∧ z3.has K H1 us ∧ R (ItR (has3 K z1 z2 z3)) H1
/-! ### enumerate -/
def enV (xs : List V) : List (List V) := xs.zipIdx.map fun p => [V.int (p.2 : Nat), p.1]
def hasE (K : PySem.W.Frag) (z : Zs) (H : Hp) (rows : List (List V)) : Prop := ∃ xs, z.has K H xs ∧ rows = enV xs
def tnE (N : Addr) (z : Zs) (i : Nat) (h : Heap) : Prop := (∃ old, IsEnum h (N + 1) N (0 + (i : Int)) old) ∧ z.st N i h
theorem ne1 {N : Addr} : N + 1 ≠ N := Nat.succ_ne_self _
theorem turn_en {P : Program} {w : World} {K : PySem.W.Frag} {elts : List Expr} {kk : Nat} {tpos : Pos} {N : Addr} {z : Zs} (l1 : ∀ b ∈ z.fp, b < N) :
    Turn P w K (.Tuple elts kk tpos) (ItR (hasE K z)) [N, N + 1] (N + 1) (tnE N z) := by
  refine turn_rows (wr := [N + 1, N]) (by simp) (fun b hb => ?_) (fun i h st b hb => ?_) (fun i h h' st k => ?_) (fun A i s Q E st h => ?_) (fun X hP hw hK hc i pins s σ H I st rows hr => ?_) (fun X hK pins s σ H I r1 r2 h1 h2 => ?_)
  · have : b = N + 1 ∨ b = N := by simpa using hb
    rcases this with q | q <;> simp [q]
  · obtain ⟨⟨old, q1⟩, q2⟩ := st
    have : b = N ∨ b = N + 1 := by simpa using hb
    rcases this with e | e <;> subst e
    · exact Zs.obj q2
    · exact ⟨_, q1, fun v z => nomatch z⟩
  · obtain ⟨⟨old, q1⟩, q2⟩ := st
    exact ⟨⟨old, k _ (by simp) _ q1⟩, Zs.kp (k _ (by simp)) q2⟩
  · obtain ⟨⟨old, q1⟩, q2⟩ := st
    exact wpAny_pyIter_enum q1 h
  · subst hP hw hK
    obtain ⟨xs, h1, e⟩ := hr
    obtain ⟨q1, q2⟩ := st
    have hh := I.ok.hd hc
    obtain ⟨P1, Q1, D1, s1, t1, v1⟩ := Zs.draws I hh h1 (fun z => Nat.lt_irrefl N (l1 _ z)) q2
    have hni : N + 1 ∉ N :: z.fp := fun m => by
      rcases List.mem_cons.mp m with q | q
      · exact ne1 q
      · exact absurd (l1 _ q) (Nat.not_lt.mpr (Nat.le_add_right _ _))
    have W := WalksT.enumFrom (A := X.A) 0 D1 (N + 1) ne1 hni (List.mem_cons_self ..)
    have el : rows.length = xs.length := by rw [e]; simp [enV]
    rw [← el] at W
    refine ⟨_, _, _, _, W, ⟨q1, s1⟩, fun j h ⟨a1, a2⟩ => ⟨a1, t1 _ _ a2⟩, ?_⟩
    rintro j vals ⟨t, x1, p1, ev⟩
    subst ev
    obtain ⟨y1, g1, r1⟩ := v1 j x1 p1
    refine ⟨[.int (j : Nat), y1], ?_, .cons ⟨t, by simp⟩ (.cons r1 .nil), by simp⟩
    rw [e]
    unfold enV
    rw [List.getElem?_map, List.getElem?_zipIdx, g1]
    simp
  · subst hK
    obtain ⟨xs, a1, a2⟩ := h1
    obtain ⟨xs', b1, b2⟩ := h2
    rw [a2, b2, Zs.inj I a1 b1]
def Zs.nt : Zs → Prop
  | .t _ => False
  | _ => True
def iEn (K : PySem.W.Frag) (ta : TA) : TI := fun σ H R => ta σ H fun vs H1 => ∃ z xs, vs = [Zs.val z] ∧ z.has K H1 xs ∧ z.nt ∧ R (ItR (hasE K z)) H1
theorem pi_en {X : Cx} {e : Expr} {ta : TA} {p pos tpos : Pos} {elts : List Expr} {kk : Nat} (hg : Gl X "enumerate") (hm : X.mg "enumerate" = none) (ha : PA X [e] ta) (hs : starEach [e] X.env = [(false, eval e X.env)] := by rfl) :
    PI X (.Tuple elts kk tpos) (.Call (.Name "enumerate" p) [e] [] pos) (iEn X.K ta) := by
  refine ⟨fun pins s σ H R I h => ?_⟩
  refine PyProof.Rows.Call_ (ld_blt I hg hm PyProof.Rows.boot_enumerate (PyProof.Rows.callWith_type1 (thn (ha.run pos pins s σ H _ I h) fun us s1 q0 => ?_) hs rfl))
  obtain ⟨vs, H1, I1, r1, z, xs, ev, h1, nt, q⟩ := q0
  subst ev
  cases r1 with
  | cons r rr =>
    cases rr
    have go : ∀ {h' : Heap}, IsEnum h' (s1.heap.objs.size + 1) s1.heap.objs.size 0 .none → z.st s1.heap.objs.size 0 h' → (∀ b o, s1.heap.get? b = some o → h'.get? b = some o) →
        wpAny (model X.prog X.w) X.A (pyIter (.ref (s1.heap.objs.size + 1))) (PIE X pins σ (.Tuple elts kk tpos) R) X.xe { s1 with heap := h' } := fun {h'} he st k => by
      refine wpAny_pyIter_enum he ?_
      have I2 : Inv X pins σ H1 { s1 with heap := h' } := I1.kept (t' := s1.toks) k
      refine ⟨s1.heap.objs.size + 1, _, _, _, H1, rfl, I2, turn_en (Zs.low I1 h1), ⟨⟨.none, by simpa using he⟩, st⟩, fun c hc => ?_, q⟩
      have hle : s1.heap.objs.size ≤ c := by
        have : c = s1.heap.objs.size ∨ c = s1.heap.objs.size + 1 := by simpa using hc
        rcases this with z | z <;> rw [z] <;> first | exact Nat.le_refl _ | exact Nat.le_add_right _ _
      exact I1.fpOk hle (I1.hok.fresh hle)
    cases z with
    | t a => exact nt.elim
    | l a =>
      obtain ⟨its, _, p1, _⟩ := I1.list h1
      cases r
      exact call_enumerate_list p1.isList fun h' he hit hsz k => go he hit k
    | s x =>
      obtain ⟨t, e⟩ := r
      subst e
      exact call_enumerate_str fun h' he hit hsz k => go he ⟨t, hit⟩ k

/-! ### by data -/
def zD : D → Option (List D)
  | .lst ds => some ds
  | .tup ds => some ds
  | .str z => some (sgs z)
  | _ => none
def zOf : D → V → Zs
  | .lst _, .ref a => .l a
  | .tup _, .ref a => .t a
  | .str x, _ => .s x
  | _, _ => .s ⟨#[]⟩
theorem sgs_rep {K : PySem.W.Frag} {H : Hp} {A : Addr → Prop} : ∀ cs : List Nat, RepL K H A (cs.map fun c => D.str ⟨#[c]⟩) (cs.map fun c => V.str ⟨#[c]⟩)
  | [] => by unfold RepL; rfl
  | c :: cs => by
    rw [List.map_cons, List.map_cons]
    unfold RepL
    exact ⟨_, _, rfl, by unfold Rep; rfl, sgs_rep cs⟩
theorem rep_zs {K : PySem.W.Frag} {H : Hp} {A : Addr → Prop} {d : D} {ds : List D} {v : V} (e : zD d = some ds) (h : Rep K H A d v) : v = (zOf d v).val ∧ ∃ xs, (zOf d v).has K H xs ∧ RepL K H A ds xs := by
  cases d with
  | lst ds' =>
    cases e
    obtain ⟨a, xs, e1, h1, h2⟩ := RepB.lst (.inl h)
    subst e1
    exact ⟨rfl, xs, h1, h2⟩
  | tup ds' =>
    cases e
    obtain ⟨a, xs, e1, h1, h2⟩ := RepB.tup (.inl h)
    subst e1
    exact ⟨rfl, xs, h1, h2⟩
  | str x =>
    cases e
    obtain rfl := RepB.str (.inl h)
    exact ⟨rfl, _, rfl, sgs_rep _⟩
  | _ => cases e
theorem src_rows {K : PySem.W.Frag} {has : Hp → List (List V) → Prop} {items : List D} {G : (Addr → Prop) → Hp → Prop} (hk : ∀ (A A' : Addr → Prop) (H H' : Hp), AOk A H → Keep A A' H H' → G A H → G A' H')
    (hr : ∀ (A : Addr → Prop) (H : Hp), AOk A H → G A H → ∃ rows, has H rows ∧ rows.length = items.length ∧ ∀ (i : Nat) row, rows[i]? = some row → ∃ ds, items[i]? = some (.tup ds) ∧ RepL K H A ds row) : Src K (ItR has) items G := by
  refine ⟨hk, fun A i H ak hi g => ?_, fun A H ak g => ?_, fun A i H x H' ak hi g y => ?_⟩
  · obtain ⟨rows, h1, h2, _⟩ := hr A H ak g
    exact ⟨rows, h1, by rw [h2]; exact hi⟩
  · obtain ⟨rows, h1, h2, _⟩ := hr A H ak g
    exact ⟨rows, h1, h2⟩
  · obtain ⟨rows, h1, h2, h3⟩ := hr A H ak g
    obtain ⟨T, row, e1, n, e2, f⟩ := y
    obtain ⟨ds, e3, h4⟩ := h3 i row (f rows h1)
    subst e1 e2
    exact ⟨same_upd n, _, e3, rep_newtup ak h4 n⟩
theorem repL_getR {K : PySem.W.Frag} {H : Hp} {A : Addr → Prop} {ds : List D} {vs : List V} {i : Nat} {v : V} (h : RepL K H A ds vs) (e : vs[i]? = some v) : ∃ d, ds[i]? = some d ∧ Rep K H A d v := by
  have hi : i < ds.length := by rw [← repL_length h]; exact (List.getElem?_eq_some_iff.mp e).1
  obtain ⟨v', e', r⟩ := repL_get h (List.getElem?_eq_getElem hi)
  rw [e] at e'
  cases e'
  exact ⟨_, List.getElem?_eq_getElem hi, r⟩
theorem repL2 {K : PySem.W.Frag} {H : Hp} {A : Addr → Prop} {d e : D} {v u : V} (h : Rep K H A d v) (h2 : Rep K H A e u) : RepL K H A [d, e] [v, u] := by
  unfold RepL
  refine ⟨v, [u], rfl, h, ?_⟩
  unfold RepL
  refine ⟨u, [], rfl, h2, ?_⟩
  unfold RepL
  rfl
def zip2D : List D → Option (List D)
  | [d, e] => (zD d).bind fun xs => (zD e).bind fun ys => some (List.zipWith (fun x y => D.tup [x, y]) xs ys)
  | _ => none
def zip3D : List D → Option (List D)
  | [d, e, f] => (zD d).bind fun xs => (zD e).bind fun ys => (zD f).bind fun us => some (List.zipWith (fun x (r : D × D) => D.tup [x, r.1, r.2]) xs (List.zipWith (fun y u => (y, u)) ys us))
  | _ => none
def enD : List D → Option (List D)
  | [.lst xs] => some (xs.zipIdx.map fun p => D.tup [.int (p.2 : Nat), p.1])
  | [.str z] => some ((sgs z).zipIdx.map fun p => D.tup [.int (p.2 : Nat), p.1])
  | _ => none
section
variable {X : Cx} {W : WX} {a b c : Expr} {elts : List Expr} {kk : Nat} {p pos tpos : Pos} {g : Env → R (List D)}
end
end DL

end
section
set_option maxHeartbeats 2000000
namespace DL
open PySem PyProof.Rows

/-! ### reversed(text) -/
theorem str_norev : typeLookup (.type "str") "__reversed__" = pure none := by
  rw [typeLookup_type, builtinLookup_eq_fast] <;> kernel_rfl
theorem str_getit : typeLookup (.type "str") "__getitem__" = pure (some (.builtin "str.__getitem__")) := by
  rw [typeLookup_type, builtinLookup_eq_fast] <;> kernel_rfl
theorem str_nodict : isSubtype (.type "str") (.type "dict") = pure false := by
  rw [isSubtype_type] <;> kernel_rfl
def rvO (x : Str) (t : Tok) (i : Int) : Obj := { cls := .type "reversed", data := .fields #[.str x t, rawInt i] }
def IsRv (h : Heap) (a : Addr) (x : Str) (t : Tok) (i : Int) : Prop := ∃ o, h.get? a = some o ∧ o.cls = .type "reversed" ∧ o.data = .fields #[.str x t, rawInt i]
section
variable {prog : Program} {w : World} {A : Around} {E : Value → Shared → Prop} {s : Shared} {x : Str} {t : Tok}
theorem IsRv.ty {a : Addr} {i : Int} (q : IsRv s.heap a x t i) : s.TypeIs (.ref a) "reversed" := let ⟨o, ho, hc, _⟩ := q; ⟨o, ho, hc⟩
theorem rv_code {Q : Value → Shared → Prop} (hfit : ¬ (x.length : Int) ≥ 2 ^ 63) (h : Q (.ref s.heap.objs.size) { s with heap := s.heap.push (rvO x t ((x.length : Int) - 1)), toks := s.toks + 1 + 1 }) :
    codeAny (model prog w) A (.call (.builtin "reversed.__new__") ⟨[.type "reversed", .str x t], []⟩) (wants Q E) s := by
  have hT := typeIs_str s x t
  refine codeAny_of_tree ?_
  show wpAny _ A.in1 (do checkBuiltinCall "reversed.__new__" ⟨[.type "reversed", .str x t], []⟩; again (.builtin "reversed.__new__" ⟨[.type "reversed", .str x t], []⟩)) _ _ s
  refine wpAny_bind (wpAny_of_eq (F.newCall_reversed_1 _) (wpAny_pure ⟨plainId_quiet F.plain_reversed_new _, codeAny_builtin F.entry_reversed_new ?_⟩)); rw [Around.under_plainId F.plain_reversed_new _]
  unfold Builtin.«reversed.__new__»
  refine wpAny_bind (wpAny_of_eq (newClass_reversed _) ?_); try dsimp only
  refine wpAny_bind (wpAny_of_eq (a := ()) (by first | rfl | kernel_rfl) ?_); try dsimp only
  refine wpAny_bind (wpAny_of_eq (a := ()) (by first | rfl | kernel_rfl) ?_); try dsimp only
  refine wpAny_bind (wpAny_specialOf hT str_norev ?_); try dsimp only
  refine wpAny_bind ?_; wp_delta
  refine wpAny_bind (wpAny_isInstance (T := "str") (U := "dict") (b := false) hT str_nodict ?_); try dsimp only
  try rw [if_neg Bool.false_ne_true]
  try dsimp only
  refine wpAny_bind (wpAny_specialOf hT str_getit ?_); try dsimp only
  try rw [if_pos (by decide +kernel)]
  refine wpAny_pure ?_; try dsimp only
  try rw [if_neg (by decide)]
  try dsimp only
  refine wpAny_bind (len_str hfit ?_)
  refine wpAny_bind (wpAny_of_eq (a := some ((x.length : Nat) : Int)) rfl ?_); try dsimp only
  refine wpAny_bind ?_
  show wpAny _ _ (newObj (.type "reversed") (.fields #[.str x t, rawInt ((x.length : Int) - 1)])) _ _ _
  exact wpAny_newObj_type (wpAny_pure h)
theorem call_rv {Q : Value → Shared → Prop} (hfit : ¬ (x.length : Int) ≥ 2 ^ 63) (h : Q (.ref s.heap.objs.size) { s with heap := s.heap.push (rvO x t ((x.length : Int) - 1)), toks := s.toks + 1 + 1 }) :
    wpAny (model prog w) A (call (.type "reversed") [.str x t]) Q E s := by
  refine callType_codes (Q₁ := fun ob s' => s'.TypeIs ob "reversed" ∧ Q ob s') RT.called_rt (F.typeCall_reversed_1 _) F.entry_object_init (rv_code (A := A.in1) hfit ⟨⟨_, Heap.get?_push_size _ rfl, rfl⟩, h⟩) fun ob s' h' => ?_
  exact ⟨h'.1, F.args_object_init_2 ob _, object_init_meets RT.called_rt.init.lookup RT.called_rt.made (by decide) prog w A.in1 _ s' ⟨h'.1, rfl, h'.2⟩⟩
theorem rv_item {it : Addr} {i c : Nat} {Q : Option Value → Shared → Prop} (hit : IsRv s.heap it x t (i : Int)) (hx : x.cps[i]? = some c) (hsz : x.length ≤ sizeLine)
    (hQ : ∀ h', IsRv h' it x t ((i : Int) - 1) → Heap.SameBut it s.heap h' → Q (some (.str ⟨#[c]⟩ (s.toks + 1))) { s with heap := h', toks := s.toks + 1 + 1 }) : wpAny (model prog w) A (pyNext (.ref it)) Q E s := by
  obtain ⟨o, ho, hc, hd⟩ := id hit
  have hi : i < x.cps.size := (Array.getElem?_eq_some_iff.mp hx).1
  have hT := typeIs_str s x t
  rw [sizeLine_eq] at hsz
  unfold pyNext
  refine wpAny_bind (wpAny_attempt (wpAny_callSpecial?_slot (name := Str.ofString "__next__") hit.ty RT.slot_rt_next (wpAny_call_entry RT.slot_rt_next hit.ty RT.entry_rt_next ?_ (RT.args_rt_next _))))
  unfold Builtin.«reversed.__next__»
  refine wpAny_bind (wpAny_of_eq (a := (Value.ref it, [])) rfl ?_); try dsimp only
  refine wpAny_bind (wpAny_field ho hd (x := .str x t) rfl ?_); try dsimp only
  refine wpAny_bind (wpAny_field ho hd (x := rawInt (i : Int)) rfl ?_)
  show wpAny _ _ (if (i : Int) < 0 then _ else _) _ _ s
  rw [if_neg (by omega)]
  try dsimp only
  refine wpAny_bind (wpAny_specialOf hT str_getit ?_); try dsimp only
  try rw [if_neg (by decide)]
  try dsimp only
  refine wpAny_bind (wpAny_mkInt (wpAny_bind (wpAny_attempt ?_)))
  have hi' : i < x.length := hi
  have h1 : ¬ ((i : Int) < -(2 ^ 63)) := by omega
  have h2 : ¬ ((i : Int) ≥ 2 ^ 63) := by omega
  have fin : (seqIndex? (i : Int) x.length).bind (x.cps[·]?) = some c := by
    rw [seqIndex_of (k := (i : Int)) (n := x.length) (by omega) (by omega)]
    exact hx
  refine getItem_str (s := { s with toks := s.toks + 1 }) (by rw [decide_eq_false h1, decide_eq_false h2] <;> rfl) fin ?_
  try dsimp only
  refine wpAny_bind (wpAny_field (s := { s with toks := s.toks + 1 + 1 }) ho hd (x := rawInt (i : Int)) rfl ?_); try dsimp only
  refine wpAny_bind (wpAny_setField (s := { s with toks := s.toks + 1 + 1 }) ho hd (by simp) ?_)
  first
  | refine wpAny_pure ⟨_, rfl, wpAny_pure (hQ _ ?_ (Heap.SameBut.update ..))⟩
  | refine wpAny_bind (wpAny_pure (wpAny_pure ⟨_, rfl, wpAny_pure (hQ _ ?_ (Heap.SameBut.update ..))⟩))
  exact ⟨_, Heap.get?_update_self _ ho (Obj.isFreed_of_fields (Obj.data_mapFields hd _)), (Obj.cls_mapFields ..).trans hc, by rw [Obj.data_mapFields hd] <;> simp⟩
theorem rv_end {it : Addr} {Q : Option Value → Shared → Prop} (hh : A.handled = none) (hit : IsRv s.heap it x t (-1)) (hQ : ∀ h', Heap.ExtBut it s.heap h' → Q none { s with heap := h' }) : wpAny (model prog w) A (pyNext (.ref it)) Q E s := by
  obtain ⟨o, ho, hc, hd⟩ := id hit
  unfold pyNext
  refine wpAny_bind (wpAny_attempt (wpAny_callSpecial?_slot (name := Str.ofString "__next__") hit.ty RT.slot_rt_next (wpAny_call_entry RT.slot_rt_next hit.ty RT.entry_rt_next ?_ (RT.args_rt_next _))))
  unfold Builtin.«reversed.__next__»
  refine wpAny_bind (wpAny_of_eq (a := (Value.ref it, [])) rfl ?_); try dsimp only
  refine wpAny_bind (wpAny_field ho hd (x := .str x t) rfl ?_); try dsimp only
  refine wpAny_bind (wpAny_field ho hd (x := rawInt (-1)) rfl ?_)
  show wpAny _ _ (if (-1 : Int) < 0 then _ else _) _ _ s
  rw [if_pos (by decide)]
  try dsimp only
  refine wpAny_bind (wpAny_rule (wpAny_bind ?_)); wp_delta
  have d2 := Obj.data_mapFields hd fun vs => vs.setIfInBounds 1 (rawInt (-1))
  have ho2 := Heap.get?_update_self (Obj.mapFields (·.setIfInBounds 1 (rawInt (-1)))) ho (Obj.isFreed_of_fields (Obj.data_mapFields hd _))
  refine wpAny_bind (wpAny_setField ho hd (by simp) (wpAny_setField (s := { s with heap := s.heap.update it (Obj.mapFields (·.setIfInBounds 1 (rawInt (-1)))) }) ho2 (Obj.data_mapFields hd _) (by simp) ?_)); try dsimp only
  have fin : ∀ {k : Nat}, True := fun {_} => trivial
  first
  | (refine wpAny_bind (wpAny_letGo ?_); show wpAny _ _ (newExc (.type "StopIteration") [] >>= _) _ _ _)
  | show wpAny _ _ (newExc (.type "StopIteration") [] >>= _) _ _ _
  | (refine wpAny_bind ?_; show wpAny _ _ (newExc (.type "StopIteration") [] >>= _) _ _ _)
  | (refine wpAny_bind ?_; wp_delta; show wpAny _ _ (newExc (.type "StopIteration") [] >>= _) _ _ _)
  refine wpAny_bind ?_; simp only [newExc, newTuple]
  refine wpAny_bind (wpAny_newObj_type ?_ (by size_fits)); refine wpAny_bind (m := firstArgMember _ _) (wpAny_of_eq (a := Value.none) (by first | rfl | (simp only [firstArgMember]; rfl)) ?_)
  refine wpAny_newObj_type ?_ (by size_fits); simp only [raiseNew]
  refine wpAny_bind (wpAny_handled ?_)
  first | rw [show A.in1.handled = none from hh] | rw [hh]
  refine wpAny_bind (wpAny_pure (wpAny_throw ?_)); refine wpAny_bind (wpAny_isInstance (T := "StopIteration") (b := true) ⟨_, Heap.get?_push_size _ rfl, rfl⟩ isSubtype_stop ?_); refine wpAny_pure (hQ _ ?_)
  refine ((?_ : Heap.ExtBut it s.heap _).push _).push _
  exact fun b ob hb e => (Heap.get?_update_other _ _ (Ne.symm hb)).trans ((Heap.get?_update_other _ _ (Ne.symm hb)).trans e)
theorem rv_iter {it : Addr} {i : Int} {Q : Value → Shared → Prop} (hit : IsRv s.heap it x t i) (h : Q (.ref it) s) : wpAny (model prog w) A (pyIter (.ref it)) Q E s := by
  refine wpAny_pyIter_slot hit.ty RT.slot_rt_iter (wpAny_call_entry RT.slot_rt_iter hit.ty RT.entry_rt_iter ?_ (RT.args_rt_iter _))
  show wpAny _ _ (ret (.ref it)) _ _ s
  exact wpAny_pure ⟨_, rfl, "reversed", _, hit.ty, RT.slot_rt_next.lookup, h⟩
end
end DL

end
section
namespace DL
open PySem L2

/-! ### reversed(text), as items -/
def ItvS (x : Str) : It := ⟨fun i _ => i < x.length, fun i H v H' => H' = H ∧ ∃ c, x.cps[x.length - 1 - i]? = some c ∧ v = .str ⟨#[c]⟩, fun i _ => x.length ≤ i⟩
theorem turn_rv {P : Program} {w : World} {K : PySem.W.Frag} {tg : Expr} (it : Addr) (x : Str) (t : Tok) (hx : x.length ≤ sizeLine) : Turn P w K tg (ItvS x) [it] it (fun i h => i ≤ x.length ∧ IsRv h it x t ((x.length : Int) - 1 - (i : Nat))) where
  mem := by simp
  obj := fun i h st b hb => by
    cases List.mem_singleton.mp hb
    obtain ⟨_, o, e, c, d⟩ := st
    exact ⟨o, e, fun v z => by rw [d] at z; cases z⟩
  keep := fun i h h' st k => by
    obtain ⟨q, o, e, r⟩ := st
    exact ⟨q, o, k it (by simp) o e, r⟩
  item := by
    intro X hP hw hK hc i pins s σ H E I hf st hg
    subst hP hw hK
    obtain ⟨hin, hit⟩ := st
    have hlt : i < x.length := hg
    have hlt2 : x.length - 1 - i < x.cps.size := by
      show x.length - 1 - i < x.length
      omega
    obtain ⟨f0, f1, f2, f3, f4, f5⟩ := hf it (by simp)
    have e1 : (x.length : Int) - 1 - ((i : Nat) : Int) = ((x.length - 1 - i : Nat) : Int) := by omega
    rw [e1] at hit
    have hcx : x.cps[x.length - 1 - i]? = some (x.cps[x.length - 1 - i]'hlt2) := Array.getElem?_eq_getElem hlt2
    refine rv_item hit hcx hx fun h' st' sb => ?_
    have e2 : ((x.length - 1 - i : Nat) : Int) - 1 = (x.length : Int) - 1 - ((i + 1 : Nat) : Int) := by omega
    rw [e2] at st'
    have I1 : Inv X pins σ H { s with heap := h', toks := s.toks + 1 + 1 } := I.turned (t' := s.toks + 1 + 1) (fun b o hb e => (sb.2 b hb).trans e) f0 f1 f3 f4 f5
    obtain ⟨o, e, c, d⟩ := id st'
    exact ⟨_, rfl, go_of (s := { s with heap := h', toks := s.toks + 1 + 1 }) e c d (by decide) ⟨.str ⟨#[_]⟩, H, I1, ⟨_, rfl⟩, ⟨rfl, _, hcx, rfl⟩, ⟨hlt, st'⟩, fun b hb => (hf b hb).1⟩⟩
  done := by
    intro X hP hw hK hc i pins s σ H E I hf st hg
    subst hP hw hK
    obtain ⟨f0, f1, f2, f3, f4, f5⟩ := hf it (by simp)
    obtain ⟨hin, hit⟩ := st
    have hge : x.length ≤ i := hg
    have e1 : (x.length : Int) - 1 - ((i : Nat) : Int) = -1 := by omega
    rw [e1] at hit
    exact rv_end (I.ok.hd hc) hit fun h' eb => ⟨rfl, I.turned (t' := s.toks) (fun b o hb e => eb b o hb e) f0 f1 f3 f4 f5⟩
  self := fun A i s Q E st h => rv_iter st.2 h
def iRevS (te : TE) : TI := fun σ H R => te σ H fun v H1 => ∃ x : Str, v = .str x ∧ x.length ≤ sizeLine ∧ R (ItvS x) H1
section
variable {X : Cx} {W : WX} {tg e a b c : Expr} {p pos tpos : Pos} {elts : List Expr} {kk : Nat} {g : Env → R (List D)} {f fa fb : Env → R D}
theorem pi_revS {te : TE} (hg : Gl X "reversed") (hm : X.mg "reversed" = none) (he : PE X e te) (hs : starEach [e] X.env = (false, eval e X.env) :: starEach [] X.env := by rfl) : PI X tg (.Call (.Name "reversed" p) [e] [] pos) (iRevS te) := by
  refine ⟨fun pins s σ H R I h => ?_⟩
  refine PyProof.Rows.Call_ (ld_blt I hg hm PyProof.Rows.boot_reversed (PyProof.Rows.callWith_type1 (PyProof.Rows.args_cons (thn (he.run pins s σ H _ I h) fun u s1 q0 => PyProof.Rows.args_nil ?_) hs) hs rfl))
  obtain ⟨v, H1, I1, r1, x, ev, hx, q⟩ := q0
  subst ev
  obtain ⟨t, eu⟩ := r1
  subst eu
  have hl : ¬ (x.length : Int) ≥ 2 ^ 63 := by
    rw [sizeLine_eq] at hx
    omega
  refine call_rv hl (rv_iter (x := x) (t := t) (i := (x.length : Int) - 1) ⟨_, Heap.get?_push_size _ rfl, rfl, rfl⟩ ?_)
  refine pi_one (tk := s1.toks + 1 + 1) I1 _ (turn_rv _ x t hx) ⟨Nat.zero_le _, ?_⟩ q
  have e0 : (x.length : Int) - 1 - ((0 : Nat) : Int) = (x.length : Int) - 1 := by omega
  rw [e0]
  exact ⟨_, Heap.get?_push_size _ rfl, rfl, rfl⟩
theorem src_rv {K : PySem.W.Frag} {x : Str} : Src K (ItvS x) (sgs x).reverse (fun _ _ => True) := by
  have hl : (sgs x).length = x.length := by simp [sgs]; rfl
  refine ⟨fun _ _ _ _ _ _ h => h, fun A i H ak hi h => ?_, fun A H ak h => ?_, fun A i H v H' ak hi h y => ?_⟩
  · show i < x.length
    rw [List.length_reverse, hl] at hi
    exact hi
  · show x.length ≤ _
    rw [List.length_reverse, hl]
    exact Nat.le_refl _
  · obtain ⟨e1, c, e2, e3⟩ := y
    subst e1 e3
    rw [List.length_reverse, hl] at hi
    refine ⟨Same.of_eq, .str ⟨#[c]⟩, ?_, by unfold Rep; rfl⟩
    rw [List.getElem?_reverse (by rw [hl]; exact hi), hl]
    unfold sgs
    rw [List.getElem?_map, Array.getElem?_toList, e2]
    rfl
theorem src_rl {K : PySem.W.Frag} {a : Addr} {ds : List D} : Src K (Itv K a ds.length) ds.reverse (fun A H => Rep K H A (.lst ds) (.ref a)) := by
  have rd : ∀ {A : Addr → Prop} {H : Hp}, Rep K H A (.lst ds) (.ref a) → ∃ xs, SqL K H a xs ∧ RepL K H A ds xs := fun {A H} h => by
    obtain ⟨b, xs, e, h1, h2⟩ := RepB.lst (.inl h)
    cases e
    exact ⟨xs, h1, h2⟩
  refine ⟨fun A A' H H' ak k h => Rep.keep k ak _ _ h, fun A i H ak hi h => ?_, fun A H ak h => ?_, fun A i H x H' ak hi h y => ?_⟩
  · obtain ⟨xs, h1, h2⟩ := rd h
    rw [List.length_reverse] at hi
    have hj : ds.length - 1 - i < ds.length := by omega
    obtain ⟨v, h3, _⟩ := repL_get h2 (List.getElem?_eq_getElem hj)
    exact ⟨hi, xs, v, h1, h3⟩
  · rw [List.length_reverse]
    exact Nat.le_refl ds.length
  · obtain ⟨xs, h1, h2⟩ := rd h
    obtain ⟨e1, y⟩ := y
    subst e1
    rw [List.length_reverse] at hi
    obtain ⟨d, h3, h4⟩ := repL_getR h2 (y xs h1)
    exact ⟨Same.of_eq, d, by rw [List.getElem?_reverse hi]; exact h3, h4⟩
theorem src_rt {K : PySem.W.Frag} {a : Addr} {ds : List D} : Src K (RT.ItvT K a ds.length) ds.reverse (fun A H => Rep K H A (.tup ds) (.ref a)) := by
  have rd : ∀ {A : Addr → Prop} {H : Hp}, Rep K H A (.tup ds) (.ref a) → ∃ xs, SqT K H a xs ∧ RepL K H A ds xs := fun {A H} h => by
    obtain ⟨b, xs, e, h1, h2⟩ := RepB.tup (.inl h)
    cases e
    exact ⟨xs, h1, h2⟩
  refine ⟨fun A A' H H' ak k h => Rep.keep k ak _ _ h, fun A i H ak hi h => ?_, fun A H ak h => ?_, fun A i H x H' ak hi h y => ?_⟩
  · obtain ⟨xs, h1, h2⟩ := rd h
    rw [List.length_reverse] at hi
    have hj : ds.length - 1 - i < ds.length := by omega
    obtain ⟨v, h3, _⟩ := repL_get h2 (List.getElem?_eq_getElem hj)
    exact ⟨hi, xs, v, h1, h3⟩
  · rw [List.length_reverse]
    exact Nat.le_refl ds.length
  · obtain ⟨xs, h1, h2⟩ := rd h
    obtain ⟨e1, y⟩ := y
    subst e1
    rw [List.length_reverse] at hi
    obtain ⟨d, h3, h4⟩ := repL_getR h2 (y xs h1)
    exact ⟨Same.of_eq, d, by rw [List.getElem?_reverse hi]; exact h3, h4⟩
theorem pi_or {w1 w2 : TI} (h1 : PI X tg e w1) (h2 : PI X tg e w2) : PI X tg e (fun σ H R => w1 σ H R ∨ w2 σ H R) :=
  ⟨fun pins s σ H R I h => h.elim (h1.run pins s σ H R I) (h2.run pins s σ H R I)⟩
def revZ (d : D) : Option (List D) := match d with
  | .str x => if x.length ≤ sizeLine then some (sgs x).reverse else none
  | d => (zD d).map List.reverse
theorem p_rev (hg : Gl X "reversed") (hm : X.mg "reversed" = none) (h : DP X W e f) (hs : starEach [e] X.env = (false, eval e X.env) :: starEach [] X.env := by rfl) : DIp X W tg (.Call (.Name "reversed" p) [e] [] pos) (itX revZ f) := by
  obtain ⟨t, pe, w⟩ := h
  refine ⟨_, pi_or (pi_revS hg hm pe hs) (RT.pi_revA hg hm pe hs), fun F os r σ H Q R S => ?_⟩
  have S0 := S.bind
  cases ef : f r with
  | stk => rw [ef] at S0; exact S0.elim
  | err x r' => exact .inl (w F os r σ H _ R (by rw [ef] at S0 ⊢; exact S0))
  | ok d =>
    rw [ef] at S0
    obtain ⟨its, e0, S⟩ := Sat.ofO S0
    cases d with
    | str x =>
      refine .inl (w F os r σ H _ R ?_)
      rw [ef]
      intro v H1 s1 h1
      rw [RepB.str (.inl h1)]
      unfold revZ at e0
      by_cases hx : x.length ≤ sizeLine
      · simp only [if_pos hx] at e0
        cases e0
        exact ⟨x, rfl, hx, S _ H1 _ src_rv s1 trivial⟩
      · simp only [if_neg hx] at e0
        cases e0
    | lst ds =>
      refine .inr (w F os r σ H _ R ?_)
      rw [ef]
      intro v H1 s1 h1
      cases e0
      obtain ⟨a, xs, ev, h2, h3⟩ := RepB.lst (.inl h1)
      subst ev
      refine ⟨a, xs, rfl, .inl ⟨h2, ?_⟩⟩
      rw [repL_length h3]
      exact S _ H1 _ src_rl s1 h1
    | tup ds =>
      refine .inr (w F os r σ H _ R ?_)
      rw [ef]
      intro v H1 s1 h1
      cases e0
      obtain ⟨a, xs, ev, h2, h3⟩ := RepB.tup (.inl h1)
      subst ev
      refine ⟨a, xs, rfl, .inr ⟨h2, ?_⟩⟩
      rw [repL_length h3]
      exact S _ H1 _ src_rt s1 h1
    | _ => cases e0
theorem src_rc {K : PySem.W.Frag} {lo c : Int} {n : Nat} : Src K (Itc lo c n) ((List.range n).map fun i => D.int (lo + (i : Nat) * c)) (fun _ _ => True) := by
  refine ⟨fun _ _ _ _ _ _ h => h, fun A i H ak hi h => ?_, fun A H ak h => ?_, fun A i H v H' ak hi h y => ?_⟩
  · show i < n
    simpa using hi
  · show n ≤ _
    simp
  · obtain ⟨e1, e2⟩ := y
    subst e1 e2
    have hi' : i < n := by simpa using hi
    exact ⟨Same.of_eq, .int (lo + (i : Nat) * c), by rw [List.getElem?_map, List.getElem?_range hi']; rfl, by unfold Rep; rfl⟩
def rvR (a b : D) : Option (List D) := match a, b with
  | .int i, .int j => if -(2 ^ 62) ≤ i ∧ i < 2 ^ 62 ∧ -(2 ^ 62) ≤ j ∧ j < 2 ^ 62 then some (rngL i (j - i).toNat).reverse else none
  | _, _ => none
theorem rng_rev (lo : Int) (n : Nat) : ((List.range n).map fun i => D.int (lo + (n : Nat) - 1 + (i : Nat) * (-1))) = (rngL lo n).reverse := by
  apply List.ext_getElem?
  intro i
  by_cases h : i < n
  · rw [List.getElem?_map, List.getElem?_range h, List.getElem?_reverse (by rw [rngL_length]; exact h), rngL_length]
    unfold rngL
    rw [List.getElem?_map, List.getElem?_range (by omega)]
    simp only [Option.map_some, Option.some.injEq, D.int.injEq]
    omega
  · rw [List.getElem?_eq_none (by simp; omega), List.getElem?_eq_none (by rw [List.length_reverse, rngL_length]; omega)]
theorem src_rr {K : PySem.W.Frag} {lo hi : Int} : Src K (Itc (lo + (((hi - lo).toNat : Nat) : Int) - 1) (-1) (hi - lo).toNat) (rngL lo (hi - lo).toNat).reverse (fun _ _ => True) := by
  rw [← rng_rev]
  exact src_rc
theorem p_revR1 {p2 pos2 : Pos} (hg : Gl X "reversed") (hm : X.mg "reversed" = none) (hg2 : Gl X "range") (hm2 : X.mg "range" = none) (h : DB X W e f) (na : starEach [e] X.env = (false, eval e X.env) :: starEach [] X.env := by rfl)
    (hs : starEach [.Call (.Name "range" p2) [e] [] pos2] X.env = (false, eval (.Call (.Name "range" p2) [e] [] pos2) X.env) :: starEach [] X.env := by rfl) : DIp X W tg (.Call (.Name "reversed" p) [.Call (.Name "range" p2) [e] [] pos2] [] pos) (itX (rvR (.int 0)) f) := by
  obtain ⟨t, pe, w⟩ := h
  refine ⟨_, pi_revR hg hm (prg_1 hg2 hm2 pe na) hs, fun F os r σ H Q R S => w F os r σ H _ R (S.bind.imp fun d S v H1 s1 h1 => ?_)⟩
  obtain ⟨its, e0, S⟩ := Sat.ofO S
  cases d with
  | int n =>
    rw [RepB.int h1]
    unfold rvR at e0
    by_cases c : -(2 ^ 62) ≤ (0 : Int) ∧ (0 : Int) < 2 ^ 62 ∧ -(2 ^ 62) ≤ n ∧ n < 2 ^ 62
    · simp only [if_pos c] at e0
      cases e0
      exact ⟨n, rfl, c.1, c.2.1, c.2.2.1, c.2.2.2, S _ H1 _ src_rr s1 trivial⟩
    · simp only [if_neg c] at e0
      cases e0
  | _ => cases e0
/-- what a list, a tuple or a text gives -/
theorem p_any (h : DP X W e f) : DIp X W tg e (itX zD f) := by
  obtain ⟨t, pe, w⟩ := h
  refine ⟨_, pi_or (pi_list pe) (pi_or (pi_tup pe) (pi_str pe)), fun F os r σ H Q R S => ?_⟩
  have S0 := S.bind
  cases ef : f r with
  | stk => rw [ef] at S0; exact S0.elim
  | err x r' => exact .inl (w F os r σ H _ R (by rw [ef] at S0 ⊢; exact S0))
  | ok d =>
    rw [ef] at S0
    obtain ⟨its, e0, S⟩ := Sat.ofO S0
    cases d with
    | str x =>
      refine .inr (.inr (w F os r σ H _ R ?_))
      rw [ef]
      intro v H1 s1 h1
      cases e0
      rw [RepB.str (.inl h1)]
      exact ⟨x, rfl, S _ H1 _ src_str s1 trivial⟩
    | lst ds =>
      refine .inl (w F os r σ H _ R ?_)
      rw [ef]
      intro v H1 s1 h1
      cases e0
      obtain ⟨a, xs, ev, h2, h3⟩ := RepB.lst (.inl h1)
      subst ev
      exact ⟨a, rfl, ⟨xs, h2⟩, S _ H1 _ src_list s1 h1⟩
    | tup ds =>
      refine .inr (.inl (w F os r σ H _ R ?_))
      rw [ef]
      intro v H1 s1 h1
      cases e0
      obtain ⟨a, xs, ev, h2, h3⟩ := RepB.tup (.inl h1)
      subst ev
      exact ⟨a, rfl, ⟨xs, h2⟩, S _ H1 _ src_tup s1 h1⟩
    | _ => cases e0
theorem src_en {K : PySem.W.Frag} {d : D} {v : V} {xs : List D} (e1 : zD d = some xs) : Src K (ItR (hasE K (zOf d v))) (xs.zipIdx.map fun p => D.tup [.int (p.2 : Nat), p.1]) (fun A H => Rep K H A d v) := by
  refine src_rows (fun A A' H H' ak k h => Rep.keep k ak _ _ h) fun A H ak h => ?_
  obtain ⟨_, ts, g1, g2⟩ := rep_zs e1 h
  refine ⟨_, ⟨ts, g1, rfl⟩, by simp [enV, repL_length g2], fun i row e => ?_⟩
  unfold enV at e
  rw [List.getElem?_map, List.getElem?_zipIdx] at e
  cases q1 : ts[i]? with
  | none => rw [q1] at e; cases e
  | some u =>
    rw [q1] at e
    cases e
    obtain ⟨x, f1, r1⟩ := repL_getR g2 q1
    exact ⟨[.int ((0 + i : Nat) : Int), x], by rw [List.getElem?_map, List.getElem?_zipIdx, f1]; rfl, repL2 rep_int r1⟩
theorem repL_one {K : PySem.W.Frag} {H : Hp} {A : Addr → Prop} {d : D} {vs : List V} (h : RepL K H A [d] vs) : ∃ v, vs = [v] ∧ Rep K H A d v := by
  unfold RepL at h
  obtain ⟨v, r, e1, h1, h2⟩ := h
  unfold RepL at h2
  subst h2 e1
  exact ⟨v, rfl, h1⟩
theorem p_en (hg : Gl X "enumerate") (hm : X.mg "enumerate" = none) (h : DPs X W [a] g) (hs : starEach [a] X.env = [(false, eval a X.env)] := by rfl) :
    DIp X W (.Tuple elts kk tpos) (.Call (.Name "enumerate" p) [a] [] pos) (itN enD g) := by
  obtain ⟨t, pe, w⟩ := h
  refine ⟨_, pi_en hg hm pe hs, fun F os r σ H Q R S => w F os r σ H _ R (S.bind.imp fun ds S vs H1 s1 h1 => ?_)⟩
  obtain ⟨its, e, S⟩ := Sat.ofO S
  match ds, e with
  | [.lst xs], e =>
    obtain ⟨v, ev, r1⟩ := repL_one h1
    subst ev
    cases e
    obtain ⟨q1, ts, g1, g2⟩ := rep_zs (d := .lst xs) rfl r1
    refine ⟨_, ts, by rw [← q1], g1, ?_, S _ H1 _ (src_en rfl) s1 r1⟩
    cases v <;> trivial
  | [.str z], e =>
    obtain ⟨v, ev, r1⟩ := repL_one h1
    subst ev
    cases e
    obtain ⟨q1, ts, g1, g2⟩ := rep_zs (d := .str z) rfl r1
    exact ⟨_, ts, by rw [← q1], g1, trivial, S _ H1 _ (src_en rfl) s1 r1⟩
end
end DL

end
section
namespace DL
open PySem L2
section
variable {X : Cx} {W : WX} {e a b c o : Expr} {es : List Expr} {p pos apos cpos : Pos} {f fa fb fc fo : Env → R D} {g : Env → R (List D)}

theorem Op2F.two {r : R2} {op : D → D → Option D} (h : Op2F X r op) : Op2 X r op := by
  intro A H x y v w d Q ak e h1 h2 k
  refine h A H x y v w d _ ak e h1 h2 fun p H' s n r => k _ H' s ?_
  refine repO_rep r ad_keep (ad_ok ak s r) fun z => ?_
  obtain ⟨o, e2, _⟩ := ak p z
  rw [n] at e2
  cases e2
theorem Op2.or {r1 r2 : R2} {op1 op2 op : D → D → Option D} (h1 : Op2 X r1 op1) (h2 : Op2 X r2 op2) (h : ∀ x y d, op x y = some d → op1 x y = some d ∨ op2 x y = some d) : Op2 X (fun x y H Q => r1 x y H Q ∨ r2 x y H Q) op := by
  intro A H x y v w d Q ak e q1 q2 k
  rcases h x y d e with z | z
  · exact .inl (h1 A H x y v w d Q ak z q1 q2 k)
  · exact .inr (h2 A H x y v w d Q ak z q1 q2 k)
theorem opR_or {op : Value → Value → Sem Value} {r1 r2 : R2} (h1 : OpR X op r1) (h2 : OpR X op r2) : OpR X op (fun x y H Q => r1 x y H Q ∨ r2 x y H Q) :=
  fun pins s σ H x y v u Q I rx ry h => h.elim (h1 pins s σ H x y v u Q I rx ry) (h2 pins s σ H x y v u Q I rx ry)
/-- + of ints, texts, tuples, lists -/
def plusD : D → D → Option D
  | .int i, .int j => some (.int (i + j))
  | .str x, .str y => if x.length + y.length ≤ sizeLine then some (.str (x ++ y)) else none
  | .tup xs, .tup ys => if xs.length + ys.length ≤ sizeLine then some (.tup (xs ++ ys)) else none
  | .lst xs, .lst ys => if xs.length + ys.length ≤ sizeLine then some (.lst (xs ++ ys)) else none
  | _, _ => none
theorem op_plus : OpR X (binaryOp .Add) (fun x y H Q => rAdd3 X.K x y H Q ∨ rCatL X.K x y H Q) := opR_or op_add3 op_catL
theorem o_plus : Op2 X (fun x y H Q => rAdd3 X.K x y H Q ∨ rCatL X.K x y H Q) plusD :=
  Op2.or o_add o_cat.two fun x y d e => by
    cases x with
    | int i => cases y with
      | int j => exact .inl e
      | _ => cases e
    | str i => cases y with
      | str j => exact .inl e
      | _ => cases e
    | tup i => cases y with
      | tup j => exact .inl e
      | _ => cases e
    | lst i => cases y with
      | lst j => exact .inr e
      | _ => cases e
    | _ => cases e
/-- <= of ints, of tuples of ints -/
def intsD : List D → Option (List Int)
  | [] => some []
  | .int i :: r => (intsD r).map fun l => i :: l
  | _ :: _ => none
theorem intsD_rep {K : PySem.W.Frag} {H : Hp} {A : Addr → Prop} : ∀ {ds : List D} {vs : List V} {ns : List Int}, intsD ds = some ns → RepL K H A ds vs → vs = ns.map V.int
  | [], vs, ns, e, h => by
    unfold RepL at h
    subst h
    cases e
    rfl
  | d :: ds, vs, ns, e, h => by
    unfold RepL at h
    obtain ⟨v, r, ev, h1, h2⟩ := h
    subst ev
    cases d with
    | int i =>
      obtain ⟨l, e1, e2⟩ := Option.map_eq_some_iff.mp e
      subst e2
      rw [RepB.int (.inl h1), intsD_rep e1 h2]
      rfl
    | _ => cases e
def lexLe (ns ms : List Int) : Bool := Ob.lexAt (fun j => decide (ns.getD j 0 = ms.getD j 0)) (fun j => decide (ns.getD j 0 ≤ ms.getD j 0)) (decide (ns.length ≤ ms.length)) 0 (min ns.length ms.length)
def leTT : D → D → Option D
  | .tup xs, .tup ys => (intsD xs).bind fun ns => (intsD ys).bind fun ms => some (.bl (lexLe ns ms))
  | _, _ => none
def le2D : D → D → Option D
  | .int i, .int j => some (.bl (decide (i ≤ j)))
  | .tup xs, .tup ys => (intsD xs).bind fun ns => (intsD ys).bind fun ms => some (.bl (lexLe ns ms))
  | _, _ => none
theorem o_leTT : Op2 X (rLeT X.K) leTT := by
  intro A H x y v w d Q ak e h1 h2 k
  cases x with
  | tup xs =>
    cases y with
    | tup ys =>
      obtain ⟨ns, e1, e⟩ := Option.bind_eq_some_iff.mp e
      obtain ⟨ms, e2, e⟩ := Option.bind_eq_some_iff.mp e
      cases e
      obtain ⟨a, us, ev, q1, q2⟩ := RepB.tup h1
      obtain ⟨b, ws, ew, q3, q4⟩ := RepB.tup h2
      rw [intsD_rep e1 q2] at q1
      rw [intsD_rep e2 q4] at q3
      exact ⟨a, b, ns, ms, ev, ew, q1, q3, k _ H Same.of_eq (by unfold Rep; rfl)⟩
    | _ => cases e
  | _ => cases e
theorem op_le2 (hu : X.A.units < cLine) : OpR X (compareOp .LtE) (fun x y H Q => rI0 (fun i j => .bl (decide (i ≤ j))) x y H Q ∨ rLeT X.K x y H Q) := opR_or op_le (op_leT hu)
theorem o_le2 : Op2 X (fun x y H Q => rI0 (fun i j => .bl (decide (i ≤ j))) x y H Q ∨ rLeT X.K x y H Q) le2D :=
  Op2.or o_cmpI o_leTT fun x y d e => by
    cases x with
    | int i => cases y with
      | int j => exact .inl e
      | _ => cases e
    | tup i => cases y with
      | tup j => exact .inr e
      | _ => cases e
    | _ => cases e
def isBD : D → D → Option D
  | .bl i, .bl j => some (.bl (decide (i = j)))
  | _, _ => none
def notBD : D → D → Option D
  | .bl i, .bl j => some (.bl (!decide (i = j)))
  | _, _ => none
/-- x[i:j] of any of them -/
def slA : D → Option Int → Option Int → Option D
  | .str z, lo, hi => if z.length ≤ sizeLine then some (.str (cutS z lo hi)) else none
  | .tup xs, lo, hi => some (.tup (cutL xs lo hi))
  | .lst xs, lo, hi => some (.lst (cutL xs lo hi))
  | _, _, _ => none
theorem d_slA {lo hi : Option Expr} {fl fh : Env → R (Option Int)} {p2 : Pos} (he : DB X W e fa) (hl : DO X W lo fl) (hh : DO X W hi fh) : DP X W (.Subscript e (.Slice lo hi none p2) pos) (sl3 slA fa fl fh) := by
  obtain ⟨t1, q1, w1⟩ := d_sl (pos := pos) (p2 := p2) he hl hh
  obtain ⟨t2, q2, w2⟩ := (d_slL (pos := pos) (p2 := p2) he hl hh).toP
  refine ⟨fun σ H Q => t1 σ H Q ∨ t2 σ H Q, ⟨fun pins s σ H Q I h => h.elim (q1.run pins s σ H Q I) (q2.run pins s σ H Q I)⟩, fun F os r σ H Q Rl S => ?_⟩
  have w1' := w1 F os r σ H Q Rl
  have w2' := w2 F os r σ H Q Rl
  unfold sl3 at S w1' w2'
  cases ea : fa r with
  | stk => rw [ea] at S; exact S.elim
  | err x r' => rw [ea] at S w1'; exact .inl (w1' S)
  | ok d =>
    rw [ea] at S w1' w2'
    cases el : fl r with
    | stk => simp only [R.bind, el] at S; exact S.elim
    | err x r' => simp only [R.bind, el] at S w1'; exact .inl (w1' S)
    | ok l =>
      cases eh : fh r with
      | stk => simp only [R.bind, el, eh] at S; exact S.elim
      | err x r' => simp only [R.bind, el, eh] at S w1'; exact .inl (w1' S)
      | ok h =>
        simp only [R.bind, el, eh] at S w1' w2'
        cases d with
        | lst xs => exact .inr (w2' S)
        | str z => exact .inl (w1' S)
        | tup z => exact .inl (w1' S)
        | _ => exact S.elim
/-- [..] * n -/
def repD : D → D → Option D
  | .lst xs, .int k => if -(2 ^ 63) ≤ k ∧ k < 2 ^ 63 ∧ xs.length * k.toNat ≤ sizeLine then some (.lst (List.replicate k.toNat xs).flatten) else none
  | _, _ => none
theorem repL_rep {K : PySem.W.Frag} {H : Hp} {A : Addr → Prop} {ds : List D} {vs : List V} (h : RepL K H A ds vs) : ∀ n : Nat, RepL K H A (List.replicate n ds).flatten (List.replicate n vs).flatten
  | 0 => by unfold RepL; rfl
  | n + 1 => by
    rw [List.replicate_succ, List.replicate_succ, List.flatten_cons, List.flatten_cons]
    exact repL_append h (repL_rep h n)
theorem d_repF (ha : DF X W a fa) (hb : DB X W b fb) : DF X W (.BinOp a .Mult b pos) (bin repD fa fb) := by
  obtain ⟨ta, pa, wa⟩ := ha
  obtain ⟨tb, pb, wb⟩ := hb
  refine ⟨_, pe_op op_rep pa pb, fun F os r σ H Q R S => wa F os r σ H _ R (S.bind.imp fun d S q H1 s1 n1 h1 => wb F os r σ H1 _ (R.same' s1) (S.bind.imp fun d2 S v2 H2 s2 h2 => ?_))⟩
  obtain ⟨d3, e, S⟩ := Sat.ofO S
  cases d with
  | lst xs =>
    cases d2 with
    | int k =>
      rw [RepB.int h2]
      unfold repD at e
      by_cases c : -(2 ^ 63) ≤ k ∧ k < 2 ^ 63 ∧ xs.length * k.toNat ≤ sizeLine
      · simp only [if_pos c] at e
        cases e
        have ak1 : AOk (Ad (Av F.A0 os) q) H1 := ad_ok R.AOk s1 h1
        obtain ⟨vs, e1, r1⟩ := h1.same s2 ak1
        have h2' : RepO X.K H2 (Ad (Av F.A0 os) q) (.lst xs) q := ⟨vs, e1, r1⟩
        have ak2 : AOk (Ad (Av F.A0 os) q) H2 := ad_ok R.AOk (s1.trans s2) h2'
        refine ⟨q, k, vs, rfl, rfl, e1, c.1, c.2.1, by rw [repL_length r1]; exact c.2.2, fun p np => ?_⟩
        have s3 : Same H2 (upd H2 p (.lst (List.replicate k.toNat vs).flatten)) := same_upd np
        have hpn : p ≠ q := fun z => by rw [z, e1] at np; cases np
        refine S p _ (s1.trans (s2.trans s3)) ?_ ?_
        · cases hp : H p with
          | none => rfl
          | some o =>
            rw [(s1.trans s2) p o hp] at np
            cases np
        · refine ⟨_, upd_same, repL_rep (RepL.keep (A := Ad (Av F.A0 os) q) (fun b ob eb nb => ⟨by rw [upd_ne (ne_of_none eb np)]; exact eb, fun z => ?_⟩) ak2 _ _ r1) _⟩
          rcases z with z | z
          · exact nb (.inl z)
          · rw [z] at eb
            rw [eb] at np
            cases np
      · simp only [if_neg c] at e
        cases e
    | _ => cases e
  | _ => cases e

/-! ### methods of texts -/
def OpS (X : Cx) (r : V → List V → Hp → VK → Prop) (op : Str → List D → Option D) : Prop := ∀ (A : Addr → Prop) (H : Hp) (x : Str) (xs : List D) (vs : List V) (d : D) (Q : VK), AOk A H → op x xs = some d → Paired (RepB X.K H A) xs vs →
  (∀ u H', Same H H' → Rep X.K H' A d u → Q u H') → r (.str x) vs H Q
def asStr : D → Option Str
  | .str x => some x
  | _ => none
def mthV (op : Str → List D → Option D) (fo : Env → R D) (g : Env → R (List D)) : Env → R D := fun r => (fo r).bind fun x => (R.ofO (asStr x)).bind fun z => (g r).bind fun ds => R.ofO (op z ds)
theorem d_bm {name : Str} {id : String} {rr : V → List V → Hp → VK → Prop} {op : Str → List D → Option D} (slot : PySem.Slot "str" name id) (hty : typeOf (.builtin id) = pure (.type "method_descriptor")) (hm : MtR X id rr) (h : OpS X rr op) (ho : DB X W o fo) (ha : DBs X W (e :: es) g)
    (hbase : attributeBase o name X.env (eval o X.env) = eval o X.env := by rfl)
    (hfew : ((backTo cpos (starEach (e :: es) X.env)).all (fun x => !x.1) && (backToKw cpos (keywordEach [] X.env)).all (fun x => x.1.isSome)
      && decide ((e :: es).length + ([] : List Keyword).length + (if ([] : List Keyword).isEmpty then 0 else 1) < 30)) = true := by rfl)
    (hline : (apos.endLine == cpos.line) = true := by rfl) (hs : starEach (e :: es) X.env = (false, eval e X.env) :: starEach es X.env := by rfl) (hplain : (backTo cpos (starEach es X.env)).any (·.1) = false := by rfl) :
    DP X W (.Call (.Attribute o name apos) (e :: es) [] cpos) (mthV op fo g) := by
  obtain ⟨to, po, wo⟩ := ho
  obtain ⟨ta, pa, wa⟩ := ha
  refine ⟨_, pe_bm PySem.F.plainAttrs_str slot hty hm po pa hbase hfew hline hs hplain, fun F os r σ H Q R S => wo F os r σ H _ R (S.bind.imp fun d S v H1 s1 h1 => ?_)⟩
  obtain ⟨z, ez, S2⟩ := Sat.ofO S.bind
  clear S
  cases d with
  | str z' =>
    cases ez
    rw [RepB.str h1]
    refine ⟨rfl, wa F os r σ H1 _ (R.same' s1) (S2.bind.imp fun ds S vs H2 s2 h2 => ?_)⟩
    obtain ⟨d, e0, S⟩ := Sat.ofO S
    have R2 := (R.same' s1).same' s2
    exact h _ H2 z ds vs d Q R2.AOk e0 h2 fun u H3 s3 h3 => S u H3 (s1.trans (s2.trans s3)) h3
  | _ => cases ez
def find3D (x : Str) : List D → Option D
  | [.str y, .int i] => some (.int (Txt.find3 x y i))
  | _ => none
theorem o_find3 : OpS X (fun x xs H Q => ∃ (a b : Str) (i : Int), x = .str a ∧ xs = [.str b, .int i] ∧ Q (.int (Txt.find3 a b i)) H) find3D := by
  intro A H x xs vs d Q ak e h k
  match xs, e with
  | [.str y, .int i], e =>
    obtain ⟨v, w, ev, h1, h2⟩ := rep2 h
    cases e
    subst ev
    rw [RepB.str h1, RepB.int h2]
    exact ⟨x, y, i, rfl, rfl, k _ H Same.of_eq (by unfold Rep; rfl)⟩

/-! ### sum, min, max -/
theorem sumT_raw {prog : Program} {w : World} {A : Around} {E : Value → Shared → Prop} {s : Shared} {l : Addr} {its : List Value} {ns : List Int} {Q : Value → Shared → Prop} (hh : A.handled = none) (hl : s.heap.IsTuple l its.toArray) (hi : PyProof.Rows.IntsAre its ns)
    (h : ∀ h' tk t', (∀ b o, s.heap.get? b = some o → h'.get? b = some o) → Q (.int ns.sum t') { s with heap := h', toks := tk }) : wpAny (model prog w) A (call (.builtin "sum") [.ref l]) Q E s := by
  obtain ⟨xs, e⟩ := hi.allInts.items
  have hn : numsOf (intItems xs).toList = ns := by rw [← e]; exact hi.numsOf
  rw [nums_intItems] at hn
  rw [e] at hl
  have hlt : l < s.heap.objs.size := by
    obtain ⟨_, q, _⟩ := hl
    exact Heap.lt_size q
  have tl : (s.heap.push { cls := .type "tuple_iterator", data := .fields #[.ref l, .int 0 0] }).IsTuple l (intItems xs) := hl.push _
  have ti : (s.heap.push { cls := .type "tuple_iterator", data := .fields #[.ref l, .int 0 0] }).IsTupleIter s.heap.objs.size l 0 := ⟨_, Heap.get?_push_size _ rfl, rfl, rfl⟩
  refine call_sum_walkG (wpAny_pyIter_tuple hl ⟨_, _, _, _, _, _, numAt xs, rfl, Walks.tuple (A := A.in1) hh s.heap.objs.size l (Nat.ne_of_lt hlt) (intItems xs), ⟨ti, tl⟩, fun b hb => ?_, fun _ _ => intItems_at, fun h' tk t' hk => ?_⟩)
  · show b < (s.heap.push _).objs.size
    rw [Heap.size_push]
    rcases List.mem_cons.mp hb with z | z
    · rw [z]; exact Nat.lt_succ_self _
    · rw [List.mem_singleton.mp z]; exact Nat.lt_succ_of_lt hlt
  · have z := h h' tk t' fun b o eb => hk b o (fun hm => by
      rw [List.mem_singleton.mp hm] at eb
      exact Nat.lt_irrefl _ (Heap.lt_size eb)) (Heap.get?_push_of_some _ eb)
    have e3 : (intItems xs).size = xs.size := by simp [intItems]
    rw [e3, preSum_eq, List.take_of_length_le (by simp), hn]
    exact z
def rSum2 (K : PySem.W.Frag) : List V → Hp → VK → Prop := fun vs H Q => ∃ (a : Addr) (ns : List Int), vs = [V.ref a] ∧ (SqL K H a (ns.map V.int) ∨ SqT K H a (ns.map V.int)) ∧ Q (.int ns.sum) H
theorem cr_sum2 (hc : X.calm = true) : CallR X (.builtin "sum") (rSum2 X.K) := by
  intro pins s σ H vs us Q I r h
  obtain ⟨a, ns, e, hs, q⟩ := h
  rcases hs with hs | hs
  · exact cr_sum hc pins s σ H vs us Q I r ⟨a, ns, e, hs, q⟩
  · subst e
    obtain ⟨its, rv, hl, _⟩ := I.tuple hs
    rw [Vals.ref1 r]
    exact sumT_raw (I.ok.hd hc) hl rv.ints fun h' tk t' hk => ⟨.int _, H, I.kept hk, ⟨_, rfl⟩, q⟩
def sumD : List D → Option D
  | [.lst xs] => (intsD xs).map fun ns => .int ns.sum
  | [.tup xs] => (intsD xs).map fun ns => .int ns.sum
  | _ => none
theorem o_sum : OpN X (rSum2 X.K) sumD := by
  intro A H xs vs d Q ak e h k
  match xs, e with
  | [.lst xs], e =>
    obtain ⟨v, ev, h1⟩ := rep1 h
    subst ev
    obtain ⟨ns, e1, e2⟩ := Option.map_eq_some_iff.mp e
    obtain ⟨a, us, ev, q1, q2⟩ := RepB.lst h1
    rw [intsD_rep e1 q2] at q1
    subst e2 ev
    exact ⟨a, ns, rfl, .inl q1, k _ H Same.of_eq (by unfold Rep; rfl)⟩
  | [.tup xs], e =>
    obtain ⟨v, ev, h1⟩ := rep1 h
    subst ev
    obtain ⟨ns, e1, e2⟩ := Option.map_eq_some_iff.mp e
    obtain ⟨a, us, ev, q1, q2⟩ := RepB.tup h1
    rw [intsD_rep e1 q2] at q1
    subst e2 ev
    exact ⟨a, ns, rfl, .inr q1, k _ H Same.of_eq (by unfold Rep; rfl)⟩
def mm2D (F : Int → Int → Int) : List D → Option D
  | [.int i, .int j] => some (.int (F i j))
  | _ => none
theorem o_mm2 {F : Int → Int → Int} : OpN X (fun xs H Q => ∃ i j, xs = [.int i, .int j] ∧ Q (.int (F i j)) H) (mm2D F) := by
  intro A H xs vs d Q ak e h k
  match xs, e with
  | [.int i, .int j], e =>
    obtain ⟨v, w, ev, h1, h2⟩ := rep2 h
    cases e
    subst ev
    rw [RepB.int h1, RepB.int h2]
    exact ⟨i, j, rfl, k _ H Same.of_eq (by unfold Rep; rfl)⟩

/-! ### x.reverse() of an own list -/
variable {x : Str}
def rvsS (i : Nat) : Env → R Fl := fun r => (R.ofO (ownL r i)).bind fun s => .ok (.nx (r.set i (s.1.put (.lst s.2.reverse))))
theorem s_reverse (i : Nat) (hN : X.N[i]? = some x := by rfl) (hv : Vis X.env.scope x := by first | exact Or.inl rfl | exact Or.inr (Or.inl rfl) | exact Or.inr (Or.inr rfl)) (hd : (x == ("__debug__" : Str)) = false := by decide)
    (hcd : (x == ("__classdict__" : Str)) = false := by decide)
    (hbase : attributeBase (.Name x p) "reverse" X.env (eval (.Name x p) X.env) = eval (.Name x p) X.env := by rfl)
    (hline : (apos.endLine == cpos.line) = true := by rfl)
    (hs : swapsWith (.Call (.Attribute (.Name x p) "reverse" apos) [] [] cpos) none pos.line X.env = pure false := by rfl) :
    DS X W (.Expr (.Call (.Attribute (.Name x p) "reverse" apos) [] [] cpos) pos) (rvsS i) := by
  refine ⟨_, ps_expr (pe_bm0 PySem.F.plainAttrs_list PySem.F.slot_list_reverse PySem.F.type_list_reverse mt_reverse (pe_var (i := i) hN hv hd hcd) hbase hline) hs, fun F os r σ H D R S => ?_⟩
  obtain ⟨s0, e0, S⟩ := S.bind.ofO
  obtain ⟨e00, e01⟩ := ownL_ok (s := s0.1) (xs := s0.2) e0
  obtain ⟨a, ea, inA, ys, hy, hr⟩ := R.ownA e00 e01
  refine ⟨_, ea, .inl ⟨rfl, ys, SqL.of hy⟩, a, ys, rfl, rfl, hy, ?_⟩
  have rep' : RepO X.K (upd H a (.lst ys.reverse)) (Av F.A0 os) (.lst s0.2.reverse) a := ⟨_, upd_same, own_upd R.AOk inA (repL_rev hr)⟩
  obtain ⟨R3, k3⟩ := R.updOwn e00 e01 ea rep'
  exact S os σ _ R3 k3
end
end DL

end
section
namespace DL
open PySem L2

/-! ### what a name of the top is good for -/
def Cal (P : Program) (w : World) (K : PySem.W.Frag) (mg : Str → Option Value) (base : Heap) (k : Nat) (x : Str) (n : Nat) (F : List D → R D) : Prop :=
  ∃ (f : Addr) (fd : FuncData) (ps : List Str), FnOk P w K mg base (L2.CX P w) k f fd ps (SpF K mg n F) ∧ mg x = some (.ref f) ∧ PySem.W.keepIn K (.ref f) = true ∧ Binds K fd ps []
def CalIO (P : Program) (w : World) (K : PySem.W.Frag) (mg : Str → Option Value) (base : Heap) (k : Nat) (x : Str) (n : Nat) (F : List D → List D → R (D × List D)) : Prop :=
  ∃ (f : Addr) (fd : FuncData) (ps : List Str), FnOk P w K mg base (L2.CX P w) k f fd ps (SpIO K n F) ∧ mg x = some (.ref f) ∧ PySem.W.keepIn K (.ref f) = true ∧ Binds K fd ps []
section
variable {X : Cx} {W : WX} {e a : Expr} {es : List Expr} {x y : Str} {p py pos : Pos} {k n : Nat} {fa : Env → R D}
theorem takes_no : Takes X WF := fun u s' ⟨_, _, _, _, _, _, _, _, _, _, _, _, _, _, _, _, w⟩ => w.elim
theorem d_fn {F : List D → R D} {g : Env → R (List D)} (c : Cal X.prog X.w X.K X.mg X.base k x n F) (hr : Room k X.A) (hg : Gl X x) (tk : Takes X W) (ha : DPs X W (e :: es) g) (hdb : (x == ("__debug__" : Str)) = false := by decide) (he : starEach (e :: es) X.env = (false, eval e X.env) :: starEach es X.env := by rfl)
    (hpl : (backTo pos (starEach es X.env)).any (·.1) = false := by rfl) : DP X W (.Call (.Name x p) (e :: es) [] pos) (callF n F g) := by
  obtain ⟨f, fd, ps, G, hm, hk, hb⟩ := c
  exact d_call G hr hg hm hk hb tk ha hdb he hpl
theorem e_fnIO (i : Nat) {F : List D → List D → R (D × List D)} {g : Env → R (List D × Env)} (c : CalIO X.prog X.w X.K X.mg X.base k x n F) (hr : Room k X.A) (hg : Gl X x) (tk : Takes X W) (ha : DEs X W es g) (hN : X.N[i]? = some y := by rfl)
    (hv : Vis X.env.scope y := by first | exact Or.inl rfl | exact Or.inr (Or.inl rfl) | exact Or.inr (Or.inr rfl)) (hd : (y == ("__debug__" : Str)) = false := by decide) (hcd : (y == ("__classdict__" : Str)) = false := by decide)
    (hdb : (x == ("__debug__" : Str)) = false := by decide) (he : starEach (.Name y py :: es) X.env = (false, eval (.Name y py) X.env) :: starEach es X.env := by rfl) (hpl : (backTo pos (starEach es X.env)).any (·.1) = false := by rfl) :
    DE X W (.Call (.Name x p) (.Name y py :: es) [] pos) (callIO i n F g) := by
  obtain ⟨f, fd, ps, G, hm, hk, hb⟩ := c
  exact e_callIO G hr hg hm hk hb tk hN hv ha hd hcd hdb he hpl
/-- constants of the top -/
theorem d_gstr {z : Str} (hm : ∃ t, X.mg x = some (.str z t)) (hg : Gl X x) (hdb : (x == ("__debug__" : Str)) = false := by decide) : DP X W (.Name x p) (kc (.str z)) := by
  obtain ⟨t, hm⟩ := hm
  exact d_glob (v := V.str z) hg hm ⟨t, rfl⟩ (fun H A => rep_str) hdb
theorem d_gint {z : Int} (hm : ∃ t, X.mg x = some (.int z t)) (hg : Gl X x) (hdb : (x == ("__debug__" : Str)) = false := by decide) : DP X W (.Name x p) (kc (.int z)) := by
  obtain ⟨t, hm⟩ := hm
  exact d_glob (v := V.int z) hg hm ⟨t, rfl⟩ (fun H A => rep_int) hdb
def negD : D → Option D
  | .int i => some (.int (-i))
  | _ => none
@[simp] def un1 (op : D → Option D) (f : Env → R D) : Env → R D := fun r => (f r).bind fun d => R.ofO (op d)
theorem d_neg (h : DB X W a fa) : DP X W (.UnaryOp .USub a pos) (un1 negD fa) := by
  obtain ⟨t, pe, w⟩ := h
  refine ⟨_, pe_un un_neg pe, fun F os r σ H Q R S => w F os r σ H _ R (S.bind.imp fun d S v H1 s1 h1 => ?_)⟩
  obtain ⟨d2, e2, S⟩ := Sat.ofO S
  cases d with
  | int i =>
    cases e2
    exact ⟨i, RepB.int h1, S _ H1 s1 rep_int⟩
  | _ => cases e2
theorem o_ipI {F : Int → Int → Int} : OpIp X (ipI F) (intOp (fun _ _ => true) F) := by
  intro A H x y v w d Q ak e h1 h2 k
  cases x with
  | int i => cases y with
    | int j =>
      simp only [intOp, if_true] at e
      cases e
      exact ⟨i, j, RepB.int (.inl h1), RepB.int h2, k _ H Same.of_eq rep_int⟩
    | _ => cases e
  | _ => cases e
theorem u65 (hr : Room k X.A) : X.A.units + 65 < cLine := by
  have := hr.un
  omega
end
section
variable {P : Program} {w : World} {K : PySem.W.Frag} {mg : Str → Option Value} {base : Heap} {x qual : Str} {params : Arguments} {body : List Stmt} {scope : Scope} {f : Addr} {fd : FuncData}
theorem cal_of {N ps : List Str} {k : Nat} {b : Env → R Fl} (F : FunD K x qual params body scope [] [] f fd) (S : FnScope N ps scope) (hm : mg x = some (.ref f)) (hp : ps.length ≤ N.length)
    (hbi : ∀ (kV doc pm : Value) (an : Option Addr) (cdv ct : Value) (us : List Value), us.length = ps.length → bindArgs (PySem.W.fnOf x qual params body scope .none kV doc pm an cdv ct) ⟨us, []⟩ = pure (ps.zip us))
    (hb : ∀ (cdv : Value) (A : Around) (outer : List PySem.Env) (s : Shared) (H : Hp) (E : XK), Room k (A.deeper (PyProof.Rows.envOfC qual scope s.heap.objs.size f cdv)) →
      DSs (cxOf (L2.CX P w) P w K mg base N qual scope f cdv A outer s H E) (fun cls d _ H' => E cls d H') body b) : Cal P w K mg base (k + 1) x ps.length (fnD N.length ps.length b) :=
  ⟨f, fd, ps, fn_ok F S hp hb, hm, F.kp, F.bindsN hbi⟩
theorem calio_of {N ps : List Str} {q : Str} {k : Nat} {b : Env → R Fl} (F : FunD K x qual params body scope [] [] f fd) (S : FnScope N (q :: ps) scope) (hm : mg x = some (.ref f)) (hp : ps.length + 1 ≤ N.length)
    (hbi : ∀ (kV doc pm : Value) (an : Option Addr) (cdv ct : Value) (us : List Value), us.length = (q :: ps).length → bindArgs (PySem.W.fnOf x qual params body scope .none kV doc pm an cdv ct) ⟨us, []⟩ = pure ((q :: ps).zip us))
    (hb : ∀ (cdv : Value) (A : Around) (outer : List PySem.Env) (s : Shared) (H : Hp) (E : XK), Room k (A.deeper (PyProof.Rows.envOfC qual scope s.heap.objs.size f cdv)) →
      DSs (cxOf (L2.CX P w) P w K mg base N qual scope f cdv A outer s H E) (fun cls d _ H' => E cls d H') body b) : CalIO P w K mg base (k + 1) x ps.length (fnIO N.length ps.length b) :=
  ⟨f, fd, q :: ps, fnio_ok F S hp hb, hm, F.kp, F.bindsN hbi⟩
end
end DL

end
section
namespace DL
open PySem L2
/-- a law that is a function of data: true of every list of ints -/
theorem walk_data {l : PySem.W.OpenLaw} {n k : Nat} {q : Program} {loose : List Str} {XP : (Str → Option Value) → Heap → Prop} {YP : World → Heap → Prop} {d : DefRec} {x : Str} {G : List D → R D}
    (hn : l.most = some n) (hn2 : n ≤ sizeLine) (hdf : d.params.defaults = []) (hr : Room k PySem.callerA)
    (hF : ∀ (w : World) (mg : Str → Option Value) (fa : Addr) (h : Heap), YP w h → h.Ns mainGlobals mg → mg d.name = some (.ref fa) →
      ∃ (K : PySem.W.Frag) (fd : FuncData), K.In h ∧ (∀ (s : Shared) (u : Value), BindsTo s fd ⟨[u], []⟩ [(x, u)]) ∧ ∀ base : Heap, K.In base → base.Ns mainGlobals mg → FnOk l.prog w K mg base (L2.CX l.prog w) k fa fd [x] (SpF K mg 1 G))
    (hG : ∀ ns : List Int, ns.length ≤ n → G [.lst (ns.map D.int)] = .ok (.bl true)) : PySem.W.WalkO q loose XP YP l.row.toRowW d [] (fun f vs => PySem.call f vs) := by
  refine Att.attach_call hn hdf fun w s0 s1 mg mb fa o pm cd doc a vs ns Gr Y ho hd hcd hmg hob hin hle hge => ?_
  obtain ⟨K, fd, KX, hb, hok⟩ := hF w mg fa _ Y Gr.T.g hmg
  refine law_call KX Gr.T.g Gr.T.b Gr.T.builtins Gr.T.nolimit hge hob hin (Nat.le_trans hle hn2) hr hok hb (fun H _ hS => ?_) fun H e s' c => ?_
  · refine ⟨rfl, fun _ => False, [.lst (ns.map D.int)], fun a z => z.elim, ?_, ?_⟩
    · unfold RepL
      refine ⟨.ref a, [], rfl, ?_, by unfold RepL; rfl⟩
      unfold Rep
      refine ⟨a, ns.map V.int, rfl, ?_, ?_⟩
      · rcases hS with z | z
        · exact .inl ⟨z, id⟩
        · exact .inr z
      · clear hS hle hin
        induction ns with
        | nil => unfold RepL; rfl
        | cons i r ih =>
          rw [List.map_cons, List.map_cons]
          unfold RepL
          exact ⟨_, _, rfl, by unfold Rep; rfl, ih⟩
    · rw [hG ns hle]
      intro v H' _ h
      unfold Rep at h
      exact h
  · obtain ⟨_, _, _, _, _, _, _, _, _, _, _, _, z⟩ := c
    exact z
end DL

end
section
namespace DL
open PySem L2

/-! ### dicts of ints and texts -/
def keyD : D → Option Key
  | .int i => some (.inl i)
  | .str x => some (.inr x)
  | _ => none
def getD_ (kvs : List (Key × D)) (k : Key) : Option D := (kvs.find? fun kv => decide (kv.1 = k)).map (·.2)
def putD (kvs : List (Key × D)) (k : Key) (v : D) : List (Key × D) :=
  if (kvs.any fun kv => decide (kv.1 = k)) = true then kvs.map (fun kv => if kv.1 = k then (kv.1, v) else kv) else kvs ++ [(k, v)]
section
variable {K : PySem.W.Frag} {H : Hp} {A : Addr → Prop}
theorem keyD_v {d : D} {k : Key} {v : V} (e : keyD d = some k) (h : RepB K H A d v) : v = kV k := by
  cases d with
  | int i => cases e; rw [RepB.int h]; rfl
  | str i => cases e; rw [RepB.str h]; rfl
  | _ => cases e
theorem repK_cons {k : Key} {d : D} {ds : List (Key × D)} {vs : List (Key × V)} (h : RepK K H A ((k, d) :: ds) vs) : ∃ v r, vs = (k, v) :: r ∧ Rep K H A d v ∧ RepK K H A ds r := by
  unfold RepK at h
  exact h
theorem repK_mk {k : Key} {d : D} {ds : List (Key × D)} {v : V} {r : List (Key × V)} (h : Rep K H A d v) (h2 : RepK K H A ds r) : RepK K H A ((k, d) :: ds) ((k, v) :: r) := by
  unfold RepK
  exact ⟨v, r, rfl, h, h2⟩
theorem repK_get : ∀ {ds : List (Key × D)} {vs : List (Key × V)} (k : Key), RepK K H A ds vs → (∀ d, getD_ ds k = some d → ∃ v, valV vs k = some v ∧ Rep K H A d v) ∧ (getD_ ds k = none → valV vs k = none)
  | [], vs, k, h => by
    unfold RepK at h
    subst h
    exact ⟨fun d e => (nomatch e), fun _ => rfl⟩
  | (q, d) :: ds, vs, k, h => by
    obtain ⟨v, r, e, h1, h2⟩ := repK_cons h
    subst e
    obtain ⟨i1, i2⟩ := repK_get k h2
    by_cases hq : q = k
    · have e1 : getD_ ((q, d) :: ds) k = some d := by simp [getD_, List.find?_cons, hq]
      have e2 : valV ((q, v) :: r) k = some v := valV_pos hq
      rw [e1, e2]
      exact ⟨fun d' e => by cases e; exact ⟨v, rfl, h1⟩, fun e => (nomatch e)⟩
    · have e1 : getD_ ((q, d) :: ds) k = getD_ ds k := by simp [getD_, List.find?_cons, hq]
      have e2 : valV ((q, v) :: r) k = valV r k := valV_neg hq
      rw [e1, e2]
      exact ⟨i1, i2⟩
theorem repK_any : ∀ {ds : List (Key × D)} {vs : List (Key × V)} (k : Key), RepK K H A ds vs → (vs.any fun kv => decide (kv.1 = k)) = ds.any fun kv => decide (kv.1 = k)
  | [], vs, k, h => by unfold RepK at h; subst h; rfl
  | (q, d) :: ds, vs, k, h => by
    obtain ⟨v, r, e, h1, h2⟩ := repK_cons h
    subst e
    rw [List.any_cons, List.any_cons, repK_any k h2]
theorem repK_map {d : D} {v : V} (k : Key) (hd : Rep K H A d v) : ∀ {ds : List (Key × D)} {vs : List (Key × V)}, RepK K H A ds vs → RepK K H A (ds.map fun kv => if kv.1 = k then (kv.1, d) else kv) (vs.map fun kv => if kv.1 = k then (kv.1, v) else kv)
  | [], vs, h => by unfold RepK at h; subst h; unfold RepK; rfl
  | (q, e) :: ds, vs, h => by
    obtain ⟨u, r, ev, h1, h2⟩ := repK_cons h
    subst ev
    rw [List.map_cons, List.map_cons]
    by_cases hq : q = k
    · simp only [if_pos hq]
      exact repK_mk hd (repK_map k hd h2)
    · simp only [if_neg hq]
      exact repK_mk h1 (repK_map k hd h2)
theorem repK_snoc {d : D} {v : V} (k : Key) (hd : Rep K H A d v) : ∀ {ds : List (Key × D)} {vs : List (Key × V)}, RepK K H A ds vs → RepK K H A (ds ++ [(k, d)]) (vs ++ [(k, v)])
  | [], vs, h => by
    unfold RepK at h
    subst h
    exact repK_mk hd (by unfold RepK; rfl)
  | (q, e) :: ds, vs, h => by
    obtain ⟨u, r, ev, h1, h2⟩ := repK_cons h
    subst ev
    exact repK_mk h1 (repK_snoc k hd h2)
theorem repK_put {ds : List (Key × D)} {vs : List (Key × V)} {d : D} {v : V} (k : Key) (h : RepK K H A ds vs) (hd : Rep K H A d v) : RepK K H A (putD ds k d) (putK vs k v) := by
  unfold putD putK
  rw [repK_any k h]
  split
  · exact repK_map k hd h
  · exact repK_snoc k hd h
theorem repK_len : ∀ {ds : List (Key × D)} {vs : List (Key × V)}, RepK K H A ds vs → vs.length = ds.length
  | [], vs, h => by unfold RepK at h; subst h; rfl
  | (q, e) :: ds, vs, h => by
    obtain ⟨u, r, ev, h1, h2⟩ := repK_cons h
    subst ev
    rw [List.length_cons, List.length_cons, repK_len h2]
end
section
variable {X : Cx} {W : WX} {e a b c o : Expr} {es : List Expr} {p pos apos cpos : Pos} {f fa fb fc fo : Env → R D} {g : Env → R (List D)} {x : Str} {k : Nat}
/-- the dict that a slot holds and may change -/
def ownK (r : Env) (i : Nat) : Option (Slot × List (Key × D)) := match r[i]? with
  | some s => match s.cont with
    | some (.dct xs) => some (s, xs)
    | _ => none
  | none => none
theorem ownK_ok {r : Env} {i : Nat} {s : Slot} {xs : List (Key × D)} (e : ownK r i = some (s, xs)) : r[i]? = some s ∧ s.cont = some (.dct xs) := by
  unfold ownK at e
  cases q : r[i]? with
  | none => rw [q] at e; cases e
  | some s' =>
    rw [q] at e
    simp only at e
    split at e
    · rename_i xs' q2
      cases e
      exact ⟨rfl, q2⟩
    · cases e
def putS (i : Nat) (fk : Env → R D) (fe : Env → R D) : Env → R Fl := fun r => (fe r).bind fun d => (R.ofO (ownK r i)).bind fun s => (fk r).bind fun k => (R.ofO (keyD k)).bind fun k => if s.2.length < sizeLine then .ok (.nx (r.set i (s.1.put (.dct (putD s.2 k d))))) else .stk
theorem s_dput (i : Nat) {ix : Expr} {p2 : Pos} {fk fe : Env → R D} (hr : Room k X.A) (h : DP X W e fe) (h2 : DB X W ix fk) (hN : X.N[i]? = some x := by rfl) (hv : Vis X.env.scope x := by first | exact Or.inl rfl | exact Or.inr (Or.inl rfl) | exact Or.inr (Or.inr rfl)) (hd : (x == ("__debug__" : Str)) = false := by decide)
    (hcd : (x == ("__classdict__" : Str)) = false := by decide) (hs : swapsWith e (some (.Subscript (.Name x p) ix p2)) pos.line X.env = pure false := by rfl) : DS X W (.Assign [.Subscript (.Name x p) ix p2] e pos) (putS i fk fe) := by
  obtain ⟨t, pe, w⟩ := h
  obtain ⟨t2, pe2, w2⟩ := h2
  refine ⟨_, ps_dput (by have := hr.units0; have := hr.units; omega) (pe_var (i := i) hN hv hd hcd) pe2 pe hs, fun F os r σ H D R S => w F os r σ H _ R (S.bind.imp fun d S v H1 s1 h1 => ?_)⟩
  obtain ⟨s0, e0, S⟩ := S.bind.ofO
  obtain ⟨e00, e01⟩ := ownK_ok (s := s0.1) (xs := s0.2) e0
  have R1 := R.same' s1
  obtain ⟨ad, ea, inA, rp⟩ := R1.ownA e00 e01
  refine ⟨_, ea, w2 F os r σ H1 _ R1 (S.bind.imp fun dk S vk H2 s2 h2 => ?_)⟩
  obtain ⟨kk, ek, S2⟩ := Sat.ofO S.bind
  have R2 := R1.same' s2
  obtain ⟨ad', ea', inA', vs, hy, hrk⟩ := R2.ownA e00 e01
  rw [ea] at ea'
  cases ea'
  by_cases hl : s0.2.length < sizeLine
  · rw [if_pos hl] at S2
    have rep' : RepO X.K (upd H2 ad (.dK (putK vs kk v))) (Av F.A0 os) (.dct (putD s0.2 kk d)) ad := ⟨_, upd_same, RepK.keep (fun b o eb nb => ⟨by rw [upd_ne (fun z => nb (by rw [z]; exact inA'))]; exact eb, nb⟩) R2.AOk _ _ (repK_put kk hrk (h1.same s2 R1.AOk))⟩
    obtain ⟨R3, k3⟩ := R2.updOwn e00 e01 ea rep'
    exact ⟨ad, _, rfl, by rw [keyD_v ek h2]; exact DPut.k hy (by rw [repK_len hrk]; exact hl), S2 os σ _ R3 ((Keep.of (s1.trans s2)).trans k3)⟩
  · rw [if_neg hl] at S2
    exact S2.elim
/-- d[k], there -/
def dgetD : D → D → Option D
  | .dct kvs, k => (keyD k).bind fun k => getD_ kvs k
  | .dctF kvs, k => (keyD k).bind fun k => getD_ kvs k
  | _, _ => none
theorem RepB.dctF {K : PySem.W.Frag} {H : Hp} {A : Addr → Prop} {ds : List (Key × D)} {v : V} (h : RepB K H A (.dctF ds) v) : ∃ a o xs, v = .ref a ∧ H a = some (.frz o (.dK xs)) ∧ ¬ A a ∧ RepK K H A ds xs := by
  rcases h with h | ⟨a, e, h⟩
  · unfold Rep at h
    exact h
  · exact h.elim
theorem d_dget (hr : Room k X.A) (ha : DB X W a fa) (hb : DB X W b fb) (hs : NoSl b := by exact fun _ _ => rfl) : DP X W (.Subscript a b pos) (bin dgetD fa fb) := by
  obtain ⟨ta, pa, wa⟩ := ha
  obtain ⟨tb, pb, wb⟩ := hb
  refine ⟨_, pe_dget (by have := hr.units; omega) pa pb hs, fun F os r σ H Q R S => wa F os r σ H _ R (S.bind.imp fun d S v H1 s1 h1 => wb F os r σ H1 _ (R.same' s1) (S.bind.imp fun d2 S v2 H2 s2 h2 => ?_))⟩
  obtain ⟨d3, e3, S3⟩ := Sat.ofO S
  clear S
  cases d with
  | dct kvs =>
    obtain ⟨kk, ek, e3⟩ := Option.bind_eq_some_iff.mp e3
    have R1 := R.same' s1
    obtain ⟨ad, vs, ev, hy, hrk⟩ := RepB.dct (h1.same s2 R1.AOk)
    obtain ⟨u, e4, h4⟩ := (repK_get kk hrk).1 d3 e3
    refine ⟨ad, u, ev, ?_, S3 u H2 (s1.trans s2) h4⟩
    rw [keyD_v ek h2]
    have := DGet.k (k := kk) hy
    rw [e4] at this
    exact this
  | dctF kvs =>
    obtain ⟨kk, ek, e3⟩ := Option.bind_eq_some_iff.mp e3
    have R1 := R.same' s1
    obtain ⟨ad, o, vs, ev, hy, _, hrk⟩ := RepB.dctF (h1.same s2 R1.AOk)
    obtain ⟨u, e4, h4⟩ := (repK_get kk hrk).1 d3 e3
    refine ⟨ad, u, ev, ?_, S3 u H2 (s1.trans s2) h4⟩
    rw [keyD_v ek h2, ← e4]
    exact .inl ⟨vs, kk, .inr ⟨o, hy⟩, rfl, rfl⟩
  | _ => cases e3
def rInDict (n : Bool) : R2 := fun y x H Q => ∃ a o, x = V.ref a ∧ DGet H a y o ∧ Q (.bl (if n then !o.isSome else o.isSome)) H
theorem op_notInDict (hr : Room k X.A) : OpR X (compareOp .NotIn) (rInDict true) := by
  intro pins s σ H y x v u Q I ry rx h
  obtain ⟨ad, ov, ex, gg, q⟩ := h
  subst ex
  obtain rfl : u = Value.ref ad := rx
  exact d_notIn (by have := hr.units; omega) I gg ry fun s3 I3 => ⟨.bl (!ov.isSome), H, I3, rfl, q⟩
def inDictD (n : Bool) : D → D → Option D
  | k, .dct kvs => (keyD k).map fun k => .bl (if n then !(getD_ kvs k).isSome else (getD_ kvs k).isSome)
  | k, .dctF kvs => (keyD k).map fun k => .bl (if n then !(getD_ kvs k).isSome else (getD_ kvs k).isSome)
  | _, _ => none
theorem o_inDict {n : Bool} : Op2 X (rInDict n) (inDictD n) := by
  intro A H x y v w d Q ak e h1 h2 q
  cases y with
  | dct kvs =>
    obtain ⟨kk, ek, e2⟩ := Option.map_eq_some_iff.mp e
    subst e2
    obtain ⟨ad, vs, ev, hy, hrk⟩ := RepB.dct h2
    have es : (valV vs kk).isSome = (getD_ kvs kk).isSome := by
      cases q2 : getD_ kvs kk with
      | none =>
        rw [(repK_get kk hrk).2 q2]
        rfl
      | some d =>
        obtain ⟨u, e4, _⟩ := (repK_get kk hrk).1 d q2
        rw [e4]
        rfl
    refine ⟨ad, valV vs kk, ev, by rw [keyD_v ek h1]; exact DGet.k hy, ?_⟩
    rw [es]
    exact q _ H Same.of_eq (by unfold Rep; rfl)
  | dctF kvs =>
    obtain ⟨kk, ek, e2⟩ := Option.map_eq_some_iff.mp e
    subst e2
    obtain ⟨ad, o, vs, ev, hy, _, hrk⟩ := RepB.dctF h2
    have es : (valV vs kk).isSome = (getD_ kvs kk).isSome := by
      cases q2 : getD_ kvs kk with
      | none =>
        rw [(repK_get kk hrk).2 q2]
        rfl
      | some d =>
        obtain ⟨u, e4, _⟩ := (repK_get kk hrk).1 d q2
        rw [e4]
        rfl
    refine ⟨ad, valV vs kk, ev, by rw [keyD_v ek h1]; exact .inl ⟨vs, kk, .inr ⟨o, hy⟩, rfl, rfl⟩, ?_⟩
    rw [es]
    exact q _ H Same.of_eq (by unfold Rep; rfl)
  | _ => cases e
/-- in, not in: of texts, lists, tuples, dicts -/
def inA (n : Bool) (x y : D) : Option D := match y with
  | .dct _ => inDictD n x y
  | .dctF _ => inDictD n x y
  | _ => inB n x y
theorem op_notInA (hr : Room k X.A) : OpR X (compareOp .NotIn) (fun x y H Q => rIn3 X.K true x y H Q ∨ rInDict true x y H Q) := opR_or (op_notIn3 (u65 hr)) (op_notInDict hr)
theorem o_inA {n : Bool} : Op2 X (fun x y H Q => rIn3 X.K n x y H Q ∨ rInDict n x y H Q) (inA n) :=
  Op2.or o_in o_inDict fun x y d e => by
    cases y with
    | dct _ => exact .inr e
    | dctF _ => exact .inr e
    | _ => exact .inl e
/-- list(d): its keys -/
def keyV : Key → D
  | .inl i => .int i
  | .inr x => .str x
def lstKD : List D → Option D
  | [.dct kvs] => some (.lst (kvs.map fun kv => keyV kv.1))
  | [.dctF kvs] => some (.lst (kvs.map fun kv => keyV kv.1))
  | _ => none
def rLstD : List V → Hp → VK → Prop := fun xs H Q => ∃ (a : Addr) (kvs : List (Key × V)), xs = [V.ref a] ∧ Rd H a (.dK kvs) ∧ ∀ p, H p = none → Q (.ref p) (upd H p (.lst (kvs.map fun kv => kV kv.1)))
end
end DL

end
section
namespace DL
open PySem L2

/-! ### sorted, of texts, any number -/
/-- what a sort of values is asked -/
def SortOk (X : Cx) (vs : List Value) (ltv : Value → Value → Bool) (h : Heap) : Prop :=
  ∀ (A : Around) (s : Shared), (∀ b o, h.get? b = some o → s.heap.get? b = some o) → ∃ κ,
    (∀ (Q : PyProof.Rows.SortKind → Shared → Prop) (E : Value → Shared → Prop), Q κ s → wpAny (model X.prog X.w) A (PyProof.Rows.keyKind' vs.toArray) Q E s) ∧
    SrtO.Cmp X.prog X.w A s κ (fun p => p.fst ∈ vs) (SrtO.lt2 ltv)
/-- the order of texts -/
def cpsV : Value → List Nat
  | .str a _ => a.cps.toList
  | _ => []
def ltS (u v : Value) : Bool := decide (cpsV u < cpsV v)
theorem swoS : SrtO.Swo ltS where
  asym x y h := by
    have := of_decide_eq_true h
    exact decide_eq_false (List.lt_asymm this)
  tr x y z h1 h2 := by
    have h1 := of_decide_eq_false h1
    have h2 := of_decide_eq_false h2
    exact decide_eq_false fun h => (List.not_lt.mpr (List.le_trans (List.not_lt.mp h1) (List.not_lt.mp h2))) h
def leS (a b : Str) : Bool := !decide (b.cps.toList < a.cps.toList)
theorem leS_iff {a b : Str} : leS a b = true ↔ a.cps.toList ≤ b.cps.toList := by
  unfold leS
  rw [Bool.not_eq_true', decide_eq_false_iff_not]
  exact List.not_lt
theorem leS_antisymm {a b : Str} (h1 : leS a b = true) (h2 : leS b a = true) : a = b := by
  have e := List.le_antisymm (leS_iff.mp h1) (leS_iff.mp h2)
  cases a
  cases b
  congr 1
  exact Array.toList_inj.mp e
def sortStr (l : List Str) : List Str := l.mergeSort leS
theorem sortStr_pw (l : List Str) : (sortStr l).Pairwise fun a b => leS a b = true :=
  List.pairwise_mergeSort (le := leS) (fun a b c h1 h2 => leS_iff.mpr (List.le_trans (leS_iff.mp h1) (leS_iff.mp h2))) (fun a b => by
    have : leS a b = true ∨ leS b a = true := by rw [leS_iff, leS_iff]; exact List.le_total _ _
    cases this with
    | inl e => rw [e]; rfl
    | inr e => rw [e]; exact Bool.or_true _) l
theorem sortStr_uniq {l ys : List Str} (p : ys.Perm l) (h : ys.Pairwise fun a b => leS a b = true) : ys = sortStr l :=
  List.Perm.eq_of_pairwise (fun a b _ _ h1 h2 => leS_antisymm h1 h2) h (sortStr_pw l) (p.trans (List.mergeSort_perm l leS).symm)
def rSortedSA (K : PySem.W.Frag) : List V → Hp → VK → Prop := fun vs H Q => ∃ (a : Addr) (xs : List Str), vs = [V.ref a] ∧ SqL K H a (xs.map V.str) ∧ ∀ p : Addr, H p = none → Q (.ref p) (upd H p (.lst ((sortStr xs).map V.str)))
/-- sorted(list of texts) -/
def strsOf : List D → Option (List Str)
  | [] => some []
  | .str x :: r => (strsOf r).map fun l => x :: l
  | _ :: _ => none
def srtStrD : List D → Option D
  | [.lst ds] => (strsOf ds).map fun ss => .lst ((sortStr ss).map D.str)
  | _ => none
theorem repL_strs' {K : PySem.W.Frag} {H : Hp} {A : Addr → Prop} : ∀ ss : List Str, RepL K H A (ss.map D.str) (ss.map V.str)
  | [] => by unfold RepL; rfl
  | s :: r => by
    rw [List.map_cons, List.map_cons]
    unfold RepL
    exact ⟨_, _, rfl, by unfold Rep; rfl, repL_strs' r⟩
end DL

end
section
namespace DL
open PySem L2

/-! ### sorted, of tuples of ints that are not empty, any number -/
def ltI (h : Heap) (u v : Value) : Bool := decide (TS.intsOf h u < TS.intsOf h v)
def TupsNe (h : Heap) (vs : List Value) : Prop := ∀ v ∈ vs, ∃ ns, TS.TupInts h v ns ∧ ns ≠ []
def TupI (K : PySem.W.Frag) (H : Hp) (x : V) (ns : List Int) : Prop := ∃ t, x = .ref t ∧ SqT K H t (ns.map V.int)
def rSortedTA (K : PySem.W.Frag) : List V → Hp → VK → Prop := fun vs H Q => ∃ (a : Addr) (xs : List V), vs = [V.ref a] ∧ SqL K H a xs ∧ (∀ x ∈ xs, ∃ ns, DL.TupI K H x ns ∧ ns ≠ []) ∧
  ∀ (ys : List V) (p : Addr), ys.Perm xs → (ys.Pairwise fun x y => ∀ n m, DL.TupI K H x n → DL.TupI K H y m → n ≤ m) → H p = none → Q (.ref p) (upd H p (.lst ys))
/-- sorted(list of tuples of ints) -/
def intsOf : List D → Option (List Int)
  | [] => some []
  | .int x :: r => (intsOf r).map fun l => x :: l
  | _ :: _ => none
def tupsOf : List D → Option (List (List Int))
  | [] => some []
  | .tup x :: r => (intsOf x).bind fun ns => if ns = [] then none else (tupsOf r).map fun l => ns :: l
  | _ :: _ => none
def leI (a b : List Int) : Bool := !decide (b < a)
def sortInts (l : List (List Int)) : List (List Int) := l.mergeSort leI
def tupD (ns : List Int) : D := .tup (ns.map D.int)
def srtTupD : List D → Option D
  | [.lst ds] => (tupsOf ds).map fun ss => .lst ((sortInts ss).map tupD)
  | _ => none
def srtD (l : List D) : Option D := match srtStrD l with
  | some d => some d
  | none => srtTupD l
end DL

end
section
namespace DL
open PySem L2

/-! ### x[::-1] of a text -/
def revStr (x : Str) : Str := ⟨x.cps.toList.reverse.toArray⟩
def tRevS (te : TE) : TE := fun σ H Q => te σ H fun x H1 => ∃ a, x = V.str a ∧ a.length ≤ sizeLine ∧ Q (.str (revStr a)) H1
section
variable {X : Cx} {e : Expr} {te : TE} {k : Nat} {p1 p2 p3 pos : Pos}
def revSD : D → Option D
  | .str x => if x.length ≤ sizeLine then some (.str (revStr x)) else none
  | _ => none
end
end DL

end
section
namespace DL
open PySem L2

/-! ### max of a list of ints -/
def maxLD : List D → Option D
  | [.lst xs] => (intsD xs).bind fun ns => ns.max?.map D.int
  | _ => none
end DL

end
section
namespace DL
open PySem L2

/-! ### a text times a number -/
def rMulS : R2 := fun x y H Q => ∃ (a : Str) (k : Int), x = .str a ∧ y = .int k ∧ k ≤ 1000 ∧ -1000 ≤ k ∧ a.length ≤ 1000 ∧ Q (.str (Txt.mul a k)) H
def mulSD : D → D → Option D
  | .str a, .int k => if k ≤ 1000 ∧ -1000 ≤ k ∧ a.length ≤ 1000 then some (.str (Txt.mul a k)) else none
  | _, _ => none
/-! ### a tuple times a number -/
def rMulT (K : PySem.W.Frag) : R2 := fun x y H Q => rRepT K x y H Q ∨ ∃ (l : Addr) (xs : List V), x = .ref l ∧ y = .int 1 ∧ SqT K H l xs ∧ Q (.ref l) H
def mulTD : D → D → Option D
  | .tup xs, .int k => if xs.isEmpty = false ∧ 1 ≤ k ∧ k ≤ 1000 ∧ xs.length ≤ 1000 then some (.tup (List.replicate k.toNat xs).flatten) else none
  | _, _ => none
/-! ### methods of lists -/
def OpL (X : Cx) (r : V → List V → Hp → VK → Prop) (op : List D → List D → Option D) : Prop := ∀ (A : Addr → Prop) (H : Hp) (x : List D) (xs : List D) (v : V) (vs : List V) (d : D) (Q : VK), AOk A H → op x xs = some d → RepB X.K H A (.lst x) v → Paired (RepB X.K H A) xs vs →
  (∀ u H', Same H H' → Rep X.K H' A d u → Q u H') → r v vs H Q
def asLst : D → Option (List D)
  | .lst x => some x
  | _ => none
def mthL (op : List D → List D → Option D) (fo : Env → R D) (g : Env → R (List D)) : Env → R D := fun r => (fo r).bind fun x => (R.ofO (asLst x)).bind fun z => (g r).bind fun ds => R.ofO (op z ds)
section
variable {X : Cx} {W : WX} {o e : Expr} {es : List Expr} {name : Str} {id : String} {apos cpos : Pos} {fo : Env → R D} {g : Env → R (List D)}
end
/-- l.index(x) -/
def indexLD : List D → List D → Option D
  | ds, [x] => if shp (.lst ds) && shp x then (ds.findIdx? fun y => eqPy y x).map fun j => .int (j : Nat) else none
  | _, _ => none
/-- freezing, as a closed term -/
def frzS (i : Nat) (f : Env → R Fl) : Env → R Fl := fun r => f (frz1 i r)
theorem s_frzS {X : Cx} {W : WX} {sts : List Stmt} (i : Nat) {f : Env → R Fl} (h : DSs X W sts f) : DSs X W sts (frzS i f) := s_frz i h
end DL

end
section
namespace DL
open PySem L2

/-! ### {k: v}, one pair, v plain -/
def dispD (fk fv : Env → R D) : Env → R D := fun r => (fk r).bind fun k => (R.ofO (keyD k)).bind fun k => (fv r).bind fun d => if flatD d = true then .ok (.dct [(k, d)]) else .stk
theorem rep_flat {K : PySem.W.Frag} {H H' : Hp} {A A' : Addr → Prop} {d : D} {v : V} (f : flatD d = true) (h : Rep K H A d v) : Rep K H' A' d v := by
  cases d with
  | non => unfold Rep at h ⊢; exact h
  | bl b => unfold Rep at h ⊢; exact h
  | int b => unfold Rep at h ⊢; exact h
  | str b => unfold Rep at h ⊢; exact h
  | _ => cases f
section
variable {X : Cx} {W : WX} {e a b : Expr} {p pos apos cpos : Pos} {f fa fb : Env → R D} {x y : Str} {k : Nat}
theorem d_disp (ha : DP X W a fa) (hb : DP X W b fb) : DF X W (.Dict [some a] [b] pos) (dispD fa fb) := by
  obtain ⟨ta, pa, wa⟩ := ha
  obtain ⟨tb, pb, wb⟩ := hb
  refine ⟨_, pe_disp (pps_cons pa pb pps_nil) rfl rfl (by simp) (by simp), fun F os r σ H Q R S => ?_⟩
  intro p np
  have R0 := R.same' (same_upd (o := .dK []) np)
  refine wa F os r σ _ _ R0 (S.bind.imp fun d S v H1 s1 h1 => ?_)
  obtain ⟨kk, ek, S2⟩ := Sat.ofO S.bind
  refine wb F os r σ H1 _ (R0.same' s1) (S2.bind.imp fun d2 S v2 H2 s2 h2 => ?_)
  by_cases hf : flatD d2 = true
  · rw [if_pos hf] at S
    have e2 : H2 p = some (.dK []) := (s1.trans s2) p _ upd_same
    have ev : v = kV kk := keyD_v ek (.inl h1)
    refine ⟨e2, [(kk, v2)], by rw [ev]; rfl, by simp, ?_⟩
    refine S p _ (fun b o eb => ?_) np ⟨[(kk, v2)], upd_same, repK_mk (rep_flat hf h2) (by unfold RepK; rfl)⟩
    have hb : b ≠ p := fun z => by rw [z, np] at eb; cases eb
    rw [upd_ne hb]
    exact (s1.trans s2) b o (by rw [upd_ne hb]; exact eb)
  · rw [if_neg hf] at S
    exact S.elim

/-! ### x.pop() of an own list -/
def popE (i : Nat) : Env → R (D × Env) := fun r => (R.ofO (ownL r i)).bind fun s => match s.2.getLast? with
  | some d => .ok (d, r.set i (s.1.put (.lst s.2.dropLast)))
  | none => .stk
/-! ### x, y = a, b: two new lists or dicts, the slots' own -/
def parO (i j : Nat) (fa fb : Env → R D) : Env → R Fl := fun r => (fa r).bind fun d => (R.ne (fb r)).bind fun e => .ok (.nx ((r.set i (.own d)).set j (.own e)))
def Fm.more (F : Fm) (p : Addr) : Fm := ⟨fun a => F.A0 a ∨ a = p, F.H0, F.io⟩
theorem Rel.hold {K : PySem.W.Frag} {F : Fm} {os : List (Option Addr)} {r : Env} {σ : St} {H H' : Hp} (R : Rel K F os r σ H) {p : Addr} (s : Same H H') (n : H p = none) (hT : ∃ o, H' p = some o ∧ isT o = false) : Rel K (F.more p) os r σ H' := by
  have ak := R.AOk
  have np := R.notIn n
  have k : Keep (Av F.A0 os) (Av (F.more p).A0 os) H H' := fun b o e nb => ⟨s b o e, fun z => by
    rcases z with z | z
    · rcases z with z | z
      · exact nb (.inl z)
      · rw [z, n] at e
        cases e
    · exact nb (.inr z)⟩
  have ho : ∀ (j : Nat) (a : Addr), os[j]? = some (some a) → H' a = H a := fun j a e => by
    obtain ⟨o, h1, _⟩ := ak a (.inr (List.mem_of_getElem? e))
    rw [h1]
    exact s _ _ h1
  refine ⟨R.lens, R.leno, fun i sl v o e1 e2 e3 => (R.slot i sl v o e1 e2 e3).keep k ak fun a z => ho i a (by rw [e3, z]), R.inj, fun i a e z => ?_, fun a z => ?_, fun b o e nb => s _ _ (R.same b o e nb), R.new⟩
  · rcases z with z | z
    · exact R.out i a e z
    · exact np (.inr (by rw [← z]; exact List.mem_of_getElem? e))
  · rcases z with z | z
    · obtain ⟨o, h1, h2⟩ := R.aok a z
      exact ⟨o, s _ _ h1, h2⟩
    · subst z
      exact hT
/-- x, y = a, b: a new list or dict, x's own, and a value -/
def parOS (i j : Nat) (fa fb : Env → R D) : Env → R Fl := fun r => (fa r).bind fun d => (R.ne (fb r)).bind fun e => .ok (.nx ((r.set i (.own d)).set j (.sh e)))
end
end DL

end
section
namespace DL
open PySem L2 PyProof.Rows
/-! ### a op1 b op2 c op3 d -/
def tChain3 (r r' r'' : R2) (ta tb tc td : TE) : TE := fun σ H Q => ta σ H fun x H1 => tb σ H1 fun y H2 => r x y H2 fun z H3 => ∃ k, z = .bl k ∧
  (if k = true then tc σ H3 fun w' H4 => r' y w' H4 fun z2 H5 => ∃ k2, z2 = .bl k2 ∧ (if k2 = true then td σ H5 fun u H6 => r'' w' u H6 Q else Q (.bl false) H5) else Q (.bl false) H3)
section
variable {X : Cx} {W : WX} {a b c d : Expr} {pos : Pos} {fa fb fc fd : Env → R D}
def chn3 (o1 o2 o3 : D → D → Option D) (fa fb fc fd : Env → R D) : Env → R D := fun r => (fa r).bind fun x => (fb r).bind fun y => (R.ofO (o1 x y)).bind fun d => (R.ofO (asB d)).bind fun k =>
  if k = true then (fc r).bind fun z => (R.ofO (o2 y z)).bind fun d => (R.ofO (asB d)).bind fun k2 => if k2 = true then (fd r).bind fun u => R.ofO (o3 z u) else .ok (.bl false) else .ok (.bl false)
end
/-! ### x.join(texts) -/
def joinD (x : Str) : List D → Option D
  | [.lst ds] => (strsOf ds).bind fun ys => if (ys.map (·.length)).sum + ys.length * x.length ≤ 16777216 then some (.str (Txt.join x ys)) else none
  | [.tup ds] => (strsOf ds).bind fun ys => if (ys.map (·.length)).sum + ys.length * x.length ≤ 16777216 then some (.str (Txt.join x ys)) else none
  | _ => none
end DL

end
section
set_option maxHeartbeats 2000000
namespace DL
open PySem L2

/-! ### list(zip(a, b)) of two lists -/
abbrev lsO (acc : Array Value) (c : Nat) : Obj := { cls := .type "list", dict := none, data := .seq acc c, slots := #[] }
section
variable {prog : Program} {w : World} {A : Around} {s : Shared} {R : Result → Shared → Prop} {S z TI TO : Addr} {f0 : Value}
end
section
variable {prog : Program} {w : World} {A : Around} {E : Value → Shared → Prop} {s : Shared} {z TI TO : Addr} {f0 : Value}
end

/-- what the zip is like, its tuple held or not -/
def ZlSt (h : Heap) (z TI TO i1 i2 l1 l2 S : Addr) (i : Nat) : Prop :=
  IsPair h TI (.ref i1) (.ref i2) ∧ h.IsListIter i1 l1 i ∧ h.IsListIter i2 l2 i ∧
  ((IsZip h z TI TO .none ∧ ∃ a b, IsPair h TO a b) ∨ ∃ T f oT, IsZipHeld h z TI TO T f ∧ h.get? T = some oT ∧ T ≠ z ∧ T ≠ i1 ∧ T ≠ i2 ∧ T ≠ S)
section
variable {prog : Program} {w : World} {A : Around} {E : Value → Shared → Prop} {s : Shared} {z TI TO i1 i2 l1 l2 S : Addr} {i : Nat} {xs ys : Array Value}
theorem ZlSt.keep {h h' : Heap} (st : ZlSt h z TI TO i1 i2 l1 l2 S i) (hS : S ∉ [z, TI, TO, i1, i2]) (k : ∀ b o, b ≠ S → h.get? b = some o → h'.get? b = some o) : ZlSt h' z TI TO i1 i2 l1 l2 S i := by
  simp only [List.mem_cons, List.not_mem_nil, or_false, not_or] at hS
  obtain ⟨a1, a2, a3, a4, a5⟩ := hS
  obtain ⟨q1, q2, q3, q4⟩ := st
  refine ⟨k _ _ (Ne.symm a2) q1, q2.at fun o e => k _ o (Ne.symm a4) e, q3.at fun o e => k _ o (Ne.symm a5) e, ?_⟩
  rcases q4 with ⟨hz, a, b, hTO⟩ | ⟨T, f, oT, hz, hT, r1, r2, r3, r4⟩
  · exact .inl ⟨k _ _ (Ne.symm a1) hz, a, b, k _ _ (Ne.symm a3) hTO⟩
  · exact .inr ⟨T, f, oT, k _ _ (Ne.symm a1) hz, k _ _ r4 hT, r1, r2, r3, r4⟩
end

/-- new tuples, one a row -/
inductive Laid (H0 : Hp) : Hp → List V → List (List V) → Prop
  | nil : Laid H0 H0 [] []
  | snoc {H : Hp} {vs : List V} {rows : List (List V)} {T : Addr} {row : List V} : Laid H0 H vs rows → H T = none → Laid H0 (upd H T (.tup row)) (vs ++ [.ref T]) (rows ++ [row])
theorem Laid.same {H0 H : Hp} {vs : List V} {rows : List (List V)} (l : Laid H0 H vs rows) : Same H0 H := by
  induction l with
  | nil => exact Same.refl _
  | snoc l n ih => exact ih.trans (same_upd n)
theorem Laid.len {H0 H : Hp} {vs : List V} {rows : List (List V)} (l : Laid H0 H vs rows) : vs.length = rows.length := by
  induction l with
  | nil => rfl
  | snoc l n ih => simp [ih]
theorem AOk.same' {A : Addr → Prop} {H H' : Hp} (a : AOk A H) (s : Same H H') : AOk A H' := fun b hb => by
  obtain ⟨o, e, t⟩ := a b hb
  exact ⟨o, s _ _ e, t⟩
theorem Laid.rep {K : PySem.W.Frag} {H0 H : Hp} {A : Addr → Prop} {vs : List V} {rows : List (List V)} (l : Laid H0 H vs rows) (ak : AOk A H0) : ∀ {ds : List (List D)}, ds.length = rows.length → (∀ (i : Nat) row d, rows[i]? = some row → ds[i]? = some d → RepL K H0 A d row) → RepL K H A (ds.map D.tup) vs := by
  induction l with
  | nil =>
    intro ds e _
    have : ds = [] := List.length_eq_zero_iff.mp e
    subst this
    unfold RepL; rfl
  | @snoc H vs rows T row l n ih =>
    intro ds e h
    rcases List.eq_nil_or_concat ds with z | ⟨ds', d, z⟩
    · subst z
      simp at e
    · rw [List.concat_eq_append] at z
      subst z
      have el : ds'.length = rows.length := by simpa using e
      have ak1 := AOk.same' ak l.same
      have h1 := ih el fun i r d' e1 e2 => h i r d' (by rw [List.getElem?_append_left (List.getElem?_eq_some_iff.mp e1).1]; exact e1) (by rw [List.getElem?_append_left (List.getElem?_eq_some_iff.mp e2).1]; exact e2)
      have h2 := h rows.length row d (by simp) (by rw [← el]; simp)
      rw [List.map_append]
      refine repL_append (h1.same (same_upd n) ak1) ?_
      show RepL K _ A [D.tup d] [V.ref T]
      unfold RepL
      exact ⟨_, [], rfl, rep_newtup ak1 (h2.same l.same ak) n, by unfold RepL; rfl⟩

section
variable {X : Cx} {pins : List (Addr × Obj)} {σ : St}
def iLz (K : PySem.W.Frag) (ta : TA) : TE := fun σ H Q => ta σ H fun vs H1 => ∃ l1 l2 xs ys, vs = [V.ref l1, V.ref l2] ∧ SqL K H1 l1 xs ∧ SqL K H1 l2 ys ∧ ∀ H2 us p, Laid H1 H2 us (List.zipWith (fun x y => [x, y]) xs ys) → H2 p = none → Q (.ref p) (upd H2 p (.lst us))
end
def lzD : List D → Option D
  | [.lst xs, .lst ys] => some (.lst (List.zipWith (fun x y => D.tup [x, y]) xs ys))
  | _ => none
section
variable {X : Cx} {W : WX} {a b : Expr} {p p2 pos pos2 : Pos} {g : Env → R (List D)}
end
end DL

end
section
namespace DL
open PySem L2
/-! ### min of a list of ints, l.count(int) -/
def minLD : List D → Option D
  | [.lst xs] => (intsD xs).bind fun ns => ns.min?.map D.int
  | _ => none
def countLD : List D → List D → Option D
  | ds, [.int k] => (intsD ds).map fun ns => .int (ns.count k : Nat)
  | _, _ => none
end DL

end
section
set_option maxHeartbeats 1000000
namespace DL
open PySem L2
/-! ### x, y, z, w = a, b, c, d: a value and three new lists or dicts, the slots' own -/
def par4 (i j k l : Nat) (fa fb fc fd : Env → R D) : Env → R Fl := fun r => (fa r).bind fun a => (fb r).bind fun b => (R.ne (fc r)).bind fun c => (R.ne (fd r)).bind fun d => .ok (.nx ((((r.set i (.sh a)).set j (.own b)).set k (.own c)).set l (.own d)))
theorem RepO.sub {K : PySem.W.Frag} {H : Hp} {A A' : Addr → Prop} {d : D} {b : Addr} (h : RepO K H A d b) (ak : AOk A H) (s : ∀ a, A' a → A a) : RepO K H A' d b :=
  RepO.keepNe (fun c o e nc => ⟨e, fun z => nc (s c z)⟩) ak h rfl
section
variable {X : Cx} {W : WX} {a b c d : Expr} {fa fb fc fd : Env → R D} {x y z u : Str} {pos : Pos}
end
end DL

end
section
namespace DL
open PySem L2
section
variable {X : Cx} {W : WX}
/-! ### s.find(t), s.endswith(t), s.index(t) -/
def find1D (x : Str) : List D → Option D
  | [.str y] => some (.int (Txt.find x y))
  | _ => none
def endsD (x : Str) : List D → Option D
  | [.str y] => some (.bl (Txt.endswith x y))
  | _ => none
def sindexD (x : Str) : List D → Option D
  | [.str y] => (Builtin.Str.occurrences x y 0 x.length 1).head?.map fun i => .int (i : Nat)
  | _ => none
/-! ### any, all of a list of truth values -/
def blsD : List D → Option (List Bool)
  | [] => some []
  | .bl i :: r => (blsD r).map fun l => i :: l
  | _ :: _ => none
def anyD : List D → Option D
  | [.lst xs] => (blsD xs).map fun l => .bl (l.any id)
  | _ => none
def allD : List D → Option D
  | [.lst xs] => (blsD xs).map fun l => .bl (l.all id)
  | _ => none
/-! ### list(range(..)), tuple(range(..)) -/
def rgOk (i j : Int) : Bool := decide (0 ≤ i ∧ i ≤ 16777216 ∧ 0 ≤ j ∧ j ≤ 16777216)
def lrg1D : List D → Option D
  | [.int n] => if rgOk 0 n = true then some (.lst (rngL 0 (n - 0).toNat)) else none
  | _ => none
def lrg2D : List D → Option D
  | [.int i, .int j] => if rgOk i j = true then some (.lst (rngL i (j - i).toNat)) else none
  | _ => none
def trg1D : List D → Option D
  | [.int n] => if rgOk 0 n = true then some (.tup (rngL 0 (n - 0).toNat)) else none
  | _ => none
def trg2D : List D → Option D
  | [.int i, .int j] => if rgOk i j = true then some (.tup (rngL i (j - i).toNat)) else none
  | _ => none
section
variable {a b : Expr} {p p2 pos pos2 : Pos} {fa fb : Env → R D}
end
end
end DL

end
section
namespace DL
open PySem L2

/-! ### list comprehensions of two clauses -/
def lc2P (g : D → Env → R Env) (c : Env → R Bool) (h1 : Env → R (List D)) (vs1 : List Nat) (g1 : D → Env → R Env) (c1 : Env → R Bool) (f : Env → R D) (r0 : Env) : List D → R (List D)
  | [] => .ok []
  | x :: xs => (R.ne (g x r0)).bind fun r1 => (R.ne (c r1)).bind fun b => if b = true then (R.ne (h1 r1)).bind fun its => if noOwn vs1 r1 = true then (R.ne (lcP g1 c1 f (wipeE r1 vs1) its)).bind fun ds => (R.ne (lc2P g c h1 vs1 g1 c1 f r0 xs)).bind fun es => .ok (ds ++ es) else .stk
      else R.ne (lc2P g c h1 vs1 g1 c1 f r0 xs)
def lc2D (own : List (Str × Nat)) (h : Env → R (List D)) (g : D → Env → R Env) (c : Env → R Bool) (h1 : Env → R (List D)) (vs1 : List Nat) (g1 : D → Env → R Env) (c1 : Env → R Bool) (f : Env → R D) : Env → R D := fun r =>
  if noOwn (own.map (·.2)) r = true then (h r).bind fun items => (R.ne (lc2P g c h1 vs1 g1 c1 f (wipeE r (own.map (·.2))) items)).bind fun ds => if ds.length ≤ sizeLine then .ok (.lst ds) else .stk else .stk
theorem off_mem {K : PySem.W.Frag} {F : Fm} {os os' : List (Option Addr)} {r : Env} {σ σ0 σ' : St} {H : Hp} {vs ks : List Nat} (R : Rel K F os (wipeE r vs) σ H) (hk : ∀ k ∈ ks, k ∈ vs) (o : Off ks σ0 σ' os os') {b : Addr} (z : some b ∈ os) : some b ∈ os' := by
  obtain ⟨j, hj, ej⟩ := List.getElem_of_mem z
  have ej' : os[j]? = some (some b) := by rw [List.getElem?_eq_getElem hj, ej]
  have nk : j ∉ ks := fun hjk => by
    obtain ⟨s0, d0, e0, e0', _⟩ := R.own ej'
    exact wipeE_un (hk j hjk) s0 d0 e0 e0'
  exact List.mem_of_getElem? (((o.2 j nk).2).trans ej')
theorem walk_src {K : PySem.W.Frag} {J : It} {items : List D} {G : (Addr → Prop) → Hp → Prop} (src : Src K J items G) : Walk J items.length (fun H => ∃ A, AOk A H ∧ G A H) (fun i H x H' => i < items.length ∧ J.yld i H x H') :=
  ⟨fun i H hi ⟨A, ak, h⟩ => src.goes A i H ak hi h, fun H ⟨A, ak, h⟩ => src.stops A H ak h, fun i H x H' hi _ y => ⟨hi, y⟩⟩
theorem drop_get {α : Type} {l : List α} {i : Nat} {d : α} (h : l[i]? = some d) : l.drop i = d :: l.drop (i + 1) := by
  obtain ⟨hi, e⟩ := List.getElem?_eq_some_iff.mp h
  rw [List.drop_eq_getElem_cons hi, e]
theorem lc2_snd {X : Cx} {W : WX} {own : List (Str × Nat)} {ks k1 vs1 : List Nat} {h h1 : Env → R (List D)} {g g1 : D → Env → R Env} {c c1 : Env → R Bool} {f : Env → R D}
    (hk : ∀ k ∈ ks, k ∈ own.map (·.2)) (hk1 : ∀ k ∈ k1, k ∈ vs1) (F : Fm) (os : List (Option Addr)) (r : Env) (σ : St) (H : Hp) (Q : VK) (R : Rel X.K F os r σ H)
    (S : Sat (fun d => ∀ p H', Same H H' → H p = none → RepO X.K H' (Ad (Av F.A0 os) p) d p → Q (.ref p) H') (Er X W F) (lc2D own h g c h1 vs1 g1 c1 f r)) :
    tLc2 (cIp X.K X.mg W h) (cG X.K X.mg WF ks g) (cTp X.K X.mg WF c) (cIp X.K X.mg WF h1) (cG X.K X.mg WF k1 g1) (cTp X.K X.mg WF c1) (cP X.K X.mg WF f) (own.map (·.2)) vs1 σ H Q := by
  unfold lc2D at S
  by_cases hv : noOwn (own.map (·.2)) r = true
  · rw [if_pos hv] at S
    have hv' := noOwn_ok hv
    generalize hvs : own.map (·.2) = vs at hk hv hv' S ⊢
    refine ⟨F, os, r, R, S.bind.imp fun items S2 => ?_⟩
    intro J H1 G src s1 g1' D hD
    have R1 := R.same' s1
    have hDH : H D = none := s1.free hD
    have F0 : F.H0 D = none ∨ F.io D := by
      by_cases hio : F.io D
      · exact .inr hio
      · cases q : F.H0 D with
        | none => exact .inl rfl
        | some o =>
          have := R1.same D o q hio
          rw [hD] at this
          cases this
    -- what the whole list must be
    let Fin : List DL.D → Prop := fun ds => ds.length ≤ sizeLine ∧ ∀ p H', Same H H' → H p = none → RepO X.K H' (Ad (Av F.A0 os) p) (.lst ds) p → Q (.ref p) H'
    have S3 : Sat Fin (fun _ _ => False) (DL.R.ne (lc2P g c h1 vs1 g1 c1 f (wipeE r vs) items)) := by
      cases q : lc2P g c h1 vs1 g1 c1 f (wipeE r vs) items with
      | ok ds =>
        rw [q] at S2
        by_cases hl : ds.length ≤ sizeLine
        · have S2 : Sat _ _ (if ds.length ≤ sizeLine then DL.R.ok (DL.D.lst ds) else .stk) := S2
          rw [if_pos hl] at S2
          exact ⟨hl, S2⟩
        · have S2 : Sat _ _ (if ds.length ≤ sizeLine then DL.R.ok (DL.D.lst ds) else .stk) := S2
          rw [if_neg hl] at S2
          exact S2.elim
      | err x e => rw [q] at S2; exact S2
      | stk => rw [q] at S2; exact S2
    let FD : Fm := ⟨Ad F.A0 D, F.H0, F.io⟩
    have R2 : Rel X.K FD os (wipeE r vs) (L2.wipe σ vs) (upd H1 D (.lst [])) := (R1.ext (p := D) (o := .lst []) hD rfl).wipe _ hv'
    have kp0 : Keep (Av F.A0 os) (Av FD.A0 os) H1 (upd H1 D (.lst [])) := fun b u e nb => ⟨by rw [upd_ne (ne_of_none e hD)]; exact e, fun z => by
      rcases z with (z | z) | z
      · exact nb (.inl z)
      · rw [z, hD] at e
        cases e
      · exact nb (.inr z)⟩
    have g2 : G (Av FD.A0 os) (upd H1 D (.lst [])) := src.keep _ _ _ _ R1.AOk kp0 g1'
    let Pv : Nat → Hp → Prop := fun i H' => ∃ acc vacc, Rel X.K FD os (wipeE r vs) (L2.wipe σ vs) H' ∧ H' D = some (.lst vacc) ∧ RepL X.K H' (Av FD.A0 os) acc vacc ∧ G (Av FD.A0 os) H' ∧ Same H H' ∧
      Sat (fun ds => Fin (acc ++ ds)) (fun _ _ => False) (DL.R.ne (lc2P g c h1 vs1 g1 c1 f (wipeE r vs) (items.drop i)))
    refine ⟨fun i m H' => m = items.length - i ∧ i ≤ items.length ∧ Pv i H', ⟨_, rfl, Nat.zero_le _, [], [], R2, upd_same, by unfold RepL; rfl, g2, s1.trans (same_upd hD), S3⟩, ?_⟩
    rintro i m H2 ⟨rfl, hi, acc, vacc, R', hDa, hacc, g', sm, S'⟩
    have wk := walk_src src
    by_cases hlt : i < items.length
    · refine .inr ⟨wk.goes i H2 hlt ⟨_, R'.AOk, g'⟩, Pv (i + 1), fun H' p' => ⟨items.length - (i + 1), by omega, rfl, hlt, p'⟩, fun x H3 y => ?_⟩
      obtain ⟨s3, d, ed, hd⟩ := src.yields _ i H2 x H3 R'.AOk hlt g' y
      rw [drop_get ed] at S'
      unfold lc2P at S'
      have R3 := R'.same' s3
      have g3 := src.keep _ _ _ _ R'.AOk (Keep.of s3) g'
      have hacc3 := hacc.same s3 R'.AOk
      have S' := S'.ne (q' := fun _ _ => False)
      refine ⟨_, os, _, d, R3, hd, (Sat.neB S').imp fun r4 S4 os4 σ4 H4 R4 k4 s4 o4 => ⟨wipe_off o4 hk, _, os4, r4, R4, (Sat.neB S4).imp fun b S5 H5 s5 => ?_⟩⟩
      have R45 := R4.same' s5
      have s35 : Same H3 H5 := s4.trans s5
      have R5 := R3.same' s35
      have hD5 : H5 D = some (.lst vacc) := s35 _ _ (s3 _ _ hDa)
      have hacc5 := hacc3.same s35 R3.AOk
      have g5 := src.keep _ _ _ _ R3.AOk (Keep.of s35) g3
      have sm5 : Same H H5 := (sm.trans s3).trans s35
      cases b with
      | false =>
        simp only [Bool.false_eq_true, if_false] at S5 ⊢
        exact ⟨acc, vacc, R5, hD5, hacc5, g5, sm5, S5⟩
      | true =>
        simp only [if_true] at S5 ⊢
        refine ⟨_, os4, r4, R45, (Sat.neB S5).imp fun its S6 J1 H6 G1 src1 s6 g6 => ?_⟩
        by_cases hno : noOwn vs1 r4 = true
        · rw [if_pos hno] at S6
          have R46 := (R45.same' s6).wipe vs1 (noOwn_ok hno)
          have R6 := R5.same' s6
          let Pv1 : Nat → Hp → Prop := fun j H' => ∃ acc vacc, Rel X.K FD os (wipeE r vs) (L2.wipe σ vs) H' ∧ Rel X.K FD os4 (wipeE r4 vs1) (L2.wipe σ4 vs1) H' ∧ H' D = some (.lst vacc) ∧ RepL X.K H' (Av FD.A0 os) acc vacc ∧ G (Av FD.A0 os) H' ∧ G1 (Av FD.A0 os4) H' ∧ Same H H' ∧
            Sat (fun ds => Sat (fun es => Fin (acc ++ (ds ++ es))) (fun _ _ => False) (DL.R.ne (lc2P g c h1 vs1 g1 c1 f (wipeE r vs) (items.drop (i + 1))))) (fun _ _ => False) (DL.R.ne (lcP g1 c1 f (wipeE r4 vs1) (its.drop j)))
          refine ⟨fun j k H' => k = its.length - j ∧ j ≤ its.length ∧ Pv1 j H', ⟨_, rfl, Nat.zero_le _, acc, vacc, R6, R46, s6 _ _ hD5, hacc5.same s6 R5.AOk, src.keep _ _ _ _ R5.AOk (Keep.of s6) g5, g6, sm5.trans s6, ?_⟩, ?_⟩
          · exact (Sat.bind S6).imp fun ds z => (Sat.bind z).imp fun es z => z
          rintro j k H7 ⟨rfl, hj, acc7, vacc7, R7, R47, hD7, hacc7, g7, g17, sm7, S7⟩
          have wk1 := walk_src src1
          by_cases hlt1 : j < its.length
          · refine .inr ⟨wk1.goes j H7 hlt1 ⟨_, R47.AOk, g17⟩, Pv1 (j + 1), fun H' p' => ⟨its.length - (j + 1), by omega, rfl, hlt1, p'⟩, fun x1 H8 y1 => ?_⟩
            obtain ⟨s8, d1, ed1, hd1⟩ := src1.yields _ j H7 x1 H8 R47.AOk hlt1 g17 y1
            rw [drop_get ed1] at S7
            unfold lcP at S7
            have R48 := R47.same' s8
            refine ⟨_, os4, _, d1, R48, hd1, (Sat.neB (S7.ne (q' := fun _ _ => False))).imp fun r9 S9 os9 σ9 H9 R9 k9 s9 o9 => ⟨wipe_off o9 hk1, _, os9, r9, R9, (Sat.neB S9).imp fun b1 S10 H10 s10 => ?_⟩⟩
            have s710 : Same H7 H10 := (s8.trans s9).trans s10
            cases b1 with
            | false =>
              simp only [Bool.false_eq_true, if_false] at S10 ⊢
              refine ⟨acc7, vacc7, R7.same' s710, R47.same' s710, s710 _ _ hD7, hacc7.same s710 R7.AOk, src.keep _ _ _ _ R7.AOk (Keep.of s710) g7, src1.keep _ _ _ _ R47.AOk (Keep.of s710) g17, sm7.trans s710, ?_⟩
              cases q : lcP g1 c1 f (wipeE r4 vs1) (its.drop (j + 1)) with
              | ok ds => rw [q] at S10; exact S10
              | err x e => rw [q] at S10; exact S10
              | stk => rw [q] at S10; exact S10
            | true =>
              simp only [if_true] at S10 ⊢
              refine ⟨_, os9, r9, R9.same' s10, (Sat.neB S10).imp fun dd S11 v H11 s11 h11 => ?_⟩
              have s711 : Same H7 H11 := s710.trans s11
              have R711 := R7.same' s711
              have R411 := R47.same' s711
              have hD11 : H11 D = some (.lst vacc7) := s711 _ _ hD7
              have hacc11 := hacc7.same s711 R7.AOk
              have hdd : Rep X.K H11 (Av FD.A0 os) dd v := by
                have kk : Keep (Av FD.A0 os9) (Av FD.A0 os) H11 H11 := fun b u e nb => ⟨e, fun z => nb (by
                  rcases z with z | z
                  · exact .inl z
                  · exact .inr (off_mem R47 hk1 o9 (off_mem R' hk o4 z)))⟩
                exact Rep.keep kk ((R9.same' s10).same' s11).AOk _ _ h11
              have S12 : Sat (fun ds => Sat (fun es => Fin ((acc7 ++ [dd]) ++ (ds ++ es))) (fun _ _ => False) (DL.R.ne (lc2P g c h1 vs1 g1 c1 f (wipeE r vs) (items.drop (i + 1))))) (fun _ _ => False) (DL.R.ne (lcP g1 c1 f (wipeE r4 vs1) (its.drop (j + 1)))) := by
                cases q : lcP g1 c1 f (wipeE r4 vs1) (its.drop (j + 1)) with
                | err x e => rw [q] at S11; exact S11
                | stk => rw [q] at S11; exact S11
                | ok ds =>
                  rw [q] at S11
                  have S11 : Sat (fun es => Fin (acc7 ++ ((dd :: ds) ++ es))) (fun _ _ => False) (DL.R.ne (lc2P g c h1 vs1 g1 c1 f (wipeE r vs) (items.drop (i + 1)))) := S11
                  refine S11.imp fun es z => ?_
                  have e : (acc7 ++ [dd]) ++ (ds ++ es) = acc7 ++ ((dd :: ds) ++ es) := by simp
                  rw [e]
                  exact z
              have hsz : acc7.length < sizeLine := by
                cases q : lcP g1 c1 f (wipeE r4 vs1) (its.drop (j + 1)) with
                | err x e => rw [q] at S12; exact S12.elim
                | stk => rw [q] at S12; exact S12.elim
                | ok ds =>
                  rw [q] at S12
                  cases q2 : lc2P g c h1 vs1 g1 c1 f (wipeE r vs) (items.drop (i + 1)) with
                  | err x e => rw [q2] at S12; exact S12.elim
                  | stk => rw [q2] at S12; exact S12.elim
                  | ok es =>
                    rw [q2] at S12
                    have z : ((acc7 ++ [dd]) ++ (ds ++ es)).length ≤ sizeLine := S12.1
                    simp only [List.length_append, List.length_singleton] at z
                    omega
              obtain ⟨R12, k12⟩ := R711.updA (p := D) (o := .lst (vacc7 ++ [v])) (.inr rfl) rfl F0
              obtain ⟨R412, k412⟩ := R411.updA (p := D) (o := .lst (vacc7 ++ [v])) (.inr rfl) rfl F0
              refine ⟨vacc7, hD11, by rw [repL_length hacc11]; exact hsz, acc7 ++ [dd], vacc7 ++ [v], R12, R412, upd_same, RepL.keep k12 R711.AOk _ _ (repL_append hacc11 (by unfold RepL; exact ⟨v, [], rfl, hdd, by unfold RepL; rfl⟩)), src.keep _ _ _ _ R711.AOk k12 (src.keep _ _ _ _ R7.AOk (Keep.of s711) g7), src1.keep _ _ _ _ R411.AOk k412 (src1.keep _ _ _ _ R47.AOk (Keep.of s711) g17), ?_, S12⟩
              intro b u e
              rw [upd_ne (fun z => by rw [z, hDH] at e; cases e)]
              exact s711 _ _ (sm7 _ _ e)
          · have e : j = its.length := by omega
            subst e
            refine .inl ⟨wk1.stops H7 ⟨_, R47.AOk, g17⟩, acc7, vacc7, R7, hD7, hacc7, g7, sm7, ?_⟩
            rw [List.drop_length] at S7
            exact S7
        · rw [if_neg hno] at S6
          exact S6.elim
    · have e : i = items.length := by omega
      subst e
      refine .inl ⟨wk.stops H2 ⟨_, R'.AOk, g'⟩, ?_⟩
      rw [List.drop_length] at S'
      have z : Fin (acc ++ []) := S'
      rw [List.append_nil] at z
      exact z.2 D H2 sm hDH ⟨vacc, hDa, RepL.keep av_ad R'.AOk _ _ hacc⟩
  · rw [if_neg hv] at S
    exact S.elim
section
variable {X : Cx} {W : WX} {elt tg iter tg1 iter1 : Expr} {ifs ifs1 : List Expr} {scope : Scope} {own : List (Str × Nat)} {pos : Pos} {ks k1 vs1 : List Nat} {h h1 : Env → R (List D)} {g g1 : D → Env → R Env} {c c1 : Env → R Bool} {f : Env → R D}
variable {y : Str} {py spos : Pos}
theorem s_setLc2 (i : Nat) (hc : X.calm = true) (hN : X.N.Nodup) (hi : DIp X W tg iter h) (ok : BlkOk X.N X.env.scope scope own)
    (hg : ∀ (s : Shared) (H : Hp) (C : Addr) (cl : List (Str × Addr)) (fp : List Addr), DG (X.blk s H scope (compEnvC scope cl C X.env) fp) WF ks tg g)
    (ht : ∀ (s : Shared) (H : Hp) (C : Addr) (cl : List (Str × Addr)) (fp : List Addr), DC (X.blk s H scope (compEnvC scope cl C X.env) fp) WF ifs c)
    (hi1 : ∀ (s : Shared) (H : Hp) (C : Addr) (cl : List (Str × Addr)) (fp : List Addr), DIp (X.blk s H scope (compEnvC scope cl C X.env) fp) WF tg1 iter1 h1)
    (hg1 : ∀ (s : Shared) (H : Hp) (C : Addr) (cl : List (Str × Addr)) (fp : List Addr), DG (X.blk s H scope (compEnvC scope cl C X.env) fp) WF k1 tg1 g1)
    (ht1 : ∀ (s : Shared) (H : Hp) (C : Addr) (cl : List (Str × Addr)) (fp : List Addr), DC (X.blk s H scope (compEnvC scope cl C X.env) fp) WF ifs1 c1)
    (he : ∀ (s : Shared) (H : Hp) (C : Addr) (cl : List (Str × Addr)) (fp : List Addr), DP (X.blk s H scope (compEnvC scope cl C X.env) fp) WF elt f)
    (hy : X.N[i]? = some y := by rfl) (hyl : X.env.scope.names.lookup y = some .local := by rfl) (hsw : swapsWith (.ListComp elt [⟨tg, iter, ifs, 0⟩, ⟨tg1, iter1, ifs1, 0⟩] scope pos) (some (.Name y py)) spos.line X.env = pure true := by rfl)
    (hk : ∀ k ∈ ks, k ∈ own.map (·.2) := by decide) (hk1 : ∀ k ∈ k1, k ∈ vs1 := by decide) (hv : ∀ i ∈ vs1, i ∈ own.map (·.2) := by decide)
    (hs : ∀ x, foldedSetIterable iter X.env x = pure x := by intro _; rfl) (hs1 : ∀ env x, foldedSetIterable iter1 env x = pure x := by intro _ _; rfl) :
    DS X W (.Assign [.Name y py] (.ListComp elt [⟨tg, iter, ifs, 0⟩, ⟨tg1, iter1, ifs1, 0⟩] scope pos) spos) (setS i (withEnv (lc2D own h g c h1 vs1 g1 c1 f))) := by
  refine ⟨_, ps_setLc2 (i := i) hc hN hy hyl hsw hi.can ok hv (fun s H C cl fp => (hg s H C cl fp).can) (fun s H C cl fp => (ht s H C cl fp).can) (fun s H C cl fp => (hi1 s H C cl fp).can) (fun s H C cl fp => (hg1 s H C cl fp).can) (fun s H C cl fp => (ht1 s H C cl fp).can) (fun s H C cl fp => (he s H C cl fp).can) hs hs1, fun F os r σ H D R S => lc2_snd hk hk1 F os r σ H _ R ?_⟩
  refine S.bind.bind.imp fun q S p H1 s1 n1 h1 => ?_
  have rp : Rep X.K H1 (Av F.A0 os) q (.ref p) := repO_rep h1 ad_keep (ad_ok R.AOk s1 h1) (R.notIn n1)
  obtain ⟨R2, k2⟩ := (R.same' s1).setSh (i := i) rp
  exact S _ _ _ R2 ((Keep.of s1).trans k2)
end
/-! ### a comprehension of two clauses, evaluated -/
end DL

end
section
set_option maxHeartbeats 2000000
namespace DL
open PySem PySem.Spec PyProof.Rows L2 PySem.Froz

/-! ### sets of texts -/
def insT (l : List Str) (k : Str) : List Str := if k ∈ l then l else k :: l
/-- the set of texts at a: its members l, unlike, in some order -/
def SetT (P : Program) (w : World) (h : Heap) (a : Addr) (l : List Str) : Prop :=
  ∃ D : SD, h.get? a = some (sObj "set" D) ∧ TxOk P w D l ∧ l.Nodup ∧ Ris D.2.2.place.toList ∧ (w.params.followText "set-order" = true ∨ D.2.2.led = true)
theorem nodup_insT {l : List Str} {k : Str} (h : l.Nodup) : (insT l k).Nodup := by
  unfold insT
  by_cases z : k ∈ l
  · rw [if_pos z]; exact h
  · rw [if_neg z]; exact List.nodup_cons.mpr ⟨z, h⟩
theorem mem_insT {l : List Str} {k x : Str} : x ∈ insT l k ↔ x ∈ l ∨ x = k := by
  unfold insT
  by_cases z : k ∈ l
  · rw [if_pos z]; exact ⟨.inl, fun e => e.elim id fun e => e ▸ z⟩
  · rw [if_neg z, List.mem_cons]; exact ⟨fun e => e.symm, fun e => e.symm⟩
theorem len_insT {l : List Str} {k : Str} : (insT l k).length ≤ l.length + 1 := by
  unfold insT
  by_cases z : k ∈ l
  · rw [if_pos z]; exact Nat.le_succ _
  · rw [if_neg z]; exact Nat.le_refl _
section
variable {P : Program} {w : World} {A : Around} {E : Value → Shared → Prop} {s : Shared} {h h' : Heap} {a : Addr} {l : List Str}
theorem SetT.at (R : SetT P w h a l) (k : ∀ o, h.get? a = some o → h'.get? a = some o) : SetT P w h' a l := by
  obtain ⟨D, e, r⟩ := R
  exact ⟨D, k _ e, r⟩
theorem tailTx_order {ep : Nat} {es1 : Array (Int × Value)} {t2 : SetTable} {wd : Bool} (r : Ris t2.place.toList) : Ris (tailTx ep es1 t2 wd).2.2.place.toList ∧ (tailTx ep es1 t2 wd).2.2.led = t2.led := by
  unfold tailTx
  by_cases z : (!wd && t2.tooFull) = true
  · rw [if_pos z]
    exact ⟨relayAll_ris _ _ _, relayAll_led _ _ _⟩
  · rw [if_neg z]
    exact ⟨r, rfl⟩
theorem addTx_order {hs : Int} {v : Value} {D : SD} (r : Ris D.2.2.place.toList) : Ris (addTx hs v D).2.2.place.toList ∧ (addTx hs v D).2.2.led = D.2.2.led := by
  obtain ⟨es, ep, t⟩ := D
  have h1 := layNew_ris t es hs v r
  have h2 := layNew_led t es hs v
  show Ris (tailTx ep (layNew t es hs v).1 (if (layNew t es hs v).2.1.plain = true then { (layNew t es hs v).2.1 with plain := false } else (layNew t es hs v).2.1) (layNew t es hs v).2.2.1).2.2.place.toList ∧ (tailTx ep (layNew t es hs v).1 (if (layNew t es hs v).2.1.plain = true then { (layNew t es hs v).2.1 with plain := false } else (layNew t es hs v).2.1) (layNew t es hs v).2.2.1).2.2.led = t.led
  generalize layNew t es hs v = L at h1 h2 ⊢
  by_cases z : L.2.1.plain = true
  · rw [if_pos z]
    obtain ⟨a, b⟩ := tailTx_order (ep := ep) (es1 := L.1) (t2 := { L.2.1 with plain := false }) (wd := L.2.2.1) h1
    exact ⟨a, b.trans h2⟩
  · rw [if_neg z]
    obtain ⟨a, b⟩ := tailTx_order (ep := ep) (es1 := L.1) (t2 := L.2.1) (wd := L.2.2.1) h1
    exact ⟨a, b.trans h2⟩
/-- a text put in, hashed -/
theorem setT_hashed {k : Str} {u : Tok} {Q : Bool → Shared → Prop} (R : SetT P w s.heap a l) (room : l.length + 1 < scanBound)
    (hQ : ∀ b h', Heap.SameBut a s.heap h' → SetT P w h' a (insT l k) → Q b { s with heap := h' }) : wpAny (model P w) A (setAddHashed a (.str k u) (hashStr w k)) Q E s := by
  obtain ⟨D, at_, F, nd, ri, le⟩ := R
  by_cases hk : k ∈ l
  · obtain ⟨es, ep, t⟩ := D
    have q := hQ false s.heap (Heap.SameBut.refl a s.heap) (by
      unfold insT
      rw [if_pos hk]
      exact ⟨_, at_, F, nd, ri, le⟩)
    have isk : (strKind P w).is k (.str k u) = true := is_str k u
    have dat : (sObj "set" (es, ep, t)).data = .set es ep t := rfl
    have fits : t.fits es.size = true := F.fit
    have elems : ElemsOf (strKind P w) es.toList := F.el
    have size : es.size = l.length := F.sz
    obtain ⟨e, me, ie⟩ := (F.mem k).mp hk
    obtain ⟨j, fj⟩ : ∃ j, List.findIdx? (fun e => (strKind P w).is k e.2) es.toList = some j := by
      cases z : List.findIdx? (fun e => (strKind P w).is k e.2) es.toList with
      | some j => exact ⟨j, rfl⟩
      | none =>
        have := List.findIdx?_eq_none_iff.mp z e me
        rw [ie] at this
        cases this
    unfold setAddHashed setAddHashedIn
    refine wpAny_holding (wpAny_bind (wpAny_setState_of at_ dat fits ?_))
    dsimp only
    rw [byScan_of rfl (by omega) elems]
    simp only [↓reduceIte]
    unfold setAddByScan
    refine wpAny_bind ?_
    refine wpAny_bind (wpAny_rule ?_)
    refine wpAny_bind (wpAny_setScan_of (knd := strKind P w) (k := k) isk at_ dat fits elems ?_)
    rw [fj]
    dsimp only
    exact wpAny_pure (wpAny_pure q)
  · obtain ⟨r1, r2⟩ := addTx_order (hs := hashStr w k) (v := .str k u) ri
    refine add_x at_ F hk room (hQ _ _ (Heap.SameBut.update s.heap a _) ?_)
    unfold insT
    rw [if_neg hk]
    exact ⟨_, get_upd _ at_ rfl, add_ok u F, List.nodup_cons.mpr ⟨hk, nd⟩, r1, le.imp id fun z => r2.trans z⟩
theorem setT_add {k : Str} {u : Tok} {Q : Bool → Shared → Prop} (R : SetT P w s.heap a l) (room : l.length + 1 < scanBound)
    (hQ : ∀ b h', Heap.SameBut a s.heap h' → SetT P w h' a (insT l k) → Q b { s with heap := h', toks := s.toks + 1 }) : wpAny (model P w) A (setAdd a (.str k u)) Q E s := by
  unfold setAdd
  refine wpAny_holding (wpAny_bind ((strKind P w).pyHash (k := k) (is_str _ _) ?_))
  exact setT_hashed (s := { s with toks := s.toks + 1 }) R room hQ
theorem SetT.setOf (R : SetT P w h a l) (b : l.length < scanBound) : h.SetOf (strKind P w) a (fun k => decide (k ∈ l)) l.length := by
  obtain ⟨D, at_, F, _⟩ := R
  exact ⟨_, D.1, D.2.1, D.2.2, at_, ⟨rfl, rfl, rfl⟩, rfl, F.el, fun k => by rw [decide_eq_true_eq]; exact F.mem k, by rw [F.sz]; exact b, F.fit, F.sz⟩
/-- found.add(k) -/
theorem setT_call {k : Str} {u : Tok} {Q : Value → Shared → Prop} (R : SetT P w s.heap a l) (room : l.length + 1 < scanBound)
    (hQ : ∀ h', Heap.SameBut a s.heap h' → SetT P w h' a (insT l k) → Q .none { s with heap := h', toks := s.toks + 1 }) : wpAny (model P w) A (call (.builtin "set.add") [.ref a, .str k u]) Q E s := by
  have hS := R.setOf (by omega)
  refine wpAny_call_entry F.slot_set_add hS.typeIs F.entry_set_add ?_ (F.args_set_add_2 _ _)
  unfold Builtin.«set.add» Builtin.Frozenset.oneOther
  simp only [List.isEmpty_nil, bind_assoc]
  unfold Builtin.Frozenset.addrOf
  refine wpAny_bind (wpAny_pure ?_)
  try dsimp only
  refine wpAny_bind (wpAny_pure ?_)
  try dsimp only
  refine wpAny_bind (setT_add R room fun b h' sb r => ?_)
  show wpAny _ _ (ret Value.none) _ _ _
  exact wpAny_pure ⟨_, rfl, hQ h' sb r⟩
theorem setT_fresh (w : World) (P : Program) : SetT P w (h.push { cls := .type "set", dict := none, data := .set #[] 0 (.fresh 0 0 (!w.params.followText "set-order")) }) h.objs.size [] :=
  ⟨(#[], 0, .fresh 0 0 (!w.params.followText "set-order")), Heap.get?_push_size _ rfl, TxOk.nil (by rfl), List.nodup_nil, List.Pairwise.nil, by
    show _ ∨ (!w.params.followText "set-order") = true
    cases w.params.followText "set-order"
    · exact .inr rfl
    · exact .inl rfl⟩
end
theorem perm_of_mem {l m : List Str} (nl : l.Nodup) (e : m.length = l.length) (h : ∀ k, k ∈ l → k ∈ m) : m.Perm l := by
  induction l generalizing m with
  | nil => rw [List.length_eq_zero_iff.mp e]
  | cons x l ih =>
    have hx := h x List.mem_cons_self
    obtain ⟨n1, n2⟩ := List.nodup_cons.mp nl
    have q := List.perm_cons_erase hx
    refine q.trans (List.Perm.cons x (ih n2 (by rw [List.length_erase_of_mem hx, e]; rfl) fun k hk => ?_))
    have : k ≠ x := fun z => n1 (z ▸ hk)
    exact (List.mem_erase_of_ne this).mpr (h k (List.mem_cons_of_mem _ hk))
def txV : Value → Str
  | .str a _ => a
  | _ => ⟨#[]⟩
theorem SetT.outs {P : Program} {w : World} {D : SD} {l : List Str} (F : TxOk P w D l) (nd : l.Nodup) {out : List Value} (p : out.Perm (D.1.toList.map (·.2))) : (out.map txV).Perm l ∧ ∀ v ∈ out, ∃ t, v = .str (txV v) t := by
  have hs : ∀ e ∈ D.1.toList, ∃ t, e.2 = .str (txV e.2) t := fun e he => by
    obtain ⟨⟨k, h1, _⟩, _⟩ := F.el e he
    cases q : e.2 with
    | str a t => exact ⟨t, rfl⟩
    | _ =>
      rw [q] at h1
      exact absurd (show false = true from h1) Bool.false_ne_true
  constructor
  · refine perm_of_mem nd ?_ fun k hk => ?_
    · rw [List.length_map, p.length_eq, List.length_map, Array.length_toList, F.sz]
    · obtain ⟨e, he, ie⟩ := (F.mem k).mp hk
      refine List.mem_map.mpr ⟨e.2, p.mem_iff.mpr (List.mem_map.mpr ⟨e, he, rfl⟩), ?_⟩
      obtain ⟨t, et⟩ := hs e he
      rw [et] at ie ⊢
      have : Value.isStrOf k (.str (txV e.2) t) = true := ie
      simp [Value.isStrOf] at this
      rw [this] <;> rfl
  · intro v hv
    obtain ⟨e, he, rfl⟩ := List.mem_map.mp (p.mem_iff.mp hv)
    exact hs e he

/-! ### sorted of what is collected -/
def Sorts (P : Program) (w : World) (h : Heap) (vs : List Value) (ltv : Value → Value → Bool) : Prop := ∀ (A' : Around) (s2 : Shared), (∀ b o, h.get? b = some o → s2.heap.get? b = some o) → ∃ κ,
  (∀ (Q : PyProof.Rows.SortKind → Shared → Prop) (E : Value → Shared → Prop), Q κ s2 → wpAny (model P w) A' (PyProof.Rows.keyKind' vs.toArray) Q E s2) ∧ SrtO.Cmp P w A' s2 κ (fun p => p.fst ∈ vs) (SrtO.lt2 ltv)
theorem sorted_by {P : Program} {w : World} {A : Around} {E : Value → Shared → Prop} {s : Shared} {v : Value} {ltv : Value → Value → Bool} {Q : Value → Shared → Prop} (O : SrtO.Swo ltv) (Post : Shared → List Value → Prop)
    (hcol : ∀ Q' : List Value → Shared → Prop, (∀ s1 vs, Post s1 vs → Q' vs s1) → wpAny (model P w) A.in1 (collect v) Q' E s)
    (hfin : ∀ s1 vs, Post s1 vs → vs.length ≤ sizeLine ∧ (2 ≤ vs.length → Sorts P w s1.heap vs ltv) ∧ ∀ (out : List Value) (h' : Heap) (p : Addr) (e : Nat), SrtO.Srtd ltv out → out.Perm vs → (∀ b o, s1.heap.get? b = some o → h'.get? b = some o) →
      s1.heap.objs.size ≤ p → h'.get? p = some (seqObj "list" out.toArray e) → Q (.ref p) { s1 with heap := h' }) :
    wpAny (model P w) A (call (.builtin "sorted") [v]) Q E s := by
  refine Calls.call_function_entry kind_sorted plain_sorted entry_sorted (args_sorted1 _) ?_
  unfold Builtin.«sorted»
  refine wpAny_bind (m := checkCount "sorted" 1 1 _) (wpAny_pure ?_)
  refine wpAny_bind (hcol _ fun s1 vs post => ?_)
  obtain ⟨hz, so, fin⟩ := hfin s1 vs post
  refine wpAny_bind (wpAny_newList ?_ hz)
  have new : (s1.heap.push (seqObj "list" vs.toArray 0)).get? s1.heap.objs.size = some (seqObj "list" vs.toArray 0) := Heap.get?_push_size _ rfl
  show wpAny _ _ _ _ _ { s1 with heap := s1.heap.push (seqObj "list" vs.toArray 0) }
  refine wpAny_bind (wpAny_holding (wpAny_call_entry slot_list_sort ⟨_, new, rfl⟩ entry_list_sort (SrtO.list_sort_ord O new hz (fun h2 => ?_) fun out hs hb => ⟨_, rfl, ?_⟩) (args_list_sort _)))
  · intro h' hk
    exact so h2 _ { s1 with heap := h' } fun b o e => hk b o (Nat.ne_of_lt (Heap.lt_size e)) (Heap.get?_push_of_some _ e)
  · obtain ⟨e, he⟩ := sortedHeap_at (vs := vs) (out := out.toArray) new
    refine wpAny_pure ⟨_, rfl, fin out _ s1.heap.objs.size e hs hb.perm (fun b o q => ?_) (Nat.le_refl _) he⟩
    have hlt := Heap.lt_size q
    show (sortedHeap (s1.heap.push (seqObj "list" vs.toArray 0)) s1.heap.objs.size vs out.toArray).get? b = some o
    rw [sortedHeap_old (Nat.ne_of_lt hlt) (by rw [size_push']; exact Nat.lt_succ_of_lt hlt)]
    exact Heap.get?_push_of_some _ q
theorem sorts_strs {P : Program} {w : World} {h : Heap} {vs : List Value} (hs : ∀ v ∈ vs, ∃ t, v = .str (txV v) t) (h2 : 2 ≤ vs.length) : Sorts P w h vs ltS := by
  have are : ∀ l : List Value, (∀ v ∈ l, ∃ t, v = .str (txV v) t) → StrsAre l (l.map txV) := by
    intro l
    induction l with
    | nil => exact fun _ => .nil
    | cons v l ih =>
      intro q
      obtain ⟨t, e⟩ := q v List.mem_cons_self
      rw [List.map_cons]
      have := ih fun u hu => q u (List.mem_cons_of_mem _ hu)
      rw [e]
      exact .cons _ _ this
  intro A s2 hk
  refine ⟨PyProof.Rows.oneType', fun Q E q => ?_, fun p q hp hq => ?_⟩
  · match vs, are vs hs, h2 with
    | v1 :: v2 :: vs, hs, h2 =>
      rw [PyProof.Rows.keyKind_strs hs]
      exact wpAny_pure q
  · obtain ⟨p1, p2⟩ := p
    obtain ⟨q1, q2⟩ := q
    obtain ⟨t, ea⟩ := hs _ hp
    obtain ⟨u, eb⟩ := hs _ hq
    simp only at ea eb
    rw [ea, eb]
    exact PySem.W.kas_lt_str ⟨rfl, rfl⟩
theorem srtd_tx : ∀ {out : List Value}, SrtO.Srtd ltS out → (∀ v ∈ out, ∃ t, v = .str (txV v) t) → (out.map txV).Pairwise fun a b => leS a b = true
  | [], _, _ => .nil
  | v :: out, h, hs => by
    obtain ⟨h1, h2⟩ := List.pairwise_cons.mp h
    rw [List.map_cons]
    refine List.pairwise_cons.mpr ⟨fun z m => ?_, srtd_tx h2 fun u hu => hs u (List.mem_cons_of_mem _ hu)⟩
    obtain ⟨u, hu, rfl⟩ := List.mem_map.mp m
    have q := h1 u hu
    obtain ⟨t1, e1⟩ := hs v List.mem_cons_self
    obtain ⟨t2, e2⟩ := hs u (List.mem_cons_of_mem _ hu)
    rw [e1, e2] at q
    unfold leS
    unfold ltS cpsV at q
    rw [q]
    rfl
theorem vals_tx : ∀ {out : List Value}, (∀ v ∈ out, ∃ t, v = .str (txV v) t) → Vals ((out.map txV).map V.str) out
  | [], _ => .nil
  | v :: out, hs => by
    obtain ⟨t, e⟩ := hs v List.mem_cons_self
    exact .cons ⟨t, e⟩ (vals_tx fun u hu => hs u (List.mem_cons_of_mem _ hu))
/-- sorted of what gives out texts: l up to order -/
theorem sorted_texts {X : Cx} {pins : List (Addr × Obj)} {s : Shared} {σ : L2.St} {H : Hp} {v : Value} {l : List Str} {Q : VK} (I : L2.Inv X pins σ H s) (hl : l.length ≤ sizeLine)
    (hcol : ∀ Q' : List Value → Shared → Prop, (∀ s1 vs, (∀ b o, s.heap.get? b = some o → s1.heap.get? b = some o) → s1.gens = s.gens → s1.os = s.os → (vs.map txV).Perm l → (∀ v ∈ vs, ∃ t, v = .str (txV v) t) → Q' vs s1) → wpAny (model X.prog X.w) X.A.in1 (collect v) Q' X.xe s)
    (q : ∀ p : Addr, H p = none → Q (.ref p) (upd H p (.lst ((sortStr l).map V.str)))) :
    wpAny (model X.prog X.w) X.A (call (.builtin "sorted") [v]) (EP X pins σ Q) X.xe s := by
  refine sorted_by (ltv := ltS) swoS (fun s1 vs => (∀ b o, s.heap.get? b = some o → s1.heap.get? b = some o) ∧ s1.gens = s.gens ∧ s1.os = s.os ∧ (vs.map txV).Perm l ∧ ∀ v ∈ vs, ∃ t, v = .str (txV v) t) (fun Q' z => hcol Q' fun s1 vs a b c d e => z s1 vs ⟨a, b, c, d, e⟩) ?_
  rintro s1 vs ⟨k, g, o, pm, st⟩
  have len : vs.length = l.length := by have := pm.length_eq; rw [List.length_map] at this; exact this
  refine ⟨by omega, fun h2 => sorts_strs st h2, fun out h' p e hs hp hk hpz hpe => ?_⟩
  have st2 : ∀ v ∈ out, ∃ t, v = .str (txV v) t := fun v hv => st v (hp.mem_iff.mp hv)
  have I1 : L2.Inv X pins σ H s1 := I.call' (ch := []) o (Un.kept k) (I.hok.kept k) (by rw [g]; exact I.bare) (fun _ z => nomatch z)
  have e1 : out.map txV = sortStr l := sortStr_uniq ((hp.map txV).trans pm) (srtd_tx hs st2)
  have fr : H p = none := I1.hok.fresh hpz
  refine ⟨.ref p, upd H p (.lst ((out.map txV).map V.str)), I1.laid (t' := s1.toks) hk hpz ⟨by rw [List.length_map, List.length_map, hp.length_eq]; omega, out, e, vals_tx st2, hpe⟩, rfl, ?_⟩
  rw [e1]
  exact q p fr
end DL

end
section
set_option maxHeartbeats 3200000
namespace DL
open PySem PySem.Spec PyProof.Rows L2 PySem.Froz

section
variable {P : Program} {w : World} {A : Around} {E : Value → Shared → Prop} {s : Shared}
/-- the signs of a text -/
def sgT (x : Str) : List Str := x.cps.toList.map fun c => ⟨#[c]⟩
set_option maxRecDepth 100000 in
end
end DL

end
section
set_option maxHeartbeats 2000000
namespace DL
open PySem PySem.Spec PyProof.Rows L2 PySem.Froz

/-! ### sets of texts as tracked things -/
def SetTO (P : Program) (w : World) (a : Addr) (l : List Str) : HO := .ext fun h => SetT P w h a l
theorem setTO_new {w : World} {P : Program} {H : Hp} {h : Heap} {a : Addr} {l : List Str} (R : SetT P w h a l) : ObjOk P w H h a (SetTO P w a l) := by
  have ⟨D, e, _⟩ := R
  exact ⟨R, ⟨_, e⟩, fun h1 h2 p k => SetT.at p k⟩
def dedT (xs : List Str) : List Str := xs.foldr (fun k l => insT l k) []
theorem mem_dedT {x : Str} : ∀ {xs : List Str}, x ∈ dedT xs ↔ x ∈ xs
  | [] => Iff.rfl
  | k :: xs => by
    show x ∈ insT (dedT xs) k ↔ _
    rw [mem_insT, mem_dedT (xs := xs), List.mem_cons]
    exact ⟨fun e => e.symm, fun e => e.symm⟩
theorem nodup_dedT : ∀ xs : List Str, (dedT xs).Nodup
  | [] => List.nodup_nil
  | k :: xs => nodup_insT (nodup_dedT xs)
theorem perm_dedT {l xs : List Str} (n : l.Nodup) (m : ∀ x, x ∈ l ↔ x ∈ xs) : l.Perm (dedT xs) :=
  (List.perm_ext_iff_of_nodup n (nodup_dedT xs)).mpr fun x => (m x).trans mem_dedT.symm
theorem sortStr_perm {l m : List Str} (p : l.Perm m) : sortStr l = sortStr m := sortStr_uniq ((List.mergeSort_perm l leS).trans p) (sortStr_pw l)
section
variable {X : Cx}
theorem setTO_get {pins : List (Addr × Obj)} {σ : L2.St} {H : Hp} {s : Shared} {a : Addr} {l : List Str} (I : L2.Inv X pins σ H s) (ha : H a = some (SetTO X.prog X.w a l)) : SetT X.prog X.w s.heap a l := (I.hok a _ ha).1
theorem addT_ok {pins : List (Addr × Obj)} {σ : L2.St} {H : Hp} {s : Shared} {E : Value → Shared → Prop} {D : Addr} {l : List Str} {k : Str} {u : Tok} {Q : Value → Shared → Prop} (I : L2.Inv X pins σ H s) (hD : H D = some (SetTO X.prog X.w D l)) (room : l.length + 1 < scanBound)
    (h : ∀ s', L2.Inv X pins σ (upd H D (SetTO X.prog X.w D (insT l k))) s' → Q .none s') : wpAny (model X.prog X.w) X.A (call (.builtin "set.add") [.ref D, .str k u]) Q E s := by
  refine setT_call (setTO_get I hD) room fun h' sb new => ?_
  have there : ∃ u, h'.get? D = some u := by
    have ⟨D2, e, _⟩ := new
    exact ⟨_, e⟩
  exact h _ (I.write (e := D) (t' := s.toks + 1) (by rw [hD]; trivial) (.inl rfl) (fun b u hb hu => (sb.2 b hb).trans hu) there (setTO_new new))
/-- set(x), x a text -/
def rSetTx (P : Program) (w : World) : List V → Hp → VK → Prop := fun xs H Q => ∃ x : Str, xs = [.str x] ∧ x.length + 1 < scanBound ∧ ∀ (p : Addr) (l : List Str), H p = none → l.length ≤ x.length → l.Nodup → (∀ k, k ∈ l ↔ k ∈ sgT x) → Q (.ref p) (upd H p (SetTO P w p l))
/-- sorted of a set of texts -/
def rSrtSetT (P : Program) (w : World) : List V → Hp → VK → Prop := fun xs H Q => ∃ (a : Addr) (l : List Str), xs = [.ref a] ∧ H a = some (SetTO P w a l) ∧ l.length < scanBound ∧ ∀ p, H p = none → Q (.ref p) (upd H p (.lst ((sortStr l).map V.str)))
theorem cr_srtSetT (hc : X.calm = true) : CallR X (.builtin "sorted") (rSrtSetT X.prog X.w) := by
  intro pins s σ H xs us Q I r h
  obtain ⟨a, l, rfl, ha, room, q⟩ := h
  rw [Vals.ref1 r]
  obtain ⟨D, e, F, nd, ri, le⟩ := setTO_get I ha
  have hz : l.length ≤ sizeLine := fits_of_scanBound room
  refine sorted_texts I hz (fun Q' z => ?_) q
  refine collect_set (A := X.A.in1) (I.ok.hd hc) ⟨_, e, rfl, rfl⟩ F.fit (by rw [F.sz]; exact room) ri le fun s1 out k1 z1 g1 o1 pm => ?_
  obtain ⟨a1, a2⟩ := SetT.outs F nd pm
  exact z s1 out k1 g1 o1 a1 a2
/-- len of a set of texts -/
def rLenSetT (P : Program) (w : World) : List V → Hp → VK → Prop := fun xs H Q => ∃ (a : Addr) (l : List Str), xs = [.ref a] ∧ H a = some (SetTO P w a l) ∧ l.length < scanBound ∧ Q (.int l.length) H
/-- sorted(x), x a text -/
def rSrtTx : List V → Hp → VK → Prop := fun xs H Q => ∃ x : Str, xs = [.str x] ∧ x.length ≤ sizeLine ∧ ∀ p, H p = none → Q (.ref p) (upd H p (.lst ((sortStr (sgT x)).map V.str)))
end

/-! ### over data -/
def srtTxD : List D → Option D
  | [.str x] => if x.length ≤ sizeLine then some (.lst ((sortStr (sgT x)).map D.str)) else none
  | _ => none
def srt2D (l : List D) : Option D := match srtTxD l with
  | some d => some d
  | none => srtD l
section
variable {X : Cx} {W : WX} {a : Expr} {p p2 pos pos2 : Pos} {fa : Env → R D}
/-- sorted(set(x)), len(set(x)) -/
def srtSetD (d : D) : Option D := match d with
  | .str x => if x.length + 1 < scanBound then some (.lst ((sortStr (dedT (sgT x))).map D.str)) else none
  | _ => none
def lenSetD (d : D) : Option D := match d with
  | .str x => if x.length + 1 < scanBound then some (.int (dedT (sgT x)).length) else none
  | _ => none
end
end DL

end
section
set_option maxHeartbeats 2000000
namespace DL
open PySem PySem.Spec PyProof.Rows L2 PySem.Froz PpSet

/-! ### {elt for target in iter if ..}, elt a text -/
section
variable {X : Cx}
def tScT (P : Program) (w : World) (wi : TI) (g : TG) (tt : TT) (te : TE) (vs : List Nat) : TE := fun σ H Q => wi σ H fun J H1 => ∀ D, H1 D = none → ∃ W : Nat → Nat → Hp → Prop, (∃ m, W 0 m (upd H1 D (SetTO P w D []))) ∧ ∀ i m H, W i m H →
  (J.stop i H ∧ Q (.ref D) H) ∨ (J.go i H ∧ ∃ Nx : Hp → Prop, (∀ H', Nx H' → ∃ m', m' < m ∧ W (i + 1) m' H') ∧ ∀ x H', J.yld i H x H' → g x (L2.wipe σ vs) H' fun σ2 H2 => L2.wipe σ2 vs = L2.wipe σ vs ∧ tt σ2 H2 fun b H3 =>
    if b = true then te σ2 H3 fun y H4 => ∃ (c : PySem.Str) (l : List PySem.Str), y = .str c ∧ H4 D = some (SetTO P w D l) ∧ l.length + 1 < scanBound ∧ Nx (upd H4 D (SetTO P w D (insT l c))) else Nx H3)
theorem scT_core {pins : List (Addr × Obj)} {s : Shared} {σ : L2.St} {H : Hp} {Q : VK} {elt tg iter : Expr} {ifs : List Expr} {scope : Scope} {own : List (PySem.Str × Nat)} {pos pos' : Pos} {wi : TI} {g : TG} {tt : TT} {te : TE} {use : Option (Value → Sem Unit)} {Qf : Value → Shared → Prop}
    (calm : X.calm = true) (hN : X.N.Nodup) (I : L2.Inv X pins σ H s) (hi : PI X tg iter wi) (ok : BlkOk X.N X.env.scope scope own)
    (hg : ∀ (s : Shared) (H : Hp) (C : Addr) (cl : List (PySem.Str × Addr)) (fp : List Addr), PG (X.blk s H scope (compEnvC scope cl C X.env) fp) tg g) (ht : ∀ (s : Shared) (H : Hp) (C : Addr) (cl : List (PySem.Str × Addr)) (fp : List Addr), PTs (X.blk s H scope (compEnvC scope cl C X.env) fp) ifs tt)
    (he : ∀ (s : Shared) (H : Hp) (C : Addr) (cl : List (PySem.Str × Addr)) (fp : List Addr), PE (X.blk s H scope (compEnvC scope cl C X.env) fp) elt te) (folds : ∀ x, foldedSetIterable iter X.env x = pure x)
    (h : tScT X.prog X.w wi g tt te (own.map (·.2)) σ H Q)
    (fin : ∀ D C s' m H', L2.Inv X pins σ H' s' → Q (.ref D) H' → s'.heap.Ns C m → FpOk X pins H' C → compPost (model X.prog X.w) X.A X.xe use Qf (.ref D) C (.ok .next) s') :
    wpAny (model X.prog X.w) X.A (comprehension (.SetComp elt [⟨tg, iter, ifs, 0⟩] scope pos) scope X.env pos' (newSet (.type "set")) false (eval iter X.env) use) Qf X.xe s := by
  have free : ∀ y ∈ scope.names, y.2 = .free → ∃ c, X.env.cells.lookup y.1 = some c := fun y hy e => by
    rcases ok.free y hy e with k | k
    · exact I.ok.has _ (.inl k)
    · exact I.ok.has _ (.inr k)
  refine wpAny_comprehension_free (use := use) rfl folds (closure_ok free) ok.kind (fun y hy e => by rw [ok.uniq y hy, e])
    (thn (hi.run pins s σ H _ I h) fun xv s1 hx => thn hx fun itv s2 h2 => ?_)
  obtain ⟨it, fp, tn, J, H2, e, I2, T, st2, f2, q⟩ := h2
  subst e
  refine newSet_ok (newEnv_comp ?_)
  generalize eD : s2.heap.objs.size = D
  have freshD : H2 D = none := I2.hok.fresh (Nat.le_of_eq eD)
  obtain ⟨W, ⟨m0, w0⟩, turn⟩ := q D freshD
  generalize e3 : ({ s2 with heap := s2.heap.push { cls := .type "set", dict := none, data := .set #[] 0 (.fresh 0 0 (!X.w.params.followText "set-order")) } } : Shared) = s3
  have I3 : L2.Inv X pins σ (upd H2 D (SetTO X.prog X.w D [])) s3 := by
    rw [← e3]
    refine I2.laid (t' := s2.toks) (fun b o e => Heap.get?_push_of_some _ e) (Nat.le_of_eq eD) ?_
    rw [← eD]
    exact setTO_new (setT_fresh X.w X.prog)
  have heap3 : s3.heap = s2.heap.push { cls := .type "set", dict := none, data := .set #[] 0 (.fresh 0 0 (!X.w.params.followText "set-order")) } := by rw [← e3]
  have low : ∀ b ∈ fp, b < s2.heap.objs.size := fun b hb => by
    obtain ⟨o, e, _⟩ := T.obj _ _ st2 b hb
    exact Heap.lt_size e
  have f3 : ∀ b ∈ fp, FpOk X pins (upd H2 D (SetTO X.prog X.w D [])) b ∧ b < s3.heap.objs.size := fun b hb => by
    have lt := low b hb
    refine ⟨⟨?_, (f2 b hb).2⟩, by rw [heap3, Heap.size_push]; exact Nat.lt_succ_of_lt lt⟩
    rw [upd_ne (by rw [← eD]; exact Nat.ne_of_lt lt)]
    exact (f2 b hb).1
  have st3 : tn 0 s3.heap := T.keep _ _ _ st2 fun b _ o e => by rw [heap3]; exact Heap.get?_push_of_some _ e
  have I4 := block_start I3 ok hN f3
  have pg := hg s3 (upd H2 D (SetTO X.prog X.w D [])) s3.heap.objs.size (cellsFrom (s3.heap.objs.size + 1) scope.names (cloFrom X.env.cells scope.names [])) fp
  have pt := ht s3 (upd H2 D (SetTO X.prog X.w D [])) s3.heap.objs.size (cellsFrom (s3.heap.objs.size + 1) scope.names (cloFrom X.env.cells scope.names [])) fp
  have pe := he s3 (upd H2 D (SetTO X.prog X.w D [])) s3.heap.objs.size (cellsFrom (s3.heap.objs.size + 1) scope.names (cloFrom X.env.cells scope.names [])) fp
  show codeAny _ _ (.compStart (.SetComp elt [⟨tg, iter, ifs, 0⟩] scope pos) 0 (.ref it) (.ref D) (compEnvC scope (cellsFrom (s3.heap.objs.size + 1) scope.names (cloFrom X.env.cells scope.names [])) s3.heap.objs.size X.env)) (compPost (model X.prog X.w) X.A X.xe use Qf (.ref D) s3.heap.objs.size) { s3 with heap := pushCells (s3.heap.push { cls := .type "dict", data := .dict #[] }) scope.names }
  have nfp : ∀ b ∈ fp, (upd H2 D (SetTO X.prog X.w D [])) b = none := fun b hb => (f3 b hb).1.1
  generalize eC : compEnvC scope (cellsFrom (s3.heap.objs.size + 1) scope.names (cloFrom X.env.cells scope.names [])) s3.heap.objs.size X.env = ce at I4 pg pt pe ⊢
  have cL : ce.locals = s3.heap.objs.size := by subst eC; rfl
  generalize eH : upd H2 D (SetTO X.prog X.w D []) = H3 at I3 I4 pg pt pe w0 nfp f3
  generalize e4 : ({ s3 with heap := pushCells (s3.heap.push { cls := .type "dict", data := .dict #[] }) scope.names } : Shared) = s4 at I4 ⊢
  have st4 : tn 0 s4.heap := T.keep _ _ _ st3 fun b _ o e => by rw [← e4]; exact pushCells_keeps _ _ _ _ (Heap.get?_push_of_some _ e)
  have stat : ∀ {σ' : L2.St} {H' : Hp} {s' : Shared}, L2.Inv (X.blk s3 H3 scope ce fp) [] σ' H' s' → (∀ b ∈ fp, H' b = none) → ∀ b ∈ fp, FpOk (X.blk s3 H3 scope ce fp) [] H' b := fun {σ' H' s'} I' hn b hb =>
    ⟨hn b hb, (I'.ok.exf b hb).1, I'.ok.exfs b hb, .inl hb, fun x c e => (I'.ok.exf b hb).2 x c e, fun p hp => absurd (show p ∈ ([] : List (Addr × Obj)) ++ [] from hp) (by simp)⟩
  have loop : codeAny (model X.prog X.w) X.A (.compLoop (.SetComp elt [⟨tg, iter, ifs, 0⟩] scope pos) 0 (.ref it) (.ref D) ce) (compPost (model X.prog X.w) X.A X.xe use Qf (.ref D) s3.heap.objs.size) s4 := by
    refine compLoopS_any (fun n s' => ∃ i H', L2.Inv (X.blk s3 H3 scope ce fp) [] (L2.wipe σ (own.map (·.2))) H' s' ∧ tn i s'.heap ∧ (∀ b ∈ fp, H' b = none) ∧ W i n H') ?_ m0 ⟨0, H3, I4, st4, nfp, w0⟩
    rintro n s5 ⟨i, H5, I5, st5, n5, w5⟩
    rcases turn i n H5 w5 with ⟨stop, qq⟩ | ⟨go, Nx, hNx, step⟩
    · have td := T.done (X.blk s3 H3 scope ce fp) rfl rfl rfl calm i [] s5 _ H5 (fun _ _ => False) I5 (stat I5 n5) st5 stop
      refine thnF td fun r s6 ⟨hr, I6⟩ => ?_
      subst hr
      have I7 : L2.Inv X pins σ H5 s6 := I3.call' (ch := fp) I6.os I6.base I6.hok I6.bare fun b hb => ⟨(f3 b hb).1.2.2.2.1, (f3 b hb).1.2.1, (f3 b hb).1.2.2.2.2.1, (f3 b hb).1.2.2.2.2.2⟩
      have nC : H5 s3.heap.objs.size = none := by
        have z : H5 ce.locals = none := I6.free
        rw [cL] at z
        exact z
      obtain ⟨m, hn, _⟩ := I6.loc
      have hn : s6.heap.Ns ce.locals m := hn
      rw [cL] at hn
      exact fin D s3.heap.objs.size s6 m H5 I7 qq hn (I3.fpOk (Nat.le_refl _) nC)
    · have ti := T.item (X.blk s3 H3 scope ce fp) rfl rfl rfl calm i [] s5 _ H5 (fun _ _ => False) I5 (stat I5 n5) st5 go
      refine thnF ti fun r s6 ⟨u, hr, h6⟩ => ?_
      subst hr
      refine thnF h6 fun _ s7 ⟨x, H7, I7, r7, y7, st7, n7⟩ => ?_
      have I7' := I7.pinned (stat I7 n7) (T.obj _ _ st7)
      refine thnF (pg.run _ s7 _ H7 x u _ I7' r7 (step x H7 y7)) fun _ s8 ⟨σ8, H8, I8, hw8, q8⟩ => ?_
      refine thnF (pt.run _ s8 σ8 H8 _ I8 q8) fun b s9 ⟨H9, I9, q9⟩ => ?_
      have back : ∀ {s' : Shared} {H' : Hp}, L2.Inv (X.blk s3 H3 scope ce fp) ([] ++ pinsAt fp s7.heap) σ8 H' s' → Nx H' → ∃ m, m < n ∧ ∃ i H', L2.Inv (X.blk s3 H3 scope ce fp) [] (L2.wipe σ (own.map (·.2))) H' s' ∧ tn i s'.heap ∧ (∀ b ∈ fp, H' b = none) ∧ W i m H' := fun {s' H'} I' nx => by
        obtain ⟨m', hm, w'⟩ := hNx H' nx
        have pin' : ∀ b ∈ fp, ∀ o, s7.heap.get? b = some o → s'.heap.get? b = some o ∧ H' b = none := fun b hb o e =>
          let z := I'.pin (b, o) (List.mem_append_right _ (List.mem_append_right _ (mem_pinsAt hb e)))
          ⟨z.1, z.2.1⟩
        have hl : (L2.wipe σ (own.map (·.2))).length = σ8.length := by rw [← hw8, wipe_length]
        refine ⟨m', hm, i + 1, H', (I'.unpinned (pins := [])).weak hl (fun j v e => ?_), T.keep _ _ _ st7 fun b hb o e => (pin' b hb o e).1, fun b hb => ?_, w'⟩
        · rw [← hw8] at e
          exact (wipe_some e).1
        · obtain ⟨o, e, _⟩ := T.obj _ _ st7 b hb
          exact (pin' b hb o e).2
      cases b with
      | false =>
        simp only [Bool.false_eq_true, if_false] at q9 ⊢
        exact back I9 q9
      | true =>
        simp only [if_true] at q9 ⊢
        refine thnF (pe.run _ s9 σ8 H9 _ I9 q9) fun z s10 ⟨yv, H10, I10, r10, cb, l0, ey, hD10, hz10, nx⟩ => ?_
        subst ey
        obtain ⟨tk, rfl⟩ := r10
        exact addT_ok (X := X.blk s3 H3 scope ce fp) I10 hD10 hz10 fun s11 I11 => back I11 nx
  exact codeAny_compStart_set loop (T.self X.A 0 _ _ _ st4 loop)
theorem pe_scT {elt tg iter : Expr} {ifs : List Expr} {scope : Scope} {own : List (PySem.Str × Nat)} {pos : Pos} {wi : TI} {g : TG} {tt : TT} {te : TE} (calm : X.calm = true) (hN : X.N.Nodup) (hi : PI X tg iter wi) (ok : BlkOk X.N X.env.scope scope own)
    (hg : ∀ (s : Shared) (H : Hp) (C : Addr) (cl : List (PySem.Str × Addr)) (fp : List Addr), PG (X.blk s H scope (compEnvC scope cl C X.env) fp) tg g) (ht : ∀ (s : Shared) (H : Hp) (C : Addr) (cl : List (PySem.Str × Addr)) (fp : List Addr), PTs (X.blk s H scope (compEnvC scope cl C X.env) fp) ifs tt)
    (he : ∀ (s : Shared) (H : Hp) (C : Addr) (cl : List (PySem.Str × Addr)) (fp : List Addr), PE (X.blk s H scope (compEnvC scope cl C X.env) fp) elt te) (folds : ∀ x, foldedSetIterable iter X.env x = pure x := by intro _; rfl) :
    PE X (.SetComp elt [⟨tg, iter, ifs, 0⟩] scope pos) (tScT X.prog X.w wi g tt te (own.map (·.2))) := by
  refine ⟨fun pins s σ H Q I h => ?_⟩
  rw [eval_SetComp]
  refine scT_core calm hN I hi ok hg ht he folds h fun D C s' m H' I' q hn f => ⟨m, hn, fun h'' sb => ?_⟩
  obtain ⟨f0, f1, f2, f3, f4, f5⟩ := f
  exact ⟨.ref D, H', I'.turned (t' := s'.toks) (fun b o hb e => (sb.2 b hb).trans e) f0 f1 f3 f4 f5, rfl, q⟩
end
end DL
namespace DL
open PySem L2
/-! ### over data: sorted({elt for target in iter if ..}) -/
def srtScD (own : List (Str × Nat)) (h : Env → R (List D)) (g : D → Env → R Env) (c : Env → R Bool) (f : Env → R D) : Env → R D := fun r => if noOwn (own.map (·.2)) r = true then (h r).bind fun items => if items.length + 1 < scanBound then (R.ne (lcP g c f (wipeE r (own.map (·.2))) items)).bind fun ds =>
    (R.ofO (strsOf ds)).bind fun ss => .ok (.lst ((sortStr (dedT ss)).map D.str)) else .stk else .stk
theorem strsOf_cons {d : D} {ds : List D} {ss : List Str} (h : strsOf (d :: ds) = some ss) : ∃ x r, d = .str x ∧ strsOf ds = some r ∧ ss = x :: r := by
  cases d with
  | str x =>
    obtain ⟨r, e1, e2⟩ := Option.map_eq_some_iff.mp h
    exact ⟨x, r, rfl, e1, e2.symm⟩
  | _ => cases h
section
variable {X : Cx} {W : WX} {elt tg iter : Expr} {ifs : List Expr} {scope : Scope} {own : List (Str × Nat)} {p pos pos2 : Pos} {ks : List Nat} {h : Env → R (List D)} {g : D → Env → R Env} {c : Env → R Bool} {f : Env → R D}
end
end DL
namespace DL
open PySem L2
/-! ### x += y, texts -/
theorem ip_addS {X : Cx} : PIp X .Add rAddS := fun pins s σ H x y u v Q I rx ry h => iop_add_str pins s σ H x y u v Q I rx ry h
def addSD : D → D → Option D
  | .str x, .str y => if x.length + y.length ≤ sizeLine then some (.str (x ++ y)) else none
  | _, _ => none
theorem o_ipS {X : Cx} : OpIp X rAddS addSD := by
  intro A H x y v w d Q ak e h1 h2 k
  cases x with
  | str i => cases y with
    | str j =>
      have e : (if i.length + j.length ≤ sizeLine then some (D.str (i ++ j)) else none) = some d := e
      by_cases z : i.length + j.length ≤ sizeLine
      · rw [if_pos z] at e
        cases e
        exact ⟨i, j, RepB.str (.inl h1), RepB.str h2, z, k _ H Same.of_eq rep_str⟩
      · rw [if_neg z] at e
        cases e
    | _ => cases e
  | _ => cases e
end DL

end
section
namespace DL
open PySem L2
/-! ### x in t, t a tuple of data of any depth -/
def rInTD (K : PySem.W.Frag) (n : Bool) : R2 := fun x y H Q => ∃ d ds, Dp K H x d ∧ Dp K H y (.tuple ds) ∧ SeqAt.shaped d = true ∧ PyData.canLayAll0 ds = true ∧ Q (.bl (if n then !ds.any (fun z => PyData.eqv z d) else ds.any fun z => PyData.eqv z d)) H
section
variable {X : Cx}
def inT (n : Bool) (x y : D) : Option D := match y with
  | .tup ys => if shp x = true ∧ PyData.canLayAll0 (toPyL ys) = true then some (.bl (if n then !ys.any (fun y => eqPy y x) else ys.any fun y => eqPy y x)) else none
  | _ => none
end
end DL

end
section
namespace DL
open PySem L2

/-! ### loops, by invariants -/
theorem forD_inv {g : D → Env → R Env} {b : Env → R Fl} (I : Nat → Env → Prop) : ∀ (items : List D) (k : Nat) (r : Env), I k r →
    (∀ (i : Nat) (x : D) (r : Env), items[i]? = some x → I (k + i) r → ∃ r1 r2, g x r = .ok r1 ∧ b r1 = .ok (.nx r2) ∧ I (k + i + 1) r2) →
    ∃ r', forD g b items r = .ok (.nx r') ∧ I (k + items.length) r'
  | [], k, r, h0, hs => ⟨r, rfl, h0⟩
  | x :: xs, k, r, h0, hs => by
    obtain ⟨r1, r2, e1, e2, h2⟩ := hs 0 x r rfl h0
    obtain ⟨r', e3, h3⟩ := forD_inv I xs (k + 1) r2 h2 (fun i y r e h => by
      have := hs (i + 1) y r (by simpa using e) (by rw [← Nat.add_assoc, Nat.add_right_comm]; exact h)
      rw [← Nat.add_assoc, Nat.add_right_comm k i 1] at this
      exact this)
    refine ⟨r', ?_, ?_⟩
    · unfold forD
      rw [e1]
      simp only [R.bind]
      rw [e2]
      exact e3
    · rw [List.length_cons, Nat.add_comm xs.length 1, ← Nat.add_assoc]
      exact h3
theorem for_inv {g : D → Env → R Env} {b : Env → R Fl} {items : List D} {r : Env} (I : Nat → Env → Prop) (h0 : I 0 r)
    (hs : ∀ (i : Nat) (x : D) (r : Env), items[i]? = some x → I i r → ∃ r1 r2, g x r = .ok r1 ∧ b r1 = .ok (.nx r2) ∧ I (i + 1) r2) :
    ∃ r', forD g b items r = .ok (.nx r') ∧ I items.length r' := by
  have := forD_inv (g := g) (b := b) I items 0 r h0 (fun i x r e h => by
    rw [Nat.zero_add] at h ⊢
    exact hs i x r e h)
  rw [Nat.zero_add] at this
  exact this
/-- a list comprehension, item by item -/
theorem lcP_ok {g : D → Env → R Env} {c : Env → R Bool} {f : Env → R D} {r0 : Env} (p : D → Bool) (φ : D → D) : ∀ (items : List D),
    (∀ x ∈ items, ∃ r1, g x r0 = .ok r1 ∧ c r1 = .ok (p x) ∧ (p x = true → f r1 = .ok (φ x))) → lcP g c f r0 items = .ok ((items.filter p).map φ)
  | [], h => rfl
  | x :: xs, h => by
    obtain ⟨r1, e1, e2, e3⟩ := h x (List.mem_cons_self ..)
    have ih := lcP_ok p φ xs fun y hy => h y (List.mem_cons_of_mem _ hy)
    unfold lcP
    rw [e1]
    simp only [R.ne, R.bind]
    rw [e2]
    simp only [R.bind]
    cases hp : p x with
    | false => simp only [Bool.false_eq_true, if_false, List.filter_cons, hp]; exact ih
    | true =>
      simp only [if_true, List.filter_cons, hp]
      rw [e3 hp]
      simp only [R.bind]
      rw [ih]
      rfl
theorem lcV_ok {g : D → Env → R Env} {c : Env → R Bool} {f : Env → R D} {own : List (Str × Nat)} {h : Env → R (List D)} {r : Env} {items : List D} (p : D → Bool) (φ : D → D) (hn : noOwn (own.map (·.2)) r = true) (hi : h r = .ok items) (hl : items.length ≤ sizeLine)
    (hx : ∀ x ∈ items, ∃ r1, g x (wipeE r (own.map (·.2))) = .ok r1 ∧ c r1 = .ok (p x) ∧ (p x = true → f r1 = .ok (φ x))) : lcD own h g c f r = .ok (.lst ((items.filter p).map φ)) := by
  unfold lcD
  rw [if_pos hn]
  unfold lcV
  rw [hi]
  simp only [R.bind]
  rw [if_pos hl, lcP_ok p φ items hx]

/-! ### texts by their signs -/
abbrev mkS (l : List Nat) : Str := ⟨l.toArray⟩
def tx (l : List Nat) : D := .str (mkS l)
theorem tx_eq (l : List Nat) : tx l = .str (mkS l) := (rfl)
theorem str_len (l : List Nat) : (mkS l).length = l.length := (rfl)
theorem sgs_tx (l : List Nat) : sgs (mkS l) = l.map fun c => tx [c] := by
  unfold sgs
  rfl
theorem str_app (l m : List Nat) : mkS l ++ mkS m = mkS (l ++ m) := by
  show PySem.Str.append _ _ = _
  unfold PySem.Str.append
  simp
theorem tx_inj {l m : List Nat} : (mkS l = mkS m) ↔ l = m := by
  constructor
  · intro h
    have := congrArg (fun s : Str => s.cps.toList) h
    simpa using this
  · intro h
    rw [h]
theorem cut_tx (l : List Nat) (lo hi : Option Int) : cutS (mkS l) lo hi = mkS (cutL l lo hi) := by
  unfold cutS cutL
  rw [str_len]
theorem len_fit {l : List Nat} (h : l.length ≤ 1000) : l.length ≤ sizeLine := by
  rw [sizeLine_eq]
  omega
theorem ix_tx {l : List Nat} (h : l.length ≤ 1000) (i : Int) : ixD (tx l) (.int i) = (atI l i).map fun c => tx [c] := by
  rw [tx_eq]
  unfold ixD
  simp only
  rw [if_pos (by rw [str_len]; exact len_fit h)]
  rfl
theorem len_tx {l : List Nat} (h : l.length ≤ 1000) : lenD [tx l] = some (.int l.length) := by
  simp only [tx_eq]
  unfold lenD
  simp only
  rw [if_pos (by rw [str_len]; exact len_fit h), str_len]
theorem sl_tx {l : List Nat} (h : l.length ≤ 1000) (lo hi : Option Int) : slA (tx l) lo hi = some (tx (cutL l lo hi)) := by
  simp only [tx_eq]
  unfold slA
  simp only
  rw [if_pos (by rw [str_len]; exact len_fit h), cut_tx]
theorem eq_tx (l m : List Nat) : eqD (tx l) (tx m) = some (.bl (decide (l = m))) := by
  simp only [tx_eq]
  unfold eqD
  simp only [tx_inj]
theorem ne_tx (l m : List Nat) : neD (tx l) (tx m) = some (.bl (!decide (l = m))) := by
  simp only [tx_eq]
  unfold neD
  simp only [tx_inj]
theorem plus_tx {l m : List Nat} (h : l.length ≤ 1000) (h2 : m.length ≤ 1000) : plusD (tx l) (tx m) = some (tx (l ++ m)) := by
  simp only [tx_eq]
  unfold plusD
  simp only
  rw [if_pos (by rw [str_len, str_len, sizeLine_eq]; omega), str_app]
theorem eq_int (i j : Int) : eqD (.int i) (.int j) = some (.bl (decide (i = j))) := (rfl)
theorem ne_int (i j : Int) : neD (.int i) (.int j) = some (.bl (!decide (i = j))) := (rfl)
theorem le_int (i j : Int) : le2D (.int i) (.int j) = some (.bl (decide (i ≤ j))) := (rfl)
theorem atI_nat {α : Type} (xs : List α) (i : Nat) : atI xs (i : Int) = xs[i]? := by
  unfold atI ixN
  rw [if_pos (Int.natCast_nonneg i)]
  by_cases h : i < xs.length
  · rw [if_pos (by omega)]
    rfl
  · rw [if_neg (by omega), List.getElem?_eq_none (by omega)]
    rfl
theorem atI_zero {α : Type} (xs : List α) : atI xs 0 = xs[0]? := atI_nat xs 0
theorem atI_last {α : Type} (xs : List α) : atI xs (-1) = xs.getLast? := by
  unfold atI ixN
  rw [if_neg (by decide)]
  cases xs with
  | nil => rfl
  | cons a t =>
    rw [if_pos (by rw [List.length_cons]; omega), List.getLast?_eq_getElem?]
    show (a :: t)[((-1 : Int) + (((a :: t).length : Nat) : Int)).toNat]? = _
    congr 1
    rw [List.length_cons]
    omega
theorem cut_to {α : Type} (xs : List α) (k : Nat) : cutL xs none (some (k : Int)) = xs.take k := by
  unfold cutL
  rw [HT.sIx_none, HT.sIx_nat, List.drop_zero, Nat.sub_zero, Nat.min_comm]
  by_cases h : k ≤ xs.length
  · rw [Nat.min_eq_right h]
  · rw [Nat.min_eq_left (by omega), List.take_of_length_le (Nat.le_refl _), List.take_of_length_le (by omega)]
theorem cut_from {α : Type} (xs : List α) (k : Nat) : cutL xs (some (k : Int)) none = xs.drop k := by
  unfold cutL
  rw [HT.sIx_none, HT.sIx_nat]
  by_cases h : k ≤ xs.length
  · rw [Nat.min_eq_left h, List.take_of_length_le (by rw [List.length_drop]; exact Nat.le_refl _)]
  · rw [Nat.min_eq_right (by omega), List.drop_of_length_le (Nat.le_refl _), List.drop_of_length_le (by omega), List.take_nil]
theorem cut_both {α : Type} (xs : List α) (i j : Nat) : cutL xs (some (i : Int)) (some (j : Int)) = (xs.take j).drop i := by
  unfold cutL
  rw [HT.sIx_nat, HT.sIx_nat, List.drop_take]
  by_cases hi : i ≤ xs.length
  · rw [Nat.min_eq_left hi]
    by_cases hj : j ≤ xs.length
    · rw [Nat.min_eq_left hj]
    · rw [Nat.min_eq_right (Nat.le_of_not_le hj), List.take_of_length_le (by rw [List.length_drop]; exact Nat.le_refl _), List.take_of_length_le (by rw [List.length_drop]; omega)]
  · rw [Nat.min_eq_right (Nat.le_of_not_le hi), List.drop_of_length_le (Nat.le_refl _), List.drop_of_length_le (Nat.le_of_not_le hi), List.take_nil, List.take_nil]
theorem cut_butlast {α : Type} (xs : List α) : cutL xs none (some (-1)) = xs.dropLast := by
  unfold cutL
  rw [HT.sIx_none, List.drop_zero, Nat.sub_zero, List.dropLast_eq_take]
  have e : HT.sIx xs.length xs.length (some (-1)) = ((-1 : Int) + (xs.length : Int)).toNat := (rfl)
  rw [e]
  congr 1
  omega
/-- ints -/
abbrev nl (l : List Nat) : D := .lst (l.map fun k => D.int (k : Nat))
theorem rng_get (lo : Int) (n i : Nat) (x : D) (h : (rngL lo n)[i]? = some x) : i < n ∧ x = .int (lo + (i : Nat)) := by
  have hi : i < n := by
    have := (List.getElem?_eq_some_iff.mp h).1
    rw [rngL_length] at this
    exact this
  unfold rngL at h
  rw [List.getElem?_map, List.getElem?_range hi] at h
  exact ⟨hi, (Option.some.inj h).symm⟩
theorem rngr_get (lo : Int) (n i : Nat) (x : D) (h : (rngL lo n).reverse[i]? = some x) : i < n ∧ x = .int (lo + ((n - 1 - i : Nat) : Int)) := by
  have hi : i < n := by
    have := (List.getElem?_eq_some_iff.mp h).1
    rw [List.length_reverse, rngL_length] at this
    exact this
  rw [List.getElem?_reverse (by rw [rngL_length]; exact hi), rngL_length] at h
  exact ⟨hi, (rng_get lo n _ x h).2⟩
end DL

end
section
namespace DL
open PySem L2
/-! ### evaluation -/
section
variable {α β : Type}
theorem bind_ok (a : α) (g : α → R β) : (R.ok a).bind g = g a := (rfl)
theorem ofO_some (a : α) : R.ofO (some a) = R.ok a := (rfl)
theorem at_ok (r : Env) (a : α) : R.at r (R.ok a) = R.ok a := (rfl)
theorem ne_ok (a : α) : R.ne (R.ok a) = R.ok a := (rfl)
end
def gS : Option Slot → R D
  | some (.sh d) => .ok d
  | _ => .stk
def gA : Option Slot → R D
  | some (.sh d) => .ok d
  | some (.own d) => .ok d
  | some (.io d) => .ok d
  | _ => .stk
theorem gSh_eq (i : Nat) (r : Env) : gSh i r = gS r[i]? := (rfl)
theorem gAny_eq (i : Nat) (r : Env) : gAny i r = gA r[i]? := (rfl)
theorem gS_sh (d : D) : gS (some (.sh d)) = .ok d := (rfl)
theorem gA_sh (d : D) : gA (some (.sh d)) = .ok d := (rfl)
theorem gA_own (d : D) : gA (some (.own d)) = .ok d := (rfl)
theorem gA_io (d : D) : gA (some (.io d)) = .ok d := (rfl)
def oL : Option Slot → Option (Slot × List D)
  | some s => match s.cont with
    | some (.lst xs) => some (s, xs)
    | _ => none
  | none => none
theorem ownL_eq (r : Env) (i : Nat) : ownL r i = oL r[i]? := (rfl)
theorem oL_own (xs : List D) : oL (some (.own (.lst xs))) = some (.own (.lst xs), xs) := (rfl)
theorem oL_io (xs : List D) : oL (some (.io (.lst xs))) = some (.io (.lst xs), xs) := (rfl)
theorem put_own (d e : D) : (Slot.own d).put e = .own e := (rfl)
theorem put_io (d e : D) : (Slot.io d).put e = .io e := (rfl)
theorem asB_bl' (b : Bool) : asB (.bl b) = some b := (rfl)
theorem asI_int' (i : Int) : asI (.int i) = some i := (rfl)
theorem tru_bl (b : Bool) : truD (.bl b) = some b := (rfl)
theorem tru_int (i : Int) : truD (.int i) = some (i != 0) := (rfl)
theorem tru_lst (xs : List D) : truD (.lst xs) = some (!xs.isEmpty) := (rfl)
theorem len_lst (xs : List D) : lenD [.lst xs] = some (.int xs.length) := (rfl)
theorem len_tup (xs : List D) : lenD [.tup xs] = some (.int xs.length) := (rfl)
theorem ix_lst (xs : List D) (i : Int) : ixD (.lst xs) (.int i) = atI xs i := (rfl)
theorem ix_tup (xs : List D) (i : Int) : ixD (.tup xs) (.int i) = atI xs i := (rfl)
theorem sl_lst (xs : List D) (lo hi : Option Int) : slA (.lst xs) lo hi = some (.lst (cutL xs lo hi)) := (rfl)
theorem sl_tup (xs : List D) (lo hi : Option Int) : slA (.tup xs) lo hi = some (.tup (cutL xs lo hi)) := (rfl)
theorem plus_int (i j : Int) : plusD (.int i) (.int j) = some (.int (i + j)) := (rfl)
theorem plus_lst {xs ys : List D} (h : xs.length + ys.length ≤ 1000000) : plusD (.lst xs) (.lst ys) = some (.lst (xs ++ ys)) := by
  unfold plusD
  simp only
  rw [if_pos (by rw [sizeLine_eq]; omega)]
theorem plus_tup {xs ys : List D} (h : xs.length + ys.length ≤ 1000000) : plusD (.tup xs) (.tup ys) = some (.tup (xs ++ ys)) := by
  unfold plusD
  simp only
  rw [if_pos (by rw [sizeLine_eq]; omega)]
theorem cat_lst {xs ys : List D} (h : xs.length + ys.length ≤ 1000000) : catD (.lst xs) (.lst ys) = some (.lst (xs ++ ys)) := by
  unfold catD
  simp only
  rw [if_pos (by rw [sizeLine_eq]; omega)]
theorem rep_lst1 {d : D} {k : Nat} (h : k ≤ 1000000) : repD (.lst [d]) (.int (k : Nat)) = some (.lst (List.replicate k d)) := by
  unfold repD
  simp only
  rw [if_pos ⟨by omega, by omega, by rw [sizeLine_eq, Int.toNat_natCast]; simp; omega⟩, Int.toNat_natCast]
  congr 2
  induction k with
  | zero => rfl
  | succ k ih => rw [List.replicate_succ, List.flatten_cons, ih (by omega)]; rfl
theorem zD_tx (l : List Nat) : zD (tx l) = some (l.map fun c => tx [c]) := by
  rw [tx_eq]
  show some (sgs (mkS l)) = _
  rw [sgs_tx]
theorem zD_lst (xs : List D) : zD (.lst xs) = some xs := (rfl)
theorem zD_tup (xs : List D) : zD (.tup xs) = some xs := (rfl)
theorem rev_tx {l : List Nat} (h : l.length ≤ 1000) : revZ (tx l) = some (l.reverse.map fun c => tx [c]) := by
  rw [tx_eq]
  unfold revZ
  simp only
  rw [if_pos (by rw [str_len]; exact len_fit h), sgs_tx, List.map_reverse]
theorem en_tx (l : List Nat) : enD [tx l] = some ((l.zipIdx).map fun p => D.tup [.int (p.2 : Nat), tx [p.1]]) := by
  rw [tx_eq]
  show some ((sgs (mkS l)).zipIdx.map _) = _
  rw [sgs_tx, List.zipIdx_map, List.map_map]
  rfl
theorem asStr_tx (l : List Nat) : asStr (tx l) = some (mkS l) := (rfl)
theorem tup_lst (xs : List D) : tupC [.lst xs] = some (.tup xs) := (rfl)
theorem lst_tup (xs : List D) : lstC [.tup xs] = some (.lst xs) := (rfl)
theorem isi_tx (l : List Nat) : isiD [tx l, .ty "str"] = some (.bl true) := (rfl)
theorem isi_int (i : Int) : isiD [.int i, .ty "int"] = some (.bl true) := (rfl)
theorem kit_ib : kitB "int" "bool" = some false := by decide +kernel
theorem kit_lt : kitB "list" "tuple" = some false := by decide +kernel
theorem isi_intb (i : Int) : isiD [.int i, .ty "bool"] = some (.bl false) := by
  show (if "int" = "" then none else kitB "int" "bool").map D.bl = _
  rw [kit_ib, if_neg (by decide)]
  rfl
theorem isi_tt (xs : List D) : isiD [.tup xs, .ty "tuple"] = some (.bl true) := (rfl)
theorem isi_lt (xs : List D) : isiD [.lst xs, .ty "tuple"] = some (.bl false) := by
  show (if "list" = "" then none else kitB "list" "tuple").map D.bl = _
  rw [kit_lt, if_neg (by decide)]
  rfl
theorem int_op {C : Int → Int → Bool} {F : Int → Int → Int} {i j : Int} (h : C i j = true) : intOp C F (.int i) (.int j) = some (.int (F i j)) := by
  unfold intOp
  simp only
  rw [if_pos h]
theorem sub_int' (i j : Int) : subD (.int i) (.int j) = some (.int (i - j)) := int_op rfl
theorem add_ip (i j : Int) : intOp (fun _ _ => true) (fun i j => i + j) (.int i) (.int j) = some (.int (i + j)) := int_op rfl
theorem sub_ip (i j : Int) : intOp (fun _ _ => true) (fun i j => i - j) (.int i) (.int j) = some (.int (i - j)) := int_op rfl
theorem mul_int' {i j : Int} (h : (-(2 ^ 64) < i ∧ i < 2 ^ 64) ∨ (-(2 ^ 64) < j ∧ j < 2 ^ 64)) : mulD (.int i) (.int j) = some (.int (i * j)) := int_op (by
  rcases h with z | z
  · rw [decide_eq_true z, Bool.true_or]
  · rw [decide_eq_true z, Bool.or_true])
theorem mod_int' {i j : Int} (h : 0 < j) : modD (.int i) (.int j) = some (.int (i % j)) := int_op (decide_eq_true h)
theorem fdiv_int' {i j : Int} (h : 0 < j ∧ j < 1073741824) : fdivD (.int i) (.int j) = some (.int (i / j)) := int_op (decide_eq_true h)
theorem lt_int (i j : Int) : ltD (.int i) (.int j) = some (.bl (decide (i < j))) := (rfl)
theorem gt_int (i j : Int) : gtD (.int i) (.int j) = some (.bl (decide (j < i))) := (rfl)
theorem ge_int (i j : Int) : geD (.int i) (.int j) = some (.bl (decide (j ≤ i))) := (rfl)
theorem isn_int (i : Int) : notN2 (.int i) .non = some (.bl true) := (rfl)
theorem isn_non : notN2 .non .non = some (.bl false) := (rfl)
theorem isb (a b : Bool) : isBD (.bl a) (.bl b) = some (.bl (decide (a = b))) := (rfl)
theorem neg_int (i : Int) : negD (.int i) = some (.int (-i)) := (rfl)
theorem int_int (i : Int) : intD [.int i] = some (.int i) := (rfl)
theorem atI_two {α : Type} (xs : List α) : atI xs 2 = xs[2]? := atI_nat xs 2
theorem atI_three {α : Type} (xs : List α) : atI xs 3 = xs[3]? := atI_nat xs 3
theorem atI_one {α : Type} (xs : List α) : atI xs 1 = xs[1]? := atI_nat xs 1
theorem atI_succ {α : Type} (xs : List α) (n : Nat) : atI xs ((n : Int) + 1) = xs[n + 1]? := atI_nat xs (n + 1)
theorem rg2_nat {m n : Nat} (h : m ≤ 1000000 ∧ n ≤ 1000000) : rg2 [.int (m : Nat), .int (n : Nat)] = some (rngL (m : Nat) (n - m)) := by
  unfold rg2
  simp only
  rw [if_pos (by omega)]
  congr 2
  omega
theorem rvR_nat {n : Nat} (h : n ≤ 1000000) : rvR (.int 0) (.int (n : Nat)) = some (rngL 0 n).reverse := by
  unfold rvR
  simp only
  rw [if_pos (by omega)]
  congr 3
/-! ### statements -/
section
variable {f g : Env → R Fl} {r r1 r2 : Env} {x : R Fl} {d : D}
theorem seq_nx (h : f r = .ok (.nx r1)) (h2 : g r1 = x) : seqS f g r = x := by
  unfold seqS
  rw [h]
  exact h2
theorem seq_rt (h : f r = .ok (.rt d r1)) : seqS f g r = .ok (.rt d r1) := by
  unfold seqS
  rw [h]
  rfl
theorem if_y {c : Env → R (Bool × Env)} (h : c r = .ok (true, r1)) (h2 : f r1 = x) : ifS c f g r = x := by
  unfold ifS
  rw [h]
  exact h2
theorem if_n {c : Env → R (Bool × Env)} (h : c r = .ok (false, r1)) (h2 : g r1 = x) : ifS c f g r = x := by
  unfold ifS
  rw [h]
  exact h2
theorem for_st {h : Env → R (List D × Env)} {t : D → Env → R Env} {items : List D} (e : h r = .ok (items, r1)) (h2 : forD t f items r1 = x) : forS h t f r = x := by
  unfold forS
  rw [e]
  exact h2
theorem for_p {h : Env → R (List D)} {t : D → Env → R Env} {items : List D} (e : h r = .ok items) (h2 : forD t f items r = x) : forS (withEnv h) t f r = x := by
  unfold forS withEnv
  rw [e]
  exact h2
theorem set_e {i : Nat} {h : Env → R (D × Env)} (e : h r = .ok (d, r1)) : setS i h r = .ok (.nx (r1.set i (.sh d))) := by
  unfold setS
  rw [e]
  rfl
theorem set_p {i : Nat} {h : Env → R D} (e : h r = .ok d) : setS i (withEnv h) r = .ok (.nx (r.set i (.sh d))) := by
  unfold setS withEnv
  rw [e]
  rfl
theorem ret_p {h : Env → R D} (e : h r = .ok d) : retS (withEnv h) r = .ok (.rt d r) := by
  unfold retS withEnv
  rw [e]
  rfl
theorem cond_p {h : Env → R Bool} {b : Bool} (e : h r = .ok b) : withEnv h r = .ok (b, r) := by
  unfold withEnv
  rw [e]
  rfl
theorem fnD_rt {N n : Nat} {ds : List D} (hl : ds.length = n) (h : f (ini N ds) = .ok (.rt d r1)) : fnD N n f ds = .ok d := by
  unfold fnD
  rw [if_pos hl, h]
  rfl
theorem fnD_nx {N n : Nat} {ds : List D} (hl : ds.length = n) (h : f (ini N ds) = .ok (.nx r1)) : fnD N n f ds = .ok .non := by
  unfold fnD
  rw [if_pos hl, h]
  rfl
theorem fnIO_rt {N n : Nat} {row row' ds : List D} (hl : ds.length = n) (h : f (.io (.lst row) :: ini (N - 1) ds) = .ok (.rt d (.io (.lst row') :: r1))) : fnIO N n f row ds = .ok (d, row') := by
  unfold fnIO
  rw [if_pos hl, h]
  rfl
theorem call_p {n : Nat} {F : List D → R D} {h : Env → R (List D)} {ds : List D} (e : h r = .ok ds) (hl : ds.length = n) (e2 : F ds = .ok d) : callF n F h r = .ok d := by
  unfold callF
  rw [e]
  simp only [bind_ok]
  rw [if_pos hl, e2]
  rfl
end
end DL
namespace DL
open PySem L2
section
variable {r r1 : Env} {d x y : D} {s : Slot} {xs : List D} {i : Nat}
theorem itm_ok {fk fe : Env → R D} {k : Int} {j : Nat} (hv : fe r = .ok d) (ho : ownL r i = some (s, xs)) (hk : fk r = .ok (.int k)) (hj : ixN xs.length k = some j) : itmS i fk fe r = .ok (.nx (r.set i (s.put (.lst (xs.set j d))))) := by
  unfold itmS
  simp only [hv, bind_ok, ho, ofO_some, hk, asI_int', hj]
theorem ixN_nat {n k : Nat} (h : k < n) : ixN n (k : Int) = some k := by
  unfold ixN
  rw [if_pos (Int.natCast_nonneg k), if_pos (by omega), Int.toNat_natCast]
end
theorem setmap {α : Type} (f g : Nat → α) (n p : Nat) (h : ∀ q, q < n → q ≠ p → f q = g q) : ((List.range n).map f).set p (g p) = (List.range n).map g := by
  apply List.ext_getElem?
  intro q
  rw [List.getElem?_set]
  by_cases hq : q < n
  · by_cases e : p = q
    · subst e
      rw [if_pos rfl, if_pos (by simpa using hq), List.getElem?_map, List.getElem?_range hq]
      rfl
    · rw [if_neg e, List.getElem?_map, List.getElem?_map, List.getElem?_range hq]
      simp only [Option.map_some]
      rw [h q hq (fun z => e z.symm)]
  · by_cases e : p = q
    · subst e
      rw [if_pos rfl, if_neg (by simpa using hq), List.getElem?_eq_none (by simpa using hq)]
    · rw [if_neg e, List.getElem?_eq_none (by simpa using hq), List.getElem?_eq_none (by simpa using hq)]
theorem map_get {α : Type} (f : Nat → α) (n q : Nat) (h : q < n) : ((List.range n).map f)[q]? = some (f q) := by
  rw [List.getElem?_map, List.getElem?_range h]
  rfl
end DL
namespace DL
open PySem L2
theorem rep_lst1s {d : D} {k : Nat} (h : k ≤ 100000) : repD (.lst [d]) (.int ((k : Nat) + 1)) = some (.lst (List.replicate (k + 1) d)) := by
  have := rep_lst1 (d := d) (k := k + 1) (by omega)
  rw [← this]
  congr 2
theorem range_rev {α : Type} (f : Nat → α) (m : Nat) : ((List.range (m + 1)).map f).reverse = (List.range (m + 1)).map fun k => f (m - k) := by
  apply List.ext_getElem?
  intro q
  by_cases h : q < m + 1
  · rw [List.getElem?_reverse (by simpa using h), map_get _ _ _ h, List.length_map, List.length_range, map_get _ _ _ (by omega)]
    congr 2
  · rw [List.getElem?_eq_none (by simp; omega), List.getElem?_eq_none (by simp; omega)]
theorem map_snoc {α : Type} (f : Nat → α) (m : Nat) : (List.range (m + 1)).map f = (List.range m).map f ++ [f m] := by
  rw [List.range_succ, List.map_append, List.map_cons, List.map_nil]
theorem tx_get {l : List Nat} {i : Nat} {x : D} (h : (l.map fun c => tx [c])[i]? = some x) : ∃ c, l[i]? = some c ∧ x = tx [c] := by
  rw [List.getElem?_map] at h
  cases q : l[i]? with
  | none => rw [q] at h; cases h
  | some c =>
    rw [q] at h
    exact ⟨c, rfl, (Option.some.inj h).symm⟩
end DL
namespace DL
open PySem L2
abbrev ni (k : Nat) : D := .int (k : Nat)
theorem rng_range' (s m : Nat) : rngL (s : Nat) m = (List.range' s m).map ni := by
  unfold rngL
  rw [List.range'_eq_map_range, List.map_map]
  apply List.map_congr_left
  intro i _
  simp [ni]
theorem ints_map (l : List Nat) : intsD (l.map ni) = some (l.map fun k : Nat => (k : Int)) := by
  induction l with
  | nil => rfl
  | cons a t ih =>
    rw [List.map_cons]
    unfold intsD
    rw [ih]
    rfl
theorem cast_sum (l : List Nat) : (l.map fun k : Nat => (k : Int)).sum = ((l.sum : Nat) : Int) := by
  induction l with
  | nil => rfl
  | cons a t ih =>
    rw [List.map_cons, List.sum_cons, List.sum_cons, ih]
    omega
theorem sum_nl (l : List Nat) : sumD [.lst (l.map ni)] = some (.int (l.sum : Nat)) := by
  show (intsD (l.map ni)).map (fun ns => D.int ns.sum) = _
  rw [ints_map, Option.map_some, cast_sum]
theorem sum_nt (l : List Nat) : sumD [.tup (l.map ni)] = some (.int (l.sum : Nat)) := by
  show (intsD (l.map ni)).map (fun ns => D.int ns.sum) = _
  rw [ints_map, Option.map_some, cast_sum]
end DL
namespace DL
theorem bin_ok {op : D → D → Option D} {f g : Env → R D} {r : Env} {x y d : D} (h : f r = .ok x) (h1 : g r = .ok y) (h2 : op x y = some d) : bin op f g r = .ok d := by
  show (f r).bind _ = _
  rw [h]
  show (g r).bind _ = _
  rw [h1]
  show R.ofO (op x y) = _
  rw [h2]
  exact (rfl)
end DL
namespace DL
open PySem L2
theorem wx {α : Type} {f : Env → R α} {r : Env} {a : α} (e : f r = .ok a) : withEnv f r = .ok (a, r) := by
  unfold withEnv
  rw [e]
  exact (rfl)
theorem callIO_ok {i n : Nat} {F : List D → List D → R (D × List D)} {g : Env → R (List D × Env)} {r : Env} {s : Slot} {row row' ds : List D} {d : D} (h : ownL r i = some (s, row)) (hg : g r = .ok (ds, r)) (hl : ds.length = n) (hF : F row ds = .ok (d, row')) :
    callIO i n F g r = .ok (d, r.set i (s.put (.lst row'))) := by
  unfold callIO
  simp only [h, ofO_some, bind_ok, hg, if_pos hl, hF, ne_ok]
theorem pow18 : powD (.int 10) (.int 18) = some (.int (10 ^ 18)) := int_op (by decide)
theorem abc : (D.str "abcdefgh") = tx [97, 98, 99, 100, 101, 102, 103, 104] := by
  unfold tx
  congr 1
def isPair (d : D) : Prop := ∃ a b : Nat, d = .tup [.int a, .int b]
end DL

end
section
namespace DL
open PySem L2
/-! ### whole bodies, step by step: first-order rewriting (for simp only); no lemma here is a definitional step -/
section
variable {α β : Type} (r r1 r2 : Env) (d x y z : D) (ds xs : List D) (b c : Bool)
def weB (x : R α) (r : Env) : R (α × Env) := x.bind fun a => .ok (a, r)
theorem we_e (f : Env → R α) : withEnv f r = weB (f r) r := (rfl)
theorem weB_ok (a : α) : weB (.ok a) r = .ok (a, r) := (rfl)
def tsB (x : R D) : R Bool := x.bind fun d => R.ofO (asB d)
theorem ts_e (f : Env → R D) : tst f r = tsB (f r) := (rfl)
theorem tsB_ok : tsB (.ok (.bl b)) = .ok b := (rfl)
def tsE (x : R (D × Env)) : R (Bool × Env) := x.bind fun p => (R.ofO (asB p.1)).bind fun b => .ok (b, p.2)
theorem tsE_e (f : Env → R (D × Env)) : tstE f r = tsE (f r) := (rfl)
theorem tsE_ok : tsE (.ok (.bl b, r)) = .ok (b, r) := (rfl)
def prB (x : R α) (r : Env) : R (α × Env) := x.bind fun a => .ok (a, r)
theorem prB_ok (a : α) : prB (.ok a) r = .ok (a, r) := (rfl)
def trB (x : R D) : R Bool := x.bind fun d => R.ofO (truD d)
theorem tr_e (f : Env → R D) : tru f r = trB (f r) := (rfl)
theorem trB_ok : trB (.ok d) = R.ofO (truD d) := (rfl)
def trE (x : R (D × Env)) : R (Bool × Env) := x.bind fun p => (R.ofO (truD p.1)).bind fun b => .ok (b, p.2)
theorem trE_e (f : Env → R (D × Env)) : truE f r = trE (f r) := (rfl)
theorem trE_ok : trE (.ok (d, r)) = prB (R.ofO (truD d)) r := (rfl)
def bnB (op : D → D → Option D) (x y : R D) : R D := x.bind fun x => y.bind fun y => R.ofO (op x y)
theorem bn_e (op : D → D → Option D) (f g : Env → R D) : bin op f g r = bnB op (f r) (g r) := (rfl)
theorem bnB_ok (op : D → D → Option D) : bnB op (.ok x) (.ok y) = R.ofO (op x y) := (rfl)
def bnE (op : D → D → Option D) (x : R (D × Env)) (g : Env → R (D × Env)) : R (D × Env) := x.bind fun x => (g x.2).bind fun y => (R.ofO (op x.1 y.1)).bind fun d => .ok (d, y.2)
def bnE2 (op : D → D → Option D) (x : D) (y : R (D × Env)) : R (D × Env) := y.bind fun y => (R.ofO (op x y.1)).bind fun d => .ok (d, y.2)
theorem bnE_e (op : D → D → Option D) (f g : Env → R (D × Env)) : binE op f g r = bnE op (f r) g := (rfl)
theorem bnE_ok (op : D → D → Option D) (g : Env → R (D × Env)) : bnE op (.ok (x, r)) g = bnE2 op x (g r) := (rfl)
theorem bnE2_ok (op : D → D → Option D) : bnE2 op x (.ok (y, r)) = prB (R.ofO (op x y)) r := (rfl)
def apB (op : List D → Option β) (x : R (List D)) : R β := x.bind fun ds => R.ofO (op ds)
theorem ap_e (op : List D → Option D) (g : Env → R (List D)) : appN op g r = apB op (g r) := (rfl)
theorem apB_ok (op : List D → Option β) : apB op (.ok ds) = R.ofO (op ds) := (rfl)
theorem itN_e (p : List D → Option (List D)) (g : Env → R (List D)) : itN p g r = apB p (g r) := (rfl)
def apE (op : List D → Option D) (x : R (List D × Env)) : R (D × Env) := x.bind fun p => (R.ofO (op p.1)).bind fun d => .ok (d, p.2)
theorem apE_e (op : List D → Option D) (g : Env → R (List D × Env)) : appNE op g r = apE op (g r) := (rfl)
theorem apE_ok (op : List D → Option D) : apE op (.ok (ds, r)) = prB (R.ofO (op ds)) r := (rfl)
def apX (p : D → Option β) (x : R D) : R β := x.bind fun d => R.ofO (p d)
theorem itX_e (p : D → Option (List D)) (f : Env → R D) : itX p f r = apX p (f r) := (rfl)
theorem apX_ok (p : D → Option β) : apX p (.ok d) = R.ofO (p d) := (rfl)
theorem un1_e (op : D → Option D) (f : Env → R D) : un1 op f r = apX op (f r) := (rfl)
theorem aNil_e : aNil r = .ok [] := (rfl)
def acB (x : R D) (y : R (List D)) : R (List D) := x.bind fun d => y.bind fun ds => .ok (d :: ds)
theorem aCons_e (f : Env → R D) (g : Env → R (List D)) : aCons f g r = acB (f r) (g r) := (rfl)
theorem acB_ok : acB (.ok d) (.ok ds) = .ok (d :: ds) := (rfl)
def acE (x : R (D × Env)) (g : Env → R (List D × Env)) : R (List D × Env) := x.bind fun p => (g p.2).bind fun q => .ok (p.1 :: q.1, q.2)
def acE2 (d : D) (x : R (List D × Env)) : R (List D × Env) := x.bind fun q => .ok (d :: q.1, q.2)
theorem aConsE_e (f : Env → R (D × Env)) (g : Env → R (List D × Env)) : aConsE f g r = acE (f r) g := (rfl)
theorem acE_ok (g : Env → R (List D × Env)) : acE (.ok (d, r)) g = acE2 d (g r) := (rfl)
theorem acE2_ok : acE2 d (.ok (ds, r)) = .ok (d :: ds, r) := (rfl)
theorem kc_e : kc d r = .ok d := (rfl)
def ntB (x : R Bool) : R Bool := x.bind fun b => .ok (!b)
theorem notB_e (g : Env → R Bool) : notB g r = ntB (g r) := (rfl)
theorem ntB_ok : ntB (.ok b) = .ok (!b) := (rfl)
def ntV (x : R D) : R D := x.bind fun d => (R.ofO (asB d)).bind fun b => .ok (.bl (!b))
theorem notV_e (g : Env → R D) : notV g r = ntV (g r) := (rfl)
theorem ntV_ok : ntV (.ok (.bl b)) = .ok (.bl (!b)) := (rfl)
def ntE (x : R (Bool × Env)) : R (Bool × Env) := x.bind fun b => .ok (!b.1, b.2)
theorem notE_e (g : Env → R (Bool × Env)) : notBE g r = ntE (g r) := (rfl)
theorem ntE_ok : ntE (.ok (b, r)) = .ok (!b, r) := (rfl)
/-! the right side is looked at only where it counts -/
def anB (x : R Bool) (h : Env → R Bool) (r : Env) : R Bool := x.bind fun b => if b = true then h r else .ok false
theorem andB_e (g h : Env → R Bool) : andB g h r = anB (g r) h r := (rfl)
theorem anB_t (h : Env → R Bool) : anB (.ok true) h r = h r := (rfl)
theorem anB_f (h : Env → R Bool) : anB (.ok false) h r = .ok false := (rfl)
def roB' (x : R Bool) (h : Env → R Bool) (r : Env) : R Bool := x.bind fun b => if b = true then .ok true else h r
theorem orB_e (g h : Env → R Bool) : orB g h r = roB' (g r) h r := (rfl)
theorem orB_t (h : Env → R Bool) : roB' (.ok true) h r = .ok true := (rfl)
theorem orB_f (h : Env → R Bool) : roB' (.ok false) h r = h r := (rfl)
def anV (x : R D) (h : Env → R D) (r : Env) : R D := x.bind fun d => (R.ofO (asB d)).bind fun b => if b = true then h r else .ok (.bl false)
theorem andV_e (g h : Env → R D) : andV g h r = anV (g r) h r := (rfl)
theorem anV_t (h : Env → R D) : anV (.ok (.bl true)) h r = h r := (rfl)
theorem anV_f (h : Env → R D) : anV (.ok (.bl false)) h r = .ok (.bl false) := (rfl)
def roV (x : R D) (h : Env → R D) (r : Env) : R D := x.bind fun d => (R.ofO (asB d)).bind fun b => if b = true then .ok (.bl true) else h r
theorem orV_e (g h : Env → R D) : orV g h r = roV (g r) h r := (rfl)
theorem roV_t (h : Env → R D) : roV (.ok (.bl true)) h r = .ok (.bl true) := (rfl)
theorem roV_f (h : Env → R D) : roV (.ok (.bl false)) h r = h r := (rfl)
def ivB (x : R Bool) (h k : Env → R D) (r : Env) : R D := x.bind fun b => if b = true then h r else k r
theorem ifV_e (g : Env → R Bool) (h k : Env → R D) : ifV g h k r = ivB (g r) h k r := (rfl)
theorem ivB_t (h k : Env → R D) : ivB (.ok true) h k r = h r := (rfl)
theorem ivB_f (h k : Env → R D) : ivB (.ok false) h k r = k r := (rfl)
def ivE (x : R (Bool × Env)) (h k : Env → R (D × Env)) : R (D × Env) := x.bind fun b => if b.1 = true then h b.2 else k b.2
theorem ifVE_e (g : Env → R (Bool × Env)) (h k : Env → R (D × Env)) : ifVE g h k r = ivE (g r) h k := (rfl)
theorem ivE_t (h k : Env → R (D × Env)) : ivE (.ok (true, r)) h k = h r := (rfl)
theorem ivE_f (h k : Env → R (D × Env)) : ivE (.ok (false, r)) h k = k r := (rfl)
def anE (x : R (Bool × Env)) (h : Env → R (Bool × Env)) : R (Bool × Env) := x.bind fun b => if b.1 = true then h b.2 else .ok (false, b.2)
theorem andE_e (g h : Env → R (Bool × Env)) : andBE g h r = anE (g r) h := (rfl)
theorem anE_t (h : Env → R (Bool × Env)) : anE (.ok (true, r)) h = h r := (rfl)
theorem anE_f (h : Env → R (Bool × Env)) : anE (.ok (false, r)) h = .ok (false, r) := (rfl)
def roE (x : R (Bool × Env)) (h : Env → R (Bool × Env)) : R (Bool × Env) := x.bind fun b => if b.1 = true then .ok (true, b.2) else h b.2
theorem orE_e (g h : Env → R (Bool × Env)) : orBE g h r = roE (g r) h := (rfl)
theorem roE_t (h : Env → R (Bool × Env)) : roE (.ok (true, r)) h = .ok (true, r) := (rfl)
theorem roE_f (h : Env → R (Bool × Env)) : roE (.ok (false, r)) h = h r := (rfl)
def chB (o1 o2 : D → D → Option D) (x y : R D) (fc : Env → R D) (r : Env) : R D := x.bind fun x => y.bind fun y => (R.ofO (o1 x y)).bind fun d => (R.ofO (asB d)).bind fun k =>
  if k = true then (fc r).bind fun z => R.ofO (o2 y z) else .ok (.bl false)
def chB2 (o2 : D → D → Option D) (k : Option D) (y : D) (fc : Env → R D) (r : Env) : R D := (R.ofO k).bind fun d => (R.ofO (asB d)).bind fun k => if k = true then (fc r).bind fun z => R.ofO (o2 y z) else .ok (.bl false)
theorem chn_e (o1 o2 : D → D → Option D) (fa fb fc : Env → R D) : chn o1 o2 fa fb fc r = chB o1 o2 (fa r) (fb r) fc r := (rfl)
theorem chB_ok (o1 o2 : D → D → Option D) (fc : Env → R D) : chB o1 o2 (.ok x) (.ok y) fc r = chB2 o2 (o1 x y) y fc r := (rfl)
theorem chB2_t (o2 : D → D → Option D) (fc : Env → R D) : chB2 o2 (some (.bl true)) y fc r = apX (o2 y) (fc r) := (rfl)
theorem chB2_f (o2 : D → D → Option D) (fc : Env → R D) : chB2 o2 (some (.bl false)) y fc r = .ok (.bl false) := (rfl)
theorem oNone_e : oNone r = .ok none := (rfl)
def osB (x : R D) : R (Option Int) := x.bind fun d => (R.ofO (asI d)).bind fun i => .ok (some i)
theorem oSome_e (f : Env → R D) : oSome f r = osB (f r) := (rfl)
theorem osB_ok (i : Int) : osB (.ok (.int i)) = .ok (some i) := (rfl)
def s3B (op : D → Option Int → Option Int → Option D) (x : R D) (l h : R (Option Int)) : R D := x.bind fun x => l.bind fun l => h.bind fun h => R.ofO (op x l h)
theorem sl3_e (op : D → Option Int → Option Int → Option D) (fa : Env → R D) (fl fh : Env → R (Option Int)) : sl3 op fa fl fh r = s3B op (fa r) (fl r) (fh r) := (rfl)
theorem s3B_ok (op : D → Option Int → Option Int → Option D) (l h : Option Int) : s3B op (.ok x) (.ok l) (.ok h) = R.ofO (op x l h) := (rfl)
def mvB (op : Str → List D → Option D) (x : R D) (g : R (List D)) : R D := x.bind fun x => (R.ofO (asStr x)).bind fun z => g.bind fun ds => R.ofO (op z ds)
theorem mthV_e (op : Str → List D → Option D) (fo : Env → R D) (g : Env → R (List D)) : mthV op fo g r = mvB op (fo r) (g r) := (rfl)
theorem mvB_tx (op : Str → List D → Option D) (l : List Nat) : mvB op (.ok (tx l)) (.ok ds) = R.ofO (op (mkS l) ds) := (rfl)
def mlB (op : List D → List D → Option D) (x : R D) (g : R (List D)) : R D := x.bind fun x => (R.ofO (asLst x)).bind fun z => g.bind fun ds => R.ofO (op z ds)
theorem mthL_e (op : List D → List D → Option D) (fo : Env → R D) (g : Env → R (List D)) : mthL op fo g r = mlB op (fo r) (g r) := (rfl)
theorem mlB_ok (op : List D → List D → Option D) : mlB op (.ok (.lst xs)) (.ok ds) = R.ofO (op xs ds) := (rfl)
def mtB (x : R (List D)) : R D := x.bind fun ds => if ds.length ≤ sizeLine then .ok (.tup ds) else .stk
theorem mkT_e (g : Env → R (List D)) : mkT g r = mtB (g r) := (rfl)
theorem mtB_ok (h : ds.length ≤ 1000) : mtB (.ok ds) = .ok (.tup ds) := by
  show (if ds.length ≤ sizeLine then R.ok (D.tup ds) else .stk) = _
  rw [if_pos (by rw [sizeLine_eq]; omega)]
def mlB' (x : R (List D)) : R D := x.bind fun ds => if ds.length ≤ sizeLine then .ok (.lst ds) else .stk
theorem mkL_e (g : Env → R (List D)) : mkL g r = mlB' (g r) := (rfl)
theorem mlB'_ok (h : ds.length ≤ 1000) : mlB' (.ok ds) = .ok (.lst ds) := by
  show (if ds.length ≤ sizeLine then R.ok (D.lst ds) else .stk) = _
  rw [if_pos (by rw [sizeLine_eq]; omega)]
def mtE (x : R (List D × Env)) : R (D × Env) := x.bind fun p => if p.1.length ≤ sizeLine then .ok (.tup p.1, p.2) else .stk
theorem mkTE_e (g : Env → R (List D × Env)) : mkTE g r = mtE (g r) := (rfl)
theorem mtE_ok (h : ds.length ≤ 1000) : mtE (.ok (ds, r)) = .ok (.tup ds, r) := by
  show (if ds.length ≤ sizeLine then R.ok (D.tup ds, r) else .stk) = _
  rw [if_pos (by rw [sizeLine_eq]; omega)]
theorem gSet_e (i : Nat) : gSet i d r = .ok (r.set i (.sh d)) := (rfl)
theorem gTup_e (n : Nat) (g : List D → Env → R Env) (h : ds.length = n) : gTupD n g (.tup ds) r = g ds r := by
  show (if ds.length = n then g ds r else .stk) = _
  rw [if_pos h]
def gcB (x : R Env) (h : List D → Env → R Env) (ds : List D) : R Env := x.bind fun r1 => h ds r1
theorem gsCons_e (g : D → Env → R Env) (h : List D → Env → R Env) : gsCons g h (d :: ds) r = gcB (g d r) h ds := (rfl)
theorem gcB_ok (h : List D → Env → R Env) : gcB (.ok r) h ds = h ds r := (rfl)
theorem gsNil_e : gsNil [] r = .ok r := (rfl)
/-! statements -/
def sqB (x : R Fl) (g : Env → R Fl) : R Fl := x.bind fun fl => match fl with
  | .nx r1 => g r1
  | .rt d r1 => .ok (.rt d r1)
  | .bk r1 => .ok (.bk r1)
  | .ct r1 => .ok (.ct r1)
theorem seq_st (f g : Env → R Fl) : seqS f g r = sqB (f r) g := (rfl)
theorem sq_nx (g : Env → R Fl) : sqB (.ok (.nx r)) g = g r := (rfl)
theorem sq_rt (g : Env → R Fl) : sqB (.ok (.rt d r)) g = .ok (.rt d r) := (rfl)
theorem sq_bk (g : Env → R Fl) : sqB (.ok (.bk r)) g = .ok (.bk r) := (rfl)
theorem sq_ct (g : Env → R Fl) : sqB (.ok (.ct r)) g = .ok (.ct r) := (rfl)
def ifB (x : R (Bool × Env)) (f g : Env → R Fl) : R Fl := x.bind fun p => if p.1 = true then f p.2 else g p.2
theorem if_st (c : Env → R (Bool × Env)) (f g : Env → R Fl) : ifS c f g r = ifB (c r) f g := (rfl)
theorem ifB_y (f g : Env → R Fl) : ifB (.ok (true, r)) f g = f r := (rfl)
theorem ifB_n (f g : Env → R Fl) : ifB (.ok (false, r)) f g = g r := (rfl)
def stB (i : Nat) (x : R (D × Env)) : R Fl := x.bind fun p => .ok (.nx (p.2.set i (.sh p.1)))
theorem set_st (i : Nat) (f : Env → R (D × Env)) : setS i f r = stB i (f r) := (rfl)
theorem stB_ok (i : Nat) : stB i (.ok (d, r)) = .ok (.nx (r.set i (.sh d))) := (rfl)
def rtB (x : R (D × Env)) : R Fl := x.bind fun p => .ok (.rt p.1 p.2)
theorem ret_st (f : Env → R (D × Env)) : retS f r = rtB (f r) := (rfl)
theorem rtB_ok : rtB (.ok (d, r)) = .ok (.rt d r) := (rfl)
def soB (i : Nat) (x : R D) (r : Env) : R Fl := x.bind fun d => .ok (.nx (r.set i (.own d)))
theorem seto_st (i : Nat) (f : Env → R D) : setO i f r = soB i (f r) r := (rfl)
theorem soB_ok (i : Nat) : soB i (.ok d) r = .ok (.nx (r.set i (.own d))) := (rfl)
def frB (x : R (List D × Env)) (g : D → Env → R Env) (b : Env → R Fl) : R Fl := x.bind fun p => forD g b p.1 p.2
theorem for_st' (h : Env → R (List D × Env)) (g : D → Env → R Env) (b : Env → R Fl) : forS h g b r = frB (h r) g b := (rfl)
theorem frB_ok (g : D → Env → R Env) (b : Env → R Fl) : frB (.ok (xs, r)) g b = forD g b xs r := (rfl)
theorem forD_nil (g : D → Env → R Env) (b : Env → R Fl) : forD g b [] r = .ok (.nx r) := (rfl)
def exB (x : R (D × Env)) : R Fl := x.bind fun p => .ok (.nx p.2)
theorem expr_st (f : Env → R (D × Env)) : exprS f r = exB (f r) := (rfl)
theorem exB_ok : exB (.ok (d, r)) = .ok (.nx r) := (rfl)
theorem skip_st : skipS r = .ok (.nx r) := (rfl)
theorem retN_st : retN r = .ok (.rt .non r) := (rfl)
theorem brk_st : brkS r = .ok (.bk r) := (rfl)
def clB (n : Nat) (F : List D → R D) (x : R (List D)) (r : Env) : R D := x.bind fun ds => if ds.length = n then R.at r (F ds) else .stk
theorem call_st (n : Nat) (F : List D → R D) (g : Env → R (List D)) : callF n F g r = clB n F (g r) r := (rfl)
theorem clB_ok (n : Nat) (F : List D → R D) (h : ds.length = n) : clB n F (.ok ds) r = R.at r (F ds) := by
  show (if ds.length = n then R.at r (F ds) else .stk) = _
  rw [if_pos h]
def clE (n : Nat) (F : List D → R D) (x : R (List D × Env)) : R (D × Env) := x.bind fun p => if p.1.length = n then (R.at p.2 (F p.1)).bind fun d => .ok (d, p.2) else .stk
theorem callE_st (n : Nat) (F : List D → R D) (g : Env → R (List D × Env)) : callFE n F g r = clE n F (g r) := (rfl)
theorem clE_ok (n : Nat) (F : List D → R D) (h : ds.length = n) : clE n F (.ok (ds, r)) = prB (R.at r (F ds)) r := by
  show (if ds.length = n then (R.at r (F ds)).bind fun d => .ok (d, r) else .stk) = _
  rw [if_pos h]
  rfl
theorem R_at_ok (a : α) : R.at r (.ok a : R α) = .ok a := (rfl)
def ciB (i n : Nat) (F : List D → List D → R (D × List D)) (o : Option (Slot × List D)) (x : R (List D × Env)) : R (D × Env) := (R.ofO o).bind fun _ => x.bind fun p => (R.ofO (ownL p.2 i)).bind fun s =>
  if p.1.length = n then (R.ne (F s.2 p.1)).bind fun q => .ok (q.1, p.2.set i (s.1.put (.lst q.2))) else .stk
def ciC (i : Nat) (F : List D → List D → R (D × List D)) (ds : List D) (r : Env) (o : Option (Slot × List D)) : R (D × Env) := (R.ofO o).bind fun s => (R.ne (F s.2 ds)).bind fun q => .ok (q.1, r.set i (s.1.put (.lst q.2)))
def ciD (i : Nat) (s : Slot) (r : Env) (x : R (D × List D)) : R (D × Env) := (R.ne x).bind fun q => .ok (q.1, r.set i (s.put (.lst q.2)))
theorem callIO_st (i n : Nat) (F : List D → List D → R (D × List D)) (g : Env → R (List D × Env)) : callIO i n F g r = ciB i n F (ownL r i) (g r) := (rfl)
theorem ciB_ok (i n : Nat) (F : List D → List D → R (D × List D)) (q : Slot × List D) (h : ds.length = n) : ciB i n F (some q) (.ok (ds, r)) = ciC i F ds r (ownL r i) := by
  show ((R.ofO (ownL r i)).bind fun s => if ds.length = n then (R.ne (F s.2 ds)).bind fun q => .ok (q.1, r.set i (s.1.put (.lst q.2))) else .stk) = _
  simp only [if_pos h]
  rfl
theorem ciC_ok (i : Nat) (F : List D → List D → R (D × List D)) (s : Slot) : ciC i F ds r (some (s, xs)) = ciD i s r (F xs ds) := (rfl)
theorem ciD_ok (i : Nat) (s : Slot) : ciD i s r (.ok (d, xs)) = .ok (d, r.set i (s.put (.lst xs))) := (rfl)
def psB (i j : Nat) (x : R (List D × Env)) : R Fl := x.bind fun p => match p.1 with
  | [d, e] => .ok (.nx ((p.2.set i (.sh d)).set j (.sh e)))
  | _ => .stk
theorem par_st (i j : Nat) (f : Env → R (List D × Env)) : parS i j f r = psB i j (f r) := (rfl)
theorem psB_ok (i j : Nat) : psB i j (.ok ([x, y], r)) = .ok (.nx ((r.set i (.sh x)).set j (.sh y))) := (rfl)
def asB1 (g : D → Env → R Env) (x : R (D × Env)) : R Fl := x.bind fun p => (g p.1 p.2).bind fun r2 => .ok (.nx r2)
def asB2 (x : R Env) : R Fl := x.bind fun r2 => .ok (.nx r2)
theorem asg_st (g : D → Env → R Env) (f : Env → R (D × Env)) : asgS g f r = asB1 g (f r) := (rfl)
theorem asB1_ok (g : D → Env → R Env) : asB1 g (.ok (d, r)) = asB2 (g d r) := (rfl)
theorem asB2_ok : asB2 (.ok r) = .ok (.nx r) := (rfl)
def agB (i : Nat) (op : D → D → Option D) (s : Option Slot) (x : R D) (r : Env) : R Fl := match s with
  | some (.sh z) => x.bind fun y => (R.ofO (op z y)).bind fun d => .ok (.nx (r.set i (.sh d)))
  | _ => .stk
def agC (i : Nat) (o : Option D) (r : Env) : R Fl := (R.ofO o).bind fun d => .ok (.nx (r.set i (.sh d)))
theorem aug_st (i : Nat) (op : D → D → Option D) (f : Env → R D) : augS i op f r = agB i op (r[i]?) (f r) r := by
  unfold augS agB
  cases r[i]? with
  | none => rfl
  | some s => cases s <;> rfl
theorem agB_ok (i : Nat) (op : D → D → Option D) : agB i op (some (.sh x)) (.ok y) r = agC i (op x y) r := (rfl)
theorem agC_ok (i : Nat) : agC i (some d) r = .ok (.nx (r.set i (.sh d))) := (rfl)
def apS (i : Nat) (o : Option (Slot × List D)) (x : R D) (r : Env) : R Fl := (R.ofO o).bind fun s => x.bind fun d => if s.2.length < sizeLine then .ok (.nx (r.set i (s.1.put (.lst (s.2 ++ [d]))))) else .stk
theorem app_st (i : Nat) (f : Env → R D) : appS i f r = apS i (ownL r i) (f r) r := (rfl)
theorem apS_ok (i : Nat) (s : Slot) (h : xs.length < 1000000) : apS i (some (s, xs)) (.ok d) r = .ok (.nx (r.set i (s.put (.lst (xs ++ [d]))))) := by
  show (if xs.length < sizeLine then R.ok (Fl.nx (r.set i (s.put (.lst (xs ++ [d]))))) else .stk) = _
  rw [if_pos (by rw [sizeLine_eq]; omega)]
def imB (i : Nat) (x : R D) (o : Option (Slot × List D)) (k : R D) (r : Env) : R Fl := x.bind fun d => (R.ofO o).bind fun s => k.bind fun k => (R.ofO (asI k)).bind fun k => (R.ofO (ixN s.2.length k)).bind fun j => .ok (.nx (r.set i (s.1.put (.lst (s.2.set j d)))))
def imC (i : Nat) (d : D) (s : Slot) (xs : List D) (j : Option Nat) (r : Env) : R Fl := (R.ofO j).bind fun j => .ok (.nx (r.set i (s.put (.lst (xs.set j d)))))
theorem itm_st (i : Nat) (fk fe : Env → R D) : itmS i fk fe r = imB i (fe r) (ownL r i) (fk r) r := (rfl)
theorem imB_ok (i : Nat) (s : Slot) (k : Int) : imB i (.ok d) (some (s, xs)) (.ok (.int k)) r = imC i d s xs (ixN xs.length k) r := (rfl)
theorem imC_ok (i j : Nat) (s : Slot) : imC i d s xs (some j) r = .ok (.nx (r.set i (s.put (.lst (xs.set j d))))) := (rfl)
def rvB (i : Nat) (o : Option (Slot × List D)) (r : Env) : R Fl := (R.ofO o).bind fun s => .ok (.nx (r.set i (s.1.put (.lst s.2.reverse))))
theorem rvs_st (i : Nat) : rvsS i r = rvB i (ownL r i) r := (rfl)
theorem rvB_ok (i : Nat) (s : Slot) : rvB i (some (s, xs)) r = .ok (.nx (r.set i (s.put (.lst xs.reverse)))) := (rfl)
def roB (i : Nat) (s : Option Slot) (r : Env) : R Fl := match s with
  | some (.own d) => .ok (.rt d (r.set i (.sh d)))
  | some (.sh d) => .ok (.rt d r)
  | _ => .stk
theorem retO_st (i : Nat) : retO i r = roB i (r[i]?) r := (rfl)
theorem roB_own (i : Nat) : roB i (some (.own d)) r = .ok (.rt d (r.set i (.sh d))) := (rfl)
theorem roB_sh (i : Nat) : roB i (some (.sh d)) r = .ok (.rt d r) := (rfl)
def fzB (i : Nat) (s : Option Slot) (r : Env) : Env := match s with
  | some (.own d) => r.set i (.sh d)
  | _ => r
theorem frz_st (i : Nat) : frz1 i r = fzB i (r[i]?) r := (rfl)
theorem frzS_st (i : Nat) (f : Env → R Fl) : frzS i f r = f (fzB i (r[i]?) r) := (rfl)
theorem fzB_own (i : Nat) : fzB i (some (.own d)) r = r.set i (.sh d) := (rfl)
theorem fzB_sh (i : Nat) : fzB i (some (.sh d)) r = r := (rfl)
theorem fzB_un (i : Nat) : fzB i (some .un) r = r := (rfl)
def r1B (x : R (List D × Env)) : R (List D × Env) := x.bind fun p => match p.1 with
  | [.int j] => if -(2 ^ 62) ≤ j ∧ j < 2 ^ 62 then .ok (rngL 0 j.toNat, p.2) else .stk
  | _ => .stk
theorem itR1_st (g : Env → R (List D × Env)) : itR1 g r = r1B (g r) := (rfl)
theorem r1B_ok {k : Int} (h : -1000000 ≤ k ∧ k ≤ 1000000) : r1B (.ok ([.int k], r)) = .ok (rngL 0 k.toNat, r) := by
  show (if -(2 ^ 62) ≤ k ∧ k < 2 ^ 62 then R.ok (rngL 0 k.toNat, r) else R.stk) = _
  rw [if_pos (by omega)]
theorem rg1_ok {k : Int} (h : -1000000 ≤ k ∧ k ≤ 1000000) : rg1 [.int k] = some (rngL 0 k.toNat) := by
  unfold rg1
  simp only
  rw [if_pos (by omega)]
theorem rg2_ok {j k : Int} (h : -1000000 ≤ j ∧ j ≤ 1000000 ∧ -1000000 ≤ k ∧ k ≤ 1000000) : rg2 [.int j, .int k] = some (rngL j (k - j).toNat) := by
  unfold rg2
  simp only
  rw [if_pos (by omega)]
theorem tn_add1 (n : Nat) : (1 + (n : Int)).toNat = 1 + n := by omega
theorem tn_succ (n : Nat) : ((n : Int) + 1).toNat = n + 1 := by omega
theorem tn_nat (n : Nat) : (n : Int).toNat = n := Int.toNat_natCast n
theorem tn_pred (n : Nat) : ((n : Int) - 1).toNat = n - 1 := by omega
theorem tn_sub (m n : Nat) : ((m : Int) - (n : Int)).toNat = m - n := by omega
theorem len0 : ([] : List D).length = 0 := (rfl)
theorem len1 : [d].length = 1 := (rfl)
theorem len2 : [d, x].length = 2 := (rfl)
theorem len3 : [d, x, y].length = 3 := (rfl)
theorem len4 : [d, x, y, z].length = 4 := (rfl)
end
/-! texts and tuples times numbers -/
theorem mul_tx {l : List Nat} {k : Nat} (h : l.length ≤ 1000) (hk : k ≤ 1000) : mulSD (tx l) (.int (k : Nat)) = some (tx (List.replicate k l).flatten) := by
  rw [tx_eq]
  unfold mulSD
  simp only
  rw [if_pos ⟨by omega, by omega, by rw [str_len]; exact h⟩]
  unfold tx
  congr 2
  unfold Txt.mul
  by_cases h1 : ((k : Nat) : Int) < 1
  · have : k = 0 := by omega
    subst this
    rw [if_pos h1]
    rfl
  · rw [if_neg h1]
    by_cases h2 : ((((k : Nat) : Int) == 1) || (mkS l).length == 0) = true
    · rw [if_pos h2]
      rw [Bool.or_eq_true] at h2
      congr 1
      rcases h2 with h2 | h2
      · have h3 : (k : Int) = 1 := by simpa using h2
        have : k = 1 := by omega
        subst this
        simp
      · have h3 : l.length = 0 := by simpa [str_len] using h2
        have : l = [] := List.eq_nil_of_length_eq_zero h3
        subst this
        simp
    · rw [if_neg h2]
      have e : ∀ (m : Nat) (a : List Nat), (List.replicate m l.toArray).foldl (· ++ ·) a.toArray = (a ++ (List.replicate m l).flatten).toArray := by
        intro m
        induction m with
        | zero => intro a; simp
        | succ m ih =>
          intro a
          rw [List.replicate_succ, List.foldl_cons, List.replicate_succ, List.flatten_cons, ← List.append_assoc, ← ih]
          congr 1
          simp
      have e2 := e k []
      rw [List.nil_append] at e2
      show (⟨(List.replicate (k : Int).toNat l.toArray).foldl (· ++ ·) #[]⟩ : Str) = _
      rw [Int.toNat_natCast]
      congr 1
theorem mul_tx1 {c k : Nat} (hk : k ≤ 1000) : mulSD (tx [c]) (.int (k : Nat)) = some (tx (List.replicate k c)) := by
  rw [mul_tx (by simp) hk]
  congr 2
  induction k with
  | zero => rfl
  | succ k ih => rw [List.replicate_succ, List.flatten_cons, ih (by omega), List.replicate_succ]; rfl
theorem mul_tup {d : D} {k : Nat} (h : 1 ≤ k) (hk : k ≤ 1000) : mulTD (.tup [d]) (.int (k : Nat)) = some (.tup (List.replicate k d)) := by
  unfold mulTD
  simp only
  rw [if_pos ⟨rfl, by omega, by omega, by simp⟩]
  congr 2
  rw [Int.toNat_natCast]
  clear h hk
  induction k with
  | zero => rfl
  | succ k ih => rw [List.replicate_succ, List.flatten_cons, ih, List.replicate_succ]; rfl
/-! isinstance with a tuple of types -/
theorem kit_it : kitB "int" "tuple" = some false := by decide +kernel
theorem kit_il : kitB "int" "list" = some false := by decide +kernel
theorem kit_nt : kitB "NoneType" "tuple" = some false := by decide +kernel
theorem kit_nl : kitB "NoneType" "list" = some false := by decide +kernel
theorem kit_ns : kitB "NoneType" "str" = some false := by decide +kernel
theorem kit_is : kitB "int" "str" = some false := by decide +kernel
theorem kit_tl : kitB "tuple" "list" = some false := by decide +kernel
theorem isi_int_tl (i : Int) : isiD [.int i, .tup [.ty "tuple", .ty "list"]] = some (.bl false) := by
  simp [isiD, tyD, allN, isAny, isTy, kit_it, kit_il]
theorem isi_non_tl : isiD [.non, .tup [.ty "tuple", .ty "list"]] = some (.bl false) := by
  simp [isiD, tyD, allN, isAny, isTy, kit_nt, kit_nl]
theorem kit_tt : kitB "tuple" "tuple" = some true := by decide +kernel
theorem isi_tup_tl (xs : List D) : isiD [.tup xs, .tup [.ty "tuple", .ty "list"]] = some (.bl true) := by
  simp [isiD, tyD, allN, isAny, isTy, kit_tt]
theorem isi_tup_l (xs : List D) : isiD [.tup xs, .ty "list"] = some (.bl false) := by
  simp [isiD, tyD, isTy, kit_tl]
theorem isi_int_s (i : Int) : isiD [.int i, .ty "str"] = some (.bl false) := by
  simp [isiD, tyD, isTy, kit_is]
theorem isi_non_s : isiD [.non, .ty "str"] = some (.bl false) := by
  simp [isiD, tyD, isTy, kit_ns]
theorem eq_bl (a b : Bool) : eqD (.bl a) (.bl b) = some (.bl (decide (a = b))) := (rfl)
theorem ne_bl (a b : Bool) : neD (.bl a) (.bl b) = some (.bl (!decide (a = b))) := (rfl)
theorem eq_non : eqD .non .non = some (.bl true) := (rfl)
theorem isn_i (i : Int) : isN2 (.int i) .non = some (.bl false) := (rfl)
theorem isn_n : isN2 .non .non = some (.bl true) := (rfl)
theorem shp_nil : shp (.lst []) = true := by
  unfold shp SeqAt.shaped
  simp only [toPy, toPyL, PyData.canLay0, PyData.canLayAll0, Bool.true_and, PyData.depth, PyData.depthAll]
  rfl
theorem eqPy_nil (xs : List D) : eqPy (.lst xs) (.lst []) = xs.isEmpty := by
  unfold eqPy
  simp only [toPy, PyData.eqv]
  cases xs with
  | nil => simp only [toPyL, PyData.eqvAll, List.isEmpty]
  | cons a t => simp only [toPyL, PyData.eqvAll, List.isEmpty]
theorem eq_nil' {xs : List D} (h : shp (.lst xs) = true) : eqD (.lst xs) (.lst []) = some (.bl xs.isEmpty) := by
  unfold eqD
  simp only [h, shp_nil, Bool.and_self, if_true, eqPy_nil]
/-- a loop that may be left by break -/
theorem forD_invB {g : D → Env → R Env} {b : Env → R Fl} (I : Nat → Env → Prop) (B : Env → Prop) : ∀ (items : List D) (k : Nat) (r : Env), I k r →
    (∀ (i : Nat) (x : D) (r : Env), items[i]? = some x → I (k + i) r → ∃ r1 r2, g x r = .ok r1 ∧ ((b r1 = .ok (.nx r2) ∧ I (k + i + 1) r2) ∨ (b r1 = .ok (.bk r2) ∧ B r2))) →
    ∃ r', forD g b items r = .ok (.nx r') ∧ (I (k + items.length) r' ∨ B r')
  | [], k, r, h0, hs => ⟨r, rfl, .inl h0⟩
  | x :: xs, k, r, h0, hs => by
    obtain ⟨r1, r2, e1, h⟩ := hs 0 x r rfl h0
    rcases h with ⟨e2, h2⟩ | ⟨e2, h2⟩
    · obtain ⟨r', e3, h3⟩ := forD_invB I B xs (k + 1) r2 h2 (fun i y r e h => by
        have := hs (i + 1) y r (by simpa using e) (by rw [← Nat.add_assoc, Nat.add_right_comm]; exact h)
        rw [← Nat.add_assoc, Nat.add_right_comm k i 1] at this
        exact this)
      refine ⟨r', ?_, ?_⟩
      · unfold forD
        rw [e1]
        simp only [R.bind]
        rw [e2]
        exact e3
      · rw [List.length_cons, Nat.add_comm xs.length 1, ← Nat.add_assoc]
        exact h3
    · refine ⟨r2, ?_, .inr h2⟩
      unfold forD
      rw [e1]
      simp only [R.bind]
      rw [e2]
theorem for_invB {g : D → Env → R Env} {b : Env → R Fl} {items : List D} {r : Env} (I : Nat → Env → Prop) (B : Env → Prop) (h0 : I 0 r)
    (hs : ∀ (i : Nat) (x : D) (r : Env), items[i]? = some x → I i r → ∃ r1 r2, g x r = .ok r1 ∧ ((b r1 = .ok (.nx r2) ∧ I (i + 1) r2) ∨ (b r1 = .ok (.bk r2) ∧ B r2))) :
    ∃ r', forD g b items r = .ok (.nx r') ∧ (I items.length r' ∨ B r') := by
  have := forD_invB (g := g) (b := b) I B items 0 r h0 (fun i x r e h => by
    rw [Nat.zero_add] at h ⊢
    exact hs i x r e h)
  rw [Nat.zero_add] at this
  exact this
end DL

end
section
namespace PT

def acc (c : Nat) (G : List Nat → Nat) : List Nat → Nat
  | [] => 0
  | a :: t => (if a = c then G t else 0) + acc c G t
def blk (c : Nat) (G : List Nat → Nat) : List Nat → Nat
  | [] => 0
  | a :: t => if a = c then acc c G (a :: t) else 0
/-- in how many ways f is parted into blocks of the letters g -/
def W : List Nat → List Nat → Nat
  | [], f => if f = [] then 1 else 0
  | c :: g, f => blk c (W g) f

/-! ### two goals, one behind the other -/
def cv (H W2 : List Nat → Nat) : List Nat → Nat
  | [] => H [] * W2 []
  | a :: t => H [] * W2 (a :: t) + cv (fun u => H (a :: u)) W2 t
theorem cv_zero (W2 : List Nat → Nat) : ∀ f, cv (fun _ => 0) W2 f = 0
  | [] => by simp [cv]
  | a :: t => by
    simp only [cv, Nat.zero_mul, Nat.zero_add]
    exact cv_zero W2 t
theorem cv_add (H1 H2 W2 : List Nat → Nat) : ∀ f, cv (fun u => H1 u + H2 u) W2 f = cv H1 W2 f + cv H2 W2 f := by
  intro f
  induction f generalizing H1 H2 with
  | nil => simp [cv, Nat.add_mul]
  | cons a t ih =>
    simp only [cv]
    rw [ih (fun u => H1 (a :: u)) (fun u => H2 (a :: u)), Nat.add_mul]
    omega
theorem cv_acc (c : Nat) (G W2 : List Nat → Nat) : ∀ f, cv (acc c G) W2 f = acc c (cv G W2) f
  | [] => by simp [cv, acc]
  | a :: t => by
    have e : cv (fun u => acc c G (a :: u)) W2 t = cv (fun u => (if a = c then G u else 0) + acc c G u) W2 t := rfl
    have h0 : acc c G [] = 0 := rfl
    show acc c G [] * W2 (a :: t) + cv (fun u => acc c G (a :: u)) W2 t = (if a = c then cv G W2 t else 0) + acc c (cv G W2) t
    rw [e, h0, Nat.zero_mul, Nat.zero_add, cv_add, cv_acc c G W2 t]
    by_cases h : a = c
    · simp only [if_pos h]
    · simp only [if_neg h]
      rw [cv_zero]
theorem cv_blk (c : Nat) (G W2 : List Nat → Nat) : ∀ f, cv (blk c G) W2 f = blk c (cv G W2) f
  | [] => by simp [cv, blk]
  | a :: t => by
    have h0 : blk c G [] = 0 := rfl
    show blk c G [] * W2 (a :: t) + cv (fun u => blk c G (a :: u)) W2 t = if a = c then acc c (cv G W2) (a :: t) else 0
    rw [h0, Nat.zero_mul, Nat.zero_add]
    by_cases h : a = c
    · rw [if_pos h, ← cv_acc]
      have e : (fun u => blk c G (a :: u)) = fun u => acc c G (a :: u) := by
        funext u
        simp only [blk, if_pos h]
      have h1 : acc c G [] = 0 := rfl
      rw [e]
      show _ = acc c G [] * W2 (a :: t) + cv (fun u => acc c G (a :: u)) W2 t
      rw [h1, Nat.zero_mul, Nat.zero_add]
    · rw [if_neg h]
      have e : (fun u => blk c G (a :: u)) = fun _ => 0 := by
        funext u
        simp only [blk, if_neg h]
      rw [e, cv_zero]
theorem cv_nil (W2 : List Nat → Nat) : ∀ f, cv (W []) W2 f = W2 f
  | [] => by simp [cv, W]
  | a :: t => by
    have e : (fun u => W [] (a :: u)) = fun _ => 0 := by
      funext u
      simp [W]
    show W [] [] * W2 (a :: t) + cv (fun u => W [] (a :: u)) W2 t = _
    rw [e, cv_zero]
    simp [W]
theorem W_app (g2 : List Nat) : ∀ (g1 f : List Nat), W (g1 ++ g2) f = cv (W g1) (W g2) f
  | [], f => (cv_nil (W g2) f).symm
  | c :: g1, f => by
    have e : W (g1 ++ g2) = cv (W g1) (W g2) := funext fun f => W_app g2 g1 f
    show blk c (W (g1 ++ g2)) f = cv (blk c (W g1)) (W g2) f
    rw [cv_blk, e]
/-- as a sum over the places -/
theorem cv_sum (H W2 : List Nat → Nat) : ∀ f, cv H W2 f = ((List.range (f.length + 1)).map fun k => H (f.take k) * W2 (f.drop k)).sum := by
  intro f
  induction f generalizing H with
  | nil => simp [cv]
  | cons a t ih =>
    rw [List.length_cons, List.range_succ_eq_map, List.map_cons, List.map_map, List.sum_cons]
    show H [] * W2 (a :: t) + cv (fun u => H (a :: u)) W2 t = _
    rw [ih (fun u => H (a :: u))]
    rfl

/-! ### where there is a way -/
theorem acc_pos {c : Nat} {G : List Nat → Nat} : ∀ {f : List Nat}, 0 < acc c G f ↔ ∃ u v, f = u ++ c :: v ∧ 0 < G v
  | [] => by simp [acc]
  | a :: t => by
    have ih := acc_pos (c := c) (G := G) (f := t)
    constructor
    · intro h
      simp only [acc] at h
      by_cases h2 : 0 < acc c G t
      · obtain ⟨u, v, e, g⟩ := ih.mp h2
        exact ⟨a :: u, v, by rw [e]; rfl, g⟩
      · by_cases h3 : a = c
        · rw [if_pos h3] at h
          exact ⟨[], t, by rw [h3]; rfl, by omega⟩
        · rw [if_neg h3] at h
          omega
    · rintro ⟨u, v, e, g⟩
      simp only [acc]
      cases u with
      | nil =>
        simp only [List.nil_append, List.cons.injEq] at e
        rw [if_pos e.1, e.2]
        omega
      | cons b u =>
        simp only [List.cons_append, List.cons.injEq] at e
        have := ih.mpr ⟨u, v, e.2, g⟩
        omega
theorem blk_pos {c : Nat} {G : List Nat → Nat} {f : List Nat} : 0 < blk c G f ↔ f.head? = some c ∧ ∃ u v, f = u ++ c :: v ∧ 0 < G v := by
  cases f with
  | nil => simp [blk]
  | cons a t =>
    simp only [blk, List.head?_cons, Option.some.injEq]
    by_cases h : a = c
    · rw [if_pos h, acc_pos]
      exact ⟨fun z => ⟨h, z⟩, fun z => z.2⟩
    · rw [if_neg h]
      exact ⟨fun z => by omega, fun z => absurd z.1 h⟩
theorem head_same (x : List Nat) (c : Nat) (y z : List Nat) : (x ++ c :: y).head? = (x ++ c :: z).head? := by
  cases x <;> rfl
/-- a cut undone: there is still a way -/
theorem W_uncut (c : Nat) (y z : List Nat) : ∀ (g x : List Nat), 0 < W g (x ++ c :: z) → 0 < W g (x ++ c :: (y ++ c :: z))
  | [], x, h => by
    have : W [] (x ++ c :: z) = 0 := by simp [W]
    omega
  | d :: g, x, h => by
    obtain ⟨h1, u, v, e, hv⟩ := blk_pos.mp (show 0 < blk d (W g) (x ++ c :: z) from h)
    refine blk_pos.mpr ⟨by rw [← h1]; exact head_same _ _ _ _, ?_⟩
    rcases List.append_eq_append_iff.mp e with ⟨a', e1, e2⟩ | ⟨c', e1, e2⟩
    · cases a' with
      | nil =>
        simp only [List.nil_append, List.cons.injEq] at e2
        refine ⟨x ++ c :: y, z, ?_, ?_⟩
        · rw [← e2.1]
          simp
        · rw [e2.2]
          exact hv
      | cons a a' =>
        simp only [List.cons_append, List.cons.injEq] at e2
        refine ⟨x ++ c :: (y ++ c :: a'), v, ?_, hv⟩
        rw [e2.2]
        simp
    · cases c' with
      | nil =>
        simp only [List.nil_append, List.cons.injEq] at e2
        refine ⟨x ++ c :: y, z, ?_, ?_⟩
        · rw [e2.1]
          simp
        · rw [← e2.2]
          exact hv
      | cons a c' =>
        simp only [List.cons_append, List.cons.injEq] at e2
        rw [e2.2] at hv
        refine ⟨u, c' ++ c :: (y ++ c :: z), ?_, W_uncut c y z g c' hv⟩
        rw [e1, e2.1]
        simp
theorem W_self : ∀ f : List Nat, 0 < W f f
  | [] => by simp [W]
  | c :: t => blk_pos.mpr ⟨rfl, [], t, rfl, W_self t⟩
theorem W_nil {g : List Nat} (h : g ≠ []) : W g [] = 0 := by
  cases g with
  | nil => exact absurd rfl h
  | cons c g => rfl

/-! ### numbers of ways are not great -/
/-! ### places -/
def pl (F : List Nat) (c s : Nat) : List Nat := (List.range' s (F.length - s)).filter fun p => decide (F[p]? = some c)
theorem pl_sum (F : List Nat) (c : Nat) (G : List Nat → Nat) : ∀ (n s : Nat), F.length - s = n → ((pl F c s).map fun p => G (F.drop (p + 1))).sum = acc c G (F.drop s)
  | 0, s, h => by
    unfold pl
    rw [h, List.drop_of_length_le (by omega)]
    rfl
  | n + 1, s, h => by
    have hs : s < F.length := by omega
    have ih := pl_sum F c G n (s + 1) (by omega)
    have e1 : F.drop s = F[s] :: F.drop (s + 1) := List.drop_eq_getElem_cons hs
    have e2 : F[s]? = some F[s] := List.getElem?_eq_getElem hs
    have e3 : F.length - (s + 1) = n := by omega
    unfold pl at ih ⊢
    rw [e3] at ih
    rw [h, List.range'_succ, e1]
    simp only [acc, List.filter_cons, e2, Option.some.injEq, decide_eq_true_eq]
    by_cases hc : F[s] = c
    · rw [if_pos hc, if_pos hc, List.map_cons, List.sum_cons, ih]
    · rw [if_neg hc, if_neg hc, ih, Nat.zero_add]
theorem pl_mem {F : List Nat} {c s p : Nat} (h : p ∈ pl F c s) : s ≤ p ∧ p < F.length ∧ F[p]? = some c := by
  unfold pl at h
  obtain ⟨h1, h2⟩ := List.mem_filter.mp h
  have h3 := List.mem_range'_1.mp h1
  have h4 := of_decide_eq_true h2
  have h5 : p < F.length := (List.getElem?_eq_some_iff.mp h4).1
  exact ⟨h3.1, h5, h4⟩
theorem pl_sorted (F : List Nat) (c s : Nat) : (pl F c s).Pairwise (· < ·) := (List.pairwise_lt_range' ..).filter _

/-! ### the r-th parting -/
def sel (h : Nat → Nat) : List Nat → Nat → Option (Nat × Nat)
  | [], _ => none
  | p :: ps, r => if r < h p then some (p, r) else sel h ps (r - h p)
theorem sel_ok {h : Nat → Nat} : ∀ {ps : List Nat} {r : Nat}, r < (ps.map h).sum → ∃ pre p post r', ps = pre ++ p :: post ∧ sel h ps r = some (p, r') ∧ r = (pre.map h).sum + r' ∧ r' < h p
  | [], r, hr => by simp at hr
  | p :: ps, r, hr => by
    by_cases h1 : r < h p
    · exact ⟨[], p, ps, r, rfl, by simp [sel, h1], by simp, h1⟩
    · rw [List.map_cons, List.sum_cons] at hr
      obtain ⟨pre, q, post, r', e1, e2, e3, e4⟩ := sel_ok (h := h) (ps := ps) (r := r - h p) (by omega)
      refine ⟨p :: pre, q, post, r', by rw [e1]; rfl, by simp [sel, h1, e2], ?_, e4⟩
      rw [List.map_cons, List.sum_cons]
      omega
theorem before {pre post : List Nat} {p : Nat} (h : (pre ++ p :: post).Pairwise (· < ·)) : (pre ++ p :: post).filter (fun q => decide (q < p)) = pre := by
  rw [List.pairwise_append] at h
  obtain ⟨h1, h2, h3⟩ := h
  have e1 : pre.filter (fun q => decide (q < p)) = pre := List.filter_eq_self.mpr fun q hq => decide_eq_true (h3 q hq p (List.mem_cons_self ..))
  have e2 : (p :: post).filter (fun q => decide (q < p)) = [] := by
    rw [List.filter_eq_nil_iff]
    intro q hq
    rcases List.mem_cons.mp hq with e | e
    · rw [e]; simp
    · have := List.rel_of_pairwise_cons h2 e
      simp only [decide_eq_true_eq]
      omega
  rw [List.filter_append, e1, e2, List.append_nil]
def at_ (F : List Nat) : List Nat → Nat → Nat → List Nat
  | [], _, _ => []
  | c :: g, s, r => match sel (fun p => W g (F.drop (p + 1))) (pl F c s) r with
    | none => []
    | some (p, r') => p :: at_ F g (p + 1) r'
def rk (F : List Nat) : List Nat → Nat → List Nat → Nat
  | c :: g, s, e :: es => (((pl F c s).filter fun q => decide (q < e)).map fun p => W g (F.drop (p + 1))).sum + rk F g (e + 1) es
  | _, _, _ => 0
/-- is it a parting from s on? -/
def isP (F : List Nat) : List Nat → Nat → List Nat → Bool
  | c :: g, s, e :: es => if decide (s ≤ e) && decide (e < F.length) then (if F[s]? = some c ∧ F[e]? = some c then isP F g (e + 1) es else false) else false
  | _, s, _ => decide (s = F.length)
theorem W_lt {F : List Nat} {c : Nat} {g : List Nat} {s r : Nat} (h : r < W (c :: g) (F.drop s)) : F[s]? = some c ∧ r < ((pl F c s).map fun p => W g (F.drop (p + 1))).sum := by
  have h1 := (blk_pos.mp (Nat.lt_of_le_of_lt (Nat.zero_le r) h)).1
  rw [List.head?_drop] at h1
  refine ⟨h1, ?_⟩
  rw [pl_sum F c (W g) _ s rfl]
  have hs : s < F.length := (List.getElem?_eq_some_iff.mp h1).1
  have e1 : F.drop s = F[s] :: F.drop (s + 1) := List.drop_eq_getElem_cons hs
  have e2 : F[s] = c := (List.getElem?_eq_some_iff.mp h1).2
  have h2 : r < blk c (W g) (F.drop s) := h
  rw [e1] at h2 ⊢
  simp only [blk, if_pos e2] at h2
  exact h2
theorem at_ok (F : List Nat) : ∀ (g : List Nat) (s r : Nat), s ≤ F.length → r < W g (F.drop s) → isP F g s (at_ F g s r) = true ∧ rk F g s (at_ F g s r) = r ∧ (at_ F g s r).length = g.length
  | [], s, r, hs, h => by
    have h0 : F.drop s = [] := by
      by_cases e : F.drop s = []
      · exact e
      · simp [W, e] at h
    have h1 : F.length ≤ s := by
      have := congrArg List.length h0
      rw [List.length_drop, List.length_nil] at this
      omega
    have : r = 0 := by
      rw [h0] at h
      simp [W] at h
      exact h
    subst this
    exact ⟨by simp [isP, at_]; omega, rfl, rfl⟩
  | c :: g, s, r, hs, h => by
    obtain ⟨h1, h2⟩ := W_lt h
    obtain ⟨pre, p, post, r', e1, e2, e3, e4⟩ := sel_ok h2
    have hp : p ∈ pl F c s := by rw [e1]; simp
    obtain ⟨p1, p2, p3⟩ := pl_mem hp
    obtain ⟨i1, i2, i3⟩ := at_ok F g (p + 1) r' (by omega) e4
    have ea : at_ F (c :: g) s r = p :: at_ F g (p + 1) r' := by
      simp only [at_, e2]
    rw [ea]
    refine ⟨?_, ?_, ?_⟩
    · simp only [isP, p1, p2, decide_true, Bool.and_self, if_true, h1, p3, and_self]
      exact i1
    · simp only [rk]
      rw [i2]
      have hsd := pl_sorted F c s
      rw [e1] at hsd ⊢
      rw [before hsd]
      omega
    · rw [List.length_cons, List.length_cons, i3]
/-- later ranks are later in order -/
def ltL : List Nat → List Nat → Prop
  | x :: xs, y :: ys => x < y ∨ (x = y ∧ ltL xs ys)
  | _, _ => False
end PT

end
section
namespace PT
/-! ### all partings, ascending -/
def E (F : List Nat) : List Nat → Nat → List (List Nat)
  | [], s => if s = F.length then [[]] else []
  | c :: g, s => if F[s]? = some c then (pl F c s).flatMap fun p => (E F g (p + 1)).map (p :: ·) else []
theorem len_flat {α β : Type} (L : α → List β) (h : α → Nat) : ∀ (ps : List α), (∀ p ∈ ps, (L p).length = h p) → (ps.flatMap L).length = (ps.map h).sum
  | [], _ => rfl
  | p :: ps, hp => by
    rw [List.flatMap_cons, List.length_append, List.map_cons, List.sum_cons, hp p (List.mem_cons_self ..), len_flat L h ps fun q hq => hp q (List.mem_cons_of_mem _ hq)]
theorem drop_nil {F : List Nat} {s : Nat} (hs : s ≤ F.length) : F.drop s = [] ↔ s = F.length := by
  constructor
  · intro h
    have := congrArg List.length h
    rw [List.length_drop, List.length_nil] at this
    omega
  · intro h
    rw [h, List.drop_of_length_le (Nat.le_refl _)]
theorem W_cons {F : List Nat} {c : Nat} {g : List Nat} {s : Nat} : W (c :: g) (F.drop s) = if F[s]? = some c then ((pl F c s).map fun p => W g (F.drop (p + 1))).sum else 0 := by
  rw [pl_sum F c (W g) _ s rfl]
  show blk c (W g) (F.drop s) = _
  by_cases hs : s < F.length
  · have e1 : F.drop s = F[s] :: F.drop (s + 1) := List.drop_eq_getElem_cons hs
    rw [e1, List.getElem?_eq_getElem hs]
    simp only [blk, Option.some.injEq]
  · rw [List.drop_of_length_le (by omega), List.getElem?_eq_none (by omega)]
    simp [blk]
theorem E_len (F : List Nat) : ∀ (g : List Nat) (s : Nat), s ≤ F.length → (E F g s).length = W g (F.drop s)
  | [], s, hs => by
    have := drop_nil hs
    unfold E W
    by_cases h : s = F.length
    · rw [if_pos h, if_pos (this.mpr h)]; rfl
    · rw [if_neg h, if_neg fun z => h (this.mp z)]; rfl
  | c :: g, s, hs => by
    rw [W_cons]
    unfold E
    by_cases h : F[s]? = some c
    · rw [if_pos h, if_pos h]
      refine len_flat _ _ _ fun p hp => ?_
      rw [List.length_map]
      exact E_len F g (p + 1) (by have := (pl_mem hp).2.1; omega)
    · rw [if_neg h, if_neg h]; rfl
theorem get_flat {α : Type} (L : Nat → List α) (h : Nat → Nat) : ∀ (ps : List Nat) (r p r' : Nat), (∀ p ∈ ps, (L p).length = h p) → sel h ps r = some (p, r') → (ps.flatMap L)[r]? = (L p)[r']?
  | [], r, p, r', _, e => by cases e
  | q :: ps, r, p, r', hp, e => by
    have hq := hp q (List.mem_cons_self ..)
    unfold sel at e
    rw [List.flatMap_cons]
    by_cases h1 : r < h q
    · rw [if_pos h1] at e
      cases e
      rw [List.getElem?_append_left (by omega)]
    · rw [if_neg h1] at e
      rw [List.getElem?_append_right (by omega), hq]
      exact get_flat L h ps _ p r' (fun q hq => hp q (List.mem_cons_of_mem _ hq)) e
theorem E_get (F : List Nat) : ∀ (g : List Nat) (s r : Nat), s ≤ F.length → r < W g (F.drop s) → (E F g s)[r]? = some (at_ F g s r)
  | [], s, r, hs, h => by
    have hn := drop_nil hs
    unfold W at h
    unfold E
    by_cases h1 : s = F.length
    · rw [if_pos (hn.mpr h1)] at h
      have : r = 0 := by omega
      subst this
      rw [if_pos h1]
      rfl
    · rw [if_neg fun z => h1 (hn.mp z)] at h
      omega
  | c :: g, s, r, hs, h => by
    obtain ⟨h1, h2⟩ := W_lt h
    obtain ⟨pre, p, post, r', e1, e2, e3, e4⟩ := sel_ok h2
    have hp : p ∈ pl F c s := by rw [e1]; simp
    obtain ⟨p1, p2, p3⟩ := pl_mem hp
    have ih := E_get F g (p + 1) r' (by omega) e4
    unfold E
    rw [if_pos h1, get_flat _ (fun p => W g (F.drop (p + 1))) _ r p r' (fun q hq => by
      rw [List.length_map]
      exact E_len F g (q + 1) (by have := (pl_mem hq).2.1; omega)) e2, List.getElem?_map, ih]
    simp only [at_, e2, Option.map_some]
/-- the place of the r-th one -/
theorem E_eq (F : List Nat) (g : List Nat) : E F g 0 = (List.range (W g F)).map (at_ F g 0) := by
  have hl := E_len F g 0 (Nat.zero_le _)
  rw [List.drop_zero] at hl
  apply List.ext_getElem?
  intro r
  by_cases h : r < W g F
  · rw [E_get F g 0 r (Nat.zero_le _) (by rw [List.drop_zero]; exact h), List.getElem?_map, List.getElem?_range h]
    rfl
  · rw [List.getElem?_eq_none (by omega), List.getElem?_eq_none (by simp; omega)]
theorem E_isP {F g es : List Nat} (h : es ∈ E F g 0) : isP F g 0 es = true ∧ es.length = g.length := by
  rw [E_eq] at h
  obtain ⟨r, hr, e⟩ := List.mem_map.mp h
  have := at_ok F g 0 r (Nat.zero_le _) (by rw [List.drop_zero]; exact List.mem_range.mp hr)
  rw [← e]
  exact ⟨this.1, this.2.2⟩
/-! ### letter by letter, as two loops do -/
def stp (F : List Nat) (found : List (List Nat × Nat)) (c : Nat) : List (List Nat × Nat) := found.flatMap fun x => if F[x.2]? = some c then (pl F c x.2).map fun p => (x.1 ++ [p], p + 1) else []
/-! ### binomials -/
def ch : Nat → Nat → Nat
  | _, 0 => 1
  | 0, _ + 1 => 0
  | n + 1, k + 1 => ch n k + ch n (k + 1)
end PT

end
section
namespace PT
/-! ### where a block can begin -/
theorem sum_pos {f : Nat → Nat} : ∀ {n : Nat}, 0 < ((List.range n).map f).sum ↔ ∃ k, k < n ∧ 0 < f k
  | 0 => by simp
  | n + 1 => by
    rw [List.range_succ, List.map_append, List.sum_append, List.map_cons, List.map_nil, List.sum_cons, List.sum_nil]
    have ih := sum_pos (f := f) (n := n)
    constructor
    · intro h
      by_cases h1 : 0 < ((List.range n).map f).sum
      · obtain ⟨k, hk, hf⟩ := ih.mp h1
        exact ⟨k, by omega, hf⟩
      · exact ⟨n, by omega, by omega⟩
    · rintro ⟨k, hk, hf⟩
      by_cases e : k = n
      · subst e
        omega
      · have := ih.mpr ⟨k, by omega, hf⟩
        omega
theorem W_one {c : Nat} {u : List Nat} : 0 < W [c] u ↔ u.head? = some c ∧ u.getLast? = some c := by
  show 0 < blk c (W []) u ↔ _
  rw [blk_pos]
  constructor
  · rintro ⟨h, x, v, e, hv⟩
    have : v = [] := by
      unfold W at hv
      split at hv
      · assumption
      · omega
    subst this
    refine ⟨h, ?_⟩
    rw [e]
    simp
  · rintro ⟨h, hl⟩
    refine ⟨h, u.dropLast, [], ?_, by simp [W]⟩
    have hne : u ≠ [] := by intro z; rw [z] at h; simp at h
    have := List.dropLast_concat_getLast hne
    rw [List.getLast?_eq_some_getLast hne] at hl
    rw [Option.some.inj hl] at this
    exact this.symm
theorem W_snoc {g : List Nat} {c : Nat} {f : List Nat} : 0 < W (g ++ [c]) f ↔ ∃ k, k ≤ f.length ∧ 0 < W g (f.take k) ∧ (f.drop k).head? = some c ∧ (f.drop k).getLast? = some c := by
  rw [W_app, cv_sum, sum_pos]
  constructor
  · rintro ⟨k, hk, h⟩
    have h1 : 0 < W g (f.take k) := Nat.pos_of_ne_zero fun z => by rw [z, Nat.zero_mul] at h; omega
    have h2 : 0 < W [c] (f.drop k) := Nat.pos_of_ne_zero fun z => by rw [z, Nat.mul_zero] at h; omega
    exact ⟨k, by omega, h1, W_one.mp h2⟩
  · rintro ⟨k, hk, h1, h2⟩
    exact ⟨k, by omega, Nat.mul_pos h1 (W_one.mpr h2)⟩
theorem take_snoc {g : List Nat} {i c : Nat} (h : g[i]? = some c) : g.take (i + 1) = g.take i ++ [c] := by
  rw [List.take_succ, h]
  rfl
theorem W_upto {F g : List Nat} {i p c : Nat} (hi : g[i]? = some c) (hp : p < F.length) : 0 < W (g.take (i + 1)) (F.take (p + 1)) ↔ F[p]? = some c ∧ ∃ s, s ≤ p ∧ F[s]? = some c ∧ 0 < W (g.take i) (F.take s) := by
  rw [take_snoc hi, W_snoc]
  have hl : (F.take (p + 1)).length = p + 1 := by rw [List.length_take]; omega
  have hd : ∀ k, k ≤ p → ((F.take (p + 1)).drop k).head? = F[k]? ∧ ((F.take (p + 1)).drop k).getLast? = F[p]? := fun k hk => by
    constructor
    · rw [List.head?_drop, List.getElem?_take, if_pos (by omega)]
    · rw [List.getLast?_eq_getElem?, List.length_drop, hl, List.getElem?_drop, List.getElem?_take, if_pos (by omega)]
      congr 1
      omega
  constructor
  · rintro ⟨k, hk, h1, h2, h3⟩
    by_cases hk2 : k ≤ p
    · obtain ⟨d1, d2⟩ := hd k hk2
      rw [d1] at h2
      rw [d2] at h3
      rw [List.take_take, Nat.min_eq_left (by omega)] at h1
      exact ⟨h3, k, hk2, h2, h1⟩
    · rw [List.drop_of_length_le (by omega)] at h2
      simp at h2
  · rintro ⟨h1, s, hs, h2, h3⟩
    obtain ⟨d1, d2⟩ := hd s hs
    exact ⟨s, by omega, by rw [List.take_take, Nat.min_eq_left (by omega)]; exact h3, by rw [d1]; exact h2, by rw [d2]; exact h1⟩
/-- block i can begin at s -/
def S (F g : List Nat) (i s : Nat) : Prop := i < g.length ∧ F[s]? = g[i]? ∧ 0 < W (g.take i) (F.take s)
theorem S_lt {F g : List Nat} {i s : Nat} (h : S F g i s) : s < F.length := by
  obtain ⟨h1, h2, _⟩ := h
  rw [List.getElem?_eq_getElem h1] at h2
  exact (List.getElem?_eq_some_iff.mp h2).1
theorem S_zero {F g : List Nat} {s : Nat} (hF : F ≠ []) : S F g 0 s ↔ s = 0 ∧ 0 < g.length ∧ F[0]? = g[0]? := by
  unfold S
  rw [List.take_zero]
  constructor
  · rintro ⟨h1, h2, h3⟩
    have : F.take s = [] := by
      unfold W at h3
      split at h3
      · assumption
      · omega
    have hs : s = 0 := by
      rcases List.take_eq_nil_iff.mp this with z | z
      · exact z
      · exact absurd z hF
    subst hs
    exact ⟨rfl, h1, h2⟩
  · rintro ⟨h1, h2, h3⟩
    subst h1
    exact ⟨h2, h3, by simp [W]⟩
theorem S_succ {F g : List Nat} {i s : Nat} : S F g (i + 1) s ↔ ∃ p, s = p + 1 ∧ i + 1 < g.length ∧ F[p + 1]? = g[i + 1]? ∧ F[p]? = g[i]? ∧ ∃ s', s' ≤ p ∧ S F g i s' := by
  constructor
  · intro h
    have hs := S_lt h
    obtain ⟨h1, h2, h3⟩ := h
    have hc : g[i]? = some (g[i]'(by omega)) := List.getElem?_eq_getElem (by omega)
    generalize g[i]'(by omega) = c at hc
    cases s with
    | zero =>
      rw [List.take_zero, W_nil] at h3
      · omega
      · intro z
        have := congrArg List.length z
        rw [List.length_take, List.length_nil] at this
        omega
    | succ p =>
      obtain ⟨q1, s', q2, q3, q4⟩ := (W_upto hc (by omega)).mp h3
      exact ⟨p, rfl, h1, h2, by rw [q1, hc], s', q2, by omega, by rw [q3, hc], q4⟩
  · rintro ⟨p, e, h1, h2, h3, s', h4, h5⟩
    subst e
    have hc : g[i]? = some (g[i]'(by omega)) := List.getElem?_eq_getElem (by omega)
    generalize g[i]'(by omega) = c at hc
    rw [hc] at h3
    refine ⟨h1, h2, (W_upto hc ((List.getElem?_eq_some_iff.mp h3).1)).mpr ⟨h3, s', h4, by rw [h5.2.1, hc], h5.2.2⟩⟩
/-- the least place where block i can begin -/
def Lst (F g : List Nat) (i s : Nat) : Prop := S F g i s ∧ ∀ s', S F g i s' → s ≤ s'
theorem S_from {F g : List Nat} {i m p : Nat} (h : Lst F g i m) : S F g (i + 1) (p + 1) ↔ m ≤ p ∧ i + 1 < g.length ∧ F[p]? = g[i]? ∧ F[p + 1]? = g[i + 1]? := by
  rw [S_succ]
  constructor
  · rintro ⟨q, e, h1, h2, h3, s', h4, h5⟩
    have : q = p := by omega
    subst this
    exact ⟨Nat.le_trans (h.2 s' h5) h4, h1, h3, h2⟩
  · rintro ⟨h1, h2, h3, h4⟩
    exact ⟨p, rfl, h2, h4, h3, m, h1, h.1⟩
theorem S_down {F g : List Nat} : ∀ {i s : Nat}, S F g i s → ∀ j, j ≤ i → ∃ s', S F g j s'
  | 0, s, h, j, hj => by
    have : j = 0 := by omega
    subst this
    exact ⟨s, h⟩
  | i + 1, s, h, j, hj => by
    by_cases e : j = i + 1
    · subst e
      exact ⟨s, h⟩
    · obtain ⟨p, _, _, _, _, s', _, h5⟩ := S_succ.mp h
      exact S_down h5 j (by omega)
/-- what earliest_starts answers -/
def Starts (F g st : List Nat) : Prop := st.length ≤ g.length ∧ (∀ i s, st[i]? = some s → Lst F g i s) ∧ (st.length < g.length → ∀ s, ¬ S F g st.length s)
theorem starts_full {F g st : List Nat} (h : Starts F g st) {i s : Nat} (hs : S F g i s) : i < st.length := by
  by_cases z : i < st.length
  · exact z
  · obtain ⟨s', hs'⟩ := S_down hs st.length (by omega)
    exact absurd hs' (h.2.2 (by have := hs.1; omega) s')
theorem comes_iff {F g st : List Nat} (hF : F ≠ []) (hg : g ≠ []) (h : Starts F g st) : 0 < W g F ↔ F.getLast? = g.getLast? ∧ st.length = g.length := by
  have hgl := List.length_pos_iff.mpr hg
  have hFl := List.length_pos_iff.mpr hF
  have hc : g[g.length - 1]? = some (g[g.length - 1]'(by omega)) := List.getElem?_eq_getElem (by omega)
  have e1 : g.getLast? = some (g[g.length - 1]'(by omega)) := by rw [List.getLast?_eq_getElem?, hc]
  generalize g[g.length - 1]'(by omega) = c at hc e1
  have e2 : g.take (g.length - 1 + 1) = g := List.take_of_length_le (by omega)
  have e3 : F.take (F.length - 1 + 1) = F := List.take_of_length_le (by omega)
  have k := W_upto (F := F) (p := F.length - 1) hc (by omega)
  rw [e2, e3] at k
  rw [k, e1, List.getLast?_eq_getElem?]
  constructor
  · rintro ⟨h1, s, h2, h3, h4⟩
    have hs : S F g (g.length - 1) s := ⟨by omega, by rw [h3, hc], h4⟩
    have := starts_full h hs
    exact ⟨h1, by have := h.1; omega⟩
  · rintro ⟨h1, h2⟩
    have hst : st[g.length - 1]? = some (st[g.length - 1]'(by omega)) := List.getElem?_eq_getElem (by omega)
    generalize st[g.length - 1]'(by omega) = s at hst
    have hl := (h.2.1 _ _ hst).1
    refine ⟨h1, s, by have := S_lt hl; omega, by rw [hl.2.1, hc], hl.2.2⟩
/-! ### cuts -/
def Cut1 (f h : List Nat) : Prop := ∃ x c y z, f = x ++ c :: (y ++ c :: z) ∧ h = x ++ c :: z
theorem cut_W {f h g : List Nat} (hc : Cut1 f h) (hw : 0 < W g h) : 0 < W g f := by
  obtain ⟨x, c, y, z, e1, e2⟩ := hc
  subst e1 e2
  exact W_uncut c y z g x hw
theorem W_cut : ∀ {g f : List Nat}, 0 < W g f → f ≠ g → ∃ h, Cut1 f h ∧ 0 < W g h
  | [], f, h, hne => by
    unfold W at h
    split at h
    · contradiction
    · omega
  | c :: g, f, h, hne => by
    obtain ⟨h1, u, v, e, hv⟩ := blk_pos.mp (show 0 < blk c (W g) f from h)
    cases u with
    | nil =>
      subst e
      obtain ⟨h', hc, hw⟩ := W_cut hv (fun z => hne (by rw [z]; rfl))
      obtain ⟨x, d, y, z, e1, e2⟩ := hc
      exact ⟨c :: h', ⟨c :: x, d, y, z, by rw [e1]; rfl, by rw [e2]; rfl⟩, blk_pos.mpr ⟨rfl, [], h', rfl, hw⟩⟩
    | cons a y =>
      rw [e] at h1
      simp at h1
      subst h1
      exact ⟨a :: v, ⟨[], a, y, v, e, rfl⟩, blk_pos.mpr ⟨rfl, [], v, rfl, hv⟩⟩
theorem cut_len {f h : List Nat} (hc : Cut1 f h) : h.length < f.length := by
  obtain ⟨x, c, y, z, e1, e2⟩ := hc
  subst e1 e2
  simp only [List.length_append, List.length_cons]
  omega
/-- all parts of a list -/
def subs : List Nat → List (List Nat)
  | [] => [[]]
  | a :: t => subs t ++ (subs t).map (a :: ·)
theorem nodup_le {α : Type} [DecidableEq α] : ∀ {l m : List α}, l.Nodup → (∀ x ∈ l, x ∈ m) → l.length ≤ m.length
  | [], m, _, _ => Nat.zero_le _
  | a :: t, m, h, hs => by
    have h1 := List.nodup_cons.mp h
    have ha := hs a (List.mem_cons_self ..)
    have := nodup_le (l := t) (m := m.erase a) h1.2 (fun x hx => (List.mem_erase_of_ne (fun z => h1.1 (by rw [← z]; exact hx))).mpr (hs x (List.mem_cons_of_mem _ hx)))
    rw [List.length_erase_of_mem ha] at this
    have := List.length_pos_of_mem ha
    rw [List.length_cons]
    omega
end PT

end
section
namespace DL
open PySem L2
/-! ### own dicts, pop, parallel stores, while: for simp only -/
section
variable (r : Env) (d e x y z : D) (ds xs : List D) (kvs : List (Key × D)) (i j : Nat)
def ownK' : Option Slot → Option (Slot × List (Key × D))
  | some s => match s.cont with
    | some (.dct xs) => some (s, xs)
    | _ => none
  | none => none
theorem ownK_e : ownK r i = ownK' (r[i]?) := (rfl)
theorem oK_own : ownK' (some (.own (.dct kvs))) = some (.own (.dct kvs), kvs) := (rfl)
def puB (i : Nat) (x : R D) (o : Option (Slot × List (Key × D))) (k : R D) (r : Env) : R Fl := x.bind fun d => (R.ofO o).bind fun s => k.bind fun k => (R.ofO (keyD k)).bind fun k => if s.2.length < sizeLine then .ok (.nx (r.set i (s.1.put (.dct (putD s.2 k d))))) else .stk
theorem put_st (fk fe : Env → R D) : putS i fk fe r = puB i (fe r) (ownK r i) (fk r) r := (rfl)
theorem puB_tx (s : Slot) (l : List Nat) (h : kvs.length < 1000000) : puB i (.ok d) (some (s, kvs)) (.ok (tx l)) r = .ok (.nx (r.set i (s.put (.dct (putD kvs (.inr (mkS l)) d))))) := by
  show (if kvs.length < sizeLine then R.ok (Fl.nx (r.set i (s.put (.dct (putD kvs (.inr (mkS l)) d))))) else .stk) = _
  rw [if_pos (by rw [sizeLine_eq]; omega)]
theorem puB_ni (s : Slot) (k : Int) (h : kvs.length < 1000000) : puB i (.ok d) (some (s, kvs)) (.ok (.int k)) r = .ok (.nx (r.set i (s.put (.dct (putD kvs (.inl k) d))))) := by
  show (if kvs.length < sizeLine then R.ok (Fl.nx (r.set i (s.put (.dct (putD kvs (.inl k) d))))) else .stk) = _
  rw [if_pos (by rw [sizeLine_eq]; omega)]
def poB (i : Nat) (o : Option (Slot × List D)) (r : Env) : R (D × Env) := (R.ofO o).bind fun s => match s.2.getLast? with
  | some d => .ok (d, r.set i (s.1.put (.lst s.2.dropLast)))
  | none => .stk
theorem pop_st : popE i r = poB i (ownL r i) r := (rfl)
theorem poB_ok (s : Slot) : poB i (some (s, xs ++ [d])) r = .ok (d, r.set i (s.put (.lst xs))) := by
  unfold poB
  simp only [ofO_some, bind_ok, List.getLast?_append, List.getLast?_singleton, Option.some_or, List.dropLast_concat]
def paO (i j : Nat) (x y : R D) (r : Env) : R Fl := x.bind fun d => (R.ne y).bind fun e => .ok (.nx ((r.set i (.own d)).set j (.own e)))
theorem parO_st (fa fb : Env → R D) : parO i j fa fb r = paO i j (fa r) (fb r) r := (rfl)
theorem paO_ok : paO i j (.ok d) (.ok e) r = .ok (.nx ((r.set i (.own d)).set j (.own e))) := (rfl)
def paS (i j : Nat) (x y : R D) (r : Env) : R Fl := x.bind fun d => (R.ne y).bind fun e => .ok (.nx ((r.set i (.own d)).set j (.sh e)))
theorem parOS_st (fa fb : Env → R D) : parOS i j fa fb r = paS i j (fa r) (fb r) r := (rfl)
theorem paS_ok : paS i j (.ok d) (.ok e) r = .ok (.nx ((r.set i (.own d)).set j (.sh e))) := (rfl)
def diB (k v : R D) : R D := k.bind fun k => (R.ofO (keyD k)).bind fun k => v.bind fun d => if flatD d = true then .ok (.dct [(k, d)]) else .stk
theorem disp_e (fk fv : Env → R D) : dispD fk fv r = diB (fk r) (fv r) := (rfl)
theorem diB_tx (l : List Nat) (h : flatD d = true) : diB (.ok (tx l)) (.ok d) = .ok (.dct [(.inr (mkS l), d)]) := by
  show (if flatD d = true then R.ok (D.dct [(.inr (mkS l), d)]) else .stk) = _
  rw [if_pos h]
def whB (c : Env → R (Bool × Env)) (b : Env → R Fl) (n : Nat) (r : Env) : R Fl := whlD c b n r
theorem whl_st (n : Nat) (c : Env → R (Bool × Env)) (b : Env → R Fl) : whlS (fun _ => n) c b r = whlD c b n r := (rfl)
end
theorem whl_inv {c : Env → R (Bool × Env)} {b : Env → R Fl} (I : Nat → Env → Prop) (Out : Env → Prop) (hs : ∀ m r, I m r → (∃ r1, c r = .ok (false, r1) ∧ Out r1) ∨ (∃ r1 r2 m', c r = .ok (true, r1) ∧ b r1 = .ok (.nx r2) ∧ m' < m ∧ I m' r2)) :
    ∀ (n m : Nat) (r : Env), m < n → I m r → ∃ r', whlD c b n r = .ok (.nx r') ∧ Out r'
  | 0, m, r, h, _ => by omega
  | n + 1, m, r, h, hI => by
    rcases hs m r hI with ⟨r1, e1, ho⟩ | ⟨r1, r2, m', e1, e2, hm, hI2⟩
    · refine ⟨r1, ?_, ho⟩
      unfold whlD
      rw [e1]
      rfl
    · obtain ⟨r', e3, ho⟩ := whl_inv I Out hs n m' r2 (by omega) hI2
      refine ⟨r', ?_, ho⟩
      unfold whlD
      rw [e1]
      simp only [R.bind, if_true]
      rw [e2]
      exact e3
/-! dicts that stand for sets of films -/
abbrev fk (l : List Nat) : Key × D := (.inr (mkS l), .bl true)
abbrev dk (L : List (List Nat)) : D := .dct (L.map fk)
/-! data for alike: nested tuples and lists of plain things -/
inductive Nice : Nat → D → Prop
  | non {j : Nat} : Nice j .non
  | bl {j : Nat} (b : Bool) : Nice j (.bl b)
  | int {j : Nat} (i : Int) : Nice j (.int i)
  | str {j : Nat} (x : Str) : Nice j (.str x)
  | tup {j : Nat} {ds : List D} (h : ∀ d ∈ ds, Nice j d) (hl : ds.length ≤ 100000) : Nice (j + 1) (.tup ds)
  | lst {j : Nat} {ds : List D} (h : ∀ d ∈ ds, Nice j d) (hl : ds.length ≤ 100000) : Nice (j + 1) (.lst ds)
/-! chains of three -/
section
variable (r : Env) (x y z : D)
def ch3 (o1 o2 o3 : D → D → Option D) (x y : R D) (fc fd : Env → R D) (r : Env) : R D := x.bind fun x => y.bind fun y => (R.ofO (o1 x y)).bind fun d => (R.ofO (asB d)).bind fun k =>
  if k = true then (fc r).bind fun z => (R.ofO (o2 y z)).bind fun d => (R.ofO (asB d)).bind fun k2 => if k2 = true then (fd r).bind fun u => R.ofO (o3 z u) else .ok (.bl false) else .ok (.bl false)
def ch3a (o2 o3 : D → D → Option D) (k : Option D) (y : D) (fc fd : Env → R D) (r : Env) : R D := (R.ofO k).bind fun d => (R.ofO (asB d)).bind fun k =>
  if k = true then (fc r).bind fun z => (R.ofO (o2 y z)).bind fun d => (R.ofO (asB d)).bind fun k2 => if k2 = true then (fd r).bind fun u => R.ofO (o3 z u) else .ok (.bl false) else .ok (.bl false)
def ch3b (o2 o3 : D → D → Option D) (y : D) (z : R D) (fd : Env → R D) (r : Env) : R D := z.bind fun z => (R.ofO (o2 y z)).bind fun d => (R.ofO (asB d)).bind fun k2 => if k2 = true then (fd r).bind fun u => R.ofO (o3 z u) else .ok (.bl false)
def ch3c (o3 : D → D → Option D) (k : Option D) (z : D) (fd : Env → R D) (r : Env) : R D := (R.ofO k).bind fun d => (R.ofO (asB d)).bind fun k2 => if k2 = true then (fd r).bind fun u => R.ofO (o3 z u) else .ok (.bl false)
theorem ch3_e (o1 o2 o3 : D → D → Option D) (fa fb fc fd : Env → R D) : chn3 o1 o2 o3 fa fb fc fd r = ch3 o1 o2 o3 (fa r) (fb r) fc fd r := (rfl)
theorem ch3_ok (o1 o2 o3 : D → D → Option D) (fc fd : Env → R D) : ch3 o1 o2 o3 (.ok x) (.ok y) fc fd r = ch3a o2 o3 (o1 x y) y fc fd r := (rfl)
theorem ch3_t (o2 o3 : D → D → Option D) (fc fd : Env → R D) : ch3a o2 o3 (some (.bl true)) y fc fd r = ch3b o2 o3 y (fc r) fd r := (rfl)
theorem ch3_f (o2 o3 : D → D → Option D) (fc fd : Env → R D) : ch3a o2 o3 (some (.bl false)) y fc fd r = .ok (.bl false) := (rfl)
theorem ch3b_ok (o2 o3 : D → D → Option D) (fd : Env → R D) : ch3b o2 o3 y (.ok z) fd r = ch3c o3 (o2 y z) z fd r := (rfl)
theorem ch3_t2 (o3 : D → D → Option D) (fd : Env → R D) : ch3c o3 (some (.bl true)) z fd r = apX (o3 z) (fd r) := (rfl)
theorem ch3_f2 (o3 : D → D → Option D) (fd : Env → R D) : ch3c o3 (some (.bl false)) z fd r = .ok (.bl false) := (rfl)
end
end DL

end
section
namespace DL
open PySem L2
/-! ### instances of one's own classes, with two attributes that nothing changes -/
def fldD (n : Str) : D → Option D
  | .obj fs => fs.lookup n
  | _ => none
theorem repF_get {K : PySem.W.Frag} {H : Hp} {A : Addr → Prop} {n : Str} {d : D} : ∀ {fs : List (Str × D)} {vs : List (Str × V)}, RepF K H A fs vs → fs.lookup n = some d → ∃ v, vs.lookup n = some v ∧ Rep K H A d v ∧ ∃ p ∈ fs, p.1 = n
  | [], vs, h, e => by cases e
  | (k, d') :: fs, vs, h, e => by
    unfold RepF at h
    obtain ⟨v, r, rfl, h1, h2⟩ := h
    rw [List.lookup_cons] at e ⊢
    by_cases z : n = k
    · subst z
      simp only [beq_self_eq_true] at e ⊢
      cases e
      exact ⟨v, rfl, h1, _, List.mem_cons_self, rfl⟩
    · have z' : (n == k) = false := by simpa using z
      rw [z'] at e ⊢
      obtain ⟨v2, e2, h3, p, hp, ep⟩ := repF_get h2 e
      exact ⟨v2, e2, h3, p, List.mem_cons_of_mem _ hp, ep⟩
section
variable {X : Cx} {W : WX} {e : Expr} {es : List Expr} {x f1 f2 : Str} {p pos : Pos} {k : Nat} {fa : Env → R D}
theorem d_fld {n : Str} (h : DP X W e fa) (hb : attributeBase e n X.env (eval e X.env) = eval e X.env := by rfl) : DP X W (.Attribute e n pos) (un1 (fldD n) fa) := by
  obtain ⟨t, pe, w⟩ := h
  refine ⟨_, pe_fld pe hb, fun F os r σ H Q R S => w F os r σ H _ R (S.bind.imp fun d S v H1 s1 h1 => ?_)⟩
  obtain ⟨d2, e2, S2⟩ := Sat.ofO S
  cases d with
  | obj fs =>
    unfold Rep at h1
    obtain ⟨a, C, dx, vs, rfl, hs, hn, hc, hno, hr⟩ := h1
    obtain ⟨v, ev, hv, q, hq, eq⟩ := repF_get hr e2
    exact ⟨a, C, dx, vs, v, rfl, hs, hc, by rw [← eq]; exact hno q hq, ev, S2 v H1 s1 hv⟩
  | _ => cases e2
/-- what __init__ promises: two attributes -/
def spI (C : Addr) (f1 f2 : Str) : Sp := fun vs H Q _ => ∃ (q dx : Addr) (v1 v2 : V), vs = [.ref q, v1, v2] ∧ H q = some (.ins C dx []) ∧ Q .non (upd (upd H q (.ins C dx [(f1, v1)])) q (.ins C dx [(f1, v1), (f2, v2)]))
def mkG (f1 f2 : Str) : List D → R D
  | [a, b] => .ok (.obj [(f1, a), (f2, b)])
  | _ => .stk
/-- the class that the name x stands for makes instances with the attributes f1 and f2 of its two arguments -/
def CalC (P : Program) (w : World) (K : PySem.W.Frag) (mg : Str → Option Value) (base : Heap) (k : Nat) (x f1 f2 : Str) : Prop :=
  ∃ (C f : Addr) (fd : FuncData) (ps : List Str), FnOk P w K mg base (L2.CX P w) k f fd ps (spI C f1 f2) ∧ Mk K C f ∧ mg x = some (.ref C) ∧ Binds K fd ps [] ∧ Cls K C ∧ NoAttr K C f1 ∧ NoAttr K C f2
theorem d_mkC {g : Env → R (List D)} (c : CalC X.prog X.w X.K X.mg X.base k x f1 f2) (hr : Room (k + 1) X.A) (hg : Gl X x) (ha : DPs X W (e :: es) g)
    (hdb : (x == ("__debug__" : Str)) = false := by decide) (he : starEach (e :: es) X.env = (false, eval e X.env) :: starEach es X.env := by rfl) (hpl : (backTo pos (starEach es X.env)).any (·.1) = false := by rfl) :
    DP X W (.Call (.Name x p) (e :: es) [] pos) (callF 2 (mkG f1 f2) g) := by
  obtain ⟨C, f, fd, ps, G, M, hm, hb, hc, n1, n2⟩ := c
  obtain ⟨ta, pa, wa⟩ := ha
  refine ⟨_, pe_make (E := fun _ _ _ => False) M G hr hg hm hb .nil (passes_call takes_no fun _ _ _ _ z => z.elim) pa hdb he hpl, fun Fm os r σ H Q Rl S => ?_⟩
  refine wa Fm os r σ H _ Rl (S.bind.imp fun ds S vs H1 s1 h1 y dx ny ndx nyd => ?_)
  have R1 := Rl.same' s1
  by_cases hl : ds.length = 2
  · rw [if_pos hl] at S
    match ds, hl with
    | [d1, d2], _ =>
      have S : ∀ v H', Same H H' → Rep X.K H' (Av Fm.A0 os) (.obj [(f1, d1), (f2, d2)]) v → Q v H' := S
      unfold RepL at h1
      obtain ⟨v1, r1, rfl, q1, h1⟩ := h1
      unfold RepL at h1
      obtain ⟨v2, r2, rfl, q2, h1⟩ := h1
      unfold RepL at h1
      subst h1
      refine ⟨y, dx, v1, v2, rfl, upd_same, rfl, ?_⟩
      have sm : Same H1 (upd (upd (upd (upd H1 dx (.own y)) y (.ins C dx [])) y (.ins C dx [(f1, v1)])) y (.ins C dx [(f1, v1), (f2, v2)])) := fun b o e => by
        rw [upd_ne (ne_of_none e ny), upd_ne (ne_of_none e ny), upd_ne (ne_of_none e ny), upd_ne (ne_of_none e ndx)]
        exact e
      refine S _ _ (s1.trans sm) ?_
      unfold Rep
      refine ⟨y, C, dx, [(f1, v1), (f2, v2)], rfl, upd_same, fun z => ?_, hc, fun q hq => ?_, ?_⟩
      · obtain ⟨o, e, _⟩ := R1.AOk y z
        rw [ny] at e
        cases e
      · rcases List.mem_cons.mp hq with z | z
        · subst z; exact n1
        · rw [List.mem_singleton.mp z]; exact n2
      · unfold RepF
        refine ⟨v1, _, rfl, q1.same sm R1.AOk, ?_⟩
        unfold RepF
        refine ⟨v2, _, rfl, q2.same sm R1.AOk, ?_⟩
        unfold RepF
        rfl
  · rw [if_neg hl] at S
    exact S.elim
end
section
variable {P : Program} {w : World} {K : PySem.W.Frag} {mg : Str → Option Value} {base : Heap} {x qual : Str} {params : Arguments} {scope : Scope} {f : Addr} {fd : FuncData}
theorem init_ok {C : Addr} {q x1 x2 f1 f2 : Str} {p1 p2 p3 p4 p5 p6 p7 p8 : Pos} (F : FunD K x qual params [.Assign [.Attribute (.Name q p1) f1 p2] (.Name x1 p3) p4, .Assign [.Attribute (.Name q p5) f2 p6] (.Name x2 p7) p8] scope [] [] f fd)
    (S : FnScope [q, x1, x2] [q, x1, x2] scope) (hc : Cls K C) (n1 : NoAttr K C f1) (n2 : NoAttr K C f2) (h12 : (f1 = f2) = False)
    (hv : ∀ (cdv : Value) (s : Shared), Vis (PyProof.Rows.envOfC qual scope s.heap.objs.size f cdv).scope q ∧ Vis (PyProof.Rows.envOfC qual scope s.heap.objs.size f cdv).scope x1 ∧ Vis (PyProof.Rows.envOfC qual scope s.heap.objs.size f cdv).scope x2)
    (hd : (q == ("__debug__" : Str)) = false ∧ (x1 == ("__debug__" : Str)) = false ∧ (x2 == ("__debug__" : Str)) = false) (hcd : (q == ("__classdict__" : Str)) = false ∧ (x1 == ("__classdict__" : Str)) = false ∧ (x2 == ("__classdict__" : Str)) = false) :
    FnOk P w K mg base (L2.CX P w) 1 f fd [q, x1, x2] (spI C f1 f2) := by
  refine F.ok S (fun vs H Q E h => ?_) (fun cdv A outer s H vs Q E hr h => ?_)
  · obtain ⟨_, _, _, _, rfl, _⟩ := h
    rfl
  · obtain ⟨p, dx, v1, v2, rfl, hp, k⟩ := h
    refine ⟨_, pss_cons (ps_fld (pv 0 rfl (hv cdv s).1 hd.1 hcd.1) (pv 1 rfl (hv cdv s).2.1 hd.2.1 hcd.2.1) rfl) (pss_one (ps_fld (pv 0 rfl (hv cdv s).1 hd.1 hcd.1) (pv 2 rfl (hv cdv s).2.2 hd.2.2 hcd.2.2) rfl)), ?_⟩
    refine ⟨_, rfl, _, rfl, p, C, dx, [], rfl, hp, hc, n1, (by show 0 < 1000; decide), _, rfl, _, rfl, p, C, dx, _, rfl, upd_same, hc, n2, (by show 1 < 1000; decide), ?_⟩
    have e : putF f2 v2 (putF f1 v1 []) = [(f1, v1), (f2, v2)] := by
      show (if f1 = f2 then _ else (f1, v1) :: putF f2 v2 []) = _
      rw [if_neg (by rw [h12]; exact id)]
      rfl
    rw [e]
    exact k
end
end DL

end
section
namespace DL
open PySem L2
/-! ### {k: v for target in iter if ..} -/
def dcP (g : D → Env → R Env) (c : Env → R Bool) (fk fv : Env → R D) (r0 : Env) : List (Key × D) → List D → R (List (Key × D))
  | acc, [] => .ok acc
  | acc, x :: xs => (R.ne (g x r0)).bind fun r1 => (R.ne (c r1)).bind fun b => if b = true then (R.ne (fk r1)).bind fun y => (R.ne (fv r1)).bind fun z => (R.ofO (keyD y)).bind fun k => dcP g c fk fv r0 (putD acc k z) xs else dcP g c fk fv r0 acc xs
def dcD (own : List (Str × Nat)) (h : Env → R (List D)) (g : D → Env → R Env) (c : Env → R Bool) (fk fv : Env → R D) : Env → R D := fun r => if noOwn (own.map (·.2)) r = true then (h r).bind fun items => if items.length ≤ sizeLine then (R.ne (dcP g c fk fv (wipeE r (own.map (·.2))) [] items)).bind fun kvs => .ok (.dct kvs) else .stk else .stk
theorem putD_len (kvs : List (Key × D)) (k : Key) (v : D) : (putD kvs k v).length ≤ kvs.length + 1 := by
  unfold putD
  split
  · rw [List.length_map]; omega
  · rw [List.length_append, List.length_singleton]; omega
theorem dc_snd {X : Cx} {W : WX} {own : List (Str × Nat)} {ks : List Nat} {h : Env → R (List D)} {g : D → Env → R Env} {c : Env → R Bool} {fk fv : Env → R D}
    (hk : ∀ k ∈ ks, k ∈ own.map (·.2)) (F : Fm) (os : List (Option Addr)) (r : Env) (σ : St) (H : Hp) (Q : VK) (R : Rel X.K F os r σ H)
    (S : Sat (fun d => ∀ p H', Same H H' → H p = none → RepO X.K H' (Ad (Av F.A0 os) p) d p → Q (.ref p) H') (Er X W F) (dcD own h g c fk fv r)) :
    tDc (cIp X.K X.mg W h) (cG X.K X.mg WF ks g) (cTp X.K X.mg WF c) (cP X.K X.mg WF fk) (cP X.K X.mg WF fv) (own.map (·.2)) σ H Q := by
  unfold dcD at S
  by_cases hv : noOwn (own.map (·.2)) r = true
  · rw [if_pos hv] at S
    have hv' := noOwn_ok hv
    generalize hvs : own.map (·.2) = vs at hk hv hv' S ⊢
    refine ⟨F, os, r, R, S.bind.imp fun items S2 => ?_⟩
    intro J H1 G src s1 g1 D hD
    by_cases hl : items.length ≤ sizeLine
    · rw [if_pos hl] at S2
      have R1 := R.same' s1
      have hDH : H D = none := s1.free hD
      have F0 : F.H0 D = none ∨ F.io D := by
        by_cases hio : F.io D
        · exact .inr hio
        · cases q : F.H0 D with
          | none => exact .inl rfl
          | some o =>
            have := R1.same D o q hio
            rw [hD] at this
            cases this
      let Fin : List (Key × DL.D) → Prop := fun kvs => ∀ p H', Same H H' → H p = none → RepO X.K H' (Ad (Av F.A0 os) p) (.dct kvs) p → Q (.ref p) H'
      have S3 : Sat Fin (fun _ _ => False) (dcP g c fk fv (wipeE r vs) [] items) := by
        cases q : dcP g c fk fv (wipeE r vs) [] items with
        | ok ds => rw [q] at S2; exact S2
        | err x e => rw [q] at S2; exact S2.elim
        | stk => rw [q] at S2; exact S2
      let FD : Fm := ⟨Ad F.A0 D, F.H0, F.io⟩
      have R2 : Rel X.K FD os (wipeE r vs) (L2.wipe σ vs) (upd H1 D (.dK [])) := (R1.ext (p := D) (o := .dK []) hD rfl).wipe _ hv'
      have kp0 : Keep (Av F.A0 os) (Av FD.A0 os) H1 (upd H1 D (.dK [])) := fun b u e nb => ⟨by rw [upd_ne (ne_of_none e hD)]; exact e, fun z => by
        rcases z with (z | z) | z
        · exact nb (.inl z)
        · rw [z, hD] at e
          cases e
        · exact nb (.inr z)⟩
      have g2 : G (Av FD.A0 os) (upd H1 D (.dK [])) := src.keep _ _ _ _ R1.AOk kp0 g1
      let Pv : Nat → Hp → Prop := fun i H' => ∃ acc vacc, Rel X.K FD os (wipeE r vs) (L2.wipe σ vs) H' ∧ H' D = some (.dK vacc) ∧ RepK X.K H' (Av FD.A0 os) acc vacc ∧ acc.length ≤ i ∧ G (Av FD.A0 os) H' ∧ Same H H' ∧
        Sat Fin (fun _ _ => False) (dcP g c fk fv (wipeE r vs) acc (items.drop i))
      refine ⟨fun i m H' => m = items.length - i ∧ i ≤ items.length ∧ Pv i H', ⟨_, rfl, Nat.zero_le _, [], [], R2, upd_same, by unfold RepK; rfl, Nat.le_refl _, g2, s1.trans (same_upd hD), S3⟩, ?_⟩
      rintro i m H2 ⟨rfl, hi, acc, vacc, R', hDa, hacc, hlen, g', sm, S'⟩
      have wk := walk_src src
      by_cases hlt : i < items.length
      · refine .inr ⟨wk.goes i H2 hlt ⟨_, R'.AOk, g'⟩, Pv (i + 1), fun H' p' => ⟨items.length - (i + 1), by omega, rfl, hlt, p'⟩, fun x H3 y => ?_⟩
        obtain ⟨s3, d, ed, hd⟩ := src.yields _ i H2 x H3 R'.AOk hlt g' y
        rw [drop_get ed] at S'
        unfold dcP at S'
        have R3 := R'.same' s3
        have g3 := src.keep _ _ _ _ R'.AOk (Keep.of s3) g'
        have hacc3 := RepK.keep (Keep.of s3) R'.AOk _ _ hacc
        refine ⟨_, os, _, d, R3, hd, (Sat.neB S').imp fun r4 S4 os4 σ4 H4 R4 k4 s4 o4 => ⟨wipe_off o4 hk, _, os4, r4, R4, (Sat.neB S4).imp fun b S5 H5 s5 => ?_⟩⟩
        have s35 : Same H3 H5 := s4.trans s5
        have R5 := R4.same' s5
        have R35 := R3.same' s35
        have hD5 : H5 D = some (.dK vacc) := s35 _ _ (s3 _ _ hDa)
        have hacc5 := RepK.keep (Keep.of s35) R3.AOk _ _ hacc3
        have g5 := src.keep _ _ _ _ R3.AOk (Keep.of s35) g3
        have sm5 : Same H H5 := (sm.trans s3).trans s35
        cases b with
        | false =>
          simp only [Bool.false_eq_true, if_false] at S5 ⊢
          exact ⟨acc, vacc, R35, hD5, hacc5, Nat.le_succ_of_le hlen, g5, sm5, S5⟩
        | true =>
          simp only [if_true] at S5 ⊢
          refine ⟨_, os4, r4, R5, (Sat.neB S5).imp fun dy S6 vy H6 s6 h6 => ?_⟩
          have R6 := R5.same' s6
          refine ⟨_, os4, r4, R6, (Sat.neB S6).imp fun dz S7 vz H7 s7 h7 => ?_⟩
          obtain ⟨k, ek, S8⟩ := Sat.ofO S7.bind
          have s37 : Same H3 H7 := (s35.trans s6).trans s7
          have R37 := R3.same' s37
          have hD7 : H7 D = some (.dK vacc) := s7 _ _ (s6 _ _ hD5)
          have hacc7 := RepK.keep (Keep.of s37) R3.AOk _ _ hacc3
          have g7 := src.keep _ _ _ _ R3.AOk (Keep.of s37) g3
          have hdd : Rep X.K H7 (Av FD.A0 os) dz vz := by
            have kk : Keep (Av FD.A0 os4) (Av FD.A0 os) H7 H7 := fun b u e nb => ⟨e, fun z => nb (by
              rcases z with z | z
              · exact .inl z
              · obtain ⟨j, hj, ej⟩ := List.getElem_of_mem z
                have ej' : os[j]? = some (some b) := by rw [List.getElem?_eq_getElem hj, ej]
                have nk : j ∉ ks := fun hjk => by
                  obtain ⟨s0, d0, e0, e0', _⟩ := R'.own ej'
                  exact wipeE_un (hk j hjk) s0 d0 e0 e0'
                exact .inr (List.mem_of_getElem? (((o4.2 j nk).2).trans ej')))⟩
            exact Rep.keep kk (R6.same' s7).AOk _ _ h7
          obtain ⟨R8, k8⟩ := R37.updA (p := D) (o := .dK (putK vacc k vz)) (.inr rfl) rfl F0
          refine ⟨vacc, k, keyD_v ek (.inl h6), hD7, by rw [repK_len hacc7]; omega, putD acc k dz, putK vacc k vz, R8, upd_same, RepK.keep k8 R37.AOk _ _ (repK_put k hacc7 hdd), Nat.le_trans (putD_len ..) (Nat.succ_le_succ hlen), src.keep _ _ _ _ R37.AOk k8 g7, ?_, S8⟩
          intro b u e
          rw [upd_ne (fun z => by rw [z, hDH] at e; cases e)]
          exact s7 _ _ (s6 _ _ (sm5 _ _ e))
      · have e : i = items.length := by omega
        subst e
        refine .inl ⟨wk.stops H2 ⟨_, R'.AOk, g'⟩, ?_⟩
        rw [List.drop_length] at S'
        exact S' D H2 sm hDH ⟨vacc, hDa, RepK.keep av_ad R'.AOk _ _ hacc⟩
    · rw [if_neg hl] at S2
      exact S2.elim
  · rw [if_neg hv] at S
    exact S.elim
section
variable {X : Cx} {W : WX} {kx vx tg iter : Expr} {ifs : List Expr} {scope : Scope} {own : List (Str × Nat)} {pos : Pos} {ks : List Nat} {h : Env → R (List D)} {g : D → Env → R Env} {c : Env → R Bool} {fk fv : Env → R D}
theorem d_dc (hc : X.calm = true) (hN : X.N.Nodup) (hi : DIp X W tg iter h) (ok : BlkOk X.N X.env.scope scope own)
    (hg : ∀ (s : Shared) (H : Hp) (C : Addr) (cl : List (Str × Addr)) (fp : List Addr), DG (X.blk s H scope (compEnvC scope cl C X.env) fp) WF ks tg g)
    (ht : ∀ (s : Shared) (H : Hp) (C : Addr) (cl : List (Str × Addr)) (fp : List Addr), DC (X.blk s H scope (compEnvC scope cl C X.env) fp) WF ifs c)
    (hkx : ∀ (s : Shared) (H : Hp) (C : Addr) (cl : List (Str × Addr)) (fp : List Addr), DP (X.blk s H scope (compEnvC scope cl C X.env) fp) WF kx fk)
    (hvx : ∀ (s : Shared) (H : Hp) (C : Addr) (cl : List (Str × Addr)) (fp : List Addr), DP (X.blk s H scope (compEnvC scope cl C X.env) fp) WF vx fv)
    (hk : ∀ k ∈ ks, k ∈ own.map (·.2) := by decide) (hs : ∀ x, foldedSetIterable iter X.env x = pure x := by intro _; rfl) : DF X W (.DictComp kx vx [⟨tg, iter, ifs, 0⟩] scope pos) (dcD own h g c fk fv) :=
  ⟨_, pe_dc hc hN hi.can ok (fun s H C cl fp => (hg s H C cl fp).can) (fun s H C cl fp => (ht s H C cl fp).can) (fun s H C cl fp => (hkx s H C cl fp).can) (fun s H C cl fp => (hvx s H C cl fp).can) hs, fun F os r σ H Q R S => dc_snd hk F os r σ H Q R S⟩
end
end DL

end
section
namespace DL
open PySem L2
/-! ### a dict that nothing changes any more -/
def tFrz (t : TE) : TE := fun σ H Q => t σ H fun v H1 => ∃ d u, v = .ref d ∧ H1 d = some u ∧ Mut (some u) ∧ ∀ od, Q v (upd H1 d (.frz od u))
theorem pe_frz {X : Cx} {e : Expr} {t : TE} (h : PE X e t) : PE X e (tFrz t) := by
  refine ⟨fun pins s σ H Q I hq => ?_⟩
  refine thn (h.run pins s σ H _ I hq) fun v s1 ⟨x, H1, I1, rx, d, u, ex, hd, mu, q⟩ => ?_
  obtain ⟨od, I2⟩ := I1.lock hd mu
  exact ⟨x, _, I2, rx, q od⟩
def toFz : D → Option D
  | .dct kvs => some (.dctF kvs)
  | _ => none
section
variable {X : Cx} {W : WX} {e a b c o tg : Expr} {es : List Expr} {x : Str} {p pos apos cpos : Pos} {f fa fb fc : Env → R D} {k : Nat}
theorem repF_of {K : PySem.W.Frag} {H H1 : Hp} {A : Addr → Prop} {q : Addr} {kvs : List (Key × D)} {od : Obj} (ak : AOk A H) (s1 : Same H H1) (n1 : H q = none) (vs : List (Key × V)) (e : H1 q = some (.dK vs)) (h : RepK K H1 (Ad A q) kvs vs) :
    Rep K (upd H1 q (.frz od (.dK vs))) A (.dctF kvs) (.ref q) := by
  have ak2 : AOk (Ad A q) H1 := fun b z => by
    rcases z with z | z
    · obtain ⟨o, h1, h2⟩ := ak b z
      exact ⟨o, s1 _ _ h1, h2⟩
    · subst z
      exact ⟨_, e, rfl⟩
  unfold Rep
  refine ⟨q, od, vs, rfl, upd_same, fun z => ?_, RepK.keep (fun b o eb nb => ⟨?_, fun z => nb (.inl z)⟩) ak2 _ _ h⟩
  · obtain ⟨o, e, _⟩ := ak q z
    rw [n1] at e
    cases e
  · rw [upd_ne (fun z => nb (.inr z))]
    exact eb
theorem DF.frz (h : DF X W e f) : DP X W e (un1 toFz f) := by
  obtain ⟨t, pe, w⟩ := h
  refine ⟨_, pe_frz pe, fun F os r σ H Q R S => w F os r σ H _ R (S.bind.imp fun d S q H1 s1 n1 h1 => ?_)⟩
  obtain ⟨d2, e2, S2⟩ := Sat.ofO S
  cases d with
  | dct kvs =>
    cases e2
    obtain ⟨vs, e1, rk⟩ := h1
    refine ⟨q, .dK vs, rfl, e1, trivial, fun od => S2 _ _ (fun b o eb => ?_) (repF_of R.AOk s1 n1 vs e1 rk)⟩
    rw [upd_ne (fun z => by rw [z, n1] at eb; cases eb)]
    exact s1 _ _ eb
  | _ => cases e2
/-- items, values -/
def itemsD : D → Option (List D)
  | .dctF kvs => some (kvs.map fun kv => .tup [keyV kv.1, kv.2])
  | _ => none
def valsD : D → Option (List D)
  | .dctF kvs => some (kvs.map fun kv => kv.2)
  | _ => none
theorem repK_at {K : PySem.W.Frag} {H : Hp} {A : Addr → Prop} : ∀ {ds : List (Key × D)} {vs : List (Key × V)} {i : Nat} {kk : Key} {v : V}, RepK K H A ds vs → vs[i]? = some (kk, v) → ∃ d, ds[i]? = some (kk, d) ∧ Rep K H A d v
  | [], vs, i, kk, v, h, e => by
    unfold RepK at h
    subst h
    cases e
  | (q, d) :: ds, vs, i, kk, v, h, e => by
    obtain ⟨u, r, ev, h1, h2⟩ := repK_cons h
    subst ev
    cases i with
    | zero =>
      cases e
      exact ⟨d, rfl, h1⟩
    | succ i =>
      have e' : r[i]? = some (kk, v) := e
      obtain ⟨d', h3, h4⟩ := repK_at h2 e'
      exact ⟨d', h3, h4⟩
theorem rep_key {K : PySem.W.Frag} {H : Hp} {A : Addr → Prop} (q : Key) : Rep K H A (keyV q) (kV q) := by
  cases q <;> (unfold Rep; rfl)
abbrev GD (K : PySem.W.Frag) (ad : Addr) (od : Obj) (kvs : List (Key × D)) (vs : List (Key × V)) : (Addr → Prop) → Hp → Prop := fun A H => H ad = some (.frz od (.dK vs)) ∧ ¬ A ad ∧ RepK K H A kvs vs
theorem src_vals {K : PySem.W.Frag} {ad : Addr} {od : Obj} {kvs : List (Key × D)} {vs : List (Key × V)} (hl : vs.length = kvs.length) : Src K (Itd ad od vs) (kvs.map fun kv => kv.2) (GD K ad od kvs vs) := by
  refine ⟨fun A A' H H' ak kp ⟨h1, h2, h3⟩ => ⟨(kp _ _ h1 h2).1, (kp _ _ h1 h2).2, RepK.keep kp ak _ _ h3⟩, fun A i H ak hi ⟨h1, h2, h3⟩ => ?_, fun A H ak ⟨h1, h2, h3⟩ => ?_, fun A i H v H' ak hi ⟨h1, h2, h3⟩ y => ?_⟩
  · rw [List.length_map] at hi
    exact ⟨h1, by rw [hl]; exact hi⟩
  · rw [List.length_map]
    exact ⟨h1, by rw [hl]; exact Nat.le_refl _⟩
  · obtain ⟨e1, kk, e2⟩ := y
    subst e1
    obtain ⟨d, e3, h4⟩ := repK_at h3 e2
    exact ⟨Same.refl _, d, by rw [List.getElem?_map, e3]; rfl, h4⟩
theorem src_items {K : PySem.W.Frag} {ad : Addr} {od : Obj} {kvs : List (Key × D)} {vs : List (Key × V)} (hl : vs.length = kvs.length) : Src K (Iti ad od vs) (kvs.map fun kv => D.tup [keyV kv.1, kv.2]) (GD K ad od kvs vs) := by
  refine ⟨fun A A' H H' ak kp ⟨h1, h2, h3⟩ => ⟨(kp _ _ h1 h2).1, (kp _ _ h1 h2).2, RepK.keep kp ak _ _ h3⟩, fun A i H ak hi ⟨h1, h2, h3⟩ => ?_, fun A H ak ⟨h1, h2, h3⟩ => ?_, fun A i H v H' ak hi ⟨h1, h2, h3⟩ y => ?_⟩
  · rw [List.length_map] at hi
    exact ⟨h1, by rw [hl]; exact hi⟩
  · rw [List.length_map]
    exact ⟨h1, by rw [hl]; exact Nat.le_refl _⟩
  · obtain ⟨T, kk, u, e2, e3, n, e4⟩ := y
    subst e3 e4
    obtain ⟨d, e5, h4⟩ := repK_at h3 e2
    refine ⟨same_upd n, _, by rw [List.getElem?_map, e5]; rfl, rep_newtup ak ?_ n⟩
    unfold RepL
    refine ⟨_, _, rfl, rep_key kk, ?_⟩
    unfold RepL
    exact ⟨_, _, rfl, h4, by unfold RepL; rfl⟩
theorem p_values (h : DP X W e f) (hbase : attributeBase e "values" X.env (eval e X.env) = eval e X.env := by rfl) (hline : (apos.endLine == cpos.line) = true := by rfl) : DIp X W tg (.Call (.Attribute e "values" apos) [] [] cpos) (itX valsD f) := by
  obtain ⟨t, pe, w⟩ := h
  refine ⟨_, pi_values pe hbase hline, fun F os r σ H Q R S => w F os r σ H _ R (S.bind.imp fun q S v H1 s1 h1 => ?_)⟩
  cases q with
  | dctF kvs =>
    obtain ⟨ad, od, vs, ev, h2, h3, h4⟩ := RepB.dctF (.inl h1)
    exact ⟨ad, od, vs, ev, h2, S _ H1 _ (src_vals (repK_len h4)) s1 ⟨h2, h3, h4⟩⟩
  | _ => exact S.elim
theorem p_items {elts : List Expr} {kk : Nat} {tpos : Pos} (h : DP X W e f) (hbase : attributeBase e "items" X.env (eval e X.env) = eval e X.env := by rfl) (hline : (apos.endLine == cpos.line) = true := by rfl) :
    DIp X W (.Tuple elts kk tpos) (.Call (.Attribute e "items" apos) [] [] cpos) (itX itemsD f) := by
  obtain ⟨t, pe, w⟩ := h
  refine ⟨_, pi_items pe hbase hline, fun F os r σ H Q R S => w F os r σ H _ R (S.bind.imp fun q S v H1 s1 h1 => ?_)⟩
  cases q with
  | dctF kvs =>
    obtain ⟨ad, od, vs, ev, h2, h3, h4⟩ := RepB.dctF (.inl h1)
    exact ⟨ad, od, vs, ev, h2, S _ H1 _ (src_items (repK_len h4)) s1 ⟨h2, h3, h4⟩⟩
  | _ => exact S.elim
/-- d.get(k), d.get(k, x) -/
def kvsD : D → Option (List (Key × D))
  | .dct kvs => some kvs
  | .dctF kvs => some kvs
  | _ => none
def gt1 (fa fb : Env → R D) : Env → R D := fun r => (fa r).bind fun d => (R.ofO (kvsD d)).bind fun kvs => (fb r).bind fun y => (R.ofO (keyD y)).bind fun k => .ok ((getD_ kvs k).getD .non)
def gt2 (fa fb fc : Env → R D) : Env → R D := fun r => (fa r).bind fun d => (R.ofO (kvsD d)).bind fun kvs => (fb r).bind fun y => (fc r).bind fun z => (R.ofO (keyD y)).bind fun k => .ok ((getD_ kvs k).getD z)
theorem repB_rd {K : PySem.W.Frag} {H : Hp} {A : Addr → Prop} {kvs : List (Key × D)} {v : V} {d : D} (hd : kvsD d = some kvs) (h : RepB K H A d v) : ∃ a vs, v = .ref a ∧ Rd H a (.dK vs) ∧ RepK K H A kvs vs := by
  cases d with
  | dct l =>
    cases hd
    obtain ⟨a, vs, e1, e2, e3⟩ := RepB.dct h
    exact ⟨a, vs, e1, .inl e2, e3⟩
  | dctF l =>
    cases hd
    obtain ⟨a, od, vs, e1, e2, _, e3⟩ := RepB.dctF h
    exact ⟨a, vs, e1, .inr ⟨od, e2⟩, e3⟩
  | _ => cases hd
end
end DL

end
section
namespace DL
open PySem PySem.Spec PyProof.Rows L2
/-! ### list(d.items()), whether a walk holds d or not -/
def tLI (te : TE) : TE := fun σ H Q => te σ H fun x H1 => ∃ (d : Addr) (kvs : List (Key × V)), x = .ref d ∧ Rd H1 d (.dK kvs) ∧
  ∀ (H' : Hp) (p : Addr) (ts : List Addr), Same H1 H' → H1 p = none → (∀ t ∈ ts, H1 t = none) → p ∉ ts → H' p = some (.lst (ts.map V.ref)) → Paired (fun (t : Addr) (q : Key × V) => H' t = some (.tup [kV q.1, q.2])) ts kvs → Q (.ref p) H'
section
variable {X : Cx} {W : WX} {e : Expr} {te : TE} {p apos cpos pos : Pos} {f : DL.Env → DL.R DL.D}
def lstItD (d : DL.D) : Option DL.D := (kvsD d).map fun kvs => .lst (kvs.map fun kv => .tup [keyV kv.1, kv.2])
end
end DL

end
section
namespace DL
open PySem L2
/-! ### xs[i] op= e of a slot's own list -/
def rGetN (K : PySem.W.Frag) : V → V → Hp → VK → Prop := fun x y H Q => ∃ (p : Addr) (xs : List V) (i : Nat) (v : V), x = .ref p ∧ y = .int (i : Nat) ∧ SqL K H p xs ∧ xs[i]? = some v ∧ Q v H
theorem get_listN {X : Cx} : PGet X (rGetN X.K) := by
  intro pins s σ H x y v u Q I rx ry h
  obtain ⟨p, xs, i, z, rfl, rfl, hq, he, q⟩ := h
  cases rx
  obtain ⟨t, rfl⟩ := ry
  obtain ⟨its, r, pl, hz⟩ := I.list hq
  obtain ⟨w, ew, rw'⟩ := r.get he
  have hl := r.length
  have hn := line63
  have hi := (List.getElem?_eq_some_iff.mp he).1
  exact wpAny_getItem_list (Q := fun r s' => EP X pins σ Q r s') pl.isList (by omega) (by omega) (by simpa using ew) ⟨z, H, I, rw', q⟩
def asN : D → Option Nat
  | .int i => if 0 ≤ i then some i.toNat else none
  | _ => none
theorem asN_ok {d : D} {n : Nat} (e : asN d = some n) : d = .int (n : Nat) := by
  cases d with
  | int i =>
    unfold asN at e
    by_cases h : 0 ≤ i
    · simp only [if_pos h] at e
      have := Option.some.inj e
      congr 1
      omega
    · simp only [if_neg h] at e
      cases e
  | _ => cases e
def itmA (i : Nat) (g : D → D → Option D) (fk fe : Env → R D) : Env → R Fl := fun r => (R.ofO (ownL r i)).bind fun s => (fk r).bind fun k => (R.ofO (asN k)).bind fun n => (R.ofO s.2[n]?).bind fun x => (fe r).bind fun y => (R.ofO (g x y)).bind fun d => .ok (.nx (r.set i (s.1.put (.lst (s.2.set n d)))))
section
variable {X : Cx} {W : WX} {e : Expr} {x : Str} {pos : Pos}
theorem s_itmA (i : Nat) {op : Operator} {ti : TIp} {g : D → D → Option D} {ix : Expr} {p p2 : Pos} {fk fe : Env → R D} (ho : PIp X op ti) (o : OpIp X ti g) (h : DB X W e fe) (h2 : DB X W ix fk) (hN : X.N[i]? = some x := by rfl) (hv : Vis X.env.scope x := by first | exact Or.inl rfl | exact Or.inr (Or.inl rfl) | exact Or.inr (Or.inr rfl)) (hd : (x == ("__debug__" : Str)) = false := by decide)
    (hcd : (x == ("__classdict__" : Str)) = false := by decide)
    (ha : ∀ ov iv new, augStore ix ov iv new = (do holding [new, ov, iv] (setItem ov iv new); release [new, ov, iv] []; pure .next) := by intros; rfl) : DS X W (.AugAssign (.Subscript (.Name x p) ix p2) op e pos) (itmA i g fk fe) := by
  obtain ⟨t, pe, w⟩ := h
  obtain ⟨u, pu, z⟩ := h2
  refine ⟨_, ps_augS (pe_var (i := i) hN hv hd hcd) pu get_listN pe ho set_list ha, fun F os r σ H D R S => ?_⟩
  obtain ⟨s0, e0, S⟩ := S.bind.ofO
  obtain ⟨e00, e01⟩ := ownL_ok (s := s0.1) (xs := s0.2) e0
  obtain ⟨a, ea, inA, _⟩ := R.ownA e00 e01
  refine ⟨_, ea, z F os r σ H _ R (S.bind.imp fun k S v2 H2 s2 h2 => ?_)⟩
  have R2 := R.same' s2
  obtain ⟨n, en, S4⟩ := S.bind.ofO
  obtain ⟨d0, ed0, S5⟩ := S4.bind.ofO
  clear S S4
  have ek := asN_ok en
  subst ek
  obtain ⟨a', ea', inA', ys, hy, hr⟩ := R2.ownA e00 e01
  rw [ea] at ea'
  cases ea'
  obtain ⟨v0, ev0, hv0⟩ := repL_get hr ed0
  refine ⟨a, ys, n, v0, rfl, h2.int, SqL.of hy, ev0, w F os r σ H2 _ R2 (S5.bind.imp fun y S6 v3 H3 s3 h3 => ?_)⟩
  have R3 := R2.same' s3
  obtain ⟨d, ed, S⟩ := S6.bind.ofO
  refine o _ H3 d0 y v0 v3 d _ R3.AOk ed (hv0.same s3 R2.AOk) h3 fun w4 H4 s4 h4 => ?_
  have R4 := R3.same' s4
  have hy4 : H4 a = some (.lst ys) := s4 _ _ (s3 _ _ hy)
  have hr4 := RepL.keep (Keep.of (s3.trans s4)) R2.AOk _ _ hr
  have hn : n < ys.length := (List.getElem?_eq_some_iff.mp ev0).1
  refine ⟨a, ys, (n : Nat), n, rfl, h2.int, hy4, ?_, ?_⟩
  · unfold L2.ixN
    rw [if_pos (Int.natCast_nonneg n), if_pos (by omega)]
    rfl
  · have rep' : RepO X.K (upd H4 a (.lst (ys.set n w4))) (Av F.A0 os) (.lst (s0.2.set n d)) a := ⟨_, upd_same, own_upd R4.AOk inA' (repL_set h4 n hr4)⟩
    obtain ⟨R5, k5⟩ := R4.updOwn e00 e01 ea rep'
    exact S os σ _ R5 ((Keep.of ((s2.trans s3).trans s4)).trans k5)
end
end DL

end
section
namespace DL
open PySem L2
/-! ### a list or dict of a slot's own is put away, and taken out again -/
section
variable {K : PySem.W.Frag} {H : Hp} {os : List (Option Addr)} {r : Env} {σ : St}
theorem Rel.less {F : Fm} {A1 : Addr → Prop} (R : Rel K ⟨A1, F.H0, F.io⟩ os r σ H) (h : ∀ a, F.A0 a → A1 a) : Rel K F os r σ H := by
  refine ⟨R.lens, R.leno, fun i s v o e1 e2 e3 => (R.slot i s v o e1 e2 e3).keep (fun b u e nb => ⟨e, fun z => nb ?_⟩) R.AOk fun _ _ => rfl, R.inj, fun i a e z => R.out i a e (h a z), fun a z => R.aok a (h a z), R.same, R.new⟩
  rcases z with z | z
  · exact .inl (h b z)
  · exact .inr z
theorem Rel.hide {F : Fm} (R : Rel K F os r σ H) {i : Nat} {a : Addr} (eo : os[i]? = some (some a)) : Rel K ⟨Ad F.A0 a, F.H0, F.io⟩ (os.set i none) (r.set i .un) σ H := by
  have ak := R.AOk
  have kp : Keep (Av F.A0 os) (Av (Ad F.A0 a) (os.set i none)) H H := fun b u eb nb => ⟨eb, fun z => by
    rcases z with (z | z) | z
    · exact nb (.inl z)
    · exact nb (.inr (by rw [z]; exact List.mem_of_getElem? eo))
    · rcases mem_set_cases z with z | z
      · exact nb (.inr z)
      · cases z⟩
  refine ⟨by simp [R.lens], by simp [R.leno], fun j s v o e1 e2 e3 => ?_, fun j k b e1 e2 => ?_, fun j b e1 z => ?_, fun b z => ?_, R.same, fun j b e1 => ?_⟩
  · rcases getElem?_set_cases e1 with ⟨ej, z1⟩ | ⟨ej, e1⟩
    · subst z1
      rcases getElem?_set_cases e3 with ⟨_, z3⟩ | ⟨nj, _⟩
      · exact z3
      · exact absurd ej nj
    · rw [List.getElem?_set_ne ej] at e3
      exact (R.slot j s v o e1 e2 e3).keep kp ak fun _ _ => rfl
  · rcases getElem?_set_cases e1 with ⟨_, z⟩ | ⟨_, e1⟩
    · cases z
    · rcases getElem?_set_cases e2 with ⟨_, z⟩ | ⟨_, e2⟩
      · cases z
      · exact R.inj j k b e1 e2
  · rcases getElem?_set_cases e1 with ⟨_, z1⟩ | ⟨nj, e1⟩
    · cases z1
    · rcases z with z | z
      · exact R.out j b e1 z
      · subst z
        exact nj (R.inj i j b eo e1)
  · rcases z with z | z
    · exact R.aok b z
    · subst z
      exact ak b (.inr (List.mem_of_getElem? eo))
  · rcases getElem?_set_cases e1 with ⟨_, z1⟩ | ⟨_, e1⟩
    · cases z1
    · exact R.new j b e1
theorem Rel.show {F : Fm} {A1 : Addr → Prop} {a : Addr} (R : Rel K ⟨A1, F.H0, F.io⟩ os r σ H) (ha : ∀ b, A1 b ↔ F.A0 b ∨ b = a) (na : ¬ F.A0 a) {i : Nat} {d : D} (e : r[i]? = some .un) (es : σ[i]? = some (some (.ref a))) (hr : RepO K H (Av A1 os) d a) (hn : F.H0 a = none ∨ F.io a) :
    Rel K F (os.set i (some a)) (r.set i (.own d)) σ H := by
  have ak := R.AOk
  have kp : Keep (Av A1 os) (Av F.A0 (os.set i (some a))) H H := fun b u eb nb => ⟨eb, fun z => nb (by
    rcases z with z | z
    · exact .inl ((ha b).mpr (.inl z))
    · rcases mem_set_cases z with z | z
      · exact .inr z
      · cases z
        exact .inl ((ha a).mpr (.inr rfl)))⟩
  have hi : i < os.length := by rw [R.leno]; exact (List.getElem?_eq_some_iff.mp e).1
  refine ⟨by simp [R.lens], by simp [R.leno], fun j s v o e1 e2 e3 => ?_, fun j k b e1 e2 => ?_, fun j b e1 z => ?_, fun b z => R.aok b ((ha b).mpr (.inl z)), R.same, fun j b e1 => ?_⟩
  · rcases getElem?_set_cases e1 with ⟨ej, z1⟩ | ⟨ej, e1⟩
    · subst z1
      subst ej
      rw [es] at e2
      cases e2
      rcases getElem?_set_cases e3 with ⟨_, z3⟩ | ⟨nj, _⟩
      · exact ⟨a, z3, rfl, hr.keepNe kp ak rfl⟩
      · exact absurd rfl nj
    · rw [List.getElem?_set_ne ej] at e3
      exact (R.slot j s v o e1 e2 e3).keep kp ak fun _ _ => rfl
  · rcases getElem?_set_cases e1 with ⟨ej, z⟩ | ⟨_, e1⟩
    · cases z
      rcases getElem?_set_cases e2 with ⟨ek, _⟩ | ⟨_, e2⟩
      · rw [← ej, ← ek]
      · exact absurd ((ha a).mpr (.inr rfl)) (R.out k a e2)
    · rcases getElem?_set_cases e2 with ⟨ek, z⟩ | ⟨_, e2⟩
      · cases z
        exact absurd ((ha a).mpr (.inr rfl)) (R.out j a e1)
      · exact R.inj j k b e1 e2
  · rcases getElem?_set_cases e1 with ⟨_, z1⟩ | ⟨_, e1⟩
    · cases z1
      exact na z
    · exact R.out j b e1 ((ha b).mpr (.inl z))
  · rcases getElem?_set_cases e1 with ⟨_, z1⟩ | ⟨_, e1⟩
    · cases z1
      exact hn
    · exact R.new j b e1
theorem Rel.showIo {F : Fm} {A1 : Addr → Prop} {a : Addr} (R : Rel K ⟨A1, F.H0, F.io⟩ os r σ H) (ha : ∀ b, A1 b ↔ F.A0 b ∨ b = a) (na : ¬ F.A0 a) {i : Nat} {d : D} (e : r[i]? = some .un) (es : σ[i]? = some (some (.ref a))) (hr : RepO K H (Av A1 os) d a) (hn : F.io a) :
    Rel K F (os.set i (some a)) (r.set i (.io d)) σ H := by
  have ak := R.AOk
  have kp : Keep (Av A1 os) (Av F.A0 (os.set i (some a))) H H := fun b u eb nb => ⟨eb, fun z => nb (by
    rcases z with z | z
    · exact .inl ((ha b).mpr (.inl z))
    · rcases mem_set_cases z with z | z
      · exact .inr z
      · cases z
        exact .inl ((ha a).mpr (.inr rfl)))⟩
  have hi : i < os.length := by rw [R.leno]; exact (List.getElem?_eq_some_iff.mp e).1
  refine ⟨by simp [R.lens], by simp [R.leno], fun j s v o e1 e2 e3 => ?_, fun j k b e1 e2 => ?_, fun j b e1 z => ?_, fun b z => R.aok b ((ha b).mpr (.inl z)), R.same, fun j b e1 => ?_⟩
  · rcases getElem?_set_cases e1 with ⟨ej, z1⟩ | ⟨ej, e1⟩
    · subst z1
      subst ej
      rw [es] at e2
      cases e2
      rcases getElem?_set_cases e3 with ⟨_, z3⟩ | ⟨nj, _⟩
      · exact ⟨a, z3, rfl, hr.keepNe kp ak rfl, hn⟩
      · exact absurd rfl nj
    · rw [List.getElem?_set_ne ej] at e3
      exact (R.slot j s v o e1 e2 e3).keep kp ak fun _ _ => rfl
  · rcases getElem?_set_cases e1 with ⟨ej, z⟩ | ⟨_, e1⟩
    · cases z
      rcases getElem?_set_cases e2 with ⟨ek, _⟩ | ⟨_, e2⟩
      · rw [← ej, ← ek]
      · exact absurd ((ha a).mpr (.inr rfl)) (R.out k a e2)
    · rcases getElem?_set_cases e2 with ⟨ek, z⟩ | ⟨_, e2⟩
      · cases z
        exact absurd ((ha a).mpr (.inr rfl)) (R.out j a e1)
      · exact R.inj j k b e1 e2
  · rcases getElem?_set_cases e1 with ⟨_, z1⟩ | ⟨_, e1⟩
    · cases z1
      exact na z
    · exact R.out j b e1 ((ha b).mpr (.inl z))
  · rcases getElem?_set_cases e1 with ⟨_, z1⟩ | ⟨_, e1⟩
    · cases z1
      exact .inr hn
    · exact R.new j b e1
/-- what a slot holds is forgotten -/
theorem Rel.forget {F : Fm} (R : Rel K F os r σ H) {i : Nat} {d : D} (e : r[i]? = some (.sh d)) : Rel K F os (r.set i .un) σ H := by
  refine ⟨by simp [R.lens], by simp [R.leno], fun j s v o e1 e2 e3 => ?_, R.inj, R.out, R.aok, R.same, R.new⟩
  rcases getElem?_set_cases e1 with ⟨ej, z1⟩ | ⟨ej, e1⟩
  · subst z1
    subst ej
    obtain ⟨v', o', e4, e5, q⟩ := R.get e
    rw [e5] at e3
    cases e3
    exact q.1
  · exact R.slot j s v o e1 e2 e3
/-- a value that the slot's name now stands for, of which nothing is known -/
theorem Rel.setUn {F : Fm} (R : Rel K F os r σ H) {i : Nat} {v : Option V} (e : r[i]? = some .un) : Rel K F os r (σ.set i v) H := by
  refine ⟨by simp [R.lens], R.leno, fun j s w o e1 e2 e3 => ?_, R.inj, R.out, R.aok, R.same, R.new⟩
  rcases getElem?_set_cases e2 with ⟨ej, z1⟩ | ⟨ej, e2⟩
  · subst ej
    rw [e] at e1
    cases e1
    obtain ⟨v', o', e4, e5, q⟩ := R.get e
    rw [e5] at e3
    cases e3
    exact q
  · exact R.slot j s w o e1 e2 e3
end
/-! ### sorted(dict) -/
def strKs : List (Key × D) → Option (List Str)
  | [] => some []
  | (.inr x, _) :: r => (strKs r).map fun l => x :: l
  | _ :: _ => none
theorem strKs_ok : ∀ {kvs : List (Key × D)} {ks : List Str}, strKs kvs = some ks → kvs.map (·.1) = ks.map Sum.inr
  | [], ks, e => by cases e; rfl
  | (k, d) :: r, ks, e => by
    cases k with
    | inl i => cases e
    | inr x =>
      obtain ⟨l, e1, e2⟩ := Option.map_eq_some_iff.mp e
      subst e2
      rw [List.map_cons, List.map_cons, strKs_ok e1]
theorem repK_fst {K : PySem.W.Frag} {H : Hp} {A : Addr → Prop} : ∀ {ds : List (Key × D)} {vs : List (Key × V)}, RepK K H A ds vs → vs.map (·.1) = ds.map (·.1)
  | [], vs, h => by unfold RepK at h; subst h; rfl
  | (q, d) :: ds, vs, h => by
    obtain ⟨u, r, ev, _, h2⟩ := repK_cons h
    subst ev
    rw [List.map_cons, List.map_cons, repK_fst h2]
def srtKD : List D → Option D
  | [d] => (kvsD d).bind fun kvs => (strKs kvs).bind fun ks => if ks.length < 64 then some (.lst ((sortStr ks).map D.str)) else none
  | _ => none
open PySem.Spec PyProof.Rows in
theorem rising_pw : ∀ (p : Str) (l : List Str), risingS p l = true → (p :: l).Pairwise fun a b => leS a b = true
  | p, [], _ => List.pairwise_singleton ..
  | p, x :: r, h => by
    have h : (!ltCps x.cps.toList p.cps.toList && risingS x r) = true := h
    obtain ⟨h1, h2⟩ := Bool.and_eq_true_iff.mp h
    have ih := rising_pw x r h2
    rw [ltCps_eq] at h1
    have px : leS p x = true := h1
    refine List.pairwise_cons.mpr ⟨fun y hy => ?_, ih⟩
    rcases List.mem_cons.mp hy with z | z
    · rw [z]; exact px
    · exact leS_iff.mpr (List.le_trans (leS_iff.mp px) (leS_iff.mp ((List.pairwise_cons.mp ih).1 y z)))
open PyProof.Rows in
theorem sortedS_pw : ∀ (l : List Str), sortedS l = true → l.Pairwise fun a b => leS a b = true
  | [], _ => .nil
  | x :: r, h => rising_pw x r h
def rSrtK : List V → Hp → VK → Prop := fun xs H Q => ∃ (a : Addr) (kvs : List (Key × V)) (ks : List Str), xs = [.ref a] ∧ Rd H a (.dK kvs) ∧ kvs.map (·.1) = ks.map Sum.inr ∧ ks.length < 64 ∧ ∀ p, H p = none → Q (.ref p) (upd H p (.lst ((sortStr ks).map V.str)))
theorem cr_srtK {X : Cx} (hc : X.calm = true) : CallR X (.builtin "sorted") rSrtK := by
  intro pins s σ H xs us Q I r h
  obtain ⟨a, kvs, ks, e, hd, hk, hl, q⟩ := h
  exact call_sortedD hc pins s σ H xs us Q I r ⟨a, kvs, ks, e, hd, hk, hl, fun ys p pm so n => by
    rw [sortStr_uniq pm (sortedS_pw ys so)]
    exact q p n⟩
theorem o_srtK {X : Cx} : OpNF X rSrtK srtKD := by
  intro A H xs vs d Q ak e h q
  match xs, e with
  | [d0], e =>
    obtain ⟨v, ev, h1⟩ := rep1 h
    subst ev
    obtain ⟨kvs, e1, e⟩ := Option.bind_eq_some_iff.mp e
    obtain ⟨ks, e2, e⟩ := Option.bind_eq_some_iff.mp e
    by_cases hl : ks.length < 64
    · rw [if_pos hl] at e
      cases e
      obtain ⟨a, ws, ew, hrd, hk⟩ := repB_rd e1 h1
      subst ew
      exact ⟨a, ws, ks, rfl, hrd, (repK_fst hk).trans (strKs_ok e2), hl, fun p n => q p _ (same_upd n) n (repO_newlst ak (repL_strs' _) n)⟩
    · rw [if_neg hl] at e
      cases e
end DL

end
section
namespace DL
open PySem L2
/-! ### the graph of the outcomes of a film: a dict of dicts of one's own, written through another name -/
abbrev sg (c : Nat) : Str := ⟨#[c]⟩
def putI (m : List (Nat × Nat)) (c v : Nat) : List (Nat × Nat) := if (m.any fun p => decide (p.1 = c)) = true then m.map (fun p => if p.1 = c then (p.1, v) else p) else m ++ [(c, v)]
def ogM (F : List Nat) : Nat → Nat → List (Nat × Nat)
  | 0 => fun _ => []
  | i + 1 => fun c => if c = F.getD (F.length - 1 - i) 0 ∧ F.length - 1 - i + 1 < F.length then putI (ogM F i c) (F.getD (F.length - 1 - i + 1) 0) (F.length - 1 - i + 2) else ogM F i c
def abc8 : List Nat := [97, 98, 99, 100, 101, 102, 103, 104]
def rowD (m : List (Nat × Nat)) : D := .dctF ((abc8.filter fun d => decide (d ∈ m.map (·.1))).map fun d => ((.inr (sg d) : Key), .int (((m.lookup d).getD 0 : Nat) : Int)))
def ogR (F : List Nat) : Nat → List D
  | 0 => []
  | i + 1 => ogR F i ++ [rowD (ogM F (i + 1) (F.getD (F.length - 1 - i) 0))]
def kvI (m : List (Nat × Nat)) : List (Key × D) := m.map fun p => (.inr (sg p.1), .int (p.2 : Nat))
def vsI (m : List (Nat × Nat)) : List (Key × V) := m.map fun p => (.inr (sg p.1), .int (p.2 : Nat))
theorem repK_I {K : PySem.W.Frag} {H : Hp} {A : Addr → Prop} : ∀ m : List (Nat × Nat), RepK K H A (kvI m) (vsI m)
  | [] => by unfold kvI vsI RepK; rfl
  | p :: m => repK_mk (by unfold Rep; rfl) (repK_I m)
theorem repK_I' {K : PySem.W.Frag} {H : Hp} {A : Addr → Prop} : ∀ {m : List (Nat × Nat)} {vs : List (Key × V)}, RepK K H A (kvI m) vs → vs = vsI m
  | [], vs, h => by unfold kvI at h; unfold RepK at h; exact h
  | p :: m, vs, h => by
    obtain ⟨u, r, e, h1, h2⟩ := repK_cons h
    unfold Rep at h1
    subst h1
    rw [e, repK_I' h2]
    rfl
theorem Rel.base2 {K : PySem.W.Frag} {H : Hp} {os : List (Option Addr)} {r : Env} {σ : St} {F : Fm} {H0 : Hp} {io : Addr → Prop} (R : Rel K F os r σ H) (hi : ∀ (i : Nat) (d : D), r[i]? ≠ some (.io d)) (h1 : ∀ b o, H0 b = some o → ¬ io b → H b = some o) (h2 : ∀ (i : Nat) (a : Addr), os[i]? = some (some a) → H0 a = none ∨ io a) :
    Rel K ⟨F.A0, H0, io⟩ os r σ H := by
  refine ⟨R.lens, R.leno, fun i s v o e1 e2 e3 => ?_, R.inj, R.out, R.aok, h1, h2⟩
  have q := R.slot i s v o e1 e2 e3
  cases s with
  | io d => exact absurd e1 (hi i d)
  | _ => exact q
/-- the reading of behind = {letter: {} for letter in film} -/
theorem og_init {X : Cx} {W : WX} {Fm0 : Fm} {os : List (Option Addr)} {σ : St} {H : Hp} {Q : VK} (F : List Nat) (hF : F.length ≤ 200) (R : Rel X.K Fm0 os [.sh (.str ⟨F.toArray⟩), .un, .un, .un, .un, .un] σ H)
    (k : ∀ (A1 : Addr → Prop) (B : Addr) (bk : List (Key × V)) (ad : Nat → Addr) (H1 : Hp), Rel X.K ⟨A1, Fm0.H0, Fm0.io⟩ os [.sh (.str ⟨F.toArray⟩), .un, .un, .un, .un, .un] σ H1 → (∀ a, Fm0.A0 a → A1 a) → Keep (Av Fm0.A0 os) (Av A1 os) H H1 →
      A1 B → ¬ Fm0.A0 B → (Fm0.H0 B = none ∨ Fm0.io B) → (∀ c ∈ F, A1 (ad c) ∧ ¬ Fm0.A0 (ad c) ∧ (Fm0.H0 (ad c) = none ∨ Fm0.io (ad c)) ∧ ad c ≠ B ∧ H1 (ad c) = some (.dK []) ∧ valV bk (.inr (sg c)) = some (.ref (ad c))) → (∀ c ∈ F, ∀ d ∈ F, ad c = ad d → c = d) → H1 B = some (.dK bk) → Q (.ref B) H1) :
    tDc (cIp X.K X.mg W (itX zD (gSh 0))) (cG X.K X.mg WF [5] (gSet 5)) (cTp X.K X.mg WF yesB) (cP X.K X.mg WF (gSh 5)) tDNewK [5] σ H Q := by
  refine ⟨Fm0, os, _, R, fun J H1 G src s1 g1 B hB => ?_⟩
  have R1 := R.same' s1
  have F0 : ∀ {D : Addr}, ∀ {H' : Hp}, Rel X.K Fm0 os [.sh (.str ⟨F.toArray⟩), .un, .un, .un, .un, .un] σ H → Same H H' → H' D = none → Fm0.H0 D = none ∨ Fm0.io D := fun {D} {H'} R s n => by
    by_cases hio : Fm0.io D
    · exact .inr hio
    · cases q : Fm0.H0 D with
      | none => exact .inl rfl
      | some o =>
        have := s D o (R.same D o q hio)
        rw [n] at this
        cases this
  have hl : (sgs ⟨F.toArray⟩).length = F.length := by simp [sgs]
  have kext : ∀ {A1 : Addr → Prop} {H6 : Hp} {p : Addr} {o : HO}, H6 p = none → Keep (Av A1 os) (Av (Ad A1 p) os) H6 (upd H6 p o) := fun {A1} {H6} {p} {o} n b u e nb => ⟨by rw [upd_ne (ne_of_none e n)]; exact e, fun z => by
    rcases z with (z | z) | z
    · exact nb (.inl z)
    · rw [z, n] at e
      cases e
    · exact nb (.inr z)⟩
  have hBH : H B = none := s1.free hB
  have FB : Fm0.H0 B = none ∨ Fm0.io B := F0 R (Same.refl H) hBH
  let r0 : DL.Env := [.sh (.str ⟨F.toArray⟩), .un, .un, .un, .un, .un]
  let Pv : Nat → Hp → Prop := fun i H' => ∃ (A1 : Addr → Prop) (bk : List (Key × V)) (ad : Nat → Addr), Rel X.K ⟨A1, Fm0.H0, Fm0.io⟩ os r0 σ H' ∧ (∀ a, Fm0.A0 a → A1 a) ∧ Keep (Av Fm0.A0 os) (Av A1 os) H H' ∧ A1 B ∧ H' B = some (.dK bk) ∧ bk.length ≤ i ∧ G (Av A1 os) H' ∧ Same H H' ∧
    (∀ c ∈ F.take i, A1 (ad c) ∧ H (ad c) = none ∧ ad c ≠ B ∧ H' (ad c) = some (.dK []) ∧ valV bk (.inr (sg c)) = some (.ref (ad c))) ∧ (∀ c ∈ F.take i, ∀ d ∈ F.take i, ad c = ad d → c = d)
  have R2 : Rel X.K ⟨Ad Fm0.A0 B, Fm0.H0, Fm0.io⟩ os r0 σ (upd H1 B (.dK [])) := R1.ext (p := B) (o := .dK []) hB rfl
  refine ⟨fun i m H' => m = F.length - i ∧ i ≤ F.length ∧ Pv i H', ⟨_, rfl, Nat.zero_le _, Ad Fm0.A0 B, [], fun _ => 0, R2, fun a h => .inl h, (Keep.of s1).trans (kext hB), .inr rfl, upd_same, Nat.le_refl _, src.keep _ _ _ _ R1.AOk (kext hB) g1, s1.trans (same_upd hB), by intro c h; exact absurd h (by simp), by intro c h; exact absurd h (by simp)⟩, ?_⟩
  rintro i m H2 ⟨rfl, hi, A1, bk, ad, R', hA, kp, hB1, hBd, hlen, g', sm, hc, hj⟩
  have wk := walk_src src
  by_cases hlt : i < F.length
  · refine .inr ⟨wk.goes i H2 (by rw [hl]; exact hlt) ⟨_, R'.AOk, g'⟩, Pv (i + 1), fun H' p' => ⟨F.length - (i + 1), by omega, rfl, hlt, p'⟩, fun x H3 y => ?_⟩
    obtain ⟨s3, d, ed, hd⟩ := src.yields _ i H2 x H3 R'.AOk (by rw [hl]; exact hlt) g' y
    have edc : d = .str (sg F[i]) := by
      have : (sgs ⟨F.toArray⟩)[i]? = some (.str (sg F[i])) := by
        unfold sgs
        rw [List.getElem?_map]
        simp [hlt]
      rw [this] at ed
      exact (Option.some.inj ed).symm
    have R3 := (R'.same' s3).wipe [5] (by
      intro v hv s d e
      rw [List.mem_singleton.mp hv] at e
      cases e
      exact fun z => nomatch z)
    refine ⟨_, os, _, d, R3, hd, fun os4 σ4 H4 R4 k4 s4 o4 => ⟨wipe_off o4 (by simp), ⟨_, os4, _, R4, fun H5 s5 => ?_⟩⟩⟩
    simp only [if_true]
    refine ⟨_, os4, _, R4.same' s5, fun vy H6 s6 h6 p np => ?_⟩
    have evy : vy = .str (sg F[i]) := by
      rw [edc] at h6
      unfold Rep at h6
      exact h6
    have s26 : Same H2 H6 := ((s3.trans s4).trans s5).trans s6
    have R6 : Rel X.K ⟨A1, Fm0.H0, Fm0.io⟩ os r0 σ H6 := R'.same' s26
    have hB6 : H6 B = some (.dK bk) := s26 _ _ hBd
    have pB : p ≠ B := fun z => by rw [z, hB6] at np; cases np
    have R7 := R6.ext (p := p) (o := .dK []) np rfl
    obtain ⟨R8, k8⟩ := R7.updA (p := B) (o := .dK (putK bk (.inr (sg F[i])) (.ref p))) (.inl hB1) rfl FB
    have hpH : H p = none := (sm.trans s26).free np
    have tk : F.take (i + 1) = F.take i ++ [F[i]] := by rw [List.take_add_one, List.getElem?_eq_getElem hlt]; rfl
    have old : ∀ e ∈ F.take i, e ≠ F[i] → ad e ≠ p := fun e he _ z => by
      have := s26 _ _ (hc e he).2.2.2.1
      rw [z, np] at this
      cases this
    refine ⟨bk, .inr (sg F[i]), evy, by rw [upd_ne pB.symm]; exact hB6, by rw [sizeLine_eq]; omega, Ad A1 p, putK bk (.inr (sg F[i])) (.ref p), fun e => if e = F[i] then p else ad e, R8, fun a h => .inl (hA a h), ((kp.trans (Keep.of s26)).trans (kext np)).trans k8, .inl hB1, upd_same, ?_, src.keep _ _ _ _ R7.AOk k8 (src.keep _ _ _ _ R6.AOk (kext np) (src.keep _ _ _ _ R'.AOk (Keep.of s26) g')), ?_, ?_, ?_⟩
    · have : (putK bk (.inr (sg F[i])) (.ref p)).length ≤ bk.length + 1 := by
        unfold putK
        split <;> simp
      omega
    · intro b o e
      have e6 := s26 _ _ (sm _ _ e)
      rw [upd_ne (fun z => by rw [z, hBH] at e; cases e), upd_ne (ne_of_none e6 np)]
      exact e6
    · intro e he
      rw [tk] at he
      by_cases z : e = F[i]
      · simp only [if_pos z]
        refine ⟨.inr rfl, hpH, pB, by rw [upd_ne pB, upd_same], ?_⟩
        rw [z, valV_put, if_pos rfl]
      · simp only [if_neg z]
        have hm : e ∈ F.take i := (List.mem_append.mp he).resolve_right fun q => z (List.mem_singleton.mp q)
        obtain ⟨q1, q2, q3, q4, q5⟩ := hc e hm
        refine ⟨.inl q1, q2, q3, by rw [upd_ne q3, upd_ne (old e hm z)]; exact s26 _ _ q4, ?_⟩
        rw [valV_put, if_neg (fun w => z (by have := Sum.inr.inj w; have := congrArg (fun s : Str => s.cps.toList) this; simpa using this))]
        exact q5
    · intro e he e' he' q
      rw [tk] at he he'
      by_cases z : e = F[i]
      · by_cases z' : e' = F[i]
        · rw [z, z']
        · simp only [if_pos z, if_neg z'] at q
          exact absurd q.symm (old e' ((List.mem_append.mp he').resolve_right fun q => z' (List.mem_singleton.mp q)) z')
      · by_cases z' : e' = F[i]
        · simp only [if_pos z', if_neg z] at q
          exact absurd q (old e ((List.mem_append.mp he).resolve_right fun q => z (List.mem_singleton.mp q)) z)
        · simp only [if_neg z, if_neg z'] at q
          exact hj e ((List.mem_append.mp he).resolve_right fun q => z (List.mem_singleton.mp q)) e' ((List.mem_append.mp he').resolve_right fun q => z' (List.mem_singleton.mp q)) q
  · have e : i = F.length := by omega
    subst e
    refine .inl ⟨by have := wk.stops H2 ⟨_, R'.AOk, g'⟩; rw [hl] at this; exact this, k A1 B bk ad H2 R' hA kp hB1 (fun z => R.notIn hBH (.inl z)) FB (fun c hcm => ?_) (fun c hcm d hdm => ?_) hBd⟩
    · obtain ⟨q1, q2, q3, q4, q5⟩ := hc c (by rw [List.take_length]; exact hcm)
      exact ⟨q1, fun z => R.notIn q2 (.inl z), F0 R (Same.refl H) q2, q3, q4, q5⟩
    · exact hj c (by rw [List.take_length]; exact hcm) d (by rw [List.take_length]; exact hdm)
end DL

end
section
namespace DL
open PySem L2
open Classical in
theorem og_step {X : Cx} {W : WX} {Fm0 : Fm} {A1 : Addr → Prop} {os : List (Option Addr)} {σ : St} {H : Hp} {D : Ends} {tix : TE} {t12 : TS} {f12 : Env → R Fl} (F : List Nat) {B : Addr} {bk : List (Key × V)} {ad : Nat → Addr} {M : Nat → List (Nat × Nat)} {rows : List DL.D} {rw : DL.D} {m' : List (Nat × Nat)} {p c0 : Nat}
    (hc0 : c0 ∈ F)
    (wix : ∀ (F : Fm) (os : List (Option Addr)) (r : Env) (σ : St) (H : Hp) (Q : VK), Rel X.K F os r σ H → Sat (fun d => ∀ v H', Same H H' → RepB X.K H' (Av F.A0 os) d v → Q v H') (Er X W F) (bin ixD (gAny 0) (gAny 3) r) → tix σ H Q)
    (w12 : ∀ (F : Fm) (os : List (Option Addr)) (r : Env) (σ : St) (H : Hp) (D : Ends), Rel X.K F os r σ H → Sat (SPost X.K F os H D) (Er X W F) (f12 r) → t12 D σ H)
    (R : Rel X.K ⟨A1, Fm0.H0, Fm0.io⟩ os [.sh (.str ⟨F.toArray⟩), .sh (.ref B), .own (.lst rows), .sh (.int (p : Nat)), .un, .un] σ H)
    (hB : A1 B ∧ (Fm0.H0 B = none ∨ Fm0.io B)) (hc : ∀ c ∈ F, A1 (ad c) ∧ (Fm0.H0 (ad c) = none ∨ Fm0.io (ad c)) ∧ ad c ≠ B ∧ valV bk (.inr (sg c)) = some (.ref (ad c))) (hj : ∀ c ∈ F, ∀ d ∈ F, ad c = ad d → c = d) (hBk : H B = some (.dK bk)) (hM : ∀ c ∈ F, H (ad c) = some (.dK (vsI (M c))))
    (hix : bin ixD (gAny 0) (gAny 3) [.sh (.str ⟨F.toArray⟩), .sh (.ref B), .own (.lst rows), .sh (.int (p : Nat)), .un, .un] = .ok (.str (sg c0)))
    (hstep : f12 [.sh (.str ⟨F.toArray⟩), .sh (.ref B), .own (.lst rows), .sh (.int (p : Nat)), .io (.dct (kvI (M c0))), .un] = .ok (.nx [.sh (.str ⟨F.toArray⟩), .sh (.ref B), .own (.lst (rows ++ [rw])), .sh (.int (p : Nat)), .io (.dct (kvI m')), .un]))
    (k : ∀ os' σ' H', Rel X.K ⟨A1, Fm0.H0, Fm0.io⟩ os' [.sh (.str ⟨F.toArray⟩), .sh (.ref B), .own (.lst (rows ++ [rw])), .sh (.int (p : Nat)), .un, .un] σ' H' → Keep (Av A1 os) (Av A1 os') H H' → H' B = some (.dK bk) → (∀ c ∈ F, H' (ad c) = some (.dK (vsI (if c = c0 then m' else M c)))) → D.nx σ' H') :
    tSeq (tAsg (tDGet (tVar 1) tix) (gName 4)) t12 D σ H := by
  obtain ⟨v1, o1, e1, _, _, u1, eu1, h1⟩ := R.get (i := 1) rfl
  unfold Rep at h1
  subst h1
  subst eu1
  refine ⟨_, e1, wix _ os _ σ H _ R ?_⟩
  rw [hix]
  intro v H1 s hv
  have ev : v = .str (sg c0) := hv.str
  subst ev
  obtain ⟨q1, q2, q3, q4⟩ := hc c0 hc0
  have hB1 : H1 B = some (.dK bk) := s _ _ hBk
  refine ⟨B, .ref (ad c0), rfl, .inl ⟨bk, .inr (sg c0), .inl hB1, rfl, q4.symm⟩, ?_⟩
  have R1 := R.same' s
  have hlen : 4 < σ.length := by rw [R.lens]; simp
  have R2 := R1.setUn (i := 4) (v := some (.ref (ad c0))) rfl
  have sp4 : os[4]? = some none := by
    obtain ⟨v', o', _, e5, q⟩ := R.get (i := 4) rfl
    rw [e5]
    exact congrArg some q
  let spec : Addr → Prop := fun b => b = B ∨ ∃ c ∈ F, c ≠ c0 ∧ b = ad c
  let H0' : Hp := fun b => if spec b then H1 b else if Fm0.io b then none else Fm0.H0 b
  have specA : ∀ b, spec b → A1 b := fun b z => by
    rcases z with z | ⟨c, hcm, _, z⟩
    · rw [z]; exact hB.1
    · rw [z]; exact (hc c hcm).1
  have specN : ∀ b, spec b → b ≠ ad c0 := fun b z => by
    rcases z with z | ⟨c, hcm, nc, z⟩
    · rw [z]; exact q3.symm
    · rw [z]; exact fun w => nc (hj c hcm c0 hc0 w)
  have specF : ∀ b, spec b → Fm0.H0 b = none ∨ Fm0.io b := fun b z => by
    rcases z with z | ⟨c, hcm, _, z⟩
    · rw [z]; exact hB.2
    · rw [z]; exact (hc c hcm).2.1
  have specH : ∀ b, spec b → ∃ o, H1 b = some o := fun b z => by
    rcases z with z | ⟨c, hcm, _, z⟩
    · rw [z]; exact ⟨_, hB1⟩
    · rw [z]; exact ⟨_, s _ _ (hM c hcm)⟩
  have noio : ∀ (i : Nat) (d : DL.D), ([.sh (.str ⟨F.toArray⟩), .sh (.ref B), .own (.lst rows), .sh (.int (p : Nat)), .un, .un] : Env)[i]? ≠ some (.io d) := by
    intro i d e
    match i with
    | 0 => cases e
    | 1 => cases e
    | 2 => cases e
    | 3 => cases e
    | 4 => cases e
    | 5 => cases e
    | n + 6 => cases e
  have R3 : Rel X.K ⟨A1, H0', fun b => b = ad c0⟩ os _ _ H1 := R2.base2 (H0 := H0') (io := fun b => b = ad c0) noio (fun b o e nb => by
    by_cases z : spec b
    · have : H0' b = H1 b := if_pos z
      rw [← this]; exact e
    · have e2 : H0' b = if Fm0.io b then none else Fm0.H0 b := if_neg z
      rw [e2] at e
      by_cases w : Fm0.io b
      · rw [if_pos w] at e; cases e
      · rw [if_neg w] at e
        exact R1.same b o e w) (fun i a e => .inl (by
    have nA : ¬ A1 a := R1.out i a e
    have z : ¬ spec a := fun z => nA (specA a z)
    have e2 : H0' a = if Fm0.io a then none else Fm0.H0 a := if_neg z
    rw [e2]
    by_cases w : Fm0.io a
    · rw [if_pos w]
    · rw [if_neg w]
      exact (R1.new i a e).resolve_right w))
  let A2 : Addr → Prop := fun b => A1 b ∧ b ≠ ad c0
  have hA2 : ∀ b, A1 b ↔ A2 b ∨ b = ad c0 := fun b => by
    constructor
    · intro z
      by_cases w : b = ad c0
      · exact .inr w
      · exact .inl ⟨z, w⟩
    · rintro (z | z)
      · exact z.1
      · rw [z]; exact q1
  have R4 := Rel.showIo (F := ⟨A2, H0', fun b => b = ad c0⟩) (a := ad c0) (i := 4) (d := .dct (kvI (M c0))) R3 hA2 (fun z => z.2 rfl) rfl (by rw [List.getElem?_set_self hlen]) ⟨_, s _ _ (hM c0 hc0), repK_I _⟩ rfl
  refine w12 _ _ _ _ H1 D R4 ?_
  show Sat _ _ (f12 [.sh (.str ⟨F.toArray⟩), .sh (.ref B), .own (.lst rows), .sh (.int (p : Nat)), .io (.dct (kvI (M c0))), .un])
  rw [hstep]
  intro os' σ' H2 R5 k5
  obtain ⟨v', o', e4, e5, a', ho, hv', hrep, hio⟩ := R5.get (i := 4) rfl
  have hio : a' = ad c0 := hio
  subst hio
  subst ho
  have sameS : ∀ b o, spec b → H1 b = some o → H2 b = some o := fun b o z e => R5.same b o (by
    have : H0' b = H1 b := if_pos z
    show H0' b = some o
    rw [this]; exact e) (specN b z)
  have R6 := R5.hide (i := 4) e5
  have noio2 : ∀ (i : Nat) (d : DL.D), (([.sh (.str ⟨F.toArray⟩), .sh (.ref B), .own (.lst (rows ++ [rw])), .sh (.int (p : Nat)), .io (.dct (kvI m')), .un] : Env).set 4 .un)[i]? ≠ some (.io d) := by
    intro i d e
    match i with
    | 0 => cases e
    | 1 => cases e
    | 2 => cases e
    | 3 => cases e
    | 4 => cases e
    | 5 => cases e
    | n + 6 => cases e
  have R7 := R6.base2 (H0 := Fm0.H0) (io := Fm0.io) noio2 (fun b o e nb => by
    by_cases z : spec b
    · rcases specF b z with w | w
      · rw [w] at e; cases e
      · exact absurd w nb
    · by_cases w : b = ad c0
      · rcases q2 with y | y
        · rw [w, y] at e; cases e
        · rw [← w] at y; exact absurd y nb
      · refine R6.same b o ?_ w
        have e2 : H0' b = if Fm0.io b then none else Fm0.H0 b := if_neg z
        show H0' b = some o
        rw [e2, if_neg nb]
        exact e) (fun i a e => by
    have n6 := R6.new i a e
    by_cases z : spec a
    · exact specF a z
    · by_cases w : Fm0.io a
      · exact .inr w
      · rcases n6 with n6 | n6
        · have e2 : H0' a = if Fm0.io a then none else Fm0.H0 a := if_neg z
          have n6 : H0' a = none := n6
          rw [e2, if_neg w] at n6
          exact .inl n6
        · have : a = ad c0 := n6
          rw [this]
          exact q2)
  have R8 : Rel X.K ⟨A1, Fm0.H0, Fm0.io⟩ _ _ σ' H2 := Rel.less (F := ⟨A1, Fm0.H0, Fm0.io⟩) R7 fun a z => (hA2 a).mp z
  refine k _ _ _ R8 (fun b o eb nb => ?_) (sameS B _ (.inl rfl) hB1) fun c hcm => ?_
  · have nb1 : ¬ Av A2 (os.set 4 (some (ad c0))) b := fun z => by
      rcases z with z | z
      · exact nb (.inl z.1)
      · rcases mem_set_cases z with z | z
        · exact nb (.inr z)
        · cases z
          exact nb (.inl q1)
    obtain ⟨e6, n6⟩ := k5 b o (s _ _ eb) nb1
    refine ⟨e6, fun z => ?_⟩
    rcases z with z | z
    · exact nb (.inl z)
    · rcases mem_set_cases z with z | z
      · exact n6 (.inr z)
      · cases z
  · by_cases z : c = c0
    · rw [if_pos z, z]
      obtain ⟨vs, e7, rk⟩ := hrep
      rw [repK_I' rk] at e7
      exact e7
    · rw [if_neg z]
      exact sameS _ _ (.inr ⟨c, hcm, z, rfl⟩) (s _ _ (hM c hcm))
end DL

end
section
namespace DL
open PySem L2
def okF (F : List Nat) : Bool := decide (F ≠ []) && (decide (F.length ≤ 200) && F.all fun c => decide (97 ≤ c ∧ c ≤ 104))
def bOg (ft : Env → R Fl) : Env → R Fl := fun r => match r with
  | [.sh (.str x), .un, .un, .un, .un, .un] => if okF x.cps.toList = true then ft [.sh (.str x), .un, .own (.lst (ogR x.cps.toList x.cps.toList.length)), .sh (.int 0), .un, .un] else .stk
  | _ => .stk
theorem og_body {X : Cx} {W : WX} {s0 s1 b0 b1 b2 : Stmt} {tail : List Stmt} {tg iter ixe e1 : Expr} {fpos : Pos} {ks : List Nat} {f12 ft : Env → R Fl}
    (h0 : PS X s0 (tAsg (tDc (cIp X.K X.mg W (itX zD (gSh 0))) (cG X.K X.mg WF [5] (gSet 5)) (cTp X.K X.mg WF yesB) (cP X.K X.mg WF (gSh 5)) tDNewK [5]) (gName 1)))
    (h1 : ∀ t, PE X e1 t → PS X s1 (tAsg t (gName 2))) (hl1 : DF X W e1 (mkL aNil))
    (hp : PassesOwn (model X.prog X.w) X.A X.env X.xe) (hcal : X.calm = true) (hi : DIp X W tg iter (itX (rvR (.int 0)) (appN lenD (aCons (gAny 0) aNil)))) (hg : DG X W ks tg (gSet 3))
    (hx : DB X W ixe (bin ixD (gAny 0) (gAny 3))) (hb0 : ∀ t, PE X ixe t → PS X b0 (tAsg (tDGet (tVar 1) t) (gName 4))) (hb : DSs X W [b1, b2] f12) (ht : DSs X W tail ft)
    (hs : ∀ x, foldedSetIterable iter X.env x = pure x)
    (hix : ∀ (F : List Nat) (B : Addr) (rows : List D) (p c0 : Nat), okF F = true → F[p]? = some c0 → bin ixD (gAny 0) (gAny 3) [.sh (.str ⟨F.toArray⟩), .sh (.ref B), .own (.lst rows), .sh (.int (p : Nat)), .un, .un] = .ok (.str (sg c0)))
    (hitems : ∀ (F : List Nat) (B : Addr), okF F = true → itX (rvR (.int 0)) (appN lenD (aCons (gAny 0) aNil)) [.sh (.str ⟨F.toArray⟩), .sh (.ref B), .own (.lst []), .un, .un, .un] = .ok ((List.range F.length).map fun i => D.int ((F.length - 1 - i : Nat) : Int)))
    (hstep : ∀ (F : List Nat) (B : Addr) (i : Nat), okF F = true → i < F.length → f12 [.sh (.str ⟨F.toArray⟩), .sh (.ref B), .own (.lst (ogR F i)), .sh (.int ((F.length - 1 - i : Nat) : Int)), .io (.dct (kvI (ogM F i (F.getD (F.length - 1 - i) 0)))), .un] =
      .ok (.nx [.sh (.str ⟨F.toArray⟩), .sh (.ref B), .own (.lst (ogR F i ++ [rowD (ogM F (i + 1) (F.getD (F.length - 1 - i) 0))])), .sh (.int ((F.length - 1 - i : Nat) : Int)), .io (.dct (kvI (ogM F (i + 1) (F.getD (F.length - 1 - i) 0)))), .un])) :
    DSs X W (s0 :: s1 :: .For tg iter [b0, b1, b2] [] fpos :: tail) (bOg ft) := by
  obtain ⟨ti, pi, wi⟩ := hi
  obtain ⟨tG, pg, wg⟩ := hg
  obtain ⟨tl, pl, wl⟩ := hl1
  obtain ⟨tx, px, wx⟩ := hx
  obtain ⟨tb, pb, wb⟩ := hb
  obtain ⟨tt, pt, wt⟩ := ht
  refine ⟨_, pss_cons h0 (pss_cons (h1 _ pl) (pss_cons (ps_for hp hcal pi pg (pss_cons (hb0 _ px) pb) hs) pt)), fun Fm0 os r σ H D R S => ?_⟩
  unfold bOg at S
  split at S
  · rename_i x
    by_cases ok : okF x.cps.toList = true
    · rw [if_pos ok] at S
      generalize hF : x.cps.toList = F at ok S
      have ex : x = ⟨F.toArray⟩ := by
        cases x
        rw [← hF]
      subst ex
      have ok0 := ok
      unfold okF at ok0
      obtain ⟨o1, o2⟩ := Bool.and_eq_true_iff.mp ok0
      obtain ⟨o2, o3⟩ := Bool.and_eq_true_iff.mp o2
      have o1 := of_decide_eq_true o1
      have o2 := of_decide_eq_true o2
      have npos : 0 < F.length := List.length_pos_iff.mpr o1
      refine og_init (W := W) (Q := fun v H1 => tSeq (tAsg tl (gName 2)) (tSeq (tFor ti tG (tSeq (tAsg (tDGet (tVar 1) tx) (gName 4)) tb)) tt) D (σ.set 1 (some v)) H1) F o2 R fun A1 B bk ad H1 R1 hA kp hB nB fB hc hj hBk => ?_
      obtain ⟨R2, k2⟩ := R1.setSh (i := 1) (d := .ref B) (v := .ref B) (by unfold Rep; rfl)
      refine wl _ _ _ _ H1 _ R2 ?_
      show ∀ p H', Same H1 H' → H1 p = none → RepO X.K H' _ (.lst []) p → _
      intro p H2 s2 n2 rp2
      obtain ⟨R3, k3⟩ := R2.setOwn (i := 2) s2 n2 rp2
      refine wi _ _ _ _ H2 _ R3 ?_
      show Sat _ _ (itX (rvR (.int 0)) (appN lenD (aCons (gAny 0) aNil)) [.sh (.str ⟨F.toArray⟩), .sh (.ref B), .own (.lst []), .un, .un, .un])
      rw [hitems F B ok]
      intro J H3 G src s3 g3
      have wk := walk_src src
      rw [List.length_map, List.length_range] at wk
      have R4 := R3.same' s3
      have cK := (((kp.trans k2).trans k3).trans (Keep.of s3))
      refine for_it wk (fun i σ' H' => ∃ os' x3, Rel X.K ⟨A1, Fm0.H0, Fm0.io⟩ os' [.sh (.str ⟨F.toArray⟩), .sh (.ref B), .own (.lst (ogR F i)), x3, .un, .un] σ' H' ∧ Keep (Av Fm0.A0 os) (Av A1 os') H H' ∧ H' B = some (.dK bk) ∧ (∀ c ∈ F, H' (ad c) = some (.dK (vsI (ogM F i c)))) ∧ G (Av A1 os') H' ∧ (i = F.length → x3 = .sh (.int 0)))
        ⟨_, _, R4, cK, s3 _ _ (s2 _ _ hBk), fun c hcm => s3 _ _ (s2 _ _ (hc c hcm).2.2.2.2.1), g3, fun z => by omega⟩ ?_ ?_ ?_
      · rintro i σ' H' hi ⟨os', x3, R', _, _, _, g', _⟩
        exact ⟨_, R'.AOk, g'⟩
      · rintro i xv σ' H4 H5 hi ⟨os', x3, R', k', hB', hM', g', _⟩ ⟨_, y⟩
        obtain ⟨s5, d, ed, hd⟩ := src.yields _ i H4 xv H5 R'.AOk (by rw [List.length_map, List.length_range]; exact hi) g' y
        have edd : d = .int ((F.length - 1 - i : Nat) : Int) := by
          rw [List.getElem?_map, List.getElem?_range hi] at ed
          exact (Option.some.inj ed).symm
        subst edd
        have R5 := R'.same' s5
        refine wg _ os' _ σ' H5 xv _ _ R5 hd ?_
        show ∀ os4 σ4 H6, _ → _ → _ → _ → _
        intro os4 σ4 H6 R6 k6 s6 _
        have R6 : Rel X.K ⟨A1, Fm0.H0, Fm0.io⟩ os4 [.sh (.str ⟨F.toArray⟩), .sh (.ref B), .own (.lst (ogR F i)), .sh (.int ((F.length - 1 - i : Nat) : Int)), .un, .un] σ4 H6 := R6
        have hp : F.length - 1 - i < F.length := by omega
        have hc0 : F[F.length - 1 - i]? = some (F.getD (F.length - 1 - i) 0) := by rw [List.getD_eq_getElem?_getD, List.getElem?_eq_getElem hp]; rfl
        have g6 := src.keep _ _ _ _ R'.AOk ((Keep.of s5).trans k6) g'
        refine og_step (Fm0 := Fm0) (os := os4) (M := ogM F i) (m' := ogM F (i + 1) (F.getD (F.length - 1 - i) 0)) (rw := rowD (ogM F (i + 1) (F.getD (F.length - 1 - i) 0))) F (List.mem_of_getElem? hc0) wx wb R6 ⟨hB, fB⟩ (fun c hcm => ?_) hj (s6 _ _ (s5 _ _ hB')) (fun c hcm => s6 _ _ (s5 _ _ (hM' c hcm))) (hix F B _ _ _ ok hc0) (hstep F B i ok hi) fun os7 σ7 H7 R7 k7 b7 m7 => ?_
        · obtain ⟨q1, q2, q3, q4, q5, q6⟩ := hc c hcm
          exact ⟨q1, q3, q4, q6⟩
        · refine ⟨os7, _, R7, ((k'.trans (Keep.of s5)).trans k6).trans k7, b7, fun c hcm => ?_, src.keep _ _ _ _ R6.AOk k7 g6, fun z => ?_⟩
          · rw [m7 c hcm]
            by_cases z : c = F.getD (F.length - 1 - i) 0
            · rw [if_pos z, z]
            · rw [if_neg z]
              show _ = some (HO.dK (vsI (if c = F.getD (F.length - 1 - i) 0 ∧ F.length - 1 - i + 1 < F.length then _ else ogM F i c)))
              rw [if_neg fun w => z w.1]
          · have : F.length - 1 - i = 0 := by omega
            rw [this]
            rfl
      · rintro σ' H' ⟨os', x3, R', k', hB', hM', g', hx3⟩
        rw [hx3 rfl] at R'
        have Rf := (Rel.less (F := Fm0) R' hA).forget (i := 1) rfl
        refine wt Fm0 os' _ σ' H' D Rf (S.imp fun fl q => q.from fun b o eb nb => ?_)
        obtain ⟨z1, z2⟩ := k' b o eb nb
        refine ⟨z1, fun z => z2 ?_⟩
        rcases z with z | z
        · exact .inl (hA b z)
        · exact .inr z
    · rw [if_neg ok] at S
      exact S.elim
  · exact S.elim
end DL

end
section
namespace DL
open PySem L2
/-! ### name = {k: v for ..} on one line -/
theorem og_hu {X : Cx} {k : Nat} (hr : Room k X.A) : X.A.units + 1 < cLine := by
  have := hr.units
  omega
theorem ps_setDc {X : Cx} {i : Nat} {y : Str} {py : Pos} {kx vx tg iter : Expr} {ifs : List Expr} {scope : Scope} {own : List (Str × Nat)} {pos spos : Pos} {wi : TI} {g : TG} {tt : TT} {tk tv : TE} (hc : X.calm = true) (hN : X.N.Nodup) (hy : X.N[i]? = some y) (hyl : X.env.scope.names.lookup y = some .local)
    (hsw : swapsWith (.DictComp kx vx [⟨tg, iter, ifs, 0⟩] scope pos) (some (.Name y py)) spos.line X.env = pure true) (hi : PI X tg iter wi) (ok : BlkOk X.N X.env.scope scope own)
    (hg : ∀ (s : Shared) (H : Hp) (C : Addr) (cl : List (Str × Addr)) (fp : List Addr), PG (X.blk s H scope (compEnvC scope cl C X.env) fp) tg g) (ht : ∀ (s : Shared) (H : Hp) (C : Addr) (cl : List (Str × Addr)) (fp : List Addr), PTs (X.blk s H scope (compEnvC scope cl C X.env) fp) ifs tt)
    (hk : ∀ (s : Shared) (H : Hp) (C : Addr) (cl : List (Str × Addr)) (fp : List Addr), PE (X.blk s H scope (compEnvC scope cl C X.env) fp) kx tk) (he : ∀ (s : Shared) (H : Hp) (C : Addr) (cl : List (Str × Addr)) (fp : List Addr), PE (X.blk s H scope (compEnvC scope cl C X.env) fp) vx tv)
    (hs : ∀ x, foldedSetIterable iter X.env x = pure x := by intro _; rfl) :
    PS X (.Assign [.Name y py] (.DictComp kx vx [⟨tg, iter, ifs, 0⟩] scope pos) spos) (tAsg (tDc wi g tt tk tv (own.map (·.2))) (gName i)) := by
  constructor
  intro pins s σ H D I h
  rw [exec_Assign_Name_used _ _ _ _ hsw]
  refine wpAny_bind (wpAny_standAt (wpAny_bind ?_))
  have h' : tDc wi g tt tk tv (own.map (·.2)) σ H (fun x H1 => gName i x σ H1 D.nx) := h
  refine wpAny_bind (thn (dc_core (Qf := fun _ s' => SP X pins D .next s') hc hN I hi ok hg ht hk he hs h' fun L C s' m H' I' q hn f => ?_) fun _ s' hq => wpAny_pure (wpAny_pure hq))
  obtain ⟨f0, f1, f2, f3, f4, f5⟩ := f
  refine wpAny_assign_Name (store_ok2 (v := V.ref L) I' hN hy (.inl hyl) rfl (fun s2 I2 ⟨a, sb, ha⟩ => ?_) (.inr hyl))
  have haC : C ≠ a := ha.elim (fun z => by rw [z]; exact f1) fun z e => f4 y a z e.symm
  exact ⟨m, hn.sameBut sb haC, fun h3 sb3 => ⟨_, H', I2.turned (t' := s2.toks) (fun b o hb e => (sb3.2 b hb).trans e) f0 f1 f3 f4 f5, q⟩⟩
section
variable {X : Cx} {W : WX} {kx vx tg iter : Expr} {ifs : List Expr} {scope : Scope} {own : List (Str × Nat)} {pos spos : Pos} {ks : List Nat} {h : Env → R (List D)} {g : D → Env → R Env} {c : Env → R Bool} {fk fv : Env → R D} {y : Str} {py : Pos}
end
end DL

end
section
namespace DL
open PySem L2
/-! ### texts compared -/
def ltSD : D → D → Option D
  | .str x, .str y => some (.bl (decide (x.cps.toList < y.cps.toList)))
  | _, _ => none
theorem o_ltS {X : Cx} : Op2 X (fun x y H Q => ∃ i j, x = .str i ∧ y = .str j ∧ Q (.bl (decide (i.cps.toList < j.cps.toList))) H) ltSD := by
  intro A H x y v w d Q ak e hx hy q
  cases x with
  | str i =>
    cases y with
    | str j =>
      cases e
      exact ⟨i, j, hx.str, hy.str, q _ H (Same.refl H) rep_bl⟩
    | _ => cases e
  | _ => cases e
end DL

end
section
namespace DL
open PySem L2
theorem addS_tx {l m : List Nat} (h : l.length ≤ 1000) (h2 : m.length ≤ 1000) : addSD (tx l) (tx m) = some (tx (l ++ m)) := by
  show (if (mkS l).length + (mkS m).length ≤ sizeLine then some (D.str (mkS l ++ mkS m)) else none) = _
  rw [if_pos (by rw [str_len, str_len, sizeLine_eq]; omega), str_app]
  rfl
/-! ### comprehensions over a known list -/
section
variable {α : Type}
theorem lcP_map {g : D → Env → R Env} {c : Env → R Bool} {f : Env → R D} {r0 : Env} (E : α → Env) (φ ψ : α → D) (p : α → Bool) : ∀ (L : List α), (∀ x ∈ L, g (φ x) r0 = .ok (E x) ∧ c (E x) = .ok (p x) ∧ (p x = true → f (E x) = .ok (ψ x))) →
    lcP g c f r0 (L.map φ) = .ok ((L.filter p).map ψ)
  | [], _ => rfl
  | x :: L, h => by
    obtain ⟨e1, e2, e3⟩ := h x List.mem_cons_self
    have ih := lcP_map (g := g) (c := c) (f := f) (r0 := r0) E φ ψ p L fun y hy => h y (List.mem_cons_of_mem _ hy)
    rw [List.map_cons]
    unfold lcP
    rw [e1]
    simp only [R.ne, R.bind]
    rw [e2]
    simp only [R.bind]
    cases hp : p x with
    | false => simp only [Bool.false_eq_true, if_false, List.filter_cons, hp]; exact ih
    | true =>
      simp only [if_true, List.filter_cons, hp]
      rw [e3 hp]
      simp only [R.bind]
      rw [ih]
      rfl
/-- [f for x in L if c], the target of any form -/
theorem lcA {g : D → Env → R Env} {c : Env → R Bool} {f : Env → R D} {own : List (Str × Nat)} {h : Env → R (List D)} {r : Env} (L : List α) (φ ψ : α → D) (p : α → Bool) (E : α → Env) (hn : noOwn (own.map (·.2)) r = true) (hi : h r = .ok (L.map φ)) (hl : L.length ≤ 1000000)
    (hg : ∀ x, g (φ x) (wipeE r (own.map (·.2))) = .ok (E x)) (hx : ∀ x ∈ L, c (E x) = .ok (p x) ∧ (p x = true → f (E x) = .ok (ψ x))) : lcD own h g c f r = .ok (.lst ((L.filter p).map ψ)) := by
  unfold lcD
  rw [if_pos hn]
  unfold lcV
  rw [hi]
  simp only [R.bind]
  rw [if_pos (by rw [List.length_map, sizeLine_eq]; omega), lcP_map E φ ψ p L fun x m => ⟨hg x, hx x m⟩]
/-- [f for x in L] -/
theorem lcY {g : D → Env → R Env} {f : Env → R D} {own : List (Str × Nat)} {h : Env → R (List D)} {r : Env} (L : List α) (φ ψ : α → D) (E : α → Env) (hn : noOwn (own.map (·.2)) r = true) (hi : h r = .ok (L.map φ)) (hl : L.length ≤ 1000000)
    (hg : ∀ x, g (φ x) (wipeE r (own.map (·.2))) = .ok (E x)) (hx : ∀ x ∈ L, f (E x) = .ok (ψ x)) : lcD own h g yesB f r = .ok (.lst (L.map ψ)) := by
  have := lcA (c := yesB) L φ ψ (fun _ => true) E hn hi hl hg fun x m => ⟨rfl, fun _ => hx x m⟩
  rw [List.filter_eq_self.mpr (fun _ _ => rfl)] at this
  exact this
/-- [f for x in L for y in M x if c] -/
theorem lc2A {β : Type} {own : List (Str × Nat)} {h : Env → R (List D)} {g : D → Env → R Env} {h1 : Env → R (List D)} {vs1 : List Nat} {g1 : D → Env → R Env} {c1 : Env → R Bool} {f : Env → R D} {r : Env} (L : List α) (M : α → List β) (φ : α → D) (χ : β → D) (ψ : α → β → D) (p : α → β → Bool) (E : α → Env) (E1 : α → β → Env)
    (hn : noOwn (own.map (·.2)) r = true) (hi : h r = .ok (L.map φ)) (hl : (L.flatMap fun x => (M x).filter (p x)).length ≤ 1000000)
    (hg : ∀ x, g (φ x) (wipeE r (own.map (·.2))) = .ok (E x)) (hn1 : ∀ x, noOwn vs1 (E x) = true) (hi1 : ∀ x ∈ L, h1 (E x) = .ok ((M x).map χ)) (hg1 : ∀ x y, g1 (χ y) (wipeE (E x) vs1) = .ok (E1 x y))
    (hx : ∀ x ∈ L, ∀ y ∈ M x, c1 (E1 x y) = .ok (p x y) ∧ (p x y = true → f (E1 x y) = .ok (ψ x y))) :
    lc2D own h g yesB h1 vs1 g1 c1 f r = .ok (.lst (L.flatMap fun x => ((M x).filter (p x)).map (ψ x))) := by
  have key : ∀ l : List α, (∀ x ∈ l, x ∈ L) → lc2P g yesB h1 vs1 g1 c1 f (wipeE r (own.map (·.2))) (l.map φ) = .ok (l.flatMap fun x => ((M x).filter (p x)).map (ψ x)) := by
    intro l
    induction l with
    | nil => intro _; rfl
    | cons x l ih =>
      intro hm
      have m1 := hm x List.mem_cons_self
      rw [List.map_cons]
      unfold lc2P
      rw [hg x]
      simp only [R.ne, R.bind, yesB, if_true]
      rw [hi1 x m1]
      simp only [R.bind]
      rw [if_pos (hn1 x), lcP_map (E1 x) χ (ψ x) (p x) (M x) fun y hy => ⟨hg1 x y, hx x m1 y hy⟩]
      simp only [R.bind]
      rw [ih fun z hz => hm z (List.mem_cons_of_mem _ hz)]
      simp only [R.bind, List.flatMap_cons]
  unfold lc2D
  rw [if_pos hn, hi]
  simp only [R.bind]
  rw [key L fun _ h => h]
  simp only [R.ne, R.bind]
  have e : (L.flatMap fun x => ((M x).filter (p x)).map (ψ x)).length = (L.flatMap fun x => (M x).filter (p x)).length := by
    simp [List.length_flatMap]
  rw [if_pos (by rw [e, sizeLine_eq]; omega)]
/-- a loop over L: the state t by turns, slot k the item -/
theorem for_go {τ : Type} {b : Env → R Fl} {g : D → Env → R Env} (φ : α → D) (E : τ → Slot → Env) (I : Nat → τ → Prop) : ∀ (L : List α) (i : Nat) (t : τ) (s : Slot), (∀ t s x, g (φ x) (E t s) = .ok (E t (.sh (φ x)))) → I i t → isOwn (some s) = false →
    (∀ j x t, L[j]? = some x → I (i + j) t → ∃ t', b (E t (.sh (φ x))) = .ok (.nx (E t' (.sh (φ x)))) ∧ I (i + j + 1) t') →
    ∃ t' s', forD g b (L.map φ) (E t s) = .ok (.nx (E t' s')) ∧ I (i + L.length) t' ∧ isOwn (some s') = false
  | [], i, t, s, hg, h0, hs, hb => ⟨t, s, rfl, h0, hs⟩
  | x :: L, i, t, s, hg, h0, hs, hb => by
    obtain ⟨t1, e1, h1⟩ := hb 0 x t rfl h0
    obtain ⟨t2, s2, e2, h2, n2⟩ := for_go (b := b) (g := g) φ E I L (i + 1) t1 (.sh (φ x)) hg h1 rfl fun j y t ej hI => by
      have := hb (j + 1) y t (by simpa using ej) (by rw [← Nat.add_assoc, Nat.add_right_comm]; exact hI)
      rw [← Nat.add_assoc, Nat.add_right_comm i j 1] at this
      exact this
    refine ⟨t2, s2, ?_, by rw [List.length_cons, Nat.add_comm L.length 1, ← Nat.add_assoc]; exact h2, n2⟩
    rw [List.map_cons]
    unfold forD
    rw [hg]
    simp only [R.bind]
    rw [e1]
    exact e2
end
theorem for_run {α τ : Type} {b : Env → R Fl} {g : D → Env → R Env} (φ : α → D) (E : τ → Slot → Env) (I : Nat → τ → Prop) (L : List α) (t : τ) (s : Slot) (hg : ∀ t s x, g (φ x) (E t s) = .ok (E t (.sh (φ x)))) (h0 : I 0 t) (hs : isOwn (some s) = false)
    (hb : ∀ j x t, L[j]? = some x → I j t → ∃ t', b (E t (.sh (φ x))) = .ok (.nx (E t' (.sh (φ x)))) ∧ I (j + 1) t') : ∃ t' s', forD g b (L.map φ) (E t s) = .ok (.nx (E t' s')) ∧ I L.length t' ∧ isOwn (some s') = false := by
  have := for_go (b := b) (g := g) φ E I L 0 t s hg h0 hs fun j x t e hI => by
    rw [Nat.zero_add] at hI ⊢
    exact hb j x t e hI
  rw [Nat.zero_add] at this
  exact this
end DL
namespace DL
open PySem L2
end DL

end
section
namespace PT
/-! ### how few blocks are long -/
def lg (N c : Nat) (G : List Nat → Nat) : List Nat → Nat
  | [] => N
  | a :: t => if a = c then min (lg N c G t) (G t + 1) else lg N c G t
def fb (N c : Nat) (G : List Nat → Nat) : List Nat → Nat
  | [] => N
  | a :: t => if a = c then min (G t) (lg N c G t) else N
def FW (N : Nat) : List Nat → List Nat → Nat
  | [], f => if f = [] then 0 else N
  | c :: g, f => fb N c (FW N g) f
/-- how many blocks of a parting are long -/
def lb : Nat → List Nat → Nat
  | _, [] => 0
  | s, e :: es => (if s < e then 1 else 0) + lb (e + 1) es
theorem lg_le {N c : Nat} {G : List Nat → Nat} : ∀ f, lg N c G f ≤ N
  | [] => Nat.le_refl _
  | a :: t => by
    have := lg_le (N := N) (c := c) (G := G) t
    unfold lg
    split <;> omega
theorem pl_cons {F : List Nat} {c s : Nat} (hs : s < F.length) : pl F c s = if F[s]? = some c then s :: pl F c (s + 1) else pl F c (s + 1) := by
  unfold pl
  obtain ⟨n, hn⟩ : ∃ n, F.length - s = n + 1 := ⟨F.length - s - 1, by omega⟩
  have h2 : F.length - (s + 1) = n := by omega
  rw [hn, h2, List.range'_succ, List.filter_cons]
  by_cases h : F[s]? = some c
  · rw [if_pos (decide_eq_true h), if_pos h]
  · rw [if_neg (by simpa using h), if_neg h]
theorem pl_end {F : List Nat} {c s : Nat} (hs : F.length ≤ s) : pl F c s = [] := by
  unfold pl
  have : F.length - s = 0 := by omega
  rw [this]
  rfl
theorem lg_iff {N c : Nat} {G : List Nat → Nat} {F : List Nat} : ∀ (n s : Nat), F.length - s = n → (∀ e ∈ pl F c s, lg N c G (F.drop s) ≤ G (F.drop (e + 1)) + 1) ∧ (lg N c G (F.drop s) = N ∨ ∃ e ∈ pl F c s, lg N c G (F.drop s) = G (F.drop (e + 1)) + 1)
  | 0, s, h => by
    rw [pl_end (by omega), List.drop_of_length_le (by omega)]
    exact ⟨fun e he => (nomatch he), .inl rfl⟩
  | n + 1, s, h => by
    have hs : s < F.length := by omega
    obtain ⟨i1, i2⟩ := lg_iff (N := N) (c := c) (G := G) (F := F) n (s + 1) (by omega)
    have e1 : F.drop s = F[s] :: F.drop (s + 1) := List.drop_eq_getElem_cons hs
    rw [pl_cons hs, List.getElem?_eq_getElem hs, e1]
    unfold lg
    by_cases hc : F[s] = c
    · rw [if_pos hc, if_pos (by rw [hc])]
      constructor
      · intro e he
        rcases List.mem_cons.mp he with z | z
        · rw [z]
          omega
        · have := i1 e z
          omega
      · by_cases hm : lg N c G (F.drop (s + 1)) ≤ G (F.drop (s + 1)) + 1
        · rw [Nat.min_eq_left hm]
          rcases i2 with z | ⟨e, he, z⟩
          · exact .inl z
          · exact .inr ⟨e, List.mem_cons_of_mem _ he, z⟩
        · rw [Nat.min_eq_right (by omega)]
          exact .inr ⟨s, List.mem_cons_self .., rfl⟩
    · rw [if_neg hc, if_neg (fun z => hc (Option.some.inj z))]
      exact ⟨i1, i2⟩
/-- the cost of a block from s to e and of the rest -/
def cst (G : List Nat → Nat) (F : List Nat) (s e : Nat) : Nat := G (F.drop (e + 1)) + (if s < e then 1 else 0)
theorem fb_iff {N c : Nat} {G : List Nat → Nat} {F : List Nat} {s : Nat} (hc : F[s]? = some c) : (∀ e ∈ pl F c s, fb N c G (F.drop s) ≤ cst G F s e) ∧ (fb N c G (F.drop s) = N ∨ ∃ e ∈ pl F c s, fb N c G (F.drop s) = cst G F s e) := by
  have hs : s < F.length := (List.getElem?_eq_some_iff.mp hc).1
  obtain ⟨i1, i2⟩ := lg_iff (N := N) (c := c) (G := G) (F := F) _ (s + 1) rfl
  have e1 : F.drop s = F[s] :: F.drop (s + 1) := List.drop_eq_getElem_cons hs
  have e2 : F[s] = c := (List.getElem?_eq_some_iff.mp hc).2
  have e3 : fb N c G (F[s] :: F.drop (s + 1)) = min (G (F.drop (s + 1))) (lg N c G (F.drop (s + 1))) := by simp only [fb, if_pos e2]
  rw [pl_cons hs, if_pos hc, e1, e3]
  have hgt : ∀ e ∈ pl F c (s + 1), cst G F s e = G (F.drop (e + 1)) + 1 := fun e he => by
    have := (pl_mem he).1
    unfold cst
    rw [if_pos (by omega)]
  have h0 : cst G F s s = G (F.drop (s + 1)) := by
    unfold cst
    rw [if_neg (by omega)]
    rfl
  constructor
  · intro e he
    rcases List.mem_cons.mp he with z | z
    · rw [z, h0]
      omega
    · rw [hgt e z]
      have := i1 e z
      omega
  · by_cases hm : G (F.drop (s + 1)) ≤ lg N c G (F.drop (s + 1))
    · rw [Nat.min_eq_left hm]
      exact .inr ⟨s, List.mem_cons_self .., h0.symm⟩
    · rw [Nat.min_eq_right (by omega)]
      rcases i2 with z | ⟨e, he, z⟩
      · exact .inl z
      · exact .inr ⟨e, List.mem_cons_of_mem _ he, by rw [z, hgt e he]⟩
theorem fb_no {N c : Nat} {G : List Nat → Nat} {F : List Nat} {s : Nat} (hc : F[s]? ≠ some c) : fb N c G (F.drop s) = N := by
  by_cases hs : s < F.length
  · have e1 : F.drop s = F[s] :: F.drop (s + 1) := List.drop_eq_getElem_cons hs
    have e2 : ¬ F[s] = c := fun z => hc (by rw [List.getElem?_eq_getElem hs, z])
    rw [e1]
    simp only [fb, if_neg e2]
  · rw [List.drop_of_length_le (by omega)]
    rfl
theorem FW_le (N : Nat) (F : List Nat) : ∀ (g : List Nat) (s : Nat) (es : List Nat), s ≤ F.length → es ∈ E F g s → FW N g (F.drop s) ≤ lb s es
  | [], s, es, hs, h => by
    unfold E at h
    split at h
    · rename_i z
      unfold FW
      rw [if_pos ((drop_nil hs).mpr z)]
      exact Nat.zero_le _
    · cases h
  | c :: g, s, es, hs, h => by
    unfold E at h
    split at h
    · rename_i hc
      obtain ⟨e, he, h2⟩ := List.mem_flatMap.mp h
      obtain ⟨es', h3, h4⟩ := List.mem_map.mp h2
      subst h4
      have ih := FW_le N F g (e + 1) es' (by have := (pl_mem he).2.1; omega) h3
      have := (fb_iff (N := N) (G := FW N g) hc).1 e he
      unfold cst at this
      show fb N c (FW N g) (F.drop s) ≤ (if s < e then 1 else 0) + lb (e + 1) es'
      omega
    · cases h
/-- one parting with so few: block by block, the first end that fits -/
def gp (N : Nat) (F : List Nat) : List Nat → Nat → List Nat
  | [], _ => []
  | c :: g, s => match (pl F c s).find? fun e => decide (cst (FW N g) F s e = FW N (c :: g) (F.drop s)) with
    | some e => e :: gp N F g (e + 1)
    | none => []
theorem gp_step {N : Nat} {F g : List Nat} {c s : Nat} (h : FW N (c :: g) (F.drop s) < N) : ∃ e, (pl F c s).find? (fun e => decide (cst (FW N g) F s e = FW N (c :: g) (F.drop s))) = some e ∧ e ∈ pl F c s ∧ cst (FW N g) F s e = FW N (c :: g) (F.drop s) ∧ F[s]? = some c := by
  have hc : F[s]? = some c := by
    by_cases z : F[s]? = some c
    · exact z
    · have := fb_no (N := N) (G := FW N g) z
      have h' : fb N c (FW N g) (F.drop s) < N := h
      omega
  have h2 : ∃ e ∈ pl F c s, fb N c (FW N g) (F.drop s) = cst (FW N g) F s e := by
    rcases (fb_iff (N := N) (G := FW N g) hc).2 with z | z
    · have h' : fb N c (FW N g) (F.drop s) < N := h
      omega
    · exact z
  obtain ⟨e0, he0, h0⟩ := h2
  have hsome : ((pl F c s).find? (fun e => decide (cst (FW N g) F s e = FW N (c :: g) (F.drop s)))).isSome = true := by
    rw [List.find?_isSome]
    exact ⟨e0, he0, decide_eq_true h0.symm⟩
  obtain ⟨e, he⟩ := Option.isSome_iff_exists.mp hsome
  have hp := List.find?_some (p := fun e => decide (cst (FW N g) F s e = FW N (c :: g) (F.drop s))) he
  exact ⟨e, he, List.mem_of_find?_eq_some he, of_decide_eq_true hp, hc⟩
theorem gp_ok {N : Nat} {F : List Nat} : ∀ (g : List Nat) (s : Nat), s ≤ F.length → FW N g (F.drop s) < N → gp N F g s ∈ E F g s ∧ lb s (gp N F g s) = FW N g (F.drop s)
  | [], s, hs, h => by
    have hz : s = F.length := by
      by_cases z : F.drop s = []
      · exact (drop_nil hs).mp z
      · unfold FW at h
        rw [if_neg z] at h
        omega
    unfold gp E FW
    rw [if_pos hz, if_pos ((drop_nil hs).mpr hz)]
    exact ⟨List.mem_singleton.mpr rfl, rfl⟩
  | c :: g, s, hs, h => by
    obtain ⟨e, h1, h2, h3, h4⟩ := gp_step h
    have hp := pl_mem h2
    have h5 : FW N g (F.drop (e + 1)) < N := by
      unfold cst at h3
      omega
    obtain ⟨i1, i2⟩ := gp_ok g (e + 1) (by omega) h5
    have eg : gp N F (c :: g) s = e :: gp N F g (e + 1) := by
      rw [gp, h1]
    rw [eg]
    refine ⟨?_, ?_⟩
    · rw [E, if_pos h4]
      exact List.mem_flatMap.mpr ⟨e, h2, List.mem_map.mpr ⟨_, i1, rfl⟩⟩
    · rw [lb, i2, ← h3]
      unfold cst
      omega
theorem lb_len {F : List Nat} : ∀ (g es : List Nat) (s : Nat), s ≤ F.length → es ∈ E F g s → 2 * lb s es + s ≤ F.length
  | [], es, s, hs, h => by
    unfold E at h
    split at h
    · rw [List.mem_singleton.mp h]
      unfold lb
      omega
    · cases h
  | c :: g, es, s, hs, h => by
    unfold E at h
    split at h
    · obtain ⟨e, he, h2⟩ := List.mem_flatMap.mp h
      obtain ⟨es', h3, h4⟩ := List.mem_map.mp h2
      subst h4
      have hp := pl_mem he
      have ih := lb_len g es' (e + 1) (by omega) h3
      unfold lb
      split <;> omega
    · cases h
theorem FW_lt {F g : List Nat} (hF : F ≠ []) : FW F.length g F < F.length ↔ 0 < W g F := by
  have hl := List.length_pos_iff.mpr hF
  have hE := E_len F g 0 (Nat.zero_le _)
  rw [List.drop_zero] at hE
  constructor
  · intro h
    have := (gp_ok (N := F.length) g 0 (Nat.zero_le _) (by rw [List.drop_zero]; exact h)).1
    have := List.length_pos_of_mem this
    omega
  · intro h
    obtain ⟨es, hes⟩ := List.exists_mem_of_length_pos (by rw [hE]; exact h)
    have h1 := FW_le F.length F g 0 es (Nat.zero_le _) hes
    have h2 := lb_len g es 0 (Nat.zero_le _) hes
    rw [List.drop_zero] at h1
    omega
/-! ### rows of cuts -/
def cutOk (f : List Nat) (p : Nat × Nat) : Prop := p.1 < p.2 ∧ p.2 < f.length ∧ f[p.1]? = f[p.2]?
instance (f : List Nat) (p : Nat × Nat) : Decidable (cutOk f p) := inferInstanceAs (Decidable (p.1 < p.2 ∧ p.2 < f.length ∧ f[p.1]? = f[p.2]?))
def cutBy (f : List Nat) (p : Nat × Nat) : List Nat := f.take (p.1 + 1) ++ f.drop (p.2 + 1)
def RowV : List Nat → List (Nat × Nat) → List Nat → Prop
  | f, [], h => f = h
  | f, p :: ps, h => cutOk f p ∧ RowV (cutBy f p) ps h
/-- the cuts for a parting -/
def cf : Nat → Nat → List Nat → List (Nat × Nat)
  | _, _, [] => []
  | at_, s, e :: es => (if s < e then [(at_, at_ + e - s)] else []) ++ cf (at_ + 1) (e + 1) es
theorem cf_len : ∀ (es : List Nat) (a s : Nat), (cf a s es).length = lb s es
  | [], a, s => rfl
  | e :: es, a, s => by
    unfold cf lb
    rw [List.length_append, cf_len es]
    split <;> rfl
end PT

end
section
namespace PT
/-! ### a parting, block by block -/
def bls : Nat → List Nat → List (Nat × Nat)
  | _, [] => []
  | s, e :: es => (s, e) :: bls (e + 1) es
theorem isP_cons {F g es : List Nat} {c s e : Nat} : isP F (c :: g) s (e :: es) = true ↔ s ≤ e ∧ F[s]? = some c ∧ F[e]? = some c ∧ isP F g (e + 1) es = true := by
  constructor
  · intro h
    unfold isP at h
    split at h
    · rename_i h1
      split at h
      · rename_i h2
        simp only [Bool.and_eq_true, decide_eq_true_eq] at h1
        exact ⟨h1.1, h2.1, h2.2, h⟩
      · cases h
    · cases h
  · rintro ⟨h1, h2, h3, h4⟩
    have h5 : e < F.length := (List.getElem?_eq_some_iff.mp h3).1
    unfold isP
    rw [decide_eq_true h1, decide_eq_true h5]
    simp only [Bool.and_self, if_true, h2, h3, and_self]
    exact h4
theorem isP_nil {F : List Nat} {s : Nat} : isP F [] s [] = true ↔ s = F.length := by simp [isP]
/-! ### partings whose blocks have at most so many letters -/
def rb (F : List Nat) (m c : Nat) (B : Nat → Bool) : Nat → Bool
  | 0 => false
  | p + 1 => decide (F[p]? = some c) && (List.range (p + 1)).any fun s => decide (F[s]? = some c) && B s && decide (p - s < m)
def rl (F : List Nat) (m : Nat) : List Nat → (Nat → Bool) → Nat → Bool
  | [], B => B
  | c :: g, B => rl F m g (rb F m c B)
def szs (m s : Nat) (es : List Nat) : Prop := ∀ p ∈ bls s es, p.2 - p.1 < m
/-- is there a parting with blocks of at most m letters? -/
def pw (F g : List Nat) (m : Nat) : Bool := rl F m g (fun s => decide (s = 0)) F.length
end PT

end
section
namespace PT
/-! ### how often each number is there -/
def bnd : List Nat → Nat
  | [] => 0
  | x :: l => max (x + 1) (bnd l)
def hist (L : List Nat) : List Nat := (List.range (bnd L)).map fun k => L.count k
def padd (s l : List Nat) : List Nat := List.zipWith (· + ·) s l ++ l.drop s.length
/-! ### the numbers of cuts of all partings -/
def LV (F : List Nat) (c : Nat) (V : Nat → List Nat) (s : Nat) : List Nat := (pl F c s).flatMap fun p => (V (p + 1)).map (· + 1)
def BV (F : List Nat) (c : Nat) (V : Nat → List Nat) (s : Nat) : List Nat := if F[s]? = some c then V (s + 1) ++ LV F c V (s + 1) else []
def VE (F : List Nat) : List Nat → Nat → List Nat
  | [], s => if s = F.length then [0] else []
  | c :: g, s => BV F c (VE F g) s
end PT

end
section
namespace PT
/-! ### a parting put together -/
/-- ends of a beginning: from s, letters g, next start q -/
def Pt (F : List Nat) : List Nat → Nat → List Nat → Nat → Prop
  | [], s, es, q => es = [] ∧ s = q
  | c :: g, s, es, q => ∃ e r, es = e :: r ∧ s ≤ e ∧ F[s]? = some c ∧ F[e]? = some c ∧ Pt F g (e + 1) r q
theorem isP_ge {F : List Nat} : ∀ {g es : List Nat} {s : Nat}, es.length = g.length → isP F g s es = true → ∀ q ∈ es, s ≤ q
  | [], [], _, _, _, q, hq => by cases hq
  | [], _ :: _, _, hl, _, _, _ => by simp at hl
  | _ :: _, [], _, hl, _, _, _ => by simp at hl
  | c :: g, e :: es, s, hl, h, q, hq => by
    obtain ⟨a1, _, _, a4⟩ := isP_cons.mp h
    rcases List.mem_cons.mp hq with z | z
    · rw [z]; exact a1
    · have := isP_ge (by simpa using hl) a4 q z
      omega
end PT

end
section
namespace PT
/-! ### letters of a film, and how often they are there -/
abbrev L8 : List Nat := List.range' 97 8
theorem L8_nodup : L8.Nodup := by decide
theorem mem_L8 {c : Nat} : c ∈ L8 ↔ 97 ≤ c ∧ c ≤ 104 := by
  rw [List.mem_range'_1]
  omega
def kd (f : List Nat) : List Nat := L8.filter fun c => decide (c ∈ f)
/-- the sum over all letters of what g says of how often they are there -/
def GS (g : Nat → Nat) (f : List Nat) : Nat := (L8.map fun c => g (f.count c)).sum
def Lt (f : List Nat) : Prop := ∀ c ∈ f, 97 ≤ c ∧ c ≤ 104
def tri (m : Nat) : Nat := m * (m - 1) / 2
/-- pairs of like letters -/
def pc : List Nat → Nat
  | [] => 0
  | x :: t => t.count x + pc t
/-- letters that come again -/
def ac : List Nat → Nat
  | [] => 0
  | x :: t => (if x ∈ t then 1 else 0) + ac t
def sgn (m : Nat) : Nat := if m = 0 then 0 else 1
/-! ### places, cuts -/
theorem mem_pl {F : List Nat} {c s p : Nat} : p ∈ pl F c s ↔ s ≤ p ∧ F[p]? = some c := by
  unfold pl
  rw [List.mem_filter, List.mem_range'_1, decide_eq_true_eq]
  constructor
  · exact fun ⟨h1, h2⟩ => ⟨h1.1, h2⟩
  · intro ⟨h1, h2⟩
    have := (List.getElem?_eq_some_iff.mp h2).1
    exact ⟨⟨h1, by omega⟩, h2⟩
def pairsL (f : List Nat) : List (Nat × Nat) := (List.range f.length).flatMap fun i => (List.range' (i + 1) (f.length - (i + 1))).map fun j => (i, j)
def cutsL (f : List Nat) : List (Nat × Nat) := (pairsL f).filter fun p => decide (f[p.1]? = f[p.2]?)
theorem mem_pairsL {f : List Nat} {p : Nat × Nat} : p ∈ pairsL f ↔ p.1 < p.2 ∧ p.2 < f.length := by
  unfold pairsL
  simp only [List.mem_flatMap, List.mem_range, List.mem_map, List.mem_range'_1]
  constructor
  · rintro ⟨i, hi, j, hj, rfl⟩
    exact ⟨by show i < j; omega, by show j < f.length; omega⟩
  · intro ⟨h1, h2⟩
    exact ⟨p.1, by omega, p.2, by omega, rfl⟩
theorem mem_cutsL {f : List Nat} {p : Nat × Nat} : p ∈ cutsL f ↔ p.1 < p.2 ∧ p.2 < f.length ∧ f[p.1]? = f[p.2]? := by
  unfold cutsL
  rw [List.mem_filter, mem_pairsL, decide_eq_true_eq, and_assoc]
/-- a letter and the next one like it -/
def tightL (f : List Nat) : List (Nat × Nat) := (cutsL f).filter fun p => decide ((pl f (f.getD p.1 0) (p.1 + 1)).head? = some p.2)
end PT

end
section
namespace DL
open PySem L2 PT
/-! ### one sign in a text: find, index, in -/
def Hit1 (s sub : Str) (hi i : Nat) : Prop := i + sub.length ≤ hi ∧ Builtin.Str.subAt s sub i = true
def oi : Option Nat → Int
  | some k => (k : Int)
  | none => -1
/-- the text of a film's letters, sorted -/
theorem leS_lt {a b : Nat} (h : a ≤ b) : leS (mkS [a]) (mkS [b]) = true := by
  rw [leS_iff]
  show [a] ≤ [b]
  rcases Nat.lt_or_eq_of_le h with z | z
  · exact List.le_of_lt (List.Lex.rel z)
  · subst z; exact List.le_refl _
theorem sort_signs {l m : List Nat} (p : m.Perm l) (h : m.Pairwise (· ≤ ·)) : sortStr (l.map fun c => mkS [c]) = m.map fun c => mkS [c] := by
  refine (sortStr_uniq (p.map _) ?_).symm
  exact List.pairwise_map.mpr (h.imp fun z => leS_lt z)
theorem rng_map (n : Nat) : rngL 0 n = (List.range n).map ni := by
  have := rng_range' 0 n
  rw [List.range_eq_range']
  exact this
end DL

end
local macro_rules | `(tactic| wide_open with ((), $xs,*)) => `(tactic| simp (disch := first | omega | (simp; done) | (simp; omega)) only [↓DL.we_e, DL.weB_ok, ↓DL.ts_e, DL.tsB_ok, ↓DL.tsE_e, DL.tsE_ok, DL.prB_ok, ↓DL.tr_e, DL.trB_ok, ↓DL.trE_e, DL.trE_ok, ↓DL.bn_e, DL.bnB_ok, ↓DL.bnE_e, DL.bnE_ok, DL.bnE2_ok, ↓DL.ap_e, DL.apB_ok, ↓DL.itN_e, ↓DL.apE_e, DL.apE_ok, ↓DL.itX_e, DL.apX_ok, ↓DL.un1_e, ↓DL.aNil_e, ↓DL.aCons_e, DL.acB_ok, ↓DL.aConsE_e, DL.acE_ok, DL.acE2_ok, ↓DL.kc_e, ↓DL.notB_e, DL.ntB_ok, ↓DL.notV_e, DL.ntV_ok, ↓DL.notE_e, DL.ntE_ok, ↓DL.andB_e, DL.anB_t, DL.anB_f, ↓DL.orB_e, DL.orB_t, DL.orB_f, ↓DL.andV_e, DL.anV_t, DL.anV_f, ↓DL.orV_e, DL.roV_t, DL.roV_f, ↓DL.ifV_e, DL.ivB_t, DL.ivB_f, ↓DL.ifVE_e, DL.ivE_t, DL.ivE_f, ↓DL.andE_e, DL.anE_t, DL.anE_f, ↓DL.orE_e, DL.roE_t, DL.roE_f, ↓DL.chn_e, DL.chB_ok, DL.chB2_t, DL.chB2_f, ↓DL.oNone_e, ↓DL.oSome_e, DL.osB_ok, ↓DL.sl3_e, DL.s3B_ok, ↓DL.mthV_e, DL.mvB_tx, ↓DL.mthL_e, DL.mlB_ok, ↓DL.mkT_e, DL.mtB_ok, ↓DL.mkL_e, DL.mlB'_ok, ↓DL.mkTE_e, DL.mtE_ok, ↓DL.gSet_e, ↓DL.gTup_e, ↓DL.gsCons_e, DL.gcB_ok, ↓DL.gsNil_e, ↓DL.seq_st, DL.sq_nx, DL.sq_rt, DL.sq_bk, DL.sq_ct, ↓DL.if_st, DL.ifB_y, DL.ifB_n, ↓DL.set_st, DL.stB_ok, ↓DL.ret_st, DL.rtB_ok, ↓DL.seto_st, DL.soB_ok, ↓DL.for_st', DL.frB_ok, DL.forD_nil, ↓DL.expr_st, DL.exB_ok, ↓DL.skip_st, ↓DL.retN_st, ↓DL.brk_st, ↓DL.call_st, DL.clB_ok, ↓DL.callE_st, DL.clE_ok, DL.R_at_ok, ↓DL.callIO_st, DL.ciB_ok, DL.ciC_ok, DL.ciD_ok, ↓DL.par_st, DL.psB_ok, ↓DL.asg_st, DL.asB1_ok, DL.asB2_ok, ↓DL.aug_st, DL.agB_ok, DL.agC_ok, ↓DL.app_st, DL.apS_ok, ↓DL.itm_st, DL.imB_ok, DL.imC_ok, ↓DL.rvs_st, DL.rvB_ok, ↓DL.retO_st, DL.roB_own, DL.roB_sh, ↓DL.frz_st, ↓DL.frzS_st, DL.fzB_own, DL.fzB_sh, DL.fzB_un, ↓DL.itR1_st, DL.r1B_ok, DL.rg1_ok, DL.rg2_ok, DL.tn_add1, DL.tn_succ, DL.tn_nat, DL.tn_pred, DL.tn_sub, DL.len0, DL.len1, DL.len2, DL.len3, DL.len4, DL.gSh_eq, DL.gAny_eq, DL.gS_sh, DL.gA_sh, DL.gA_own, DL.gA_io, DL.ownL_eq, DL.oL_own, DL.oL_io, DL.put_own, DL.put_io, DL.ofO_some, DL.tru_bl, DL.tru_int, DL.tru_lst, DL.len_tx, DL.len_lst, DL.len_tup, DL.ix_tx, DL.ix_lst, DL.ix_tup, DL.sl_tx, DL.sl_lst, DL.sl_tup, DL.plus_tx, DL.plus_int, DL.plus_lst, DL.plus_tup, DL.cat_lst, DL.rep_lst1, DL.zD_tx, DL.zD_lst, DL.zD_tup, DL.rev_tx, DL.en_tx, DL.tup_lst, DL.lst_tup, DL.isi_tx, DL.isi_int, DL.isi_intb, DL.isi_tt, DL.isi_lt, DL.isi_int_tl, DL.isi_non_tl, DL.isi_tup_tl, DL.isi_tup_l, DL.isi_int_s, DL.isi_non_s, DL.eq_bl, DL.ne_bl, DL.eq_non, DL.isn_i, DL.isn_n, DL.sub_int', DL.add_ip, DL.sub_ip, DL.mul_int', DL.lt_int, DL.gt_int, DL.ge_int, DL.le_int, DL.eq_int, DL.ne_int, DL.eq_tx, DL.ne_tx, DL.isn_int, DL.isn_non, DL.isb, DL.neg_int, DL.int_int, DL.atI_nat, DL.atI_zero, DL.atI_one, DL.atI_two, DL.atI_three, DL.atI_succ, DL.atI_last, DL.cut_to, DL.cut_from, DL.cut_both, DL.cut_butlast, DL.sum_nl, DL.sum_nt, DL.mul_tx1, DL.mul_tup, ↓DL.ownK_e, DL.oK_own, ↓DL.put_st, DL.puB_tx, DL.puB_ni, ↓DL.pop_st, DL.poB_ok, ↓DL.parO_st, DL.paO_ok, ↓DL.parOS_st, DL.paS_ok, ↓DL.disp_e, DL.diB_tx, ↓DL.whl_st, ↓DL.ch3_e, DL.ch3_ok, DL.ch3_t, DL.ch3_f, DL.ch3b_ok, DL.ch3_t2, DL.ch3_f2, List.getElem?_cons_zero, List.getElem?_cons_succ, List.set_cons_zero, List.set_cons_succ, List.length_cons, List.length_nil, List.map_nil, List.length_map, List.cons.injEq, and_true, eq_self, Bool.true_eq_false, Bool.false_eq_true, decide_true, decide_false, Bool.not_true, Bool.not_false, Option.map_some, Int.reduceLT, Int.reduceLE, Int.reduceAdd, Int.reduceSub, Int.reduceMul, Int.reduceNeg, Int.reduceEq, Nat.reduceAdd, Nat.reduceSub, $[$(xs.getElems):term],*])
section
namespace DL
open PySem L2
/-! ### the graph of the outcomes, evaluated -/
def ogF12 : DL.Env → DL.R Fl := (seqS (ifS (withEnv (tst (bin ltD (bin plusD (gAny 3) (kc (.int 1))) (appN lenD (aCons (gAny 0) aNil))))) (putS 4 (bin ixD (gAny 0) (bin plusD (gAny 3) (kc (.int 1)))) (bin plusD (gAny 3) (kc (.int 2)))) skipS) (appS 2 (un1 toFz (dcD [("letter", 5)] (itX zD (appN srtKD (aCons (gAny 4) aNil))) (gSet 5) yesB (gSh 5) (bin dgetD (gAny 4) (gAny 5))))))
def ogFt : DL.Env → DL.R Fl := (seqS (appS 2 (un1 toFz (dispD (bin ixD (gAny 0) (kc (.int 0))) (kc (.int 1))))) (seqS (rvsS 2) (frzS 2 (retS (withEnv (callF 2 (mkG "arrows" "ends") (aCons (gSh 2) (aCons (bin plusD (mkL (aCons (kc (.bl false)) aNil)) (lcD [("letter", 5)] (itX zD (gSh 0)) (gSet 5) yesB (bin eqD (gAny 5) (bin ixD (gAny 0) (un1 negD (kc (.int 1))))))) aNil))))))))
theorem dcP_map {α : Type} {g : D → Env → R Env} {c : Env → R Bool} {fk fv : Env → R D} {r0 : Env} (φ ψ : α → D) (κ : α → Str) (E : α → Env) (p : α → Bool) : ∀ (L : List α) (acc : List (Key × D)), (∀ x ∈ L, g (φ x) r0 = .ok (E x) ∧ c (E x) = .ok (p x) ∧ (p x = true → fk (E x) = .ok (.str (κ x)) ∧ fv (E x) = .ok (ψ x))) →
    (L.map κ).Nodup → (∀ x ∈ L, ∀ kv ∈ acc, kv.1 ≠ .inr (κ x)) → dcP g c fk fv r0 acc (L.map φ) = .ok (acc ++ (L.filter p).map fun x => (.inr (κ x), ψ x))
  | [], acc, _, _, _ => by
    unfold dcP
    simp
  | x :: L, acc, h, hn, ha => by
    obtain ⟨h1, h2, h3⟩ := h x List.mem_cons_self
    rw [List.map_cons] at hn
    obtain ⟨n1, n2⟩ := List.nodup_cons.mp hn
    rw [List.map_cons]
    unfold dcP
    rw [h1]
    simp only [R.ne, R.bind]
    rw [h2]
    simp only [R.bind]
    cases q : p x with
    | false =>
      rw [List.filter_cons_of_neg (by rw [q]; decide)]
      simp only [Bool.false_eq_true, if_false]
      exact dcP_map φ ψ κ E p L acc (fun y hy => h y (List.mem_cons_of_mem _ hy)) n2 fun y hy => ha y (List.mem_cons_of_mem _ hy)
    | true =>
      obtain ⟨h4, h5⟩ := h3 q
      rw [List.filter_cons_of_pos q]
      simp only [if_true]
      rw [h4]
      simp only [R.bind]
      rw [h5]
      simp only [R.bind, keyD, R.ofO]
      have e : putD acc (.inr (κ x)) (ψ x) = acc ++ [(.inr (κ x), ψ x)] := by
        unfold putD
        rw [if_neg]
        rw [Bool.not_eq_true, ← Bool.not_eq_true, List.any_eq_true]
        rintro ⟨kv, hm, z⟩
        exact ha x List.mem_cons_self kv hm (of_decide_eq_true z)
      rw [e, dcP_map φ ψ κ E p L _ (fun y hy => h y (List.mem_cons_of_mem _ hy)) n2 fun y hy kv hkv => ?_]
      · simp
      · rcases List.mem_append.mp hkv with z | z
        · exact ha y (List.mem_cons_of_mem _ hy) kv z
        · rw [List.mem_singleton.mp z]
          intro w
          exact n1 (by rw [Sum.inr.inj w]; exact List.mem_map.mpr ⟨y, hy, rfl⟩)
theorem dcA {α : Type} {own : List (Str × Nat)} {h : Env → R (List D)} {g : D → Env → R Env} {c : Env → R Bool} {fk fv : Env → R D} {r : Env} (L : List α) (φ ψ : α → D) (κ : α → Str) (p : α → Bool) (E : α → Env) (hn : noOwn (own.map (·.2)) r = true) (hi : h r = .ok (L.map φ)) (hl : L.length ≤ 1000000) (hk : (L.map κ).Nodup)
    (he : ∀ x ∈ L, g (φ x) (wipeE r (own.map (·.2))) = .ok (E x) ∧ c (E x) = .ok (p x) ∧ (p x = true → fk (E x) = .ok (.str (κ x)) ∧ fv (E x) = .ok (ψ x))) : dcD own h g c fk fv r = .ok (.dct ((L.filter p).map fun x => (.inr (κ x), ψ x))) := by
  unfold dcD
  rw [if_pos hn, hi]
  simp only [R.bind]
  rw [if_pos (by rw [List.length_map, sizeLine_eq]; omega), dcP_map φ ψ κ E p L [] he hk (fun x _ kv h => by cases h)]
  rfl
theorem sg_inj {a b : Nat} (h : sg a = sg b) : a = b := by
  have := congrArg (fun s : Str => s.cps.toList) h
  simpa using this
theorem any_kvI (m : List (Nat × Nat)) (c : Nat) : ((kvI m).any fun kv => decide (kv.1 = .inr (sg c))) = m.any fun p => decide (p.1 = c) := by
  unfold kvI
  rw [List.any_map]
  congr 1
  funext p
  show decide ((Sum.inr (sg p.1) : Key) = Sum.inr (sg c)) = decide (p.1 = c)
  rw [Bool.eq_iff_iff, decide_eq_true_eq, decide_eq_true_eq]
  exact ⟨fun h => sg_inj (Sum.inr.inj h), fun h => by rw [h]⟩
theorem put_kvI (m : List (Nat × Nat)) (c v : Nat) : putD (kvI m) (.inr (sg c)) (.int (v : Nat)) = kvI (putI m c v) := by
  unfold putD putI
  rw [any_kvI]
  split
  · unfold kvI
    rw [List.map_map, List.map_map]
    apply List.map_congr_left
    intro p _
    show (if (Sum.inr (sg p.1) : Key) = Sum.inr (sg c) then _ else _) = _
    by_cases z : p.1 = c
    · simp only [Function.comp, z, if_true]
    · simp only [Function.comp, if_neg z]
      rw [if_neg fun w => z (sg_inj (Sum.inr.inj w))]
  · unfold kvI
    rw [List.map_append]
    rfl
theorem get_kvI : ∀ (m : List (Nat × Nat)) (d : Nat), getD_ (kvI m) (.inr (sg d)) = (m.lookup d).map fun v => .int (v : Nat)
  | [], d => rfl
  | p :: m, d => by
    have ih := get_kvI m d
    unfold getD_ kvI at ih ⊢
    rw [List.map_cons, List.find?_cons, List.lookup_cons]
    by_cases z : p.1 = d
    · have e1 : decide ((Sum.inr (sg p.1) : Key) = Sum.inr (sg d)) = true := decide_eq_true (by rw [z])
      have e2 : (d == p.1) = true := by rw [z]; exact beq_self_eq_true d
      simp only [e1, e2]
      rfl
    · have e1 : decide ((Sum.inr (sg p.1) : Key) = Sum.inr (sg d)) = false := decide_eq_false fun w => z (sg_inj (Sum.inr.inj w))
      have e2 : (d == p.1) = false := by simpa using Ne.symm z
      simp only [e1, e2]
      exact ih
theorem putI_keys (m : List (Nat × Nat)) (c v : Nat) (hn : (m.map (·.1)).Nodup) : ((putI m c v).map (·.1)).Nodup ∧ (∀ k, k ∈ (putI m c v).map (·.1) ↔ k ∈ m.map (·.1) ∨ k = c) ∧ (putI m c v).length ≤ m.length + 1 := by
  unfold putI
  by_cases z : (m.any fun p => decide (p.1 = c)) = true
  · rw [if_pos z]
    have e : (m.map fun p => if p.1 = c then (p.1, v) else p).map (·.1) = m.map (·.1) := by
      rw [List.map_map]
      apply List.map_congr_left
      intro p _
      show (if p.1 = c then (p.1, v) else p).1 = p.1
      split <;> rfl
    obtain ⟨p, hp, e2⟩ := List.any_eq_true.mp z
    have e2 := of_decide_eq_true e2
    rw [e]
    exact ⟨hn, fun k => ⟨.inl, fun h => h.elim id fun w => by rw [w, ← e2]; exact List.mem_map.mpr ⟨p, hp, rfl⟩⟩, by rw [List.length_map]; omega⟩
  · rw [if_neg z]
    have nm : c ∉ m.map (·.1) := fun w => z (by
      obtain ⟨p, hp, e⟩ := List.mem_map.mp w
      exact List.any_eq_true.mpr ⟨p, hp, decide_eq_true e⟩)
    rw [List.map_append]
    refine ⟨List.nodup_append.mpr ⟨hn, by simp, fun a ha b hb w => nm ?_⟩, fun k => by rw [List.mem_append]; simp, by rw [List.length_append, List.length_singleton]; omega⟩
    have : b = c := by simpa using hb
    rw [← this, ← w]
    exact ha
theorem ogM_ok {F : List Nat} (hF : ∀ c ∈ F, 97 ≤ c ∧ c ≤ 104) : ∀ (i : Nat) (c : Nat), ((ogM F i c).map (·.1)).Nodup ∧ (∀ k ∈ (ogM F i c).map (·.1), 97 ≤ k ∧ k ≤ 104) ∧ (ogM F i c).length ≤ i
  | 0, c => ⟨List.nodup_nil, by intro k h; exact absurd h (List.not_mem_nil), Nat.le_refl _⟩
  | i + 1, c => by
    obtain ⟨h1, h2, h3⟩ := ogM_ok hF i c
    have e : ogM F (i + 1) c = if c = F.getD (F.length - 1 - i) 0 ∧ F.length - 1 - i + 1 < F.length then putI (ogM F i c) (F.getD (F.length - 1 - i + 1) 0) (F.length - 1 - i + 2) else ogM F i c := rfl
    rw [e]
    split
    · rename_i z
      obtain ⟨p1, p2, p3⟩ := putI_keys (ogM F i c) (F.getD (F.length - 1 - i + 1) 0) (F.length - 1 - i + 2) h1
      refine ⟨p1, fun k hk => ?_, by omega⟩
      rcases (p2 k).mp hk with w | w
      · exact h2 k w
      · rw [w, List.getD_eq_getElem?_getD, List.getElem?_eq_getElem z.2]
        exact hF _ (List.getElem_mem _)
    · exact ⟨h1, h2, by omega⟩
theorem og_hix (F : List Nat) (B : Addr) (rows : List D) (p c0 : Nat) (ok : okF F = true) (h : F[p]? = some c0) : bin ixD (gAny 0) (gAny 3) [.sh (.str ⟨F.toArray⟩), .sh (.ref B), .own (.lst rows), .sh (.int (p : Nat)), .un, .un] = .ok (.str (sg c0)) := by
  have hl : F.length ≤ 200 := of_decide_eq_true (Bool.and_eq_true_iff.mp (Bool.and_eq_true_iff.mp ok).2).1
  show bin ixD (gAny 0) (gAny 3) [.sh (tx F), .sh (.ref B), .own (.lst rows), .sh (ni p), .un, .un] = .ok (tx [c0])
  wide_open with ((), h)
theorem og_hitems (F : List Nat) (B : Addr) (ok : okF F = true) : itX (rvR (.int 0)) (appN lenD (aCons (gAny 0) aNil)) [.sh (.str ⟨F.toArray⟩), .sh (.ref B), .own (.lst []), .un, .un, .un] = .ok ((List.range F.length).map fun i => D.int ((F.length - 1 - i : Nat) : Int)) := by
  have hl : F.length ≤ 200 := of_decide_eq_true (Bool.and_eq_true_iff.mp (Bool.and_eq_true_iff.mp ok).2).1
  have e : rvR (.int 0) (.int (F.length : Nat)) = some ((List.range F.length).map fun i => D.int ((F.length - 1 - i : Nat) : Int)) := by
    unfold rvR
    simp only
    rw [if_pos (by omega)]
    congr 1
    have : ((F.length : Int) - 0).toNat = F.length := by omega
    rw [this]
    apply List.ext_getElem?
    intro i
    by_cases hi : i < F.length
    · rw [List.getElem?_reverse (by rw [rngL_length]; exact hi), rngL_length]
      unfold rngL
      rw [List.getElem?_map, List.getElem?_map, List.getElem?_range hi, List.getElem?_range (by omega)]
      simp
    · rw [List.getElem?_eq_none (by rw [List.length_reverse, rngL_length]; omega), List.getElem?_eq_none (by rw [List.length_map, List.length_range]; omega)]
  show itX (rvR (.int 0)) (appN lenD (aCons (gAny 0) aNil)) [.sh (tx F), .sh (.ref B), .own (.lst []), .un, .un, .un] = _
  wide_open with ((), e)
theorem row_ev {F : List Nat} (B : Addr) (rows : List D) (p : Nat) (m : List (Nat × Nat)) (hn : (m.map (·.1)).Nodup) (hk : ∀ k ∈ m.map (·.1), 97 ≤ k ∧ k ≤ 104) :
    dcD [("letter", 5)] (itX zD (appN srtKD (aCons (gAny 4) aNil))) (gSet 5) yesB (gSh 5) (bin dgetD (gAny 4) (gAny 5)) [.sh (tx F), .sh (.ref B), .own (.lst rows), .sh (ni p), .io (.dct (kvI m)), .un] = .ok (.dct ((abc8.filter fun d => decide (d ∈ m.map (·.1))).map fun d => ((.inr (sg d) : Key), ni ((m.lookup d).getD 0)))) := by
  have e1 : strKs (kvI m) = some ((m.map (·.1)).map fun c => mkS [c]) := by
    clear hn hk
    induction m with
    | nil => rfl
    | cons q m ih =>
      show (strKs (kvI m)).map _ = _
      rw [ih]
      rfl
  have pm : (abc8.filter fun d => decide (d ∈ m.map (·.1))).Perm (m.map (·.1)) := by
    refine (List.perm_ext_iff_of_nodup (List.Pairwise.filter _ (by decide)) hn).mpr fun k => ?_
    rw [List.mem_filter, decide_eq_true_eq]
    refine ⟨fun h => h.2, fun h => ⟨?_, h⟩⟩
    have := hk k h
    have : k = 97 ∨ k = 98 ∨ k = 99 ∨ k = 100 ∨ k = 101 ∨ k = 102 ∨ k = 103 ∨ k = 104 := by omega
    rcases this with z | z | z | z | z | z | z | z <;> subst z <;> decide
  have hl : m.length ≤ 8 := by
    have h1 := pm.length_eq
    have h2 := List.length_filter_le (fun d => decide (d ∈ m.map (·.1))) abc8
    have h3 : abc8.length = 8 := rfl
    rw [List.length_map] at h1
    omega
  have e2 : sortStr ((m.map (·.1)).map fun c => mkS [c]) = (abc8.filter fun d => decide (d ∈ m.map (·.1))).map fun c => mkS [c] := sort_signs pm (List.Pairwise.filter _ (by decide))
  have e3 : srtKD [.dct (kvI m)] = some (.lst ((abc8.filter fun d => decide (d ∈ m.map (·.1))).map fun c => tx [c])) := by
    unfold srtKD kvsD
    simp only [Option.bind_some]
    rw [e1]
    simp only [Option.bind_some]
    rw [if_pos (by rw [List.length_map, List.length_map]; omega), e2, List.map_map]
    rfl
  have hi : itX zD (appN srtKD (aCons (gAny 4) aNil)) [.sh (tx F), .sh (.ref B), .own (.lst rows), .sh (ni p), .io (.dct (kvI m)), .un] = .ok ((abc8.filter fun d => decide (d ∈ m.map (·.1))).map fun c => tx [c]) := by wide_open with ((), e3)
  have nd : ((abc8.filter fun d => decide (d ∈ m.map (·.1))).map fun c => sg c).Nodup := List.Pairwise.map _ (fun a b h z => h (sg_inj z)) (List.Pairwise.filter _ (by decide : abc8.Nodup))
  have := dcA (own := [("letter", 5)]) (g := gSet 5) (c := yesB) (fk := gSh 5) (fv := bin dgetD (gAny 4) (gAny 5)) (r := [.sh (tx F), .sh (.ref B), .own (.lst rows), .sh (ni p), .io (.dct (kvI m)), .un]) (abc8.filter fun d => decide (d ∈ m.map (·.1))) (fun c => tx [c]) (fun d => ni ((m.lookup d).getD 0)) (fun c => sg c) (fun _ => true) (fun c => [.sh (tx F), .sh (.ref B), .own (.lst rows), .sh (ni p), .io (.dct (kvI m)), .sh (tx [c])]) rfl hi (by have := List.length_filter_le (fun d => decide (d ∈ m.map (·.1))) abc8; have : abc8.length = 8 := rfl; omega) nd fun d hd => ⟨rfl, rfl, fun _ => ⟨rfl, by
    have hd := of_decide_eq_true (List.mem_filter.mp hd).2
    have e4 : dgetD (.dct (kvI m)) (tx [d]) = some (ni ((m.lookup d).getD 0)) := by
      show getD_ (kvI m) (.inr (sg d)) = _
      rw [get_kvI]
      cases q : m.lookup d with
      | none =>
        obtain ⟨q2, hq, e⟩ := List.mem_map.mp hd
        have := List.lookup_eq_none_iff.mp q q2 hq
        rw [e] at this
        simp at this
      | some v => rfl
    wide_open with ((), e4)⟩⟩
  rw [this]
  have ft : ((abc8.filter fun d => decide (d ∈ m.map (·.1))).filter fun _ => true) = abc8.filter fun d => decide (d ∈ m.map (·.1)) := by simp
  rw [ft]
theorem ogR_len (F : List Nat) : ∀ i, (ogR F i).length = i
  | 0 => rfl
  | i + 1 => by
    show (ogR F i ++ [_]).length = _
    rw [List.length_append, ogR_len F i]
    rfl
theorem tz_dct (kvs : List (Key × D)) : toFz (.dct kvs) = some (.dctF kvs) := (rfl)
theorem og_hstep (F : List Nat) (B : Addr) (i : Nat) (ok : okF F = true) (hi : i < F.length) : ogF12 [.sh (.str ⟨F.toArray⟩), .sh (.ref B), .own (.lst (ogR F i)), .sh (.int ((F.length - 1 - i : Nat) : Int)), .io (.dct (kvI (ogM F i (F.getD (F.length - 1 - i) 0)))), .un] =
      .ok (.nx [.sh (.str ⟨F.toArray⟩), .sh (.ref B), .own (.lst (ogR F i ++ [rowD (ogM F (i + 1) (F.getD (F.length - 1 - i) 0))])), .sh (.int ((F.length - 1 - i : Nat) : Int)), .io (.dct (kvI (ogM F (i + 1) (F.getD (F.length - 1 - i) 0)))), .un]) := by
  obtain ⟨_, ok2⟩ := Bool.and_eq_true_iff.mp ok
  obtain ⟨hl, h8⟩ := Bool.and_eq_true_iff.mp ok2
  have hl := of_decide_eq_true hl
  have h8 : ∀ c ∈ F, 97 ≤ c ∧ c ≤ 104 := fun c hc => of_decide_eq_true (List.all_eq_true.mp h8 c hc)
  have rl := ogR_len F i
  generalize hp : F.length - 1 - i = p
  have hpl : p < F.length := by omega
  have hm : ogM F (i + 1) (F.getD p 0) = if F.getD p 0 = F.getD (F.length - 1 - i) 0 ∧ F.length - 1 - i + 1 < F.length then putI (ogM F i (F.getD p 0)) (F.getD (F.length - 1 - i + 1) 0) (F.length - 1 - i + 2) else ogM F i (F.getD p 0) := rfl
  rw [hp] at hm
  obtain ⟨n1, n2, n3⟩ := ogM_ok h8 (i + 1) (F.getD p 0)
  show ogF12 [.sh (tx F), .sh (.ref B), .own (.lst (ogR F i)), .sh (ni p), .io (.dct (kvI (ogM F i (F.getD p 0)))), .un] = .ok (.nx [.sh (tx F), .sh (.ref B), .own (.lst (ogR F i ++ [rowD (ogM F (i + 1) (F.getD p 0))])), .sh (ni p), .io (.dct (kvI (ogM F (i + 1) (F.getD p 0)))), .un])
  obtain ⟨m1, m2, m3⟩ := ogM_ok h8 i (F.getD p 0)
  have rowE := row_ev (F := F) B (ogR F i) p (ogM F (i + 1) (F.getD p 0)) n1 n2
  generalize ogM F i (F.getD p 0) = m at hm m1 m2 m3
  have kl : (kvI m).length < 1000000 := by
    have : (kvI m).length = m.length := by unfold kvI; rw [List.length_map]
    omega
  by_cases z : p + 1 < F.length
  · rw [if_pos ⟨rfl, z⟩] at hm
    rw [hm] at rowE ⊢
    have z1 : decide (((p + 1 : Nat) : Int) < (F.length : Int)) = true := decide_eq_true (by omega)
    have g1 : F[p + 1]? = some (F.getD (p + 1) 0) := by rw [List.getD_eq_getElem?_getD, List.getElem?_eq_getElem z]; rfl
    have e1 : D.int ((p : Int) + 1) = ni (p + 1) := (rfl)
    have e2 : D.int ((p : Int) + 2) = ni (p + 2) := (rfl)
    have pk := put_kvI m (F.getD (p + 1) 0) (p + 2)
    have oi : ownK' (some (.io (.dct (kvI m)))) = some (.io (.dct (kvI m)), kvI m) := (rfl)
    unfold ogF12
    wide_open with ((), z1, e1, g1, e2, oi, pk, rowE, tz_dct)
    rfl
  · rw [if_neg fun w => z w.2] at hm
    rw [hm] at rowE ⊢
    have z1 : decide ((p : Int) + 1 < (F.length : Int)) = false := decide_eq_false (by omega)
    unfold ogF12
    wide_open with ((), z1, rowE, tz_dct)
    rfl
/-- the graph -/
def ogA (F : List Nat) : List D := .dctF [(.inr (sg (F.getD 0 0)), .int 1)] :: (ogR F F.length).reverse
def ogE (F : List Nat) : List D := .bl false :: F.map fun c => .bl (decide (F.getLast? = some c))
def gr (A E : List D) : D := .obj [("arrows", .lst A), ("ends", .lst E)]
theorem og_tail {F : List Nat} (ok : okF F = true) : ∃ r, ogFt [.sh (tx F), .un, .own (.lst (ogR F F.length)), .sh (.int 0), .un, .un] = .ok (.rt (gr (ogA F) (ogE F)) r) := by
  obtain ⟨ok1, ok2⟩ := Bool.and_eq_true_iff.mp ok
  obtain ⟨hl, h8⟩ := Bool.and_eq_true_iff.mp ok2
  have hl := of_decide_eq_true hl
  have ne := of_decide_eq_true ok1
  have npos : 0 < F.length := List.length_pos_iff.mpr ne
  have h0 : F[0]? = some (F.getD 0 0) := by rw [List.getD_eq_getElem?_getD, List.getElem?_eq_getElem npos]; rfl
  obtain ⟨last, hlast⟩ : ∃ c, F.getLast? = some c := ⟨F.getLast ne, List.getLast?_eq_some_getLast ne⟩
  have rl := ogR_len F F.length
  have c := lcY (r := [.sh (tx F), .un, .sh (.lst (D.dctF [((.inr (mkS [F.getD 0 0]) : Key), D.int 1)] :: (ogR F F.length).reverse)), .sh (.int 0), .un, .un]) (own := [("letter", 5)]) (h := itX zD (gSh 0)) (g := gSet 5) (f := bin eqD (gAny 5) (bin ixD (gAny 0) (un1 negD (kc (.int 1))))) F (fun c => tx [c]) (fun c => .bl (decide (F.getLast? = some c))) (fun c => [.sh (tx F), .un, .sh (.lst (D.dctF [((.inr (mkS [F.getD 0 0]) : Key), D.int 1)] :: (ogR F F.length).reverse)), .sh (.int 0), .un, .sh (tx [c])]) rfl (by wide_open with ((), DL.eq_non)) (by omega) (fun _ => rfl) fun c hc => by
    have e : decide (c = last) = decide (some last = some c) := by
      rw [Bool.eq_iff_iff, decide_eq_true_eq, decide_eq_true_eq]
      exact ⟨fun h => by rw [h], fun h => (Option.some.inj h).symm⟩
    wide_open with ((), hlast)
    rw [e]
  have rv : (ogR F F.length ++ [D.dctF [((.inr (mkS [F.getD 0 0]) : Key), D.int 1)]]).reverse = D.dctF [((.inr (mkS [F.getD 0 0]) : Key), D.int 1)] :: (ogR F F.length).reverse := by rw [List.reverse_append]; rfl
  have mk : ∀ a b : D, mkG "arrows" "ends" [a, b] = .ok (.obj [("arrows", a), ("ends", b)]) := fun _ _ => (rfl)
  have fl : flatD (.int 1) = true := rfl
  refine ⟨[.sh (tx F), .un, .sh (.lst (D.dctF [((.inr (mkS [F.getD 0 0]) : Key), D.int 1)] :: (ogR F F.length).reverse)), .sh (.int 0), .un, .un], ?_⟩
  unfold ogFt
  wide_open with ((), h0, fl, tz_dct, rv, c, mk)
  rfl
/-- what the def gives -/
theorem og_fn {F : List Nat} (ok : okF F = true) : fnD 6 1 (bOg ogFt) [tx F] = .ok (gr (ogA F) (ogE F)) := by
  obtain ⟨r, e⟩ := og_tail ok
  refine fnD_rt (r1 := r) rfl (show bOg ogFt [.sh (tx F), .un, .un, .un, .un, .un] = _ from ?_)
  show (if okF F = true then _ else _) = _
  rw [if_pos ok]
  exact e
end DL

end
section
namespace PT
/-! ### letters by their first places -/
def ods : List Nat → List Nat → List Nat
  | o, [] => o
  | o, c :: l => ods (if c ∈ o then o else o ++ [c]) l
abbrev od (f : List Nat) : List Nat := ods [] f
def ix (o : List Nat) (c : Nat) : Nat := (pl o c 0).head?.getD 0
def pln (f : List Nat) : List Nat := f.map fun c => 97 + ix (od f) c
end PT

end
section
namespace PT
/-! ### words of a graph without rings -/
def wds (R : List (List (Nat × Nat))) (E : List Bool) : Nat → Nat → List (List Nat)
  | 0, _ => []
  | f + 1, v => (if E.getD v false = true then [[]] else []) ++ ((R.getD v []).flatMap fun p => (wds R E f p.2).map fun l => p.1 :: l)
def Up (R : List (List (Nat × Nat))) : Prop := ∀ v, ∀ p ∈ R.getD v [], v < p.2 ∧ p.2 < R.length
def wd (R : List (List (Nat × Nat))) (E : List Bool) (v : Nat) : List (List Nat) := wds R E (R.length - v) v
theorem flat_congr {α β : Type} {f g : α → List β} : ∀ {l : List α}, (∀ a ∈ l, f a = g a) → l.flatMap f = l.flatMap g
  | [], _ => rfl
  | a :: l, h => by rw [List.flatMap_cons, List.flatMap_cons, h a List.mem_cons_self, flat_congr fun b hb => h b (List.mem_cons_of_mem _ hb)]
theorem wds_fuel {R : List (List (Nat × Nat))} {E : List Bool} (h : Up R) : ∀ (n v : Nat), R.length - v ≤ n → v < R.length → ∀ f g, R.length - v ≤ f → R.length - v ≤ g → wds R E f v = wds R E g v := by
  intro n
  induction n with
  | zero => intro v h1 h2; omega
  | succ n ih =>
    intro v h1 h2 f g hf hg
    obtain ⟨f, rfl⟩ : ∃ k, f = k + 1 := ⟨f - 1, by omega⟩
    obtain ⟨g, rfl⟩ : ∃ k, g = k + 1 := ⟨g - 1, by omega⟩
    unfold wds
    congr 1
    refine flat_congr fun p hp => ?_
    obtain ⟨u1, u2⟩ := h v p hp
    rw [ih p.2 (by omega) u2 f g (by omega) (by omega)]
theorem wd_eq {R : List (List (Nat × Nat))} {E : List Bool} (h : Up R) {v : Nat} (hv : v < R.length) : wd R E v = (if E.getD v false = true then [[]] else []) ++ ((R.getD v []).flatMap fun p => (wd R E p.2).map fun l => p.1 :: l) := by
  unfold wd
  obtain ⟨k, e⟩ : ∃ k, R.length - v = k + 1 := ⟨R.length - v - 1, by omega⟩
  rw [e]
  have e2 : wds R E (k + 1) v = (if E.getD v false = true then [[]] else []) ++ ((R.getD v []).flatMap fun p => (wds R E k p.2).map fun l => p.1 :: l) := rfl
  rw [e2]
  congr 1
  refine flat_congr fun p hp => ?_
  obtain ⟨u1, u2⟩ := h v p hp
  rw [wds_fuel h (R.length - p.2) p.2 (Nat.le_refl _) u2 k (R.length - p.2) (by omega) (Nat.le_refl _)]
theorem flat_len {α β : Type} {f : α → List β} : ∀ {l : List α}, (l.flatMap f).length = (l.map fun a => (f a).length).sum
  | [] => rfl
  | a :: l => by rw [List.flatMap_cons, List.length_append, flat_len, List.map_cons, List.sum_cons]
theorem wd_len {R : List (List (Nat × Nat))} {E : List Bool} (h : Up R) {v : Nat} (hv : v < R.length) : (wd R E v).length = ((R.getD v []).map fun p => (wd R E p.2).length).sum + (if E.getD v false = true then 1 else 0) := by
  rw [wd_eq h hv, List.length_append, flat_len, Nat.add_comm]
  congr 1
  · congr 1
    apply List.map_congr_left
    intro p _
    rw [List.length_map]
  · split <;> rfl
/-- the counts when the last i nodes are done -/
def csI (R : List (List (Nat × Nat))) (E : List Bool) (i : Nat) : List Nat := (List.range R.length).map fun v => if R.length - i ≤ v then (wd R E v).length else 0
theorem csI_len (R : List (List (Nat × Nat))) (E : List Bool) (i : Nat) : (csI R E i).length = R.length := by unfold csI; rw [List.length_map, List.length_range]
theorem csI_get {R : List (List (Nat × Nat))} {E : List Bool} {i v : Nat} (hv : v < R.length) : (csI R E i)[v]? = some (if R.length - i ≤ v then (wd R E v).length else 0) := by
  unfold csI
  rw [List.getElem?_map, List.getElem?_range hv]
  rfl
theorem csI_set {R : List (List (Nat × Nat))} {E : List Bool} {i : Nat} (hi : i < R.length) : (csI R E i).set (R.length - 1 - i) (wd R E (R.length - 1 - i)).length = csI R E (i + 1) := by
  apply List.ext_getElem?
  intro v
  by_cases hv : v < R.length
  · rw [csI_get hv]
    by_cases z : R.length - 1 - i = v
    · rw [z, List.getElem?_set_self (by rw [csI_len]; exact hv), if_pos (by omega)]
    · rw [List.getElem?_set_ne z, csI_get hv]
      by_cases y : R.length - i ≤ v
      · rw [if_pos y, if_pos (by omega)]
      · rw [if_neg y, if_neg (by omega)]
  · rw [List.getElem?_eq_none (by rw [List.length_set, csI_len]; omega), List.getElem?_eq_none (by rw [csI_len]; omega)]
end PT

end
section
namespace PT
/-! ### the graph of the outcomes -/
def nxl (F : List Nat) (p d : Nat) : List Nat := (List.range' p (F.length - p)).filter fun q => decide (F[q]? = F[p]? ∧ F[q + 1]? = some d)
def nx (F : List Nat) (p d : Nat) : Option Nat := (nxl F p d).head?
theorem mem_nxl {F : List Nat} {p d q : Nat} : q ∈ nxl F p d ↔ p ≤ q ∧ q + 1 < F.length ∧ F[q]? = F[p]? ∧ F[q + 1]? = some d := by
  unfold nxl
  rw [List.mem_filter, List.mem_range'_1, decide_eq_true_eq]
  constructor
  · rintro ⟨⟨h1, h2⟩, h3, h4⟩
    exact ⟨h1, (List.getElem?_eq_some_iff.mp h4).1, h3, h4⟩
  · rintro ⟨h1, h2, h3, h4⟩
    exact ⟨⟨h1, by omega⟩, h3, h4⟩
theorem nx_some {F : List Nat} {p d q : Nat} : nx F p d = some q ↔ (p ≤ q ∧ q + 1 < F.length ∧ F[q]? = F[p]? ∧ F[q + 1]? = some d) ∧ ∀ q', p ≤ q' → F[q']? = F[p]? → F[q' + 1]? = some d → q ≤ q' := by
  unfold nx
  constructor
  · intro h
    refine ⟨mem_nxl.mp (List.mem_of_head? h), fun q' h1 h2 h3 => ?_⟩
    have hm : q' ∈ nxl F p d := mem_nxl.mpr ⟨h1, (List.getElem?_eq_some_iff.mp h3).1, h2, h3⟩
    have hs : (nxl F p d).Pairwise (· < ·) := List.Pairwise.filter _ (List.pairwise_lt_range' ..)
    cases e : nxl F p d with
    | nil => rw [e] at h; cases h
    | cons a l =>
      rw [e] at h hm hs
      cases h
      rcases List.mem_cons.mp hm with z | z
      · omega
      · have := (List.pairwise_cons.mp hs).1 q' z
        omega
  · rintro ⟨h1, h2⟩
    have hm := mem_nxl.mpr h1
    have hs : (nxl F p d).Pairwise (· < ·) := List.Pairwise.filter _ (List.pairwise_lt_range' ..)
    cases e : nxl F p d with
    | nil => rw [e] at hm; cases hm
    | cons a l =>
      have ha : a ∈ nxl F p d := by rw [e]; exact List.mem_cons_self
      obtain ⟨a1, a2, a3, a4⟩ := mem_nxl.mp ha
      have := h2 a a1 a3 a4
      rw [e] at hm hs
      rcases List.mem_cons.mp hm with z | z
      · rw [z]; rfl
      · have := (List.pairwise_cons.mp hs).1 q z
        omega
theorem nx_none {F : List Nat} {p d : Nat} : nx F p d = none ↔ ∀ q', p ≤ q' → F[q']? = F[p]? → F[q' + 1]? ≠ some d := by
  unfold nx
  rw [List.head?_eq_none_iff]
  constructor
  · intro h q' h1 h2 h3
    have : q' ∈ nxl F p d := mem_nxl.mpr ⟨h1, (List.getElem?_eq_some_iff.mp h3).1, h2, h3⟩
    rw [h] at this
    cases this
  · intro h
    cases e : nxl F p d with
    | nil => rfl
    | cons a l =>
      have ha : a ∈ nxl F p d := by rw [e]; exact List.mem_cons_self
      obtain ⟨a1, a2, a3, a4⟩ := mem_nxl.mp ha
      exact absurd a4 (h a a1 a3)
def orow (F : List Nat) (p : Nat) : List (Nat × Nat) := L8.filterMap fun d => (nx F p d).map fun q => (d, q + 2)
theorem mem_orow {F : List Nat} {p : Nat} {x : Nat × Nat} : x ∈ orow F p ↔ x.1 ∈ L8 ∧ ∃ q, nx F p x.1 = some q ∧ x.2 = q + 2 := by
  unfold orow
  rw [List.mem_filterMap]
  constructor
  · rintro ⟨d, hd, e⟩
    obtain ⟨q, e1, e2⟩ := Option.map_eq_some_iff.mp e
    subst e2
    exact ⟨hd, q, e1, rfl⟩
  · rintro ⟨h1, q, h2, h3⟩
    exact ⟨x.1, h1, by rw [h2]; show some (x.1, q + 2) = some x; rw [← h3]⟩
def oR (F : List Nat) : List (List (Nat × Nat)) := [(F.getD 0 0, 1)] :: (List.range F.length).map (orow F)
def oE (F : List Nat) : List Bool := false :: F.map fun c => decide (F.getLast? = some c)
theorem oR_len (F : List Nat) : (oR F).length = F.length + 1 := by unfold oR; simp
theorem oE_len (F : List Nat) : (oE F).length = F.length + 1 := by unfold oE; simp
theorem oR_row {F : List Nat} {p : Nat} (h : p < F.length) : (oR F).getD (p + 1) [] = orow F p := by
  unfold oR
  rw [List.getD_cons_succ, List.getD_eq_getElem?_getD, List.getElem?_map, List.getElem?_range h]
  rfl
theorem oR_beyond {F : List Nat} {p : Nat} (h : F.length ≤ p) : (oR F).getD (p + 1) [] = [] := by
  unfold oR
  rw [List.getD_cons_succ, List.getD_eq_getElem?_getD, List.getElem?_eq_none (by simpa using h)]
  rfl
theorem oE_at {F : List Nat} {p c : Nat} (h : F[p]? = some c) : (oE F).getD (p + 1) false = decide (F.getLast? = some c) := by
  unfold oE
  rw [List.getD_cons_succ, List.getD_eq_getElem?_getD, List.getElem?_map, h]
  rfl
theorem oR_up {F : List Nat} (hF : F ≠ []) : Up (oR F) := by
  intro v p hp
  rw [oR_len]
  cases v with
  | zero =>
    have : p = (F.getD 0 0, 1) := by
      have h : p ∈ [(F.getD 0 0, 1)] := hp
      simpa using h
    rw [this]
    have := List.length_pos_iff.mpr hF
    exact ⟨Nat.one_pos, by show 1 < _; omega⟩
  | succ p0 =>
    by_cases h : p0 < F.length
    · rw [oR_row h] at hp
      obtain ⟨_, q, e1, e2⟩ := mem_orow.mp hp
      obtain ⟨⟨a1, a2, _⟩, _⟩ := nx_some.mp e1
      rw [e2]
      omega
    · rw [oR_beyond (by omega)] at hp
      cases hp
theorem oR_short {F : List Nat} (v : Nat) : ((oR F).getD v []).length ≤ 1000 := by
  cases v with
  | zero => show (([(F.getD 0 0, 1)] : List (Nat × Nat))).length ≤ 1000; simp
  | succ p =>
    by_cases h : p < F.length
    · rw [oR_row h]
      have := List.length_filterMap_le (fun d => (nx F p d).map fun q => (d, q + 2)) L8
      have e : L8.length = 8 := rfl
      unfold orow
      omega
    · rw [oR_beyond (by omega)]
      exact Nat.zero_le _
theorem mem_wd {R : List (List (Nat × Nat))} {E : List Bool} (h : Up R) {v : Nat} (hv : v < R.length) {u : List Nat} : u ∈ wd R E v ↔ (E.getD v false = true ∧ u = []) ∨ ∃ p ∈ R.getD v [], ∃ l ∈ wd R E p.2, u = p.1 :: l := by
  rw [wd_eq h hv, List.mem_append]
  constructor
  · rintro (z | z)
    · by_cases q : E.getD v false = true
      · rw [if_pos q] at z
        exact .inl ⟨q, by simpa using z⟩
      · rw [if_neg q] at z
        cases z
    · obtain ⟨p, hp, z⟩ := List.mem_flatMap.mp z
      obtain ⟨l, hl, z⟩ := List.mem_map.mp z
      exact .inr ⟨p, hp, l, hl, z.symm⟩
  · rintro (⟨q, z⟩ | ⟨p, hp, l, hl, z⟩)
    · rw [if_pos q, z]
      exact .inl (by simp)
    · exact .inr (List.mem_flatMap.mpr ⟨p, hp, List.mem_map.mpr ⟨l, hl, z.symm⟩⟩)
/-- how a word goes on behind a block's first start -/
def Cont (F : List Nat) : Nat → List Nat → Prop
  | p, [] => F[p]? = F.getLast?
  | p, d :: u => ∃ q, nx F p d = some q ∧ Cont F (q + 1) u
theorem wd_cont {F : List Nat} (hF : F ≠ []) (h8 : ∀ c ∈ F, c ∈ L8) : ∀ (u : List Nat) (p : Nat), p < F.length → (u ∈ wd (oR F) (oE F) (p + 1) ↔ Cont F p u)
  | [], p, hp => by
    have e : F[p]? = some F[p] := List.getElem?_eq_getElem hp
    rw [mem_wd (oR_up hF) (by rw [oR_len]; omega), oE_at e, decide_eq_true_eq]
    show _ ↔ F[p]? = F.getLast?
    rw [e]
    constructor
    · rintro (⟨z, _⟩ | ⟨_, _, _, _, z⟩)
      · exact z.symm
      · cases z
    · intro z
      exact .inl ⟨z.symm, rfl⟩
  | d :: u, p, hp => by
    rw [mem_wd (oR_up hF) (by rw [oR_len]; omega), oR_row hp]
    constructor
    · rintro (⟨_, z⟩ | ⟨x, hx, l, hl, z⟩)
      · cases z
      · obtain ⟨x1, q, e1, e2⟩ := mem_orow.mp hx
        obtain ⟨⟨a1, a2, _⟩, _⟩ := nx_some.mp e1
        cases z
        rw [e2] at hl
        exact ⟨q, e1, (wd_cont hF h8 _ (q + 1) a2).mp hl⟩
    · rintro ⟨q, e1, hc⟩
      obtain ⟨⟨a1, a2, a3, a4⟩, _⟩ := nx_some.mp e1
      exact .inr ⟨(d, q + 2), mem_orow.mpr ⟨h8 d (List.mem_of_getElem? a4), q, e1, rfl⟩, u, (wd_cont hF h8 u (q + 1) a2).mpr hc, rfl⟩
theorem W_last {F g : List Nat} (hg : g ≠ []) : 0 < W g F ↔ F.getLast? = g.getLast? ∧ ∃ s, S F g (g.length - 1) s := by
  obtain ⟨g', c, rfl⟩ : ∃ g' c, g = g' ++ [c] := ⟨g.dropLast, g.getLast hg, (List.dropLast_concat_getLast hg).symm⟩
  have e1 : (g' ++ [c]).length - 1 = g'.length := by simp
  have e2 : (g' ++ [c])[g'.length]? = some c := by simp
  have e3 : (g' ++ [c]).take g'.length = g' := by simp
  have e4 : (g' ++ [c]).getLast? = some c := by simp
  rw [W_snoc, e1, e4]
  unfold S
  rw [e2, e3]
  constructor
  · rintro ⟨k, h1, h2, h3, h4⟩
    have hk : k < F.length := by
      by_cases z : k < F.length
      · exact z
      · rw [List.drop_of_length_le (by omega)] at h3
        cases h3
    refine ⟨?_, k, by simp, ?_, h2⟩
    · rw [List.getLast?_drop, if_neg (by omega)] at h4
      exact h4
    · rw [List.head?_drop] at h3
      exact h3
  · rintro ⟨h1, s, _, h3, h4⟩
    have hs := (List.getElem?_eq_some_iff.mp h3).1
    refine ⟨s, by omega, h4, by rw [List.head?_drop]; exact h3, ?_⟩
    rw [List.getLast?_drop, if_neg (by omega)]
    exact h1
theorem cont_W {F g : List Nat} : ∀ (u : List Nat) (i p : Nat), Lst F g i p → g.drop (i + 1) = u → (Cont F p u ↔ F.getLast? = g.getLast? ∧ ∃ s, S F g (g.length - 1) s)
  | [], i, p, hL, hu => by
    obtain ⟨h1, h2⟩ := hL
    obtain ⟨a1, a2, a3⟩ := id h1
    have hi : i = g.length - 1 := by
      have := congrArg List.length hu
      rw [List.length_drop, List.length_nil] at this
      omega
    have gl : g.getLast? = g[i]? := by rw [List.getLast?_eq_getElem?, hi]
    show F[p]? = F.getLast? ↔ _
    rw [gl, ← a2]
    exact ⟨fun z => ⟨z.symm, p, by rw [← hi]; exact h1⟩, fun z => z.1.symm⟩
  | d :: u, i, p, hL, hu => by
    have hi : i + 1 < g.length := by
      have := congrArg List.length hu
      rw [List.length_drop, List.length_cons] at this
      omega
    have gd : g[i + 1]? = some d := by
      have := congrArg (fun l : List Nat => l[0]?) hu
      simpa using this
    have hu2 : g.drop (i + 1 + 1) = u := by
      have := congrArg (fun l : List Nat => l.drop 1) hu
      simpa using this
    have fp : F[p]? = g[i]? := hL.1.2.1
    have step : ∀ q, nx F p d = some q → Lst F g (i + 1) (q + 1) := fun q e => by
      obtain ⟨⟨a1, a2, a3, a4⟩, a5⟩ := nx_some.mp e
      refine ⟨(S_from hL).mpr ⟨a1, hi, by rw [a3, fp], by rw [a4, gd]⟩, fun s' hs' => ?_⟩
      obtain ⟨p', e1, _⟩ := S_succ.mp hs'
      subst e1
      obtain ⟨b1, _, b3, b4⟩ := (S_from hL).mp hs'
      have := a5 p' b1 (by rw [b3, fp]) (by rw [b4, gd])
      omega
    constructor
    · rintro ⟨q, e, hc⟩
      exact (cont_W u (i + 1) (q + 1) (step q e) hu2).mp hc
    · rintro ⟨h1, s, hs⟩
      obtain ⟨s', hs'⟩ := S_down hs (i + 1) (by omega)
      obtain ⟨p', e1, _⟩ := S_succ.mp hs'
      subst e1
      obtain ⟨b1, _, b3, b4⟩ := (S_from hL).mp hs'
      cases e : nx F p d with
      | none => exact absurd (by rw [b4, gd]) (nx_none.mp e p' b1 (by rw [b3, fp]))
      | some q => exact ⟨q, e, (cont_W u (i + 1) (q + 1) (step q e) hu2).mpr ⟨h1, s, hs⟩⟩
/-- its words are the outcomes -/
theorem wd_W {F : List Nat} (hF : F ≠ []) (h8 : ∀ c ∈ F, c ∈ L8) (g : List Nat) : g ∈ wd (oR F) (oE F) 0 ↔ 0 < W g F := by
  have npos := List.length_pos_iff.mpr hF
  have f0 : F[0]? = some (F.getD 0 0) := by rw [List.getD_eq_getElem?_getD, List.getElem?_eq_getElem npos]; rfl
  rw [mem_wd (oR_up hF) (by rw [oR_len]; omega)]
  cases g with
  | nil =>
    have : ¬ 0 < W [] F := by
      show ¬ 0 < (if F = [] then 1 else 0)
      rw [if_neg hF]
      omega
    constructor
    · rintro (⟨z, _⟩ | ⟨_, _, _, _, z⟩)
      · cases z
      · cases z
    · intro z
      exact absurd z this
  | cons c u =>
    rw [W_last (by simp)]
    constructor
    · rintro (⟨_, z⟩ | ⟨x, hx, l, hl, z⟩)
      · cases z
      · have ex : x = (F.getD 0 0, 1) := by
          have h : x ∈ [(F.getD 0 0, 1)] := hx
          simpa using h
        subst ex
        cases z
        have hL : Lst F (F.getD 0 0 :: u) 0 0 := ⟨(S_zero hF).mpr ⟨rfl, by simp, by rw [f0]; rfl⟩, fun _ _ => Nat.zero_le _⟩
        exact (cont_W u 0 0 hL rfl).mp ((wd_cont hF h8 u 0 npos).mp hl)
    · rintro ⟨h1, s, hs⟩
      obtain ⟨s', hs'⟩ := S_down hs 0 (Nat.zero_le _)
      obtain ⟨_, _, e⟩ := (S_zero hF).mp hs'
      have ec : c = F.getD 0 0 := by
        rw [f0] at e
        exact (Option.some.inj e).symm
      have hL : Lst F (c :: u) 0 0 := ⟨(S_zero hF).mpr ⟨rfl, by simp, e⟩, fun _ _ => Nat.zero_le _⟩
      refine .inr ⟨(F.getD 0 0, 1), List.mem_cons_self, u, (wd_cont hF h8 u 0 npos).mpr ((cont_W u 0 0 hL rfl).mpr ⟨h1, s, hs⟩), by rw [ec]⟩
end PT

end
section
namespace PT
def Dis (R : List (List (Nat × Nat))) : Prop := ∀ v, ((R.getD v []).map (·.1)).Nodup
theorem flat_nodup {f : Nat × Nat → List (List Nat)} : ∀ {L : List (Nat × Nat)}, (L.map (·.1)).Nodup → (∀ p ∈ L, (f p).Nodup) → (L.flatMap fun p => (f p).map fun l => p.1 :: l).Nodup
  | [], _, _ => List.nodup_nil
  | p :: L, hn, hf => by
    rw [List.map_cons] at hn
    obtain ⟨n1, n2⟩ := List.nodup_cons.mp hn
    rw [List.flatMap_cons]
    refine List.nodup_append.mpr ⟨List.Pairwise.map _ (fun a b h z => h (List.cons.inj z).2) (hf p List.mem_cons_self), flat_nodup n2 fun q hq => hf q (List.mem_cons_of_mem _ hq), fun a ha b hb z => ?_⟩
    obtain ⟨l, _, e1⟩ := List.mem_map.mp ha
    obtain ⟨q, hq, hb⟩ := List.mem_flatMap.mp hb
    obtain ⟨l', _, e2⟩ := List.mem_map.mp hb
    rw [← e1, ← e2] at z
    exact n1 (List.mem_map.mpr ⟨q, hq, (List.cons.inj z).1.symm⟩)
theorem wds_nodup {R : List (List (Nat × Nat))} {E : List Bool} (h : Dis R) : ∀ (f v : Nat), (wds R E f v).Nodup
  | 0, v => List.nodup_nil
  | f + 1, v => by
    unfold wds
    refine List.nodup_append.mpr ⟨by split <;> simp, flat_nodup (f := fun p => wds R E f p.2) (h v) fun p _ => wds_nodup h f p.2, fun a ha b hb z => ?_⟩
    obtain ⟨q, _, hb⟩ := List.mem_flatMap.mp hb
    obtain ⟨l, _, e⟩ := List.mem_map.mp hb
    split at ha
    · rw [List.mem_singleton.mp ha, ← e] at z
      cases z
    · cases ha
theorem orow_fst (F : List Nat) (p : Nat) : ((orow F p).map (·.1)).Sublist L8 := by
  unfold orow
  rw [List.map_filterMap]
  have : ∀ L : List Nat, (L.filterMap fun d => ((nx F p d).map fun q => (d, q + 2)).map fun x : Nat × Nat => x.1).Sublist L := by
    intro L
    induction L with
    | nil => exact List.Sublist.refl _
    | cons d L ih =>
      rw [List.filterMap_cons]
      cases nx F p d with
      | none => exact List.Sublist.cons _ ih
      | some q => exact List.Sublist.cons_cons _ ih
  exact this L8
theorem oR_dis {F : List Nat} : Dis (oR F) := fun v => by
  cases v with
  | zero => show (([(F.getD 0 0, 1)] : List (Nat × Nat)).map (·.1)).Nodup; simp
  | succ p =>
    by_cases h : p < F.length
    · rw [oR_row h]
      exact (orow_fst F p).nodup L8_nodup
    · rw [oR_beyond (by omega)]
      exact List.nodup_nil
/-- the outcomes, by the alphabet -/
def ocs (F : List Nat) : List (List Nat) := wd (oR F) (oE F) 0
theorem ocs_nodup (F : List Nat) : (ocs F).Nodup := wds_nodup oR_dis _ _
/-! the dict of dicts, by letters -/
theorem filter_map_opt {α : Type} {o : α → Option Nat} : ∀ L : List α, (L.filter fun d => (o d).isSome).map (fun d => (d, (o d).getD 0)) = L.filterMap fun d => (o d).map fun v => (d, v)
  | [] => rfl
  | d :: L => by
    have ih := filter_map_opt (o := o) L
    rw [List.filterMap_cons]
    cases q : o d with
    | none =>
      rw [List.filter_cons_of_neg (by rw [q]; decide)]
      exact ih
    | some v =>
      rw [List.filter_cons_of_pos (by rw [q]; rfl), List.map_cons, q, ih]
      rfl
end PT

end
section
namespace DL
open PySem L2 PT
theorem lookup_putI : ∀ (m : List (Nat × Nat)) (c v d : Nat), (putI m c v).lookup d = if d = c then some v else m.lookup d := by
  intro m c v d
  unfold putI
  by_cases z : (m.any fun p => decide (p.1 = c)) = true
  · rw [if_pos z]
    have key : ∀ m : List (Nat × Nat), (m.map fun p => if p.1 = c then (p.1, v) else p).lookup d = if d = c then (m.lookup d).map fun _ => v else m.lookup d := by
      intro m
      induction m with
      | nil => simp
      | cons p m ih =>
        rw [List.map_cons, List.lookup_cons, List.lookup_cons, ih]
        by_cases a : p.1 = c
        · rw [if_pos a]
          by_cases b : d = p.1
          · have b' : (d == p.1) = true := by simpa using b
            simp only [b']
            rw [if_pos (by rw [b, a])]
            rfl
          · have b' : (d == p.1) = false := by simpa using b
            simp only [b']
        · rw [if_neg a]
          by_cases b : d = p.1
          · have b' : (d == p.1) = true := by simpa using b
            simp only [b']
            rw [if_neg (by rw [b]; exact a)]
          · have b' : (d == p.1) = false := by simpa using b
            simp only [b']
    rw [key]
    by_cases w : d = c
    · rw [if_pos w, if_pos w]
      obtain ⟨p, hp, e⟩ := List.any_eq_true.mp z
      have e := of_decide_eq_true e
      cases q : m.lookup d with
      | some x => rfl
      | none =>
        have := List.lookup_eq_none_iff.mp q p hp
        rw [e, ← w] at this
        simp at this
    · rw [if_neg w, if_neg w]
  · rw [if_neg z, List.lookup_append]
    by_cases w : d = c
    · rw [if_pos w]
      have : m.lookup d = none := List.lookup_eq_none_iff.mpr fun p hp => by
        have : ¬ p.1 = c := fun y => z (List.any_eq_true.mpr ⟨p, hp, decide_eq_true y⟩)
        rw [w]
        simpa using Ne.symm this
      rw [this, w]
      simp
    · rw [if_neg w]
      have : ([(c, v)] : List (Nat × Nat)).lookup d = none := by
        rw [List.lookup_cons]
        have : (d == c) = false := by simpa using w
        rw [this]
        rfl
      rw [this, Option.or_none]
theorem ogM_lookup (F : List Nat) (c d : Nat) : ∀ i, i ≤ F.length → (ogM F i c).lookup d = ((List.range' (F.length - i) i).filter fun q => decide (F[q]? = some c ∧ F[q + 1]? = some d)).head?.map (· + 2)
  | 0, _ => rfl
  | i + 1, h => by
    have ih := ogM_lookup F c d i (by omega)
    generalize hp : F.length - (i + 1) = p
    have e1 : F.length - 1 - i = p := by omega
    have e2 : F.length - i = p + 1 := by omega
    rw [e2] at ih
    have hm : ogM F (i + 1) c = if c = F.getD (F.length - 1 - i) 0 ∧ F.length - 1 - i + 1 < F.length then putI (ogM F i c) (F.getD (F.length - 1 - i + 1) 0) (F.length - 1 - i + 2) else ogM F i c := rfl
    rw [e1] at hm
    rw [hm, List.range'_succ]
    have gp : F[p]? = some (F.getD p 0) := by rw [List.getD_eq_getElem?_getD, List.getElem?_eq_getElem (by omega)]; rfl
    by_cases z : c = F.getD p 0 ∧ p + 1 < F.length
    · have gp1 : F[p + 1]? = some (F.getD (p + 1) 0) := by rw [List.getD_eq_getElem?_getD, List.getElem?_eq_getElem z.2]; rfl
      rw [if_pos z, lookup_putI]
      by_cases w : d = F.getD (p + 1) 0
      · rw [if_pos w]
        have fc : (p :: List.range' (p + 1) i).filter (fun q => decide (F[q]? = some c ∧ F[q + 1]? = some d)) = p :: (List.range' (p + 1) i).filter fun q => decide (F[q]? = some c ∧ F[q + 1]? = some d) := List.filter_cons_of_pos (p := fun q => decide (F[q]? = some c ∧ F[q + 1]? = some d)) (decide_eq_true ⟨by rw [gp, z.1], by rw [gp1, w]⟩)
        rw [fc]
        rfl
      · rw [if_neg w]
        have fc : (p :: List.range' (p + 1) i).filter (fun q => decide (F[q]? = some c ∧ F[q + 1]? = some d)) = (List.range' (p + 1) i).filter fun q => decide (F[q]? = some c ∧ F[q + 1]? = some d) := List.filter_cons_of_neg (p := fun q => decide (F[q]? = some c ∧ F[q + 1]? = some d)) (by
          rw [decide_eq_true_eq]
          rintro ⟨_, y⟩
          rw [gp1] at y
          exact w (Option.some.inj y).symm)
        rw [fc]
        exact ih
    · rw [if_neg z]
      have fc : (p :: List.range' (p + 1) i).filter (fun q => decide (F[q]? = some c ∧ F[q + 1]? = some d)) = (List.range' (p + 1) i).filter fun q => decide (F[q]? = some c ∧ F[q + 1]? = some d) := List.filter_cons_of_neg (p := fun q => decide (F[q]? = some c ∧ F[q + 1]? = some d)) (by
        rw [decide_eq_true_eq]
        rintro ⟨y1, y2⟩
        rw [gp] at y1
        exact z ⟨(Option.some.inj y1).symm, (List.getElem?_eq_some_iff.mp y2).1⟩)
      rw [fc]
      exact ih
def rwX (r : List (Nat × Nat)) : D := .dctF (r.map fun p => ((.inr (mkS [p.1]) : Key), ni p.2))
theorem row_orow {F : List Nat} {p : Nat} (hp : p < F.length) : rowD (ogM F (F.length - p) (F.getD p 0)) = rwX (orow F p) := by
  have gp : F[p]? = some (F.getD p 0) := by rw [List.getD_eq_getElem?_getD, List.getElem?_eq_getElem hp]; rfl
  have lk : ∀ d, (ogM F (F.length - p) (F.getD p 0)).lookup d = (nx F p d).map (· + 2) := fun d => by
    rw [ogM_lookup F (F.getD p 0) d (F.length - p) (by omega)]
    unfold nx nxl
    rw [gp]
    have : F.length - (F.length - p) = p := by omega
    rw [this]
  have mk : ∀ d, decide (d ∈ (ogM F (F.length - p) (F.getD p 0)).map (·.1)) = ((ogM F (F.length - p) (F.getD p 0)).lookup d).isSome := fun d => by
    generalize ogM F (F.length - p) (F.getD p 0) = m
    rw [Bool.eq_iff_iff, decide_eq_true_eq]
    cases q : m.lookup d with
    | none =>
      constructor
      · intro h
        obtain ⟨x, hx, e⟩ := List.mem_map.mp h
        have := List.lookup_eq_none_iff.mp q x hx
        rw [e] at this
        simp at this
      · intro h; cases h
    | some v =>
      refine ⟨fun _ => rfl, fun _ => ?_⟩
      have key : ∀ m : List (Nat × Nat), m.lookup d = some v → d ∈ m.map (·.1) := by
        intro m
        induction m with
        | nil => intro h; cases h
        | cons x m ih =>
          intro h
          rw [List.lookup_cons] at h
          by_cases b : d = x.1
          · exact List.mem_map.mpr ⟨x, List.mem_cons_self, b.symm⟩
          · have b' : (d == x.1) = false := by simpa using b
            rw [b'] at h
            rw [List.map_cons]
            exact List.mem_cons_of_mem _ (ih h)
      exact key m q
  unfold rowD rwX
  congr 1
  have e1 : orow F p = (abc8.filter fun d => ((ogM F (F.length - p) (F.getD p 0)).lookup d).isSome).map fun d => (d, ((ogM F (F.length - p) (F.getD p 0)).lookup d).getD 0) := by
    rw [filter_map_opt]
    unfold orow
    have : L8 = abc8 := by decide
    rw [this]
    congr 1
    funext d
    rw [lk d, Option.map_map]
    rfl
  rw [e1, List.map_map]
  have e2 : (fun d => decide (d ∈ (ogM F (F.length - p) (F.getD p 0)).map (·.1))) = fun d => ((ogM F (F.length - p) (F.getD p 0)).lookup d).isSome := funext mk
  rw [e2]
  rfl
theorem ogR_eq (F : List Nat) : ∀ i, ogR F i = (List.range i).map fun j => rowD (ogM F (j + 1) (F.getD (F.length - 1 - j) 0))
  | 0 => rfl
  | i + 1 => by
    show ogR F i ++ [_] = _
    rw [ogR_eq F i, List.range_succ, List.map_append]
    rfl
theorem ogA_eq (F : List Nat) : ogA F = (oR F).map rwX := by
  unfold ogA oR
  rw [List.map_cons]
  congr 1
  rw [ogR_eq, List.map_map]
  apply List.ext_getElem?
  intro p
  by_cases hp : p < F.length
  · rw [List.getElem?_reverse (by rw [List.length_map, List.length_range]; exact hp), List.length_map, List.length_range, List.getElem?_map, List.getElem?_map, List.getElem?_range (by omega), List.getElem?_range hp]
    have e1 : F.length - 1 - p + 1 = F.length - p := by omega
    have e2 : F.length - 1 - (F.length - 1 - p) = p := by omega
    show some (rowD (ogM F (F.length - 1 - p + 1) (F.getD (F.length - 1 - (F.length - 1 - p)) 0))) = some (rwX (orow F p))
    rw [e1, e2, row_orow hp]
  · rw [List.getElem?_eq_none (by simp; omega), List.getElem?_eq_none (by simp; omega)]
theorem ogE_eq (F : List Nat) : ogE F = (oE F).map D.bl := by
  unfold ogE oE
  rw [List.map_cons, List.map_map]
  rfl
/-- the graph of the outcomes of a film -/
theorem og_graph {F : List Nat} (ok : okF F = true) : fnD 6 1 (bOg ogFt) [tx F] = .ok (gr ((oR F).map rwX) ((oE F).map D.bl)) := by
  rw [og_fn ok, ogA_eq, ogE_eq]
end DL

end
section
namespace DL
open PySem L2
/-! ### bits, three numbers, str(int), divmod -/
section
variable {X : Cx} {W : WX} {e : Expr} {pos apos : Pos} {f : Env → R D}
abbrev shrD : D → D → Option D := intOp (fun _ j => decide (0 ≤ j)) fun i j => i / 2 ^ j.toNat
abbrev shlD : D → D → Option D := intOp (fun i j => decide (0 ≤ j ∧ (Builtin.Int.intBits i : Int) + j ≤ 2 ^ 27)) fun i j => i * 2 ^ j.toNat
abbrev bandD : D → D → Option D := intOp (fun _ _ => true) fun i j => Builtin.bitAnd i j
abbrev borD : D → D → Option D := intOp (fun _ _ => true) fun i j => Builtin.bitOr i j
def bitsD : D → Option D
  | .int i => some (.int (Builtin.Int.intBits i : Nat))
  | _ => none
def strID : List D → Option D
  | [.int i] => if i.natAbs.log2 < 1920 then some (.str (toString i)) else none
  | _ => none
def divmodD : List D → Option D
  | [.int i, .int j] => if 0 < j ∧ j < 1073741824 then some (.tup [.int (i / j), .int (i % j)]) else none
  | _ => none
def mm3D (F : Int → Int → Int) : List D → Option D
  | [.int i, .int j, .int k] => some (.int (F (F i j) k))
  | _ => none
end
end DL

end
section
namespace DL
open PySem PySem.Spec PyProof.Rows L2
/-! ### list(d.values()) -/
def tLV (te : TE) : TE := fun σ H Q => te σ H fun x H1 => ∃ (d : Addr) (kvs : List (Key × V)), x = .ref d ∧ Rd H1 d (.dK kvs) ∧ ∀ p, H1 p = none → Q (.ref p) (upd H1 p (.lst (kvs.map fun kv => kv.2)))
section
variable {X : Cx} {W : WX} {e : Expr} {te : TE} {p apos cpos pos : Pos} {f : DL.Env → DL.R DL.D}
def lstVaD (d : DL.D) : Option DL.D := (kvsD d).map fun kvs => .lst (kvs.map fun kv => kv.2)
end
end DL

end
section
set_option maxHeartbeats 2000000
namespace DL
open PySem PySem.Spec PyProof.Rows L2 PySem.Froz
/-! ### sorted(set(xs)), xs a short list of ints -/
section
variable {P : Program} {w : World} {A : Around} {E : Value → Shared → Prop} {s : Shared}
set_option maxRecDepth 100000 in
end
end DL

end
section
namespace DL
open PySem PySem.Spec PyProof.Rows L2 PySem.Froz
/-- ascending, each once -/
def insI (k : Int) : List Int → List Int
  | [] => [k]
  | a :: l => if k < a then k :: a :: l else if k = a then a :: l else a :: insI k l
def ddI (ns : List Int) : List Int := ns.foldr insI []
section
variable {X : Cx}
def rSetLI (K : PySem.W.Frag) (w : World) : List V → Hp → VK → Prop := fun xs H Q => ∃ (a : Addr) (ns : List Int), xs = [.ref a] ∧ SqL K H a (ns.map V.int) ∧ ns.length < 64 ∧ ∀ (p : Addr) (c : Nat), H p = none → c ≤ ns.length → Q (.ref p) (upd H p (SetO w p (fun j => decide (j ∈ ns)) c))
end
def srtSetID (d : D) : Option D := match d with
  | .lst xs => (intsD xs).bind fun ns => if ns.length < 64 then some (.lst ((ddI ns).map D.int)) else none
  | _ => none
section
variable {X : Cx} {W : WX} {a : Expr} {p p2 pos pos2 : Pos} {fa : Env → R D}
end
end DL

end
section
set_option maxHeartbeats 2000000
namespace DL
open PySem PySem.Spec PyProof.Rows L2
/-! ### del xs[a:c] of a slot's own list -/
section
variable {prog : Program} {w : World} {A : Around} {E : Value → Shared → Prop} {s : Shared}
end
section
variable {X : Cx} {o lo hi : Expr} {to tl th : TE} {p2 tpos pos : Pos}
def tDelSl (to tl th : TE) : TS := fun D σ H => to σ H fun x H1 => tl σ H1 fun y H2 => th σ H2 fun z H3 => ∃ (l : Addr) (xs : List V) (a c : Nat), x = .ref l ∧ y = .int (a : Int) ∧ z = .int (c : Int) ∧ H3 l = some (.lst xs) ∧ a ≤ c ∧ c ≤ xs.length ∧ D.nx σ (upd H3 l (.lst (xs.take a ++ xs.drop c)))
end
def delSl (i : Nat) (fl fh : Env → R D) : Env → R Fl := fun r => (R.ofO (ownL r i)).bind fun s => (fl r).bind fun x => (R.ofO (asN x)).bind fun a => (fh r).bind fun y => (R.ofO (asN y)).bind fun c => if a ≤ c ∧ c ≤ s.2.length then .ok (.nx (r.set i (s.1.put (.lst (s.2.take a ++ s.2.drop c))))) else .stk
section
variable {X : Cx} {W : WX} {lo hi : Expr} {x : Str} {p p2 tpos pos : Pos} {fl fh : Env → R D}
end
end DL

end
section
set_option maxHeartbeats 1000000
namespace DL
open PySem L2
/-! ### enumerate(text, start=1) -/
def enV1 (xs : List V) : List (List V) := xs.zipIdx.map fun p => [V.int (1 + (p.2 : Nat) : Int), p.1]
def hasE1 (K : PySem.W.Frag) (z : Zs) (H : Hp) (rows : List (List V)) : Prop := ∃ xs, z.has K H xs ∧ rows = enV1 xs
def tnE1 (N : Addr) (z : Zs) (i : Nat) (h : Heap) : Prop := (∃ old, IsEnum h (N + 1) N (1 + (i : Int)) old) ∧ z.st N i h
def iEn1 (K : PySem.W.Frag) (ta : TA) (tk : TA) : TI := fun σ H R => ta σ H fun vs H1 => tk σ H1 fun ks H2 => ∃ x, vs = [V.str x] ∧ ks = [V.int 1] ∧ R (ItR (hasE1 K (.s x))) H2
section
variable {X : Cx} {e : Expr} {kws : List Keyword} {ta tk : TA} {p pos tpos : Pos} {elts : List Expr} {kk : Nat}
end
def en1D : List D → Option (List D)
  | [.str z] => some ((sgs z).zipIdx.map fun p => D.tup [.int (1 + (p.2 : Nat) : Int), p.1])
  | _ => none
section
variable {X : Cx} {W : WX} {a ke : Expr} {p pos tpos kp : Pos} {elts : List Expr} {kk : Nat} {g : Env → R (List D)}
end
end DL

end
section
namespace DL
open PySem L2
/-! ### x, y, z = a, b, c: three local names -/
def parS3 (i j l : Nat) (f : Env → R (List D × Env)) : Env → R Fl := fun r => (f r).bind fun p => match p.1 with
  | [d, e, g] => .ok (.nx (((p.2.set i (.sh d)).set j (.sh e)).set l (.sh g)))
  | _ => .stk
section
variable {X : Cx} {W : WX} {x : Str} {pos : Pos}
/-- x, y, z = a, b, c: a value, a new list, a value -/
def par3SOS (i j l : Nat) (fa fb fc : Env → R D) : Env → R Fl := fun r => (fa r).bind fun a => (fb r).bind fun b => (R.ne (fc r)).bind fun c => .ok (.nx (((r.set i (.sh a)).set j (.own b)).set l (.sh c)))
end
end DL

end
section
namespace DL
open PySem PySem.W L2 PyProof.Rows
/-! ### max(xs, default=None), min(xs, default=None) of a list of ints; a new list by a condition -/
def rMaxK (K : PySem.W.Frag) : List V → List V → Hp → VK → Prop := fun vs zs H Q => ∃ (a : Addr) (ns : List Int), vs = [V.ref a] ∧ zs = [.non] ∧ SqL K H a (ns.map V.int) ∧ (ns = [] → Q .non H) ∧ ∀ m, m ∈ ns → (∀ y, y ∈ ns → y ≤ m) → Q (.int m) H
def rMinK (K : PySem.W.Frag) : List V → List V → Hp → VK → Prop := fun vs zs H Q => ∃ (a : Addr) (ns : List Int), vs = [V.ref a] ∧ zs = [.non] ∧ SqL K H a (ns.map V.int) ∧ (ns = [] → Q .non H) ∧ ∀ m, m ∈ ns → (∀ y, y ∈ ns → m ≤ y) → Q (.int m) H
section
variable {X : Cx}
end
def optI : Option Int → D
  | some m => .int m
  | none => .non
def maxND : List D → Option D
  | [.lst xs] => (intsD xs).map fun ns => optI ns.max?
  | _ => none
def minND : List D → Option D
  | [.lst xs] => (intsD xs).map fun ns => optI ns.min?
  | _ => none
section
variable {X : Cx} {W : WX} {e ke : Expr} {es : List Expr} {p pos kp : Pos} {g : Env → R (List D)} {x : Str}
end
section
variable {X : Cx} {W : WX} {c a b : Expr} {pos : Pos} {ga : Env → R Bool} {fa fb : Env → R D}
end
end DL

end
section
namespace DL
open PySem L2
/-! ### dict(d), xs.extend([..]) -/
def dctC : List D → Option D
  | [.dct kvs] => some (.dct kvs)
  | _ => none
def rDctC : List V → Hp → VK → Prop := fun xs H Q => ∃ (a : Addr) (kvs : List (Key × V)), xs = [.ref a] ∧ Rd H a (.dK kvs) ∧ ∀ p, H p = none → Q (.ref p) (upd H p (.dK kvs))
def extS (i : Nat) (fe : Env → R D) : Env → R Fl := fun r => (R.ofO (ownL r i)).bind fun s => (fe r).bind fun d => match d with
  | .lst ds => if s.2.length + ds.length ≤ sizeLine then .ok (.nx (r.set i (s.1.put (.lst (s.2 ++ ds))))) else .stk
  | _ => .stk
section
variable {X : Cx} {W : WX} {e : Expr} {x : Str} {pos : Pos}
end
end DL

end
section
namespace DL
open PySem L2
/-! ### a slot's own dict stands still from here on -/
def tLock (i : Nat) (t : TS) : TS := fun D σ H => ∃ a u, σ[i]? = some (some (V.ref a)) ∧ H a = some u ∧ Mut (some u) ∧ ∀ od, t D σ (upd H a (.frz od u))
section
variable {K : PySem.W.Frag} {H : Hp} {os : List (Option Addr)} {r : Env} {σ : St}
end
def frzD (i : Nat) (f : Env → R Fl) : Env → R Fl := fun r => match r[i]? with
  | some (.own (.dct kvs)) => f (r.set i (.sh (.dctF kvs)))
  | _ => .stk
section
variable {X : Cx} {W : WX} {sts : List Stmt}
end
end DL

end
section
namespace DL
open PySem PySem.W L2 PyProof.Rows
/-! ### min, max of texts: of two, of a list -/
section
variable {prog : Program} {w : World} {A : Around} {E : Value → Shared → Prop} {s : Shared}
/-- the least text, the first of such -/
def leastS (x : Str) (xs : List Str) : Str := xs.foldl (fun a y => if decide (y.cps.toList < a.cps.toList) = true then y else a) x
end
section
variable {X : Cx}
def rMin2S : List V → Hp → VK → Prop := fun xs H Q => ∃ i j : Str, xs = [.str i, .str j] ∧ Q (.str (if j.cps.toList < i.cps.toList then j else i)) H
def rMax2S : List V → Hp → VK → Prop := fun xs H Q => ∃ i j : Str, xs = [.str i, .str j] ∧ Q (.str (if i.cps.toList < j.cps.toList then j else i)) H
def min2SD : List D → Option D
  | [.str x, .str y] => some (.str (if y.cps.toList < x.cps.toList then y else x))
  | _ => none
def max2SD : List D → Option D
  | [.str x, .str y] => some (.str (if x.cps.toList < y.cps.toList then y else x))
  | _ => none
def rMinS (K : PySem.W.Frag) : List V → Hp → VK → Prop := fun vs H Q => ∃ (a : Addr) (x : Str) (xs : List Str), vs = [V.ref a] ∧ SqL K H a ((x :: xs).map V.str) ∧ Q (.str (leastS x xs)) H
def minSD : List D → Option D
  | [.lst xs] => (strsOf xs).bind fun l => match l with
    | [] => none
    | x :: r => some (.str (leastS x r))
  | _ => none
end
end DL

end
section
set_option maxHeartbeats 4000000
namespace DL
open PySem PySem.Spec PyProof.Rows L2 PySem.Froz PpSet
/-! ### len(set(xs)), xs a list of texts -/
section
variable {P : Program} {w : World} {A : Around} {E : Value → Shared → Prop} {s : Shared}
set_option maxRecDepth 100000 in
end
section
variable {X : Cx}
def rSetLS (K : PySem.W.Frag) (P : Program) (w : World) : List V → Hp → VK → Prop := fun xs H Q => ∃ (a : Addr) (ns : List Str), xs = [.ref a] ∧ SqL K H a (ns.map V.str) ∧ ns.length + 1 < scanBound ∧ ∀ (p : Addr) (l : List Str), H p = none → l.length ≤ ns.length → l.Nodup → (∀ k, k ∈ l ↔ k ∈ ns) → Q (.ref p) (upd H p (SetTO P w p l))
end
end DL
namespace DL
open PySem L2
def lenSetLD (d : D) : Option D := match d with
  | .lst xs => (strsOf xs).bind fun ss => if ss.length + 1 < scanBound then some (.int (dedT ss).length) else none
  | _ => none
section
variable {X : Cx} {W : WX} {a : Expr} {p p2 pos pos2 : Pos} {fa : Env → R D}
def srtSetLD (d : D) : Option D := match d with
  | .lst xs => (strsOf xs).bind fun ss => if ss.length + 1 < scanBound then some (.lst ((sortStr (dedT ss)).map D.str)) else none
  | _ => none
end
end DL

end
section
namespace DL
open PySem L2
/-! ### for k in d, d a dict that stands still -/
def keysFD : D → Option (List D)
  | .dctF kvs => some (kvs.map fun kv => keyV kv.1)
  | _ => none
section
variable {X : Cx} {W : WX} {tg e : Expr} {f : Env → R D}
end
end DL

end
section
namespace DL
open PySem PySem.W L2 PyProof.Rows
/-! ### min of a text -/
abbrev sg1 (c : Nat) : Str := ⟨#[c]⟩
section
variable {prog : Program} {w : World} {A : Around} {E : Value → Shared → Prop} {s : Shared}
end
section
variable {X : Cx}
def rMinT : List V → Hp → VK → Prop := fun vs H Q => ∃ (z : Str) (c : Nat) (r : List Nat), vs = [V.str z] ∧ z.cps.toList = c :: r ∧ Q (.str (leastS (sg1 c) (r.map sg1))) H
def minT1 (l : List Nat) : Option D := match l with
  | [] => none
  | c :: r => some (.str (leastS (sg1 c) (r.map sg1)))
def minTD : List D → Option D
  | [.str z] => minT1 z.cps.toList
  | _ => none
end
end DL

end
section
namespace DL
open PySem L2
section
variable {X : Cx} {W : WX} {x : Str} {pos : Pos}
/-- x, y, z = a, b, c: a new list or dict, x's own, and two values -/
def par3OSS (i j l : Nat) (fa fb fc : Env → R D) : Env → R Fl := fun r => (fa r).bind fun a => (R.ne (fb r)).bind fun b => (R.ne (fc r)).bind fun c => .ok (.nx (((r.set i (.own a)).set j (.sh b)).set l (.sh c)))
end
end DL

end
section
namespace DL
open PySem L2
/-! ### text <= text -/
def leSD : D → D → Option D
  | .str x, .str y => some (.bl (!decide (y.cps.toList < x.cps.toList)))
  | _, _ => none
theorem o_leS {X : Cx} : Op2 X (fun x y H Q => ∃ i j, x = .str i ∧ y = .str j ∧ Q (.bl (!decide (j.cps.toList < i.cps.toList))) H) leSD := by
  intro A H x y v w d Q ak e hx hy q
  cases x with
  | str i =>
    cases y with
    | str j =>
      cases e
      exact ⟨i, j, hx.str, hy.str, q _ H (Same.refl H) rep_bl⟩
    | _ => cases e
  | _ => cases e
end DL

end
section
set_option maxHeartbeats 1000000
namespace DL
open PySem L2
open AutoSeq1 (wpAny_loadPart')
/-! ### enumerate(tuple) -/
section
variable {prog : Program} {w : World} {A : Around} {E : Value → Shared → Prop} {s : Shared}
end
def iEnT (K : PySem.W.Frag) (ta : TA) : TI := fun σ H R => ta σ H fun vs H1 => ∃ a xs, vs = [Zs.val (.t a)] ∧ (Zs.t a).has K H1 xs ∧ R (ItR (hasE K (.t a))) H1
def enTD : List D → Option (List D)
  | [.tup xs] => some (xs.zipIdx.map fun p => D.tup [.int (p.2 : Nat), p.1])
  | _ => none
section
variable {X : Cx} {W : WX} {a : Expr} {p pos tpos : Pos} {elts : List Expr} {kk : Nat} {g : Env → R (List D)}
end
end DL

end
section
/-! ### a text behind a call, read backward -/
namespace DL
open PySem L2
section
variable {M : Model} {A : Around} {env : PySem.Env} {E : Value → Shared → Prop} {s : Shared}
end
section
variable {X : Cx} {e : Expr} {te : TE} {k : Nat} {p1 p2 p3 pos : Pos}
end
end DL

end
section
namespace DL
open PySem L2
section
variable {X : Cx} {W : WX} {x : Str} {pos : Pos}
/-- x, y = a, b: a value, a new list -/
def parSO (i j : Nat) (fa fb : Env → R D) : Env → R Fl := fun r => (fa r).bind fun a => (fb r).bind fun b => .ok (.nx ((r.set i (.sh a)).set j (.own b)))
end
end DL

end
section
/-! ### sorted(d), the keys of d ints, any number of them -/
namespace L2
open PySem PySem.Spec PyProof.Rows
end L2
namespace DL
open PySem L2
def intKs : List (Key × D) → Option (List Int)
  | [] => some []
  | (.inl i, _) :: r => (intKs r).map fun l => i :: l
  | (.inr _, _) :: _ => none
def srtZ (l : List Int) : List Int := l.mergeSort fun a b => decide (a ≤ b)
/-- sorted(d), its keys ints -/
def srtJD : List D → Option D
  | [d] => (kvsD d).bind fun kvs => (intKs kvs).map fun ks => .lst ((srtZ ks).map D.int)
  | _ => none
def rSrtJ : List V → Hp → VK → Prop := fun xs H Q => ∃ (a : Addr) (kvs : List (Key × V)) (ks : List Int), xs = [.ref a] ∧ Rd H a (.dK kvs) ∧ kvs.map (·.1) = ks.map Sum.inl ∧ ∀ p, H p = none → Q (.ref p) (upd H p (.lst ((srtZ ks).map V.int)))
end DL

end
section
/-! ### tables: a list or dict whose items are lists or dicts that only it holds -/
namespace DL
open PySem L2
/-- the frame that hides a table and its rows -/
def Fm.tab (F : Fm) (p : Addr) (as : List Addr) (os : List (Option Addr)) (H : Hp) : Fm := ⟨fun a => F.A0 a ∨ a = p ∨ a ∈ as, fun b => if some b ∈ os then none else H b, fun a => F.io a ∧ a ≠ p ∧ a ∉ as⟩
/-- what a statement may not hold on to while the table is hidden -/
abbrev An (F : Fm) (p : Addr) (as : List Addr) (os : List (Option Addr)) : Addr → Prop := Av (fun a => F.A0 a ∨ a = p ∨ a ∈ as) os
def TabO (K : PySem.W.Frag) (H : Hp) (A : Addr → Prop) : D → Addr → List Addr → Prop
  | .lst ds, p, as => H p = some (.lst (as.map V.ref)) ∧ Paired (RepO K H A) ds as
  | .dct kvs, p, as => H p = some (.dK ((kvs.map (·.1)).zip (as.map V.ref))) ∧ Paired (RepO K H A) (kvs.map (·.2)) as
  | _, _, _ => False
structure RelN (K : PySem.W.Frag) (F : Fm) (t : Nat) (p : Addr) (as : List Addr) (os : List (Option Addr)) (r : Env) (σ : St) (H : Hp) : Prop where
  hid : Rel K (F.tab p as os H) os (r.set t (.sh (.ref p))) σ H
  lt : t < r.length
  tab : ∃ T, r[t]? = some (.own T) ∧ TabO K H (An F p as os) T p as
  nd : (p :: as).Nodup
  out : ∀ a, a = p ∨ a ∈ as → ¬ F.A0 a ∧ (F.H0 a = none ∨ F.io a)
  same : ∀ b o, F.H0 b = some o → ¬ F.io b → H b = some o
  new : ∀ (i : Nat) (a : Addr), os[i]? = some (some a) → F.H0 a = none ∨ F.io a
section
variable {K : PySem.W.Frag} {F : Fm} {os os' : List (Option Addr)} {r r' : Env} {σ σ' : St} {H H' : Hp} {t : Nat} {p : Addr} {as as' : List Addr}
theorem paired_keep {A A' : Addr → Prop} (k : Keep A A' H H') (ak : AOk A H) : ∀ {ds : List D} {l : List Addr}, (∀ a ∈ l, H' a = H a) → Paired (RepO K H A) ds l → Paired (RepO K H' A') ds l
  | _, _, _, .nil => .nil
  | _, _, h, .cons h1 h2 => .cons (RepO.keepNe k ak h1 (h _ List.mem_cons_self)) (paired_keep k ak (fun a z => h a (List.mem_cons_of_mem _ z)) h2)
theorem TabO.keep {A A' : Addr → Prop} (k : Keep A A' H H') (ak : AOk A H) {T : D} (h : TabO K H A T p as) (hb : ∀ a, a = p ∨ a ∈ as → H' a = H a) : TabO K H' A' T p as := by
  cases T with
  | lst ds => exact ⟨(hb p (.inl rfl)).trans h.1, paired_keep k ak (fun a z => hb a (.inr z)) h.2⟩
  | dct ds => exact ⟨(hb p (.inl rfl)).trans h.1, paired_keep k ak (fun a z => hb a (.inr z)) h.2⟩
  | _ => exact h.elim
theorem RepO.some {A : Addr → Prop} {d : D} {b : Addr} (h : RepO K H A d b) : ∃ o, H b = some o := by
  obtain ⟨o, e, _⟩ := h.isT
  exact ⟨o, e⟩
theorem paired_mem {A : Addr → Prop} : ∀ {ds : List D} {l : List Addr} {a : Addr}, Paired (RepO K H A) ds l → a ∈ l → ∃ d, RepO K H A d a
  | _, _, _, .nil, h => nomatch h
  | _, _, _, .cons h1 h2, h => by
    rcases List.mem_cons.mp h with z | z
    · subst z; exact ⟨_, h1⟩
    · exact paired_mem h2 z
theorem TabO.at {A : Addr → Prop} {T : D} (h : TabO K H A T p as) {a : Addr} (ha : a = p ∨ a ∈ as) : ∃ o, H a = some o ∧ isT o = false := by
  cases T with
  | lst ds =>
    rcases ha with z | z
    · subst z; exact ⟨_, h.1, rfl⟩
    · obtain ⟨d, hd⟩ := paired_mem h.2 z; exact hd.isT
  | dct ds =>
    rcases ha with z | z
    · subst z; exact ⟨_, h.1, rfl⟩
    · obtain ⟨d, hd⟩ := paired_mem h.2 z; exact hd.isT
  | _ => exact h.elim
/-- the frame told anew -/
theorem Rel.anew {F1 F2 : Fm} (R : Rel K F1 os r σ H) (e : ∀ a, F2.A0 a ↔ F1.A0 a) (hio : ∀ a, some a ∈ os → F1.io a → F2.io a) (h0 : ∀ b, F2.H0 b = if some b ∈ os then none else H b) : Rel K F2 os r σ H := by
  have eA : F2.A0 = F1.A0 := funext fun a => propext (e a)
  refine ⟨R.lens, R.leno, fun i s v o e1 e2 e3 => ?_, R.inj, fun i a e1 z => R.out i a e1 ((e a).mp z), fun a z => R.aok a ((e a).mp z), fun b o e1 _ => ?_, fun i a e1 => .inl ?_⟩
  · have q := R.slot i s v o e1 e2 e3
    rw [eA]
    cases s with
    | un => exact q
    | sh d => exact q
    | own d => exact q
    | io d =>
      obtain ⟨a, z1, z2, z3, z4⟩ := q
      exact ⟨a, z1, z2, z3, hio a (List.mem_of_getElem? (z1 ▸ e3)) z4⟩
  · rw [h0] at e1
    by_cases z : some b ∈ os
    · rw [if_pos z] at e1; cases e1
    · rw [if_neg z] at e1; exact e1
  · rw [h0, if_pos (List.mem_of_getElem? e1)]
theorem RelN.nin (R : RelN K F t p as os r σ H) {a : Addr} (ha : a = p ∨ a ∈ as) : some a ∉ os := fun z => by
  obtain ⟨i, hi, e⟩ := List.getElem_of_mem z
  exact R.hid.out i a (by rw [List.getElem?_eq_getElem hi, e]) (.inr ha)
theorem RelN.getT (R : RelN K F t p as os r σ H) : σ[t]? = some (some (.ref p)) ∧ os[t]? = some none := by
  obtain ⟨v, o, e1, e2, z, u, e3, h⟩ := R.hid.get (i := t) (s := .sh (.ref p)) (List.getElem?_set_self R.lt)
  unfold Rep at h
  subst z e3 h
  exact ⟨e1, e2⟩
/-- what holds of the hidden frame at the end of a statement, holds of the table's -/
theorem RelN.back (R : RelN K F t p as os r σ H) (R' : Rel K (F.tab p as os H) os' r' σ' H') (hr : r'[t]? = some (.sh (.ref p))) (k : Keep (An F p as os) (An F p as os') H H') {s : Slot} (hs : r[t]? = some s) : RelN K F t p as os' (r'.set t s) σ' H' := by
  have hl : t < r'.length := (List.getElem?_eq_some_iff.mp hr).1
  have keepH : ∀ b o, H b = some o → some b ∉ os → ¬ (F.tab p as os H).io b → H' b = some o := fun b o e nb ni => R'.same b o (by show (if some b ∈ os then none else H b) = some o; rw [if_neg nb]; exact e) ni
  have hb : ∀ a, a = p ∨ a ∈ as → H' a = H a := fun a ha => by
    obtain ⟨T, _, h2⟩ := R.tab
    obtain ⟨o, e, _⟩ := h2.at ha
    rw [e]
    refine keepH a o e (R.nin ha) fun z => ?_
    rcases ha with y | y
    · exact z.2.1 y
    · exact z.2.2 y
  have er : (r'.set t s).set t (.sh (.ref p)) = r' := by
    rw [List.set_set]
    apply List.ext_getElem?
    intro i
    by_cases e : t = i
    · subst e; rw [List.getElem?_set_self hl, hr]
    · rw [List.getElem?_set_ne e]
  refine ⟨?_, by rw [List.length_set]; exact hl, ?_, R.nd, R.out, fun b o e ni => ?_, fun i a e => ?_⟩
  · rw [er]
    exact R'.anew (fun a => Iff.rfl) (fun a _ z => z) fun b => rfl
  · obtain ⟨T, h1, h2⟩ := R.tab
    rw [hs] at h1
    cases h1
    exact ⟨T, List.getElem?_set_self hl, h2.keep k R.hid.AOk hb⟩
  · have h1 := R.same b o e ni
    have nb : some b ∉ os := fun z => by
      obtain ⟨i, hi, e2⟩ := List.getElem_of_mem z
      rcases R.new i b (by rw [List.getElem?_eq_getElem hi, e2]) with q | q
      · rw [q] at e; cases e
      · exact ni q
    exact keepH b o h1 nb fun z => ni z.1
  · rcases R'.new i a e with q | q
    · have q : (if some a ∈ os then none else H a) = none := q
      by_cases z : some a ∈ os
      · obtain ⟨j, hj, e2⟩ := List.getElem_of_mem z
        exact R.new j a (by rw [List.getElem?_eq_getElem hj, e2])
      · rw [if_neg z] at q
        cases y : F.H0 a with
        | none => exact .inl rfl
        | some o =>
          by_cases w : F.io a
          · exact .inr w
          · have := R.same a o y w
            rw [q] at this
            cases this
    · exact .inr q.1
theorem RelN.same' (R : RelN K F t p as os r σ H) (s : Same H H') : RelN K F t p as os r σ H' := by
  obtain ⟨T, h1, h2⟩ := R.tab
  have := R.back (R.hid.same' s) (List.getElem?_set_self R.lt) (Keep.of s) h1
  rw [List.set_set] at this
  have e : r.set t (.own T) = r := by
    apply List.ext_getElem?
    intro i
    by_cases e : t = i
    · subst e; rw [List.getElem?_set_self R.lt, h1]
    · rw [List.getElem?_set_ne e]
  rw [e] at this
  exact this
theorem paired_rowsL {A A' : Addr → Prop} (k : Keep A A' H H) (ak : AOk A H) : ∀ {ds : List D} {l : List Addr}, (∀ a ∈ l, ¬ A' a) → Paired (RepO K H A) ds l → RepL K H A' ds (l.map V.ref)
  | _, _, _, .nil => by unfold RepL; rfl
  | _, _, h, .cons h1 h2 => by
    rw [List.map_cons]
    unfold RepL
    exact ⟨_, _, rfl, repO_rep h1 k ak (h _ List.mem_cons_self), paired_rowsL k ak (fun a z => h a (List.mem_cons_of_mem _ z)) h2⟩
theorem paired_rowsK {A A' : Addr → Prop} (k : Keep A A' H H) (ak : AOk A H) : ∀ {kvs : List (Key × D)} {l : List Addr}, (∀ a ∈ l, ¬ A' a) → Paired (RepO K H A) (kvs.map (·.2)) l → RepK K H A' kvs ((kvs.map (·.1)).zip (l.map V.ref))
  | [], _, _, h => by cases h; unfold RepK; rfl
  | (q, d) :: kvs, _, h, h3 => by
    cases h3 with
    | cons h1 h2 =>
      rw [List.map_cons, List.map_cons, List.zip_cons_cons]
      unfold RepK
      exact ⟨_, _, rfl, repO_rep h1 k ak (h _ List.mem_cons_self), paired_rowsK k ak (fun a z => h a (List.mem_cons_of_mem _ z)) h2⟩
/-- the table shown: its rows as values -/
theorem RelN.show (R : RelN K F t p as os r σ H) : Rel K F (os.set t (some p)) r σ H ∧ Keep (An F p as os) (Av F.A0 (os.set t (some p))) H H := by
  obtain ⟨e1, e2⟩ := R.getT
  have tlo : t < os.length := (List.getElem?_eq_some_iff.mp e2).1
  have kp : Keep (An F p as os) (Av F.A0 (os.set t (some p))) H H := fun b o e nb => ⟨e, fun z => nb (by
    rcases z with z | z
    · exact .inl (.inl z)
    · rcases mem_set_cases z with z | z
      · exact .inr z
      · cases z; exact .inl (.inr (.inl rfl)))⟩
  have ak := R.hid.AOk
  have notA : ∀ a ∈ as, ¬ Av F.A0 (os.set t (some p)) a := fun a ha z => by
    rcases z with z | z
    · exact (R.out a (.inr ha)).1 z
    · rcases mem_set_cases z with z | z
      · exact R.nin (.inr ha) z
      · cases z
        exact (List.nodup_cons.mp R.nd).1 ha
  refine ⟨⟨by rw [R.hid.lens, List.length_set], by rw [List.length_set, R.hid.leno, List.length_set], fun i s v o h1 h2 h3 => ?_, fun i j a h1 h2 => ?_, fun i a h1 z => ?_, fun a z => R.hid.aok a (.inl z), R.same, fun i a h1 => ?_⟩, kp⟩
  · by_cases e : t = i
    · subst e
      rw [List.getElem?_set_self tlo] at h3
      cases h3
      rw [e1] at h2
      cases h2
      obtain ⟨T, g1, g2⟩ := R.tab
      rw [g1] at h1
      cases h1
      refine ⟨p, rfl, rfl, ?_⟩
      cases T with
      | lst ds => exact ⟨_, g2.1, paired_rowsL kp ak notA g2.2⟩
      | dct ds => exact ⟨_, g2.1, paired_rowsK kp ak notA g2.2⟩
      | _ => exact g2.elim
    · rw [List.getElem?_set_ne e] at h3
      have q := R.hid.slot i s v o (by rw [List.getElem?_set_ne e]; exact h1) h2 h3
      have q : SlotOk K H (An F p as os) (F.tab p as os H).io s v o := q
      have q2 := q.keep kp ak fun _ _ => rfl
      cases s with
      | un => exact q2
      | sh d => exact q2
      | own d => exact q2
      | io d =>
        obtain ⟨a, z1, z2, z3, z4⟩ := q2
        exact ⟨a, z1, z2, z3, z4.1⟩
  · rcases getElem?_set_cases h1 with ⟨a1, b1⟩ | ⟨a1, b1⟩
    · rcases getElem?_set_cases h2 with ⟨a2, b2⟩ | ⟨a2, b2⟩
      · omega
      · cases b1
        exact absurd (List.mem_of_getElem? b2) (R.nin (.inl rfl))
    · rcases getElem?_set_cases h2 with ⟨a2, b2⟩ | ⟨a2, b2⟩
      · cases b2
        exact absurd (List.mem_of_getElem? b1) (R.nin (.inl rfl))
      · exact R.hid.inj i j a b1 b2
  · rcases getElem?_set_cases h1 with ⟨a1, b1⟩ | ⟨a1, b1⟩
    · cases b1
      exact (R.out p (.inl rfl)).1 z
    · exact R.hid.out i a b1 (.inl z)
  · rcases getElem?_set_cases h1 with ⟨a1, b1⟩ | ⟨a1, b1⟩
    · cases b1
      exact (R.out p (.inl rfl)).2
    · exact R.new i a b1
/-- an object that is hidden changes -/
theorem Rel.upd0 (R : Rel K F os r σ H) {a : Addr} {o : HO} (ha : F.A0 a) (ho : isT o = false) {F2 : Fm} (e : ∀ a, F2.A0 a ↔ F.A0 a) (hio : ∀ a, some a ∈ os → F.io a → F2.io a) (h0 : ∀ b, F2.H0 b = if some b ∈ os then none else upd H a o b) : Rel K F2 os r σ (upd H a o) ∧ Keep (Av F.A0 os) (Av F2.A0 os) H (upd H a o) := by
  have eA : F2.A0 = F.A0 := funext fun a => propext (e a)
  have ak := R.AOk
  have kp : Keep (Av F.A0 os) (Av F2.A0 os) H (upd H a o) := fun b u eb nb => ⟨by
    rw [upd_ne (fun z => nb (by rw [z]; exact .inl ha))]
    exact eb, by rw [eA]; exact nb⟩
  have no : ∀ (i : Nat) (b : Addr), os[i]? = some (some b) → b ≠ a := fun i b eb z => R.out i b eb (z ▸ ha)
  refine ⟨⟨R.lens, R.leno, fun i s v u e1 e2 e3 => ?_, R.inj, fun i b e1 z => R.out i b e1 ((e b).mp z), fun b z => ?_, fun b u eb _ => ?_, fun i b eb => .inl ?_⟩, kp⟩
  · have q := (R.slot i s v u e1 e2 e3).keep kp ak fun b z => upd_ne (no i b (by rw [e3, z]))
    cases s with
    | un => exact q
    | sh d => exact q
    | own d => exact q
    | io d =>
      obtain ⟨b, z1, z2, z3, z4⟩ := q
      exact ⟨b, z1, z2, z3, hio b (List.mem_of_getElem? (z1 ▸ e3)) z4⟩
  · by_cases y : b = a
    · subst y; exact ⟨o, upd_same, ho⟩
    · rw [upd_ne y]; exact R.aok b ((e b).mp z)
  · rw [h0] at eb
    by_cases z : some b ∈ os
    · rw [if_pos z] at eb; cases eb
    · rw [if_neg z] at eb; exact eb
  · rw [h0, if_pos (List.mem_of_getElem? eb)]
/-- a row, or the table itself, changes -/
theorem RelN.chg (R : RelN K F t p as os r σ H) {a : Addr} {o : HO} (ha : a = p ∨ a ∈ as) (ho : isT o = false) {T : D} (hT : TabO K (upd H a o) (An F p as os) T p as) : RelN K F t p as os (r.set t (.own T)) σ (upd H a o) ∧ Keep (An F p as os) (An F p as os) H (upd H a o) := by
  obtain ⟨R2, k⟩ := R.hid.upd0 (a := a) (o := o) (F2 := F.tab p as os (L2.upd H a o)) (.inr ha) ho (fun _ => Iff.rfl) (fun _ _ z => z) (fun _ => rfl)
  refine ⟨⟨by rw [List.set_set]; exact R2, by rw [List.length_set]; exact R.lt, ⟨T, List.getElem?_set_self R.lt, hT⟩, R.nd, R.out, fun b u e ni => ?_, R.new⟩, k⟩
  have ne : b ≠ a := fun z => by
    rcases (R.out a ha).2 with q | q
    · rw [z, q] at e; cases e
    · exact ni (z ▸ q)
  rw [upd_ne ne]
  exact R.same b u e ni
end
end DL

end
section
/-! ### statements where a table is held -/
namespace DL
open PySem L2
noncomputable section
open Classical in
/-- the slots behind f, run while the table is hidden -/
def hidE (t : Nat) (f : Env → R Env) : Env → R Env := fun r =>
  if h : ∃ r' : Env, t < r'.length ∧ ∀ p : Addr, f (r.set t (.sh (.ref p))) = .ok (r'.set t (.sh (.ref p))) then
    match r[t]? with
    | some s => .ok (h.choose.set t s)
    | none => .stk
  else .stk
open Classical in
def hidI {α : Type} (t : Nat) (f : Env → R α) : Env → R α := fun r =>
  if h : ∃ x : α, ∀ p : Addr, f (r.set t (.sh (.ref p))) = .ok x then .ok h.choose else .stk
def nxE (f : Env → R Fl) : Env → R Env := fun r => (f r).bind fun fl => match fl with
  | .nx r1 => .ok r1
  | _ => .stk
def hidS (t : Nat) (f : Env → R Fl) : Env → R Fl := fun r => (hidE t (nxE f) r).bind fun r' => .ok (.nx r')
def hidG (t : Nat) (g : D → Env → R Env) : D → Env → R Env := fun d => hidE t (g d)
end
def NPost (K : PySem.W.Frag) (F : Fm) (t : Nat) (p : Addr) (as : List Addr) (os : List (Option Addr)) (H : Hp) (D : Ends) : Fl → Prop
  | .nx r => ∀ as' os' σ' H', RelN K F t p as' os' r σ' H' → Keep (An F p as os) (An F p as' os') H H' → D.nx σ' H'
  | .bk r => ∀ as' os' σ' H', RelN K F t p as' os' r σ' H' → Keep (An F p as os) (An F p as' os') H H' → D.bk σ' H'
  | .ct r => ∀ as' os' σ' H', RelN K F t p as' os' r σ' H' → Keep (An F p as os) (An F p as' os') H H' → D.ct σ' H'
  | .rt _ _ => False
structure DSN (X : Cx) (W : WX) (t : Nat) (st : Stmt) (f : Env → R Fl) : Prop where
  ex : ∃ u, PS X st u ∧ ∀ (F : Fm) (p : Addr) (as : List Addr) (os : List (Option Addr)) (r : Env) (σ : St) (H : Hp) (D : Ends), RelN X.K F t p as os r σ H → Sat (NPost X.K F t p as os H D) (Er X W F) (f r) → u D σ H
structure DSNs (X : Cx) (W : WX) (t : Nat) (st : List Stmt) (f : Env → R Fl) : Prop where
  ex : ∃ u, PSs X st u ∧ ∀ (F : Fm) (p : Addr) (as : List Addr) (os : List (Option Addr)) (r : Env) (σ : St) (H : Hp) (D : Ends), RelN X.K F t p as os r σ H → Sat (NPost X.K F t p as os H D) (Er X W F) (f r) → u D σ H
/-- the statements up to the end of the def: the table is shown at last -/
structure DSNe (X : Cx) (W : WX) (t : Nat) (st : List Stmt) (f : Env → R Fl) : Prop where
  ex : ∃ u, PSs X st u ∧ ∀ (F : Fm) (p : Addr) (as : List Addr) (os os0 : List (Option Addr)) (r : Env) (σ : St) (H H0 : Hp) (D : Ends), RelN X.K F t p as os r σ H → Keep (Av F.A0 os0) (An F p as os) H0 H → Sat (SPost X.K F os0 H0 D) (Er X W F) (f r) → u D σ H
/-- a table is made -/
structure DNw (X : Cx) (W : WX) (t : Nat) (st : Stmt) (f : Env → R Env) : Prop where
  ex : ∃ u, PS X st u ∧ ∀ (F : Fm) (os : List (Option Addr)) (r : Env) (σ : St) (H : Hp) (D : Ends), Rel X.K F os r σ H → Sat (fun r' => ∀ p as os' σ' H', RelN X.K F t p as os' r' σ' H' → Keep (Av F.A0 os) (An F p as os') H H' → D.nx σ' H') (Er X W F) (f r) → u D σ H
def tabS (f : Env → R Env) : Env → R Fl := fun r => (f r).bind fun r' => .ok (.nx r')
def seqT (f g : Env → R Fl) : Env → R Fl := fun r => (f r).bind fun fl => match fl with
  | .nx r1 => g r1
  | _ => .stk
section
variable {X : Cx} {W : WX} {e : Expr} {pos pos' : Pos} {st : Stmt} {sts : List Stmt} {x : Str} {t : Nat}
theorem NPost.from {K : PySem.W.Frag} {F : Fm} {p : Addr} {as as1 : List Addr} {os os1 : List (Option Addr)} {H H1 : Hp} {D : Ends} (k : Keep (An F p as os) (An F p as1 os1) H H1) : ∀ {fl : Fl}, NPost K F t p as os H D fl → NPost K F t p as1 os1 H1 D fl
  | .nx r, h => fun as' os' σ' H' R k2 => h as' os' σ' H' R (k.trans k2)
  | .bk r, h => fun as' os' σ' H' R k2 => h as' os' σ' H' R (k.trans k2)
  | .ct r, h => fun as' os' σ' H' R k2 => h as' os' σ' H' R (k.trans k2)
  | .rt d r, h => h
end
end DL

end
section
/-! ### dicts of dicts -/
namespace DL
open PySem L2
section
variable {K : PySem.W.Frag} {F : Fm} {os os' : List (Option Addr)} {r r' : Env} {σ σ' : St} {H H' : Hp} {t : Nat} {p : Addr} {as as' : List Addr}
theorem RelN.start (R : Rel K F os r σ H) {T : D} (hp : H p = none) (ha : ∀ a ∈ as, H a = none) (nd : (p :: as).Nodup) (s : Same H H') (tlt : t < r.length) (hT : TabO K H' (An F p as (os.set t none)) T p as) :
    RelN K F t p as (os.set t none) (r.set t (.own T)) (σ.set t (some (.ref p))) H' ∧ Keep (Av F.A0 os) (An F p as (os.set t none)) H H' := by
  have ak := R.AOk
  have fresh : ∀ a, a = p ∨ a ∈ as → H a = none := fun a z => by
    rcases z with z | z
    · rw [z]; exact hp
    · exact ha a z
  have nin : ∀ a, a = p ∨ a ∈ as → ¬ Av F.A0 os a := fun a z => R.notIn (fresh a z)
  have k1 : Keep (Av F.A0 os) (An F p as os) H H' := fun b o e nb => ⟨s b o e, fun z => by
    rcases z with (z | z) | z
    · exact nb (.inl z)
    · rw [fresh b z] at e; cases e
    · exact nb (.inr z)⟩
  have hob : ∀ (j : Nat) (a : Addr), os[j]? = some (some a) → H' a = H a := fun j a e => by
    obtain ⟨o, h1, _⟩ := ak a (.inr (List.mem_of_getElem? e))
    rw [h1]
    exact s _ _ h1
  have R1 : Rel K (F.tab p as os H') os r σ H' := by
    refine ⟨R.lens, R.leno, fun i sl v o e1 e2 e3 => ?_, R.inj, fun i a e z => ?_, fun a z => ?_, fun b o e _ => ?_, fun i a e => .inl ?_⟩
    · have q := (R.slot i sl v o e1 e2 e3).keep k1 ak fun a z => hob i a (by rw [e3, z])
      cases sl with
      | un => exact q
      | sh d => exact q
      | own d => exact q
      | io d =>
        obtain ⟨a, z1, z2, z3, z4⟩ := q
        have ia : some a ∈ os := List.mem_of_getElem? (z1 ▸ e3)
        exact ⟨a, z1, z2, z3, z4, fun y => nin a (.inl y) (.inr ia), fun y => nin a (.inr y) (.inr ia)⟩
    · rcases z with z | z
      · exact R.out i a e z
      · exact nin a z (.inr (List.mem_of_getElem? e))
    · rcases z with z | z
      · obtain ⟨o, h1, h2⟩ := R.aok a z
        exact ⟨o, s _ _ h1, h2⟩
      · exact hT.at z
    · have e : (if some b ∈ os then none else H' b) = some o := e
      by_cases z : some b ∈ os
      · rw [if_pos z] at e; cases e
      · rw [if_neg z] at e; exact e
    · show (if some a ∈ os then none else H' a) = none
      rw [if_pos (List.mem_of_getElem? e)]
  obtain ⟨R2, k2⟩ := R1.setSh (i := t) (d := .ref p) (v := .ref p) (by unfold Rep; rfl)
  refine ⟨⟨?_, by rw [List.length_set]; exact tlt, ⟨T, List.getElem?_set_self tlt, hT⟩, nd, fun a z => ⟨fun y => nin a z (.inl y), ?_⟩, fun b o e ni => s _ _ (R.same b o e ni), fun i a e => ?_⟩, k1.trans k2⟩
  · rw [List.set_set]
    exact R2.anew (fun _ => Iff.rfl) (fun _ _ z => z) fun _ => rfl
  · cases y : F.H0 a with
    | none => exact .inl rfl
    | some o =>
      by_cases w : F.io a
      · exact .inr w
      · have := R.same a o y w
        rw [fresh a z] at this
        cases this
  · rcases getElem?_set_cases e with ⟨_, z⟩ | ⟨_, z⟩
    · cases z
    · exact R.new i a z
/-- the first pair with such a key takes another value -/
def setR : List (Key × D) → Key → D → List (Key × D)
  | [], _, _ => []
  | (q, d) :: l, k, x => if q = k then (q, x) :: l else (q, d) :: setR l k x
theorem getD_cons (q : Key) (d : D) (l : List (Key × D)) (k : Key) : getD_ ((q, d) :: l) k = if q = k then some d else getD_ l k := by
  unfold getD_
  rw [List.find?_cons]
  by_cases z : q = k
  · rw [if_pos z]; simp [z]
  · rw [if_neg z]; simp [z]
theorem tab_at {A : Addr → Prop} {k : Key} {d : D} : ∀ {kvs : List (Key × D)} {l : List Addr}, Paired (RepO K H A) (kvs.map (·.2)) l → l.Nodup → getD_ kvs k = some d →
    ∃ a ∈ l, valV ((kvs.map (·.1)).zip (l.map V.ref)) k = some (.ref a) ∧ RepO K H A d a ∧ ∀ (H' : Hp) (A' : Addr → Prop) (x : D), RepO K H' A' x a → (∀ b ∈ l, b ≠ a → ∀ y, RepO K H A y b → RepO K H' A' y b) →
      Paired (RepO K H' A') ((setR kvs k x).map (·.2)) l ∧ (setR kvs k x).map (·.1) = kvs.map (·.1)
  | [], _, _, _, e => nomatch e
  | (q, d0) :: kvs, _, h, nd, e => by
    cases h with
    | @cons d0 b _ l h1 h2 =>
      rw [getD_cons] at e
      by_cases z : q = k
      · rw [if_pos z] at e
        cases e
        refine ⟨b, List.mem_cons_self, valV_pos z, h1, fun H' A' x hx hr => ?_⟩
        have es : setR ((q, d) :: kvs) k x = (q, x) :: kvs := if_pos z
        rw [es]
        refine ⟨.cons hx ?_, rfl⟩
        have : ∀ {ds : List D} {m : List Addr}, Paired (RepO K H A) ds m → (∀ a ∈ m, a ∈ l) → Paired (RepO K H' A') ds m := fun {ds m} hp => by
          induction hp with
          | nil => exact fun _ => .nil
          | cons g1 g2 ih =>
            intro hm
            have ma := hm _ List.mem_cons_self
            exact .cons (hr _ (List.mem_cons_of_mem _ ma) (fun y => (List.nodup_cons.mp nd).1 (y ▸ ma)) _ g1) (ih fun a w => hm a (List.mem_cons_of_mem _ w))
        exact this h2 fun _ z => z
      · rw [if_neg z] at e
        obtain ⟨a, ha, e1, e2, e3⟩ := tab_at h2 (List.nodup_cons.mp nd).2 e
        refine ⟨a, List.mem_cons_of_mem _ ha, (valV_neg z).trans e1, e2, fun H' A' x hx hr => ?_⟩
        have es : setR ((q, d0) :: kvs) k x = (q, d0) :: setR kvs k x := if_neg z
        rw [es]
        obtain ⟨f1, f2⟩ := e3 H' A' x hx fun b hb ne y hy => hr b (List.mem_cons_of_mem _ hb) ne y hy
        refine ⟨.cons (hr b List.mem_cons_self (fun y => (List.nodup_cons.mp nd).1 (y ▸ ha)) _ h1) f1, ?_⟩
        rw [List.map_cons, List.map_cons, f2]
/-- a row changes -/
theorem RelN.row (R : RelN K F t p as os r σ H) {kvs : List (Key × D)} {k : Key} {d : D} (hr : r[t]? = some (.own (.dct kvs))) (e : getD_ kvs k = some d) : ∃ a vs, H p = some (.dK vs) ∧ valV vs k = some (.ref a) ∧ RepO K H (An F p as os) d a ∧ An F p as os a ∧
    ∀ (o : HO) (x : D), isT o = false → RepO K (upd H a o) (An F p as os) x a → RelN K F t p as os (r.set t (.own (.dct (setR kvs k x)))) σ (upd H a o) ∧ Keep (An F p as os) (An F p as os) H (upd H a o) := by
  obtain ⟨T, h1, h2⟩ := R.tab
  rw [hr] at h1
  cases h1
  obtain ⟨g1, g2⟩ := h2
  have nd := (List.nodup_cons.mp R.nd)
  obtain ⟨a, ha, e1, e2, e3⟩ := tab_at g2 nd.2 e
  refine ⟨a, _, g1, e1, e2, .inl (.inr (.inr ha)), fun o x ho hx => ?_⟩
  have kp : Keep (An F p as os) (An F p as os) H (upd H a o) := fun b u eb nb => ⟨by
    rw [upd_ne (fun z => nb (by rw [z]; exact .inl (.inr (.inr ha))))]
    exact eb, nb⟩
  obtain ⟨f1, f2⟩ := e3 (upd H a o) (An F p as os) x hx fun b hb ne y hy => RepO.keepNe kp R.hid.AOk hy (upd_ne ne)
  have pa : p ≠ a := fun z => nd.1 (z ▸ ha)
  exact R.chg (.inr ha) ho (T := .dct (setR kvs k x)) ⟨by rw [upd_ne pa, f2]; exact g1, f1⟩
theorem zip_snoc' {α β : Type} : ∀ {X : List α} {Y : List β}, X.length = Y.length → ∀ (x : α) (y : β), (X ++ [x]).zip (Y ++ [y]) = X.zip Y ++ [(x, y)]
  | [], [], _, _, _ => rfl
  | _ :: X, _ :: Y, h, x, y => by
    rw [List.cons_append, List.cons_append, List.zip_cons_cons, List.zip_cons_cons, zip_snoc' (by simpa using h)]
    rfl
theorem tab_no {A : Addr → Prop} {k : Key} : ∀ {kvs : List (Key × D)} {l : List Addr}, Paired (RepO K H A) (kvs.map (·.2)) l → (((kvs.map (·.1)).zip (l.map V.ref)).any fun kv => decide (kv.1 = k)) = kvs.any fun kv => decide (kv.1 = k)
  | [], _, h => by cases h; rfl
  | (q, d) :: kvs, _, h => by
    cases h with
    | cons h1 h2 =>
      rw [List.map_cons, List.map_cons, List.zip_cons_cons, List.any_cons, List.any_cons, tab_no h2]
/-- a new row -/
theorem RelN.more (R : RelN K F t p as os r σ H) {kvs : List (Key × D)} {k : Key} {q : Addr} (hr : r[t]? = some (.own (.dct kvs))) (hk : (kvs.any fun kv => decide (kv.1 = k)) = false) (hq : H q = none) (s : Same H H') (hq' : H' q = some (.dK [])) :
    ∃ vs, H' p = some (.dK vs) ∧ vs.length = kvs.length ∧ q ≠ p ∧ RelN K F t p (as ++ [q]) os (r.set t (.own (.dct (kvs ++ [(k, .dct [])])))) σ (upd H' p (.dK (putK vs k (.ref q)))) ∧ Keep (An F p as os) (An F p (as ++ [q]) os) H (upd H' p (.dK (putK vs k (.ref q)))) := by
  obtain ⟨T, h1, h2⟩ := R.tab
  rw [hr] at h1
  cases h1
  obtain ⟨g1, g2⟩ := h2
  have ll : as.length = kvs.length := by have := g2.length; rw [List.length_map] at this; exact this.symm
  have ak := R.hid.AOk
  have nq : ¬ An F p as os q := ak.fresh hq
  have qp : q ≠ p := fun z => nq (.inl (.inr (.inl z)))
  have qas : q ∉ as := fun z => nq (.inl (.inr (.inr z)))
  have qos : some q ∉ os := fun z => nq (.inr z)
  have nd := List.nodup_cons.mp R.nd
  have hv : putK ((kvs.map (·.1)).zip (as.map V.ref)) k (.ref q) = ((kvs ++ [(k, D.dct [])]).map (·.1)).zip ((as ++ [q]).map V.ref) := by
    unfold putK
    rw [tab_no g2, hk, if_neg (by decide), List.map_append, List.map_append, List.map_cons, List.map_nil, List.map_cons, List.map_nil, zip_snoc' (by rw [List.length_map, List.length_map, ll])]
  refine ⟨_, s _ _ g1, by rw [List.length_zip, List.length_map, List.length_map, ll, Nat.min_self], qp, ?_⟩
  rw [hv]
  have hHq : ∀ b o, H b = some o → b ≠ p → L2.upd H' p (.dK (((kvs ++ [(k, D.dct [])]).map (·.1)).zip ((as ++ [q]).map V.ref))) b = some o := fun b o e ne => by rw [upd_ne ne]; exact s _ _ e
  have k1 : Keep (An F p as os) (An F p (as ++ [q]) os) H (L2.upd H' p (.dK (((kvs ++ [(k, D.dct [])]).map (·.1)).zip ((as ++ [q]).map V.ref)))) := fun b o e nb => ⟨hHq b o e fun z => nb (.inl (.inr (.inl z))), fun z => by
    rcases z with (z | z | z) | z
    · exact nb (.inl (.inl z))
    · exact nb (.inl (.inr (.inl z)))
    · rcases List.mem_append.mp z with y | y
      · exact nb (.inl (.inr (.inr y)))
      · rw [List.mem_singleton.mp y, hq] at e; cases e
    · exact nb (.inr z)⟩
  refine ⟨?_, k1⟩
  have Rh := R.hid.hold (p := q) s hq ⟨_, hq', rfl⟩
  obtain ⟨R2, _⟩ := Rh.upd0 (a := p) (o := .dK (((kvs ++ [(k, D.dct [])]).map (·.1)).zip ((as ++ [q]).map V.ref))) (F2 := F.tab p (as ++ [q]) os (L2.upd H' p (.dK (((kvs ++ [(k, D.dct [])]).map (·.1)).zip ((as ++ [q]).map V.ref))))) (.inl (.inr (.inl rfl))) rfl (fun a => by
    show (F.A0 a ∨ a = p ∨ a ∈ as ++ [q]) ↔ ((F.A0 a ∨ a = p ∨ a ∈ as) ∨ a = q)
    rw [List.mem_append, List.mem_singleton]
    constructor
    · rintro (z | z | z | z)
      · exact .inl (.inl z)
      · exact .inl (.inr (.inl z))
      · exact .inl (.inr (.inr z))
      · exact .inr z
    · rintro ((z | z | z) | z)
      · exact .inl z
      · exact .inr (.inl z)
      · exact .inr (.inr (.inl z))
      · exact .inr (.inr (.inr z))) (fun a ha z => ⟨z.1, z.2.1, fun y => by
    rcases List.mem_append.mp y with y | y
    · exact z.2.2 y
    · exact qos (List.mem_singleton.mp y ▸ ha)⟩) fun _ => rfl
  refine ⟨by rw [List.set_set]; exact R2, by rw [List.length_set]; exact R.lt, ⟨_, List.getElem?_set_self R.lt, upd_same, ?_⟩, ?_, fun a ha => ?_, fun b o e ni => ?_, R.new⟩
  · have em : (kvs ++ [(k, D.dct [])]).map (·.2) = kvs.map (·.2) ++ [D.dct []] := List.map_append
    rw [em]
    refine Paired.snoc (paired_keep k1 ak (fun a ha => ?_) g2) (show RepO K _ _ (.dct []) q from ⟨[], by rw [upd_ne qp]; exact hq', by unfold RepK; rfl⟩)
    have : a ≠ p := fun z => nd.1 (z ▸ ha)
    obtain ⟨d, hd⟩ := paired_mem g2 ha
    obtain ⟨o, e⟩ := hd.some
    rw [e]
    exact hHq a o e this
  · rw [List.nodup_cons, List.mem_append, List.mem_singleton, List.nodup_append]
    refine ⟨fun z => z.elim nd.1 fun y => qp y.symm, nd.2, by simp, fun a ha b hb z => qas ?_⟩
    rw [← List.mem_singleton.mp hb, ← z]
    exact ha
  · rcases ha with z | z
    · exact R.out a (.inl z)
    · rcases List.mem_append.mp z with y | y
      · exact R.out a (.inr y)
      · have y := List.mem_singleton.mp y
        subst y
        refine ⟨fun w => nq (.inl (.inl w)), ?_⟩
        cases y : F.H0 a with
        | none => exact .inl rfl
        | some o =>
          by_cases w : F.io a
          · exact .inr w
          · have := R.same a o y w
            rw [hq] at this
            cases this
  · have := R.same b o e ni
    refine hHq b o this fun z => ?_
    rcases (R.out p (.inl rfl)).2 with y | y
    · rw [z, y] at e; cases e
    · exact ni (z ▸ y)
end
/-- x = {k: {}} -/
def newDD (t : Nat) (fa : Env → R D) : Env → R Env := fun r => (fa r).bind fun k => (R.ofO (keyD k)).bind fun k => if t < r.length then .ok (r.set t (.own (.dct [(k, .dct [])]))) else .stk
/-- x[k] = {}, k not yet there -/
def newR (t : Nat) (fk : Env → R D) : Env → R Fl := fun r => (fk r).bind fun k => (R.ofO (keyD k)).bind fun k => match r[t]? with
  | some (.own (.dct kvs)) => if (kvs.any fun kv => decide (kv.1 = k)) = false ∧ kvs.length < sizeLine then .ok (.nx (r.set t (.own (.dct (kvs ++ [(k, .dct [])]))))) else .stk
  | _ => .stk
/-- x[k][j] = e -/
def put2S (t : Nat) (fk fj fe : Env → R D) : Env → R Fl := fun r => (fe r).bind fun d => (fk r).bind fun k => (R.ofO (keyD k)).bind fun k => match r[t]? with
  | some (.own (.dct kvs)) => match getD_ kvs k with
    | some (.dct row) => (fj r).bind fun j => (R.ofO (keyD j)).bind fun j => if flatD d = true ∧ row.length < sizeLine then .ok (.nx (r.set t (.own (.dct (setR kvs k (.dct (putD row j d))))))) else .stk
    | _ => .stk
  | _ => .stk
section
variable {X : Cx} {W : WX} {e a ix jx : Expr} {pos pos' : Pos} {x : Str} {k : Nat}
end
end DL

end
section
/-! ### a dict of dicts is shown at last: its rows stand still -/
namespace DL
open PySem L2
def tLockN (t : TS) : TS := fun D σ H => ∃ as : List Addr, as.Nodup ∧ (∀ a ∈ as, ∃ u, H a = some u ∧ Mut (some u)) ∧ ∀ H' : Hp, (∀ a ∈ as, ∃ od u, H a = some u ∧ H' a = some (.frz od u)) → (∀ b, b ∉ as → H' b = H b) → t D σ H'
section
variable {K : PySem.W.Frag} {F : Fm} {os os' : List (Option Addr)} {r r' : Env} {σ σ' : St} {H H' : Hp} {t : Nat} {p : Addr} {as as' : List Addr}
/-- the rows stand still -/
def frzR : List (Key × D) → Option (List (Key × D))
  | [] => some []
  | (k, .dct l) :: r => (frzR r).map fun m => (k, .dctF l) :: m
  | _ :: _ => none
end
def fzT (t : Nat) (f : Env → R Fl) : Env → R Fl := fun r => match r[t]? with
  | some (.own (.dct kvs)) => (R.ofO (frzR kvs)).bind fun m => f (r.set t (.own (.dct m)))
  | _ => .stk
end DL

end
section
/-! ### lists of lists -/
namespace DL
open PySem L2
section
variable {K : PySem.W.Frag} {F : Fm} {os os' : List (Option Addr)} {r r' : Env} {σ σ' : St} {H H' : Hp} {t : Nat} {p : Addr} {as as' : List Addr}
end
/-- x[i][j] = e, x a list of lists -/
def itm2S (t : Nat) (fi fj fe : Env → R D) : Env → R Fl := fun r => (fe r).bind fun d => (fi r).bind fun i => (R.ofO (asI i)).bind fun i => match r[t]? with
  | some (.own (.lst rows)) => (R.ofO (ixN rows.length i)).bind fun i => match rows[i]? with
    | some (.lst row) => (fj r).bind fun j => (R.ofO (asI j)).bind fun j => (R.ofO (ixN row.length j)).bind fun j => if flatD d = true then .ok (.nx (r.set t (.own (.lst (rows.set i (.lst (row.set j d))))))) else .stk
    | _ => .stk
  | _ => .stk
/-- x[i][j] op= e -/
def itm2A (t : Nat) (g : D → D → Option D) (fi fj fe : Env → R D) : Env → R Fl := fun r => (fi r).bind fun i => (R.ofO (asI i)).bind fun i => match r[t]? with
  | some (.own (.lst rows)) => (R.ofO (ixN rows.length i)).bind fun i => match rows[i]? with
    | some (.lst row) => (fj r).bind fun j => (R.ofO (asN j)).bind fun n => (R.ofO row[n]?).bind fun x => (fe r).bind fun y => (R.ofO (g x y)).bind fun d => if flatD d = true then .ok (.nx (r.set t (.own (.lst (rows.set i (.lst (row.set n d))))))) else .stk
    | _ => .stk
  | _ => .stk
section
variable {X : Cx} {W : WX} {e a ix jx : Expr} {pos pos' : Pos} {x : Str} {k : Nat}
end
end DL

end
section
/-! ### a new list of new lists or dicts, by a comprehension -/
namespace DL
open PySem L2
def cF (K : PySem.W.Frag) (mg : Str → Option Value) (W : WX) (f : Env → R D) : TE := fun σ H Q => ∃ F os r, Rel K F os r σ H ∧
  Sat (fun d => ∀ p H', Same H H' → H p = none → RepO K H' (Ad (Av F.A0 os) p) d p → Q (.ref p) H') (ErK K mg W F) (f r)
theorem DF.can {X : Cx} {W : WX} {e : Expr} {f : Env → R D} (h : DF X W e f) : PE X e (cF X.K X.mg W f) := by
  obtain ⟨t, pe, w⟩ := h
  exact ⟨fun pins s σ H Q I ⟨F, os, r, R, S⟩ => pe.run pins s σ H Q I (w F os r σ H Q R S)⟩
def newLL (t : Nat) (own : List (Str × Nat)) (h : Env → R (List D)) (g : D → Env → R Env) (f : Env → R D) : Env → R Env := fun r => if noOwn (own.map (·.2)) r = true ∧ t < r.length then (h r).bind fun items => if items.length ≤ sizeLine then (lcP g yesB f (wipeE r (own.map (·.2))) items).bind fun ds => .ok (r.set t (.own (.lst ds))) else .stk else .stk
section
variable {X : Cx} {W : WX} {elt tg iter : Expr} {scope : Scope} {own : List (Str × Nat)} {pos : Pos} {ks : List Nat} {h : Env → R (List D)} {g : D → Env → R Env} {f : Env → R D} {y : Str} {py spos : Pos}
end
end DL

end
section
/-! ### lists of dicts -/
namespace DL
open PySem L2
/-- x[i][k] = e, x a list of dicts -/
def putLS (t : Nat) (fi fj fe : Env → R D) : Env → R Fl := fun r => (fe r).bind fun d => (fi r).bind fun i => (R.ofO (asI i)).bind fun i => match r[t]? with
  | some (.own (.lst rows)) => (R.ofO (ixN rows.length i)).bind fun i => match rows[i]? with
    | some (.dct row) => (fj r).bind fun j => (R.ofO (keyD j)).bind fun j => if flatD d = true ∧ row.length < sizeLine then .ok (.nx (r.set t (.own (.lst (rows.set i (.dct (putD row j d))))))) else .stk
    | _ => .stk
  | _ => .stk
section
variable {X : Cx} {W : WX} {e a ix jx : Expr} {pos pos' : Pos} {x : Str} {k : Nat}
end
end DL

end
section
/-! ### lists of dicts: a row is left for a new one -/
namespace DL
open PySem L2
section
variable {K : PySem.W.Frag} {F : Fm} {os os' : List (Option Addr)} {r r' : Env} {σ σ' : St} {H H' : Hp} {t : Nat} {p : Addr} {as as' : List Addr}
end
/-- x[i] = {}, x a list of dicts -/
def newRL (t : Nat) (fi : Env → R D) : Env → R Fl := fun r => (fi r).bind fun i => (R.ofO (asI i)).bind fun i => match r[t]? with
  | some (.own (.lst rows)) => (R.ofO (ixN rows.length i)).bind fun i => .ok (.nx (r.set t (.own (.lst (rows.set i (.dct []))))))
  | _ => .stk
section
variable {X : Cx} {W : WX} {e a ix jx : Expr} {pos pos' : Pos} {x : Str} {k : Nat}
end
end DL

end
section
/-! ### a name for a row of a table, for one statement -/
namespace DL
open PySem L2
section
variable {K : PySem.W.Frag} {F : Fm} {os os' : List (Option Addr)} {r r' : Env} {σ σ' : St} {H H' : Hp} {t c : Nat} {p : Addr} {as as' : List Addr}
end
end DL

end
section
/-! ### y = x[i]; y changed: x a list of lists or dicts -/
namespace DL
open PySem L2
noncomputable section
def noIoB (c : Nat) (r : Env) : Bool := (r.set c .un).all fun s => match s with
  | .io _ => false
  | _ => true
def curS (t c : Nat) (fi : Env → R D) (f2 : Env → R Fl) : Env → R Fl := fun r => (fi r).bind fun i => (R.ofO (asI i)).bind fun i => match r[t]? with
  | some (.own (.lst rows)) => (R.ofO (ixN rows.length i)).bind fun i => match rows[i]? with
    | some row => if noIoB c r = true ∧ c ≠ t ∧ c < r.length then (hidE t (nxE f2) (r.set c (.io row))).bind fun r1 => match r1[c]? with
        | some (.io d) => .ok (.nx ((r1.set t (.own (.lst (rows.set i d)))).set c .un))
        | _ => .stk
      else .stk
    | none => .stk
  | _ => .stk
section
variable {K : PySem.W.Frag} {F : Fm} {os os' : List (Option Addr)} {r r' : Env} {σ σ' : St} {H H' : Hp} {t c : Nat} {p : Addr} {as as' : List Addr}
def Fm.cur (F : Fm) (p : Addr) (as : List Addr) (os : List (Option Addr)) (H : Hp) (c : Nat) (a : Addr) : Fm := ⟨fun x => (F.A0 x ∨ x = p ∨ x ∈ as) ∧ x ≠ a, fun b => if some b ∈ os.set c none then none else H b, fun x => x = a⟩
end
section
variable {X : Cx} {W : WX} {e a ix jx : Expr} {pos pos' : Pos} {x y : Str} {k : Nat} {st : Stmt} {sts : List Stmt}
end
end
end DL

end
section
/-! ### y = what is read out of a table -/
namespace DL
open PySem L2
/-- a plain value, or a tuple of them -/
def flt2 : D → Bool
  | .tup ds => ds.all flatD
  | d => flatD d
theorem set_getE {α : Type} {l : List α} {t : Nat} {s : α} (h : l[t]? = some s) : l.set t s = l := by
  apply List.ext_getElem?
  intro i
  by_cases e : t = i
  · subst e; rw [List.getElem?_set_self (List.getElem?_eq_some_iff.mp h).1, h]
  · rw [List.getElem?_set_ne e]
/-- y = a new list of what is read out of the table t -/
def rdO (t c : Nat) (f : Env → R D) : Env → R Fl := fun r => (f r).bind fun d => match d with
  | .lst ds => if ds.all flt2 = true ∧ c ≠ t then .ok (.nx (r.set c (.own (.lst ds)))) else .stk
  | _ => .stk
/-- the same; nobody changes it -/
def rdF (t c : Nat) (f : Env → R D) : Env → R Fl := fun r => (f r).bind fun d => match d with
  | .lst ds => if ds.all flt2 = true ∧ c ≠ t then .ok (.nx (r.set c (.sh (.lst ds)))) else .stk
  | _ => .stk
/-- y = a value that is read out of the table t -/
def rdV (t c : Nat) (f : Env → R D) : Env → R Fl := fun r => (f r).bind fun d => if flt2 d = true ∧ c ≠ t then .ok (.nx (r.set c (.sh d))) else .stk
section
variable {X : Cx} {W : WX} {e a ix jx : Expr} {pos pos' : Pos} {x y : Str} {k : Nat} {st : Stmt} {sts : List Stmt}
theorem RelN.env {K : PySem.W.Frag} {F : Fm} {os os' : List (Option Addr)} {r : Env} {σ σ' : St} {H H' : Hp} {t c : Nat} {p : Addr} {as : List Addr} (R : RelN K F t p as os r σ H) {s : Slot} (ct : c ≠ t) (R' : Rel K (F.tab p as os H) os' ((r.set t (.sh (.ref p))).set c s) σ' H') (k : Keep (An F p as os) (An F p as os') H H') : RelN K F t p as os' (r.set c s) σ' H' := by
  obtain ⟨T, h1, _⟩ := R.tab
  have b := R.back R' (by rw [List.getElem?_set_ne ct, List.getElem?_set_self R.lt]) k h1
  rw [List.set_comm _ _ ct, List.set_set, set_getE h1] at b
  exact b
end
end DL

end
section
set_option maxHeartbeats 4000000
namespace DL
open PySem PySem.Spec PyProof.Rows L2 PySem.Froz PpSet
/-! ### {elt for target in iter if .. for target1 in iter1 if ..}, elt a text -/
section
variable {prog : Program} {w : World} {A : Around} {R : Result → Shared → Prop} {s : Shared} {elt tg iter tg1 iter1 : Expr} {ifs ifs1 : List Expr} {scope : Scope} {pos : Pos} {it acc : Value} {env : PySem.Env}
end
section
variable {X : Cx}
def tSc2 (P : Program) (w : World) (wi : TI) (g : TG) (tt : TT) (wi1 : TI) (g1 : TG) (tt1 : TT) (te : TE) (vs vs1 : List Nat) : TE := fun σ H Q => wi σ H fun J H1 => ∀ D, H1 D = none → ∃ W : Nat → Nat → Hp → Prop, (∃ m, W 0 m (upd H1 D (SetTO P w D []))) ∧ ∀ i m H, W i m H →
  (J.stop i H ∧ Q (.ref D) H) ∨ (J.go i H ∧ ∃ Nx : Hp → Prop, (∀ H', Nx H' → ∃ m', m' < m ∧ W (i + 1) m' H') ∧ ∀ x H', J.yld i H x H' → g x (L2.wipe σ vs) H' fun σ2 H2 => L2.wipe σ2 vs = L2.wipe σ vs ∧ tt σ2 H2 fun b H3 =>
    if b = true then wi1 σ2 H3 fun J1 H4 => ∃ W1 : Nat → Nat → Hp → Prop, (∃ m, W1 0 m H4) ∧ ∀ j k H, W1 j k H →
      (J1.stop j H ∧ Nx H) ∨ (J1.go j H ∧ ∃ Nx1 : Hp → Prop, (∀ H', Nx1 H' → ∃ k', k' < k ∧ W1 (j + 1) k' H') ∧ ∀ x H', J1.yld j H x H' → g1 x (L2.wipe σ2 vs1) H' fun σ3 H5 => L2.wipe σ3 vs1 = L2.wipe σ2 vs1 ∧ tt1 σ3 H5 fun b H6 =>
        if b = true then te σ3 H6 fun y H7 => ∃ (c : PySem.Str) (l : List PySem.Str), y = .str c ∧ H7 D = some (SetTO P w D l) ∧ l.length + 1 < scanBound ∧ Nx1 (upd H7 D (SetTO P w D (insT l c))) else Nx1 H6)
    else Nx H3)
end
end DL

end
section
set_option maxHeartbeats 4000000
namespace DL
open PySem L2
/-! ### over data: sorted({elt for target in iter if .. for target1 in iter1 if ..}) -/
def srtSc2D (own : List (Str × Nat)) (h : Env → R (List D)) (g : D → Env → R Env) (c : Env → R Bool) (h1 : Env → R (List D)) (vs1 : List Nat) (g1 : D → Env → R Env) (c1 : Env → R Bool) (f : Env → R D) : Env → R D := fun r =>
  if noOwn (own.map (·.2)) r = true then (h r).bind fun items => (R.ne (lc2P g c h1 vs1 g1 c1 f (wipeE r (own.map (·.2))) items)).bind fun ds =>
    (R.ofO (strsOf ds)).bind fun ss => if ss.length + 1 < scanBound then .ok (.lst ((sortStr (dedT ss)).map D.str)) else .stk else .stk
section
variable {X : Cx} {W : WX} {elt tg iter tg1 iter1 : Expr} {ifs ifs1 : List Expr} {scope : Scope} {own : List (Str × Nat)} {p pos pos2 : Pos} {ks k1 vs1 : List Nat} {h h1 : Env → R (List D)} {g g1 : D → Env → R Env} {c c1 : Env → R Bool} {f : Env → R D}
end
end DL

end
section
set_option maxHeartbeats 2000000
namespace DL
open PySem L2
/-! ### sorted({elt for target in iter if ..}): as many unlike texts as a set may have -/
def srtScUD (own : List (Str × Nat)) (h : Env → R (List D)) (g : D → Env → R Env) (c : Env → R Bool) (f : Env → R D) : Env → R D := fun r => if noOwn (own.map (·.2)) r = true then (h r).bind fun items => (R.ne (lcP g c f (wipeE r (own.map (·.2))) items)).bind fun ds =>
    (R.ofO (strsOf ds)).bind fun ss => if (dedT ss).length + 1 < scanBound then .ok (.lst ((sortStr (dedT ss)).map D.str)) else .stk else .stk
theorem few_dedT {l xs : List Str} (n : l.Nodup) (m : ∀ x ∈ l, x ∈ xs) : l.length ≤ (dedT xs).length := PT.nodup_le n fun x hx => mem_dedT.mpr (m x hx)
theorem srtScU_snd {X : Cx} {W : WX} {own : List (Str × Nat)} {ks : List Nat} {h : Env → R (List D)} {g : D → Env → R Env} {c : Env → R Bool} {f : Env → R D}
    (hk : ∀ k ∈ ks, k ∈ own.map (·.2)) (F : Fm) (os : List (Option Addr)) (r : Env) (σ : St) (H : Hp) (Q : VK) (R : Rel X.K F os r σ H)
    (S : Sat (fun d => ∀ p H', Same H H' → H p = none → RepO X.K H' (Ad (Av F.A0 os) p) d p → Q (.ref p) H') (Er X W F) (srtScUD own h g c f r)) :
    tScT X.prog X.w (cIp X.K X.mg W h) (cG X.K X.mg WF ks g) (cTp X.K X.mg WF c) (cP X.K X.mg WF f) (own.map (·.2)) σ H (fun y H2 => rSrtSetT X.prog X.w [y] H2 Q) := by
  unfold srtScUD at S
  by_cases hv : noOwn (own.map (·.2)) r = true
  · rw [if_pos hv] at S
    have hv' := noOwn_ok hv
    generalize hvs : own.map (·.2) = vs at hk hv hv' S ⊢
    refine ⟨F, os, r, R, S.bind.imp fun items S2 => ?_⟩
    intro J H1 G src s1 g1 D hD
    · have R1 := R.same' s1
      have hDH : H D = none := s1.free hD
      have F0 : F.H0 D = none ∨ F.io D := by
        by_cases hio : F.io D
        · exact .inr hio
        · cases q : F.H0 D with
          | none => exact .inl rfl
          | some o =>
            have := R1.same D o q hio
            rw [hD] at this
            cases this
      let Fin : List Str → Prop := fun ss => (dedT ss).length + 1 < scanBound ∧ ∀ p H', Same H H' → H p = none → RepO X.K H' (Ad (Av F.A0 os) p) (.lst ((sortStr (dedT ss)).map DL.D.str)) p → Q (.ref p) H'
      have S3 : Sat (fun ds => ∃ ss, strsOf ds = some ss ∧ Fin ss) (fun _ _ => False) (DL.R.ne (lcP g c f (wipeE r vs) items)) := by
        cases q : lcP g c f (wipeE r vs) items with
        | ok ds =>
          rw [q] at S2
          obtain ⟨ss, e, S2⟩ := (Sat.bind (g := fun ss => if (dedT ss).length + 1 < scanBound then DL.R.ok (DL.D.lst ((sortStr (dedT ss)).map DL.D.str)) else DL.R.stk) S2).ofO
          by_cases hl : (dedT ss).length + 1 < scanBound
          · rw [if_pos hl] at S2
            exact ⟨ss, e, hl, S2⟩
          · rw [if_neg hl] at S2
            exact S2.elim
        | err x e => rw [q] at S2; exact S2
        | stk => rw [q] at S2; exact S2
      let FD : Fm := ⟨Ad F.A0 D, F.H0, F.io⟩
      have R2 : Rel X.K FD os (wipeE r vs) (L2.wipe σ vs) (upd H1 D (SetTO X.prog X.w D [])) := (R1.ext (p := D) (o := SetTO X.prog X.w D []) hD rfl).wipe _ hv'
      have kp0 : Keep (Av F.A0 os) (Av FD.A0 os) H1 (upd H1 D (SetTO X.prog X.w D [])) := fun b u e nb => ⟨by rw [upd_ne (ne_of_none e hD)]; exact e, fun z => by
        rcases z with (z | z) | z
        · exact nb (.inl z)
        · rw [z, hD] at e
          cases e
        · exact nb (.inr z)⟩
      have g2 : G (Av FD.A0 os) (upd H1 D (SetTO X.prog X.w D [])) := src.keep _ _ _ _ R1.AOk kp0 g1
      let Pv : Nat → Hp → Prop := fun i H' => ∃ acc l, Rel X.K FD os (wipeE r vs) (L2.wipe σ vs) H' ∧ H' D = some (SetTO X.prog X.w D l) ∧ l.Nodup ∧ l.length ≤ i ∧ (∀ x, x ∈ l ↔ x ∈ acc) ∧ G (Av FD.A0 os) H' ∧ Same H H' ∧
        Sat (fun ds => ∃ ss, strsOf ds = some ss ∧ Fin (acc ++ ss)) (fun _ _ => False) (DL.R.ne (lcP g c f (wipeE r vs) (items.drop i)))
      refine ⟨fun i m H' => m = items.length - i ∧ i ≤ items.length ∧ Pv i H', ⟨_, rfl, Nat.zero_le _, [], [], R2, upd_same, List.nodup_nil, Nat.le_refl _, fun x => Iff.rfl, g2, s1.trans (same_upd hD), S3⟩, ?_⟩
      rintro i m H2 ⟨rfl, hi, acc, l, R', hDa, nd, hlen, mem, g', sm, S'⟩
      have wk := walk_src src
      by_cases hlt : i < items.length
      · refine .inr ⟨wk.goes i H2 hlt ⟨_, R'.AOk, g'⟩, Pv (i + 1), fun H' p' => ⟨items.length - (i + 1), by omega, rfl, hlt, p'⟩, fun x H3 y => ?_⟩
        obtain ⟨s3, d, ed, hd⟩ := src.yields _ i H2 x H3 R'.AOk hlt g' y
        rw [drop_get ed] at S'
        unfold lcP at S'
        have R3 := R'.same' s3
        have g3 := src.keep _ _ _ _ R'.AOk (Keep.of s3) g'
        refine ⟨_, os, _, d, R3, hd, (Sat.neB (S'.ne (q' := fun _ _ => False))).imp fun r4 S4 os4 σ4 H4 R4 k4 s4 o4 => ⟨wipe_off o4 hk, _, os4, r4, R4, (Sat.neB S4).imp fun b S5 H5 s5 => ?_⟩⟩
        have s35 : Same H3 H5 := s4.trans s5
        have R5 := R3.same' s35
        have hD5 : H5 D = some (SetTO X.prog X.w D l) := s35 _ _ (s3 _ _ hDa)
        have g5 := src.keep _ _ _ _ R3.AOk (Keep.of s35) g3
        have sm5 : Same H H5 := (sm.trans s3).trans s35
        cases b with
        | false =>
          simp only [Bool.false_eq_true, if_false] at S5 ⊢
          refine ⟨acc, l, R5, hD5, nd, Nat.le_succ_of_le hlen, mem, g5, sm5, ?_⟩
          cases q : lcP g c f (wipeE r vs) (items.drop (i + 1)) with
          | ok ds => rw [q] at S5; exact S5
          | err x e => rw [q] at S5; exact S5
          | stk => rw [q] at S5; exact S5
        | true =>
          simp only [if_true] at S5 ⊢
          refine ⟨_, os4, r4, R4.same' s5, (Sat.neB S5).imp fun dd S6 v H6 s6 h6 => ?_⟩
          have S7 : ∃ x, dd = .str x ∧ Sat (fun ds => ∃ ss, strsOf ds = some ss ∧ Fin ((acc ++ [x]) ++ ss)) (fun _ _ => False) (DL.R.ne (lcP g c f (wipeE r vs) (items.drop (i + 1)))) := by
            cases q : lcP g c f (wipeE r vs) (items.drop (i + 1)) with
            | err x e => rw [q] at S6; exact S6.elim
            | stk => rw [q] at S6; exact S6.elim
            | ok ds =>
              rw [q] at S6
              obtain ⟨ss, e1, e2⟩ := S6
              obtain ⟨x, t, ex, et, es⟩ := strsOf_cons e1
              subst es
              exact ⟨x, ex, t, et, by rw [List.append_assoc]; exact e2⟩
          obtain ⟨x, ex, S7⟩ := S7
          subst ex
          have s36 : Same H3 H6 := s35.trans s6
          have R36 := R3.same' s36
          have hD6 : H6 D = some (SetTO X.prog X.w D l) := s6 _ _ hD5
          obtain ⟨R7, k7⟩ := R36.updA (p := D) (o := SetTO X.prog X.w D (insT l x)) (.inr rfl) rfl F0
          have room : l.length + 1 < scanBound := by
            cases q : lcP g c f (wipeE r vs) (items.drop (i + 1)) with
            | err x e => rw [q] at S7; exact S7.elim
            | stk => rw [q] at S7; exact S7.elim
            | ok ds =>
              rw [q] at S7
              obtain ⟨ss, _, e2, _⟩ := S7
              have := few_dedT (xs := (acc ++ [x]) ++ ss) nd fun z hz => List.mem_append.mpr (.inl (List.mem_append.mpr (.inl ((mem z).mp hz))))
              omega
          refine ⟨x, l, RepB.str (.inl h6), hD6, room, acc ++ [x], insT l x, R7, upd_same, nodup_insT nd, Nat.le_trans len_insT (Nat.succ_le_succ hlen), fun z => ?_, src.keep _ _ _ _ R36.AOk k7 (src.keep _ _ _ _ R3.AOk (Keep.of s36) g3), ?_, S7⟩
          · rw [mem_insT, mem z, List.mem_append, List.mem_singleton]
          · intro b u e
            rw [upd_ne (fun z => by rw [z, hDH] at e; cases e)]
            exact s6 _ _ (sm5 _ _ e)
      · have e : i = items.length := by omega
        subst e
        refine .inl ⟨wk.stops H2 ⟨_, R'.AOk, g'⟩, ?_⟩
        rw [List.drop_length] at S'
        obtain ⟨ss, e1, e2⟩ := S'
        cases e1
        rw [List.append_nil] at e2
        obtain ⟨eb, e2⟩ := e2
        have room : l.length + 1 < scanBound := by
          have := few_dedT (xs := acc) nd fun z hz => (mem z).mp hz
          omega
        refine ⟨D, l, rfl, hDa, by omega, fun q nq => ?_⟩
        rw [sortStr_perm (perm_dedT nd mem)]
        exact e2 q _ (sm.trans (same_upd nq)) (sm.free nq) ⟨_, upd_same, repL_strs' _⟩
  · rw [if_neg hv] at S
    exact S.elim
section
variable {X : Cx} {W : WX} {elt tg iter : Expr} {ifs : List Expr} {scope : Scope} {own : List (Str × Nat)} {p pos pos2 : Pos} {ks : List Nat} {h : Env → R (List D)} {g : D → Env → R Env} {c : Env → R Bool} {f : Env → R D}
theorem d_srtScU (hc : X.calm = true) (hN : X.N.Nodup) (hgl : Gl X "sorted") (hm : X.mg "sorted" = none) (hi : DIp X W tg iter h) (ok : BlkOk X.N X.env.scope scope own)
    (hg : ∀ (s : Shared) (H : Hp) (C : Addr) (cl : List (Str × Addr)) (fp : List Addr), DG (X.blk s H scope (compEnvC scope cl C X.env) fp) WF ks tg g)
    (ht : ∀ (s : Shared) (H : Hp) (C : Addr) (cl : List (Str × Addr)) (fp : List Addr), DC (X.blk s H scope (compEnvC scope cl C X.env) fp) WF ifs c)
    (he : ∀ (s : Shared) (H : Hp) (C : Addr) (cl : List (Str × Addr)) (fp : List Addr), DP (X.blk s H scope (compEnvC scope cl C X.env) fp) WF elt f)
    (hk : ∀ k ∈ ks, k ∈ own.map (·.2) := by decide) (hs : ∀ x, foldedSetIterable iter X.env x = pure x := by intro _; rfl)
    (nb : starEach [.SetComp elt [⟨tg, iter, ifs, 0⟩] scope pos2] X.env = (false, eval (.SetComp elt [⟨tg, iter, ifs, 0⟩] scope pos2) X.env) :: starEach [] X.env := by rfl) :
    DF X W (.Call (.Name "sorted" p) [.SetComp elt [⟨tg, iter, ifs, 0⟩] scope pos2] [] pos) (srtScUD own h g c f) :=
  ⟨_, pe_callB (cr_srtSetT hc) hgl hm (by rfl) (pa_cons (pe_scT hc hN hi.can ok (fun s H C cl fp => (hg s H C cl fp).can) (fun s H C cl fp => (ht s H C cl fp).can) (fun s H C cl fp => (he s H C cl fp).can) hs) pa_nil nb) (he := nb), fun F os r σ H Q R S => srtScU_snd hk F os r σ H Q R S⟩
end
end DL

end
section
namespace DL
open PySem L2 PyProof.Rows
/-! ### a tuple times a number from 0 on -/
def rMul0 (K : PySem.W.Frag) : R2 := fun x y H Q => ∃ (l : Addr) (k : Int) (xs : List V), x = .ref l ∧ y = .int k ∧ SqT K H l xs ∧ xs ≠ [] ∧ k ≤ 0 ∧ -1000 ≤ k ∧ ∀ p, H p = none → Q (.ref p) (upd H p (.tup []))
def mulTZ (x y : D) : Option D := match x, y with
  | .tup xs, .int k => if k ≤ 0 then (if xs.isEmpty = false ∧ -1000 ≤ k then some (.tup []) else none) else mulTD x y
  | _, _ => none
end DL

end
section
namespace LW
open PySem L2 DL
noncomputable section
abbrev topS (i : Nat) : Stmt := (PySem.W.OpenLaw.row PySem.Challenge.rw_jumpcuts_k39_across_ranks_of_long_films).prog.main.body.getD i (.Pass ⟨0, 0, 0, 0⟩)
abbrev FnP (K : PySem.W.Frag) (x : Str) (st : Stmt) (f : Addr) (fd : FuncData) : Prop := FunD K x x (defArgs st) (defBody st) (defScope st) [] [] f fd
structure Gs (mg : Str → Option Value) : Prop where
  f_bool : mg "bool" = none
  f_enumerate : mg "enumerate" = none
  f_int : mg "int" = none
  f_isinstance : mg "isinstance" = none
  f_len : mg "len" = none
  f_min : mg "min" = none
  f_range : mg "range" = none
  f_reversed : mg "reversed" = none
  f_sorted : mg "sorted" = none
  f_str : mg "str" = none
  f_sum : mg "sum" = none
  f_tuple : mg "tuple" = none
  c_LETTERS : ∃ t, mg "LETTERS" = some (.str "abcdefgh" t)
  c_MOST_LETTERS : ∃ t, mg "MOST_LETTERS" = some (.int 200 t)
/-! ### the class Graph -/
abbrev sI_Graph : Stmt := inClass (topS 12) 0
theorem scI_Graph : FnScope ["self", "arrows", "ends"] ["self", "arrows", "ends"] (defScope sI_Graph) := ⟨rfl, rfl, rfl, by decide +kernel, rfl, by decide +kernel, by decide +kernel⟩
theorem ok_Graph {P : Program} {w : World} {K : PySem.W.Frag} {mg : Str → Option Value} {base : Heap} {C f : Addr} {fd : FuncData} (F : FunD K "__init__" "Graph.__init__" (defArgs sI_Graph) (defBody sI_Graph) (defScope sI_Graph) [] [] f fd) (M : Mk K C f) (hm : mg "Graph" = some (.ref C)) (hc : Cls K C) (n1 : NoAttr K C "arrows") (n2 : NoAttr K C "ends") : CalC P w K mg base 1 "Graph" "arrows" "ends" :=
  ⟨C, f, fd, ["self", "arrows", "ends"], init_ok F scI_Graph hc n1 n2 (by decide) (fun _ _ => ⟨by first | exact Or.inl rfl | exact Or.inr (Or.inl rfl) | exact Or.inr (Or.inr rfl), by first | exact Or.inl rfl | exact Or.inr (Or.inl rfl) | exact Or.inr (Or.inr rfl), by first | exact Or.inl rfl | exact Or.inr (Or.inl rfl) | exact Or.inr (Or.inr rfl)⟩) (by decide) (by decide), M, hm, F.bindsN (ps := ["self", "arrows", "ends"]) (fun _ _ _ _ _ _ us hl => match us, hl with | [_, _, _], _ => rfl), hc, n1, n2⟩
/-! ### _law_taken -/
abbrev s__law_taken : Stmt := topS 44
abbrev N__law_taken : List Str := ["row", "many", "found", "cell"]
def b__law_taken : DL.Env → DL.R Fl := (seqS (ifS (withEnv (tst (bin gtD (bin ixD (gAny 0) (kc (.int 3))) (kc (.int 0))))) (seqS (setS 2 (withEnv (bin modD (appN intD (aCons (bin ixD (gAny 0) (kc (.int 3))) aNil)) (gAny 1)))) (seqS (itmS 0 (kc (.int 3)) (bin fdivD (bin ixD (gAny 0) (kc (.int 3))) (gAny 1))) (retS (withEnv (gSh 2))))) skipS) (seqS (itmS 0 (kc (.int 1)) (bin plusD (bin ixD (gAny 0) (kc (.int 1))) (kc (.int 1)))) (seqS (ifS (withEnv (tst (bin gtD (bin ixD (gAny 0) (kc (.int 1))) (appN lenD (aCons (bin ixD (gAny 0) (kc (.int 0))) aNil))))) (seqS (itmS 0 (kc (.int 2)) (bin modD (appN intD (aCons (bin plusD (bin mulD (bin ixD (gAny 0) (kc (.int 2))) (kc (.int 48271))) (kc (.int 11))) aNil)) (kc (.int 2147483647)))) (retS (withEnv (bin modD (appN intD (aCons (bin fdivD (bin ixD (gAny 0) (kc (.int 2))) (kc (.int 7))) aNil)) (gAny 1))))) skipS) (seqS (setS 3 (withEnv (bin ixD (bin ixD (gAny 0) (kc (.int 0))) (bin subD (bin ixD (gAny 0) (kc (.int 1))) (kc (.int 1)))))) (seqS (itmS 0 (kc (.int 2)) (bin modD (appN intD (aCons (bin plusD (bin plusD (bin mulD (bin ixD (gAny 0) (kc (.int 2))) (kc (.int 48271))) (gAny 3)) (kc (.int 11))) aNil)) (kc (.int 2147483647)))) (seqS (ifS (withEnv (tst (bin geD (gAny 3) (bin powD (kc (.int 10)) (kc (.int 18)))))) (itmS 0 (kc (.int 3)) (bin fdivD (gAny 3) (gAny 1))) skipS) (retS (withEnv (bin modD (appN intD (aCons (gAny 3) aNil)) (gAny 1))))))))))
def F__law_taken : List D → List D → DL.R (D × List D) := fnIO 4 1 b__law_taken
theorem sc__law_taken : FnScope N__law_taken ["row", "many"] (defScope s__law_taken) := ⟨rfl, rfl, rfl, by decide +kernel, rfl, by decide +kernel, by decide +kernel⟩
theorem ok__law_taken {P : Program} {w : World} {K : PySem.W.Frag} {mg : Str → Option Value} {base : Heap} {f : Addr} {fd : FuncData} (G : Gs mg) (F : FnP K "_law_taken" s__law_taken f fd) (hm : mg "_law_taken" = some (.ref f))  : CalIO P w K mg base 1 "_law_taken" 1 F__law_taken := by
  have S := sc__law_taken
  refine calio_of (N := N__law_taken) (q := "row") (ps := ["many"]) (b := b__law_taken) F S hm (by decide) (fun _ _ _ _ _ _ us hl => match us, hl with | [_, _], _ => rfl) fun cdv A outer s H E hr => ?_
  exact (s_cons (s_if (DT.toE (t_cmp op_gt o_cmpI (DP.toB (d_ix (b_var 0) (DP.toB d_int))) (DP.toB d_int) (by rfl))) (s_cons (s_set 2 S.nd (DP.toE (d_op op_mod o_mod (DP.toB (d_callT call_int3 o_intc rfl G.f_int (by rfl) (b_cons (DP.toB (d_ix (b_var 0) (DP.toB d_int))) b_nil))) (b_var 1)))) (s_cons (s_item 0 (d_op op_fdiv o_fdiv (DP.toB (d_ix (b_var 0) (DP.toB d_int))) (b_var 1)) (DP.toB d_int)) (s_one (s_ret (DP.toE (d_var 2)))))) s_nil) (s_cons (s_item 0 (d_op op_plus o_plus (DP.toB (d_ix (b_var 0) (DP.toB d_int))) (DP.toB d_int)) (DP.toB d_int)) (s_cons (s_if (DT.toE (t_cmp op_gt o_cmpI (DP.toB (d_ix (b_var 0) (DP.toB d_int))) (DP.toB (d_callB call_len3 o_len rfl G.f_len (by rfl) (b_cons (DP.toB (d_ix (b_var 0) (DP.toB d_int))) b_nil))) (by rfl))) (s_cons (s_item 0 (d_op op_mod o_mod (DP.toB (d_callT call_int3 o_intc rfl G.f_int (by rfl) (b_cons (DP.toB (d_op op_plus o_plus (DP.toB (d_op op_mul o_mul (DP.toB (d_ix (b_var 0) (DP.toB d_int))) (DP.toB d_int))) (DP.toB d_int))) b_nil))) (DP.toB d_int)) (DP.toB d_int)) (s_one (s_ret (DP.toE (d_op op_mod o_mod (DP.toB (d_callT call_int3 o_intc rfl G.f_int (by rfl) (b_cons (DP.toB (d_op op_fdiv o_fdiv (DP.toB (d_ix (b_var 0) (DP.toB d_int))) (DP.toB d_int))) b_nil))) (b_var 1)))))) s_nil) (s_cons (s_set 3 S.nd (DP.toE (d_ix (DP.toB (d_ix (b_var 0) (DP.toB d_int))) (DP.toB (d_op op_sub o_sub (DP.toB (d_ix (b_var 0) (DP.toB d_int))) (DP.toB d_int)))))) (s_cons (s_item 0 (d_op op_mod o_mod (DP.toB (d_callT call_int3 o_intc rfl G.f_int (by rfl) (b_cons (DP.toB (d_op op_plus o_plus (DP.toB (d_op op_plus o_plus (DP.toB (d_op op_mul o_mul (DP.toB (d_ix (b_var 0) (DP.toB d_int))) (DP.toB d_int))) (b_var 3))) (DP.toB d_int))) b_nil))) (DP.toB d_int)) (DP.toB d_int)) (s_cons (s_if (DT.toE (t_cmp op_ge o_cmpI (b_var 3) (DP.toB (d_op op_pow o_pow (DP.toB d_int) (DP.toB d_int))) (by rfl))) (s_one (s_item 0 (d_op op_fdiv o_fdiv (b_var 3) (b_var 1)) (DP.toB d_int))) s_nil) (s_one (s_ret (DP.toE (d_op op_mod o_mod (DP.toB (d_callT call_int3 o_intc rfl G.f_int (by rfl) (b_cons (b_var 3) b_nil))) (b_var 1)))))))))))
/-! ### _law_film -/
abbrev s__law_film : Stmt := topS 45
abbrev N__law_film : List Str := ["row", "most", "many", "found", "turn"]
def b__law_film : DL.Env → DL.R Fl := (seqS (setS 3 (withEnv (kc (.str "")))) (seqS (forS (itR1 (aConsE (binE plusD (withEnv (kc (.int 1))) (callIO 0 1 F__law_taken (withEnv (aCons (gSh 1) aNil)))) (withEnv aNil))) (gSet 4) (setS 3 (binE plusD (withEnv (gSh 3)) (binE ixD (withEnv (kc (.str "abcdefgh"))) (callIO 0 1 F__law_taken (withEnv (aCons (gSh 2) aNil))))))) (retS (withEnv (gSh 3)))))
def F__law_film : List D → List D → DL.R (D × List D) := fnIO 5 2 b__law_film
theorem sc__law_film : FnScope N__law_film ["row", "most", "many"] (defScope s__law_film) := ⟨rfl, rfl, rfl, by decide +kernel, rfl, by decide +kernel, by decide +kernel⟩
theorem ok__law_film {P : Program} {w : World} {K : PySem.W.Frag} {mg : Str → Option Value} {base : Heap} {f : Addr} {fd : FuncData} (G : Gs mg) (F : FnP K "_law_film" s__law_film f fd) (hm : mg "_law_film" = some (.ref f)) (c__law_taken : CalIO P w K mg base 1 "_law_taken" 1 F__law_taken) : CalIO P w K mg base 2 "_law_film" 2 F__law_film := by
  have S := sc__law_film
  refine calio_of (N := N__law_film) (q := "row") (ps := ["most", "many"]) (b := b__law_film) F S hm (by decide) (fun _ _ _ _ _ _ us hl => match us, hl with | [_, _, _], _ => rfl) fun cdv A outer s H E hr => ?_
  exact (s_cons (s_set 3 S.nd (DP.toE d_str)) (s_cons (s_for (passes_of rfl) rfl (i_range1 rfl G.f_range (e_cons (e_op op_plus o_plus (DP.toE d_int) (e_fnIO 0 c__law_taken (hr.mono (by decide)) rfl (takes_of rfl rfl rfl rfl) (DPs.toE (p_cons (d_var 1) p_nil)))) (DPs.toE p_nil))) (g_name S.nd (i := 4)) (s_one (s_set 3 S.nd (e_op op_plus o_plus (DP.toE (d_var 3)) (e_ix (DP.toE d_str) (e_fnIO 0 c__law_taken (hr.mono (by decide)) rfl (takes_of rfl rfl rfl rfl) (DPs.toE (p_cons (d_var 2) p_nil)))))))) (s_one (s_ret (DP.toE (d_var 3))))))
/-! ### is_letter -/
abbrev s_is_letter : Stmt := topS 8
abbrev N_is_letter : List Str := ["value"]
def b_is_letter : DL.Env → DL.R Fl := (retS (withEnv (andV (appN isiD (aCons (gAny 0) (aCons (kc (.ty "str")) aNil))) (andV (bin eqD (appN lenD (aCons (gAny 0) aNil)) (kc (.int 1))) (bin (inB false) (gAny 0) (kc (.str "abcdefgh")))))))
def F_is_letter : List D → DL.R D := fnD 1 1 b_is_letter
theorem sc_is_letter : FnScope N_is_letter ["value"] (defScope s_is_letter) := ⟨rfl, rfl, rfl, by decide +kernel, rfl, by decide +kernel, by decide +kernel⟩
theorem ok_is_letter {P : Program} {w : World} {K : PySem.W.Frag} {mg : Str → Option Value} {base : Heap} {f : Addr} {fd : FuncData} (G : Gs mg) (F : FnP K "is_letter" s_is_letter f fd) (hm : mg "is_letter" = some (.ref f))  : Cal P w K mg base 1 "is_letter" 1 F_is_letter := by
  have S := sc_is_letter
  refine cal_of (N := N_is_letter) (ps := ["value"]) (b := b_is_letter) F S hm (by decide) (fun _ _ _ _ _ _ us hl => match us, hl with | [_], _ => rfl) fun cdv A outer s H E hr => ?_
  exact (s_one (s_ret (DP.toE (d_and (d_callB call_isi3 o_isi rfl G.f_isinstance (by rfl) (b_cons (b_var 0) (b_cons (DP.toB (b_ty rfl G.f_str (by rfl))) b_nil))) (d_and (d_cmp (op_eq2 hr.units) o_eq (DP.toB (d_callB call_len3 o_len rfl G.f_len (by rfl) (b_cons (b_var 0) b_nil))) (DP.toB d_int) (by rfl)) (d_one (d_cmp (op_in3 (u65 hr)) o_in (b_var 0) (DP.toB (d_gstr G.c_LETTERS rfl)) (by rfl))))))))
/-! ### check_film -/
abbrev s_check_film : Stmt := topS 9
abbrev N_check_film : List Str := ["value", "place", "sign"]
def b_check_film : DL.Env → DL.R Fl := (seqS (ifS (withEnv (orB (notB (tru (appN isiD (aCons (gAny 0) (aCons (kc (.ty "str")) aNil))))) (notB (tst (chn le2D le2D (kc (.int 1)) (appN lenD (aCons (gAny 0) aNil)) (kc (.int 200))))))) nvrS skipS) (forS (withEnv (itN enD (aCons (gSh 0) aNil))) (gTupD 2 (gsCons (gSet 1) (gsCons (gSet 2) gsNil))) (ifS (withEnv (notB (tru (callF 1 F_is_letter (aCons (gSh 2) aNil))))) nvrS skipS)))
def F_check_film : List D → DL.R D := fnD 3 1 b_check_film
theorem sc_check_film : FnScope N_check_film ["value"] (defScope s_check_film) := ⟨rfl, rfl, rfl, by decide +kernel, rfl, by decide +kernel, by decide +kernel⟩
theorem ok_check_film {P : Program} {w : World} {K : PySem.W.Frag} {mg : Str → Option Value} {base : Heap} {f : Addr} {fd : FuncData} (G : Gs mg) (F : FnP K "check_film" s_check_film f fd) (hm : mg "check_film" = some (.ref f)) (c_is_letter : Cal P w K mg base 1 "is_letter" 1 F_is_letter) : Cal P w K mg base 2 "check_film" 1 F_check_film := by
  have S := sc_check_film
  refine cal_of (N := N_check_film) (ps := ["value"]) (b := b_check_film) F S hm (by decide) (fun _ _ _ _ _ _ us hl => match us, hl with | [_], _ => rfl) fun cdv A outer s H E hr => ?_
  exact (s_cons (s_if (DT.toE (DW.t (w_or (t_not (t_tru (DP.toB (d_callB call_isi3 o_isi rfl G.f_isinstance (by rfl) (b_cons (b_var 0) (b_cons (DP.toB (b_ty rfl G.f_str (by rfl))) b_nil)))))) (w_or1 (t_not (t_chain (op_le2 hr.units0) (op_le2 hr.units0) o_le2 o_le2 (DP.toB d_int) (DP.toB (d_callB call_len3 o_len rfl G.f_len (by rfl) (b_cons (b_var 0) b_nil))) (DP.toB (d_gint G.c_MOST_LETTERS rfl)))))))) (s_one s_never) s_nil) (s_one (s_for (passes_of rfl) rfl (DIp.toI (p_en rfl G.f_enumerate (p_cons (d_var 0) p_nil))) (g_tup rfl (gs_cons (g_name S.nd (i := 1)) (gs_cons (g_name S.nd (i := 2)) gs_nil))) (s_one (s_if (DT.toE (t_not (t_tru (DP.toB (d_fn c_is_letter (hr.mono (by decide)) rfl (takes_of rfl rfl rfl rfl) (p_cons (d_var 2) p_nil)))))) (s_one s_never) s_nil)))))
/-! ### counts_from -/
abbrev s_counts_from : Stmt := topS 14
abbrev N_counts_from : List Str := ["graph", "counts", "node", "after"]
def b_counts_from : DL.Env → DL.R Fl := (seqS (setO 1 (bin repD (mkL (aCons (kc (.int 0)) aNil)) (appN lenD (aCons (un1 (fldD "arrows") (gSh 0)) aNil)))) (seqS (forS (withEnv (itX (rvR (.int 0)) (appN lenD (aCons (un1 (fldD "arrows") (gSh 0)) aNil)))) (gSet 2) (seqS (itmS 1 (gAny 2) (appN sumD (aCons (lcD [("after", 3)] (itX valsD (bin ixD (un1 (fldD "arrows") (gSh 0)) (gAny 2))) (gSet 3) yesB (bin ixD (gAny 1) (gAny 3))) aNil))) (ifS (withEnv (tru (bin ixD (un1 (fldD "ends") (gSh 0)) (gAny 2)))) (itmA 1 (intOp (fun _ _ => true) fun i j => i + j) (gAny 2) (kc (.int 1))) skipS))) (retO 1)))
def F_counts_from : List D → DL.R D := fnD 4 1 b_counts_from
theorem sc_counts_from : FnScope N_counts_from ["graph"] (defScope s_counts_from) := ⟨rfl, rfl, rfl, by decide +kernel, rfl, by decide +kernel, by decide +kernel⟩
theorem ok_counts_from {P : Program} {w : World} {K : PySem.W.Frag} {mg : Str → Option Value} {base : Heap} {f : Addr} {fd : FuncData} (G : Gs mg) (F : FnP K "counts_from" s_counts_from f fd) (hm : mg "counts_from" = some (.ref f))  : Cal P w K mg base 1 "counts_from" 1 F_counts_from := by
  have S := sc_counts_from
  refine cal_of (N := N_counts_from) (ps := ["graph"]) (b := b_counts_from) F S hm (by decide) (fun _ _ _ _ _ _ us hl => match us, hl with | [_], _ => rfl) fun cdv A outer s H E hr => ?_
  exact (s_cons (s_setO 1 S.nd (d_repF (d_lst (p_cons d_int p_nil)) (DP.toB (d_callB call_len3 o_len rfl G.f_len (by rfl) (b_cons (DP.toB (d_fld (d_var 0))) b_nil))))) (s_cons (s_for (passes_of rfl) rfl (DIp.toI (p_revR1 rfl G.f_reversed rfl G.f_range (DP.toB (d_callB call_len3 o_len rfl G.f_len (by rfl) (b_cons (DP.toB (d_fld (d_var 0))) b_nil))))) (g_name S.nd (i := 2)) (s_cons (s_item 1 (d_callB (cr_sum2 rfl) o_sum rfl G.f_sum (by rfl) (b_cons (DP.toB (DF.toP (d_lc (own := [("after", 3)]) rfl S.nd (p_values (d_ix (DP.toB (d_fld (d_var 0))) (b_var 2))) (blkOk_by (by rfl)) (fun _ _ _ _ _ => (g_name S.nd (i := 3))) (fun _ _ _ _ _ => c_nil) (fun _ _ _ _ _ => (d_ix (b_var 1) (b_var 3)))))) b_nil)) (b_var 2)) (s_one (s_if (DT.toE (t_tru (DP.toB (d_ix (DP.toB (d_fld (d_var 0))) (b_var 2))))) (s_one (s_itmA 1 ip_add o_ipI (DP.toB d_int) (b_var 2))) s_nil)))) (s_one (s_retO 1))))
/-! ### count_words -/
abbrev s_count_words : Stmt := topS 15
abbrev N_count_words : List Str := ["graph"]
def b_count_words : DL.Env → DL.R Fl := (retS (withEnv (bin ixD (callF 1 F_counts_from (aCons (gSh 0) aNil)) (kc (.int 0)))))
def F_count_words : List D → DL.R D := fnD 1 1 b_count_words
theorem sc_count_words : FnScope N_count_words ["graph"] (defScope s_count_words) := ⟨rfl, rfl, rfl, by decide +kernel, rfl, by decide +kernel, by decide +kernel⟩
theorem ok_count_words {P : Program} {w : World} {K : PySem.W.Frag} {mg : Str → Option Value} {base : Heap} {f : Addr} {fd : FuncData} (G : Gs mg) (F : FnP K "count_words" s_count_words f fd) (hm : mg "count_words" = some (.ref f)) (c_counts_from : Cal P w K mg base 1 "counts_from" 1 F_counts_from) : Cal P w K mg base 2 "count_words" 1 F_count_words := by
  have S := sc_count_words
  refine cal_of (N := N_count_words) (ps := ["graph"]) (b := b_count_words) F S hm (by decide) (fun _ _ _ _ _ _ us hl => match us, hl with | [_], _ => rfl) fun cdv A outer s H E hr => ?_
  exact (s_one (s_ret (DP.toE (d_ix (DP.toB (d_fn c_counts_from (hr.mono (by decide)) rfl (takes_of rfl rfl rfl rfl) (p_cons (d_var 0) p_nil))) (DP.toB d_int)))))
/-! ### outcome_graph -/
abbrev s_outcome_graph : Stmt := topS 13
abbrev N_outcome_graph : List Str := ["film", "behind", "arrows", "place", "row", "letter"]
def b_outcome_graph : DL.Env → DL.R Fl := bOg ogFt
def F_outcome_graph : List D → DL.R D := fnD 6 1 b_outcome_graph
theorem sc_outcome_graph : FnScope N_outcome_graph ["film"] (defScope s_outcome_graph) := ⟨rfl, rfl, rfl, by decide +kernel, rfl, by decide +kernel, by decide +kernel⟩
theorem ok_outcome_graph {P : Program} {w : World} {K : PySem.W.Frag} {mg : Str → Option Value} {base : Heap} {f : Addr} {fd : FuncData} (G : Gs mg) (F : FnP K "outcome_graph" s_outcome_graph f fd) (hm : mg "outcome_graph" = some (.ref f)) (c_Graph : CalC P w K mg base 1 "Graph" "arrows" "ends") : Cal P w K mg base 6 "outcome_graph" 1 F_outcome_graph := by
  have S := sc_outcome_graph
  refine cal_of (N := N_outcome_graph) (ps := ["film"]) (b := b_outcome_graph) F S hm (by decide) (fun _ _ _ _ _ _ us hl => match us, hl with | [_], _ => rfl) fun cdv A outer s H E hr => ?_
  exact og_body (f12 := ogF12) (ft := ogFt)
    (ps_setDc (i := 1) (own := [("letter", 5)]) rfl S.nd rfl rfl rfl (DIp.can (p_any (d_var 0))) (blkOk_by (by rfl)) (fun _ _ _ _ _ => DG.can (g_name S.nd (i := 5))) (fun _ _ _ _ _ => DC.can c_nil) (fun _ _ _ _ _ => DP.can (d_var 5)) (fun _ _ _ _ _ => pe_dnewK))
    (fun t pe => ps_set (i := 2) S.nd rfl (by first | exact Or.inl rfl | exact Or.inr rfl) pe) (d_lst p_nil)
    (passes_of rfl) rfl (p_revR1 rfl G.f_reversed rfl G.f_range (DP.toB (d_callB call_len3 o_len rfl G.f_len (by rfl) (b_cons (b_var 0) b_nil)))) (g_name S.nd (i := 3)) (DP.toB (d_ix (b_var 0) (b_var 3)))
    (fun t pe => ps_set (i := 4) S.nd rfl (by first | exact Or.inl rfl | exact Or.inr rfl) (pe_dget (og_hu hr) (pe_var (i := 1) rfl (by first | exact Or.inl rfl | exact Or.inr (Or.inl rfl) | exact Or.inr (Or.inr rfl))) pe (fun _ _ => rfl)))
    (s_cons (s_if (DT.toE (t_cmp op_lt o_cmpI (DP.toB (d_op op_plus o_plus (b_var 3) (DP.toB d_int))) (DP.toB (d_callB call_len3 o_len rfl G.f_len (by rfl) (b_cons (b_var 0) b_nil))) (by rfl))) (s_one (s_dput 4 hr (d_op op_plus o_plus (b_var 3) (DP.toB d_int)) (DP.toB (d_ix (b_var 0) (DP.toB (d_op op_plus o_plus (b_var 3) (DP.toB d_int))))))) s_nil) (s_one (s_append 2 (DF.frz (d_dc (own := [("letter", 5)]) rfl S.nd (p_any (DF.toP (d_callBF (cr_srtK rfl) o_srtK rfl G.f_sorted (by rfl) (b_cons (b_var 4) b_nil)))) (blkOk_by (by rfl)) (fun _ _ _ _ _ => (g_name S.nd (i := 5))) (fun _ _ _ _ _ => c_nil) (fun _ _ _ _ _ => (d_var 5)) (fun _ _ _ _ _ => (d_dget hr (b_var 4) (b_var 5))))))))
    (s_cons (s_append 2 (DF.frz (d_disp (d_ix (b_var 0) (DP.toB d_int)) d_int))) (s_cons (s_reverse 2) (s_frzS 2 (s_one (s_ret (DP.toE (d_mkC c_Graph (hr.mono (by decide)) rfl (p_cons (d_var 2) (p_cons (d_op op_plus o_plus (DP.toB (DF.toP (d_lst (p_cons d_bl p_nil)))) (DP.toB (DF.toP (d_lc (own := [("letter", 5)]) rfl S.nd (p_any (d_var 0)) (blkOk_by (by rfl)) (fun _ _ _ _ _ => (g_name S.nd (i := 5))) (fun _ _ _ _ _ => c_nil) (fun _ _ _ _ _ => (d_cmp (op_eq2 hr.units) o_eq (b_var 5) (DP.toB (d_ix (b_var 0) (DP.toB (d_neg (DP.toB d_int))))) (by rfl))))))) p_nil)))))))))
    (by intro _; rfl) og_hix og_hitems og_hstep
/-! ### count_outcomes -/
abbrev s_count_outcomes : Stmt := topS 19
abbrev N_count_outcomes : List Str := ["film"]
def b_count_outcomes : DL.Env → DL.R Fl := (seqS (exprS (withEnv (callF 1 F_check_film (aCons (gSh 0) aNil)))) (retS (withEnv (callF 1 F_count_words (aCons (callF 1 F_outcome_graph (aCons (gSh 0) aNil)) aNil)))))
def F_count_outcomes : List D → DL.R D := fnD 1 1 b_count_outcomes
theorem sc_count_outcomes : FnScope N_count_outcomes ["film"] (defScope s_count_outcomes) := ⟨rfl, rfl, rfl, by decide +kernel, rfl, by decide +kernel, by decide +kernel⟩
theorem ok_count_outcomes {P : Program} {w : World} {K : PySem.W.Frag} {mg : Str → Option Value} {base : Heap} {f : Addr} {fd : FuncData} (G : Gs mg) (F : FnP K "count_outcomes" s_count_outcomes f fd) (hm : mg "count_outcomes" = some (.ref f)) (c_check_film : Cal P w K mg base 2 "check_film" 1 F_check_film) (c_count_words : Cal P w K mg base 2 "count_words" 1 F_count_words) (c_outcome_graph : Cal P w K mg base 6 "outcome_graph" 1 F_outcome_graph) : Cal P w K mg base 7 "count_outcomes" 1 F_count_outcomes := by
  have S := sc_count_outcomes
  refine cal_of (N := N_count_outcomes) (ps := ["film"]) (b := b_count_outcomes) F S hm (by decide) (fun _ _ _ _ _ _ us hl => match us, hl with | [_], _ => rfl) fun cdv A outer s H E hr => ?_
  exact (s_cons (s_expr (DP.toE (d_fn c_check_film (hr.mono (by decide)) rfl (takes_of rfl rfl rfl rfl) (p_cons (d_var 0) p_nil)))) (s_one (s_ret (DP.toE (d_fn c_count_words (hr.mono (by decide)) rfl (takes_of rfl rfl rfl rfl) (p_cons (d_fn c_outcome_graph (hr.mono (by decide)) rfl (takes_of rfl rfl rfl rfl) (p_cons (d_var 0) p_nil)) p_nil))))))
/-! ### is_whole -/
abbrev s_is_whole : Stmt := topS 7
abbrev N_is_whole : List Str := ["value"]
def b_is_whole : DL.Env → DL.R Fl := (retS (withEnv (andV (appN isiD (aCons (gAny 0) (aCons (kc (.ty "int")) aNil))) (notV (appN isiD (aCons (gAny 0) (aCons (kc (.ty "bool")) aNil)))))))
def F_is_whole : List D → DL.R D := fnD 1 1 b_is_whole
theorem sc_is_whole : FnScope N_is_whole ["value"] (defScope s_is_whole) := ⟨rfl, rfl, rfl, by decide +kernel, rfl, by decide +kernel, by decide +kernel⟩
theorem ok_is_whole {P : Program} {w : World} {K : PySem.W.Frag} {mg : Str → Option Value} {base : Heap} {f : Addr} {fd : FuncData} (G : Gs mg) (F : FnP K "is_whole" s_is_whole f fd) (hm : mg "is_whole" = some (.ref f))  : Cal P w K mg base 1 "is_whole" 1 F_is_whole := by
  have S := sc_is_whole
  refine cal_of (N := N_is_whole) (ps := ["value"]) (b := b_is_whole) F S hm (by decide) (fun _ _ _ _ _ _ us hl => match us, hl with | [_], _ => rfl) fun cdv A outer s H E hr => ?_
  exact (s_one (s_ret (DP.toE (d_and (d_callB call_isi3 o_isi rfl G.f_isinstance (by rfl) (b_cons (b_var 0) (b_cons (DP.toB (b_ty rfl G.f_int (by rfl))) b_nil))) (d_one (d_not (d_callB call_isi3 o_isi rfl G.f_isinstance (by rfl) (b_cons (b_var 0) (b_cons (DP.toB (b_ty rfl G.f_bool (by rfl))) b_nil)))))))))
/-! ### check_rank -/
abbrev s_check_rank : Stmt := topS 10
abbrev N_check_rank : List Str := ["value"]
def b_check_rank : DL.Env → DL.R Fl := (ifS (withEnv (orB (notB (tru (callF 1 F_is_whole (aCons (gSh 0) aNil)))) (tst (bin ltD (gAny 0) (kc (.int 0)))))) nvrS skipS)
def F_check_rank : List D → DL.R D := fnD 1 1 b_check_rank
theorem sc_check_rank : FnScope N_check_rank ["value"] (defScope s_check_rank) := ⟨rfl, rfl, rfl, by decide +kernel, rfl, by decide +kernel, by decide +kernel⟩
theorem ok_check_rank {P : Program} {w : World} {K : PySem.W.Frag} {mg : Str → Option Value} {base : Heap} {f : Addr} {fd : FuncData} (G : Gs mg) (F : FnP K "check_rank" s_check_rank f fd) (hm : mg "check_rank" = some (.ref f)) (c_is_whole : Cal P w K mg base 1 "is_whole" 1 F_is_whole) : Cal P w K mg base 2 "check_rank" 1 F_check_rank := by
  have S := sc_check_rank
  refine cal_of (N := N_check_rank) (ps := ["value"]) (b := b_check_rank) F S hm (by decide) (fun _ _ _ _ _ _ us hl => match us, hl with | [_], _ => rfl) fun cdv A outer s H E hr => ?_
  exact (s_one (s_if (DT.toE (DW.t (w_or (t_not (t_tru (DP.toB (d_fn c_is_whole (hr.mono (by decide)) rfl (takes_of rfl rfl rfl rfl) (p_cons (d_var 0) p_nil))))) (w_or1 (t_cmp op_lt o_cmpI (b_var 0) (DP.toB d_int) (by rfl)))))) (s_one s_never) s_nil))
/-! ### word_at -/
abbrev s_word_at : Stmt := topS 16
abbrev N_word_at : List Str := ["graph", "rank", "counts", "node", "word", "ahead", "letter", "after"]
def b_word_at : DL.Env → DL.R Fl := (seqS (setS 2 (withEnv (callF 1 F_counts_from (aCons (gSh 0) aNil)))) (seqS (ifS (withEnv (tst (bin geD (gAny 1) (bin ixD (gAny 2) (kc (.int 0)))))) (retS (withEnv (kc .non))) skipS) (seqS (setS 3 (withEnv (kc (.int 0)))) (seqS (setS 4 (withEnv (kc (.str "")))) (seqS (setS 5 (withEnv (gSh 1))) (seqS (whlS (fun _ => 100000) (withEnv (orB (tst (bin gtD (gAny 5) (kc (.int 0)))) (notB (tru (bin ixD (un1 (fldD "ends") (gSh 0)) (gAny 3)))))) (seqS (ifS (withEnv (tru (bin ixD (un1 (fldD "ends") (gSh 0)) (gAny 3)))) (augS 5 (intOp (fun _ _ => true) fun i j => i - j) (kc (.int 1))) skipS) (forS (withEnv (itX itemsD (bin ixD (un1 (fldD "arrows") (gSh 0)) (gAny 3)))) (gTupD 2 (gsCons (gSet 6) (gsCons (gSet 7) gsNil))) (seqS (ifS (withEnv (tst (bin ltD (gAny 5) (bin ixD (gAny 2) (gAny 7))))) (seqS (setS 3 (withEnv (gSh 7))) (seqS (augS 4 addSD (gAny 6)) brkS)) skipS) (augS 5 (intOp (fun _ _ => true) fun i j => i - j) (bin ixD (gAny 2) (gAny 7))))))) (retS (withEnv (gSh 4)))))))))
def F_word_at : List D → DL.R D := fnD 8 2 b_word_at
theorem sc_word_at : FnScope N_word_at ["graph", "rank"] (defScope s_word_at) := ⟨rfl, rfl, rfl, by decide +kernel, rfl, by decide +kernel, by decide +kernel⟩
theorem ok_word_at {P : Program} {w : World} {K : PySem.W.Frag} {mg : Str → Option Value} {base : Heap} {f : Addr} {fd : FuncData} (G : Gs mg) (F : FnP K "word_at" s_word_at f fd) (hm : mg "word_at" = some (.ref f)) (c_counts_from : Cal P w K mg base 1 "counts_from" 1 F_counts_from) : Cal P w K mg base 2 "word_at" 2 F_word_at := by
  have S := sc_word_at
  refine cal_of (N := N_word_at) (ps := ["graph", "rank"]) (b := b_word_at) F S hm (by decide) (fun _ _ _ _ _ _ us hl => match us, hl with | [_, _], _ => rfl) fun cdv A outer s H E hr => ?_
  exact (s_cons (s_set 2 S.nd (DP.toE (d_fn c_counts_from (hr.mono (by decide)) rfl (takes_of rfl rfl rfl rfl) (p_cons (d_var 0) p_nil)))) (s_cons (s_if (DT.toE (t_cmp op_ge o_cmpI (b_var 1) (DP.toB (d_ix (b_var 2) (DP.toB d_int))) (by rfl))) (s_one (s_ret (DP.toE d_non))) s_nil) (s_cons (s_set 3 S.nd (DP.toE d_int)) (s_cons (s_set 4 S.nd (DP.toE d_str)) (s_cons (s_set 5 S.nd (DP.toE (d_var 1))) (s_cons (s_while (fun _ => 100000) (passes_of rfl) (DT.toE (DW.t (w_or (t_cmp op_gt o_cmpI (b_var 5) (DP.toB d_int) (by rfl)) (w_or1 (t_not (t_tru (DP.toB (d_ix (DP.toB (d_fld (d_var 0))) (b_var 3))))))))) (s_cons (s_if (DT.toE (t_tru (DP.toB (d_ix (DP.toB (d_fld (d_var 0))) (b_var 3))))) (s_one (s_aug 5 S.nd ip_sub o_ipI (DP.toB d_int))) s_nil) (s_one (s_for (passes_of rfl) rfl (DIp.toI (p_items (d_ix (DP.toB (d_fld (d_var 0))) (b_var 3)))) (g_tup rfl (gs_cons (g_name S.nd (i := 6)) (gs_cons (g_name S.nd (i := 7)) gs_nil))) (s_cons (s_if (DT.toE (t_cmp op_lt o_cmpI (b_var 5) (DP.toB (d_ix (b_var 2) (b_var 7))) (by rfl))) (s_cons (s_set 3 S.nd (DP.toE (d_var 7))) (s_cons (s_aug 4 S.nd ip_addS o_ipS (b_var 6)) (s_one s_break))) s_nil) (s_one (s_aug 5 S.nd ip_sub o_ipI (DP.toB (d_ix (b_var 2) (b_var 7)))))))))) (s_one (s_ret (DP.toE (d_var 4))))))))))
/-! ### outcome_at -/
abbrev s_outcome_at : Stmt := topS 20
abbrev N_outcome_at : List Str := ["film", "rank"]
def b_outcome_at : DL.Env → DL.R Fl := (seqS (exprS (withEnv (callF 1 F_check_film (aCons (gSh 0) aNil)))) (seqS (exprS (withEnv (callF 1 F_check_rank (aCons (gSh 1) aNil)))) (retS (withEnv (callF 2 F_word_at (aCons (callF 1 F_outcome_graph (aCons (gSh 0) aNil)) (aCons (gSh 1) aNil)))))))
def F_outcome_at : List D → DL.R D := fnD 2 2 b_outcome_at
theorem sc_outcome_at : FnScope N_outcome_at ["film", "rank"] (defScope s_outcome_at) := ⟨rfl, rfl, rfl, by decide +kernel, rfl, by decide +kernel, by decide +kernel⟩
theorem ok_outcome_at {P : Program} {w : World} {K : PySem.W.Frag} {mg : Str → Option Value} {base : Heap} {f : Addr} {fd : FuncData} (G : Gs mg) (F : FnP K "outcome_at" s_outcome_at f fd) (hm : mg "outcome_at" = some (.ref f)) (c_check_film : Cal P w K mg base 2 "check_film" 1 F_check_film) (c_check_rank : Cal P w K mg base 2 "check_rank" 1 F_check_rank) (c_word_at : Cal P w K mg base 2 "word_at" 2 F_word_at) (c_outcome_graph : Cal P w K mg base 6 "outcome_graph" 1 F_outcome_graph) : Cal P w K mg base 7 "outcome_at" 2 F_outcome_at := by
  have S := sc_outcome_at
  refine cal_of (N := N_outcome_at) (ps := ["film", "rank"]) (b := b_outcome_at) F S hm (by decide) (fun _ _ _ _ _ _ us hl => match us, hl with | [_, _], _ => rfl) fun cdv A outer s H E hr => ?_
  exact (s_cons (s_expr (DP.toE (d_fn c_check_film (hr.mono (by decide)) rfl (takes_of rfl rfl rfl rfl) (p_cons (d_var 0) p_nil)))) (s_cons (s_expr (DP.toE (d_fn c_check_rank (hr.mono (by decide)) rfl (takes_of rfl rfl rfl rfl) (p_cons (d_var 1) p_nil)))) (s_one (s_ret (DP.toE (d_fn c_word_at (hr.mono (by decide)) rfl (takes_of rfl rfl rfl rfl) (p_cons (d_fn c_outcome_graph (hr.mono (by decide)) rfl (takes_of rfl rfl rfl rfl) (p_cons (d_var 0) p_nil)) (p_cons (d_var 1) p_nil))))))))
/-! ### rank_in -/
abbrev s_rank_in : Stmt := topS 17
abbrev N_rank_in : List Str := ["graph", "word", "counts", "node", "ahead", "letter", "row", "other", "after"]
def b_rank_in : DL.Env → DL.R Fl := (seqS (setS 2 (withEnv (callF 1 F_counts_from (aCons (gSh 0) aNil)))) (seqS (setS 3 (withEnv (kc (.int 0)))) (seqS (setS 4 (withEnv (kc (.int 0)))) (seqS (forS (withEnv (itX zD (gSh 1))) (gSet 5) (seqS (setS 6 (withEnv (bin ixD (un1 (fldD "arrows") (gSh 0)) (gAny 3)))) (seqS (ifS (withEnv (tst (bin (inA true) (gAny 5) (gAny 6)))) (retS (withEnv (kc .non))) skipS) (seqS (ifS (withEnv (tru (bin ixD (un1 (fldD "ends") (gSh 0)) (gAny 3)))) (augS 4 (intOp (fun _ _ => true) fun i j => i + j) (kc (.int 1))) skipS) (seqS (augS 4 (intOp (fun _ _ => true) fun i j => i + j) (appN sumD (aCons (lcD [("other", 7), ("after", 8)] (itX itemsD (gSh 6)) (gTupD 2 (gsCons (gSet 7) (gsCons (gSet 8) gsNil))) (tst (bin ltSD (gAny 7) (gAny 5))) (bin ixD (gAny 2) (gAny 8))) aNil))) (setS 3 (withEnv (bin dgetD (gAny 6) (gAny 5))))))))) (retS (withEnv (ifV (tru (bin ixD (un1 (fldD "ends") (gSh 0)) (gAny 3))) (gSh 4) (kc .non))))))))
def F_rank_in : List D → DL.R D := fnD 9 2 b_rank_in
theorem sc_rank_in : FnScope N_rank_in ["graph", "word"] (defScope s_rank_in) := ⟨rfl, rfl, rfl, by decide +kernel, rfl, by decide +kernel, by decide +kernel⟩
theorem ok_rank_in {P : Program} {w : World} {K : PySem.W.Frag} {mg : Str → Option Value} {base : Heap} {f : Addr} {fd : FuncData} (G : Gs mg) (F : FnP K "rank_in" s_rank_in f fd) (hm : mg "rank_in" = some (.ref f)) (c_counts_from : Cal P w K mg base 1 "counts_from" 1 F_counts_from) : Cal P w K mg base 2 "rank_in" 2 F_rank_in := by
  have S := sc_rank_in
  refine cal_of (N := N_rank_in) (ps := ["graph", "word"]) (b := b_rank_in) F S hm (by decide) (fun _ _ _ _ _ _ us hl => match us, hl with | [_, _], _ => rfl) fun cdv A outer s H E hr => ?_
  exact (s_cons (s_set 2 S.nd (DP.toE (d_fn c_counts_from (hr.mono (by decide)) rfl (takes_of rfl rfl rfl rfl) (p_cons (d_var 0) p_nil)))) (s_cons (s_set 3 S.nd (DP.toE d_int)) (s_cons (s_set 4 S.nd (DP.toE d_int)) (s_cons (s_for (passes_of rfl) rfl (DIp.toI (p_any (d_var 1))) (g_name S.nd (i := 5)) (s_cons (s_set 6 S.nd (DP.toE (d_ix (DP.toB (d_fld (d_var 0))) (b_var 3)))) (s_cons (s_if (DT.toE (t_cmp (op_notInA hr) o_inA (b_var 5) (b_var 6) (by rfl))) (s_one (s_ret (DP.toE d_non))) s_nil) (s_cons (s_if (DT.toE (t_tru (DP.toB (d_ix (DP.toB (d_fld (d_var 0))) (b_var 3))))) (s_one (s_aug 4 S.nd ip_add o_ipI (DP.toB d_int))) s_nil) (s_cons (s_aug 4 S.nd ip_add o_ipI (DP.toB (d_callB (cr_sum2 rfl) o_sum rfl G.f_sum (by rfl) (b_cons (DP.toB (DF.toP (d_lc (own := [("other", 7), ("after", 8)]) rfl S.nd (p_items (d_var 6)) (blkOk_by (by rfl)) (fun _ _ _ _ _ => (g_tup rfl (gs_cons (g_name S.nd (i := 7)) (gs_cons (g_name S.nd (i := 8)) gs_nil)))) (fun _ _ _ _ _ => (c_one (t_cmp op_lt_str o_ltS (b_var 7) (b_var 5) (by rfl)))) (fun _ _ _ _ _ => (d_ix (b_var 2) (b_var 8)))))) b_nil)))) (s_one (s_set 3 S.nd (DP.toE (d_dget hr (b_var 6) (b_var 5)))))))))) (s_one (s_ret (DP.toE (d_if (t_tru (DP.toB (d_ix (DP.toB (d_fld (d_var 0))) (b_var 3)))) (d_var 4) d_non))))))))
/-! ### rank_of -/
abbrev s_rank_of : Stmt := topS 21
abbrev N_rank_of : List Str := ["film", "goal"]
def b_rank_of : DL.Env → DL.R Fl := (seqS (exprS (withEnv (callF 1 F_check_film (aCons (gSh 0) aNil)))) (seqS (exprS (withEnv (callF 1 F_check_film (aCons (gSh 1) aNil)))) (retS (withEnv (callF 2 F_rank_in (aCons (callF 1 F_outcome_graph (aCons (gSh 0) aNil)) (aCons (gSh 1) aNil)))))))
def F_rank_of : List D → DL.R D := fnD 2 2 b_rank_of
theorem sc_rank_of : FnScope N_rank_of ["film", "goal"] (defScope s_rank_of) := ⟨rfl, rfl, rfl, by decide +kernel, rfl, by decide +kernel, by decide +kernel⟩
theorem ok_rank_of {P : Program} {w : World} {K : PySem.W.Frag} {mg : Str → Option Value} {base : Heap} {f : Addr} {fd : FuncData} (G : Gs mg) (F : FnP K "rank_of" s_rank_of f fd) (hm : mg "rank_of" = some (.ref f)) (c_check_film : Cal P w K mg base 2 "check_film" 1 F_check_film) (c_rank_in : Cal P w K mg base 2 "rank_in" 2 F_rank_in) (c_outcome_graph : Cal P w K mg base 6 "outcome_graph" 1 F_outcome_graph) : Cal P w K mg base 7 "rank_of" 2 F_rank_of := by
  have S := sc_rank_of
  refine cal_of (N := N_rank_of) (ps := ["film", "goal"]) (b := b_rank_of) F S hm (by decide) (fun _ _ _ _ _ _ us hl => match us, hl with | [_, _], _ => rfl) fun cdv A outer s H E hr => ?_
  exact (s_cons (s_expr (DP.toE (d_fn c_check_film (hr.mono (by decide)) rfl (takes_of rfl rfl rfl rfl) (p_cons (d_var 0) p_nil)))) (s_cons (s_expr (DP.toE (d_fn c_check_film (hr.mono (by decide)) rfl (takes_of rfl rfl rfl rfl) (p_cons (d_var 1) p_nil)))) (s_one (s_ret (DP.toE (d_fn c_rank_in (hr.mono (by decide)) rfl (takes_of rfl rfl rfl rfl) (p_cons (d_fn c_outcome_graph (hr.mono (by decide)) rfl (takes_of rfl rfl rfl rfl) (p_cons (d_var 0) p_nil)) (p_cons (d_var 1) p_nil))))))))
/-! ### earliest_starts -/
abbrev s_earliest_starts : Stmt := topS 28
abbrev N_earliest_starts : List Str := ["film", "goal", "starts", "at", "end"]
def b_earliest_starts : DL.Env → DL.R Fl := (seqS (ifS (withEnv (tst (bin neD (bin ixD (gAny 0) (kc (.int 0))) (bin ixD (gAny 1) (kc (.int 0)))))) (retS (withEnv (mkL aNil))) skipS) (seqS (setO 2 (mkL (aCons (kc (.int 0)) aNil))) (seqS (forS (withEnv (itN rg2 (aCons (kc (.int 1)) (aCons (appN lenD (aCons (gAny 1) aNil)) aNil)))) (gSet 3) (seqS (setS 4 (withEnv (mthV find3D (gAny 0) (aCons (sl3 slA (gAny 1) (oSome (bin subD (gAny 3) (kc (.int 1)))) (oSome (bin plusD (gAny 3) (kc (.int 1))))) (aCons (bin ixD (gAny 2) (un1 negD (kc (.int 1)))) aNil))))) (seqS (ifS (withEnv (tst (bin ltD (gAny 4) (kc (.int 0))))) brkS skipS) (appS 2 (bin plusD (gAny 4) (kc (.int 1))))))) (retO 2))))
def F_earliest_starts : List D → DL.R D := fnD 5 2 b_earliest_starts
theorem sc_earliest_starts : FnScope N_earliest_starts ["film", "goal"] (defScope s_earliest_starts) := ⟨rfl, rfl, rfl, by decide +kernel, rfl, by decide +kernel, by decide +kernel⟩
theorem ok_earliest_starts {P : Program} {w : World} {K : PySem.W.Frag} {mg : Str → Option Value} {base : Heap} {f : Addr} {fd : FuncData} (G : Gs mg) (F : FnP K "earliest_starts" s_earliest_starts f fd) (hm : mg "earliest_starts" = some (.ref f))  : Cal P w K mg base 1 "earliest_starts" 2 F_earliest_starts := by
  have S := sc_earliest_starts
  refine cal_of (N := N_earliest_starts) (ps := ["film", "goal"]) (b := b_earliest_starts) F S hm (by decide) (fun _ _ _ _ _ _ us hl => match us, hl with | [_, _], _ => rfl) fun cdv A outer s H E hr => ?_
  exact (s_cons (s_if (DT.toE (t_cmp (op_ne2 hr.units) o_ne (DP.toB (d_ix (b_var 0) (DP.toB d_int))) (DP.toB (d_ix (b_var 1) (DP.toB d_int))) (by rfl))) (s_one (s_ret (DP.toE (DF.toP (d_lst p_nil))))) s_nil) (s_cons (s_setO 2 S.nd (d_lst (p_cons d_int p_nil))) (s_cons (s_for (passes_of rfl) rfl (DIp.toI (p_range2 rfl G.f_range (b_cons (DP.toB d_int) (b_cons (DP.toB (d_callB call_len3 o_len rfl G.f_len (by rfl) (b_cons (b_var 1) b_nil))) b_nil)))) (g_name S.nd (i := 3)) (s_cons (s_set 4 S.nd (DP.toE (d_bm PySem.F.slot_str_find PySem.F.type_str_find mt_find3 o_find3 (b_var 0) (b_cons (DP.toB (d_slA (b_var 1) (do_some (DP.toB (d_op op_sub o_sub (b_var 3) (DP.toB d_int)))) (do_some (DP.toB (d_op op_plus o_plus (b_var 3) (DP.toB d_int)))))) (b_cons (DP.toB (d_ix (b_var 2) (DP.toB (d_neg (DP.toB d_int))))) b_nil))))) (s_cons (s_if (DT.toE (t_cmp op_lt o_cmpI (b_var 4) (DP.toB d_int) (by rfl))) (s_one s_break) s_nil) (s_one (s_append 2 (d_op op_plus o_plus (b_var 4) (DP.toB d_int))))))) (s_one (s_retO 2)))))
/-! ### comes_to -/
abbrev s_comes_to : Stmt := topS 29
abbrev N_comes_to : List Str := ["film", "goal"]
def b_comes_to : DL.Env → DL.R Fl := (retS (withEnv (andV (bin eqD (bin ixD (gAny 0) (un1 negD (kc (.int 1)))) (bin ixD (gAny 1) (un1 negD (kc (.int 1))))) (bin eqD (appN lenD (aCons (callF 2 F_earliest_starts (aCons (gSh 0) (aCons (gSh 1) aNil))) aNil)) (appN lenD (aCons (gAny 1) aNil))))))
def F_comes_to : List D → DL.R D := fnD 2 2 b_comes_to
theorem sc_comes_to : FnScope N_comes_to ["film", "goal"] (defScope s_comes_to) := ⟨rfl, rfl, rfl, by decide +kernel, rfl, by decide +kernel, by decide +kernel⟩
theorem ok_comes_to {P : Program} {w : World} {K : PySem.W.Frag} {mg : Str → Option Value} {base : Heap} {f : Addr} {fd : FuncData} (G : Gs mg) (F : FnP K "comes_to" s_comes_to f fd) (hm : mg "comes_to" = some (.ref f)) (c_earliest_starts : Cal P w K mg base 1 "earliest_starts" 2 F_earliest_starts) : Cal P w K mg base 2 "comes_to" 2 F_comes_to := by
  have S := sc_comes_to
  refine cal_of (N := N_comes_to) (ps := ["film", "goal"]) (b := b_comes_to) F S hm (by decide) (fun _ _ _ _ _ _ us hl => match us, hl with | [_, _], _ => rfl) fun cdv A outer s H E hr => ?_
  exact (s_one (s_ret (DP.toE (d_and (d_cmp (op_eq2 hr.units) o_eq (DP.toB (d_ix (b_var 0) (DP.toB (d_neg (DP.toB d_int))))) (DP.toB (d_ix (b_var 1) (DP.toB (d_neg (DP.toB d_int))))) (by rfl)) (d_one (d_cmp (op_eq2 hr.units) o_eq (DP.toB (d_callB call_len3 o_len rfl G.f_len (by rfl) (b_cons (DP.toB (d_fn c_earliest_starts (hr.mono (by decide)) rfl (takes_of rfl rfl rfl rfl) (p_cons (d_var 0) (p_cons (d_var 1) p_nil)))) b_nil))) (DP.toB (d_callB call_len3 o_len rfl G.f_len (by rfl) (b_cons (b_var 1) b_nil))) (by rfl)))))))
/-! ### comes -/
abbrev s_comes : Stmt := topS 30
abbrev N_comes : List Str := ["film", "goal"]
def b_comes : DL.Env → DL.R Fl := (seqS (exprS (withEnv (callF 1 F_check_film (aCons (gSh 0) aNil)))) (seqS (exprS (withEnv (callF 1 F_check_film (aCons (gSh 1) aNil)))) (retS (withEnv (callF 2 F_comes_to (aCons (gSh 0) (aCons (gSh 1) aNil)))))))
def F_comes : List D → DL.R D := fnD 2 2 b_comes
theorem sc_comes : FnScope N_comes ["film", "goal"] (defScope s_comes) := ⟨rfl, rfl, rfl, by decide +kernel, rfl, by decide +kernel, by decide +kernel⟩
theorem ok_comes {P : Program} {w : World} {K : PySem.W.Frag} {mg : Str → Option Value} {base : Heap} {f : Addr} {fd : FuncData} (G : Gs mg) (F : FnP K "comes" s_comes f fd) (hm : mg "comes" = some (.ref f)) (c_check_film : Cal P w K mg base 2 "check_film" 1 F_check_film) (c_comes_to : Cal P w K mg base 2 "comes_to" 2 F_comes_to) : Cal P w K mg base 3 "comes" 2 F_comes := by
  have S := sc_comes
  refine cal_of (N := N_comes) (ps := ["film", "goal"]) (b := b_comes) F S hm (by decide) (fun _ _ _ _ _ _ us hl => match us, hl with | [_, _], _ => rfl) fun cdv A outer s H E hr => ?_
  exact (s_cons (s_expr (DP.toE (d_fn c_check_film (hr.mono (by decide)) rfl (takes_of rfl rfl rfl rfl) (p_cons (d_var 0) p_nil)))) (s_cons (s_expr (DP.toE (d_fn c_check_film (hr.mono (by decide)) rfl (takes_of rfl rfl rfl rfl) (p_cons (d_var 1) p_nil)))) (s_one (s_ret (DP.toE (d_fn c_comes_to (hr.mono (by decide)) rfl (takes_of rfl rfl rfl rfl) (p_cons (d_var 0) (p_cons (d_var 1) p_nil))))))))
/-! ### next_outcome -/
abbrev s_next_outcome : Stmt := topS 39
abbrev N_next_outcome : List Str := ["film", "goal", "graph", "rank"]
def b_next_outcome : DL.Env → DL.R Fl := (seqS (exprS (withEnv (callF 1 F_check_film (aCons (gSh 0) aNil)))) (seqS (exprS (withEnv (callF 1 F_check_film (aCons (gSh 1) aNil)))) (seqS (setS 2 (withEnv (callF 1 F_outcome_graph (aCons (gSh 0) aNil)))) (seqS (setS 3 (withEnv (callF 2 F_rank_in (aCons (gSh 2) (aCons (gSh 1) aNil))))) (retS (withEnv (ifV (tst (bin isN2 (gAny 3) (kc .non))) (kc .non) (callF 2 F_word_at (aCons (gSh 2) (aCons (bin plusD (gAny 3) (kc (.int 1))) aNil))))))))))
def F_next_outcome : List D → DL.R D := fnD 4 2 b_next_outcome
theorem sc_next_outcome : FnScope N_next_outcome ["film", "goal"] (defScope s_next_outcome) := ⟨rfl, rfl, rfl, by decide +kernel, rfl, by decide +kernel, by decide +kernel⟩
theorem ok_next_outcome {P : Program} {w : World} {K : PySem.W.Frag} {mg : Str → Option Value} {base : Heap} {f : Addr} {fd : FuncData} (G : Gs mg) (F : FnP K "next_outcome" s_next_outcome f fd) (hm : mg "next_outcome" = some (.ref f)) (c_check_film : Cal P w K mg base 2 "check_film" 1 F_check_film) (c_outcome_graph : Cal P w K mg base 6 "outcome_graph" 1 F_outcome_graph) (c_rank_in : Cal P w K mg base 2 "rank_in" 2 F_rank_in) (c_word_at : Cal P w K mg base 2 "word_at" 2 F_word_at) : Cal P w K mg base 7 "next_outcome" 2 F_next_outcome := by
  have S := sc_next_outcome
  refine cal_of (N := N_next_outcome) (ps := ["film", "goal"]) (b := b_next_outcome) F S hm (by decide) (fun _ _ _ _ _ _ us hl => match us, hl with | [_, _], _ => rfl) fun cdv A outer s H E hr => ?_
  exact (s_cons (s_expr (DP.toE (d_fn c_check_film (hr.mono (by decide)) rfl (takes_of rfl rfl rfl rfl) (p_cons (d_var 0) p_nil)))) (s_cons (s_expr (DP.toE (d_fn c_check_film (hr.mono (by decide)) rfl (takes_of rfl rfl rfl rfl) (p_cons (d_var 1) p_nil)))) (s_cons (s_set 2 S.nd (DP.toE (d_fn c_outcome_graph (hr.mono (by decide)) rfl (takes_of rfl rfl rfl rfl) (p_cons (d_var 0) p_nil)))) (s_cons (s_set 3 S.nd (DP.toE (d_fn c_rank_in (hr.mono (by decide)) rfl (takes_of rfl rfl rfl rfl) (p_cons (d_var 2) (p_cons (d_var 1) p_nil))))) (s_one (s_ret (DP.toE (d_if (t_cmp op_isN o_isN (b_var 3) (DP.toB d_non) (by rfl)) d_non (d_fn c_word_at (hr.mono (by decide)) rfl (takes_of rfl rfl rfl rfl) (p_cons (d_var 2) (p_cons (d_op op_plus o_plus (b_var 3) (DP.toB d_int)) p_nil)))))))))))
/-! ### fewest_of_block -/
abbrev s_fewest_of_block : Stmt := topS 32
abbrev N_fewest_of_block : List Str := ["film", "letter", "behind", "none", "fewest", "longer", "place"]
def b_fewest_of_block : DL.Env → DL.R Fl := (seqS (setS 3 (withEnv (appN lenD (aCons (gAny 0) aNil)))) (seqS (setO 4 (bin repD (mkL (aCons (gSh 3) aNil)) (bin plusD (appN lenD (aCons (gAny 0) aNil)) (kc (.int 1))))) (seqS (setS 5 (withEnv (gSh 3))) (seqS (forS (withEnv (itX (rvR (.int 0)) (appN lenD (aCons (gAny 0) aNil)))) (gSet 6) (ifS (withEnv (tst (bin eqD (bin ixD (gAny 0) (gAny 6)) (gAny 1)))) (seqS (itmS 4 (gAny 6) (appN (mm2D (fun i j => if j < i then j else i)) (aCons (bin ixD (gAny 2) (bin plusD (gAny 6) (kc (.int 1)))) (aCons (gAny 5) aNil)))) (setS 5 (withEnv (appN (mm2D (fun i j => if j < i then j else i)) (aCons (gAny 5) (aCons (bin plusD (bin ixD (gAny 2) (bin plusD (gAny 6) (kc (.int 1)))) (kc (.int 1))) aNil)))))) skipS)) (retO 4)))))
def F_fewest_of_block : List D → DL.R D := fnD 7 3 b_fewest_of_block
theorem sc_fewest_of_block : FnScope N_fewest_of_block ["film", "letter", "behind"] (defScope s_fewest_of_block) := ⟨rfl, rfl, rfl, by decide +kernel, rfl, by decide +kernel, by decide +kernel⟩
theorem ok_fewest_of_block {P : Program} {w : World} {K : PySem.W.Frag} {mg : Str → Option Value} {base : Heap} {f : Addr} {fd : FuncData} (G : Gs mg) (F : FnP K "fewest_of_block" s_fewest_of_block f fd) (hm : mg "fewest_of_block" = some (.ref f))  : Cal P w K mg base 1 "fewest_of_block" 3 F_fewest_of_block := by
  have S := sc_fewest_of_block
  refine cal_of (N := N_fewest_of_block) (ps := ["film", "letter", "behind"]) (b := b_fewest_of_block) F S hm (by decide) (fun _ _ _ _ _ _ us hl => match us, hl with | [_, _, _], _ => rfl) fun cdv A outer s H E hr => ?_
  exact (s_cons (s_set 3 S.nd (DP.toE (d_callB call_len3 o_len rfl G.f_len (by rfl) (b_cons (b_var 0) b_nil)))) (s_cons (s_setO 4 S.nd (d_repF (d_lst (p_cons (d_var 3) p_nil)) (DP.toB (d_op op_plus o_plus (DP.toB (d_callB call_len3 o_len rfl G.f_len (by rfl) (b_cons (b_var 0) b_nil))) (DP.toB d_int))))) (s_cons (s_set 5 S.nd (DP.toE (d_var 3))) (s_cons (s_for (passes_of rfl) rfl (DIp.toI (p_revR1 rfl G.f_reversed rfl G.f_range (DP.toB (d_callB call_len3 o_len rfl G.f_len (by rfl) (b_cons (b_var 0) b_nil))))) (g_name S.nd (i := 6)) (s_one (s_if (DT.toE (t_cmp (op_eq2 hr.units) o_eq (DP.toB (d_ix (b_var 0) (b_var 6))) (b_var 1) (by rfl))) (s_cons (s_item 4 (d_callB (call_min2 rfl) o_mm2 rfl G.f_min (by rfl) (b_cons (DP.toB (d_ix (b_var 2) (DP.toB (d_op op_plus o_plus (b_var 6) (DP.toB d_int))))) (b_cons (b_var 5) b_nil))) (b_var 6)) (s_one (s_set 5 S.nd (DP.toE (d_callB (call_min2 rfl) o_mm2 rfl G.f_min (by rfl) (b_cons (b_var 5) (b_cons (DP.toB (d_op op_plus o_plus (DP.toB (d_ix (b_var 2) (DP.toB (d_op op_plus o_plus (b_var 6) (DP.toB d_int))))) (DP.toB d_int))) b_nil))))))) s_nil))) (s_one (s_retO 4))))))
/-! ### fewest_behind -/
abbrev s_fewest_behind : Stmt := topS 33
abbrev N_fewest_behind : List Str := ["film", "goal", "table", "letter"]
def b_fewest_behind : DL.Env → DL.R Fl := (seqS (setO 2 (mkL (aCons (bin plusD (bin repD (mkL (aCons (appN lenD (aCons (gAny 0) aNil)) aNil)) (appN lenD (aCons (gAny 0) aNil))) (mkL (aCons (kc (.int 0)) aNil))) aNil))) (seqS (forS (withEnv (itX revZ (gSh 1))) (gSet 3) (appS 2 (callF 3 F_fewest_of_block (aCons (gSh 0) (aCons (gSh 3) (aCons (bin ixD (gAny 2) (un1 negD (kc (.int 1)))) aNil)))))) (seqS (rvsS 2) (retO 2))))
def F_fewest_behind : List D → DL.R D := fnD 4 2 b_fewest_behind
theorem sc_fewest_behind : FnScope N_fewest_behind ["film", "goal"] (defScope s_fewest_behind) := ⟨rfl, rfl, rfl, by decide +kernel, rfl, by decide +kernel, by decide +kernel⟩
theorem ok_fewest_behind {P : Program} {w : World} {K : PySem.W.Frag} {mg : Str → Option Value} {base : Heap} {f : Addr} {fd : FuncData} (G : Gs mg) (F : FnP K "fewest_behind" s_fewest_behind f fd) (hm : mg "fewest_behind" = some (.ref f)) (c_fewest_of_block : Cal P w K mg base 1 "fewest_of_block" 3 F_fewest_of_block) : Cal P w K mg base 2 "fewest_behind" 2 F_fewest_behind := by
  have S := sc_fewest_behind
  refine cal_of (N := N_fewest_behind) (ps := ["film", "goal"]) (b := b_fewest_behind) F S hm (by decide) (fun _ _ _ _ _ _ us hl => match us, hl with | [_, _], _ => rfl) fun cdv A outer s H E hr => ?_
  exact (s_cons (s_setO 2 S.nd (d_lst (p_cons (d_op op_plus o_plus (DP.toB (DF.toP (d_repF (d_lst (p_cons (d_callB call_len3 o_len rfl G.f_len (by rfl) (b_cons (b_var 0) b_nil)) p_nil)) (DP.toB (d_callB call_len3 o_len rfl G.f_len (by rfl) (b_cons (b_var 0) b_nil)))))) (DP.toB (DF.toP (d_lst (p_cons d_int p_nil))))) p_nil))) (s_cons (s_for (passes_of rfl) rfl (DIp.toI (p_rev rfl G.f_reversed (d_var 1))) (g_name S.nd (i := 3)) (s_one (s_append 2 (d_fn c_fewest_of_block (hr.mono (by decide)) rfl (takes_of rfl rfl rfl rfl) (p_cons (d_var 0) (p_cons (d_var 3) (p_cons (d_ix (b_var 2) (DP.toB (d_neg (DP.toB d_int)))) p_nil))))))) (s_cons (s_reverse 2) (s_one (s_retO 2)))))
/-! ### cuts_for -/
abbrev s_cuts_for : Stmt := topS 35
abbrev N_cuts_for : List Str := ["parting", "rows", "start", "at", "end"]
def b_cuts_for : DL.Env → DL.R Fl := (seqS (setO 1 (mkL aNil)) (seqS (setS 2 (withEnv (kc (.int 0)))) (seqS (forS (withEnv (itN enD (aCons (gSh 0) aNil))) (gTupD 2 (gsCons (gSet 3) (gsCons (gSet 4) gsNil))) (seqS (ifS (withEnv (tst (bin gtD (gAny 4) (gAny 2)))) (appS 1 (mkT (aCons (gSh 3) (aCons (bin subD (bin plusD (gAny 3) (gAny 4)) (gAny 2)) aNil)))) skipS) (setS 2 (withEnv (bin plusD (gAny 4) (kc (.int 1))))))) (retS (withEnv (appN tupC (aCons (gAny 1) aNil)))))))
def F_cuts_for : List D → DL.R D := fnD 5 1 b_cuts_for
theorem sc_cuts_for : FnScope N_cuts_for ["parting"] (defScope s_cuts_for) := ⟨rfl, rfl, rfl, by decide +kernel, rfl, by decide +kernel, by decide +kernel⟩
theorem ok_cuts_for {P : Program} {w : World} {K : PySem.W.Frag} {mg : Str → Option Value} {base : Heap} {f : Addr} {fd : FuncData} (G : Gs mg) (F : FnP K "cuts_for" s_cuts_for f fd) (hm : mg "cuts_for" = some (.ref f))  : Cal P w K mg base 1 "cuts_for" 1 F_cuts_for := by
  have S := sc_cuts_for
  refine cal_of (N := N_cuts_for) (ps := ["parting"]) (b := b_cuts_for) F S hm (by decide) (fun _ _ _ _ _ _ us hl => match us, hl with | [_], _ => rfl) fun cdv A outer s H E hr => ?_
  exact (s_cons (s_setO 1 S.nd (d_lst p_nil)) (s_cons (s_set 2 S.nd (DP.toE d_int)) (s_cons (s_for (passes_of rfl) rfl (DIp.toI (p_en rfl G.f_enumerate (p_cons (d_var 0) p_nil))) (g_tup rfl (gs_cons (g_name S.nd (i := 3)) (gs_cons (g_name S.nd (i := 4)) gs_nil))) (s_cons (s_if (DT.toE (t_cmp op_gt o_cmpI (b_var 4) (b_var 2) (by rfl))) (s_one (s_append 1 (d_tup (p_cons (d_var 3) (p_cons (d_op op_sub o_sub (DP.toB (d_op op_plus o_plus (b_var 3) (b_var 4))) (b_var 2)) p_nil))))) s_nil) (s_one (s_set 2 S.nd (DP.toE (d_op op_plus o_plus (b_var 4) (DP.toB d_int))))))) (s_one (s_ret (DP.toE (d_callT call_tup3 o_tupc rfl G.f_tuple (by rfl) (b_cons (b_var 1) b_nil))))))))
/-! ### places_from -/
abbrev s_places_from : Stmt := topS 27
abbrev N_places_from : List Str := ["film", "letter", "start", "place"]
def b_places_from : DL.Env → DL.R Fl := (retS (withEnv (lcD [("place", 3)] (itN rg2 (aCons (gAny 2) (aCons (appN lenD (aCons (gAny 0) aNil)) aNil))) (gSet 3) (tst (bin eqD (bin ixD (gAny 0) (gAny 3)) (gAny 1))) (gSh 3))))
def F_places_from : List D → DL.R D := fnD 4 3 b_places_from
theorem sc_places_from : FnScope N_places_from ["film", "letter", "start"] (defScope s_places_from) := ⟨rfl, rfl, rfl, by decide +kernel, rfl, by decide +kernel, by decide +kernel⟩
theorem ok_places_from {P : Program} {w : World} {K : PySem.W.Frag} {mg : Str → Option Value} {base : Heap} {f : Addr} {fd : FuncData} (G : Gs mg) (F : FnP K "places_from" s_places_from f fd) (hm : mg "places_from" = some (.ref f))  : Cal P w K mg base 1 "places_from" 3 F_places_from := by
  have S := sc_places_from
  refine cal_of (N := N_places_from) (ps := ["film", "letter", "start"]) (b := b_places_from) F S hm (by decide) (fun _ _ _ _ _ _ us hl => match us, hl with | [_, _, _], _ => rfl) fun cdv A outer s H E hr => ?_
  exact (s_one (s_ret (DP.toE (DF.toP (d_lc (own := [("place", 3)]) rfl S.nd (p_range2 rfl G.f_range (b_cons (b_var 2) (b_cons (DP.toB (d_callB call_len3 o_len rfl G.f_len (by rfl) (b_cons (b_var 0) b_nil))) b_nil))) (blkOk_by (by rfl)) (fun _ _ _ _ _ => (g_name S.nd (i := 3))) (fun _ _ _ _ _ => (c_one (t_cmp (op_eq2 hr.units) o_eq (DP.toB (d_ix (b_var 0) (b_var 3))) (b_var 1) (by rfl)))) (fun _ _ _ _ _ => (d_var 3)))))))
/-! ### fewest_parting -/
abbrev s_fewest_parting : Stmt := topS 34
abbrev N_fewest_parting : List Str := ["film", "goal", "table", "parting", "start", "at", "letter", "end", "longer"]
def b_fewest_parting : DL.Env → DL.R Fl := (seqS (setO 3 (mkL aNil)) (seqS (setS 4 (withEnv (kc (.int 0)))) (seqS (forS (withEnv (itN enD (aCons (gSh 1) aNil))) (gTupD 2 (gsCons (gSet 5) (gsCons (gSet 6) gsNil))) (forS (withEnv (itX zD (callF 3 F_places_from (aCons (gSh 0) (aCons (gSh 6) (aCons (gSh 4) aNil)))))) (gSet 7) (seqS (setS 8 (withEnv (ifV (tst (bin gtD (gAny 7) (gAny 4))) (kc (.int 1)) (kc (.int 0))))) (ifS (withEnv (tst (bin eqD (bin plusD (bin ixD (bin ixD (gAny 2) (bin plusD (gAny 5) (kc (.int 1)))) (bin plusD (gAny 7) (kc (.int 1)))) (gAny 8)) (bin ixD (bin ixD (gAny 2) (gAny 5)) (gAny 4))))) (seqS (appS 3 (gSh 7)) (seqS (setS 4 (withEnv (bin plusD (gAny 7) (kc (.int 1))))) brkS)) skipS)))) (retO 3))))
def F_fewest_parting : List D → DL.R D := fnD 9 3 b_fewest_parting
theorem sc_fewest_parting : FnScope N_fewest_parting ["film", "goal", "table"] (defScope s_fewest_parting) := ⟨rfl, rfl, rfl, by decide +kernel, rfl, by decide +kernel, by decide +kernel⟩
theorem ok_fewest_parting {P : Program} {w : World} {K : PySem.W.Frag} {mg : Str → Option Value} {base : Heap} {f : Addr} {fd : FuncData} (G : Gs mg) (F : FnP K "fewest_parting" s_fewest_parting f fd) (hm : mg "fewest_parting" = some (.ref f)) (c_places_from : Cal P w K mg base 1 "places_from" 3 F_places_from) : Cal P w K mg base 2 "fewest_parting" 3 F_fewest_parting := by
  have S := sc_fewest_parting
  refine cal_of (N := N_fewest_parting) (ps := ["film", "goal", "table"]) (b := b_fewest_parting) F S hm (by decide) (fun _ _ _ _ _ _ us hl => match us, hl with | [_, _, _], _ => rfl) fun cdv A outer s H E hr => ?_
  exact (s_cons (s_setO 3 S.nd (d_lst p_nil)) (s_cons (s_set 4 S.nd (DP.toE d_int)) (s_cons (s_for (passes_of rfl) rfl (DIp.toI (p_en rfl G.f_enumerate (p_cons (d_var 1) p_nil))) (g_tup rfl (gs_cons (g_name S.nd (i := 5)) (gs_cons (g_name S.nd (i := 6)) gs_nil))) (s_one (s_for (passes_of rfl) rfl (DIp.toI (p_any (d_fn c_places_from (hr.mono (by decide)) rfl (takes_of rfl rfl rfl rfl) (p_cons (d_var 0) (p_cons (d_var 6) (p_cons (d_var 4) p_nil)))))) (g_name S.nd (i := 7)) (s_cons (s_set 8 S.nd (DP.toE (d_if (t_cmp op_gt o_cmpI (b_var 7) (b_var 4) (by rfl)) d_int d_int))) (s_one (s_if (DT.toE (t_cmp (op_eq2 hr.units) o_eq (DP.toB (d_op op_plus o_plus (DP.toB (d_ix (DP.toB (d_ix (b_var 2) (DP.toB (d_op op_plus o_plus (b_var 5) (DP.toB d_int))))) (DP.toB (d_op op_plus o_plus (b_var 7) (DP.toB d_int))))) (b_var 8))) (DP.toB (d_ix (DP.toB (d_ix (b_var 2) (b_var 5))) (b_var 4))) (by rfl))) (s_cons (s_append 3 (d_var 7)) (s_cons (s_set 4 S.nd (DP.toE (d_op op_plus o_plus (b_var 7) (DP.toB d_int)))) (s_one s_break))) s_nil)))))) (s_one (s_retO 3)))))
/-! ### some_cuts -/
abbrev s_some_cuts : Stmt := topS 37
abbrev N_some_cuts : List Str := ["film", "goal", "table"]
def b_some_cuts : DL.Env → DL.R Fl := (seqS (exprS (withEnv (callF 1 F_check_film (aCons (gSh 0) aNil)))) (seqS (exprS (withEnv (callF 1 F_check_film (aCons (gSh 1) aNil)))) (seqS (setS 2 (withEnv (callF 2 F_fewest_behind (aCons (gSh 0) (aCons (gSh 1) aNil))))) (seqS (ifS (withEnv (tst (bin eqD (bin ixD (bin ixD (gAny 2) (kc (.int 0))) (kc (.int 0))) (appN lenD (aCons (gAny 0) aNil))))) (retS (withEnv (kc .non))) skipS) (retS (withEnv (callF 1 F_cuts_for (aCons (callF 3 F_fewest_parting (aCons (gSh 0) (aCons (gSh 1) (aCons (gSh 2) aNil)))) aNil))))))))
def F_some_cuts : List D → DL.R D := fnD 3 2 b_some_cuts
theorem sc_some_cuts : FnScope N_some_cuts ["film", "goal"] (defScope s_some_cuts) := ⟨rfl, rfl, rfl, by decide +kernel, rfl, by decide +kernel, by decide +kernel⟩
theorem ok_some_cuts {P : Program} {w : World} {K : PySem.W.Frag} {mg : Str → Option Value} {base : Heap} {f : Addr} {fd : FuncData} (G : Gs mg) (F : FnP K "some_cuts" s_some_cuts f fd) (hm : mg "some_cuts" = some (.ref f)) (c_check_film : Cal P w K mg base 2 "check_film" 1 F_check_film) (c_fewest_behind : Cal P w K mg base 2 "fewest_behind" 2 F_fewest_behind) (c_cuts_for : Cal P w K mg base 1 "cuts_for" 1 F_cuts_for) (c_fewest_parting : Cal P w K mg base 2 "fewest_parting" 3 F_fewest_parting) : Cal P w K mg base 3 "some_cuts" 2 F_some_cuts := by
  have S := sc_some_cuts
  refine cal_of (N := N_some_cuts) (ps := ["film", "goal"]) (b := b_some_cuts) F S hm (by decide) (fun _ _ _ _ _ _ us hl => match us, hl with | [_, _], _ => rfl) fun cdv A outer s H E hr => ?_
  exact (s_cons (s_expr (DP.toE (d_fn c_check_film (hr.mono (by decide)) rfl (takes_of rfl rfl rfl rfl) (p_cons (d_var 0) p_nil)))) (s_cons (s_expr (DP.toE (d_fn c_check_film (hr.mono (by decide)) rfl (takes_of rfl rfl rfl rfl) (p_cons (d_var 1) p_nil)))) (s_cons (s_set 2 S.nd (DP.toE (d_fn c_fewest_behind (hr.mono (by decide)) rfl (takes_of rfl rfl rfl rfl) (p_cons (d_var 0) (p_cons (d_var 1) p_nil))))) (s_cons (s_if (DT.toE (t_cmp (op_eq2 hr.units) o_eq (DP.toB (d_ix (DP.toB (d_ix (b_var 2) (DP.toB d_int))) (DP.toB d_int))) (DP.toB (d_callB call_len3 o_len rfl G.f_len (by rfl) (b_cons (b_var 0) b_nil))) (by rfl))) (s_one (s_ret (DP.toE d_non))) s_nil) (s_one (s_ret (DP.toE (d_fn c_cuts_for (hr.mono (by decide)) rfl (takes_of rfl rfl rfl rfl) (p_cons (d_fn c_fewest_parting (hr.mono (by decide)) rfl (takes_of rfl rfl rfl rfl) (p_cons (d_var 0) (p_cons (d_var 1) (p_cons (d_var 2) p_nil)))) p_nil)))))))))
/-! ### fewest_cuts -/
abbrev s_fewest_cuts : Stmt := topS 36
abbrev N_fewest_cuts : List Str := ["film", "goal", "fewest"]
def b_fewest_cuts : DL.Env → DL.R Fl := (seqS (exprS (withEnv (callF 1 F_check_film (aCons (gSh 0) aNil)))) (seqS (exprS (withEnv (callF 1 F_check_film (aCons (gSh 1) aNil)))) (seqS (setS 2 (withEnv (bin ixD (bin ixD (callF 2 F_fewest_behind (aCons (gSh 0) (aCons (gSh 1) aNil))) (kc (.int 0))) (kc (.int 0))))) (retS (withEnv (ifV (tst (bin ltD (gAny 2) (appN lenD (aCons (gAny 0) aNil)))) (gSh 2) (kc .non)))))))
def F_fewest_cuts : List D → DL.R D := fnD 3 2 b_fewest_cuts
theorem sc_fewest_cuts : FnScope N_fewest_cuts ["film", "goal"] (defScope s_fewest_cuts) := ⟨rfl, rfl, rfl, by decide +kernel, rfl, by decide +kernel, by decide +kernel⟩
theorem ok_fewest_cuts {P : Program} {w : World} {K : PySem.W.Frag} {mg : Str → Option Value} {base : Heap} {f : Addr} {fd : FuncData} (G : Gs mg) (F : FnP K "fewest_cuts" s_fewest_cuts f fd) (hm : mg "fewest_cuts" = some (.ref f)) (c_check_film : Cal P w K mg base 2 "check_film" 1 F_check_film) (c_fewest_behind : Cal P w K mg base 2 "fewest_behind" 2 F_fewest_behind) : Cal P w K mg base 3 "fewest_cuts" 2 F_fewest_cuts := by
  have S := sc_fewest_cuts
  refine cal_of (N := N_fewest_cuts) (ps := ["film", "goal"]) (b := b_fewest_cuts) F S hm (by decide) (fun _ _ _ _ _ _ us hl => match us, hl with | [_, _], _ => rfl) fun cdv A outer s H E hr => ?_
  exact (s_cons (s_expr (DP.toE (d_fn c_check_film (hr.mono (by decide)) rfl (takes_of rfl rfl rfl rfl) (p_cons (d_var 0) p_nil)))) (s_cons (s_expr (DP.toE (d_fn c_check_film (hr.mono (by decide)) rfl (takes_of rfl rfl rfl rfl) (p_cons (d_var 1) p_nil)))) (s_cons (s_set 2 S.nd (DP.toE (d_ix (DP.toB (d_ix (DP.toB (d_fn c_fewest_behind (hr.mono (by decide)) rfl (takes_of rfl rfl rfl rfl) (p_cons (d_var 0) (p_cons (d_var 1) p_nil)))) (DP.toB d_int))) (DP.toB d_int)))) (s_one (s_ret (DP.toE (d_if (t_cmp op_lt o_cmpI (b_var 2) (DP.toB (d_callB call_len3 o_len rfl G.f_len (by rfl) (b_cons (b_var 0) b_nil))) (by rfl)) (d_var 2) d_non)))))))
/-! ### counted_beginning -/
abbrev s_counted_beginning : Stmt := topS 41
abbrev N_counted_beginning : List Str := ["film", "word", "graph", "node", "letter"]
def b_counted_beginning : DL.Env → DL.R Fl := (seqS (setS 2 (withEnv (callF 1 F_outcome_graph (aCons (gSh 0) aNil)))) (seqS (setS 3 (withEnv (kc (.int 0)))) (seqS (forS (withEnv (itX zD (gSh 1))) (gSet 4) (seqS (ifS (withEnv (tst (bin (inA true) (gAny 4) (bin ixD (un1 (fldD "arrows") (gSh 2)) (gAny 3))))) (retS (withEnv (kc (.int 0)))) skipS) (setS 3 (withEnv (bin dgetD (bin ixD (un1 (fldD "arrows") (gSh 2)) (gAny 3)) (gAny 4)))))) (retS (withEnv (bin ixD (callF 1 F_counts_from (aCons (gSh 2) aNil)) (gAny 3)))))))
def F_counted_beginning : List D → DL.R D := fnD 5 2 b_counted_beginning
theorem sc_counted_beginning : FnScope N_counted_beginning ["film", "word"] (defScope s_counted_beginning) := ⟨rfl, rfl, rfl, by decide +kernel, rfl, by decide +kernel, by decide +kernel⟩
theorem ok_counted_beginning {P : Program} {w : World} {K : PySem.W.Frag} {mg : Str → Option Value} {base : Heap} {f : Addr} {fd : FuncData} (G : Gs mg) (F : FnP K "counted_beginning" s_counted_beginning f fd) (hm : mg "counted_beginning" = some (.ref f)) (c_outcome_graph : Cal P w K mg base 6 "outcome_graph" 1 F_outcome_graph) (c_counts_from : Cal P w K mg base 1 "counts_from" 1 F_counts_from) : Cal P w K mg base 7 "counted_beginning" 2 F_counted_beginning := by
  have S := sc_counted_beginning
  refine cal_of (N := N_counted_beginning) (ps := ["film", "word"]) (b := b_counted_beginning) F S hm (by decide) (fun _ _ _ _ _ _ us hl => match us, hl with | [_, _], _ => rfl) fun cdv A outer s H E hr => ?_
  exact (s_cons (s_set 2 S.nd (DP.toE (d_fn c_outcome_graph (hr.mono (by decide)) rfl (takes_of rfl rfl rfl rfl) (p_cons (d_var 0) p_nil)))) (s_cons (s_set 3 S.nd (DP.toE d_int)) (s_cons (s_for (passes_of rfl) rfl (DIp.toI (p_any (d_var 1))) (g_name S.nd (i := 4)) (s_cons (s_if (DT.toE (t_cmp (op_notInA hr) o_inA (b_var 4) (DP.toB (d_ix (DP.toB (d_fld (d_var 2))) (b_var 3))) (by rfl))) (s_one (s_ret (DP.toE d_int))) s_nil) (s_one (s_set 3 S.nd (DP.toE (d_dget hr (DP.toB (d_ix (DP.toB (d_fld (d_var 2))) (b_var 3))) (b_var 4))))))) (s_one (s_ret (DP.toE (d_ix (DP.toB (d_fn c_counts_from (hr.mono (by decide)) rfl (takes_of rfl rfl rfl rfl) (p_cons (d_var 2) p_nil))) (b_var 3))))))))
/-! ### count_beginning -/
abbrev s_count_beginning : Stmt := topS 42
abbrev N_count_beginning : List Str := ["film", "word"]
def b_count_beginning : DL.Env → DL.R Fl := (seqS (exprS (withEnv (callF 1 F_check_film (aCons (gSh 0) aNil)))) (seqS (exprS (withEnv (callF 1 F_check_film (aCons (gSh 1) aNil)))) (retS (withEnv (callF 2 F_counted_beginning (aCons (gSh 0) (aCons (gSh 1) aNil)))))))
def F_count_beginning : List D → DL.R D := fnD 2 2 b_count_beginning
theorem sc_count_beginning : FnScope N_count_beginning ["film", "word"] (defScope s_count_beginning) := ⟨rfl, rfl, rfl, by decide +kernel, rfl, by decide +kernel, by decide +kernel⟩
theorem ok_count_beginning {P : Program} {w : World} {K : PySem.W.Frag} {mg : Str → Option Value} {base : Heap} {f : Addr} {fd : FuncData} (G : Gs mg) (F : FnP K "count_beginning" s_count_beginning f fd) (hm : mg "count_beginning" = some (.ref f)) (c_check_film : Cal P w K mg base 2 "check_film" 1 F_check_film) (c_counted_beginning : Cal P w K mg base 7 "counted_beginning" 2 F_counted_beginning) : Cal P w K mg base 8 "count_beginning" 2 F_count_beginning := by
  have S := sc_count_beginning
  refine cal_of (N := N_count_beginning) (ps := ["film", "word"]) (b := b_count_beginning) F S hm (by decide) (fun _ _ _ _ _ _ us hl => match us, hl with | [_, _], _ => rfl) fun cdv A outer s H E hr => ?_
  exact (s_cons (s_expr (DP.toE (d_fn c_check_film (hr.mono (by decide)) rfl (takes_of rfl rfl rfl rfl) (p_cons (d_var 0) p_nil)))) (s_cons (s_expr (DP.toE (d_fn c_check_film (hr.mono (by decide)) rfl (takes_of rfl rfl rfl rfl) (p_cons (d_var 1) p_nil)))) (s_one (s_ret (DP.toE (d_fn c_counted_beginning (hr.mono (by decide)) rfl (takes_of rfl rfl rfl rfl) (p_cons (d_var 0) (p_cons (d_var 1) p_nil))))))))
/-! ### behind_cut -/
abbrev s_behind_cut : Stmt := topS 23
abbrev N_behind_cut : List Str := ["film", "item", "first", "second"]
def b_behind_cut : DL.Env → DL.R Fl := (seqS (asgS (gTupD 2 (gsCons (gSet 2) (gsCons (gSet 3) gsNil))) (withEnv (gSh 1))) (retS (withEnv (bin plusD (sl3 slA (gAny 0) oNone (oSome (bin plusD (gAny 2) (kc (.int 1))))) (sl3 slA (gAny 0) (oSome (bin plusD (gAny 3) (kc (.int 1)))) oNone)))))
def F_behind_cut : List D → DL.R D := fnD 4 2 b_behind_cut
theorem sc_behind_cut : FnScope N_behind_cut ["film", "item"] (defScope s_behind_cut) := ⟨rfl, rfl, rfl, by decide +kernel, rfl, by decide +kernel, by decide +kernel⟩
theorem ok_behind_cut {P : Program} {w : World} {K : PySem.W.Frag} {mg : Str → Option Value} {base : Heap} {f : Addr} {fd : FuncData} (G : Gs mg) (F : FnP K "behind_cut" s_behind_cut f fd) (hm : mg "behind_cut" = some (.ref f))  : Cal P w K mg base 1 "behind_cut" 2 F_behind_cut := by
  have S := sc_behind_cut
  refine cal_of (N := N_behind_cut) (ps := ["film", "item"]) (b := b_behind_cut) F S hm (by decide) (fun _ _ _ _ _ _ us hl => match us, hl with | [_, _], _ => rfl) fun cdv A outer s H E hr => ?_
  exact (s_cons (s_asg (DP.toE (d_var 1)) (g_tup rfl (gs_cons (g_name S.nd (i := 2)) (gs_cons (g_name S.nd (i := 3)) gs_nil)))) (s_one (s_ret (DP.toE (d_op op_plus o_plus (DP.toB (d_slA (b_var 0) do_none (do_some (DP.toB (d_op op_plus o_plus (b_var 2) (DP.toB d_int)))))) (DP.toB (d_slA (b_var 0) (do_some (DP.toB (d_op op_plus o_plus (b_var 3) (DP.toB d_int)))) do_none)))))))
/-! ### cuts -/
abbrev s_cuts : Stmt := topS 24
abbrev N_cuts : List Str := ["film", "size", "pairs", "first", "second", "pair"]
def b_cuts : DL.Env → DL.R Fl := (seqS (exprS (withEnv (callF 1 F_check_film (aCons (gSh 0) aNil)))) (seqS (setS 1 (withEnv (appN lenD (aCons (gAny 0) aNil)))) (seqS (setS 2 (withEnv (lc2D [("first", 3), ("second", 4)] (itN rg1 (aCons (gAny 1) aNil)) (gSet 3) yesB (itN rg2 (aCons (bin plusD (gAny 3) (kc (.int 1))) (aCons (gAny 1) aNil))) [4] (gSet 4) yesB (mkT (aCons (gSh 3) (aCons (gSh 4) aNil)))))) (retS (withEnv (appN tupC (aCons (lcD [("pair", 5)] (itX zD (gSh 2)) (gSet 5) (tst (bin eqD (bin ixD (gAny 0) (bin ixD (gAny 5) (kc (.int 0)))) (bin ixD (gAny 0) (bin ixD (gAny 5) (kc (.int 1)))))) (gSh 5)) aNil)))))))
def F_cuts : List D → DL.R D := fnD 6 1 b_cuts
theorem sc_cuts : FnScope N_cuts ["film"] (defScope s_cuts) := ⟨rfl, rfl, rfl, by decide +kernel, rfl, by decide +kernel, by decide +kernel⟩
theorem ok_cuts {P : Program} {w : World} {K : PySem.W.Frag} {mg : Str → Option Value} {base : Heap} {f : Addr} {fd : FuncData} (G : Gs mg) (F : FnP K "cuts" s_cuts f fd) (hm : mg "cuts" = some (.ref f)) (c_check_film : Cal P w K mg base 2 "check_film" 1 F_check_film) : Cal P w K mg base 3 "cuts" 1 F_cuts := by
  have S := sc_cuts
  refine cal_of (N := N_cuts) (ps := ["film"]) (b := b_cuts) F S hm (by decide) (fun _ _ _ _ _ _ us hl => match us, hl with | [_], _ => rfl) fun cdv A outer s H E hr => ?_
  exact (s_cons (s_expr (DP.toE (d_fn c_check_film (hr.mono (by decide)) rfl (takes_of rfl rfl rfl rfl) (p_cons (d_var 0) p_nil)))) (s_cons (s_set 1 S.nd (DP.toE (d_callB call_len3 o_len rfl G.f_len (by rfl) (b_cons (b_var 0) b_nil)))) (s_cons (s_setLc2 2 (own := [("first", 3), ("second", 4)]) (vs1 := [4]) rfl S.nd (p_range1 rfl G.f_range (b_cons (b_var 1) b_nil)) (blkOk_by (by rfl)) (fun _ _ _ _ _ => (g_name S.nd (i := 3))) (fun _ _ _ _ _ => c_nil) (fun _ _ _ _ _ => (p_range2 rfl G.f_range (b_cons (DP.toB (d_op op_plus o_plus (b_var 3) (DP.toB d_int))) (b_cons (b_var 1) b_nil)))) (fun _ _ _ _ _ => (g_name S.nd (i := 4))) (fun _ _ _ _ _ => c_nil) (fun _ _ _ _ _ => (d_tup (p_cons (d_var 3) (p_cons (d_var 4) p_nil))))) (s_one (s_ret (DP.toE (d_callT call_tup3 o_tupc rfl G.f_tuple (by rfl) (b_cons (DP.toB (DF.toP (d_lc (own := [("pair", 5)]) rfl S.nd (p_any (d_var 2)) (blkOk_by (by rfl)) (fun _ _ _ _ _ => (g_name S.nd (i := 5))) (fun _ _ _ _ _ => (c_one (t_cmp (op_eq2 hr.units) o_eq (DP.toB (d_ix (b_var 0) (DP.toB (d_ix (b_var 5) (DP.toB d_int))))) (DP.toB (d_ix (b_var 0) (DP.toB (d_ix (b_var 5) (DP.toB d_int))))) (by rfl)))) (fun _ _ _ _ _ => (d_var 5))))) b_nil))))))))
/-! ### next_films -/
abbrev s_next_films : Stmt := topS 25
abbrev N_next_films : List Str := ["film", "pair"]
def b_next_films : DL.Env → DL.R Fl := (retS (withEnv (srtScUD [("pair", 1)] (itX zD (callF 1 F_cuts (aCons (gSh 0) aNil))) (gSet 1) yesB (callF 2 F_behind_cut (aCons (gSh 0) (aCons (gSh 1) aNil))))))
def F_next_films : List D → DL.R D := fnD 2 1 b_next_films
theorem sc_next_films : FnScope N_next_films ["film"] (defScope s_next_films) := ⟨rfl, rfl, rfl, by decide +kernel, rfl, by decide +kernel, by decide +kernel⟩
theorem ok_next_films {P : Program} {w : World} {K : PySem.W.Frag} {mg : Str → Option Value} {base : Heap} {f : Addr} {fd : FuncData} (G : Gs mg) (F : FnP K "next_films" s_next_films f fd) (hm : mg "next_films" = some (.ref f)) (c_behind_cut : Cal P w K mg base 1 "behind_cut" 2 F_behind_cut) (c_cuts : Cal P w K mg base 3 "cuts" 1 F_cuts) : Cal P w K mg base 4 "next_films" 1 F_next_films := by
  have S := sc_next_films
  refine cal_of (N := N_next_films) (ps := ["film"]) (b := b_next_films) F S hm (by decide) (fun _ _ _ _ _ _ us hl => match us, hl with | [_], _ => rfl) fun cdv A outer s H E hr => ?_
  exact (s_one (s_ret (DP.toE (DF.toP (d_srtScU (own := [("pair", 1)]) rfl S.nd rfl G.f_sorted (p_any (d_fn c_cuts (hr.mono (by decide)) rfl (takes_of rfl rfl rfl rfl) (p_cons (d_var 0) p_nil))) (blkOk_by (by rfl)) (fun _ _ _ _ _ => (g_name S.nd (i := 1))) (fun _ _ _ _ _ => c_nil) (fun _ _ _ _ _ => (d_fn c_behind_cut (hr.mono (by decide)) rfl takes_no (p_cons (d_var 0) (p_cons (d_var 1) p_nil)))))))))
/-! ### law -/
abbrev s_law : Stmt := topS 46
abbrev N_law : List Str := ["script", "row", "film", "whole", "rank", "told", "later", "total", "letter", "some", "one"]
def b_law : DL.Env → DL.R Fl := (seqS (setO 1 (mkL (aCons (gSh 0) (aCons (kc (.int 0)) (aCons (kc (.int 5039)) (aCons (kc (.int 0)) aNil)))))) (seqS (setS 2 (callIO 1 2 F__law_film (aConsE (withEnv (kc (.int 120))) (aConsE (binE plusD (withEnv (kc (.int 2))) (callIO 1 1 F__law_taken (withEnv (aCons (kc (.int 3)) aNil)))) (withEnv aNil))))) (seqS (setS 3 (withEnv (callF 1 F_count_outcomes (aCons (gSh 2) aNil)))) (seqS (setS 4 (binE modD (binE plusD (binE plusD (binE mulD (binE mulD (callIO 1 1 F__law_taken (withEnv (aCons (kc (.int 9999)) aNil))) (withEnv (kc (.int 7919)))) (withEnv (kc (.int 7919)))) (binE mulD (callIO 1 1 F__law_taken (withEnv (aCons (kc (.int 9999)) aNil))) (withEnv (kc (.int 7919))))) (callIO 1 1 F__law_taken (withEnv (aCons (kc (.int 9999)) aNil)))) (withEnv (gSh 3)))) (seqS (setS 5 (withEnv (callF 2 F_outcome_at (aCons (gSh 2) (aCons (gSh 4) aNil))))) (seqS (ifS (withEnv (orB (tst (bin neD (callF 2 F_rank_of (aCons (gSh 2) (aCons (gSh 5) aNil))) (gAny 4))) (orB (notB (tru (callF 2 F_comes (aCons (gSh 2) (aCons (gSh 5) aNil))))) (tst (bin notN2 (callF 2 F_outcome_at (aCons (gSh 2) (aCons (gSh 3) aNil))) (kc .non)))))) (retS (withEnv (kc (.bl false)))) skipS) (seqS (setS 6 (withEnv (callF 2 F_next_outcome (aCons (gSh 2) (aCons (gSh 5) aNil))))) (seqS (ifS (withEnv (orB (tst (bin neD (gAny 6) (callF 2 F_outcome_at (aCons (gSh 2) (aCons (bin plusD (gAny 4) (kc (.int 1))) aNil))))) (andB (tst (bin notN2 (gAny 6) (kc .non))) (tst (bin leSD (gAny 6) (gAny 5)))))) (retS (withEnv (kc (.bl false)))) skipS) (seqS (ifS (withEnv (orB (tst (bin gtD (callF 1 F_count_outcomes (aCons (gSh 5) aNil)) (gAny 3))) (tst (bin neD (appN lenD (aCons (callF 2 F_some_cuts (aCons (gSh 2) (aCons (gSh 5) aNil))) aNil)) (callF 2 F_fewest_cuts (aCons (gSh 2) (aCons (gSh 5) aNil))))))) (retS (withEnv (kc (.bl false)))) skipS) (seqS (ifS (withEnv (orB (tst (bin neD (callF 2 F_count_beginning (aCons (gSh 2) (aCons (bin ixD (gAny 2) (kc (.int 0))) aNil))) (gAny 3))) (tst (bin ltD (callF 2 F_count_beginning (aCons (gSh 2) (aCons (gSh 5) aNil))) (kc (.int 1)))))) (retS (withEnv (kc (.bl false)))) skipS) (seqS (setS 7 (withEnv (ifV (tst (bin eqD (bin ixD (gAny 2) (kc (.int 0))) (bin ixD (gAny 2) (un1 negD (kc (.int 1)))))) (kc (.int 1)) (kc (.int 0))))) (seqS (forS (withEnv (itX zD (kc (.str "abcdefgh")))) (gSet 8) (setS 7 (withEnv (bin plusD (gAny 7) (callF 2 F_count_beginning (aCons (gSh 2) (aCons (bin plusD (bin ixD (gAny 2) (kc (.int 0))) (gAny 8)) aNil))))))) (seqS (ifS (withEnv (tst (bin neD (gAny 7) (gAny 3)))) (retS (withEnv (kc (.bl false)))) skipS) (seqS (setS 9 (withEnv (sl3 slA (callF 1 F_next_films (aCons (gSh 2) aNil)) oNone (oSome (kc (.int 5)))))) (retS (withEnv (bin eqD (lcD [("one", 10)] (itX zD (gSh 9)) (gSet 10) (orB (tst (bin geD (callF 1 F_count_outcomes (aCons (gSh 10) aNil)) (gAny 3))) (tst (bin isN2 (callF 2 F_rank_of (aCons (gSh 2) (aCons (gSh 10) aNil))) (kc .non)))) (gSh 10)) (mkL aNil))))))))))))))))))
def F_law : List D → DL.R D := fnD 11 1 b_law
theorem sc_law : FnScope N_law ["script"] (defScope s_law) := ⟨rfl, rfl, rfl, by decide +kernel, rfl, by decide +kernel, by decide +kernel⟩
theorem law_fn {P : Program} {w : World} {K : PySem.W.Frag} {mg : Str → Option Value} {base : Heap} {f : Addr} {fd : FuncData} (G : Gs mg) (F : FnP K "law" s_law f fd) (c__law_film : CalIO P w K mg base 2 "_law_film" 2 F__law_film) (c__law_taken : CalIO P w K mg base 1 "_law_taken" 1 F__law_taken) (c_count_outcomes : Cal P w K mg base 7 "count_outcomes" 1 F_count_outcomes) (c_outcome_at : Cal P w K mg base 7 "outcome_at" 2 F_outcome_at) (c_rank_of : Cal P w K mg base 7 "rank_of" 2 F_rank_of) (c_comes : Cal P w K mg base 3 "comes" 2 F_comes) (c_next_outcome : Cal P w K mg base 7 "next_outcome" 2 F_next_outcome) (c_some_cuts : Cal P w K mg base 3 "some_cuts" 2 F_some_cuts) (c_fewest_cuts : Cal P w K mg base 3 "fewest_cuts" 2 F_fewest_cuts) (c_count_beginning : Cal P w K mg base 8 "count_beginning" 2 F_count_beginning) (c_next_films : Cal P w K mg base 4 "next_films" 1 F_next_films) : FnOk P w K mg base (L2.CX P w) 9 f fd ["script"] (SpF K mg 1 F_law) := by
  have S := sc_law
  refine fn_ok (N := N_law) (b := b_law) F S (by decide) fun cdv A outer s H E hr => ?_
  exact (s_cons (s_setO 1 S.nd (d_lst (p_cons (d_var 0) (p_cons d_int (p_cons d_int (p_cons d_int p_nil)))))) (s_cons (s_set 2 S.nd (e_fnIO 1 c__law_film (hr.mono (by decide)) rfl (takes_of rfl rfl rfl rfl) (e_cons (DP.toE d_int) (e_cons (e_op op_plus o_plus (DP.toE d_int) (e_fnIO 1 c__law_taken (hr.mono (by decide)) rfl (takes_of rfl rfl rfl rfl) (DPs.toE (p_cons d_int p_nil)))) (DPs.toE p_nil))))) (s_cons (s_set 3 S.nd (DP.toE (d_fn c_count_outcomes (hr.mono (by decide)) rfl (takes_of rfl rfl rfl rfl) (p_cons (d_var 2) p_nil)))) (s_cons (s_set 4 S.nd (e_op op_mod o_mod (e_op op_plus o_plus (e_op op_plus o_plus (e_op op_mul o_mul (e_op op_mul o_mul (e_fnIO 1 c__law_taken (hr.mono (by decide)) rfl (takes_of rfl rfl rfl rfl) (DPs.toE (p_cons d_int p_nil))) (DP.toE d_int)) (DP.toE d_int)) (e_op op_mul o_mul (e_fnIO 1 c__law_taken (hr.mono (by decide)) rfl (takes_of rfl rfl rfl rfl) (DPs.toE (p_cons d_int p_nil))) (DP.toE d_int))) (e_fnIO 1 c__law_taken (hr.mono (by decide)) rfl (takes_of rfl rfl rfl rfl) (DPs.toE (p_cons d_int p_nil)))) (DP.toE (d_var 3)))) (s_cons (s_set 5 S.nd (DP.toE (d_fn c_outcome_at (hr.mono (by decide)) rfl (takes_of rfl rfl rfl rfl) (p_cons (d_var 2) (p_cons (d_var 4) p_nil))))) (s_cons (s_if (DT.toE (DW.t (w_or (t_cmp (op_ne2 hr.units) o_ne (DP.toB (d_fn c_rank_of (hr.mono (by decide)) rfl (takes_of rfl rfl rfl rfl) (p_cons (d_var 2) (p_cons (d_var 5) p_nil)))) (b_var 4) (by rfl)) (w_or (t_not (t_tru (DP.toB (d_fn c_comes (hr.mono (by decide)) rfl (takes_of rfl rfl rfl rfl) (p_cons (d_var 2) (p_cons (d_var 5) p_nil)))))) (w_or1 (t_cmp op_notN o_notN (DP.toB (d_fn c_outcome_at (hr.mono (by decide)) rfl (takes_of rfl rfl rfl rfl) (p_cons (d_var 2) (p_cons (d_var 3) p_nil)))) (DP.toB d_non) (by rfl))))))) (s_one (s_ret (DP.toE d_bl))) s_nil) (s_cons (s_set 6 S.nd (DP.toE (d_fn c_next_outcome (hr.mono (by decide)) rfl (takes_of rfl rfl rfl rfl) (p_cons (d_var 2) (p_cons (d_var 5) p_nil))))) (s_cons (s_if (DT.toE (DW.t (w_or (t_cmp (op_ne2 hr.units) o_ne (b_var 6) (DP.toB (d_fn c_outcome_at (hr.mono (by decide)) rfl (takes_of rfl rfl rfl rfl) (p_cons (d_var 2) (p_cons (d_op op_plus o_plus (b_var 4) (DP.toB d_int)) p_nil)))) (by rfl)) (w_or1 (DW.t (w_and (t_cmp op_notN o_notN (b_var 6) (DP.toB d_non) (by rfl)) (w_and1 (t_cmp op_le_str o_leS (b_var 6) (b_var 5) (by rfl))))))))) (s_one (s_ret (DP.toE d_bl))) s_nil) (s_cons (s_if (DT.toE (DW.t (w_or (t_cmp op_gt o_cmpI (DP.toB (d_fn c_count_outcomes (hr.mono (by decide)) rfl (takes_of rfl rfl rfl rfl) (p_cons (d_var 5) p_nil))) (b_var 3) (by rfl)) (w_or1 (t_cmp (op_ne2 hr.units) o_ne (DP.toB (d_callB call_len3 o_len rfl G.f_len (by rfl) (b_cons (DP.toB (d_fn c_some_cuts (hr.mono (by decide)) rfl (takes_of rfl rfl rfl rfl) (p_cons (d_var 2) (p_cons (d_var 5) p_nil)))) b_nil))) (DP.toB (d_fn c_fewest_cuts (hr.mono (by decide)) rfl (takes_of rfl rfl rfl rfl) (p_cons (d_var 2) (p_cons (d_var 5) p_nil)))) (by rfl)))))) (s_one (s_ret (DP.toE d_bl))) s_nil) (s_cons (s_if (DT.toE (DW.t (w_or (t_cmp (op_ne2 hr.units) o_ne (DP.toB (d_fn c_count_beginning (hr.mono (by decide)) rfl (takes_of rfl rfl rfl rfl) (p_cons (d_var 2) (p_cons (d_ix (b_var 2) (DP.toB d_int)) p_nil)))) (b_var 3) (by rfl)) (w_or1 (t_cmp op_lt o_cmpI (DP.toB (d_fn c_count_beginning (hr.mono (by decide)) rfl (takes_of rfl rfl rfl rfl) (p_cons (d_var 2) (p_cons (d_var 5) p_nil)))) (DP.toB d_int) (by rfl)))))) (s_one (s_ret (DP.toE d_bl))) s_nil) (s_cons (s_set 7 S.nd (DP.toE (d_if (t_cmp (op_eq2 hr.units) o_eq (DP.toB (d_ix (b_var 2) (DP.toB d_int))) (DP.toB (d_ix (b_var 2) (DP.toB (d_neg (DP.toB d_int))))) (by rfl)) d_int d_int))) (s_cons (s_for (passes_of rfl) rfl (DIp.toI (p_any d_str)) (g_name S.nd (i := 8)) (s_one (s_set 7 S.nd (DP.toE (d_op op_plus o_plus (b_var 7) (DP.toB (d_fn c_count_beginning (hr.mono (by decide)) rfl (takes_of rfl rfl rfl rfl) (p_cons (d_var 2) (p_cons (d_op op_plus o_plus (DP.toB (d_ix (b_var 2) (DP.toB d_int))) (b_var 8)) p_nil))))))))) (s_cons (s_if (DT.toE (t_cmp (op_ne2 hr.units) o_ne (b_var 7) (b_var 3) (by rfl))) (s_one (s_ret (DP.toE d_bl))) s_nil) (s_cons (s_set 9 S.nd (DP.toE (d_slA (DP.toB (d_fn c_next_films (hr.mono (by decide)) rfl (takes_of rfl rfl rfl rfl) (p_cons (d_var 2) p_nil))) do_none (do_some (DP.toB d_int))))) (s_one (s_ret (DP.toE (d_cmp (op_eq2 hr.units) o_eq (DP.toB (DF.toP (d_lc (own := [("one", 10)]) rfl S.nd (p_any (d_var 9)) (blkOk_by (by rfl)) (fun _ _ _ _ _ => (g_name S.nd (i := 10))) (fun _ _ _ _ _ => (c_one (DW.t (w_or (t_cmp op_ge o_cmpI (DP.toB (d_fn c_count_outcomes (hr.mono (by decide)) rfl takes_no (p_cons (d_var 10) p_nil))) (b_var 3) (by rfl)) (w_or1 (t_cmp op_isN o_isN (DP.toB (d_fn c_rank_of (hr.mono (by decide)) rfl takes_no (p_cons (d_var 2) (p_cons (d_var 10) p_nil)))) (DP.toB d_non) (by rfl))))))) (fun _ _ _ _ _ => (d_var 10))))) (DP.toB (DF.toP (d_lst p_nil))) (by rfl)))))))))))))))))))
end
end LW

end
section
namespace LW
open PySem DL PT
/-! graphs as data -/
abbrev rwD (r : List (Nat × Nat)) : D := rwX r
abbrev gD (R : List (List (Nat × Nat))) (E : List Bool) : D := gr (R.map rwD) (E.map D.bl)
theorem gA_eq (A E : List D) : fldD "arrows" (gr A E) = some (.lst A) := (rfl)
theorem gE_eq (A E : List D) : fldD "ends" (gr A E) = some (.lst E) := (rfl)
theorem vals_rw (r : List (Nat × Nat)) : valsD (rwD r) = some (r.map fun p => ni p.2) := by
  show some ((r.map fun p => ((.inr (mkS [p.1]) : L2.Key), ni p.2)).map fun kv => kv.2) = _
  rw [List.map_map]
  rfl
theorem items_rw (r : List (Nat × Nat)) : itemsD (rwD r) = some (r.map fun p => .tup [tx [p.1], ni p.2]) := by
  show some ((r.map fun p => ((.inr (mkS [p.1]) : L2.Key), ni p.2)).map fun kv => D.tup [keyV kv.1, kv.2]) = _
  rw [List.map_map]
  rfl
theorem row_at {R : List (List (Nat × Nat))} {v : Nat} (h : v < R.length) : (R.map rwD)[v]? = some (rwD (R.getD v [])) := by
  rw [List.getElem?_map, List.getD_eq_getElem?_getD, List.getElem?_eq_getElem h]
  rfl
theorem end_at {E : List Bool} {v : Nat} (h : v < E.length) : (E.map D.bl)[v]? = some (.bl (E.getD v false)) := by
  rw [List.getElem?_map, List.getD_eq_getElem?_getD, List.getElem?_eq_getElem h]
  rfl
theorem itmA_ok {i n : Nat} {g : D → D → Option D} {fk fe : DL.Env → DL.R D} {r : DL.Env} {s : Slot} {xs : List D} {x y d : D} (h1 : ownL r i = some (s, xs)) (h2 : fk r = .ok (ni n)) (h3 : xs[n]? = some x) (h4 : fe r = .ok y) (h5 : g x y = some d) : itmA i g fk fe r = .ok (.nx (r.set i (s.put (.lst (xs.set n d))))) := by
  have a : asN (ni n) = some n := by
    show (if (0 : Int) ≤ (n : Int) then some (n : Int).toNat else none) = _
    rw [if_pos (Int.natCast_nonneg n)]
    rfl
  unfold itmA
  rw [h1]
  simp only [R.ofO, R.bind, h2, a, h3, h4, h5]
theorem rev_items {n : Nat} (h : n ≤ 1000000) : rvR (.int 0) (.int (n : Nat)) = some ((List.range n).map fun i => ni (n - 1 - i)) := by
  unfold rvR
  simp only
  rw [if_pos (by omega)]
  congr 1
  have : ((n : Int) - 0).toNat = n := by omega
  rw [this]
  apply List.ext_getElem?
  intro i
  by_cases hi : i < n
  · rw [List.getElem?_reverse (by rw [rngL_length]; exact hi), rngL_length]
    unfold rngL
    rw [List.getElem?_map, List.getElem?_map, List.getElem?_range hi, List.getElem?_range (by omega)]
    simp
  · rw [List.getElem?_eq_none (by rw [List.length_reverse, rngL_length]; omega), List.getElem?_eq_none (by rw [List.length_map, List.length_range]; omega)]
abbrev cntB : DL.Env → DL.R Fl := (seqS (itmS 1 (gAny 2) (appN sumD (aCons (lcD [("after", 3)] (itX valsD (bin ixD (un1 (fldD "arrows") (gSh 0)) (gAny 2))) (gSet 3) yesB (bin ixD (gAny 1) (gAny 3))) aNil))) (ifS (withEnv (tru (bin ixD (un1 (fldD "ends") (gSh 0)) (gAny 2)))) (itmA 1 (intOp (fun _ _ => true) fun i j => i + j) (gAny 2) (kc (.int 1))) skipS))
theorem counts_from_ok {R : List (List (Nat × Nat))} {E : List Bool} (hU : Up R) (hE : E.length = R.length) (hl : R.length ≤ 1000) (hr : ∀ v, (R.getD v []).length ≤ 1000) : F_counts_from [gD R E] = .ok (.lst ((csI R E R.length).map ni)) := by
  obtain ⟨t, y2, e, h1, n⟩ := for_run (b := cntB) (g := gSet 2) (τ := List Nat) (fun i => ni (R.length - 1 - i)) (fun t s => [.sh (gD R E), .own (.lst (t.map ni)), s, .un]) (fun j t => t = csI R E j) (List.range R.length) (csI R E 0) .un (fun _ _ _ => rfl) rfl rfl fun j i t ej ht => by
      subst ht
      have hj : j < R.length := by have := (List.getElem?_eq_some_iff.mp ej).1; rwa [List.length_range] at this
      have ei : i = j := by rw [List.getElem?_range hj] at ej; exact (Option.some.inj ej).symm
      subst ei
      generalize hv : R.length - 1 - i = v
      have hvl : v < R.length := by omega
      have ra := row_at hvl
      have ea := end_at (E := E) (v := v) (by omega)
      have ga := gA_eq (R.map rwD) (E.map D.bl)
      have ge := gE_eq (R.map rwD) (E.map D.bl)
      have it : itX valsD (bin ixD (un1 (fldD "arrows") (gSh 0)) (gAny 2)) [.sh (gD R E), .own (.lst ((csI R E i).map ni)), .sh (ni v), .un] = .ok ((R.getD v []).map fun p => ni p.2) := by wide_open with ((), ga, ra, vals_rw)
      have c := lcY (r := [.sh (gD R E), .own (.lst ((csI R E i).map ni)), .sh (ni v), .un]) (own := [("after", 3)]) (g := gSet 3) (f := bin ixD (gAny 1) (gAny 3)) (R.getD v []) (fun p => ni p.2) (fun p => ni (wd R E p.2).length) (fun p => [.sh (gD R E), .own (.lst ((csI R E i).map ni)), .sh (ni v), .sh (ni p.2)]) rfl it (by have := hr v; omega) (fun _ => rfl) fun p hp => by
        obtain ⟨u1, u2⟩ := hU v p hp
        have g1 : ((csI R E i).map ni)[p.2]? = some (ni (wd R E p.2).length) := by
          rw [List.getElem?_map, csI_get u2, if_pos (by omega)]
          rfl
        wide_open with ((), g1)
      have sm : sumD [.lst ((R.getD v []).map fun p => ni (wd R E p.2).length)] = some (ni ((R.getD v []).map fun p => (wd R E p.2).length).sum) := by
        have := sum_nl ((R.getD v []).map fun p => (wd R E p.2).length)
        rw [List.map_map] at this
        exact this
      have wl := wd_len (E := E) hU hvl
      have ix : L2.ixN ((csI R E i).map ni).length (v : Int) = some v := by
        unfold L2.ixN
        rw [List.length_map, csI_len, if_pos (Int.natCast_nonneg v), if_pos (by omega)]
        rfl
      have ix2 : L2.ixN (csI R E i).length (v : Int) = some v := by rw [← List.length_map (f := ni)]; exact ix
      have st := csI_set (E := E) hj
      rw [hv] at st
      generalize hs : ((R.getD v []).map fun p => (wd R E p.2).length).sum = sum at sm wl
      have m1 : ((csI R E i).map ni).set v (ni sum) = ((csI R E i).set v sum).map ni := by rw [List.map_set]
      cases q : E.getD v false with
      | false =>
        rw [q] at ea wl
        simp only [Bool.false_eq_true, if_false, Nat.add_zero] at wl
        rw [wl] at st
        refine ⟨csI R E (i + 1), ?_, rfl⟩
        rw [← st]
        wide_open with ((), c, sm, ix, ix2, ge, ea, m1)
      | true =>
        rw [q] at ea wl
        simp only [if_true] at wl
        rw [wl] at st
        have ia : itmA 1 (intOp (fun _ _ => true) fun i j => i + j) (gAny 2) (kc (.int 1)) [.sh (gD R E), .own (.lst (((csI R E i).set v sum).map ni)), .sh (ni v), .un] = .ok (.nx [.sh (gD R E), .own (.lst ((csI R E (i + 1)).map ni)), .sh (ni v), .un]) := by
          have := itmA_ok (i := 1) (n := v) (g := intOp (fun _ _ => true) fun i j => i + j) (fk := gAny 2) (fe := kc (.int 1)) (r := [.sh (gD R E), .own (.lst (((csI R E i).set v sum).map ni)), .sh (ni v), .un]) (s := .own (.lst (((csI R E i).set v sum).map ni))) (xs := ((csI R E i).set v sum).map ni) (x := ni sum) (y := .int 1) (d := ni (sum + 1)) rfl rfl (by
            rw [List.getElem?_map, List.getElem?_set_self (by rw [csI_len]; exact hvl)]
            rfl) rfl rfl
          rw [this, ← st]
          have : (((csI R E i).set v sum).map ni).set v (ni (sum + 1)) = ((csI R E i).set v (sum + 1)).map ni := by rw [← List.map_set, List.set_set]
          rw [this]
          rfl
        refine ⟨csI R E (i + 1), ?_, rfl⟩
        wide_open with ((), c, sm, ix, ix2, ge, ea, m1, ia)
  rw [List.length_range] at h1
  subst h1
  have z0 : (List.replicate R.length (.int 0) : List D) = (csI R E 0).map ni := by
    unfold csI
    apply List.ext_getElem?
    intro v
    by_cases hv : v < R.length
    · rw [List.getElem?_replicate, if_pos hv, List.getElem?_map, List.getElem?_map, List.getElem?_range hv]
      show _ = some (ni (if R.length - 0 ≤ v then _ else 0))
      rw [if_neg (by omega)]
      rfl
    · rw [List.getElem?_eq_none (by rw [List.length_replicate]; omega), List.getElem?_eq_none (by rw [List.length_map, List.length_map, List.length_range]; omega)]
  have rv := rev_items (n := R.length) (by omega)
  have ga := gA_eq (R.map rwD) (E.map D.bl)
  have ln : lenD [.lst (R.map rwD)] = some (ni R.length) := by simp [len_lst]
  refine fnD_rt (r1 := [.sh (gD R E), .sh (.lst ((csI R E R.length).map ni)), y2, .un]) rfl (show b_counts_from [.sh (gD R E), .un, .un, .un] = _ from ?_)
  unfold b_counts_from
  wide_open with ((), ga, ln, z0, rv, e)
end LW

end
section
namespace LW
open PySem DL PT
/-! the words of a graph -/
abbrev sdW (p : Nat × List Nat) : D := .tup [ni p.1, tx p.2]
abbrev kidB : DL.Env → DL.R Fl := ifS (withEnv (tst (bin gtD (bin ixD (gAny 1) (gAny 7)) (kc (.int 0))))) (appS 3 (mkT (aCons (gSh 7) (aCons (bin plusD (gAny 5) (gAny 6)) aNil)))) skipS
def wF (R : List (List (Nat × Nat))) (E : List Bool) (p : Nat × List Nat) : List (List Nat) := (wd R E p.1).map fun l => p.2 ++ l
def Ms (R : List (List (Nat × Nat))) (E : List Bool) (p : Nat × List Nat) : Nat := (wd R E p.1).length * (R.length - p.1) + 1
abbrev woB : DL.Env → DL.R Fl := (seqS (asgS (gTupD 2 (gsCons (gSet 4) (gsCons (gSet 5) gsNil))) (popE 3)) (seqS (ifS (withEnv (tru (bin ixD (un1 (fldD "ends") (gSh 0)) (gAny 4)))) (appS 2 (gSh 5)) skipS) (forS (withEnv (itX revZ (un1 lstItD (bin ixD (un1 (fldD "arrows") (gSh 0)) (gAny 4))))) (gTupD 2 (gsCons (gSet 6) (gsCons (gSet 7) gsNil))) kidB)))
theorem sum_app (a b : List Nat) : (a ++ b).sum = a.sum + b.sum := by
  induction a with
  | nil => simp
  | cons x a ih => rw [List.cons_append, List.sum_cons, List.sum_cons, ih, Nat.add_assoc]
end LW

end
section
namespace LW
open PySem DL PT


/-! ### what the defs answer -/
def Film (f : List Nat) : Prop := f ≠ [] ∧ f.length ≤ 200 ∧ ∀ c ∈ f, 97 ≤ c ∧ c ≤ 104
theorem in_letters {c : Nat} (h : 97 ≤ c ∧ c ≤ 104) : inB false (tx [c]) (.str "abcdefgh") = some (.bl true) := by
  have : c = 97 ∨ c = 98 ∨ c = 99 ∨ c = 100 ∨ c = 101 ∨ c = 102 ∨ c = 103 ∨ c = 104 := by omega
  have e : inStr (mkS [c]) "abcdefgh" = true := by
    rcases this with e | e | e | e | e | e | e | e <;> subst e <;> decide +kernel
  rw [tx_eq]
  unfold inB inD
  simp only [Option.map_some, e]
  rfl
theorem is_letter_ok {c : Nat} (h : 97 ≤ c ∧ c ≤ 104) : F_is_letter [tx [c]] = .ok (.bl true) := by
  have e1 : lenD [tx [c]] = some (.int 1) := len_tx (l := [c]) (by simp)
  refine fnD_rt rfl (ret_p (r := [.sh (tx [c])]) ?_)
  simp (disch := first | omega | (simp; done) | (simp; omega)) [DL.withEnv, DL.tst, DL.tstE, DL.tru, DL.truE, DL.bin, DL.binE, DL.appN, DL.appNE, DL.aCons, DL.aNil, DL.aConsE, DL.kc, DL.itN, DL.itX, DL.un1, DL.notB, DL.orB, DL.andB, DL.notV, DL.andV, DL.orV, DL.ifV, DL.chn, DL.oNone, DL.oSome, DL.sl3, DL.mthV, DL.mkT, DL.mkTE, DL.mkL, DL.yesB, DL.gSh_eq, DL.gAny_eq, DL.gS_sh, DL.gA_sh, DL.gA_own, DL.gA_io, DL.ownL_eq, DL.oL_own, DL.oL_io, DL.put_own, DL.put_io, DL.bind_ok, DL.ofO_some, DL.at_ok, DL.ne_ok, DL.asB_bl', DL.asI_int', DL.tru_bl, DL.tru_int, DL.tru_lst, DL.len_tx, DL.len_lst, DL.len_tup, DL.ix_tx, DL.ix_lst, DL.ix_tup, DL.sl_tx, DL.sl_lst, DL.sl_tup, DL.plus_tx, DL.plus_int, DL.plus_lst, DL.plus_tup, DL.cat_lst, DL.rep_lst1, DL.zD_tx, DL.zD_lst, DL.zD_tup, DL.rev_tx, DL.en_tx, DL.asStr_tx, DL.tup_lst, DL.lst_tup, DL.isi_tx, DL.isi_int, DL.isi_intb, DL.isi_tt, DL.isi_lt, DL.sub_int', DL.add_ip, DL.sub_ip, DL.mul_int', DL.lt_int, DL.gt_int, DL.ge_int, DL.le_int, DL.eq_int, DL.ne_int, DL.eq_tx, DL.ne_tx, DL.isn_int, DL.isn_non, DL.isb, DL.neg_int, DL.int_int, DL.atI_nat, DL.atI_zero, DL.atI_one, DL.atI_two, DL.atI_three, DL.atI_succ, DL.atI_last, DL.cut_to, DL.cut_from, DL.cut_both, DL.cut_butlast, PySem.sizeLine_eq, DL.sum_nl, DL.sum_nt, DL.gSet, DL.gTupD, DL.gsCons, DL.gsNil, DL.ini, DL.setS, e1, in_letters h]
theorem check_film_ok {f : List Nat} (h : Film f) : F_check_film [tx f] = .ok .non := by
  obtain ⟨h0, h1, h2⟩ := h
  have hl : 0 < f.length := List.length_pos_iff.mpr h0
  obtain ⟨r', e, _⟩ := for_inv (g := gTupD 2 (gsCons (gSet 1) (gsCons (gSet 2) gsNil))) (b := ifS (withEnv (notB (tru (callF 1 F_is_letter (aCons (gSh 2) aNil))))) nvrS skipS)
    (items := (f.zipIdx).map fun p => D.tup [.int (p.2 : Nat), tx [p.1]]) (r := [.sh (tx f), .un, .un]) (fun i r => ∃ a b, r = [.sh (tx f), a, b]) ⟨_, _, rfl⟩ (fun i x r e hI => by
      obtain ⟨a, b, er⟩ := hI
      subst er
      rw [List.getElem?_map, List.getElem?_zipIdx] at e
      cases q : f[i]? with
      | none => rw [q] at e; cases e
      | some c =>
        rw [q] at e
        simp only [Option.map_some, Option.some.injEq] at e
        subst e
        have hc := h2 c (List.mem_of_getElem? q)
        refine ⟨_, _, rfl, if_n (cond_p (b := false) ?_) rfl, ⟨.sh (.int ((0 + i : Nat) : Int)), .sh (tx [c]), rfl⟩⟩
        have e1 : callF 1 F_is_letter (aCons (gSh 2) aNil) [.sh (tx f), .sh (.int ((0 + i : Nat) : Int)), .sh (tx [c])] = .ok (.bl true) := call_p (ds := [tx [c]]) rfl rfl (is_letter_ok hc)
        simp (disch := first | omega | (simp; done) | (simp; omega)) [DL.withEnv, DL.tst, DL.tstE, DL.tru, DL.truE, DL.bin, DL.binE, DL.appN, DL.appNE, DL.aCons, DL.aNil, DL.aConsE, DL.kc, DL.itN, DL.itX, DL.un1, DL.notB, DL.orB, DL.andB, DL.notV, DL.andV, DL.orV, DL.ifV, DL.chn, DL.oNone, DL.oSome, DL.sl3, DL.mthV, DL.mkT, DL.mkTE, DL.mkL, DL.yesB, DL.gSh_eq, DL.gAny_eq, DL.gS_sh, DL.gA_sh, DL.gA_own, DL.gA_io, DL.ownL_eq, DL.oL_own, DL.oL_io, DL.put_own, DL.put_io, DL.bind_ok, DL.ofO_some, DL.at_ok, DL.ne_ok, DL.asB_bl', DL.asI_int', DL.tru_bl, DL.tru_int, DL.tru_lst, DL.len_tx, DL.len_lst, DL.len_tup, DL.ix_tx, DL.ix_lst, DL.ix_tup, DL.sl_tx, DL.sl_lst, DL.sl_tup, DL.plus_tx, DL.plus_int, DL.plus_lst, DL.plus_tup, DL.cat_lst, DL.rep_lst1, DL.zD_tx, DL.zD_lst, DL.zD_tup, DL.rev_tx, DL.en_tx, DL.asStr_tx, DL.tup_lst, DL.lst_tup, DL.isi_tx, DL.isi_int, DL.isi_intb, DL.isi_tt, DL.isi_lt, DL.sub_int', DL.add_ip, DL.sub_ip, DL.mul_int', DL.lt_int, DL.gt_int, DL.ge_int, DL.le_int, DL.eq_int, DL.ne_int, DL.eq_tx, DL.ne_tx, DL.isn_int, DL.isn_non, DL.isb, DL.neg_int, DL.int_int, DL.atI_nat, DL.atI_zero, DL.atI_one, DL.atI_two, DL.atI_three, DL.atI_succ, DL.atI_last, DL.cut_to, DL.cut_from, DL.cut_both, DL.cut_butlast, PySem.sizeLine_eq, DL.sum_nl, DL.sum_nt, DL.gSet, DL.gTupD, DL.gsCons, DL.gsNil, DL.ini, DL.setS, e1, Nat.zero_add]
        rw [Nat.zero_add] at e1
        simp (disch := first | omega | (simp; done) | (simp; omega)) [DL.withEnv, DL.tst, DL.tstE, DL.tru, DL.truE, DL.bin, DL.binE, DL.appN, DL.appNE, DL.aCons, DL.aNil, DL.aConsE, DL.kc, DL.itN, DL.itX, DL.un1, DL.notB, DL.orB, DL.andB, DL.notV, DL.andV, DL.orV, DL.ifV, DL.chn, DL.oNone, DL.oSome, DL.sl3, DL.mthV, DL.mkT, DL.mkTE, DL.mkL, DL.yesB, DL.gSh_eq, DL.gAny_eq, DL.gS_sh, DL.gA_sh, DL.gA_own, DL.gA_io, DL.ownL_eq, DL.oL_own, DL.oL_io, DL.put_own, DL.put_io, DL.bind_ok, DL.ofO_some, DL.at_ok, DL.ne_ok, DL.asB_bl', DL.asI_int', DL.tru_bl, DL.tru_int, DL.tru_lst, DL.len_tx, DL.len_lst, DL.len_tup, DL.ix_tx, DL.ix_lst, DL.ix_tup, DL.sl_tx, DL.sl_lst, DL.sl_tup, DL.plus_tx, DL.plus_int, DL.plus_lst, DL.plus_tup, DL.cat_lst, DL.rep_lst1, DL.zD_tx, DL.zD_lst, DL.zD_tup, DL.rev_tx, DL.en_tx, DL.asStr_tx, DL.tup_lst, DL.lst_tup, DL.isi_tx, DL.isi_int, DL.isi_intb, DL.isi_tt, DL.isi_lt, DL.sub_int', DL.add_ip, DL.sub_ip, DL.mul_int', DL.lt_int, DL.gt_int, DL.ge_int, DL.le_int, DL.eq_int, DL.ne_int, DL.eq_tx, DL.ne_tx, DL.isn_int, DL.isn_non, DL.isb, DL.neg_int, DL.int_int, DL.atI_nat, DL.atI_zero, DL.atI_one, DL.atI_two, DL.atI_three, DL.atI_succ, DL.atI_last, DL.cut_to, DL.cut_from, DL.cut_both, DL.cut_butlast, PySem.sizeLine_eq, DL.sum_nl, DL.sum_nt, DL.gSet, DL.gTupD, DL.gsCons, DL.gsNil, DL.ini, DL.setS, e1])
  refine fnD_nx (r1 := r') rfl (seq_nx (r1 := [.sh (tx f), .un, .un]) (if_n (cond_p (b := false) ?_) rfl) (for_p (items := _) ?_ e))
  · have p1 : (1 : Int) ≤ (f.length : Int) := by omega
    have p2 : (f.length : Int) ≤ 200 := by omega
    simp (disch := first | omega | (simp; done) | (simp; omega)) [DL.withEnv, DL.tst, DL.tstE, DL.tru, DL.truE, DL.bin, DL.binE, DL.appN, DL.appNE, DL.aCons, DL.aNil, DL.aConsE, DL.kc, DL.itN, DL.itX, DL.un1, DL.notB, DL.orB, DL.andB, DL.notV, DL.andV, DL.orV, DL.ifV, DL.chn, DL.oNone, DL.oSome, DL.sl3, DL.mthV, DL.mkT, DL.mkTE, DL.mkL, DL.yesB, DL.gSh_eq, DL.gAny_eq, DL.gS_sh, DL.gA_sh, DL.gA_own, DL.gA_io, DL.ownL_eq, DL.oL_own, DL.oL_io, DL.put_own, DL.put_io, DL.bind_ok, DL.ofO_some, DL.at_ok, DL.ne_ok, DL.asB_bl', DL.asI_int', DL.tru_bl, DL.tru_int, DL.tru_lst, DL.len_tx, DL.len_lst, DL.len_tup, DL.ix_tx, DL.ix_lst, DL.ix_tup, DL.sl_tx, DL.sl_lst, DL.sl_tup, DL.plus_tx, DL.plus_int, DL.plus_lst, DL.plus_tup, DL.cat_lst, DL.rep_lst1, DL.zD_tx, DL.zD_lst, DL.zD_tup, DL.rev_tx, DL.en_tx, DL.asStr_tx, DL.tup_lst, DL.lst_tup, DL.isi_tx, DL.isi_int, DL.isi_intb, DL.isi_tt, DL.isi_lt, DL.sub_int', DL.add_ip, DL.sub_ip, DL.mul_int', DL.lt_int, DL.gt_int, DL.ge_int, DL.le_int, DL.eq_int, DL.ne_int, DL.eq_tx, DL.ne_tx, DL.isn_int, DL.isn_non, DL.isb, DL.neg_int, DL.int_int, DL.atI_nat, DL.atI_zero, DL.atI_one, DL.atI_two, DL.atI_three, DL.atI_succ, DL.atI_last, DL.cut_to, DL.cut_from, DL.cut_both, DL.cut_butlast, PySem.sizeLine_eq, DL.sum_nl, DL.sum_nt, DL.gSet, DL.gTupD, DL.gsCons, DL.gsNil, DL.ini, DL.setS, p1, p2]
  · simp (disch := first | omega | (simp; done) | (simp; omega)) [DL.withEnv, DL.tst, DL.tstE, DL.tru, DL.truE, DL.bin, DL.binE, DL.appN, DL.appNE, DL.aCons, DL.aNil, DL.aConsE, DL.kc, DL.itN, DL.itX, DL.un1, DL.notB, DL.orB, DL.andB, DL.notV, DL.andV, DL.orV, DL.ifV, DL.chn, DL.oNone, DL.oSome, DL.sl3, DL.mthV, DL.mkT, DL.mkTE, DL.mkL, DL.yesB, DL.gSh_eq, DL.gAny_eq, DL.gS_sh, DL.gA_sh, DL.gA_own, DL.gA_io, DL.ownL_eq, DL.oL_own, DL.oL_io, DL.put_own, DL.put_io, DL.bind_ok, DL.ofO_some, DL.at_ok, DL.ne_ok, DL.asB_bl', DL.asI_int', DL.tru_bl, DL.tru_int, DL.tru_lst, DL.len_tx, DL.len_lst, DL.len_tup, DL.ix_tx, DL.ix_lst, DL.ix_tup, DL.sl_tx, DL.sl_lst, DL.sl_tup, DL.plus_tx, DL.plus_int, DL.plus_lst, DL.plus_tup, DL.cat_lst, DL.rep_lst1, DL.zD_tx, DL.zD_lst, DL.zD_tup, DL.rev_tx, DL.en_tx, DL.asStr_tx, DL.tup_lst, DL.lst_tup, DL.isi_tx, DL.isi_int, DL.isi_intb, DL.isi_tt, DL.isi_lt, DL.sub_int', DL.add_ip, DL.sub_ip, DL.mul_int', DL.lt_int, DL.gt_int, DL.ge_int, DL.le_int, DL.eq_int, DL.ne_int, DL.eq_tx, DL.ne_tx, DL.isn_int, DL.isn_non, DL.isb, DL.neg_int, DL.int_int, DL.atI_nat, DL.atI_zero, DL.atI_one, DL.atI_two, DL.atI_three, DL.atI_succ, DL.atI_last, DL.cut_to, DL.cut_from, DL.cut_both, DL.cut_butlast, PySem.sizeLine_eq, DL.sum_nl, DL.sum_nt, DL.gSet, DL.gTupD, DL.gsCons, DL.gsNil, DL.ini, DL.setS]

/-! counts -/
def tb (G : List Nat → Nat) (F : List Nat) : D := .lst ((List.range (F.length + 1)).map fun p => D.int (G (F.drop p) : Nat))
def cnt (c : Nat) (G : List Nat → Nat) (F : List Nat) (i : Nat) : List D := (List.range (F.length + 1)).map fun p => D.int ((if p < F.length - i then 0 else blk c G (F.drop p) : Nat) : Int)
theorem tb_get {G : List Nat → Nat} {F : List Nat} {p : Nat} (h : p ≤ F.length) : ((List.range (F.length + 1)).map fun p => D.int (G (F.drop p) : Nat))[p]? = some (.int (G (F.drop p) : Nat)) := map_get _ _ _ (by omega)
def T (F g : List Nat) : List D := (List.range (g.length + 1)).map fun k => tb (W (g.drop k)) F
def Tr (F g : List Nat) (i : Nat) : List D := (List.range (i + 1)).map fun k => tb (W (g.drop (g.length - k))) F
end LW

end
section
namespace LW
open PySem DL PT

abbrev tn (l : List Nat) : D := .tup (l.map ni)
theorem is_whole_ok (i : Int) : F_is_whole [.int i] = .ok (.bl true) := by
  refine fnD_rt rfl (ret_p (r := [.sh (.int i)]) ?_)
  simp (disch := first | omega | (simp; done) | (simp; omega)) [DL.withEnv, DL.tst, DL.tstE, DL.tru, DL.truE, DL.bin, DL.binE, DL.appN, DL.appNE, DL.aCons, DL.aNil, DL.aConsE, DL.kc, DL.itN, DL.itX, DL.un1, DL.notB, DL.orB, DL.andB, DL.notV, DL.andV, DL.orV, DL.ifV, DL.chn, DL.oNone, DL.oSome, DL.sl3, DL.mthV, DL.mkT, DL.mkTE, DL.mkL, DL.yesB, DL.gSh_eq, DL.gAny_eq, DL.gS_sh, DL.gA_sh, DL.gA_own, DL.gA_io, DL.ownL_eq, DL.oL_own, DL.oL_io, DL.put_own, DL.put_io, DL.bind_ok, DL.ofO_some, DL.at_ok, DL.ne_ok, DL.asB_bl', DL.asI_int', DL.tru_bl, DL.tru_int, DL.tru_lst, DL.len_tx, DL.len_lst, DL.len_tup, DL.ix_tx, DL.ix_lst, DL.ix_tup, DL.sl_tx, DL.sl_lst, DL.sl_tup, DL.plus_tx, DL.plus_int, DL.plus_lst, DL.plus_tup, DL.cat_lst, DL.rep_lst1, DL.zD_tx, DL.zD_lst, DL.zD_tup, DL.rev_tx, DL.en_tx, DL.asStr_tx, DL.tup_lst, DL.lst_tup, DL.isi_tx, DL.isi_int, DL.isi_intb, DL.isi_tt, DL.isi_lt, DL.sub_int', DL.add_ip, DL.sub_ip, DL.mul_int', DL.lt_int, DL.gt_int, DL.ge_int, DL.le_int, DL.eq_int, DL.ne_int, DL.eq_tx, DL.ne_tx, DL.isn_int, DL.isn_non, DL.isb, DL.neg_int, DL.int_int, DL.atI_nat, DL.atI_zero, DL.atI_one, DL.atI_two, DL.atI_three, DL.atI_succ, DL.atI_last, DL.cut_to, DL.cut_from, DL.cut_both, DL.cut_butlast, PySem.sizeLine_eq, DL.sum_nl, DL.sum_nt, DL.gSet, DL.gTupD, DL.gsCons, DL.gsNil, DL.ini, DL.setS]
theorem check_rank_ok (k : Nat) : F_check_rank [ni k] = .ok .non := by
  refine fnD_nx (r1 := [.sh (ni k)]) rfl (if_n (r := [.sh (ni k)]) (cond_p (b := false) ?_) rfl)
  have e1 : callF 1 F_is_whole (aCons (gSh 0) aNil) [.sh (ni k)] = .ok (.bl true) := call_p (ds := [ni k]) rfl rfl (is_whole_ok _)
  have e2 : ¬ ((k : Int) < 0) := by omega
  simp (disch := first | omega | (simp; done) | (simp; omega)) [DL.withEnv, DL.tst, DL.tstE, DL.tru, DL.truE, DL.bin, DL.binE, DL.appN, DL.appNE, DL.aCons, DL.aNil, DL.aConsE, DL.kc, DL.itN, DL.itX, DL.un1, DL.notB, DL.orB, DL.andB, DL.notV, DL.andV, DL.orV, DL.ifV, DL.chn, DL.oNone, DL.oSome, DL.sl3, DL.mthV, DL.mkT, DL.mkTE, DL.mkL, DL.yesB, DL.gSh_eq, DL.gAny_eq, DL.gS_sh, DL.gA_sh, DL.gA_own, DL.gA_io, DL.ownL_eq, DL.oL_own, DL.oL_io, DL.put_own, DL.put_io, DL.bind_ok, DL.ofO_some, DL.at_ok, DL.ne_ok, DL.asB_bl', DL.asI_int', DL.tru_bl, DL.tru_int, DL.tru_lst, DL.len_tx, DL.len_lst, DL.len_tup, DL.ix_tx, DL.ix_lst, DL.ix_tup, DL.sl_tx, DL.sl_lst, DL.sl_tup, DL.plus_tx, DL.plus_int, DL.plus_lst, DL.plus_tup, DL.cat_lst, DL.rep_lst1, DL.zD_tx, DL.zD_lst, DL.zD_tup, DL.rev_tx, DL.en_tx, DL.asStr_tx, DL.tup_lst, DL.lst_tup, DL.isi_tx, DL.isi_int, DL.isi_intb, DL.isi_tt, DL.isi_lt, DL.sub_int', DL.add_ip, DL.sub_ip, DL.mul_int', DL.lt_int, DL.gt_int, DL.ge_int, DL.le_int, DL.eq_int, DL.ne_int, DL.eq_tx, DL.ne_tx, DL.isn_int, DL.isn_non, DL.isb, DL.neg_int, DL.int_int, DL.atI_nat, DL.atI_zero, DL.atI_one, DL.atI_two, DL.atI_three, DL.atI_succ, DL.atI_last, DL.cut_to, DL.cut_from, DL.cut_both, DL.cut_butlast, PySem.sizeLine_eq, DL.sum_nl, DL.sum_nt, DL.gSet, DL.gTupD, DL.gsCons, DL.gsNil, DL.ini, DL.setS, e1, e2]
theorem places_from_ok {F : List Nat} {c s : Nat} (hF : F.length ≤ 200) (hs : s ≤ F.length) : F_places_from [tx F, tx [c], ni s] = .ok (.lst ((pl F c s).map ni)) := by
  refine fnD_rt rfl (ret_p (r := [.sh (tx F), .sh (tx [c]), .sh (ni s), .un]) ?_)
  have e1 : itN rg2 (aCons (gAny 2) (aCons (appN lenD (aCons (gAny 0) aNil)) aNil)) [.sh (tx F), .sh (tx [c]), .sh (ni s), .un] = .ok (rngL (s : Nat) (F.length - s)) := by
    simp (disch := first | omega | (simp; done) | (simp; omega)) [DL.withEnv, DL.tst, DL.tstE, DL.tru, DL.truE, DL.bin, DL.binE, DL.appN, DL.appNE, DL.aCons, DL.aNil, DL.aConsE, DL.kc, DL.itN, DL.itX, DL.un1, DL.notB, DL.orB, DL.andB, DL.notV, DL.andV, DL.orV, DL.ifV, DL.chn, DL.oNone, DL.oSome, DL.sl3, DL.mthV, DL.mkT, DL.mkTE, DL.mkL, DL.yesB, DL.gSh_eq, DL.gAny_eq, DL.gS_sh, DL.gA_sh, DL.gA_own, DL.gA_io, DL.ownL_eq, DL.oL_own, DL.oL_io, DL.put_own, DL.put_io, DL.bind_ok, DL.ofO_some, DL.at_ok, DL.ne_ok, DL.asB_bl', DL.asI_int', DL.tru_bl, DL.tru_int, DL.tru_lst, DL.len_tx, DL.len_lst, DL.len_tup, DL.ix_tx, DL.ix_lst, DL.ix_tup, DL.sl_tx, DL.sl_lst, DL.sl_tup, DL.plus_tx, DL.plus_int, DL.plus_lst, DL.plus_tup, DL.cat_lst, DL.rep_lst1, DL.zD_tx, DL.zD_lst, DL.zD_tup, DL.rev_tx, DL.en_tx, DL.asStr_tx, DL.tup_lst, DL.lst_tup, DL.isi_tx, DL.isi_int, DL.isi_intb, DL.isi_tt, DL.isi_lt, DL.sub_int', DL.add_ip, DL.sub_ip, DL.mul_int', DL.lt_int, DL.gt_int, DL.ge_int, DL.le_int, DL.eq_int, DL.ne_int, DL.eq_tx, DL.ne_tx, DL.isn_int, DL.isn_non, DL.isb, DL.neg_int, DL.int_int, DL.atI_nat, DL.atI_zero, DL.atI_one, DL.atI_two, DL.atI_three, DL.atI_succ, DL.atI_last, DL.cut_to, DL.cut_from, DL.cut_both, DL.cut_butlast, PySem.sizeLine_eq, DL.sum_nl, DL.sum_nt, DL.gSet, DL.gTupD, DL.gsCons, DL.gsNil, DL.ini, DL.setS, rg2_nat]
  rw [lcV_ok (items := rngL (s : Nat) (F.length - s)) (fun d => match d with | .int i => decide (F[i.toNat]? = some c) | _ => false) id rfl e1 (by rw [rngL_length, sizeLine_eq]; omega) (fun x hx => ?_)]
  · congr 2
    rw [List.map_id, rng_range', List.filter_map]
    unfold pl
    congr 1
  · rw [rng_range'] at hx
    obtain ⟨q, hq, ex⟩ := List.mem_map.mp hx
    have hq2 := List.mem_range'_1.mp hq
    have hql : q < F.length := by omega
    subst ex
    refine ⟨[.sh (tx F), .sh (tx [c]), .sh (ni s), .sh (ni q)], rfl, ?_, fun _ => ?_⟩
    · have e2 : F[q]? = some F[q] := List.getElem?_eq_getElem hql
      simp (disch := first | omega | (simp; done) | (simp; omega)) [DL.withEnv, DL.tst, DL.tstE, DL.tru, DL.truE, DL.bin, DL.binE, DL.appN, DL.appNE, DL.aCons, DL.aNil, DL.aConsE, DL.kc, DL.itN, DL.itX, DL.un1, DL.notB, DL.orB, DL.andB, DL.notV, DL.andV, DL.orV, DL.ifV, DL.chn, DL.oNone, DL.oSome, DL.sl3, DL.mthV, DL.mkT, DL.mkTE, DL.mkL, DL.yesB, DL.gSh_eq, DL.gAny_eq, DL.gS_sh, DL.gA_sh, DL.gA_own, DL.gA_io, DL.ownL_eq, DL.oL_own, DL.oL_io, DL.put_own, DL.put_io, DL.bind_ok, DL.ofO_some, DL.at_ok, DL.ne_ok, DL.asB_bl', DL.asI_int', DL.tru_bl, DL.tru_int, DL.tru_lst, DL.len_tx, DL.len_lst, DL.len_tup, DL.ix_tx, DL.ix_lst, DL.ix_tup, DL.sl_tx, DL.sl_lst, DL.sl_tup, DL.plus_tx, DL.plus_int, DL.plus_lst, DL.plus_tup, DL.cat_lst, DL.rep_lst1, DL.zD_tx, DL.zD_lst, DL.zD_tup, DL.rev_tx, DL.en_tx, DL.asStr_tx, DL.tup_lst, DL.lst_tup, DL.isi_tx, DL.isi_int, DL.isi_intb, DL.isi_tt, DL.isi_lt, DL.sub_int', DL.add_ip, DL.sub_ip, DL.mul_int', DL.lt_int, DL.gt_int, DL.ge_int, DL.le_int, DL.eq_int, DL.ne_int, DL.eq_tx, DL.ne_tx, DL.isn_int, DL.isn_non, DL.isb, DL.neg_int, DL.int_int, DL.atI_nat, DL.atI_zero, DL.atI_one, DL.atI_two, DL.atI_three, DL.atI_succ, DL.atI_last, DL.cut_to, DL.cut_from, DL.cut_both, DL.cut_butlast, PySem.sizeLine_eq, DL.sum_nl, DL.sum_nt, DL.gSet, DL.gTupD, DL.gsCons, DL.gsNil, DL.ini, DL.setS, e2]
    · simp (disch := first | omega | (simp; done) | (simp; omega)) [DL.withEnv, DL.tst, DL.tstE, DL.tru, DL.truE, DL.bin, DL.binE, DL.appN, DL.appNE, DL.aCons, DL.aNil, DL.aConsE, DL.kc, DL.itN, DL.itX, DL.un1, DL.notB, DL.orB, DL.andB, DL.notV, DL.andV, DL.orV, DL.ifV, DL.chn, DL.oNone, DL.oSome, DL.sl3, DL.mthV, DL.mkT, DL.mkTE, DL.mkL, DL.yesB, DL.gSh_eq, DL.gAny_eq, DL.gS_sh, DL.gA_sh, DL.gA_own, DL.gA_io, DL.ownL_eq, DL.oL_own, DL.oL_io, DL.put_own, DL.put_io, DL.bind_ok, DL.ofO_some, DL.at_ok, DL.ne_ok, DL.asB_bl', DL.asI_int', DL.tru_bl, DL.tru_int, DL.tru_lst, DL.len_tx, DL.len_lst, DL.len_tup, DL.ix_tx, DL.ix_lst, DL.ix_tup, DL.sl_tx, DL.sl_lst, DL.sl_tup, DL.plus_tx, DL.plus_int, DL.plus_lst, DL.plus_tup, DL.cat_lst, DL.rep_lst1, DL.zD_tx, DL.zD_lst, DL.zD_tup, DL.rev_tx, DL.en_tx, DL.asStr_tx, DL.tup_lst, DL.lst_tup, DL.isi_tx, DL.isi_int, DL.isi_intb, DL.isi_tt, DL.isi_lt, DL.sub_int', DL.add_ip, DL.sub_ip, DL.mul_int', DL.lt_int, DL.gt_int, DL.ge_int, DL.le_int, DL.eq_int, DL.ne_int, DL.eq_tx, DL.ne_tx, DL.isn_int, DL.isn_non, DL.isb, DL.neg_int, DL.int_int, DL.atI_nat, DL.atI_zero, DL.atI_one, DL.atI_two, DL.atI_three, DL.atI_succ, DL.atI_last, DL.cut_to, DL.cut_from, DL.cut_both, DL.cut_butlast, PySem.sizeLine_eq, DL.sum_nl, DL.sum_nt, DL.gSet, DL.gTupD, DL.gsCons, DL.gsNil, DL.ini, DL.setS]
/-! is_parting_for -/
end LW

end
section
namespace LW
open PySem DL PT

/-! the tables behind the first -/
def Tl (F : List Nat) : List Nat → List D
  | [] => []
  | c :: g => tb (W g) F :: Tl F g
/-! parting_at -/
end LW

end
section
namespace LW
open PySem DL PT

/-! rank_of_parting -/
/-! blocks -/
end LW

end
section
namespace LW
open PySem DL PT

def RowOk (row : List D) : Prop := ∃ (ns : List Int) (p : Nat) (q k : Int), ns.length ≤ 63 ∧ row = [.lst (ns.map D.int), ni p, .int q, .int k]
theorem at_int {ns : List Int} {i : Nat} (h : i < ns.length) : (ns.map D.int)[i]? = some (.int ns[i]) := by
  rw [List.getElem?_map, List.getElem?_eq_getElem h]
  rfl
theorem taken_ok {row : List D} {m : Nat} (h : RowOk row) (hm : 0 < m) (hm2 : m ≤ 1000000) : ∃ (v : Nat) (row' : List D), F__law_taken row [ni m] = .ok (ni v, row') ∧ RowOk row' ∧ v < m := by
  obtain ⟨ns, p, q, k, hn, er⟩ := h
  subst er
  have m0 : (0 : Int) < (m : Int) := by omega
  have m1 : (0 : Int) < (m : Int) ∧ (m : Int) < 1073741824 := by omega
  have val : ∀ x : Int, ∃ v : Nat, x % (m : Int) = (v : Int) ∧ v < m := fun x => by
    have h1 := Int.emod_nonneg x (by omega : (m : Int) ≠ 0)
    have h2 := Int.emod_lt_of_pos x m0
    exact ⟨(x % (m : Int)).toNat, by omega, by omega⟩
  by_cases hk : 0 < k
  · obtain ⟨v, ev, hv⟩ := val k
    refine ⟨v, [.lst (ns.map D.int), ni p, .int q, .int (k / (m : Int))], ?_, ⟨ns, p, q, _, hn, rfl⟩, hv⟩
    refine fnIO_rt (r1 := [.sh (ni m), .sh (ni v), .un]) rfl (show b__law_taken [.io (.lst [.lst (ns.map D.int), ni p, .int q, .int k]), .sh (ni m), .un, .un] = _ from ?_)
    unfold b__law_taken
    refine seq_rt (if_y (cond_p (b := true) (by simp (disch := first | omega | (simp; done) | (simp; omega)) [DL.withEnv, DL.tst, DL.tstE, DL.tru, DL.truE, DL.bin, DL.binE, DL.appN, DL.appNE, DL.aCons, DL.aNil, DL.aConsE, DL.kc, DL.itN, DL.itX, DL.un1, DL.notB, DL.orB, DL.andB, DL.notV, DL.andV, DL.orV, DL.ifV, DL.chn, DL.oNone, DL.oSome, DL.sl3, DL.mthV, DL.mkT, DL.mkTE, DL.mkL, DL.yesB, DL.gSh_eq, DL.gAny_eq, DL.gS_sh, DL.gA_sh, DL.gA_own, DL.gA_io, DL.ownL_eq, DL.oL_own, DL.oL_io, DL.put_own, DL.put_io, DL.bind_ok, DL.ofO_some, DL.at_ok, DL.ne_ok, DL.asB_bl', DL.asI_int', DL.tru_bl, DL.tru_int, DL.tru_lst, DL.len_tx, DL.len_lst, DL.len_tup, DL.ix_tx, DL.ix_lst, DL.ix_tup, DL.sl_tx, DL.sl_lst, DL.sl_tup, DL.plus_tx, DL.plus_int, DL.plus_lst, DL.plus_tup, DL.cat_lst, DL.rep_lst1, DL.zD_tx, DL.zD_lst, DL.zD_tup, DL.rev_tx, DL.en_tx, DL.asStr_tx, DL.tup_lst, DL.lst_tup, DL.isi_tx, DL.isi_int, DL.isi_intb, DL.isi_tt, DL.isi_lt, DL.sub_int', DL.add_ip, DL.sub_ip, DL.mul_int', DL.lt_int, DL.gt_int, DL.ge_int, DL.le_int, DL.eq_int, DL.ne_int, DL.eq_tx, DL.ne_tx, DL.isn_int, DL.isn_non, DL.isb, DL.neg_int, DL.int_int, DL.atI_nat, DL.atI_zero, DL.atI_one, DL.atI_two, DL.atI_three, DL.atI_succ, DL.atI_last, DL.cut_to, DL.cut_from, DL.cut_both, DL.cut_butlast, PySem.sizeLine_eq, DL.sum_nl, DL.sum_nt, DL.gSet, DL.gTupD, DL.gsCons, DL.gsNil, DL.ini, DL.setS, hk])) ?_)
    refine seq_nx (r1 := [.io (.lst [.lst (ns.map D.int), ni p, .int q, .int k]), .sh (ni m), .sh (ni v), .un]) (set_p (d := ni v) (by simp (disch := first | omega | (simp; done) | (simp; omega)) [DL.withEnv, DL.tst, DL.tstE, DL.tru, DL.truE, DL.bin, DL.binE, DL.appN, DL.appNE, DL.aCons, DL.aNil, DL.aConsE, DL.kc, DL.itN, DL.itX, DL.un1, DL.notB, DL.orB, DL.andB, DL.notV, DL.andV, DL.orV, DL.ifV, DL.chn, DL.oNone, DL.oSome, DL.sl3, DL.mthV, DL.mkT, DL.mkTE, DL.mkL, DL.yesB, DL.gSh_eq, DL.gAny_eq, DL.gS_sh, DL.gA_sh, DL.gA_own, DL.gA_io, DL.ownL_eq, DL.oL_own, DL.oL_io, DL.put_own, DL.put_io, DL.bind_ok, DL.ofO_some, DL.at_ok, DL.ne_ok, DL.asB_bl', DL.asI_int', DL.tru_bl, DL.tru_int, DL.tru_lst, DL.len_tx, DL.len_lst, DL.len_tup, DL.ix_tx, DL.ix_lst, DL.ix_tup, DL.sl_tx, DL.sl_lst, DL.sl_tup, DL.plus_tx, DL.plus_int, DL.plus_lst, DL.plus_tup, DL.cat_lst, DL.rep_lst1, DL.zD_tx, DL.zD_lst, DL.zD_tup, DL.rev_tx, DL.en_tx, DL.asStr_tx, DL.tup_lst, DL.lst_tup, DL.isi_tx, DL.isi_int, DL.isi_intb, DL.isi_tt, DL.isi_lt, DL.sub_int', DL.add_ip, DL.sub_ip, DL.mul_int', DL.lt_int, DL.gt_int, DL.ge_int, DL.le_int, DL.eq_int, DL.ne_int, DL.eq_tx, DL.ne_tx, DL.isn_int, DL.isn_non, DL.isb, DL.neg_int, DL.int_int, DL.atI_nat, DL.atI_zero, DL.atI_one, DL.atI_two, DL.atI_three, DL.atI_succ, DL.atI_last, DL.cut_to, DL.cut_from, DL.cut_both, DL.cut_butlast, PySem.sizeLine_eq, DL.sum_nl, DL.sum_nt, DL.gSet, DL.gTupD, DL.gsCons, DL.gsNil, DL.ini, DL.setS, mod_int' m0, ev])) ?_
    refine seq_nx (itm_ok (s := .io (.lst [.lst (ns.map D.int), ni p, .int q, .int k])) (xs := [.lst (ns.map D.int), ni p, .int q, .int k]) (d := .int (k / (m : Int))) (k := 3) (j := 3) (by simp (disch := first | omega | (simp; done) | (simp; omega)) [DL.withEnv, DL.tst, DL.tstE, DL.tru, DL.truE, DL.bin, DL.binE, DL.appN, DL.appNE, DL.aCons, DL.aNil, DL.aConsE, DL.kc, DL.itN, DL.itX, DL.un1, DL.notB, DL.orB, DL.andB, DL.notV, DL.andV, DL.orV, DL.ifV, DL.chn, DL.oNone, DL.oSome, DL.sl3, DL.mthV, DL.mkT, DL.mkTE, DL.mkL, DL.yesB, DL.gSh_eq, DL.gAny_eq, DL.gS_sh, DL.gA_sh, DL.gA_own, DL.gA_io, DL.ownL_eq, DL.oL_own, DL.oL_io, DL.put_own, DL.put_io, DL.bind_ok, DL.ofO_some, DL.at_ok, DL.ne_ok, DL.asB_bl', DL.asI_int', DL.tru_bl, DL.tru_int, DL.tru_lst, DL.len_tx, DL.len_lst, DL.len_tup, DL.ix_tx, DL.ix_lst, DL.ix_tup, DL.sl_tx, DL.sl_lst, DL.sl_tup, DL.plus_tx, DL.plus_int, DL.plus_lst, DL.plus_tup, DL.cat_lst, DL.rep_lst1, DL.zD_tx, DL.zD_lst, DL.zD_tup, DL.rev_tx, DL.en_tx, DL.asStr_tx, DL.tup_lst, DL.lst_tup, DL.isi_tx, DL.isi_int, DL.isi_intb, DL.isi_tt, DL.isi_lt, DL.sub_int', DL.add_ip, DL.sub_ip, DL.mul_int', DL.lt_int, DL.gt_int, DL.ge_int, DL.le_int, DL.eq_int, DL.ne_int, DL.eq_tx, DL.ne_tx, DL.isn_int, DL.isn_non, DL.isb, DL.neg_int, DL.int_int, DL.atI_nat, DL.atI_zero, DL.atI_one, DL.atI_two, DL.atI_three, DL.atI_succ, DL.atI_last, DL.cut_to, DL.cut_from, DL.cut_both, DL.cut_butlast, PySem.sizeLine_eq, DL.sum_nl, DL.sum_nt, DL.gSet, DL.gTupD, DL.gsCons, DL.gsNil, DL.ini, DL.setS, fdiv_int' m1]) rfl rfl rfl) ?_
    exact ret_p rfl
  · have c0 : tst (bin gtD (bin ixD (gAny 0) (kc (.int 3))) (kc (.int 0))) [.io (.lst [.lst (ns.map D.int), ni p, .int q, .int k]), .sh (ni m), .un, .un] = .ok false := by simp (disch := first | omega | (simp; done) | (simp; omega)) [DL.withEnv, DL.tst, DL.tstE, DL.tru, DL.truE, DL.bin, DL.binE, DL.appN, DL.appNE, DL.aCons, DL.aNil, DL.aConsE, DL.kc, DL.itN, DL.itX, DL.un1, DL.notB, DL.orB, DL.andB, DL.notV, DL.andV, DL.orV, DL.ifV, DL.chn, DL.oNone, DL.oSome, DL.sl3, DL.mthV, DL.mkT, DL.mkTE, DL.mkL, DL.yesB, DL.gSh_eq, DL.gAny_eq, DL.gS_sh, DL.gA_sh, DL.gA_own, DL.gA_io, DL.ownL_eq, DL.oL_own, DL.oL_io, DL.put_own, DL.put_io, DL.bind_ok, DL.ofO_some, DL.at_ok, DL.ne_ok, DL.asB_bl', DL.asI_int', DL.tru_bl, DL.tru_int, DL.tru_lst, DL.len_tx, DL.len_lst, DL.len_tup, DL.ix_tx, DL.ix_lst, DL.ix_tup, DL.sl_tx, DL.sl_lst, DL.sl_tup, DL.plus_tx, DL.plus_int, DL.plus_lst, DL.plus_tup, DL.cat_lst, DL.rep_lst1, DL.zD_tx, DL.zD_lst, DL.zD_tup, DL.rev_tx, DL.en_tx, DL.asStr_tx, DL.tup_lst, DL.lst_tup, DL.isi_tx, DL.isi_int, DL.isi_intb, DL.isi_tt, DL.isi_lt, DL.sub_int', DL.add_ip, DL.sub_ip, DL.mul_int', DL.lt_int, DL.gt_int, DL.ge_int, DL.le_int, DL.eq_int, DL.ne_int, DL.eq_tx, DL.ne_tx, DL.isn_int, DL.isn_non, DL.isb, DL.neg_int, DL.int_int, DL.atI_nat, DL.atI_zero, DL.atI_one, DL.atI_two, DL.atI_three, DL.atI_succ, DL.atI_last, DL.cut_to, DL.cut_from, DL.cut_both, DL.cut_butlast, PySem.sizeLine_eq, DL.sum_nl, DL.sum_nt, DL.gSet, DL.gTupD, DL.gsCons, DL.gsNil, DL.ini, DL.setS, hk]
    by_cases hp : ns.length < p + 1
    · obtain ⟨v, ev, hv⟩ := val (((q * 48271 + 11) % 2147483647) / 7)
      refine ⟨v, [.lst (ns.map D.int), ni (p + 1), .int ((q * 48271 + 11) % 2147483647), .int k], ?_, ⟨ns, p + 1, _, _, hn, rfl⟩, hv⟩
      refine fnIO_rt (r1 := [.sh (ni m), .un, .un]) rfl (show b__law_taken [.io (.lst [.lst (ns.map D.int), ni p, .int q, .int k]), .sh (ni m), .un, .un] = _ from ?_)
      unfold b__law_taken
      refine seq_nx (if_n (cond_p c0) rfl) ?_
      refine seq_nx (r1 := [.io (.lst [.lst (ns.map D.int), ni (p + 1), .int q, .int k]), .sh (ni m), .un, .un]) (itm_ok (s := .io (.lst [.lst (ns.map D.int), ni p, .int q, .int k])) (xs := [.lst (ns.map D.int), ni p, .int q, .int k]) (d := ni (p + 1)) (k := 1) (j := 1) (by simp (disch := first | omega | (simp; done) | (simp; omega)) [DL.withEnv, DL.tst, DL.tstE, DL.tru, DL.truE, DL.bin, DL.binE, DL.appN, DL.appNE, DL.aCons, DL.aNil, DL.aConsE, DL.kc, DL.itN, DL.itX, DL.un1, DL.notB, DL.orB, DL.andB, DL.notV, DL.andV, DL.orV, DL.ifV, DL.chn, DL.oNone, DL.oSome, DL.sl3, DL.mthV, DL.mkT, DL.mkTE, DL.mkL, DL.yesB, DL.gSh_eq, DL.gAny_eq, DL.gS_sh, DL.gA_sh, DL.gA_own, DL.gA_io, DL.ownL_eq, DL.oL_own, DL.oL_io, DL.put_own, DL.put_io, DL.bind_ok, DL.ofO_some, DL.at_ok, DL.ne_ok, DL.asB_bl', DL.asI_int', DL.tru_bl, DL.tru_int, DL.tru_lst, DL.len_tx, DL.len_lst, DL.len_tup, DL.ix_tx, DL.ix_lst, DL.ix_tup, DL.sl_tx, DL.sl_lst, DL.sl_tup, DL.plus_tx, DL.plus_int, DL.plus_lst, DL.plus_tup, DL.cat_lst, DL.rep_lst1, DL.zD_tx, DL.zD_lst, DL.zD_tup, DL.rev_tx, DL.en_tx, DL.asStr_tx, DL.tup_lst, DL.lst_tup, DL.isi_tx, DL.isi_int, DL.isi_intb, DL.isi_tt, DL.isi_lt, DL.sub_int', DL.add_ip, DL.sub_ip, DL.mul_int', DL.lt_int, DL.gt_int, DL.ge_int, DL.le_int, DL.eq_int, DL.ne_int, DL.eq_tx, DL.ne_tx, DL.isn_int, DL.isn_non, DL.isb, DL.neg_int, DL.int_int, DL.atI_nat, DL.atI_zero, DL.atI_one, DL.atI_two, DL.atI_three, DL.atI_succ, DL.atI_last, DL.cut_to, DL.cut_from, DL.cut_both, DL.cut_butlast, PySem.sizeLine_eq, DL.sum_nl, DL.sum_nt, DL.gSet, DL.gTupD, DL.gsCons, DL.gsNil, DL.ini, DL.setS]) rfl rfl rfl) ?_
      have hp2 : (ns.length : Int) < (p : Int) + 1 := by omega
      refine seq_rt (if_y (cond_p (b := true) (by simp (disch := first | omega | (simp; done) | (simp; omega)) [DL.withEnv, DL.tst, DL.tstE, DL.tru, DL.truE, DL.bin, DL.binE, DL.appN, DL.appNE, DL.aCons, DL.aNil, DL.aConsE, DL.kc, DL.itN, DL.itX, DL.un1, DL.notB, DL.orB, DL.andB, DL.notV, DL.andV, DL.orV, DL.ifV, DL.chn, DL.oNone, DL.oSome, DL.sl3, DL.mthV, DL.mkT, DL.mkTE, DL.mkL, DL.yesB, DL.gSh_eq, DL.gAny_eq, DL.gS_sh, DL.gA_sh, DL.gA_own, DL.gA_io, DL.ownL_eq, DL.oL_own, DL.oL_io, DL.put_own, DL.put_io, DL.bind_ok, DL.ofO_some, DL.at_ok, DL.ne_ok, DL.asB_bl', DL.asI_int', DL.tru_bl, DL.tru_int, DL.tru_lst, DL.len_tx, DL.len_lst, DL.len_tup, DL.ix_tx, DL.ix_lst, DL.ix_tup, DL.sl_tx, DL.sl_lst, DL.sl_tup, DL.plus_tx, DL.plus_int, DL.plus_lst, DL.plus_tup, DL.cat_lst, DL.rep_lst1, DL.zD_tx, DL.zD_lst, DL.zD_tup, DL.rev_tx, DL.en_tx, DL.asStr_tx, DL.tup_lst, DL.lst_tup, DL.isi_tx, DL.isi_int, DL.isi_intb, DL.isi_tt, DL.isi_lt, DL.sub_int', DL.add_ip, DL.sub_ip, DL.mul_int', DL.lt_int, DL.gt_int, DL.ge_int, DL.le_int, DL.eq_int, DL.ne_int, DL.eq_tx, DL.ne_tx, DL.isn_int, DL.isn_non, DL.isb, DL.neg_int, DL.int_int, DL.atI_nat, DL.atI_zero, DL.atI_one, DL.atI_two, DL.atI_three, DL.atI_succ, DL.atI_last, DL.cut_to, DL.cut_from, DL.cut_both, DL.cut_butlast, PySem.sizeLine_eq, DL.sum_nl, DL.sum_nt, DL.gSet, DL.gTupD, DL.gsCons, DL.gsNil, DL.ini, DL.setS, hp2])) ?_)
      refine seq_nx (r1 := [.io (.lst [.lst (ns.map D.int), ni (p + 1), .int ((q * 48271 + 11) % 2147483647), .int k]), .sh (ni m), .un, .un]) (itm_ok (s := .io (.lst [.lst (ns.map D.int), ni (p + 1), .int q, .int k])) (xs := [.lst (ns.map D.int), ni (p + 1), .int q, .int k]) (d := .int ((q * 48271 + 11) % 2147483647)) (k := 2) (j := 2) ?_ rfl rfl rfl) (ret_p ?_)
      · simp (disch := first | omega | (simp; done) | (simp; omega)) [DL.withEnv, DL.tst, DL.tstE, DL.tru, DL.truE, DL.bin, DL.binE, DL.appN, DL.appNE, DL.aCons, DL.aNil, DL.aConsE, DL.kc, DL.itN, DL.itX, DL.un1, DL.notB, DL.orB, DL.andB, DL.notV, DL.andV, DL.orV, DL.ifV, DL.chn, DL.oNone, DL.oSome, DL.sl3, DL.mthV, DL.mkT, DL.mkTE, DL.mkL, DL.yesB, DL.gSh_eq, DL.gAny_eq, DL.gS_sh, DL.gA_sh, DL.gA_own, DL.gA_io, DL.ownL_eq, DL.oL_own, DL.oL_io, DL.put_own, DL.put_io, DL.bind_ok, DL.ofO_some, DL.at_ok, DL.ne_ok, DL.asB_bl', DL.asI_int', DL.tru_bl, DL.tru_int, DL.tru_lst, DL.len_tx, DL.len_lst, DL.len_tup, DL.ix_tx, DL.ix_lst, DL.ix_tup, DL.sl_tx, DL.sl_lst, DL.sl_tup, DL.plus_tx, DL.plus_int, DL.plus_lst, DL.plus_tup, DL.cat_lst, DL.rep_lst1, DL.zD_tx, DL.zD_lst, DL.zD_tup, DL.rev_tx, DL.en_tx, DL.asStr_tx, DL.tup_lst, DL.lst_tup, DL.isi_tx, DL.isi_int, DL.isi_intb, DL.isi_tt, DL.isi_lt, DL.sub_int', DL.add_ip, DL.sub_ip, DL.mul_int', DL.lt_int, DL.gt_int, DL.ge_int, DL.le_int, DL.eq_int, DL.ne_int, DL.eq_tx, DL.ne_tx, DL.isn_int, DL.isn_non, DL.isb, DL.neg_int, DL.int_int, DL.atI_nat, DL.atI_zero, DL.atI_one, DL.atI_two, DL.atI_three, DL.atI_succ, DL.atI_last, DL.cut_to, DL.cut_from, DL.cut_both, DL.cut_butlast, PySem.sizeLine_eq, DL.sum_nl, DL.sum_nt, DL.gSet, DL.gTupD, DL.gsCons, DL.gsNil, DL.ini, DL.setS, mul_int' (i := q) (j := 48271) (Or.inr (by decide)), mod_int' (j := 2147483647) (by decide)]
      · simp (disch := first | omega | (simp; done) | (simp; omega)) [DL.withEnv, DL.tst, DL.tstE, DL.tru, DL.truE, DL.bin, DL.binE, DL.appN, DL.appNE, DL.aCons, DL.aNil, DL.aConsE, DL.kc, DL.itN, DL.itX, DL.un1, DL.notB, DL.orB, DL.andB, DL.notV, DL.andV, DL.orV, DL.ifV, DL.chn, DL.oNone, DL.oSome, DL.sl3, DL.mthV, DL.mkT, DL.mkTE, DL.mkL, DL.yesB, DL.gSh_eq, DL.gAny_eq, DL.gS_sh, DL.gA_sh, DL.gA_own, DL.gA_io, DL.ownL_eq, DL.oL_own, DL.oL_io, DL.put_own, DL.put_io, DL.bind_ok, DL.ofO_some, DL.at_ok, DL.ne_ok, DL.asB_bl', DL.asI_int', DL.tru_bl, DL.tru_int, DL.tru_lst, DL.len_tx, DL.len_lst, DL.len_tup, DL.ix_tx, DL.ix_lst, DL.ix_tup, DL.sl_tx, DL.sl_lst, DL.sl_tup, DL.plus_tx, DL.plus_int, DL.plus_lst, DL.plus_tup, DL.cat_lst, DL.rep_lst1, DL.zD_tx, DL.zD_lst, DL.zD_tup, DL.rev_tx, DL.en_tx, DL.asStr_tx, DL.tup_lst, DL.lst_tup, DL.isi_tx, DL.isi_int, DL.isi_intb, DL.isi_tt, DL.isi_lt, DL.sub_int', DL.add_ip, DL.sub_ip, DL.mul_int', DL.lt_int, DL.gt_int, DL.ge_int, DL.le_int, DL.eq_int, DL.ne_int, DL.eq_tx, DL.ne_tx, DL.isn_int, DL.isn_non, DL.isb, DL.neg_int, DL.int_int, DL.atI_nat, DL.atI_zero, DL.atI_one, DL.atI_two, DL.atI_three, DL.atI_succ, DL.atI_last, DL.cut_to, DL.cut_from, DL.cut_both, DL.cut_butlast, PySem.sizeLine_eq, DL.sum_nl, DL.sum_nt, DL.gSet, DL.gTupD, DL.gsCons, DL.gsNil, DL.ini, DL.setS, mod_int' m0, fdiv_int' (j := 7) (by decide), ev]
    · have hpl : p < ns.length := by omega
      have ec := at_int hpl
      obtain ⟨v, ev, hv⟩ := val ns[p]
      have hp2 : ¬ (ns.length : Int) < (p : Int) + 1 := by omega
      have e1 : (p : Int) + 1 - 1 = (p : Int) := by omega
      have start : ∀ {x : DL.R Fl}, seqS (itmS 0 (kc (.int 2)) (bin modD (appN intD (aCons (bin plusD (bin plusD (bin mulD (bin ixD (gAny 0) (kc (.int 2))) (kc (.int 48271))) (gAny 3)) (kc (.int 11))) aNil)) (kc (.int 2147483647)))) (seqS (ifS (withEnv (tst (bin geD (gAny 3) (bin powD (kc (.int 10)) (kc (.int 18)))))) (itmS 0 (kc (.int 3)) (bin fdivD (gAny 3) (gAny 1))) skipS) (retS (withEnv (bin modD (appN intD (aCons (gAny 3) aNil)) (gAny 1))))) [.io (.lst [.lst (ns.map D.int), ni (p + 1), .int q, .int k]), .sh (ni m), .un, .sh (.int ns[p])] = x →
          b__law_taken [.io (.lst [.lst (ns.map D.int), ni p, .int q, .int k]), .sh (ni m), .un, .un] = x := fun {x} hx => by
        unfold b__law_taken
        refine seq_nx (if_n (cond_p c0) rfl) ?_
        refine seq_nx (r1 := [.io (.lst [.lst (ns.map D.int), ni (p + 1), .int q, .int k]), .sh (ni m), .un, .un]) (itm_ok (s := .io (.lst [.lst (ns.map D.int), ni p, .int q, .int k])) (xs := [.lst (ns.map D.int), ni p, .int q, .int k]) (d := ni (p + 1)) (k := 1) (j := 1) (by simp (disch := first | omega | (simp; done) | (simp; omega)) [DL.withEnv, DL.tst, DL.tstE, DL.tru, DL.truE, DL.bin, DL.binE, DL.appN, DL.appNE, DL.aCons, DL.aNil, DL.aConsE, DL.kc, DL.itN, DL.itX, DL.un1, DL.notB, DL.orB, DL.andB, DL.notV, DL.andV, DL.orV, DL.ifV, DL.chn, DL.oNone, DL.oSome, DL.sl3, DL.mthV, DL.mkT, DL.mkTE, DL.mkL, DL.yesB, DL.gSh_eq, DL.gAny_eq, DL.gS_sh, DL.gA_sh, DL.gA_own, DL.gA_io, DL.ownL_eq, DL.oL_own, DL.oL_io, DL.put_own, DL.put_io, DL.bind_ok, DL.ofO_some, DL.at_ok, DL.ne_ok, DL.asB_bl', DL.asI_int', DL.tru_bl, DL.tru_int, DL.tru_lst, DL.len_tx, DL.len_lst, DL.len_tup, DL.ix_tx, DL.ix_lst, DL.ix_tup, DL.sl_tx, DL.sl_lst, DL.sl_tup, DL.plus_tx, DL.plus_int, DL.plus_lst, DL.plus_tup, DL.cat_lst, DL.rep_lst1, DL.zD_tx, DL.zD_lst, DL.zD_tup, DL.rev_tx, DL.en_tx, DL.asStr_tx, DL.tup_lst, DL.lst_tup, DL.isi_tx, DL.isi_int, DL.isi_intb, DL.isi_tt, DL.isi_lt, DL.sub_int', DL.add_ip, DL.sub_ip, DL.mul_int', DL.lt_int, DL.gt_int, DL.ge_int, DL.le_int, DL.eq_int, DL.ne_int, DL.eq_tx, DL.ne_tx, DL.isn_int, DL.isn_non, DL.isb, DL.neg_int, DL.int_int, DL.atI_nat, DL.atI_zero, DL.atI_one, DL.atI_two, DL.atI_three, DL.atI_succ, DL.atI_last, DL.cut_to, DL.cut_from, DL.cut_both, DL.cut_butlast, PySem.sizeLine_eq, DL.sum_nl, DL.sum_nt, DL.gSet, DL.gTupD, DL.gsCons, DL.gsNil, DL.ini, DL.setS]) rfl rfl rfl) ?_
        refine seq_nx (if_n (cond_p (b := false) (by simp (disch := first | omega | (simp; done) | (simp; omega)) [DL.withEnv, DL.tst, DL.tstE, DL.tru, DL.truE, DL.bin, DL.binE, DL.appN, DL.appNE, DL.aCons, DL.aNil, DL.aConsE, DL.kc, DL.itN, DL.itX, DL.un1, DL.notB, DL.orB, DL.andB, DL.notV, DL.andV, DL.orV, DL.ifV, DL.chn, DL.oNone, DL.oSome, DL.sl3, DL.mthV, DL.mkT, DL.mkTE, DL.mkL, DL.yesB, DL.gSh_eq, DL.gAny_eq, DL.gS_sh, DL.gA_sh, DL.gA_own, DL.gA_io, DL.ownL_eq, DL.oL_own, DL.oL_io, DL.put_own, DL.put_io, DL.bind_ok, DL.ofO_some, DL.at_ok, DL.ne_ok, DL.asB_bl', DL.asI_int', DL.tru_bl, DL.tru_int, DL.tru_lst, DL.len_tx, DL.len_lst, DL.len_tup, DL.ix_tx, DL.ix_lst, DL.ix_tup, DL.sl_tx, DL.sl_lst, DL.sl_tup, DL.plus_tx, DL.plus_int, DL.plus_lst, DL.plus_tup, DL.cat_lst, DL.rep_lst1, DL.zD_tx, DL.zD_lst, DL.zD_tup, DL.rev_tx, DL.en_tx, DL.asStr_tx, DL.tup_lst, DL.lst_tup, DL.isi_tx, DL.isi_int, DL.isi_intb, DL.isi_tt, DL.isi_lt, DL.sub_int', DL.add_ip, DL.sub_ip, DL.mul_int', DL.lt_int, DL.gt_int, DL.ge_int, DL.le_int, DL.eq_int, DL.ne_int, DL.eq_tx, DL.ne_tx, DL.isn_int, DL.isn_non, DL.isb, DL.neg_int, DL.int_int, DL.atI_nat, DL.atI_zero, DL.atI_one, DL.atI_two, DL.atI_three, DL.atI_succ, DL.atI_last, DL.cut_to, DL.cut_from, DL.cut_both, DL.cut_butlast, PySem.sizeLine_eq, DL.sum_nl, DL.sum_nt, DL.gSet, DL.gTupD, DL.gsCons, DL.gsNil, DL.ini, DL.setS, hp2])) rfl) ?_
        exact seq_nx (r1 := [.io (.lst [.lst (ns.map D.int), ni (p + 1), .int q, .int k]), .sh (ni m), .un, .sh (.int ns[p])]) (set_p (d := .int ns[p]) (by simp (disch := first | omega | (simp; done) | (simp; omega)) [DL.withEnv, DL.tst, DL.tstE, DL.tru, DL.truE, DL.bin, DL.binE, DL.appN, DL.appNE, DL.aCons, DL.aNil, DL.aConsE, DL.kc, DL.itN, DL.itX, DL.un1, DL.notB, DL.orB, DL.andB, DL.notV, DL.andV, DL.orV, DL.ifV, DL.chn, DL.oNone, DL.oSome, DL.sl3, DL.mthV, DL.mkT, DL.mkTE, DL.mkL, DL.yesB, DL.gSh_eq, DL.gAny_eq, DL.gS_sh, DL.gA_sh, DL.gA_own, DL.gA_io, DL.ownL_eq, DL.oL_own, DL.oL_io, DL.put_own, DL.put_io, DL.bind_ok, DL.ofO_some, DL.at_ok, DL.ne_ok, DL.asB_bl', DL.asI_int', DL.tru_bl, DL.tru_int, DL.tru_lst, DL.len_tx, DL.len_lst, DL.len_tup, DL.ix_tx, DL.ix_lst, DL.ix_tup, DL.sl_tx, DL.sl_lst, DL.sl_tup, DL.plus_tx, DL.plus_int, DL.plus_lst, DL.plus_tup, DL.cat_lst, DL.rep_lst1, DL.zD_tx, DL.zD_lst, DL.zD_tup, DL.rev_tx, DL.en_tx, DL.asStr_tx, DL.tup_lst, DL.lst_tup, DL.isi_tx, DL.isi_int, DL.isi_intb, DL.isi_tt, DL.isi_lt, DL.sub_int', DL.add_ip, DL.sub_ip, DL.mul_int', DL.lt_int, DL.gt_int, DL.ge_int, DL.le_int, DL.eq_int, DL.ne_int, DL.eq_tx, DL.ne_tx, DL.isn_int, DL.isn_non, DL.isb, DL.neg_int, DL.int_int, DL.atI_nat, DL.atI_zero, DL.atI_one, DL.atI_two, DL.atI_three, DL.atI_succ, DL.atI_last, DL.cut_to, DL.cut_from, DL.cut_both, DL.cut_butlast, PySem.sizeLine_eq, DL.sum_nl, DL.sum_nt, DL.gSet, DL.gTupD, DL.gsCons, DL.gsNil, DL.ini, DL.setS, e1, ec])) hx
      have st2 : itmS 0 (kc (.int 2)) (bin modD (appN intD (aCons (bin plusD (bin plusD (bin mulD (bin ixD (gAny 0) (kc (.int 2))) (kc (.int 48271))) (gAny 3)) (kc (.int 11))) aNil)) (kc (.int 2147483647))) [.io (.lst [.lst (ns.map D.int), ni (p + 1), .int q, .int k]), .sh (ni m), .un, .sh (.int ns[p])] = .ok (.nx [.io (.lst [.lst (ns.map D.int), ni (p + 1), .int ((q * 48271 + ns[p] + 11) % 2147483647), .int k]), .sh (ni m), .un, .sh (.int ns[p])]) :=
        itm_ok (s := .io (.lst [.lst (ns.map D.int), ni (p + 1), .int q, .int k])) (xs := [.lst (ns.map D.int), ni (p + 1), .int q, .int k]) (d := .int ((q * 48271 + ns[p] + 11) % 2147483647)) (k := 2) (j := 2) (by simp (disch := first | omega | (simp; done) | (simp; omega)) [DL.withEnv, DL.tst, DL.tstE, DL.tru, DL.truE, DL.bin, DL.binE, DL.appN, DL.appNE, DL.aCons, DL.aNil, DL.aConsE, DL.kc, DL.itN, DL.itX, DL.un1, DL.notB, DL.orB, DL.andB, DL.notV, DL.andV, DL.orV, DL.ifV, DL.chn, DL.oNone, DL.oSome, DL.sl3, DL.mthV, DL.mkT, DL.mkTE, DL.mkL, DL.yesB, DL.gSh_eq, DL.gAny_eq, DL.gS_sh, DL.gA_sh, DL.gA_own, DL.gA_io, DL.ownL_eq, DL.oL_own, DL.oL_io, DL.put_own, DL.put_io, DL.bind_ok, DL.ofO_some, DL.at_ok, DL.ne_ok, DL.asB_bl', DL.asI_int', DL.tru_bl, DL.tru_int, DL.tru_lst, DL.len_tx, DL.len_lst, DL.len_tup, DL.ix_tx, DL.ix_lst, DL.ix_tup, DL.sl_tx, DL.sl_lst, DL.sl_tup, DL.plus_tx, DL.plus_int, DL.plus_lst, DL.plus_tup, DL.cat_lst, DL.rep_lst1, DL.zD_tx, DL.zD_lst, DL.zD_tup, DL.rev_tx, DL.en_tx, DL.asStr_tx, DL.tup_lst, DL.lst_tup, DL.isi_tx, DL.isi_int, DL.isi_intb, DL.isi_tt, DL.isi_lt, DL.sub_int', DL.add_ip, DL.sub_ip, DL.mul_int', DL.lt_int, DL.gt_int, DL.ge_int, DL.le_int, DL.eq_int, DL.ne_int, DL.eq_tx, DL.ne_tx, DL.isn_int, DL.isn_non, DL.isb, DL.neg_int, DL.int_int, DL.atI_nat, DL.atI_zero, DL.atI_one, DL.atI_two, DL.atI_three, DL.atI_succ, DL.atI_last, DL.cut_to, DL.cut_from, DL.cut_both, DL.cut_butlast, PySem.sizeLine_eq, DL.sum_nl, DL.sum_nt, DL.gSet, DL.gTupD, DL.gsCons, DL.gsNil, DL.ini, DL.setS, mul_int' (i := q) (j := 48271) (Or.inr (by decide)), mod_int' (j := 2147483647) (by decide)]) rfl rfl rfl
      have cge : ∀ bb : Bool, decide ((10 : Int) ^ 18 ≤ ns[p]) = bb → bin geD (gAny 3) (bin powD (kc (.int 10)) (kc (.int 18))) [.io (.lst [.lst (ns.map D.int), ni (p + 1), .int ((q * 48271 + ns[p] + 11) % 2147483647), .int k]), .sh (ni m), .un, .sh (.int ns[p])] = .ok (.bl bb) := fun bb hb =>
        bin_ok (f := gAny 3) (g := bin powD (kc (.int 10)) (kc (.int 18))) (r := [.io (.lst [.lst (ns.map D.int), ni (p + 1), .int ((q * 48271 + ns[p] + 11) % 2147483647), .int k]), .sh (ni m), .un, .sh (.int ns[p])]) (x := .int ns[p]) (y := .int (10 ^ 18)) (d := .bl bb) rfl (bin_ok (f := kc (.int 10)) (g := kc (.int 18)) (x := .int 10) (y := .int 18) rfl rfl pow18) (by rw [ge_int, hb])
      by_cases hc : (10 : Int) ^ 18 ≤ ns[p]
      · refine ⟨v, [.lst (ns.map D.int), ni (p + 1), .int ((q * 48271 + ns[p] + 11) % 2147483647), .int (ns[p] / (m : Int))], ?_, ⟨ns, p + 1, _, _, hn, rfl⟩, hv⟩
        refine fnIO_rt (r1 := [.sh (ni m), .un, .sh (.int ns[p])]) rfl (start ?_)
        refine seq_nx st2 (seq_nx (if_y (cond_p (b := true) ?_) (itm_ok (s := .io (.lst [.lst (ns.map D.int), ni (p + 1), .int ((q * 48271 + ns[p] + 11) % 2147483647), .int k])) (xs := [.lst (ns.map D.int), ni (p + 1), .int ((q * 48271 + ns[p] + 11) % 2147483647), .int k]) (d := .int (ns[p] / (m : Int))) (k := 3) (j := 3) (by simp (disch := first | omega | (simp; done) | (simp; omega)) [DL.withEnv, DL.tst, DL.tstE, DL.tru, DL.truE, DL.bin, DL.binE, DL.appN, DL.appNE, DL.aCons, DL.aNil, DL.aConsE, DL.kc, DL.itN, DL.itX, DL.un1, DL.notB, DL.orB, DL.andB, DL.notV, DL.andV, DL.orV, DL.ifV, DL.chn, DL.oNone, DL.oSome, DL.sl3, DL.mthV, DL.mkT, DL.mkTE, DL.mkL, DL.yesB, DL.gSh_eq, DL.gAny_eq, DL.gS_sh, DL.gA_sh, DL.gA_own, DL.gA_io, DL.ownL_eq, DL.oL_own, DL.oL_io, DL.put_own, DL.put_io, DL.bind_ok, DL.ofO_some, DL.at_ok, DL.ne_ok, DL.asB_bl', DL.asI_int', DL.tru_bl, DL.tru_int, DL.tru_lst, DL.len_tx, DL.len_lst, DL.len_tup, DL.ix_tx, DL.ix_lst, DL.ix_tup, DL.sl_tx, DL.sl_lst, DL.sl_tup, DL.plus_tx, DL.plus_int, DL.plus_lst, DL.plus_tup, DL.cat_lst, DL.rep_lst1, DL.zD_tx, DL.zD_lst, DL.zD_tup, DL.rev_tx, DL.en_tx, DL.asStr_tx, DL.tup_lst, DL.lst_tup, DL.isi_tx, DL.isi_int, DL.isi_intb, DL.isi_tt, DL.isi_lt, DL.sub_int', DL.add_ip, DL.sub_ip, DL.mul_int', DL.lt_int, DL.gt_int, DL.ge_int, DL.le_int, DL.eq_int, DL.ne_int, DL.eq_tx, DL.ne_tx, DL.isn_int, DL.isn_non, DL.isb, DL.neg_int, DL.int_int, DL.atI_nat, DL.atI_zero, DL.atI_one, DL.atI_two, DL.atI_three, DL.atI_succ, DL.atI_last, DL.cut_to, DL.cut_from, DL.cut_both, DL.cut_butlast, PySem.sizeLine_eq, DL.sum_nl, DL.sum_nt, DL.gSet, DL.gTupD, DL.gsCons, DL.gsNil, DL.ini, DL.setS, fdiv_int' m1]) rfl rfl rfl)) (ret_p (by simp (disch := first | omega | (simp; done) | (simp; omega)) [DL.withEnv, DL.tst, DL.tstE, DL.tru, DL.truE, DL.bin, DL.binE, DL.appN, DL.appNE, DL.aCons, DL.aNil, DL.aConsE, DL.kc, DL.itN, DL.itX, DL.un1, DL.notB, DL.orB, DL.andB, DL.notV, DL.andV, DL.orV, DL.ifV, DL.chn, DL.oNone, DL.oSome, DL.sl3, DL.mthV, DL.mkT, DL.mkTE, DL.mkL, DL.yesB, DL.gSh_eq, DL.gAny_eq, DL.gS_sh, DL.gA_sh, DL.gA_own, DL.gA_io, DL.ownL_eq, DL.oL_own, DL.oL_io, DL.put_own, DL.put_io, DL.bind_ok, DL.ofO_some, DL.at_ok, DL.ne_ok, DL.asB_bl', DL.asI_int', DL.tru_bl, DL.tru_int, DL.tru_lst, DL.len_tx, DL.len_lst, DL.len_tup, DL.ix_tx, DL.ix_lst, DL.ix_tup, DL.sl_tx, DL.sl_lst, DL.sl_tup, DL.plus_tx, DL.plus_int, DL.plus_lst, DL.plus_tup, DL.cat_lst, DL.rep_lst1, DL.zD_tx, DL.zD_lst, DL.zD_tup, DL.rev_tx, DL.en_tx, DL.asStr_tx, DL.tup_lst, DL.lst_tup, DL.isi_tx, DL.isi_int, DL.isi_intb, DL.isi_tt, DL.isi_lt, DL.sub_int', DL.add_ip, DL.sub_ip, DL.mul_int', DL.lt_int, DL.gt_int, DL.ge_int, DL.le_int, DL.eq_int, DL.ne_int, DL.eq_tx, DL.ne_tx, DL.isn_int, DL.isn_non, DL.isb, DL.neg_int, DL.int_int, DL.atI_nat, DL.atI_zero, DL.atI_one, DL.atI_two, DL.atI_three, DL.atI_succ, DL.atI_last, DL.cut_to, DL.cut_from, DL.cut_both, DL.cut_butlast, PySem.sizeLine_eq, DL.sum_nl, DL.sum_nt, DL.gSet, DL.gTupD, DL.gsCons, DL.gsNil, DL.ini, DL.setS, mod_int' m0, ev])))
        exact congrArg (fun z => z.bind fun d => R.ofO (asB d)) (cge _ (decide_eq_true hc))
      · refine ⟨v, [.lst (ns.map D.int), ni (p + 1), .int ((q * 48271 + ns[p] + 11) % 2147483647), .int k], ?_, ⟨ns, p + 1, _, _, hn, rfl⟩, hv⟩
        refine fnIO_rt (r1 := [.sh (ni m), .un, .sh (.int ns[p])]) rfl (start ?_)
        refine seq_nx st2 (seq_nx (if_n (cond_p (b := false) ?_) rfl) (ret_p (by simp (disch := first | omega | (simp; done) | (simp; omega)) [DL.withEnv, DL.tst, DL.tstE, DL.tru, DL.truE, DL.bin, DL.binE, DL.appN, DL.appNE, DL.aCons, DL.aNil, DL.aConsE, DL.kc, DL.itN, DL.itX, DL.un1, DL.notB, DL.orB, DL.andB, DL.notV, DL.andV, DL.orV, DL.ifV, DL.chn, DL.oNone, DL.oSome, DL.sl3, DL.mthV, DL.mkT, DL.mkTE, DL.mkL, DL.yesB, DL.gSh_eq, DL.gAny_eq, DL.gS_sh, DL.gA_sh, DL.gA_own, DL.gA_io, DL.ownL_eq, DL.oL_own, DL.oL_io, DL.put_own, DL.put_io, DL.bind_ok, DL.ofO_some, DL.at_ok, DL.ne_ok, DL.asB_bl', DL.asI_int', DL.tru_bl, DL.tru_int, DL.tru_lst, DL.len_tx, DL.len_lst, DL.len_tup, DL.ix_tx, DL.ix_lst, DL.ix_tup, DL.sl_tx, DL.sl_lst, DL.sl_tup, DL.plus_tx, DL.plus_int, DL.plus_lst, DL.plus_tup, DL.cat_lst, DL.rep_lst1, DL.zD_tx, DL.zD_lst, DL.zD_tup, DL.rev_tx, DL.en_tx, DL.asStr_tx, DL.tup_lst, DL.lst_tup, DL.isi_tx, DL.isi_int, DL.isi_intb, DL.isi_tt, DL.isi_lt, DL.sub_int', DL.add_ip, DL.sub_ip, DL.mul_int', DL.lt_int, DL.gt_int, DL.ge_int, DL.le_int, DL.eq_int, DL.ne_int, DL.eq_tx, DL.ne_tx, DL.isn_int, DL.isn_non, DL.isb, DL.neg_int, DL.int_int, DL.atI_nat, DL.atI_zero, DL.atI_one, DL.atI_two, DL.atI_three, DL.atI_succ, DL.atI_last, DL.cut_to, DL.cut_from, DL.cut_both, DL.cut_butlast, PySem.sizeLine_eq, DL.sum_nl, DL.sum_nt, DL.gSet, DL.gTupD, DL.gsCons, DL.gsNil, DL.ini, DL.setS, mod_int' m0, ev])))
        exact congrArg (fun z => z.bind fun d => R.ofO (asB d)) (cge _ (decide_eq_false hc))
theorem film_many {row : List D} {most many : Nat} (h : RowOk row) (h1 : 0 < most) (h2 : most ≤ 200) (h3 : 0 < many) (h4 : many ≤ 8) : ∃ (f : List Nat) (row' : List D), F__law_film row [ni most, ni many] = .ok (tx f, row') ∧ RowOk row' ∧ f ≠ [] ∧ f.length ≤ most ∧ ∀ c ∈ f, 97 ≤ c ∧ c < 97 + many := by
  obtain ⟨n, row1, e1, hr1, hn⟩ := taken_ok h h1 (by omega)
  obtain ⟨r', e, f, row', x, er, hr, hf, hl⟩ := for_inv (g := gSet 4) (b := setS 3 (binE plusD (withEnv (gSh 3)) (binE ixD (withEnv (kc (.str "abcdefgh"))) (callIO 0 1 F__law_taken (withEnv (aCons (gSh 2) aNil))))))
    (items := rngL 0 (1 + n)) (r := [.io (.lst row1), .sh (ni most), .sh (ni many), .sh (tx []), .un]) (fun i r => ∃ f row' x, r = [.io (.lst row'), .sh (ni most), .sh (ni many), .sh (tx f), x] ∧ RowOk row' ∧ f.length = i ∧ ∀ c ∈ f, 97 ≤ c ∧ c < 97 + many)
    ⟨[], row1, .un, rfl, hr1, rfl, fun c hc => nomatch hc⟩ (fun i x r e hI => by
      obtain ⟨f, row2, y, er, hr2, hf, hl⟩ := hI
      obtain ⟨hi, ex⟩ := rng_get 0 (1 + n) i x e
      subst er
      obtain ⟨v, row3, e3, hr3, hv⟩ := taken_ok hr2 h3 (by omega)
      have hv8 : v < [97, 98, 99, 100, 101, 102, 103, 104].length := by
        show v < 8
        omega
      have c1 : callIO 0 1 F__law_taken (withEnv (aCons (gSh 2) aNil)) [.io (.lst row2), .sh (ni most), .sh (ni many), .sh (tx f), .sh x] = .ok (ni v, [.io (.lst row3), .sh (ni most), .sh (ni many), .sh (tx f), .sh x]) := callIO_ok (s := .io (.lst row2)) (row := row2) (ds := [ni many]) rfl (wx rfl) rfl e3
      have g1 : [97, 98, 99, 100, 101, 102, 103, 104][v]? = some ([97, 98, 99, 100, 101, 102, 103, 104][v]) := List.getElem?_eq_getElem hv8
      have g2 : 97 ≤ [97, 98, 99, 100, 101, 102, 103, 104][v] ∧ [97, 98, 99, 100, 101, 102, 103, 104][v] < 97 + many := by
        have : v = 0 ∨ v = 1 ∨ v = 2 ∨ v = 3 ∨ v = 4 ∨ v = 5 ∨ v = 6 ∨ v = 7 := by omega
        rcases this with z | z | z | z | z | z | z | z <;> subst z <;> simp <;> omega
      generalize [97, 98, 99, 100, 101, 102, 103, 104][v] = w at g1 g2
      have hfl : f.length ≤ 200 := by omega
      have c2 : ixD (.str "abcdefgh") (ni v) = some (tx [w]) := by
        rw [abc, ix_tx (by decide), atI_nat, g1]
        rfl
      refine ⟨_, [.io (.lst row3), .sh (ni most), .sh (ni many), .sh (tx (f ++ [w])), .sh x], rfl, ?_, f ++ [w], row3, .sh x, rfl, hr3, by rw [List.length_append, List.length_singleton, hf], fun c hc => ?_⟩
      · refine set_e (d := tx (f ++ [w])) (r1 := [.io (.lst row3), .sh (ni most), .sh (ni many), .sh (tx f), .sh x]) ?_
        simp (disch := first | omega | (simp; done) | (simp; omega)) [DL.withEnv, DL.tst, DL.tstE, DL.tru, DL.truE, DL.bin, DL.binE, DL.appN, DL.appNE, DL.aCons, DL.aNil, DL.aConsE, DL.kc, DL.itN, DL.itX, DL.un1, DL.notB, DL.orB, DL.andB, DL.notV, DL.andV, DL.orV, DL.ifV, DL.chn, DL.oNone, DL.oSome, DL.sl3, DL.mthV, DL.mkT, DL.mkTE, DL.mkL, DL.yesB, DL.gSh_eq, DL.gAny_eq, DL.gS_sh, DL.gA_sh, DL.gA_own, DL.gA_io, DL.ownL_eq, DL.oL_own, DL.oL_io, DL.put_own, DL.put_io, DL.bind_ok, DL.ofO_some, DL.at_ok, DL.ne_ok, DL.asB_bl', DL.asI_int', DL.tru_bl, DL.tru_int, DL.tru_lst, DL.len_tx, DL.len_lst, DL.len_tup, DL.ix_tx, DL.ix_lst, DL.ix_tup, DL.sl_tx, DL.sl_lst, DL.sl_tup, DL.plus_tx, DL.plus_int, DL.plus_lst, DL.plus_tup, DL.cat_lst, DL.rep_lst1, DL.zD_tx, DL.zD_lst, DL.zD_tup, DL.rev_tx, DL.en_tx, DL.asStr_tx, DL.tup_lst, DL.lst_tup, DL.isi_tx, DL.isi_int, DL.isi_intb, DL.isi_tt, DL.isi_lt, DL.sub_int', DL.add_ip, DL.sub_ip, DL.mul_int', DL.lt_int, DL.gt_int, DL.ge_int, DL.le_int, DL.eq_int, DL.ne_int, DL.eq_tx, DL.ne_tx, DL.isn_int, DL.isn_non, DL.isb, DL.neg_int, DL.int_int, DL.atI_nat, DL.atI_zero, DL.atI_one, DL.atI_two, DL.atI_three, DL.atI_succ, DL.atI_last, DL.cut_to, DL.cut_from, DL.cut_both, DL.cut_butlast, PySem.sizeLine_eq, DL.sum_nl, DL.sum_nt, DL.gSet, DL.gTupD, DL.gsCons, DL.gsNil, DL.ini, DL.setS, c1, c2]
      · rcases List.mem_append.mp hc with z | z
        · exact hl c z
        · rw [List.mem_singleton.mp z]
          exact g2)
  rw [rngL_length] at hf
  refine ⟨f, row', ?_, hr, ?_, by omega, hl⟩
  · subst er
    refine fnIO_rt (r1 := [.sh (ni most), .sh (ni many), .sh (tx f), x]) rfl (show b__law_film [.io (.lst row), .sh (ni most), .sh (ni many), .un, .un] = _ from ?_)
    unfold b__law_film
    refine seq_nx (r1 := [.io (.lst row), .sh (ni most), .sh (ni many), .sh (tx []), .un]) (set_p rfl) ?_
    refine seq_nx (for_st (r1 := [.io (.lst row1), .sh (ni most), .sh (ni many), .sh (tx []), .un]) ?_ e) (ret_p rfl)
    have c1 : callIO 0 1 F__law_taken (withEnv (aCons (gSh 1) aNil)) [.io (.lst row), .sh (ni most), .sh (ni many), .sh (tx []), .un] = .ok (ni n, [.io (.lst row1), .sh (ni most), .sh (ni many), .sh (tx []), .un]) := callIO_ok (s := .io (.lst row)) (row := row) (ds := [ni most]) rfl (wx rfl) rfl e1
    have c2 : aConsE (binE plusD (withEnv (kc (.int 1))) (callIO 0 1 F__law_taken (withEnv (aCons (gSh 1) aNil)))) (withEnv aNil) [.io (.lst row), .sh (ni most), .sh (ni many), .sh (tx []), .un] = .ok ([ni (1 + n)], [.io (.lst row1), .sh (ni most), .sh (ni many), .sh (tx []), .un]) := by
      simp (disch := first | omega | (simp; done) | (simp; omega)) [DL.withEnv, DL.tst, DL.tstE, DL.tru, DL.truE, DL.bin, DL.binE, DL.appN, DL.appNE, DL.aCons, DL.aNil, DL.aConsE, DL.kc, DL.itN, DL.itX, DL.un1, DL.notB, DL.orB, DL.andB, DL.notV, DL.andV, DL.orV, DL.ifV, DL.chn, DL.oNone, DL.oSome, DL.sl3, DL.mthV, DL.mkT, DL.mkTE, DL.mkL, DL.yesB, DL.gSh_eq, DL.gAny_eq, DL.gS_sh, DL.gA_sh, DL.gA_own, DL.gA_io, DL.ownL_eq, DL.oL_own, DL.oL_io, DL.put_own, DL.put_io, DL.bind_ok, DL.ofO_some, DL.at_ok, DL.ne_ok, DL.asB_bl', DL.asI_int', DL.tru_bl, DL.tru_int, DL.tru_lst, DL.len_tx, DL.len_lst, DL.len_tup, DL.ix_tx, DL.ix_lst, DL.ix_tup, DL.sl_tx, DL.sl_lst, DL.sl_tup, DL.plus_tx, DL.plus_int, DL.plus_lst, DL.plus_tup, DL.cat_lst, DL.rep_lst1, DL.zD_tx, DL.zD_lst, DL.zD_tup, DL.rev_tx, DL.en_tx, DL.asStr_tx, DL.tup_lst, DL.lst_tup, DL.isi_tx, DL.isi_int, DL.isi_intb, DL.isi_tt, DL.isi_lt, DL.sub_int', DL.add_ip, DL.sub_ip, DL.mul_int', DL.lt_int, DL.gt_int, DL.ge_int, DL.le_int, DL.eq_int, DL.ne_int, DL.eq_tx, DL.ne_tx, DL.isn_int, DL.isn_non, DL.isb, DL.neg_int, DL.int_int, DL.atI_nat, DL.atI_zero, DL.atI_one, DL.atI_two, DL.atI_three, DL.atI_succ, DL.atI_last, DL.cut_to, DL.cut_from, DL.cut_both, DL.cut_butlast, PySem.sizeLine_eq, DL.sum_nl, DL.sum_nt, DL.gSet, DL.gTupD, DL.gsCons, DL.gsNil, DL.ini, DL.setS, c1]
    unfold itR1
    rw [c2]
    simp only [bind_ok]
    rw [if_pos (by omega)]
    congr 3
  · intro z
    rw [z] at hf
    simp at hf
    omega
/-! _law_drawn -/
def Pairs (now : List Nat) (xs : List D) : Prop := ∀ d ∈ xs, ∃ a b : Nat, d = .tup [ni a, ni b] ∧ a < b ∧ b < now.length ∧ now[a]? = now[b]?
/-- now comes from F by cuts -/
def From (F now : List Nat) : Prop := now ≠ [] ∧ now.length ≤ F.length ∧ (∀ c ∈ now, c ∈ F) ∧ ∀ g, 0 < W g now → 0 < W g F
end LW

end
section
namespace LW
open PySem DL PT

/-! find -/
def Hit (s sub : Str) (hi i : Nat) : Prop := i + sub.length ≤ hi ∧ Builtin.Str.subAt s sub i = true
theorem occ_stay (s sub : Str) (hi : Nat) : ∀ (l : List Nat) (k f : Nat), (forIn l ((#[k] : Array Nat), f) (StrLaws.occBody s sub hi 1)).run.fst = #[k]
  | [], k, f => rfl
  | a :: l, k, f => by
    rw [List.forIn_cons]
    unfold StrLaws.occBody
    rw [if_neg (fun h => by have := h.1.1.1; simp at this)]
    exact occ_stay s sub hi l k f
theorem occ_first (s sub : Str) (hi : Nat) : ∀ (l : List Nat) (f : Nat), (∀ i ∈ l, f ≤ i) → l.Pairwise (· < ·) → ∀ e ∈ l, Hit s sub hi e →
    ∃ k, k ∈ l ∧ Hit s sub hi k ∧ k ≤ e ∧ (forIn l ((#[] : Array Nat), f) (StrLaws.occBody s sub hi 1)).run.fst = #[k]
  | [], f, hf, hp, e, he, h => nomatch he
  | a :: l, f, hf, hp, e, he, h => by
    by_cases ha : Hit s sub hi a
    · refine ⟨a, List.mem_cons_self .., ha, ?_, ?_⟩
      · rcases List.mem_cons.mp he with z | z
        · exact Nat.le_of_eq z.symm
        · exact Nat.le_of_lt (List.rel_of_pairwise_cons hp z)
      · rw [List.forIn_cons]
        unfold StrLaws.occBody
        rw [if_pos ⟨⟨⟨by simp, hf a (List.mem_cons_self ..)⟩, ha.1⟩, ha.2⟩]
        exact occ_stay s sub hi l a _
    · have he2 : e ∈ l := by
        rcases List.mem_cons.mp he with z | z
        · rw [z] at h
          exact absurd h ha
        · exact z
      obtain ⟨k, h1, h2, h3, h4⟩ := occ_first s sub hi l f (fun i hi => hf i (List.mem_cons_of_mem _ hi)) (List.Pairwise.of_cons hp) e he2 h
      refine ⟨k, List.mem_cons_of_mem _ h1, h2, h3, ?_⟩
      rw [List.forIn_cons]
      unfold StrLaws.occBody
      rw [if_neg (fun h => ha ⟨h.1.2, h.2⟩)]
      exact h4
theorem hit_two (F : List Nat) (c d i : Nat) : Hit (mkS F) (mkS [c, d]) F.length i ↔ F[i]? = some c ∧ F[i + 1]? = some d := by
  unfold Hit
  rw [StrLaws.subAt_eq]
  show (i + 2 ≤ F.length ∧ ((F.drop i).take 2 == [c, d]) = true) ↔ _
  have e1 : F[i]? = (F.drop i)[0]? := by rw [List.getElem?_drop]; rfl
  have e2 : F[i + 1]? = (F.drop i)[1]? := by rw [List.getElem?_drop]
  rw [e1, e2, beq_iff_eq]
  have hl : (F.drop i).length = F.length - i := List.length_drop
  cases q : F.drop i with
  | nil => simp
  | cons a t =>
    cases t with
    | nil => simp
    | cons b t =>
      rw [q] at hl
      simp only [List.length_cons] at hl
      simp
      omega
theorem find_ok {F : List Nat} {c d s e : Nat} (hs : s ≤ e) (h1 : F[e]? = some c) (h2 : F[e + 1]? = some d) : ∃ k : Nat, Txt.find3 (mkS F) (mkS [c, d]) (s : Nat) = (k : Int) ∧ s ≤ k ∧ k ≤ e ∧ F[k]? = some c ∧ F[k + 1]? = some d := by
  have hel : e + 1 < F.length := (List.getElem?_eq_some_iff.mp h2).1
  have fi : fromIndex (mkS F).length (s : Int) = s := by
    unfold fromIndex
    rw [if_neg (by omega)]
    omega
  obtain ⟨k, k1, k2, k3, k4⟩ := occ_first (mkS F) (mkS [c, d]) F.length (List.range' s (F.length + 1 - s)) s (fun i hi => (List.mem_range'_1.mp hi).1) (List.pairwise_lt_range' ..) e (List.mem_range'_1.mpr ⟨hs, by omega⟩) ((hit_two F c d e).mpr ⟨h1, h2⟩)
  have k5 := (hit_two F c d k).mp k2
  refine ⟨k, ?_, (List.mem_range'_1.mp k1).1, k3, k5.1, k5.2⟩
  unfold Txt.find3
  rw [fi, StrLaws.occ_eq]
  show (match (forIn (List.range' s (F.length + 1 - s)) ((#[] : Array Nat), s) (StrLaws.occBody (mkS F) (mkS [c, d]) F.length 1)).run.fst.toList with | k :: _ => (k : Int) | [] => -1) = _
  rw [k4]
/-! ends -/
def Alive (F g : List Nat) (k s : Nat) : Prop := ∃ t, s ≤ t ∧ 0 < W (g.drop k) (F.drop t)
def Good (F g : List Nat) (st : List Nat) : Prop := ∀ k s, st[k]? = some s → F[s]? = g[k]? ∧ 0 < W (g.take k) (F.take s)
end LW

end
section
namespace LW
open PySem DL PT
/-! ### earliest_starts, exactly -/
theorem occ_none (s sub : Str) (hi : Nat) : ∀ (l : List Nat) (f : Nat), (∀ e ∈ l, ¬ Hit s sub hi e) → (forIn l ((#[] : Array Nat), f) (StrLaws.occBody s sub hi 1)).run.fst = #[]
  | [], f, _ => rfl
  | a :: l, f, h => by
    rw [List.forIn_cons]
    unfold StrLaws.occBody
    rw [if_neg (fun z => h a (List.mem_cons_self ..) ⟨z.1.2, z.2⟩)]
    exact occ_none s sub hi l f fun e he => h e (List.mem_cons_of_mem _ he)
theorem find_none {F : List Nat} {c d s : Nat} (hs : s ≤ F.length) (h : ∀ e, s ≤ e → ¬ (F[e]? = some c ∧ F[e + 1]? = some d)) : Txt.find3 (mkS F) (mkS [c, d]) (s : Nat) = -1 := by
  have fi : fromIndex (mkS F).length (s : Int) = s := by
    unfold fromIndex
    rw [if_neg (by omega)]
    omega
  have k := occ_none (mkS F) (mkS [c, d]) F.length (List.range' s (F.length + 1 - s)) s (fun e he z => h e (List.mem_range'_1.mp he).1 ((hit_two F c d e).mp z))
  unfold Txt.find3
  rw [fi, StrLaws.occ_eq]
  show (match (forIn (List.range' s (F.length + 1 - s)) ((#[] : Array Nat), s) (StrLaws.occBody (mkS F) (mkS [c, d]) F.length 1)).run.fst.toList with | k :: _ => (k : Int) | [] => -1) = _
  rw [k]
theorem Lst_head {F g : List Nat} (hF : F ≠ []) (hg : g ≠ []) (h : F[0]? = g[0]?) : Lst F g 0 0 :=
  ⟨(S_zero hF).mpr ⟨rfl, List.length_pos_iff.mpr hg, h⟩, fun _ _ => Nat.zero_le _⟩
theorem starts_exact {F g : List Nat} (hF : Film F) (hg : Film g) : ∃ st : List Nat, F_earliest_starts [tx F, tx g] = .ok (.lst (st.map ni)) ∧ Starts F g st := by
  have hFl := hF.2.1
  have hgl := hg.2.1
  have hg0 : 0 < g.length := List.length_pos_iff.mpr hg.1
  have hF0 : 0 < F.length := List.length_pos_iff.mpr hF.1
  have g0 : g[0]? = some g[0] := List.getElem?_eq_getElem hg0
  have f0 : F[0]? = some F[0] := List.getElem?_eq_getElem hF0
  by_cases hc : F[0] = g[0]
  · obtain ⟨r', e, hI⟩ := for_invB (g := gSet 3) (b := seqS (setS 4 (withEnv (mthV find3D (gAny 0) (aCons (sl3 slA (gAny 1) (oSome (bin subD (gAny 3) (kc (.int 1)))) (oSome (bin plusD (gAny 3) (kc (.int 1))))) (aCons (bin ixD (gAny 2) (un1 negD (kc (.int 1)))) aNil))))) (seqS (ifS (withEnv (tst (bin ltD (gAny 4) (kc (.int 0))))) brkS skipS) (appS 2 (bin plusD (gAny 4) (kc (.int 1))))))
      (items := rngL 1 (g.length - 1)) (r := [.sh (tx F), .sh (tx g), .own (.lst [ni 0]), .un, .un]) (fun i r => ∃ st x y, r = [.sh (tx F), .sh (tx g), .own (.lst (st.map ni)), x, y] ∧ st.length = i + 1 ∧ ∀ j s, st[j]? = some s → Lst F g j s)
      (fun r => ∃ st x y, r = [.sh (tx F), .sh (tx g), .own (.lst (st.map ni)), x, y] ∧ Starts F g st)
      ⟨[0], .un, .un, rfl, rfl, fun j s hj => by
        cases j with
        | zero => cases hj; exact Lst_head hF.1 hg.1 (by rw [f0, g0, hc])
        | succ j => simp at hj⟩ (fun i x r e hI => by
        obtain ⟨st, y, z, er, hl, hst⟩ := hI
        obtain ⟨hi, ex⟩ := rng_get (1 : Nat) (g.length - 1) i x e
        have ex2 : x = ni (i + 1) := by
          rw [ex]
          congr 1
          omega
        subst er ex2
        have gi : g[i]? = some g[i] := List.getElem?_eq_getElem (by omega)
        have gi1 : g[i + 1]? = some g[i + 1] := List.getElem?_eq_getElem (by omega)
        have hsi : st[i]? = some (st[i]'(by omega)) := List.getElem?_eq_getElem (by omega)
        generalize st[i]'(by omega) = s at hsi
        have hls := hst i s hsi
        have hsl := S_lt hls.1
        have sl : cutL g (some (((i + 1 : Nat) : Int) - 1)) (some (((i + 1 : Nat) : Int) + 1)) = [g[i], g[i + 1]] := by
          have a1 : (((i + 1 : Nat) : Int) - 1) = (i : Int) := by omega
          have a2 : (((i + 1 : Nat) : Int) + 1) = ((i + 2 : Nat) : Int) := by omega
          rw [a1, a2, cut_both, List.drop_take]
          have a3 : i + 2 - i = 2 := by omega
          rw [a3, List.drop_eq_getElem_cons (by omega : i < g.length), List.drop_eq_getElem_cons (by omega : i + 1 < g.length)]
          rfl
        have lm : (st.map ni).getLast? = some (ni s) := by
          rw [List.getLast?_map, List.getLast?_eq_getElem?, hl, Nat.add_sub_cancel, hsi]
          rfl
        generalize hcg : g[i] = c at gi sl
        generalize hdg : g[i + 1] = d at gi1 sl
        have stl : (st.map ni).length < 1000000 := by rw [List.length_map]; omega
        by_cases hex : ∃ e, s ≤ e ∧ F[e]? = some c ∧ F[e + 1]? = some d
        · obtain ⟨e0, q1, q2, q3⟩ := hex
          obtain ⟨k, k1, k2, k3, k4, k5⟩ := find_ok q1 q2 q3
          have k0 : find3D (mkS F) [tx [c, d], ni s] = some (ni k) := congrArg (fun z => some (D.int z)) k1
          have hk : ¬ (k : Int) < 0 := by omega
          have t1 : (st ++ [k + 1]).map ni = st.map ni ++ [.int ((k : Int) + 1)] := by simp
          refine ⟨[.sh (tx F), .sh (tx g), .own (.lst (st.map ni)), .sh (ni (i + 1)), z], [.sh (tx F), .sh (tx g), .own (.lst ((st ++ [k + 1]).map ni)), .sh (ni (i + 1)), .sh (ni k)], rfl, .inl ⟨?_, st ++ [k + 1], _, _, rfl, by rw [List.length_append, List.length_singleton, hl], fun j sj hj => ?_⟩⟩
          · rw [t1]
            wide_open with ((), sl, lm, k0, hk)
          · by_cases hji : j < st.length
            · rw [List.getElem?_append_left hji] at hj
              exact hst j sj hj
            · rw [List.getElem?_append_right (by omega)] at hj
              have hj0 : j - st.length = 0 := by
                have := (List.getElem?_eq_some_iff.mp hj).1
                simpa using this
              rw [hj0] at hj
              cases hj
              have hj1 : j = i + 1 := by omega
              subst hj1
              refine ⟨(S_from hls).mpr ⟨k2, by omega, by rw [k4, gi], by rw [k5, gi1]⟩, fun s' hs' => ?_⟩
              obtain ⟨p, ep, _⟩ := S_succ.mp hs'
              subst ep
              obtain ⟨a1, a2, a3, a4⟩ := (S_from hls).mp hs'
              obtain ⟨k', b1, b2, b3, b4, b5⟩ := find_ok a1 (by rw [a3, gi]) (by rw [a4, gi1])
              have : k' = k := by rw [k1] at b1; omega
              omega
        · have k0 : find3D (mkS F) [tx [c, d], ni s] = some (.int (-1)) := congrArg (fun z => some (D.int z)) (find_none (by omega) fun e he z => hex ⟨e, he, z.1, z.2⟩)
          refine ⟨[.sh (tx F), .sh (tx g), .own (.lst (st.map ni)), .sh (ni (i + 1)), z], [.sh (tx F), .sh (tx g), .own (.lst (st.map ni)), .sh (ni (i + 1)), .sh (.int (-1))], rfl, .inr ⟨?_, st, _, _, rfl, by omega, hst, fun _ s' hs' => ?_⟩⟩
          · wide_open with ((), sl, lm, k0)
          · rw [hl] at hs'
            obtain ⟨p, ep, _⟩ := S_succ.mp hs'
            subst ep
            obtain ⟨a1, a2, a3, a4⟩ := (S_from hls).mp hs'
            exact hex ⟨p, a1, by rw [a3, gi], by rw [a4, gi1]⟩)
    have hI2 : ∃ st x y, r' = [.sh (tx F), .sh (tx g), .own (.lst (st.map ni)), x, y] ∧ Starts F g st := by
      rcases hI with ⟨st, x, y, er, hl, hst⟩ | h
      · rw [rngL_length] at hl
        exact ⟨st, x, y, er, by omega, hst, fun h => by omega⟩
      · exact h
    obtain ⟨st, x, y, er, hst⟩ := hI2
    subst er
    refine ⟨st, ?_, hst⟩
    refine fnD_rt (r1 := [.sh (tx F), .sh (tx g), .sh (.lst (st.map ni)), x, y]) rfl (show b_earliest_starts [.sh (tx F), .sh (tx g), .un, .un, .un] = _ from ?_)
    have t1 : ((g.length : Int) - 1).toNat = g.length - 1 := by omega
    have e' : forD (gSet 3) (seqS (setS 4 (withEnv (mthV find3D (gAny 0) (aCons (sl3 slA (gAny 1) (oSome (bin subD (gAny 3) (kc (.int 1)))) (oSome (bin plusD (gAny 3) (kc (.int 1))))) (aCons (bin ixD (gAny 2) (un1 negD (kc (.int 1)))) aNil))))) (seqS (ifS (withEnv (tst (bin ltD (gAny 4) (kc (.int 0))))) brkS skipS) (appS 2 (bin plusD (gAny 4) (kc (.int 1)))))) (rngL 1 (g.length - 1)) [.sh (tx F), .sh (tx g), .own (.lst [.int 0]), .un, .un] = _ := e
    unfold b_earliest_starts
    wide_open with ((), f0, g0, hc, t1, e')
  · refine ⟨[], ?_, Nat.zero_le _, fun j s hj => by simp at hj, fun _ s hs => ?_⟩
    · refine fnD_rt (r1 := [.sh (tx F), .sh (tx g), .un, .un, .un]) rfl (show b_earliest_starts [.sh (tx F), .sh (tx g), .un, .un, .un] = _ from ?_)
      unfold b_earliest_starts
      wide_open with ((), f0, g0, hc)
    · have := ((S_zero hF.1).mp hs).2.2
      rw [f0, g0] at this
      exact hc (Option.some.inj this)
theorem comes_to_ok {F g : List Nat} (hF : Film F) (hg : Film g) : F_comes_to [tx F, tx g] = .ok (.bl (decide (0 < W g F))) := by
  obtain ⟨st, e, hst⟩ := starts_exact hF hg
  have hFl := hF.2.1
  have hgl := hg.2.1
  have hi := comes_iff hF.1 hg.1 hst
  have hg0 : 0 < g.length := List.length_pos_iff.mpr hg.1
  have hF0 : 0 < F.length := List.length_pos_iff.mpr hF.1
  have f1 : F.getLast? = some (F.getLast hF.1) := List.getLast?_eq_some_getLast hF.1
  have g1 : g.getLast? = some (g.getLast hg.1) := List.getLast?_eq_some_getLast hg.1
  rw [f1, g1] at hi
  generalize F.getLast hF.1 = a at f1 hi
  generalize g.getLast hg.1 = b at g1 hi
  refine fnD_rt (r1 := [.sh (tx F), .sh (tx g)]) rfl (show b_comes_to [.sh (tx F), .sh (tx g)] = _ from ?_)
  unfold b_comes_to
  by_cases hc : a = b
  · have hd : decide (0 < W g F) = decide ((st.length : Int) = (g.length : Int)) := by
      rw [Bool.eq_iff_iff, decide_eq_true_eq, decide_eq_true_eq, hi, hc]
      exact ⟨fun z => by omega, fun z => ⟨rfl, by omega⟩⟩
    rw [hd]
    wide_open with ((), f1, g1, hc, e)
  · have hd : decide (0 < W g F) = false := by
      rw [decide_eq_false_iff_not, hi]
      exact fun z => hc (Option.some.inj z.1)
    rw [hd]
    wide_open with ((), f1, g1, hc)
theorem comes_ok {F g : List Nat} (hF : Film F) (hg : Film g) : F_comes [tx F, tx g] = .ok (.bl (decide (0 < W g F))) := by
  refine fnD_rt (r1 := [.sh (tx F), .sh (tx g)]) rfl (show b_comes [.sh (tx F), .sh (tx g)] = _ from ?_)
  unfold b_comes
  wide_open with ((), check_film_ok hF, check_film_ok hg, comes_to_ok hF hg)
end LW

end
section
namespace LW
open PySem DL PT
/-! ### alike -/
end LW

end
section
namespace LW
open PySem DL PT
/-! ### all that one cut makes -/
def cutAt (f : List Nat) (a b : Nat) : List Nat := f.take (a + 1) ++ f.drop (b + 1)
end LW

end
section
namespace PT
/-! ### the place of a word -/
def Asc (R : List (List (Nat × Nat))) : Prop := ∀ v, ((R.getD v []).map (·.1)).Pairwise (· < ·)
theorem oR_asc {F : List Nat} : Asc (oR F) := fun v => by
  cases v with
  | zero => show (([(F.getD 0 0, 1)] : List (Nat × Nat)).map (·.1)).Pairwise (· < ·); simp
  | succ p =>
    by_cases h : p < F.length
    · rw [oR_row h]
      exact List.Pairwise.sublist (orow_fst F p) (List.pairwise_lt_range' ..)
    · rw [oR_beyond (by omega)]
      exact List.Pairwise.nil
theorem row_split {L : List (Nat × Nat)} (h : (L.map (·.1)).Pairwise (· < ·)) {p : Nat × Nat} (hp : p ∈ L) : ∃ L2, L = L.filter (fun x => decide (x.1 < p.1)) ++ p :: L2 := by
  obtain ⟨L1, L2, e⟩ := List.append_of_mem hp
  refine ⟨L2, ?_⟩
  have h1 : ∀ x ∈ L1, x.1 < p.1 := fun x hx => by
    rw [e, List.map_append, List.map_cons] at h
    exact (List.pairwise_append.mp h).2.2 x.1 (List.mem_map.mpr ⟨x, hx, rfl⟩) p.1 List.mem_cons_self
  have h2 : ∀ x ∈ L2, p.1 < x.1 := fun x hx => by
    rw [e, List.map_append, List.map_cons] at h
    exact (List.pairwise_cons.mp (List.pairwise_append.mp h).2.1).1 x.1 (List.mem_map.mpr ⟨x, hx, rfl⟩)
  have f : L.filter (fun x => decide (x.1 < p.1)) = L1 := by
    rw [e, List.filter_append, List.filter_cons_of_neg (by simp)]
    have a : L1.filter (fun x => decide (x.1 < p.1)) = L1 := List.filter_eq_self.mpr fun x hx => decide_eq_true (h1 x hx)
    have b : L2.filter (fun x => decide (x.1 < p.1)) = [] := List.filter_eq_nil_iff.mpr fun x hx => by have := h2 x hx; simp; omega
    rw [a, b, List.append_nil]
  rw [f]
  exact e
/-- where the words of a row's place stand -/
theorem wd_block {R : List (List (Nat × Nat))} {E : List Bool} (hU : Up R) {v : Nat} (hv : v < R.length) {L1 L2 : List (Nat × Nat)} {p : Nat × Nat} (e : R.getD v [] = L1 ++ p :: L2) {j : Nat} {x : List Nat} (hx : (wd R E p.2)[j]? = some x) :
    (wd R E v)[(if E.getD v false = true then 1 else 0) + (L1.map fun q => (wd R E q.2).length).sum + j]? = some (p.1 :: x) := by
  rw [wd_eq hU hv, e, List.flatMap_append, List.flatMap_cons]
  have l1 : ((if E.getD v false = true then [[]] else [] : List (List Nat))).length = if E.getD v false = true then 1 else 0 := by split <;> rfl
  have l2 : (L1.flatMap fun q => (wd R E q.2).map fun l => q.1 :: l).length = (L1.map fun q => (wd R E q.2).length).sum := by
    rw [flat_len]
    congr 1
    apply List.map_congr_left
    intro q _
    rw [List.length_map]
  have hj := (List.getElem?_eq_some_iff.mp hx).1
  rw [List.getElem?_append_right (by omega), l1, List.getElem?_append_right (by rw [l2]; omega), l2, List.getElem?_append_left (by rw [List.length_map]; omega)]
  have : (if E.getD v false = true then 1 else 0) + (L1.map fun q => (wd R E q.2).length).sum + j - (if E.getD v false = true then 1 else 0) - (L1.map fun q => (wd R E q.2).length).sum = j := by omega
  rw [this, List.getElem?_map, hx]
  rfl
end PT

end
section
namespace PT
/-! ### outcomes of unlike letters -/
def wD (R : List (List (Nat × Nat))) (E : List Bool) (p : Nat × List Nat) : List (List Nat) := ((wd R E p.1).filter fun u => decide ((p.2 ++ u).Nodup)).map fun u => p.2 ++ u
def TT : Nat → Nat
  | 0 => 1
  | j + 1 => 1 + (j + 1) * TT j
/-- a bound for the turns behind a word -/
def MD (p : Nat × List Nat) : Nat := if p.2 = [] then 1 + TT 7 else TT (8 - p.2.length)
end PT

end
section
namespace PT
/-! ### how many words of each length a graph has -/
def lc (R : List (List (Nat × Nat))) (E : List Bool) (s v : Nat) : Nat := ((wd R E v).filter fun w => decide (w.length = s)).length
/-! weighed sums of a table -/
def ws (f : Nat → Nat) : Nat → List Nat → Nat
  | _, [] => 0
  | k, t :: T => t * f k + ws f (k + 1) T
/-! counting like things -/
/-! ### a graph with some letters alone -/
def keepL (L : List Nat) (R : List (List (Nat × Nat))) : List (List (Nat × Nat)) := R.map fun r => r.filter fun p => decide (p.1 ∈ L)
/-! ### the words stand in order -/
theorem wds_asc {R : List (List (Nat × Nat))} {E : List Bool} (h : Asc R) : ∀ (f v : Nat), (wds R E f v).Pairwise (· < ·)
  | 0, v => .nil
  | f + 1, v => by
    have ih := wds_asc (E := E) h f
    have e2 : wds R E (f + 1) v = (if E.getD v false = true then [[]] else []) ++ ((R.getD v []).flatMap fun p => (wds R E f p.2).map fun l => p.1 :: l) := rfl
    have hr := h v
    rw [e2]
    generalize R.getD v [] = r at hr
    have fl : ∀ r : List (Nat × Nat), (r.map (·.1)).Pairwise (· < ·) → (r.flatMap fun p => (wds R E f p.2).map fun l => p.1 :: l).Pairwise (· < ·) := by
      intro r
      induction r with
      | nil => exact fun _ => .nil
      | cons p r ihr =>
        intro hr
        rw [List.map_cons] at hr
        obtain ⟨h1, h2⟩ := List.pairwise_cons.mp hr
        rw [List.flatMap_cons]
        refine List.pairwise_append.mpr ⟨List.Pairwise.map _ (fun a b hab => List.Lex.cons hab) (ih p.2), ihr h2, fun a ha b hb => ?_⟩
        obtain ⟨l, _, e1⟩ := List.mem_map.mp ha
        obtain ⟨q, hq, hb⟩ := List.mem_flatMap.mp hb
        obtain ⟨l', _, e2⟩ := List.mem_map.mp hb
        rw [← e1, ← e2]
        exact List.Lex.rel (h1 q.1 (List.mem_map.mpr ⟨q, hq, rfl⟩))
    refine List.pairwise_append.mpr ⟨by split <;> simp, fl r hr, fun a ha b hb => ?_⟩
    obtain ⟨q, _, hb⟩ := List.mem_flatMap.mp hb
    obtain ⟨l', _, e2⟩ := List.mem_map.mp hb
    split at ha
    · rw [List.mem_singleton.mp ha, ← e2]
      exact List.Lex.nil
    · cases ha
theorem ocs_asc (F : List Nat) : (ocs F).Pairwise (· < ·) := wds_asc oR_asc _ _
end PT

end
section
namespace DL
open PySem L2 PT
/-! ### sorted lists of films -/
def srtW (L : List (List Nat)) : List (List Nat) := (sortStr (L.map fun l => mkS l)).map fun s => s.cps.toList
/-- sorted({..}) of films -/
def srtU (L : List (List Nat)) : List (List Nat) := (sortStr (dedT (L.map fun l => mkS l))).map fun s => s.cps.toList
theorem srtU_D (L : List (List Nat)) : (sortStr (dedT (L.map fun l => mkS l))).map D.str = (srtU L).map fun l => tx l := by
  unfold srtU
  rw [List.map_map]
  rfl
theorem mem_srtU {L : List (List Nat)} {x : List Nat} : x ∈ srtU L ↔ x ∈ L := by
  have pm : (sortStr (dedT (L.map fun l => mkS l))).Perm (dedT (L.map fun l => mkS l)) := List.mergeSort_perm _ _
  unfold srtU
  rw [List.mem_map]
  constructor
  · rintro ⟨s, hs, e⟩
    obtain ⟨l, hl, es⟩ := List.mem_map.mp (mem_dedT.mp (pm.mem_iff.mp hs))
    rw [← e, ← es]
    exact hl
  · intro h
    exact ⟨mkS x, pm.mem_iff.mpr (mem_dedT.mpr (List.mem_map.mpr ⟨x, h, rfl⟩)), rfl⟩
end DL

end
section
namespace LW
open PySem DL PT
/-! ### all films to which a film comes -/
abbrev allB : DL.Env → DL.R Fl := ifS (withEnv (tst (bin (inA true) (gAny 4) (gAny 1)))) (seqS (putS 1 (gAny 4) (kc (.bl true))) (appS 2 (gSh 4))) skipS
def Reach (f h : List Nat) : Prop := ∀ g, 0 < W g h → 0 < W g f
theorem W_sub : ∀ {g f : List Nat}, 0 < W g f → g.Sublist f
  | [], f, _ => List.nil_sublist f
  | c :: g, f, h => by
    obtain ⟨_, u, v, e, hv⟩ := blk_pos.mp (show 0 < blk c (W g) f from h)
    rw [e]
    exact ((W_sub hv).cons_cons c).trans (List.sublist_append_right _ _)
end LW

end
section
namespace LW
open PySem DL PT
/-! the outcomes of a film -/
theorem okF_film {F : List Nat} (hF : Film F) : okF F = true := by
  unfold okF
  rw [decide_eq_true hF.1, decide_eq_true hF.2.1]
  exact List.all_eq_true.mpr fun c hc => decide_eq_true (hF.2.2 c hc)
theorem outcome_graph_ok {F : List Nat} (hF : Film F) : F_outcome_graph [tx F] = .ok (gD (oR F) (oE F)) := og_graph (okF_film hF)
theorem film_L8 {F : List Nat} (hF : Film F) : ∀ c ∈ F, c ∈ L8 := fun c hc => mem_L8.mpr (hF.2.2 c hc)
theorem ocs_mem {F : List Nat} (hF : Film F) {g : List Nat} : g ∈ ocs F ↔ 0 < W g F := wd_W hF.1 (film_L8 hF) g
theorem counts_og {F : List Nat} (hF : Film F) : F_counts_from [gD (oR F) (oE F)] = .ok (.lst ((csI (oR F) (oE F) (oR F).length).map ni)) :=
  counts_from_ok (oR_up hF.1) (by rw [oE_len, oR_len]) (by have := hF.2.1; rw [oR_len]; omega) oR_short
theorem count_words_og {F : List Nat} (hF : Film F) : F_count_words [gD (oR F) (oE F)] = .ok (ni (ocs F).length) := by
  have c := counts_og hF
  have g0 : ((csI (oR F) (oE F) (oR F).length).map ni)[0]? = some (ni (ocs F).length) := by
    rw [List.getElem?_map, csI_get (by rw [oR_len]; omega), if_pos (by omega)]
    rfl
  refine fnD_rt (r1 := [.sh (gD (oR F) (oE F))]) rfl (show b_count_words [.sh (gD (oR F) (oE F))] = _ from ?_)
  unfold b_count_words
  wide_open with ((), c, g0)
theorem count_outcomes_ok {F : List Nat} (hF : Film F) : F_count_outcomes [tx F] = .ok (ni (ocs F).length) := by
  refine fnD_rt (r1 := [.sh (tx F)]) rfl (show b_count_outcomes [.sh (tx F)] = _ from ?_)
  unfold b_count_outcomes
  wide_open with ((), check_film_ok hF, outcome_graph_ok hF, count_words_og hF)
end LW

end
section
namespace LW
open PySem DL PT
theorem get_rw : ∀ (r : List (Nat × Nat)) (c : Nat), getD_ (r.map fun p => ((.inr (mkS [p.1]) : L2.Key), ni p.2)) (.inr (mkS [c])) = (r.lookup c).map ni
  | [], c => rfl
  | p :: r, c => by
    have ih := get_rw r c
    unfold getD_ at ih ⊢
    rw [List.map_cons, List.find?_cons, List.lookup_cons]
    by_cases z : p.1 = c
    · have e1 : decide ((Sum.inr (mkS [p.1]) : L2.Key) = Sum.inr (mkS [c])) = true := decide_eq_true (by rw [z])
      have e2 : (c == p.1) = true := by rw [z]; exact beq_self_eq_true c
      simp only [e1, e2]
      rfl
    · have e1 : decide ((Sum.inr (mkS [p.1]) : L2.Key) = Sum.inr (mkS [c])) = false := decide_eq_false fun w => z (sg_inj (Sum.inr.inj w))
      have e2 : (c == p.1) = false := by simpa using Ne.symm z
      simp only [e1, e2]
      exact ih
theorem lookup_mem {r : List (Nat × Nat)} (h : (r.map (·.1)).Nodup) {p : Nat × Nat} (hp : p ∈ r) : r.lookup p.1 = some p.2 := by
  induction r with
  | nil => cases hp
  | cons q r ih =>
    rw [List.map_cons] at h
    obtain ⟨n1, n2⟩ := List.nodup_cons.mp h
    rw [List.lookup_cons]
    rcases List.mem_cons.mp hp with z | z
    · rw [z]
      simp
    · have : (p.1 == q.1) = false := by
        have : p.1 ≠ q.1 := fun w => n1 (by rw [← w]; exact List.mem_map.mpr ⟨p, z, rfl⟩)
        simpa using this
      rw [this]
      exact ih n2 z
theorem dget_rw {r : List (Nat × Nat)} (h : (r.map (·.1)).Nodup) {p : Nat × Nat} (hp : p ∈ r) : dgetD (rwX r) (tx [p.1]) = some (ni p.2) := by
  show getD_ _ (.inr (mkS [p.1])) = _
  rw [get_rw, lookup_mem h hp]
  rfl
theorem in_rw {r : List (Nat × Nat)} (h : (r.map (·.1)).Nodup) {p : Nat × Nat} (hp : p ∈ r) : inA true (tx [p.1]) (rwX r) = some (.bl false) := by
  show some (D.bl (!(getD_ _ (.inr (mkS [p.1]))).isSome)) = _
  rw [get_rw, lookup_mem h hp]
  rfl
theorem lt_sign (a b : Nat) : ltSD (tx [a]) (tx [b]) = some (.bl (decide (a < b))) := by
  show some (D.bl (decide ([a] < [b]))) = _
  have : ([a] < [b]) ↔ a < b := by
    constructor
    · intro h
      cases h with
      | rel h => exact h
      | cons h => cases h
    · intro h
      exact List.Lex.rel h
  rw [decide_eq_decide.mpr this]
abbrev riB : DL.Env → DL.R Fl := (seqS (setS 6 (withEnv (bin ixD (un1 (fldD "arrows") (gSh 0)) (gAny 3)))) (seqS (ifS (withEnv (tst (bin (inA true) (gAny 5) (gAny 6)))) (retS (withEnv (kc .non))) skipS) (seqS (ifS (withEnv (tru (bin ixD (un1 (fldD "ends") (gSh 0)) (gAny 3)))) (augS 4 (intOp (fun _ _ => true) fun i j => i + j) (kc (.int 1))) skipS) (seqS (augS 4 (intOp (fun _ _ => true) fun i j => i + j) (appN sumD (aCons (lcD [("other", 7), ("after", 8)] (itX itemsD (gSh 6)) (gTupD 2 (gsCons (gSet 7) (gsCons (gSet 8) gsNil))) (tst (bin ltSD (gAny 7) (gAny 5))) (bin ixD (gAny 2) (gAny 8))) aNil))) (setS 3 (withEnv (bin dgetD (gAny 6) (gAny 5))))))))
theorem io_add (a b : Nat) : intOp (fun _ _ => true) (fun i j => i + j) (ni a) (ni b) = some (ni (a + b)) := (rfl)
theorem ri_step {R : List (List (Nat × Nat))} {E : List Bool} (hU : Up R) (hD : Dis R) (hE : E.length = R.length) (hr : ∀ v, (R.getD v []).length ≤ 1000) (g : List Nat) (v a : Nat) (hv : v < R.length) {p : Nat × Nat} (hp : p ∈ R.getD v []) (s6 : Slot) :
    riB [.sh (gD R E), .sh (tx g), .sh (.lst ((csI R E R.length).map ni)), .sh (ni v), .sh (ni a), .sh (tx [p.1]), s6, .un, .un] =
      .ok (.nx [.sh (gD R E), .sh (tx g), .sh (.lst ((csI R E R.length).map ni)), .sh (ni p.2), .sh (ni (a + (if E.getD v false = true then 1 else 0) + (((R.getD v []).filter fun x => decide (x.1 < p.1)).map fun q => (wd R E q.2).length).sum)), .sh (tx [p.1]), .sh (rwD (R.getD v [])), .un, .un]) := by
  have ga := gA_eq (R.map rwD) (E.map D.bl)
  have ge := gE_eq (R.map rwD) (E.map D.bl)
  have ra := row_at hv
  have ea := end_at (E := E) (v := v) (by omega)
  have d1 := dget_rw (hD v) hp
  have d2 := in_rw (hD v) hp
  have main : ∀ b : Nat, lcD [("other", 7), ("after", 8)] (itX itemsD (gSh 6)) (gTupD 2 (gsCons (gSet 7) (gsCons (gSet 8) gsNil))) (tst (bin ltSD (gAny 7) (gAny 5))) (bin ixD (gAny 2) (gAny 8)) [.sh (gD R E), .sh (tx g), .sh (.lst ((csI R E R.length).map ni)), .sh (ni v), .sh (ni b), .sh (tx [p.1]), .sh (rwD (R.getD v [])), .un, .un] = .ok (.lst (((R.getD v []).filter fun x => decide (x.1 < p.1)).map fun q => ni (wd R E q.2).length)) := fun b =>
    lcA (r := [.sh (gD R E), .sh (tx g), .sh (.lst ((csI R E R.length).map ni)), .sh (ni v), .sh (ni b), .sh (tx [p.1]), .sh (rwD (R.getD v [])), .un, .un]) (own := [("other", 7), ("after", 8)]) (h := itX itemsD (gSh 6)) (g := gTupD 2 (gsCons (gSet 7) (gsCons (gSet 8) gsNil))) (c := tst (bin ltSD (gAny 7) (gAny 5))) (f := bin ixD (gAny 2) (gAny 8)) (R.getD v []) (fun q => .tup [tx [q.1], ni q.2]) (fun q => ni (wd R E q.2).length) (fun x => decide (x.1 < p.1)) (fun q => [.sh (gD R E), .sh (tx g), .sh (.lst ((csI R E R.length).map ni)), .sh (ni v), .sh (ni b), .sh (tx [p.1]), .sh (rwD (R.getD v [])), .sh (tx [q.1]), .sh (ni q.2)]) rfl (by wide_open with ((), items_rw)) (by have := hr v; omega) (fun _ => rfl) fun q hq => by
      obtain ⟨u1, u2⟩ := hU v q hq
      have g1 : ((csI R E R.length).map ni)[q.2]? = some (ni (wd R E q.2).length) := by
        rw [List.getElem?_map, csI_get u2, if_pos (by omega)]
        rfl
      have l1 := lt_sign q.1 p.1
      exact ⟨by wide_open with ((), l1), fun _ => by wide_open with ((), g1)⟩
  have sm : sumD [.lst (((R.getD v []).filter fun x => decide (x.1 < p.1)).map fun q => ni (wd R E q.2).length)] = some (ni (((R.getD v []).filter fun x => decide (x.1 < p.1)).map fun q => (wd R E q.2).length).sum) := by
    have := sum_nl (((R.getD v []).filter fun x => decide (x.1 < p.1)).map fun q => (wd R E q.2).length)
    rw [List.map_map] at this
    exact this
  generalize (((R.getD v []).filter fun x => decide (x.1 < p.1)).map fun q => (wd R E q.2).length).sum = sum at sm
  have i1 := io_add
  have i2 : intOp (fun _ _ => true) (fun i j => i + j) (ni a) (.int 1) = some (ni (a + 1)) := (rfl)
  cases q : E.getD v false with
  | true =>
    rw [q] at ea
    have m := main (a + 1)
    simp only [if_true]
    wide_open with ((), ga, ge, ra, ea, d1, d2, i2, m, sm, i1)
  | false =>
    rw [q] at ea
    have m := main a
    simp only [Bool.false_eq_true, if_false, Nat.add_zero]
    wide_open with ((), ga, ge, ra, ea, d1, d2, m, sm, i1)
theorem rank_in_ok {R : List (List (Nat × Nat))} {E : List Bool} (hU : Up R) (hD : Dis R) (hA : Asc R) (hE : E.length = R.length) (h0 : 0 < R.length) (hl : R.length ≤ 900) (hr : ∀ v, (R.getD v []).length ≤ 1000) {g : List Nat} (hg : g ∈ wd R E 0) (hgl : g.length ≤ 1000) : ∃ k, F_rank_in [gD R E, tx g] = .ok (ni k) ∧ (wd R E 0)[k]? = some g := by
  obtain ⟨⟨v, a, s6⟩, y5, e, ⟨h1, h2, h3⟩, n⟩ := for_run (b := riB) (g := gSet 5) (τ := Nat × Nat × Slot) (fun c => tx [c]) (fun t s => [.sh (gD R E), .sh (tx g), .sh (.lst ((csI R E R.length).map ni)), .sh (ni t.1), .sh (ni t.2.1), s, t.2.2, .un, .un])
    (fun i t => t.1 < R.length ∧ g.drop i ∈ wd R E t.1 ∧ ∀ j x, (wd R E t.1)[j]? = some x → (wd R E 0)[t.2.1 + j]? = some (g.take i ++ x)) g (0, 0, .un) .un (fun _ _ _ => rfl) ⟨h0, hg, fun j x h => by rw [Nat.zero_add]; exact h⟩ rfl fun i c t ei ⟨h1, h2, h3⟩ => by
      obtain ⟨v, a, s6⟩ := t
      have hv : v < R.length := h1
      have h2 : g.drop i ∈ wd R E v := h2
      obtain ⟨hi, ec⟩ := List.getElem?_eq_some_iff.mp ei
      rw [List.drop_eq_getElem_cons hi, ec] at h2
      rcases (mem_wd hU hv).mp h2 with ⟨_, z⟩ | ⟨p, hp, l, hl', z⟩
      · cases z
      · have zc : c = p.1 := (List.cons.inj z).1
        have zl : g.drop (i + 1) = l := (List.cons.inj z).2
        subst zc
        subst zl
        obtain ⟨L2, es⟩ := row_split (hA v) hp
        refine ⟨(p.2, a + (if E.getD v false = true then 1 else 0) + (((R.getD v []).filter fun x => decide (x.1 < p.1)).map fun q => (wd R E q.2).length).sum, .sh (rwD (R.getD v []))), ri_step hU hD hE hr g v a hv hp s6, (hU v p hp).2, hl', fun j x hx => ?_⟩
        have b := wd_block (E := E) hU hv es hx
        have := h3 _ _ b
        have tk : g.take (i + 1) = g.take i ++ [p.1] := by rw [List.take_add_one, ei]; rfl
        rw [tk, List.append_assoc]
        have ar : a + (if E.getD v false = true then 1 else 0) + (((R.getD v []).filter fun x => decide (x.1 < p.1)).map fun q => (wd R E q.2).length).sum + j = a + ((if E.getD v false = true then 1 else 0) + (((R.getD v []).filter fun x => decide (x.1 < p.1)).map fun q => (wd R E q.2).length).sum + j) := by omega
        show (wd R E 0)[a + (if E.getD v false = true then 1 else 0) + (((R.getD v []).filter fun x => decide (x.1 < p.1)).map fun q => (wd R E q.2).length).sum + j]? = _
        rw [ar]
        exact this
  have hv : v < R.length := h1
  have h2 : g.drop g.length ∈ wd R E v := h2
  rw [List.drop_length] at h2
  have q : E.getD v false = true := by
    rcases (mem_wd hU hv).mp h2 with ⟨q, _⟩ | ⟨_, _, _, _, z⟩
    · exact q
    · cases z
  have w0 : (wd R E v)[0]? = some [] := by
    rw [wd_eq hU hv, if_pos q]
    rfl
  have h3 := h3 0 [] w0
  rw [List.take_length, List.append_nil] at h3
  have ge := gE_eq (R.map rwD) (E.map D.bl)
  have ea := end_at (E := E) (v := v) (by omega)
  rw [q] at ea
  refine ⟨a, ?_, h3⟩
  refine fnD_rt (r1 := [.sh (gD R E), .sh (tx g), .sh (.lst ((csI R E R.length).map ni)), .sh (ni v), .sh (ni a), y5, s6, .un, .un]) rfl (show b_rank_in [.sh (gD R E), .sh (tx g), .un, .un, .un, .un, .un, .un, .un] = _ from ?_)
  have e' : forD (gSet 5) riB (g.map fun c => tx [c]) [.sh (gD R E), .sh (tx g), .sh (.lst ((csI R E R.length).map ni)), .sh (.int 0), .sh (.int 0), .un, .un, .un, .un] = _ := e
  unfold b_rank_in
  wide_open with ((), counts_from_ok hU hE (by omega) hr, e', ge, ea)
end LW

end
section
namespace LW
open PySem DL PT
abbrev waB : DL.Env → DL.R Fl := (seqS (ifS (withEnv (tst (bin ltD (gAny 5) (bin ixD (gAny 2) (gAny 7))))) (seqS (setS 3 (withEnv (gSh 7))) (seqS (augS 4 addSD (gAny 6)) brkS)) skipS) (augS 5 (intOp (fun _ _ => true) fun i j => i - j) (bin ixD (gAny 2) (gAny 7))))
theorem wa_kids {R : List (List (Nat × Nat))} {E : List Bool} (x1 : Slot) (v : Nat) (w : List Nat) (hw : w.length ≤ 900) : ∀ (L : List (Nat × Nat)) (a : Nat) (x : List Nat) (s6 s7 : Slot), (∀ p ∈ L, p.2 < R.length) → (L.flatMap fun p => (wd R E p.2).map fun l => p.1 :: l)[a]? = some x →
    ∃ p l a', p ∈ L ∧ x = p.1 :: l ∧ (wd R E p.2)[a']? = some l ∧ forD (gTupD 2 (gsCons (gSet 6) (gsCons (gSet 7) gsNil))) waB (L.map fun p => .tup [tx [p.1], ni p.2]) [.sh (gD R E), x1, .sh (.lst ((csI R E R.length).map ni)), .sh (ni v), .sh (tx w), .sh (ni a), s6, s7] =
      .ok (.nx [.sh (gD R E), x1, .sh (.lst ((csI R E R.length).map ni)), .sh (ni p.2), .sh (tx (w ++ [p.1])), .sh (ni a'), .sh (tx [p.1]), .sh (ni p.2)])
  | [], a, x, s6, s7, _, h => by cases h
  | p :: L, a, x, s6, s7, hL, h => by
    have hp := hL p List.mem_cons_self
    have g1 : ((csI R E R.length).map ni)[p.2]? = some (ni (wd R E p.2).length) := by
      rw [List.getElem?_map, csI_get hp, if_pos (by omega)]
      rfl
    rw [List.flatMap_cons] at h
    have g : gTupD 2 (gsCons (gSet 6) (gsCons (gSet 7) gsNil)) (.tup [tx [p.1], ni p.2]) [.sh (gD R E), x1, .sh (.lst ((csI R E R.length).map ni)), .sh (ni v), .sh (tx w), .sh (ni a), s6, s7] = .ok [.sh (gD R E), x1, .sh (.lst ((csI R E R.length).map ni)), .sh (ni v), .sh (tx w), .sh (ni a), .sh (tx [p.1]), .sh (ni p.2)] := by wide_open with ((), DL.eq_non)
    by_cases z : a < (wd R E p.2).length
    · rw [List.getElem?_append_left (by rw [List.length_map]; exact z), List.getElem?_map] at h
      obtain ⟨l, e1, e2⟩ := Option.map_eq_some_iff.mp h
      refine ⟨p, l, a, List.mem_cons_self, e2.symm, e1, ?_⟩
      rw [List.map_cons]
      unfold forD
      rw [g]
      simp only [bind_ok]
      have z1 : decide ((a : Int) < ((wd R E p.2).length : Int)) = true := decide_eq_true (by omega)
      have ad := addS_tx (l := w) (m := [p.1]) (by omega) (by simp)
      have b : waB [.sh (gD R E), x1, .sh (.lst ((csI R E R.length).map ni)), .sh (ni v), .sh (tx w), .sh (ni a), .sh (tx [p.1]), .sh (ni p.2)] = .ok (.bk [.sh (gD R E), x1, .sh (.lst ((csI R E R.length).map ni)), .sh (ni p.2), .sh (tx (w ++ [p.1])), .sh (ni a), .sh (tx [p.1]), .sh (ni p.2)]) := by wide_open with ((), g1, z1, ad)
      rw [b]
      rfl
    · rw [List.getElem?_append_right (by rw [List.length_map]; omega), List.length_map] at h
      obtain ⟨q, l, a', h1, h2, h3, e⟩ := wa_kids x1 v w hw L (a - (wd R E p.2).length) x (.sh (tx [p.1])) (.sh (ni p.2)) (fun q hq => hL q (List.mem_cons_of_mem _ hq)) h
      refine ⟨q, l, a', List.mem_cons_of_mem _ h1, h2, h3, ?_⟩
      rw [List.map_cons]
      unfold forD
      rw [g]
      simp only [bind_ok]
      have z1 : decide ((a : Int) < ((wd R E p.2).length : Int)) = false := decide_eq_false (by omega)
      have sb : intOp (fun _ _ => true) (fun i j => i - j) (ni a) (ni (wd R E p.2).length) = some (ni (a - (wd R E p.2).length)) := by
        show some (D.int ((a : Int) - ((wd R E p.2).length : Int))) = some (D.int ((a - (wd R E p.2).length : Nat) : Int))
        congr 2
        omega
      have b : waB [.sh (gD R E), x1, .sh (.lst ((csI R E R.length).map ni)), .sh (ni v), .sh (tx w), .sh (ni a), .sh (tx [p.1]), .sh (ni p.2)] = .ok (.nx [.sh (gD R E), x1, .sh (.lst ((csI R E R.length).map ni)), .sh (ni v), .sh (tx w), .sh (ni (a - (wd R E p.2).length)), .sh (tx [p.1]), .sh (ni p.2)]) := by wide_open with ((), g1, z1, sb)
      rw [b]
      exact e
abbrev waC : DL.Env → DL.R (Bool × DL.Env) := withEnv (orB (tst (bin gtD (gAny 5) (kc (.int 0)))) (notB (tru (bin ixD (un1 (fldD "ends") (gSh 0)) (gAny 3)))))
abbrev waD : DL.Env → DL.R Fl := (seqS (ifS (withEnv (tru (bin ixD (un1 (fldD "ends") (gSh 0)) (gAny 3)))) (augS 5 (intOp (fun _ _ => true) fun i j => i - j) (kc (.int 1))) skipS) (forS (withEnv (itX itemsD (bin ixD (un1 (fldD "arrows") (gSh 0)) (gAny 3)))) (gTupD 2 (gsCons (gSet 6) (gsCons (gSet 7) gsNil))) waB))
theorem word_at_ok {R : List (List (Nat × Nat))} {E : List Bool} (hU : Up R) (hE : E.length = R.length) (h0 : 0 < R.length) (hl : R.length ≤ 900) (hr : ∀ v, (R.getD v []).length ≤ 1000) {k : Nat} {g : List Nat} (hk : (wd R E 0)[k]? = some g) : F_word_at [gD R E, ni k] = .ok (tx g) := by
  have ga := gA_eq (R.map rwD) (E.map D.bl)
  have ge := gE_eq (R.map rwD) (E.map D.bl)
  obtain ⟨r', e, s3, s5, s6, s7, er⟩ := whl_inv (c := waC) (b := waD)
    (fun m r => ∃ (v a : Nat) (w u : List Nat) (s6 s7 : Slot), r = [.sh (gD R E), .sh (ni k), .sh (.lst ((csI R E R.length).map ni)), .sh (ni v), .sh (tx w), .sh (ni a), s6, s7] ∧ v < R.length ∧ w.length ≤ v ∧ (wd R E v)[a]? = some u ∧ g = w ++ u ∧ m = R.length - v)
    (fun r => ∃ (s3 s5 s6 s7 : Slot), r = [.sh (gD R E), .sh (ni k), .sh (.lst ((csI R E R.length).map ni)), s3, .sh (tx g), s5, s6, s7])
    (fun m r ⟨v, a, w, u, s6, s7, er, hv, hw, hu, hg, hm⟩ => by
      subst er
      have ra := row_at hv
      have ea := end_at (E := E) (v := v) (by omega)
      have we := wd_eq (E := E) hU hv
      have kl : ∀ p ∈ R.getD v [], p.2 < R.length := fun p hp => (hU v p hp).2
      cases q : E.getD v false with
      | true =>
        rw [q] at ea we
        simp only [if_true] at we
        cases a with
        | zero =>
          rw [we] at hu
          have : u = [] := (Option.some.inj hu).symm
          subst this
          rw [List.append_nil] at hg
          subst hg
          have z0 : decide ((0 : Int) < ((0 : Nat) : Int)) = false := by decide
          have cnd : waC [.sh (gD R E), .sh (ni k), .sh (.lst ((csI R E R.length).map ni)), .sh (ni v), .sh (tx g), .sh (ni 0), s6, s7] = .ok (false, [.sh (gD R E), .sh (ni k), .sh (.lst ((csI R E R.length).map ni)), .sh (ni v), .sh (tx g), .sh (ni 0), s6, s7]) := by wide_open with ((), z0, ge, ea)
          exact .inl ⟨_, cnd, _, _, _, _, rfl⟩
        | succ a =>
          rw [we] at hu
          have hu : ((R.getD v []).flatMap fun p => (wd R E p.2).map fun l => p.1 :: l)[a]? = some u := hu
          obtain ⟨p, l, a', p1, p2, p3, e⟩ := wa_kids (R := R) (E := E) (.sh (ni k)) v w (by omega) (R.getD v []) a u s6 s7 kl hu
          have z1 : decide ((0 : Int) < ((a + 1 : Nat) : Int)) = true := decide_eq_true (by omega)
          have sb : intOp (fun _ _ => true) (fun i j => i - j) (ni (a + 1)) (.int 1) = some (ni a) := by
            show some (D.int (((a + 1 : Nat) : Int) - 1)) = some (D.int (a : Int))
            congr 2
            omega
          refine .inr ⟨_, _, R.length - p.2, (by wide_open with ((), z1) : waC _ = .ok (true, [.sh (gD R E), .sh (ni k), .sh (.lst ((csI R E R.length).map ni)), .sh (ni v), .sh (tx w), .sh (ni (a + 1)), s6, s7])), (by wide_open with ((), ga, ge, ra, ea, sb, items_rw, e) : waD _ = .ok (.nx [.sh (gD R E), .sh (ni k), .sh (.lst ((csI R E R.length).map ni)), .sh (ni p.2), .sh (tx (w ++ [p.1])), .sh (ni a'), .sh (tx [p.1]), .sh (ni p.2)])), ?_, p.2, a', w ++ [p.1], l, _, _, rfl, (hU v p p1).2, ?_, p3, ?_, rfl⟩
          · have := hU v p p1; omega
          · have := hU v p p1; rw [List.length_append, List.length_singleton]; omega
          · rw [hg, p2, List.append_assoc]; rfl
      | false =>
        rw [q] at ea we
        simp only [Bool.false_eq_true, if_false, List.nil_append] at we
        rw [we] at hu
        obtain ⟨p, l, a', p1, p2, p3, e⟩ := wa_kids (R := R) (E := E) (.sh (ni k)) v w (by omega) (R.getD v []) a u s6 s7 kl hu
        have cnd : waC [.sh (gD R E), .sh (ni k), .sh (.lst ((csI R E R.length).map ni)), .sh (ni v), .sh (tx w), .sh (ni a), s6, s7] = .ok (true, [.sh (gD R E), .sh (ni k), .sh (.lst ((csI R E R.length).map ni)), .sh (ni v), .sh (tx w), .sh (ni a), s6, s7]) := by
          cases z : decide ((0 : Int) < (a : Int)) <;> wide_open with ((), z, ge, ea)
        refine .inr ⟨_, _, R.length - p.2, cnd, (by wide_open with ((), ga, ge, ra, ea, items_rw, e) : waD _ = .ok (.nx [.sh (gD R E), .sh (ni k), .sh (.lst ((csI R E R.length).map ni)), .sh (ni p.2), .sh (tx (w ++ [p.1])), .sh (ni a'), .sh (tx [p.1]), .sh (ni p.2)])), ?_, p.2, a', w ++ [p.1], l, _, _, rfl, (hU v p p1).2, ?_, p3, ?_, rfl⟩
        · have := hU v p p1; omega
        · have := hU v p p1; rw [List.length_append, List.length_singleton]; omega
        · rw [hg, p2, List.append_assoc]; rfl)
    100000 (R.length - 0) [.sh (gD R E), .sh (ni k), .sh (.lst ((csI R E R.length).map ni)), .sh (ni 0), .sh (tx []), .sh (ni k), .un, .un] (by omega) ⟨0, k, [], g, .un, .un, rfl, h0, Nat.le_refl _, hk, rfl, rfl⟩
  subst er
  have g0 : ((csI R E R.length).map ni)[0]? = some (ni (wd R E 0).length) := by
    rw [List.getElem?_map, csI_get h0, if_pos (by omega)]
    rfl
  have kk := (List.getElem?_eq_some_iff.mp hk).1
  have z2 : decide (((wd R E 0).length : Int) ≤ (k : Int)) = false := decide_eq_false (by omega)
  refine fnD_rt (r1 := [.sh (gD R E), .sh (ni k), .sh (.lst ((csI R E R.length).map ni)), s3, .sh (tx g), s5, s6, s7]) rfl (show b_word_at [.sh (gD R E), .sh (ni k), .un, .un, .un, .un, .un, .un] = _ from ?_)
  have e' : whlD waC waD 100000 [.sh (gD R E), .sh (ni k), .sh (.lst ((csI R E R.length).map ni)), .sh (.int 0), .sh (.str ""), .sh (ni k), .un, .un] = _ := e
  unfold b_word_at
  wide_open with ((), counts_from_ok hU hE (by omega) hr, g0, z2, e')
end LW

end
section
namespace LW
open PySem DL PT
theorem W_film {f g : List Nat} (hf : Film f) (h : 0 < W g f) : Film g := by
  have s := W_sub h
  refine ⟨?_, by have := s.length_le; have := hf.2.1; omega, fun c hc => hf.2.2 c (s.subset hc)⟩
  intro z
  subst z
  have : ¬ 0 < W [] f := by
    show ¬ 0 < (if f = [] then 1 else 0)
    rw [if_neg hf.1]
    omega
  exact this h
theorem rank_of_ok {F g : List Nat} (hF : Film F) (hg : g ∈ ocs F) : ∃ k, F_rank_of [tx F, tx g] = .ok (ni k) ∧ (ocs F)[k]? = some g := by
  have hgf := W_film hF ((ocs_mem hF).mp hg)
  have hgl := hgf.2.1
  obtain ⟨k, e, hk⟩ := rank_in_ok (R := oR F) (E := oE F) (oR_up hF.1) oR_dis oR_asc (by rw [oE_len, oR_len]) (by rw [oR_len]; omega) (by have := hF.2.1; rw [oR_len]; omega) oR_short hg (by omega)
  refine ⟨k, ?_, hk⟩
  refine fnD_rt (r1 := [.sh (tx F), .sh (tx g)]) rfl (show b_rank_of [.sh (tx F), .sh (tx g)] = _ from ?_)
  unfold b_rank_of
  wide_open with ((), check_film_ok hF, check_film_ok hgf, outcome_graph_ok hF, e)
theorem outcome_at_ok {F g : List Nat} {k : Nat} (hF : Film F) (hk : (ocs F)[k]? = some g) : F_outcome_at [tx F, ni k] = .ok (tx g) := by
  have e := word_at_ok (R := oR F) (E := oE F) (oR_up hF.1) (by rw [oE_len, oR_len]) (by rw [oR_len]; omega) (by have := hF.2.1; rw [oR_len]; omega) oR_short hk
  refine fnD_rt (r1 := [.sh (tx F), .sh (ni k)]) rfl (show b_outcome_at [.sh (tx F), .sh (ni k)] = _ from ?_)
  unfold b_outcome_at
  wide_open with ((), check_film_ok hF, check_rank_ok, outcome_graph_ok hF, e)
/-! ranks of films that are none -/
theorem word_at_no {R : List (List (Nat × Nat))} {E : List Bool} (hU : Up R) (hE : E.length = R.length) (h0 : 0 < R.length) (hl : R.length ≤ 900) (hr : ∀ v, (R.getD v []).length ≤ 1000) {k : Nat} (hk : (wd R E 0).length ≤ k) : F_word_at [gD R E, ni k] = .ok .non := by
  have g0 : ((csI R E R.length).map ni)[0]? = some (ni (wd R E 0).length) := by
    rw [List.getElem?_map, csI_get h0, if_pos (by omega)]
    rfl
  have z2 : decide (((wd R E 0).length : Int) ≤ (k : Int)) = true := decide_eq_true (by omega)
  refine fnD_rt (r1 := [.sh (gD R E), .sh (ni k), .sh (.lst ((csI R E R.length).map ni)), .un, .un, .un, .un, .un]) rfl (show b_word_at [.sh (gD R E), .sh (ni k), .un, .un, .un, .un, .un, .un] = _ from ?_)
  unfold b_word_at
  wide_open with ((), counts_from_ok hU hE (by omega) hr, g0, z2)
theorem outcome_at_no {F : List Nat} {k : Nat} (hF : Film F) (hk : (ocs F).length ≤ k) : F_outcome_at [tx F, ni k] = .ok .non := by
  have e := word_at_no (R := oR F) (E := oE F) (oR_up hF.1) (by rw [oE_len, oR_len]) (by rw [oR_len]; omega) (by have := hF.2.1; rw [oR_len]; omega) oR_short hk
  refine fnD_rt (r1 := [.sh (tx F), .sh (ni k)]) rfl (show b_outcome_at [.sh (tx F), .sh (ni k)] = _ from ?_)
  unfold b_outcome_at
  wide_open with ((), check_film_ok hF, check_rank_ok, outcome_graph_ok hF, e)
end LW

end
section
namespace LW
open PySem DL PT
/-! lists of films as data: in, ==, index, alike -/
theorem ocs_film {F g : List Nat} (hF : Film F) (hg : g ∈ ocs F) : Film g := W_film hF ((ocs_mem hF).mp hg)
end LW

end
section
namespace LW
open PySem DL PT
/-! ### the next outcome -/
def nxO (F : List Nat) (k : Nat) : D := match (ocs F)[k + 1]? with
  | some h => tx h
  | none => .non
theorem next_outcome_ok {F g : List Nat} {k : Nat} (hF : Film F) (hk : (ocs F)[k]? = some g) : F_next_outcome [tx F, tx g] = .ok (nxO F k) := by
  have hg : g ∈ ocs F := List.mem_of_getElem? hk
  have gf := ocs_film hF hg
  have hl := hF.2.1
  obtain ⟨k', e, hk'⟩ := rank_in_ok (R := oR F) (E := oE F) (oR_up hF.1) oR_dis oR_asc (by rw [oE_len, oR_len]) (by rw [oR_len]; omega) (by rw [oR_len]; omega) oR_short hg (by have := gf.2.1; omega)
  have hk' : (ocs F)[k']? = some g := hk'
  have ek : k' = k := by
    have h1 := (List.getElem?_eq_some_iff.mp hk).1
    exact (List.getElem?_inj (i := k') (j := k) (List.getElem?_eq_some_iff.mp hk').1 (ocs_nodup F)).mp (by rw [hk, hk'])
  subst ek
  have og := outcome_graph_ok hF
  have c1 := check_film_ok hF
  have c2 := check_film_ok gf
  have ad : (k' : Int) + 1 = ((k' + 1 : Nat) : Int) := by omega
  have isn : isN2 (ni k') .non = some (.bl false) := rfl
  have w : F_word_at [gD (oR F) (oE F), ni (k' + 1)] = .ok (nxO F k') := by
    unfold nxO
    cases q : (ocs F)[k' + 1]? with
    | some h => exact word_at_ok (R := oR F) (E := oE F) (oR_up hF.1) (by rw [oE_len, oR_len]) (by rw [oR_len]; omega) (by rw [oR_len]; omega) oR_short q
    | none => exact word_at_no (R := oR F) (E := oE F) (oR_up hF.1) (by rw [oE_len, oR_len]) (by rw [oR_len]; omega) (by rw [oR_len]; omega) oR_short (List.getElem?_eq_none_iff.mp q)
  refine fnD_rt (r1 := [.sh (tx F), .sh (tx g), .sh (gD (oR F) (oE F)), .sh (ni k')]) rfl (show b_next_outcome [.sh (tx F), .sh (tx g), .un, .un] = _ from ?_)
  unfold b_next_outcome
  generalize nxO F k' = NX at w ⊢
  generalize gD (oR F) (oE F) = GG at og e w ⊢
  wide_open with ((), c1, c2, og, e, isn, ad, w)
end LW

end
section
namespace LW
open PySem DL PT
/-! ### drawn rows, as rows -/
abbrev pd (p : Nat × Nat) : D := .tup [ni p.1, ni p.2]
abbrev someB : DL.Env → DL.R Fl := setS 6 (withEnv (bin plusD (gAny 6) (lcD [("second", 9)] (itN rg2 (aCons (bin plusD (gAny 7) (kc (.int 1))) (aCons (appN lenD (aCons (gAny 3) aNil)) aNil))) (gSet 9) (tst (bin eqD (bin ixD (gAny 3) (gAny 7)) (bin ixD (gAny 3) (gAny 9)))) (mkT (aCons (gSh 7) (aCons (gSh 9) aNil))))))
/-! ### cuts played -/
theorem behind_ok {f : List Nat} (hf : f.length ≤ 200) (a b : Nat) : F_behind_cut [tx f, .tup [ni a, ni b]] = .ok (tx (cutBy f (a, b))) := by
  have t1 : cutL f none (some ((a : Int) + 1)) = f.take (a + 1) := cut_to f (a + 1)
  have t2 : cutL f (some ((b : Int) + 1)) none = f.drop (b + 1) := cut_from f (b + 1)
  have tl1 : (f.take (a + 1)).length ≤ 1000 := by rw [List.length_take]; omega
  have tl2 : (f.drop (b + 1)).length ≤ 1000 := by rw [List.length_drop]; omega
  refine fnD_rt (r1 := [.sh (tx f), .sh (.tup [ni a, ni b]), .sh (ni a), .sh (ni b)]) rfl (show b_behind_cut [.sh (tx f), .sh (.tup [ni a, ni b]), .un, .un] = _ from ?_)
  unfold b_behind_cut cutBy
  wide_open with ((), t1, t2)
end LW

end
section
namespace LW
open PySem DL PT
/-! ### letters, places, cuts of a film -/
def on : Option Nat → D
  | some k => ni k
  | none => .non
theorem cuts_ok {F : List Nat} (hF : Film F) : F_cuts [tx F] = .ok (.tup ((cutsL F).map pd)) := by
  have hl := hF.2.1
  have plen : (pairsL F).length ≤ 40000 := by
    unfold pairsL
    rw [List.length_flatMap]
    have : ∀ l : List Nat, (l.map fun i => ((List.range' (i + 1) (F.length - (i + 1))).map fun j => (i, j)).length).sum ≤ l.length * 200 := by
      intro l
      induction l with
      | nil => simp
      | cons a l ih =>
        rw [List.map_cons, List.sum_cons, List.length_cons]
        simp only [List.length_map, List.length_range'] at *
        omega
    have := this (List.range F.length)
    rw [List.length_range] at this
    omega
  have n1 : itN rg1 (aCons (gAny 1) aNil) [.sh (tx F), .sh (ni F.length), .un, .un, .un, .un] = .ok ((List.range F.length).map ni) := by
    have := rng_map F.length
    wide_open with ((), this)
  have c1 := lc2A (r := [.sh (tx F), .sh (ni F.length), .un, .un, .un, .un]) (own := [("first", 3), ("second", 4)]) (vs1 := [4]) (g := gSet 3) (g1 := gSet 4) (h1 := itN rg2 (aCons (bin plusD (gAny 3) (kc (.int 1))) (aCons (gAny 1) aNil))) (c1 := yesB) (f := mkT (aCons (gSh 3) (aCons (gSh 4) aNil)))
    (List.range F.length) (fun i => List.range' (i + 1) (F.length - (i + 1))) ni ni (fun i j => pd (i, j)) (fun _ _ => true) (fun i => [.sh (tx F), .sh (ni F.length), .un, .sh (ni i), .un, .un]) (fun i j => [.sh (tx F), .sh (ni F.length), .un, .sh (ni i), .sh (ni j), .un]) rfl n1 (by
      have : ((List.range F.length).flatMap fun i => (List.range' (i + 1) (F.length - (i + 1))).filter fun _ => true).length = (pairsL F).length := by
        unfold pairsL
        have e : ∀ i, (List.range' (i + 1) (F.length - (i + 1))).filter (fun _ => true) = List.range' (i + 1) (F.length - (i + 1)) := fun i => List.filter_eq_self.mpr fun _ _ => rfl
        simp only [e, List.length_flatMap, List.length_map]
      rw [this]; omega) (fun i => rfl) (fun i => rfl) (fun i hi => by
        have hi := List.mem_range.mp hi
        have e1 := rg2_nat (m := i + 1) (n := F.length) (by omega)
        have e2 := rng_range' (i + 1) (F.length - (i + 1))
        have e3 : D.int ((i : Int) + 1) = ni (i + 1) := (rfl)
        wide_open with ((), e3, e1, e2)) (fun i j => rfl) (fun i hi j hj => ⟨rfl, fun _ => by wide_open with ((), DL.eq_non)⟩)
  have e1 : ((List.range F.length).flatMap fun i => ((List.range' (i + 1) (F.length - (i + 1))).filter fun _ => true).map fun j => pd (i, j)) = (pairsL F).map pd := by
    unfold pairsL
    rw [List.map_flatMap]
    refine congrArg (fun f => (List.range F.length).flatMap f) (funext fun i => ?_)
    rw [List.filter_eq_self.mpr (fun _ _ => rfl), List.map_map]
    rfl
  rw [e1] at c1
  have c2 := lcA (r := [.sh (tx F), .sh (ni F.length), .sh (.lst ((pairsL F).map pd)), .un, .un, .un]) (own := [("pair", 5)]) (h := itX zD (gSh 2)) (g := gSet 5) (c := tst (bin eqD (bin ixD (gAny 0) (bin ixD (gAny 5) (kc (.int 0)))) (bin ixD (gAny 0) (bin ixD (gAny 5) (kc (.int 1)))))) (f := gSh 5) (pairsL F) pd pd (fun p => decide (F[p.1]? = F[p.2]?))
    (fun p => [.sh (tx F), .sh (ni F.length), .sh (.lst ((pairsL F).map pd)), .un, .un, .sh (pd p)]) rfl (by wide_open with ((), DL.eq_non)) (by omega) (fun p => rfl) fun p hp => by
      obtain ⟨h1, h2⟩ := mem_pairsL.mp hp
      have g1 : F[p.1]? = some F[p.1] := List.getElem?_eq_getElem (by omega)
      have g2 : F[p.2]? = some F[p.2] := List.getElem?_eq_getElem h2
      have e2 : decide (F[p.1] = F[p.2]) = decide (F[p.1]? = F[p.2]?) := by rw [g1, g2, decide_eq_decide]; simp
      refine ⟨?_, fun _ => by wide_open with ((), DL.eq_non)⟩
      rw [← e2]
      wide_open with ((), g1, g2)
  refine fnD_rt (r1 := [.sh (tx F), .sh (ni F.length), .sh (.lst ((pairsL F).map pd)), .un, .un, .un]) rfl (show b_cuts [.sh (tx F), .un, .un, .un, .un, .un] = _ from ?_)
  have c2' : lcD [("pair", 5)] (itX zD (gSh 2)) (gSet 5) (tst (bin eqD (bin ixD (gAny 0) (bin ixD (gAny 5) (kc (.int 0)))) (bin ixD (gAny 0) (bin ixD (gAny 5) (kc (.int 1)))))) (gSh 5) [.sh (tx F), .sh (ni F.length), .sh (.lst ((pairsL F).map pd)), .un, .un, .un] = .ok (.lst ((cutsL F).map pd)) := c2
  unfold b_cuts
  wide_open with ((), check_film_ok hF, c1, c2')
end LW

end
section
namespace LW
open PySem DL PT
def fap (o : Option (Nat × Nat)) : D := match o with
  | some p => pd p
  | none => .non
end LW

end
section
namespace LW
open PySem DL PT
end LW

end
section
namespace PT
/-! ### letters renamed -/
/-! ### runs -/
def rnp (st : List (Nat × Nat)) (c : Nat) : List (Nat × Nat) := match st.getLast? with
  | some p => if p.1 = c then st.dropLast ++ [(c, p.2 + 1)] else st ++ [(c, 1)]
  | none => st ++ [(c, 1)]
def rst (st : List (Nat × Nat)) : List Nat → List (Nat × Nat)
  | [] => st
  | c :: l => rst (rnp st c) l
def stL (F : List Nat) : List Nat := (List.range F.length).filter fun p => decide (p = 0) || decide (F[p - 1]? ≠ F[p]?)
def rz (F : List Nat) (X : List Nat) (n : Nat) : List (Nat × Nat) := List.zipWith (fun s t => (F.getD s 0, t - s)) X (X.drop 1 ++ [n])
/-! ### neighbouring blocks -/
end PT

end
section
namespace LW
open PySem DL PT
/-! ### films renamed, joined, repeated, squeezed -/
abbrev rd (p : Nat × Nat) : D := .tup [tx [p.1], ni p.2]
/-- the words of two letters that stand side by side -/
def nb (F : List Nat) : List (List Nat) := (List.range (F.length - 1)).map fun p => [F.getD p 0, F.getD (p + 1) 0]
end LW

end
section
namespace PT
/-! ### loops cut away as they close -/
def lgs (st : List Nat × List (List Nat)) (c : Nat) : List Nat × List (List Nat) := if c ∈ st.1 then (st.1.take (ix st.1 c + 1), st.2 ++ [st.1.drop (ix st.1 c) ++ [c]]) else (st.1 ++ [c], st.2)
def lgo : List Nat × List (List Nat) → List Nat → List Nat × List (List Nat)
  | st, [] => st
  | st, c :: l => lgo (lgs st c) l
def lgF (F : List Nat) : List Nat × List (List Nat) := lgo ([], []) F
theorem W_tr : ∀ (n : Nat) {f h g : List Nat}, f.length ≤ n → 0 < W h f → 0 < W g h → 0 < W g f := by
  intro n
  induction n with
  | zero =>
    intro f h g hn h1 h2
    by_cases e : f = h
    · rw [e]; exact h2
    · obtain ⟨k, c1, _⟩ := W_cut h1 e
      have := cut_len c1
      omega
  | succ n ih =>
    intro f h g hn h1 h2
    by_cases e : f = h
    · rw [e]; exact h2
    · obtain ⟨k, c1, c2⟩ := W_cut h1 e
      have := cut_len c1
      exact cut_W c1 (ih (by omega) c2 h2)
end PT

end
section
namespace PT
/-! ### the loops of a film as cuts of it -/
def lgc : List Nat → List Nat → List (Nat × Nat)
  | _, [] => []
  | g, c :: l => if c ∈ g then (ix g c, g.length) :: lgc (g.take (ix g c + 1)) l else lgc (g ++ [c]) l
def lgl : List Nat → List Nat → List (List Nat)
  | _, [] => []
  | g, c :: l => if c ∈ g then (g.drop (ix g c) ++ [c]) :: lgl (g.take (ix g c + 1)) l else lgl (g ++ [c]) l
def lgg : List Nat → List Nat → List Nat
  | g, [] => g
  | g, c :: l => if c ∈ g then lgg (g.take (ix g c + 1)) l else lgg (g ++ [c]) l
/-! ### as many loops as blocks of more than one letter, at least -/
theorem isP_E {F : List Nat} : ∀ (g es : List Nat) (s : Nat), es.length = g.length → isP F g s es = true → es ∈ E F g s
  | [], [], s, hl, h => by
    unfold E
    rw [if_pos (isP_nil.mp h)]
    simp
  | [], e :: es, s, hl, h => by simp at hl
  | d :: g, [], s, hl, h => by simp at hl
  | d :: g, e :: es, s, hl, h => by
    obtain ⟨h1, h2, h3, h4⟩ := isP_cons.mp h
    unfold E
    rw [if_pos h2]
    exact List.mem_flatMap.mpr ⟨e, mem_pl.mpr ⟨h1, h3⟩, List.mem_map.mpr ⟨es, isP_E g es (e + 1) (by simpa using hl) h4, rfl⟩⟩
end PT

end
section
namespace PT
/-- the loops: one letter at both ends, the others once -/
def Lo (l : List Nat) : Prop := ∃ (c : Nat) (t : List Nat), l = c :: t ++ [c] ∧ (c :: t).Nodup
end PT

end
section
namespace PT
/-! ### loops cut out from the beginning on, told by last visits -/
/-- what stands behind the last place of a letter, all if there is none -/
def aft (c : Nat) : List Nat → List Nat
  | [] => []
  | d :: T => if c ∈ T then aft c T else if d = c then T else d :: T
/-- what is left without loops -/
def le : Nat → List Nat → List Nat
  | 0, _ => []
  | _ + 1, [] => []
  | n + 1, c :: T => c :: le n (aft c T)
abbrev lE (F : List Nat) : List Nat := le F.length F
end PT

end
section
namespace PT
/-! ### walks, closed walks, walks by what is left of them -/
section
variable (A : Nat → Nat → Bool)
def Wk : List Nat → Bool
  | [] => true
  | [_] => true
  | a :: b :: l => A a b && Wk (b :: l)
def nb (gone : List Nat) (a : Nat) : List Nat := L8.filter fun b => decide (b ∉ gone) && A a b
def wn (gone : List Nat) : Nat → Nat → List (List Nat)
  | 0, a => [[a]]
  | n + 1, a => (nb A gone a).flatMap fun b => (wn gone n b).map fun u => a :: u
variable {A}
theorem mem_nb {gone : List Nat} {a b : Nat} : b ∈ nb A gone a ↔ b ∈ L8 ∧ b ∉ gone ∧ A a b = true := by
  unfold nb
  rw [List.mem_filter, Bool.and_eq_true, decide_eq_true_eq]
theorem Wk_cons {a b : Nat} {l : List Nat} : Wk A (a :: b :: l) = true ↔ A a b = true ∧ Wk A (b :: l) = true := by
  show (A a b && Wk A (b :: l)) = true ↔ _
  rw [Bool.and_eq_true]
theorem mem_wn {gone : List Nat} : ∀ {n a : Nat} {u : List Nat}, u ∈ wn A gone n a ↔ ∃ t, u = a :: t ∧ t.length = n ∧ Wk A (a :: t) = true ∧ ∀ x ∈ t, x ∈ L8 ∧ x ∉ gone
  | 0, a, u => by
    show u ∈ [[a]] ↔ _
    rw [List.mem_singleton]
    constructor
    · intro e
      exact ⟨[], e, rfl, rfl, fun x hx => by cases hx⟩
    · rintro ⟨t, e, h, _⟩
      rw [e, List.eq_nil_of_length_eq_zero h]
  | n + 1, a, u => by
    show u ∈ (nb A gone a).flatMap (fun b => (wn A gone n b).map fun u => a :: u) ↔ _
    rw [List.mem_flatMap]
    constructor
    · rintro ⟨b, hb, h⟩
      obtain ⟨w, hw, e⟩ := List.mem_map.mp h
      obtain ⟨t, e1, e2, e3, e4⟩ := mem_wn.mp hw
      obtain ⟨b1, b2, b3⟩ := mem_nb.mp hb
      refine ⟨w, e.symm, by rw [e1, List.length_cons, e2], by rw [e1]; exact Wk_cons.mpr ⟨b3, e3⟩, fun x hx => ?_⟩
      rw [e1] at hx
      rcases List.mem_cons.mp hx with z | z
      · rw [z]; exact ⟨b1, b2⟩
      · exact e4 x z
    · rintro ⟨t, e1, e2, e3, e4⟩
      cases t with
      | nil => cases e2
      | cons b t =>
        obtain ⟨w1, w2⟩ := Wk_cons.mp e3
        obtain ⟨b1, b2⟩ := e4 b List.mem_cons_self
        exact ⟨b, mem_nb.mpr ⟨b1, b2, w1⟩, List.mem_map.mpr ⟨b :: t, mem_wn.mpr ⟨t, rfl, Nat.succ.inj e2, w2, fun x hx => e4 x (List.mem_cons_of_mem _ hx)⟩, e1.symm⟩⟩
variable (A)
/-- walks of so many steps from a letter to another one -/
def wl (gone : List Nat) (last : Nat) (n x : Nat) : Nat := ((wn A gone n x).filter fun u => decide (u.getLast? = some last)).length
variable {A}
theorem wl_zero {gone : List Nat} {last x : Nat} : wl A gone last 0 x = if x = last then 1 else 0 := by
  unfold wl wn
  rw [List.filter_cons]
  by_cases z : x = last
  · have e : decide ([x].getLast? = some last) = true := decide_eq_true (by rw [z]; rfl)
    rw [if_pos z, if_pos e]
    rfl
  · have e : ¬ decide ([x].getLast? = some last) = true := fun w => z (Option.some.inj (of_decide_eq_true w))
    rw [if_neg z, if_neg e]
    rfl
theorem wl_succ {gone : List Nat} {last n x : Nat} : wl A gone last (n + 1) x = ((nb A gone x).map fun y => wl A gone last n y).sum := by
  have key : ∀ L : List Nat, ((L.flatMap fun b => (wn A gone n b).map fun u => x :: u).filter fun u => decide (u.getLast? = some last)).length = (L.map fun y => wl A gone last n y).sum := fun L => by
    induction L with
    | nil => rfl
    | cons b L ih =>
      rw [List.flatMap_cons, List.filter_append, List.length_append, ih, List.map_cons, List.sum_cons]
      congr 1
      unfold wl
      rw [List.filter_map, List.length_map]
      congr 1
      refine List.filter_congr fun u hu => ?_
      obtain ⟨t, e, _⟩ := mem_wn.mp hu
      show decide ((x :: u).getLast? = some last) = _
      rw [e]
      rfl
  exact key _
variable (A)
/-- the walks of so many letters -/
def wds' (gone : List Nat) : Nat → List (List Nat)
  | 0 => [[]]
  | m + 1 => (L8.filter fun b => decide (b ∉ gone)).flatMap fun a => wn A gone m a
/-- how many walks are left as a told one without their loops, with so many letters more -/
def lD (gone p : List Nat) (t : Nat) : Nat := ((wds' A gone (p.length + t)).filter fun u => decide (lE u = p)).length
variable {A}
/-- sums of products -/
def cvN (f g : Nat → Nat) (t : Nat) : Nat := ((List.range (t + 1)).map fun k => f k * g (t - k)).sum
theorem same_len {L M : List (List Nat)} (h1 : L.Nodup) (h2 : M.Nodup) (e : ∀ x, x ∈ L ↔ x ∈ M) : L.length = M.length := Nat.le_antisymm (nodup_le h1 fun x hx => (e x).mp hx) (nodup_le h2 fun x hx => (e x).mpr hx)
end
end PT

end
section
namespace PT
/-! ### sums of products, walks counted by what is left of them -/
def dl0 (t : Nat) : Nat := if t = 0 then 1 else 0
section
variable {A : Nat → Nat → Bool}
/-- counts_together in turn -/
def fW (A : Nat → Nat → Bool) : List Nat → (Nat → Nat) → List Nat → Nat → Nat
  | _, F, [] => F
  | gone, F, c :: p => fW A (gone ++ [c]) (fun t => cvN F (fun l => wl A gone c l c) t) p
/-! ### there is a walk of as many letters with a told path -/
def Ex (A : Nat → Nat → Bool) (gone p : List Nat) (t : Nat) : Prop := ∃ u, u.length = p.length + t ∧ Wk A u = true ∧ (∀ x ∈ u, x ∈ L8 ∧ x ∉ gone) ∧ lE u = p
end
end PT

end
section
namespace LW
open PySem DL PT
/-! ### ties, webs -/
abbrev tieL (a b : Nat) : List Nat := [min a b, max a b]
def ties (F : List Nat) : List (List Nat) := (List.range (F.length - 1)).map fun p => tieL (F.getD p 0) (F.getD (p + 1) 0)
/-- whether two like letters are neighbors -/
def likeN (F : List Nat) : Bool := (ties F).any fun l => decide (l.getD 0 0 = l.getD 1 0)
def Web (w : List (List Nat)) : Prop := (∀ l ∈ w, ∃ a b, l = [a, b] ∧ 97 ≤ a ∧ a < b ∧ b ≤ 104) ∧ w.Pairwise (· < ·)
theorem Web.ok {w : List (List Nat)} (h : Web w) : ∀ l ∈ w, ∃ a b, l = [a, b] ∧ 97 ≤ a ∧ a < b ∧ b ≤ 104 := h.1
theorem Web.asc {w : List (List Nat)} (h : Web w) : w.Pairwise (· < ·) := h.2
abbrev wbD (w : List (List Nat)) : D := .tup (w.map fun l => tx l)
abbrev cwT : D → DL.Env → DL.R DL.Env := gTupD 2 (gsCons (gSet 1) (gsCons (gSet 2) gsNil))
/-- who has a tie with whom -/
def adW (w : List (List Nat)) (a b : Nat) : Bool := decide (tieL a b ∈ w)
/-! ### neighbors -/
def lft (gone : List Nat) : List Nat := L8.filter fun c => decide (c ∉ gone)
def nrD (w : List (List Nat)) (gone : List Nat) : D := .dctF ((lft gone).map fun c => ((.inr (mkS [c]) : L2.Key), .lst ((PT.nb (adW w) gone c).map fun d => tx [d])))
/-! ### walks counted -/
def nwD (gone : List Nat) (f : Nat → Nat) : D := .dctF ((lft gone).map fun c => ((.inr (mkS [c]) : L2.Key), ni (f c)))
abbrev cow0 : DL.Env → DL.R D := (dcD [("letter", 7)] (itX keysFD (gSh 0)) (gSet 7) yesB (gSh 7) (ifV (tst (bin eqD (gAny 7) (gAny 1))) (kc (.int 1)) (kc (.int 0))))
abbrev cow1 : DL.Env → DL.R D := (dcD [("letter", 7)] (itX keysFD (gSh 0)) (gSet 7) yesB (gSh 7) (appN sumD (aCons (lcD [("other", 8)] (itX zD (bin dgetD (gAny 0) (gAny 7))) (gSet 8) yesB (bin dgetD (gAny 5) (gAny 8))) aNil)))
abbrev cowB : DL.Env → DL.R Fl := (seqS (appS 4 (bin dgetD (gAny 5) (gAny 2))) (setS 5 (withEnv (un1 toFz cow1))))
abbrev cvL (n : Nat) (f : Nat → Nat) : D := .lst ((List.range n).map fun t => ni (f t))
end LW

end
section
namespace PT
/-! ### the paths from a letter to another one -/
section
variable (A : Nat → Nat → Bool)
def kid (u : List Nat) : List Nat := (nb A [] (u.getLastD 0)).filter fun c => decide (c ∉ u)
def pth (b : Nat) : Nat → List Nat → List (List Nat)
  | 0, u => if u.getLast? = some b then [u] else []
  | k + 1, u => if u.getLast? = some b then [u] else (kid A u).reverse.flatMap fun c => pth b k (u ++ [c])
variable {A}
/-- a simple path: no letter twice, a walk, with its last letter -/
def Sp (A : Nat → Nat → Bool) (b : Nat) (x : List Nat) : Prop := x.Nodup ∧ Wk A x = true ∧ (∀ c ∈ x, c ∈ L8) ∧ x.getLast? = some b
end
end PT

end
section
namespace LW
open PySem DL PT
/-! how many words of each length -/
def mvRow (ts : List Nat) : List (Nat × Nat) := (ddI (ts.map fun k => ((k : Nat) : Int))).map fun k => (k.toNat, (ts.map fun k => ((k : Nat) : Int)).count k)
abbrev mwA : DL.Env → DL.R Fl := itmA 6 (intOp (fun _ _ => true) fun i j => i + j) (gAny 9) (bin mulD (gAny 8) (gAny 10))
abbrev mwB : DL.Env → DL.R Fl := (ifS (withEnv (tst (bin gtD (gAny 8) (kc (.int 0))))) (forS (withEnv (itX zD (bin ixD (gAny 4) (gAny 7)))) (gTupD 2 (gsCons (gSet 9) (gsCons (gSet 10) gsNil))) mwA) skipS)
abbrev mwD (M : List (List (Nat × Nat))) : List D := M.map fun L => .lst (L.map fun p => .tup [ni p.1, ni p.2])
abbrev mwC : DL.Env → DL.R Fl := (seqS (setO 6 (bin repD (mkL (aCons (kc (.int 0)) aNil)) (appN lenD (aCons (gAny 3) aNil)))) (frzS 3 (seqS (forS (withEnv (itN enD (aCons (gSh 3) aNil))) (gTupD 2 (gsCons (gSet 7) (gsCons (gSet 8) gsNil))) mwB) (frzS 6 (seqS (setS 3 (withEnv (gSh 6))) (appS 2 (appN sumD (aCons (lcD [("node", 7), ("many", 8)] (itN enD (aCons (gSh 3) aNil)) (gTupD 2 (gsCons (gSet 7) (gsCons (gSet 8) gsNil))) (tru (bin ixD (un1 (fldD "ends") (gSh 0)) (gAny 7))) (gSh 8)) aNil))))))))
end LW

end
section
namespace LW
open PySem DL PT
/-! a graph with some letters alone; letters checked -/
abbrev wlB : DL.Env → DL.R Fl := appS 2 (un1 toFz (dcD [("letter", 4), ("after", 5)] (itX itemsD (gSh 3)) (gTupD 2 (gsCons (gSet 4) (gsCons (gSet 5) gsNil))) (tst (bin (inB false) (gAny 4) (gAny 1))) (gSh 4) (gSh 5)))
end LW

end
section
namespace LW
open PySem DL PT
/-! lengths, count_of_length -/
end LW

end
section
namespace LW
open PySem DL PT
/-! ### count_loop_cut, paths -/
abbrev clT : D → DL.Env → DL.R DL.Env := gTupD 2 (gsCons (gSet 5) (gsCons (gSet 6) gsNil))
abbrev paL : DL.Env → DL.R D := (lcD [("letter", 7)] (itX zD (bin dgetD (gAny 3) (bin ixD (gAny 6) (un1 negD (kc (.int 1)))))) (gSet 7) (tst (bin (inB true) (gAny 7) (gAny 6))) (bin plusD (gAny 6) (gAny 7)))
abbrev paB : DL.Env → DL.R Fl := (seqS (setS 6 (popE 5)) (ifS (withEnv (tst (bin eqD (bin ixD (gAny 6) (un1 negD (kc (.int 1)))) (gAny 2)))) (appS 4 (gSh 6)) (extS 5 (lcD [("letter", 7)] (itX zD (bin dgetD (gAny 3) (bin ixD (gAny 6) (un1 negD (kc (.int 1)))))) (gSet 7) (tst (bin (inB true) (gAny 7) (gAny 6))) (bin plusD (gAny 6) (gAny 7))))))
/-- what paths gives: the simple paths, ascending -/
def pths (w : List (List Nat)) (a b : Nat) : List (List Nat) := srtW (pth (adW w) b 7 [a])
end LW

end
section
namespace PT
/-! ### two graphs at once -/
/-- by letters, the pairs behind a pair -/
def jrow (w : Nat) (R R2 : List (List (Nat × Nat))) (p : Nat) : List (Nat × Nat) := (R.getD (p / w) []).filterMap fun q => ((R2.getD (p % w) []).lookup q.1).map fun b => (q.1, q.2 * w + b)
end PT

end
section
namespace LW
open PySem DL PT
noncomputable section
/-! ### two graphs walked at once: joint_rows -/
abbrev jIn : DL.Env → DL.R Fl := (ifS (withEnv (tst (bin (inA false) (gAny 8) (bin ixD (un1 (fldD "arrows") (gSh 1)) (gAny 7))))) (seqS (hidS 3 (setS 10 (withEnv (bin plusD (bin mulD (gAny 9) (gAny 2)) (bin dgetD (bin ixD (un1 (fldD "arrows") (gSh 1)) (gAny 7)) (gAny 8)))))) (seqS (put2S 3 (gAny 5) (gAny 8) (gSh 10)) (ifS (withEnv (tst (bin (inA true) (gAny 10) (gAny 3)))) (seqS (newR 3 (gAny 10)) (hidS 3 (appS 4 (gSh 10)))) skipS))) skipS)
abbrev jFor : DL.Env → DL.R Fl := (forS (withEnv (hidI 3 (itX itemsD (bin ixD (un1 (fldD "arrows") (gSh 0)) (gAny 6))))) (hidG 3 (gTupD 2 (gsCons (gSet 8) (gsCons (gSet 9) gsNil)))) jIn)
abbrev jB : DL.Env → DL.R Fl := (seqS (hidS 3 (setS 5 (popE 4))) (seqS (hidS 3 (asgS (gTupD 2 (gsCons (gSet 6) (gsCons (gSet 7) gsNil))) (withEnv (appN divmodD (aCons (gAny 5) (aCons (gAny 2) aNil)))))) jFor))
abbrev rwK (r : List (Nat × Nat)) : List (L2.Key × D) := r.map fun q => ((.inr (mkS [q.1]) : L2.Key), ni q.2)
abbrev tK (K : List Nat) (rw : Nat → List (Nat × Nat)) : List (L2.Key × D) := K.map fun (x : Nat) => ((.inl (x : Int) : L2.Key), .dct (rwK (rw x)))
abbrev tD (K : List Nat) (rw : Nat → List (Nat × Nat)) : D := .dct (tK K rw)
abbrev tKF (K : List Nat) (rw : Nat → List (Nat × Nat)) : List (L2.Key × D) := K.map fun (x : Nat) => ((.inl (x : Int) : L2.Key), rwD (rw x))
abbrev tF (K : List Nat) (rw : Nat → List (Nat × Nat)) : D := .dct (tKF K rw)
theorem lookup_in {r : List (Nat × Nat)} {c b : Nat} (h : r.lookup c = some b) : (c, b) ∈ r := by
  induction r with
  | nil => cases h
  | cons q r ih =>
    rw [List.lookup_cons] at h
    by_cases z : c = q.1
    · rw [show (c == q.1) = true by rw [z]; exact beq_self_eq_true _] at h
      have h : some q.2 = some b := h
      rw [z, ← Option.some.inj h]
      exact List.mem_cons_self
    · rw [show (c == q.1) = false by simpa using z] at h
      exact List.mem_cons_of_mem _ (ih h)
theorem get_rwF {r : List (Nat × Nat)} {c b : Nat} (h : r.lookup c = some b) : dgetD (rwX r) (tx [c]) = some (ni b) := by
  show getD_ _ (.inr (mkS [c])) = _
  rw [get_rw, h]
  rfl
abbrev jf (w : Nat) (row2 : List (Nat × Nat)) (q : Nat × Nat) : Option (Nat × Nat) := (row2.lookup q.1).map fun b => (q.1, q.2 * w + b)
/-- what the search holds when it is done -/
def Jnt (R R2 : List (List (Nat × Nat))) (K : List Nat) : Prop := K.Nodup ∧ 0 ∈ K ∧ (∀ x ∈ K, x < R.length * R2.length) ∧ ∀ x ∈ K, ∀ q ∈ jrow R2.length R R2 x, q.2 ∈ K
end
end LW

end
section
namespace PT
/-! ### a row of cuts has no fewer cuts than the best parting -/
theorem cutBy_get {F : List Nat} {a b : Nat} (h : cutOk F (a, b)) (i : Nat) : (cutBy F (a, b))[i]? = if i ≤ a then F[i]? else F[i + (b - a)]? := by
  obtain ⟨h1, h2, _⟩ := h
  have h1 : a < b := h1
  have h2 : b < F.length := h2
  unfold cutBy
  by_cases z : i ≤ a
  · rw [if_pos z, List.getElem?_append_left (by rw [List.length_take]; show i < min (a + 1) F.length; omega), List.getElem?_take, if_pos (show i < a + 1 by omega)]
  · rw [if_neg z, List.getElem?_append_right (by rw [List.length_take]; show min (a + 1) F.length ≤ i; omega), List.getElem?_drop, List.length_take]
    congr 1
    show b + 1 + (i - min (a + 1) F.length) = i + (b - a)
    omega
theorem cutBy_lenE {F : List Nat} {a b : Nat} (h : cutOk F (a, b)) : (cutBy F (a, b)).length + (b - a) = F.length := by
  obtain ⟨h1, h2, _⟩ := h
  have h1 : a < b := h1
  have h2 : b < F.length := h2
  unfold cutBy
  rw [List.length_append, List.length_take, List.length_drop]
  show min (a + 1) F.length + (F.length - (b + 1)) + (b - a) = F.length
  omega
theorem isP_far {F : List Nat} {a b : Nat} (h : cutOk F (a, b)) : ∀ (g es : List Nat) (s : Nat), a < s → es.length = g.length → isP (cutBy F (a, b)) g s es = true → isP F g (s + (b - a)) (es.map fun e => e + (b - a)) = true ∧ lb (s + (b - a)) (es.map fun e => e + (b - a)) = lb s es
  | [], [], s, hs, _, hp => by
    have := isP_nil.mp hp
    refine ⟨isP_nil.mpr ?_, rfl⟩
    rw [this, cutBy_lenE h]
  | [], e :: es, s, _, hl, _ => by simp at hl
  | c :: g, [], s, _, hl, _ => by simp at hl
  | c :: g, e :: es, s, hs, hl, hp => by
    obtain ⟨h1, h2, h3, h4⟩ := isP_cons.mp hp
    obtain ⟨i1, i2⟩ := isP_far h g es (e + 1) (by omega) (by simpa using hl) h4
    rw [cutBy_get h, if_neg (by omega)] at h2 h3
    have e1 : e + 1 + (b - a) = e + (b - a) + 1 := by omega
    rw [e1] at i1 i2
    rw [List.map_cons]
    refine ⟨isP_cons.mpr ⟨by omega, h2, h3, i1⟩, ?_⟩
    show (if s + (b - a) < e + (b - a) then 1 else 0) + lb (e + (b - a) + 1) (es.map fun e => e + (b - a)) = (if s < e then 1 else 0) + lb (e + 1) es
    rw [i2]
    by_cases z : s < e
    · rw [if_pos z, if_pos (by omega)]
    · rw [if_neg z, if_neg (by omega)]
/-! ### places that are kept -/
def cutAll (K : List Nat) (ps : List (Nat × Nat)) : List Nat := ps.foldl cutBy K
end PT

end
section
namespace PT
/-! ### turned films -/
def tr (F : List Nat) (i : Nat) : List Nat := F.drop i ++ F.take i
def turns (F : List Nat) : List (List Nat) := (List.range F.length).map (tr F)
/-- one of the other by turning -/
def Rt (F G : List Nat) : Prop := ∃ U V, F = U ++ V ∧ G = V ++ U
/-- the least of some words -/
def lw (x : List Nat) (xs : List (List Nat)) : List Nat := xs.foldl (fun a y => if decide (y < a) = true then y else a) x
/-- a ring's name -/
def nm (F : List Nat) : List Nat := lw (tr F 0) ((List.range' 1 (F.length - 1)).map (tr F))
/-- the least period -/
def per (F : List Nat) : Nat := (((List.range' 1 F.length).filter fun p => decide (tr F p = F)).head?).getD F.length
end PT

end
section
namespace PT
/-! ### a cut makes no more partings -/
theorem E_nodup (F g : List Nat) : (E F g 0).Nodup := by
  rw [E_eq]
  refine List.pairwise_map.mpr (List.Pairwise.imp_of_mem (fun {i j} hi hj hij he => hij ?_) (List.nodup_range (n := W g F)))
  have a := (at_ok F g 0 i (Nat.zero_le _) (by rw [List.drop_zero]; exact List.mem_range.mp hi)).2.1
  have b := (at_ok F g 0 j (Nat.zero_le _) (by rw [List.drop_zero]; exact List.mem_range.mp hj)).2.1
  rw [← a, ← b, he]
def ups (a d : Nat) (es : List Nat) : List Nat := es.map fun e => if e < a then e else e + d
theorem ups_inj (a d : Nat) : ∀ {x y : List Nat}, ups a d x = ups a d y → x = y
  | [], [], _ => rfl
  | [], _ :: _, h => by cases h
  | _ :: _, [], h => by cases h
  | p :: x, q :: y, h => by
    obtain ⟨h1, h2⟩ := List.cons.inj h
    have h1 : (if p < a then p else p + d) = (if q < a then q else q + d) := h1
    have e : p = q := by
      by_cases z : p < a
      · rw [if_pos z] at h1
        by_cases y : q < a
        · rw [if_pos y] at h1; exact h1
        · rw [if_neg y] at h1; omega
      · rw [if_neg z] at h1
        by_cases y : q < a
        · rw [if_pos y] at h1; omega
        · rw [if_neg y] at h1; omega
    rw [e, ups_inj a d (x := x) (y := y) h2]
theorem isP_ups {F : List Nat} {a b : Nat} (h : cutOk F (a, b)) : ∀ (g es : List Nat) (s : Nat), s ≤ a → es.length = g.length → isP (cutBy F (a, b)) g s es = true → isP F g s (ups a (b - a) es) = true
  | [], [], s, hs, _, hp => by
    have := isP_nil.mp hp
    have l := cutBy_lenE h
    have h1 : a < b := h.1
    have h2 : b < F.length := h.2.1
    omega
  | [], e :: es, s, _, hl, _ => by simp at hl
  | c :: g, [], s, _, hl, _ => by simp at hl
  | c :: g, e :: es, s, hs, hl, hp => by
    obtain ⟨h1, h2, h3, h4⟩ := isP_cons.mp hp
    rw [cutBy_get h, if_pos hs] at h2
    rw [cutBy_get h] at h3
    have hl' : es.length = g.length := by simpa using hl
    show isP F (c :: g) s ((if e < a then e else e + (b - a)) :: ups a (b - a) es) = true
    by_cases z : e < a
    · rw [if_pos (by omega)] at h3
      rw [if_pos z]
      exact isP_cons.mpr ⟨h1, h2, h3, isP_ups h g es (e + 1) (by omega) hl' h4⟩
    · obtain ⟨i1, _⟩ := isP_far h g es (e + 1) (by omega) hl' h4
      have h3' : F[e + (b - a)]? = some c := by
        by_cases y : e ≤ a
        · rw [if_pos y] at h3
          have ea : e = a := by omega
          rw [ea] at h3 ⊢
          have h5 : F[a]? = F[b]? := h.2.2
          have hab : a < b := h.1
          rw [show a + (b - a) = b by omega, ← h5, h3]
        · rw [if_neg y] at h3
          exact h3
      have e1 : e + 1 + (b - a) = e + (b - a) + 1 := by omega
      rw [e1] at i1
      rw [if_neg z]
      have e2 : ups a (b - a) es = es.map fun e => e + (b - a) := List.map_congr_left fun q hq => by
        have := isP_ge hl' h4 q hq
        rw [if_neg (by omega)]
      rw [e2]
      exact isP_cons.mpr ⟨by omega, h2, h3', i1⟩
theorem W_mono {F g : List Nat} {p : Nat × Nat} (h : cutOk F p) : W g (cutBy F p) ≤ W g F := by
  obtain ⟨a, b⟩ := p
  have l1 := E_len (cutBy F (a, b)) g 0 (Nat.zero_le _)
  have l2 := E_len F g 0 (Nat.zero_le _)
  rw [List.drop_zero] at l1 l2
  rw [← l1, ← l2, ← List.length_map (f := ups a (b - a))]
  refine nodup_le ?_ fun x hx => ?_
  · exact List.pairwise_map.mpr ((E_nodup _ _).imp fun h z => h (ups_inj _ _ z))
  · obtain ⟨es, hes, e⟩ := List.mem_map.mp hx
    obtain ⟨i1, i2⟩ := E_isP hes
    have := isP_ups h g es 0 (Nat.zero_le _) i2 i1
    rw [← e]
    exact isP_E g _ 0 (by unfold ups; rw [List.length_map]; exact i2) this
/-! a letter doubled -/
def dbl (F : List Nat) (i : Nat) : List Nat := F.take i ++ F.getD i 0 :: F.drop i
end PT

end
section
namespace PT
/-! ### films renamed, films repeated, rings -/
section
variable {f : Nat → Nat}
end
/-! ### repeated -/
def rpt (F : List Nat) (k : Nat) : List Nat := (List.replicate k F).flatten
end PT

end
section
namespace LW
open PySem DL PT
/-! ### films renamed -/
def rnm (names : List Nat) (c : Nat) : Nat := names.getD (c - 97) 0
def rv (c : Nat) : Nat := if 97 ≤ c ∧ c ≤ 104 then 201 - c else c
end LW

end
section
namespace LW
open PySem DL PT
/-! ### blocks of at most so many letters -/
def tbB (B : Nat → Bool) (F : List Nat) : D := .lst ((List.range (F.length + 1)).map fun p => D.bl (B p))
def lat (F : List Nat) (c : Nat) (B : Nat → Bool) : Nat → Option Nat
  | 0 => none
  | i + 1 => if F[i]? = some c ∧ B i = true then some i else lat F c B i
def stb (F : List Nat) (m c : Nat) (B : Nat → Bool) (i : Nat) : List D := (List.range (F.length + 1)).map fun p => D.bl (if p ≤ i then rb F m c B p else false)
def lo : Option Nat → D
  | none => .non
  | some s => ni s
end LW

end
section
namespace LW
open PySem DL PT
/-! ### the law's own list of all partings -/
abbrev pr (x : List Nat × Nat) : D := .tup [tn x.1, ni x.2]
def pot (F : List Nat) (fnd : List (List Nat × Nat)) : Nat := (fnd.map fun x => 2 ^ (F.length - x.2)).sum
def one (F : List Nat) (c : Nat) (x : List Nat × Nat) : List (List Nat × Nat) := if F[x.2]? = some c then (pl F c x.2).map fun p => (x.1 ++ [p], p + 1) else []
abbrev EP (f g found letter : D) (later told start place : Slot) : DL.Env := [.sh f, .sh g, .sh found, .sh letter, later, told, start, place]
abbrev placeB : DL.Env → DL.R Fl := ifS (withEnv (tst (bin eqD (bin ixD (gAny 0) (gAny 7)) (gAny 3)))) (appS 4 (mkT (aCons (bin plusD (gAny 5) (mkT (aCons (gSh 7) aNil))) (aCons (bin plusD (gAny 7) (kc (.int 1))) aNil)))) skipS
abbrev midB : DL.Env → DL.R Fl := ifS (withEnv (andB (tst (bin ltD (gAny 6) (appN lenD (aCons (gAny 0) aNil)))) (tst (bin eqD (bin ixD (gAny 0) (gAny 6)) (gAny 3))))) (forS (withEnv (itN rg2 (aCons (gAny 6) (aCons (appN lenD (aCons (gAny 0) aNil)) aNil)))) (gSet 7) placeB) skipS
abbrev NO (s : DL.Slot) : Prop := isOwn (some s) = false
end LW

end
section
namespace LW
open PySem DL PT
theorem isP_mem (F : List Nat) : ∀ (g es : List Nat) (s : Nat), es.length = g.length → isP F g s es = true → es ∈ E F g s
  | [], es, s, hl, h => by
    have : es = [] := List.eq_nil_of_length_eq_zero (by simpa using hl)
    subst this
    have h1 : s = F.length := by simpa [isP] using h
    unfold E
    rw [if_pos h1]
    exact List.mem_singleton.mpr rfl
  | c :: g, [], s, hl, h => by simp at hl
  | c :: g, e :: es, s, hl, h => by
    unfold isP at h
    split at h
    · rename_i h1
      split at h
      · rename_i h2
        simp only [Bool.and_eq_true, decide_eq_true_eq] at h1
        have ih := isP_mem F g es (e + 1) (by simpa using hl) h
        unfold E
        rw [if_pos h2.1]
        refine List.mem_flatMap.mpr ⟨e, ?_, List.mem_map.mpr ⟨es, ih, rfl⟩⟩
        unfold pl
        exact List.mem_filter.mpr ⟨List.mem_range'_1.mpr ⟨h1.1, by omega⟩, decide_eq_true h2.2⟩
      · cases h
    · cases h
theorem mem_iff {F g es : List Nat} (hl : es.length = g.length) : isP F g 0 es = decide (es ∈ E F g 0) := by
  rw [Bool.eq_iff_iff, decide_eq_true_eq]
  exact ⟨isP_mem F g es 0 hl, fun h => (E_isP h).1⟩
/-- the places at which a block can end, size by size -/
def P (F g : List Nat) (sz : Nat) : List Nat := (List.range F.length).filter fun p => decide (0 < W (g.take sz) (F.take (p + 1)))
/-- the blocks of a parting -/
def blks (F : List Nat) : Nat → List Nat → List D
  | _, [] => []
  | s, e :: es => tx ((F.take (e + 1)).drop s) :: blks F (e + 1) es
end LW

end
section
namespace LW
open PySem DL PT
/-! ### the evenest -/
/-! ### the widest block can be -/
def spn (F st st' : List Nat) : List (Nat × Nat) := List.zipWith (fun s m => (s, F.length - 1 - m)) st st'.reverse
end LW

end
section
/-! ### counts by numbers: a row of count_common_words' table -/
namespace DL
open PySem L2
def rwI (l : List (Nat × Nat)) : List (Key × D) := l.map fun p => (.inl ((p.1 : Nat) : Int), .int ((p.2 : Nat) : Int))
def rcnt : List (Nat × Nat) → Nat → Nat
  | [], _ => 0
  | (q, n) :: l, b => if q = b then n else rcnt l b
def rput : List (Nat × Nat) → Nat → Nat → List (Nat × Nat)
  | [], b, m => [(b, m)]
  | (q, n) :: l, b, m => if q = b then (q, n + m) :: l else (q, n) :: rput l b m
def wsum (c : Nat → Nat) : List (Nat × Nat) → Nat
  | [] => 0
  | (b, m) :: l => m * c b + wsum c l
theorem rput_mem : ∀ {l : List (Nat × Nat)} {b m x : Nat}, x ∈ (rput l b m).map (·.1) → x = b ∨ x ∈ l.map (·.1)
  | [], b, m, x, h => .inl (List.mem_singleton.mp h)
  | (q, n) :: l, b, m, x, h => by
    unfold rput at h
    by_cases e : q = b
    · rw [if_pos e] at h
      exact .inr h
    · rw [if_neg e] at h
      rcases List.mem_cons.mp h with z | z
      · exact .inr (z ▸ List.mem_cons_self)
      · rcases rput_mem z with y | y
        · exact .inl y
        · exact .inr (List.mem_cons_of_mem _ y)
theorem rput_nodup : ∀ {l : List (Nat × Nat)} {b m : Nat}, (l.map (·.1)).Nodup → ((rput l b m).map (·.1)).Nodup
  | [], b, m, _ => by simp [rput]
  | (q, n) :: l, b, m, h => by
    unfold rput
    have hh := List.nodup_cons.mp h
    by_cases e : q = b
    · rw [if_pos e]
      exact List.nodup_cons.mpr hh
    · rw [if_neg e]
      refine List.nodup_cons.mpr ⟨fun z => ?_, rput_nodup hh.2⟩
      rcases rput_mem z with y | y
      · exact e y
      · exact hh.1 y
end DL

end
section
/-! ### the table of count_common_words: what it is worth stays the same -/
namespace DL
open PySem L2
/-- the worth of a table: the rows from k on, c i b the worth of one word at (i, b) -/
def tsum (c : Nat → Nat → Nat) : Nat → List (List (Nat × Nat)) → Nat
  | _, [] => 0
  | k, r :: T => wsum (c k) r + tsum c (k + 1) T
/-- the rows of one node with another's, put by put: es = what the arrows of the two nodes lead to, pair by pair -/
def tputs (m : Nat) : List (Nat × Nat) → List (List (Nat × Nat)) → List (List (Nat × Nat))
  | [], T => T
  | (a, b) :: es, T => tputs m es (match T[a]? with
    | some r => T.set a (rput r b m)
    | none => T)
end DL

end
section
/-! ### count_common_words' loop: its total is the worth of (0, 0) -/
namespace DL
open PySem L2
section
variable (e : Nat → Nat → Bool) (E : Nat → Nat → List (Nat × Nat))
abbrev TabT : Type := Nat × List (List (Nat × Nat))
def tnode (a : Nat) : List (Nat × Nat) → TabT → TabT
  | [], s => s
  | (b, m) :: l, s => tnode a l (s.1 + (if e a b = true then m else 0), tputs m (E a b) s.2)
def trun : Nat → Nat → TabT → TabT
  | 0, _, s => s
  | n + 1, a, s => trun n (a + 1) (tnode e E a ((s.2[a]?).getD []) (s.1, s.2.set a []))
variable (c : Nat → Nat → Nat)
end
end DL

end
section
/-! ### the rows of the table: their keys have no doubles, and are nodes -/
namespace DL
open PySem L2
def TOk (N2 : Nat) (T : List (List (Nat × Nat))) : Prop := ∀ r ∈ T, (r.map (·.1)).Nodup ∧ ∀ x ∈ r.map (·.1), x < N2
theorem TOk.set {N2 : Nat} {T : List (List (Nat × Nat))} (h : TOk N2 T) (i : Nat) {r : List (Nat × Nat)} (h1 : (r.map (·.1)).Nodup) (h2 : ∀ x ∈ r.map (·.1), x < N2) : TOk N2 (T.set i r) := fun r' hr => by
  rcases List.mem_or_eq_of_mem_set hr with z | z
  · exact h r' z
  · subst z
    exact ⟨h1, h2⟩
theorem TOk.nil {N2 n : Nat} : TOk N2 (List.replicate n []) := fun r hr => by
  rw [(List.mem_replicate.mp hr).2]
  exact ⟨.nil, fun x hx => nomatch hx⟩
theorem TOk.rput {N2 : Nat} {T : List (List (Nat × Nat))} (h : TOk N2 T) {i b m : Nat} {r : List (Nat × Nat)} (hr : T[i]? = some r) (hb : b < N2) : TOk N2 (T.set i (rput r b m)) := by
  obtain ⟨h1, h2⟩ := h r (List.mem_of_getElem? hr)
  refine h.set i (rput_nodup h1) fun x hx => ?_
  rcases rput_mem hx with y | y
  · exact y ▸ hb
  · exact h2 x y
theorem TOk.puts {N2 : Nat} (m : Nat) : ∀ (es : List (Nat × Nat)) {T : List (List (Nat × Nat))}, TOk N2 T → (∀ x ∈ es, x.2 < N2) → TOk N2 (tputs m es T)
  | [], _, h, _ => h
  | (a, b) :: es, T, h, hb => by
    unfold tputs
    refine TOk.puts m es ?_ fun x hx => hb x (List.mem_cons_of_mem _ hx)
    cases z : T[a]? with
    | some r => exact h.rput z (hb (a, b) List.mem_cons_self)
    | none => exact h
theorem TOk.node {N2 : Nat} {e : Nat → Nat → Bool} {E : Nat → Nat → List (Nat × Nat)} {a : Nat} (hE : ∀ b, ∀ x ∈ E a b, x.2 < N2) : ∀ (l : List (Nat × Nat)) {s : TabT}, TOk N2 s.2 → TOk N2 (tnode e E a l s).2
  | [], _, h => h
  | (b, m) :: l, s, h => by
    unfold tnode
    exact TOk.node hE l (h.puts m (E a b) (hE b))
theorem nodup_leN : ∀ (n : Nat) {l : List Nat}, l.Nodup → (∀ x ∈ l, x < n) → l.length ≤ n
  | 0, [], _, _ => Nat.le_refl _
  | 0, x :: l, _, h => absurd (h x List.mem_cons_self) (Nat.not_lt_zero x)
  | n + 1, l, nd, h => by
    have h1 : (l.erase n).length ≤ n := nodup_leN n (nd.erase n) fun x hx => by
      have := h x (List.mem_of_mem_erase hx)
      have ne : x ≠ n := fun z => by
        subst z
        exact (List.Nodup.not_mem_erase nd) hx
      omega
    by_cases z : n ∈ l
    · have := List.length_erase_of_mem z
      omega
    · rw [List.erase_of_not_mem z] at h1
      omega
/-- a row is never longer than the other graph has nodes -/
theorem TOk.len {N2 : Nat} {T : List (List (Nat × Nat))} (h : TOk N2 T) {r : List (Nat × Nat)} (hr : r ∈ T) : r.length ≤ N2 := by
  have := nodup_leN N2 (h r hr).1 (h r hr).2
  rwa [List.length_map] at this
end DL

end
section
/-! ### the worth of a pair of nodes, by fuel -/
namespace DL
open PySem L2
section
variable (e : Nat → Nat → Bool) (E : Nat → Nat → List (Nat × Nat))
def cfu : Nat → Nat → Nat → Nat
  | 0, _, _ => 0
  | f + 1, a, b => (if e a b = true then 1 else 0) + ((E a b).map fun x => cfu f x.1 x.2).sum
end
end DL

end
section
namespace PT
/-! ### mends: letters put in, left out, changed -/
section
variable (g : List Nat) (pi lo ch : Nat)
def mpe (e w : Nat → Nat) : Nat → Nat
  | 0 => e 0
  | b + 1 => min (min (e (b + 1)) (mpe e w b + pi)) (w (b + 1) + pi)
def mpw (e w : Nat → Nat) : Nat → Nat
  | 0 => w 0
  | b + 1 => min (w (b + 1)) (mpe pi e w (b + 1))
def mco (c b : Nat) : Nat := if g[b]? = some c then 0 else ch
def mne (c : Nat) (e w : Nat → Nat) : Nat → Nat
  | 0 => e 0 + lo
  | b + 1 => min (min (e b) (w (b + 1)) + mco g ch c b) (e (b + 1) + lo)
def mnw (c : Nat) (e w : Nat → Nat) : Nat → Nat
  | 0 => w 0
  | b + 1 => min (min (e b) (w (b + 1)) + mco g ch c b) (w (b + 1))
def me0 : Nat → Nat
  | 0 => 0
  | _ + 1 => 1000
def mw0 : Nat → Nat := fun _ => 1000
/-- the two rows behind the letters of A -/
def msta : List Nat → (Nat → Nat) × (Nat → Nat) := fun A => A.foldl (fun s c => (mpe pi (mne g lo ch c s.1 s.2) (mnw g ch c s.1 s.2), mpw pi (mne g lo ch c s.1 s.2) (mnw g ch c s.1 s.2))) (mpe pi me0 mw0, mpw pi me0 mw0)
def SE (A : List Nat) : Nat → Nat := (msta g pi lo ch A).1
def SW (A : List Nat) : Nat → Nat := (msta g pi lo ch A).2
end
section
variable {g : List Nat} {pi lo ch : Nat}
/-- what put-ins leave closed -/
def Clo (pi : Nat) (e w : Nat → Nat) : Prop := ∀ b, e (b + 1) ≤ e b + pi ∧ e (b + 1) ≤ w (b + 1) + pi ∧ w (b + 1) ≤ e (b + 1)
/-- a word made another one, at a price -/
inductive Al (P : Nat → Prop) (pi lo ch : Nat) : List Nat → List Nat → Nat → Prop
  | nil : Al P pi lo ch [] [] 0
  | keep {A A' : List Nat} {k : Nat} (c : Nat) (h : Al P pi lo ch A A' k) : Al P pi lo ch (A ++ [c]) (A' ++ [c]) k
  | put {A A' : List Nat} {k : Nat} (c : Nat) (hc : P c) (h : Al P pi lo ch A A' k) : Al P pi lo ch A (A' ++ [c]) (k + pi)
  | out {A A' : List Nat} {k : Nat} (c : Nat) (h : Al P pi lo ch A A' k) : Al P pi lo ch (A ++ [c]) A' (k + lo)
  | chg {A A' : List Nat} {k : Nat} (c d : Nat) (hd : P d) (h : Al P pi lo ch A A' k) : Al P pi lo ch (A ++ [c]) (A' ++ [d]) (k + ch)
/-! what comes to the goal costs nothing -/
/-- the words that stand in the block of the letter j, open -/
def Ins (g : List Nat) (j : Nat) (A : List Nat) : Prop := ∃ (U V : List Nat) (c : Nat), g[j]? = some c ∧ A = U ++ c :: V ∧ 0 < W (g.take j) U
/-! what the rows say can be done -/
def Can (g : List Nat) (pi lo ch : Nat) (A : List Nat) (e w : Nat → Nat) : Prop := ∀ j, j ≤ g.length → (e j < 1000 → ∃ A' k, k ≤ e j ∧ Al (· ∈ g) pi lo ch A A' k ∧ 0 < W (g.take j) A') ∧ (j < g.length → w (j + 1) < 1000 → ∃ A' k, k ≤ w (j + 1) ∧ Al (· ∈ g) pi lo ch A A' k ∧ Ins g j A')
end
/-- the least price -/
def dm (F g : List Nat) (pi lo ch : Nat) : Nat := SE g pi lo ch F g.length
end PT

end
section
namespace PT
/-! ### the graph of the films that come to a goal -/
def nxt (g : List Nat) (v c : Nat) : Option Nat :=
  if v % 2 = 0 ∧ g[v / 2]? = some c then some (v + 2)
  else if v = 0 then none
  else if g[(v + 1) / 2 - 1]? = some c then some (2 * ((v + 1) / 2)) else some (2 * ((v + 1) / 2) - 1)
def run (g : List Nat) : Nat → List Nat → Option Nat
  | v, [] => some v
  | v, c :: A => match nxt g v c with
    | none => none
    | some u => run g u A
section
variable {g : List Nat}
def St (g : List Nat) (A : List Nat) (v : Nat) : Prop :=
  (A = [] ∧ v = 0) ∨ ∃ b, 1 ≤ b ∧ (v = 2 * b ∨ v = 2 * b - 1) ∧ Ins g (b - 1) A ∧ (∀ j, b ≤ j → ¬ Ins g j A) ∧ (v = 2 * b ↔ A.getLast? = g[b - 1]?)
theorem W_first {A : List Nat} (hg : g ≠ []) (w : 0 < W g A) : A.head? = g.head? := by
  cases g with
  | nil => exact absurd rfl hg
  | cons c g =>
    have := W_cons (F := A) (c := c) (g := g) (s := 0)
    rw [List.drop_zero] at this
    rw [this] at w
    by_cases z : A[0]? = some c
    · rw [List.head?_eq_getElem?, z]; rfl
    · rw [if_neg z] at w; cases w
end
/-! ### words of a length in a graph -/
def wx (R : List (List (Nat × Nat))) (E : List Bool) : Nat → Nat → List (List Nat)
  | 0, v => if E.getD v false = true then [[]] else []
  | k + 1, v => (R.getD v []).flatMap fun p => (wx R E k p.2).map fun l => p.1 :: l
def aw (L : List Nat) : Nat → List (List Nat)
  | 0 => [[]]
  | k + 1 => L.flatMap fun c => (aw L k).map fun l => c :: l
def bR (g L : List Nat) : List (List (Nat × Nat)) := (List.range (2 * g.length + 1)).map fun v => L.filterMap fun c => (nxt g v c).map fun u => (c, u)
def bE (g : List Nat) : List Bool := List.replicate (2 * g.length) false ++ [true]
/-! ### unrolled -/
def urow (R : List (List (Nat × Nat))) (i : Nat) : List (Nat × Nat) := (R.getD (i % R.length) []).map fun p => (p.1, (i / R.length + 1) * R.length + p.2)
def uR (R : List (List (Nat × Nat))) (s : Nat) : List (List (Nat × Nat)) := (List.range (s * R.length)).map (urow R) ++ List.replicate R.length []
def uE (R : List (List (Nat × Nat))) (E : List Bool) (s : Nat) : List Bool := List.replicate (s * R.length) false ++ E
section
variable {R : List (List (Nat × Nat))} {E : List Bool} {s : Nat}
end
end PT

end
section
namespace PT
/-! ### words that two graphs have in common -/
theorem lk_iff {r : List (Nat × Nat)} (h : (r.map (·.1)).Nodup) {c b : Nat} : r.lookup c = some b ↔ (c, b) ∈ r := by
  induction r with
  | nil => simp
  | cons q r ih =>
    obtain ⟨n1, n2⟩ := List.nodup_cons.mp (show (q.1 :: r.map (·.1)).Nodup from h)
    rw [List.lookup_cons]
    by_cases z : c = q.1
    · rw [show (c == q.1) = true by rw [z]; exact beq_self_eq_true _]
      constructor
      · intro e
        have e : some q.2 = some b := e
        rw [z, ← Option.some.inj e]
        exact List.mem_cons_self
      · intro e
        rcases List.mem_cons.mp e with y | y
        · rw [← y]
        · exact absurd (List.mem_map.mpr ⟨_, y, rfl⟩) (z ▸ n1)
    · rw [show (c == q.1) = false by simpa using z]
      show r.lookup c = some b ↔ _
      rw [ih n2]
      constructor
      · exact fun e => List.mem_cons_of_mem _ e
      · intro e
        rcases List.mem_cons.mp e with y | y
        · exact absurd (congrArg Prod.fst y) z
        · exact y
/-- a row of the graph of the words in common -/
def idx (P : List Nat) (x : Nat) : Nat := P.findIdx fun y => decide (y = x)
def cR (P : List Nat) (R R2 : List (List (Nat × Nat))) : List (List (Nat × Nat)) := P.map fun x => (jrow R2.length R R2 x).map fun q => (q.1, idx P q.2)
def cEn (P : List Nat) (w : Nat) (E E2 : List Bool) : List Bool := P.map fun x => E.getD (x / w) false && E2.getD (x % w) false
end PT

end
section
/-! ### the worth of a pair of nodes is the number of words that they have in common -/
namespace DL
open PySem L2 PT PT
section
variable {R R2 : List (List (Nat × Nat))} {E E2 : List Bool}
def EE (R R2 : List (List (Nat × Nat))) (a b : Nat) : List (Nat × Nat) := (R.getD a []).filterMap fun p => ((R2.getD b []).lookup p.1).map fun q => (p.2, q)
def cw (R : List (List (Nat × Nat))) (E : List Bool) (R2 : List (List (Nat × Nat))) (E2 : List Bool) (a b : Nat) : Nat := ((wd R E a).filter fun l => decide (l ∈ wd R2 E2 b)).length
end
end DL

end
section
/-! ### count_common_words' total is the number of words in common -/
namespace DL
open PySem L2 PT
section
variable {R R2 : List (List (Nat × Nat))} {E E2 : List Bool}
def eE (E E2 : List Bool) (a b : Nat) : Bool := E.getD a false && E2.getD b false
end
end DL

end
section
/-! ### words of one graph that lead through another, which may have rings -/
namespace DL
open PySem L2 PT
section
variable {R R2 : List (List (Nat × Nat))} {E E2 : List Bool}
def accB (R2 : List (List (Nat × Nat))) (E2 : List Bool) : List Nat → Nat → Bool
  | [], b => E2.getD b false
  | x :: l, b => match (R2.getD b []).lookup x with
    | some q => accB R2 E2 l q
    | none => false
def cA (R : List (List (Nat × Nat))) (E : List Bool) (R2 : List (List (Nat × Nat))) (E2 : List Bool) (a b : Nat) : Nat := ((wd R E a).filter fun l => accB R2 E2 l b).length
end
end DL

end
section
/-! ### the first of the shortest words that lead to a good node -/
namespace DL
open PySem L2 PT
section
variable (J : Nat → List (Nat × Nat))
def stp : List Nat → Nat → Option Nat
  | [], p => some p
  | c :: u, p => match (J p).lookup c with
    | some t => stp u t
    | none => none
theorem stp_app : ∀ (u v : List Nat) (p : Nat), stp J (u ++ v) p = (stp J u p).bind (stp J v)
  | [], v, p => rfl
  | c :: u, v, p => by
    show (match (J p).lookup c with
      | some t => stp J (u ++ v) t
      | none => none) = (match (J p).lookup c with
      | some t => stp J u t
      | none => none).bind (stp J v)
    cases (J p).lookup c with
    | none => rfl
    | some t => exact stp_app u v t
theorem stp_snoc (u : List Nat) (c p : Nat) : stp J (u ++ [c]) p = (stp J u p).bind fun q => (J q).lookup c := by
  rw [stp_app]
  congr 1
  funext q
  show (match (J q).lookup c with
    | some t => some t
    | none => none) = _
  cases (J q).lookup c <;> rfl
def newG : List (Nat × List Nat) → List Nat → List (Nat × List Nat)
  | [], _ => []
  | q :: g, s => if q.1 ∈ s then newG g s else q :: newG g (s ++ [q.1])
def fsG : List (Nat × List Nat) → List Nat × List (Nat × List Nat) → List Nat × List (Nat × List Nat)
  | [], s => s
  | q :: g, s => fsG g (if q.1 ∈ s.1 then s else (s.1 ++ [q.1], s.2 ++ [q]))
theorem newG_sub : ∀ (g : List (Nat × List Nat)) (s : List Nat), (newG g s).Sublist g
  | [], _ => .slnil
  | q :: g, s => by
    unfold newG
    split
    · exact (newG_sub g s).cons _
    · exact (newG_sub g _).cons₂ _
theorem newG_out : ∀ (g : List (Nat × List Nat)) (s : List Nat), ∀ q ∈ newG g s, q.1 ∉ s
  | [], _, _, h => nomatch h
  | q :: g, s, x, h => by
    unfold newG at h
    by_cases z : q.1 ∈ s
    · rw [if_pos z] at h
      exact newG_out g s x h
    · rw [if_neg z] at h
      rcases List.mem_cons.mp h with e | h
      · rw [e]; exact z
      · exact fun y => newG_out g _ x h (List.mem_append.mpr (.inl y))
theorem newG_nd : ∀ (g : List (Nat × List Nat)) (s : List Nat), ((newG g s).map (·.1)).Nodup
  | [], _ => List.nodup_nil
  | q :: g, s => by
    unfold newG
    split
    · exact newG_nd g s
    · rw [List.map_cons]
      refine List.nodup_cons.mpr ⟨fun h => ?_, newG_nd g _⟩
      obtain ⟨x, hx, e⟩ := List.mem_map.mp h
      exact newG_out g _ x hx (List.mem_append.mpr (.inr (by rw [e]; exact List.mem_singleton.mpr rfl)))
theorem newG_cov : ∀ (g : List (Nat × List Nat)) (s : List Nat), g.Pairwise (fun x y => x.2 < y.2) → ∀ q ∈ g, q.1 ∈ s ∨ ∃ x, (q.1, x) ∈ newG g s ∧ x ≤ q.2
  | [], _, _, _, h => nomatch h
  | q0 :: g, s, hp, q, h => by
    obtain ⟨h1, h2⟩ := List.pairwise_cons.mp hp
    unfold newG
    by_cases z : q0.1 ∈ s
    · rw [if_pos z]
      rcases List.mem_cons.mp h with e | h
      · rw [e]; exact .inl z
      · exact newG_cov g s h2 q h
    · rw [if_neg z]
      rcases List.mem_cons.mp h with e | h
      · rw [e]; exact .inr ⟨q0.2, List.mem_cons_self, List.le_refl _⟩
      · rcases newG_cov g (s ++ [q0.1]) h2 q h with y | ⟨x, hx, l⟩
        · rcases List.mem_append.mp y with y | y
          · exact .inl y
          · refine .inr ⟨q0.2, ?_, List.le_of_lt (h1 q h)⟩
            rw [List.mem_singleton.mp y]
            exact List.mem_cons_self
        · exact .inr ⟨x, List.mem_cons_of_mem _ hx, l⟩
def genL (lev : List (Nat × List Nat)) : List (Nat × List Nat) := lev.flatMap fun q => (J q.1).map fun a => (a.2, q.2 ++ [a.1])
theorem mem_gen {lev : List (Nat × List Nat)} {x : Nat × List Nat} : x ∈ genL J lev ↔ ∃ q ∈ lev, ∃ a ∈ J q.1, x = (a.2, q.2 ++ [a.1]) := by
  unfold genL
  rw [List.mem_flatMap]
  constructor
  · rintro ⟨q, hq, h⟩
    obtain ⟨a, ha, e⟩ := List.mem_map.mp h
    exact ⟨q, hq, a, ha, e.symm⟩
  · rintro ⟨q, hq, a, ha, e⟩
    exact ⟨q, hq, List.mem_map.mpr ⟨a, ha, e.symm⟩⟩
theorem lt_same {c d : Nat} (h : c < d) : ∀ u : List Nat, u ++ [c] < u ++ [d]
  | [] => List.Lex.rel h
  | a :: u => List.Lex.cons (lt_same h u)
theorem lt_diff : ∀ {u v : List Nat}, u < v → u.length = v.length → ∀ x y : List Nat, u ++ x < v ++ y
  | [], [], h, _, _, _ => by cases h
  | a :: u, b :: v, h, hl, x, y => by
    have hl2 : u.length = v.length := Nat.succ.inj hl
    cases h with
    | rel h => exact List.Lex.rel h
    | cons h => exact List.Lex.cons (lt_diff h hl2 x y)
theorem le_snoc {u v : List Nat} (h : u ≤ v) (hl : u.length = v.length) (c : Nat) : u ++ [c] ≤ v ++ [c] := by
  rcases List.le_iff_lt_or_eq.mp h with z | z
  · exact List.le_of_lt (lt_diff z hl _ _)
  · rw [z]; exact List.le_refl _
variable (acc : Nat → Bool)
structure LvI (N k : Nat) (seen : List Nat) (lev : List (Nat × List Nat)) : Prop where
  len : ∀ q ∈ lev, q.2.length = k
  run : ∀ q ∈ lev, stp J q.2 0 = some q.1
  asc : lev.Pairwise (fun x y => x.2 < y.2)
  sub : ∀ q ∈ lev, q.1 ∈ seen
  low : ∀ p ∈ seen, p ∈ lev.map (·.1) ∨ (acc p = false ∧ ∀ a ∈ J p, a.2 ∈ seen)
  cov : ∀ u p, u.length = k → stp J u 0 = some p → (∃ w, (p, w) ∈ lev ∧ w ≤ u) ∨ (p ∈ seen ∧ p ∉ lev.map (·.1))
  sml : ∀ u p, u.length < k → stp J u 0 = some p → acc p = false
  nd : seen.Nodup
  bnd : ∀ p ∈ seen, p < N
  zer : 0 ∈ seen
  big : lev ≠ [] → k < seen.length
variable {J acc} {N : Nat}
theorem LvI.first (hN : 0 < N) : LvI J acc N 0 [0] [(0, [])] :=
  ⟨fun q hq => by rw [List.mem_singleton.mp hq]; rfl, fun q hq => by rw [List.mem_singleton.mp hq]; rfl, List.pairwise_singleton _ _, fun q hq => by rw [List.mem_singleton.mp hq]; exact List.mem_singleton.mpr rfl,
    fun p hp => .inl hp, fun u p hu h => by
      have := List.eq_nil_of_length_eq_zero hu
      subst this
      cases h
      exact .inl ⟨[], List.mem_singleton.mpr rfl, List.le_refl _⟩, fun u p hu _ => absurd hu (Nat.not_lt_zero _), by simp, fun p hp => by rw [List.mem_singleton.mp hp]; exact hN, List.mem_singleton.mpr rfl, fun _ => Nat.zero_lt_one⟩
theorem LvI.next {k : Nat} {seen : List Nat} {lev : List (Nat × List Nat)} (hA : ∀ p, (J p).Pairwise fun x y => x.1 < y.1) (hJ : ∀ p, p < N → ∀ a ∈ J p, a.2 < N) (I : LvI J acc N k seen lev) (na : ∀ q ∈ lev, acc q.1 = false) :
    LvI J acc N (k + 1) (seen ++ (newG (genL J lev) seen).map (·.1)) (newG (genL J lev) seen) := by
  have hD : ∀ p, ((J p).map (·.1)).Nodup := fun p => List.Pairwise.map _ (fun x y (h : x.1 < y.1) => Nat.ne_of_lt h) (hA p)
  have sub := newG_sub (genL J lev) seen
  have out := newG_out (genL J lev) seen
  have ga : (genL J lev).Pairwise fun x y => x.2 < y.2 := by
    have : ∀ l : List (Nat × List Nat), (∀ q ∈ l, q.2.length = k) → l.Pairwise (fun x y => x.2 < y.2) → (genL J l).Pairwise fun x y => x.2 < y.2 := fun l => by
      induction l with
      | nil => intro _ _; exact List.Pairwise.nil
      | cons q l ih =>
        intro hl hp
        obtain ⟨h1, h2⟩ := List.pairwise_cons.mp hp
        show (((J q.1).map fun a => (a.2, q.2 ++ [a.1])) ++ genL J l).Pairwise _
        refine List.pairwise_append.mpr ⟨List.Pairwise.map _ (fun a b (h : a.1 < b.1) => lt_same h q.2) (hA q.1), ih (fun x hx => hl x (List.mem_cons_of_mem _ hx)) h2, fun x hx y hy => ?_⟩
        obtain ⟨a, _, e⟩ := List.mem_map.mp hx
        obtain ⟨q', hq', a', _, e'⟩ := (mem_gen J).mp hy
        rw [← e, e']
        exact lt_diff (h1 q' hq') (by rw [hl q List.mem_cons_self, hl q' (List.mem_cons_of_mem _ hq')]) _ _
    exact this lev I.len I.asc
  have cov := newG_cov (genL J lev) seen ga
  refine ⟨fun q hq => ?_, fun q hq => ?_, ga.sublist sub, fun q hq => List.mem_append.mpr (.inr (List.mem_map.mpr ⟨q, hq, rfl⟩)), fun p hp => ?_, fun u p hu hs => ?_, fun u p hu hs => ?_, ?_, fun p hp => ?_, List.mem_append.mpr (.inl I.zer), fun hne => ?_⟩
  · obtain ⟨q', hq', a, _, e⟩ := (mem_gen J).mp (sub.subset hq)
    rw [e, List.length_append, I.len q' hq']
    rfl
  · obtain ⟨q', hq', a, ha, e⟩ := (mem_gen J).mp (sub.subset hq)
    rw [e, stp_snoc, I.run q' hq']
    exact (lk_iff (hD _)).mpr ha
  · rcases List.mem_append.mp hp with z | z
    · rcases I.low p z with y | ⟨y1, y2⟩
      · obtain ⟨q, hq, e⟩ := List.mem_map.mp y
        refine .inr ⟨by rw [← e]; exact na q hq, fun a ha => ?_⟩
        rcases cov (a.2, q.2 ++ [a.1]) ((mem_gen J).mpr ⟨q, hq, a, by rw [e]; exact ha, rfl⟩) with w | ⟨x, hx, _⟩
        · exact List.mem_append.mpr (.inl w)
        · exact List.mem_append.mpr (.inr (List.mem_map.mpr ⟨_, hx, rfl⟩))
      · exact .inr ⟨y1, fun a ha => List.mem_append.mpr (.inl (y2 a ha))⟩
    · exact .inl z
  · have hu0 : u ≠ [] := fun z => by rw [z] at hu; cases hu
    have eu : u = u.dropLast ++ [u.getLast hu0] := (List.dropLast_concat_getLast hu0).symm
    have l0 : u.dropLast.length = k := by rw [List.length_dropLast]; omega
    generalize u.dropLast = u0 at eu l0
    generalize u.getLast hu0 = c at eu
    rw [eu, stp_snoc] at hs
    obtain ⟨q, hq, hc⟩ := Option.bind_eq_some_iff.mp hs
    have inS : p ∈ seen → (∃ w, (p, w) ∈ newG (genL J lev) seen ∧ w ≤ u) ∨ (p ∈ seen ++ (newG (genL J lev) seen).map (·.1) ∧ p ∉ (newG (genL J lev) seen).map (·.1)) := fun z => .inr ⟨List.mem_append.mpr (.inl z), fun y => by
      obtain ⟨x, hx, e⟩ := List.mem_map.mp y
      exact out x hx (by rw [e]; exact z)⟩
    rcases I.cov u0 q l0 hq with ⟨w, hw, le⟩ | ⟨z1, z2⟩
    · rcases cov (p, w ++ [c]) ((mem_gen J).mpr ⟨_, hw, (c, p), (lk_iff (hD _)).mp hc, rfl⟩) with z | ⟨x, hx, lx⟩
      · exact inS z
      · refine .inl ⟨x, hx, List.le_trans lx ?_⟩
        rw [eu]
        exact le_snoc le (by rw [I.len _ hw, l0]) c
    · rcases I.low q z1 with y | ⟨_, y⟩
      · exact absurd y z2
      · exact inS (y (c, p) ((lk_iff (hD _)).mp hc))
  · rcases Nat.lt_or_ge u.length k with z | z
    · exact I.sml u p z hs
    · rcases I.cov u p (by omega) hs with ⟨w, hw, _⟩ | ⟨z1, z2⟩
      · exact na _ hw
      · rcases I.low p z1 with y | ⟨y, _⟩
        · exact absurd y z2
        · exact y
  · refine List.nodup_append.mpr ⟨I.nd, newG_nd _ _, fun a ha b hb e => ?_⟩
    obtain ⟨x, hx, e'⟩ := List.mem_map.mp hb
    exact out x hx (by rw [e', ← e]; exact ha)
  · rcases List.mem_append.mp hp with z | z
    · exact I.bnd p z
    · obtain ⟨x, hx, e⟩ := List.mem_map.mp z
      obtain ⟨q', hq', a, ha, e'⟩ := (mem_gen J).mp (sub.subset hx)
      rw [← e, e']
      exact hJ q'.1 (I.bnd _ (I.sub q' hq')) a ha
  · have : lev ≠ [] := fun z => by
      subst z
      exact hne rfl
    have h1 := I.big this
    have h2 := List.length_pos_iff.mpr hne
    rw [List.length_append, List.length_map]
    omega
theorem LvI.none {k : Nat} {seen : List Nat} (hA : ∀ p, (J p).Pairwise fun x y => x.1 < y.1) (I : LvI J acc N k seen []) (u : List Nat) (p : Nat) (h : stp J u 0 = some p) : acc p = false := by
  have hD : ∀ p, ((J p).map (·.1)).Nodup := fun p => List.Pairwise.map _ (fun x y (h : x.1 < y.1) => Nat.ne_of_lt h) (hA p)
  have low : ∀ p ∈ seen, acc p = false ∧ ∀ a ∈ J p, a.2 ∈ seen := fun p hp => by
    rcases I.low p hp with z | z
    · cases z
    · exact z
  have key : ∀ (u : List Nat) (q p : Nat), q ∈ seen → stp J u q = some p → p ∈ seen := fun u => by
    induction u with
    | nil => intro q p hq h; cases h; exact hq
    | cons c u ih =>
      intro q p hq h
      unfold stp at h
      cases e : (J q).lookup c with
      | none => rw [e] at h; cases h
      | some t =>
        rw [e] at h
        exact ih t p ((low q hq).2 (c, t) ((lk_iff (hD _)).mp e)) h
  exact (low p (key u 0 p I.zer h)).1
theorem LvI.some {k : Nat} {seen : List Nat} {A B : List (Nat × List Nat)} {p : Nat} {w : List Nat} (I : LvI J acc N k seen (A ++ (p, w) :: B)) (hA : ∀ q ∈ A, acc q.1 = false) (hp : acc p = true) :
    stp J w 0 = .some p ∧ ∀ v q, stp J v 0 = .some q → acc q = true → w.length < v.length ∨ (w.length = v.length ∧ w ≤ v) := by
  have hm : (p, w) ∈ A ++ (p, w) :: B := List.mem_append.mpr (.inr List.mem_cons_self)
  refine ⟨I.run _ hm, fun v q hv hq => ?_⟩
  have wl := I.len _ hm
  have wl : w.length = k := wl
  rcases Nat.lt_trichotomy v.length k with z | z | z
  · rw [I.sml v q z hv] at hq
    cases hq
  · rcases I.cov v q z hv with ⟨x, hx, le⟩ | ⟨z1, z2⟩
    · refine .inr ⟨by omega, List.le_trans ?_ le⟩
      rcases List.mem_append.mp hx with y | y
      · rw [hA _ y] at hq
        cases hq
      · rcases List.mem_cons.mp y with e | y
        · rw [(Prod.mk.inj e).2]; exact List.le_refl _
        · have := (List.pairwise_append.mp I.asc).2.1
          exact List.le_of_lt ((List.pairwise_cons.mp this).1 _ y)
    · rcases I.low q z1 with y | ⟨y, _⟩
      · exact absurd y z2
      · rw [y] at hq
        cases hq
  · exact .inl (by omega)
end
/-! two graphs walked at once -/
end DL

end
section
namespace PT
/-! ### all walks, letter by letter behind -/
section
variable (A : Nat → Nat → Bool)
def lwk (c : Nat) : Nat → List (List Nat)
  | 0 => [[c]]
  | n + 1 => (lwk c n).flatMap fun u => (nb A [] (u.getLastD 0)).map fun d => u ++ [d]
variable {A}
end
/-! ### the counts of some words by their names -/
/-- the names in the order in which they come first -/
def nmo (f : List Nat → List Nat) : List (List Nat) → List (List Nat) → List (List Nat)
  | K, [] => K
  | K, u :: L => nmo f (if f u ∈ K then K else K ++ [f u]) L
def cnm (f : List Nat → List Nat) (L : List (List Nat)) (p : List Nat) : Nat := (L.filter fun u => decide (f u = p)).length
end PT

end
section
namespace PT
/-! ### walks by the graph of a web, and those that come to a goal -/
section
variable {A : Nat → Nat → Bool}
def wR (A : Nat → Nat → Bool) : List (List (Nat × Nat)) := (L8.map fun c => (c, c - 96)) :: L8.map fun c => (nb A [] c).map fun d => (d, d - 96)
def wE : List Bool := false :: List.replicate 8 true
/-- how many walks of so many letters come to a goal -/
def wto (A : Nat → Nat → Bool) (g : List Nat) (n : Nat) : List (List Nat) := (aw L8 n).filter fun u => decide (0 < W g u) && Wk A u
end
end PT

end
section
namespace PT
/-! ### walks counted one way and the other -/
section
variable {A : Nat → Nat → Bool}
/-- the simple paths, by their lengths -/
def due (A : Nat → Nat → Bool) (a b m : Nat) : List (List Nat) := (List.range' 1 m).flatMap fun s => (lwk A a (s - 1)).filter fun u => decide (u.getLast? = some b) && decide u.Nodup
/-! ### to and fro -/
theorem fro {A : Nat → Nat → Bool} (h1 : nb A [] 97 = [98]) (h2 : nb A [] 98 = [97]) : ∀ n, wl A [] 97 n 97 = (n + 1) % 2 ∧ wl A [] 97 n 98 = n % 2
  | 0 => by rw [wl_zero, wl_zero]; exact ⟨rfl, rfl⟩
  | n + 1 => by
    obtain ⟨i1, i2⟩ := fro h1 h2 n
    rw [wl_succ, wl_succ, h1, h2]
    simp only [List.map_cons, List.map_nil, List.sum_cons, List.sum_nil, i1, i2]
    omega
end
end PT

end
section
/-! ### words that begin with told letters -/
namespace DL
open PySem L2 PT
section
variable {R : List (List (Nat × Nat))} {E : List Bool}
abbrev rowsJ (R : List (List (Nat × Nat))) : Nat → List (Nat × Nat) := fun v => R.getD v []
theorem pre_rows (x : Nat) (w : List Nat) : ∀ (row : List (Nat × Nat)), (row.map (·.1)).Nodup → ((row.flatMap fun p => (wd R E p.2).map fun l => p.1 :: l).filter fun l => (x :: w).isPrefixOf l).length = match row.lookup x with
    | some q => ((wd R E q).filter fun l => w.isPrefixOf l).length
    | none => 0
  | [], _ => rfl
  | p :: row, h => by
    obtain ⟨n1, n2⟩ := List.nodup_cons.mp (show (p.1 :: row.map (·.1)).Nodup from h)
    rw [List.flatMap_cons, List.filter_append, List.length_append, pre_rows x w row n2, List.filter_map, List.length_map, List.lookup_cons]
    by_cases z : x = p.1
    · rw [show (x == p.1) = true by rw [z]; exact beq_self_eq_true _]
      have e : ((wd R E p.2).filter ((fun l => (x :: w).isPrefixOf l) ∘ fun l => p.1 :: l)) = (wd R E p.2).filter fun l => w.isPrefixOf l := List.filter_congr fun l _ => by
        show (x == p.1 && w.isPrefixOf l) = _
        rw [show (x == p.1) = true by rw [z]; exact beq_self_eq_true _, Bool.true_and]
      rw [e]
      have no : row.lookup x = none := by
        cases q : row.lookup x with
        | none => rfl
        | some t =>
          have := (lk_iff n2).mp q
          exact absurd (List.mem_map.mpr ⟨_, this, rfl⟩) (z ▸ n1)
      rw [no]
      rfl
    · have zb : (x == p.1) = false := by simpa using z
      rw [zb]
      have e : ((wd R E p.2).filter ((fun l => (x :: w).isPrefixOf l) ∘ fun l => p.1 :: l)) = [] := List.filter_eq_nil_iff.mpr fun l _ y => by
        have y : (x == p.1 && w.isPrefixOf l) = true := y
        rw [zb] at y
        cases y
      rw [e]
      exact Nat.zero_add _
theorem pre_wd (h : Up R) (nd : ∀ v, ((R.getD v []).map (·.1)).Nodup) : ∀ (w : List Nat) (b : Nat), b < R.length → ((wd R E b).filter fun l => w.isPrefixOf l).length = match stp (rowsJ R) w b with
    | some v => (wd R E v).length
    | none => 0
  | [], b, _ => by
    rw [List.filter_eq_self.mpr fun l _ => (by cases l <;> rfl)]
    rfl
  | x :: w, b, hb => by
    rw [wd_eq h hb, List.filter_append, List.length_append, pre_rows x w _ (nd b)]
    have e : ((if E.getD b false = true then [[]] else [] : List (List Nat)).filter fun l => (x :: w).isPrefixOf l) = [] := by
      split <;> rfl
    rw [e]
    show 0 + (match (R.getD b []).lookup x with
      | some q => ((wd R E q).filter fun l => w.isPrefixOf l).length
      | none => 0) = match (match (R.getD b []).lookup x with
      | some t => stp (rowsJ R) w t
      | none => none) with
      | some v => (wd R E v).length
      | none => 0
    rw [Nat.zero_add]
    cases q : (R.getD b []).lookup x with
    | none => rfl
    | some t => exact pre_wd h nd w t (h b _ ((lk_iff (nd b)).mp q)).2
end
end DL

end
section
namespace LW
open PySem DL PT
/-! ### outcomes that begin with, or end with, a word -/
theorem ni_rwF (r : List (Nat × Nat)) (c : Nat) : inA true (tx [c]) (rwX r) = some (.bl (!(r.lookup c).isSome)) := by
  show some (D.bl (!(getD_ _ (.inr (mkS [c]))).isSome)) = _
  rw [get_rw]
  cases r.lookup c <;> rfl
abbrev cbgB : DL.Env → DL.R Fl := (seqS (ifS (withEnv (tst (bin (inA true) (gAny 4) (bin ixD (un1 (fldD "arrows") (gSh 2)) (gAny 3))))) (retS (withEnv (kc (.int 0)))) skipS) (setS 3 (withEnv (bin dgetD (bin ixD (un1 (fldD "arrows") (gSh 2)) (gAny 3)) (gAny 4)))))
theorem cbg_loop {R : List (List (Nat × Nat))} {E : List Bool} (hU : Up R) (x0 x1 : D) : ∀ (w : List Nat) (b : Nat) (s4 : DL.Slot), b < R.length →
    (∃ v s4', stp (rowsJ R) w b = some v ∧ v < R.length ∧ forD (gSet 4) cbgB (w.map fun c => tx [c]) [.sh x0, .sh x1, .sh (gD R E), .sh (ni b), s4] = .ok (.nx [.sh x0, .sh x1, .sh (gD R E), .sh (ni v), s4'])) ∨
    (stp (rowsJ R) w b = none ∧ ∃ r, forD (gSet 4) cbgB (w.map fun c => tx [c]) [.sh x0, .sh x1, .sh (gD R E), .sh (ni b), s4] = .ok (.rt (.int 0) r))
  | [], b, s4, hb => .inl ⟨b, s4, rfl, hb, rfl⟩
  | c :: w, b, s4, hb => by
    have ga := gA_eq (R.map rwD) (E.map D.bl)
    have ra := row_at hb
    have k := ni_rwF (R.getD b []) c
    have e0 : stp (rowsJ R) (c :: w) b = match (R.getD b []).lookup c with
      | some t => stp (rowsJ R) w t
      | none => none := rfl
    rw [e0, List.map_cons]
    cases el : (R.getD b []).lookup c with
    | none =>
      rw [el] at k
      have k : inA true (tx [c]) (rwD (R.getD b [])) = some (.bl true) := k
      refine .inr ⟨rfl, [.sh x0, .sh x1, .sh (gD R E), .sh (ni b), .sh (tx [c])], ?_⟩
      have st : cbgB [.sh x0, .sh x1, .sh (gD R E), .sh (ni b), .sh (tx [c])] = .ok (.rt (.int 0) [.sh x0, .sh x1, .sh (gD R E), .sh (ni b), .sh (tx [c])]) := by
        generalize rwD (R.getD b []) = X at ra k
        wide_open with ((), ga, ra, k)
      unfold forD
      show (cbgB [.sh x0, .sh x1, .sh (gD R E), .sh (ni b), .sh (tx [c])]).bind _ = _
      rw [st]
      rfl
    | some t =>
      rw [el] at k
      have k : inA true (tx [c]) (rwD (R.getD b [])) = some (.bl false) := k
      have gb : dgetD (rwD (R.getD b [])) (tx [c]) = some (ni t) := get_rwF el
      have ht := (hU b _ (lookup_in el)).2
      have st : cbgB [.sh x0, .sh x1, .sh (gD R E), .sh (ni b), .sh (tx [c])] = .ok (.nx [.sh x0, .sh x1, .sh (gD R E), .sh (ni t), .sh (tx [c])]) := by
        generalize rwD (R.getD b []) = X at ra k gb
        wide_open with ((), ga, ra, k, gb)
      have go : ∀ z, forD (gSet 4) cbgB (w.map fun c => tx [c]) [.sh x0, .sh x1, .sh (gD R E), .sh (ni t), .sh (tx [c])] = z → forD (gSet 4) cbgB (tx [c] :: w.map fun c => tx [c]) [.sh x0, .sh x1, .sh (gD R E), .sh (ni b), s4] = z := fun z hz => by
        show forD (gSet 4) cbgB (tx [c] :: w.map fun c => tx [c]) _ = _
        unfold forD
        show (cbgB [.sh x0, .sh x1, .sh (gD R E), .sh (ni b), .sh (tx [c])]).bind _ = _
        rw [st]
        exact hz
      rcases cbg_loop hU x0 x1 w t (.sh (tx [c])) ht with ⟨v, s4', h1, h2, h3⟩ | ⟨h1, r, h2⟩
      · exact .inl ⟨v, s4', h1, h2, go _ h3⟩
      · exact .inr ⟨h1, r, go _ h2⟩
theorem counted_beginning_ok {F w : List Nat} (hF : Film F) (hw : w.length ≤ 1000) : F_counted_beginning [tx F, tx w] = .ok (ni ((ocs F).filter fun l => w.isPrefixOf l).length) := by
  have hU := oR_up hF.1
  have og := outcome_graph_ok hF
  have cg := counts_og hF
  have p0 : 0 < (oR F).length := by rw [oR_len]; omega
  have pw := pre_wd (E := oE F) hU oR_dis w 0 p0
  have pw : ((ocs F).filter fun l => w.isPrefixOf l).length = _ := pw
  rw [pw]
  have zt := zD_tx w
  rcases cbg_loop (E := oE F) hU (tx F) (tx w) w 0 .un p0 with ⟨v, s4', h1, h2, h3⟩ | ⟨h1, r, h2⟩
  · rw [h1]
    show _ = DL.R.ok (ni (wd (oR F) (oE F) v).length)
    have g1 : ((csI (oR F) (oE F) (oR F).length).map ni)[v]? = some (ni (wd (oR F) (oE F) v).length) := by
      rw [List.getElem?_map, csI_get h2, if_pos (by omega)]
      rfl
    refine fnD_rt (r1 := [.sh (tx F), .sh (tx w), .sh (gD (oR F) (oE F)), .sh (ni v), s4']) rfl (show b_counted_beginning [.sh (tx F), .sh (tx w), .un, .un, .un] = _ from ?_)
    unfold b_counted_beginning
    generalize (csI (oR F) (oE F) (oR F).length).map ni = CC at cg g1
    generalize (wd (oR F) (oE F) v).length = nn at g1 ⊢
    generalize gD (oR F) (oE F) = GG at og cg h3 ⊢
    generalize w.map (fun c => tx [c]) = WW at zt h3
    refine seq_nx (r1 := [.sh (tx F), .sh (tx w), .sh GG, .un, .un]) (by wide_open with ((), og)) (seq_nx (r1 := [.sh (tx F), .sh (tx w), .sh GG, .sh (ni 0), .un]) rfl (seq_nx (for_p (items := WW) (by wide_open with ((), zt)) h3) (by wide_open with ((), cg, g1))))
  · rw [h1]
    refine fnD_rt (r1 := r) rfl (show b_counted_beginning [.sh (tx F), .sh (tx w), .un, .un, .un] = _ from ?_)
    unfold b_counted_beginning
    generalize gD (oR F) (oE F) = GG at og h2 ⊢
    generalize w.map (fun c => tx [c]) = WW at zt h2
    refine seq_nx (r1 := [.sh (tx F), .sh (tx w), .sh GG, .un, .un]) (by wide_open with ((), og)) (seq_nx (r1 := [.sh (tx F), .sh (tx w), .sh GG, .sh (ni 0), .un]) rfl (seq_rt (for_p (items := WW) (by wide_open with ((), zt)) h2)))
theorem count_beginning_ok {F w : List Nat} (hF : Film F) (hw : Film w) : F_count_beginning [tx F, tx w] = .ok (ni ((ocs F).filter fun l => w.isPrefixOf l).length) := by
  have k := counted_beginning_ok (w := w) hF (by have := hw.2.1; omega)
  refine fnD_rt (r1 := [.sh (tx F), .sh (tx w)]) rfl (show b_count_beginning [.sh (tx F), .sh (tx w)] = _ from ?_)
  unfold b_count_beginning
  generalize ((ocs F).filter fun l => w.isPrefixOf l).length = nn at k ⊢
  wide_open with ((), check_film_ok hF, check_film_ok hw, k)
end LW

end
section
namespace LW
open PySem DL PT
/-! ### how few cuts -/
theorem min_nat (a b : Nat) : mm2D (fun i j => if j < i then j else i) [ni a, ni b] = some (ni (min a b)) := by
  show some (D.int (if (b : Int) < (a : Int) then (b : Int) else (a : Int))) = _
  congr 2
  split
  · rw [Nat.min_eq_right (by omega)]
  · rw [Nat.min_eq_left (by omega)]
def cnf (N c : Nat) (G : List Nat → Nat) (F : List Nat) (i : Nat) : List D := (List.range (F.length + 1)).map fun p => D.int ((if p < F.length - i then N else fb N c G (F.drop p) : Nat) : Int)
theorem cnf_zero (N c : Nat) (G : List Nat → Nat) (F : List Nat) : cnf N c G F 0 = List.replicate (F.length + 1) (ni N) := by
  unfold cnf
  rw [List.eq_replicate_iff]
  refine ⟨by simp, fun d h => ?_⟩
  obtain ⟨p, hp, e⟩ := List.mem_map.mp h
  have hp' := List.mem_range.mp hp
  rw [← e]
  by_cases h1 : p < F.length - 0
  · rw [if_pos h1]
  · rw [if_neg h1, List.drop_of_length_le (by omega)]
    rfl
theorem cnf_end (N c : Nat) (G : List Nat → Nat) (F : List Nat) : .lst (cnf N c G F F.length) = tb (fb N c G) F := by
  unfold cnf tb
  congr 1
  apply List.map_congr_left
  intro p _
  rw [if_neg (by omega)]
theorem fewest_of_block_ok {F : List Nat} {c : Nat} {G : List Nat → Nat} (hF : F.length ≤ 200) : F_fewest_of_block [tx F, tx [c], tb G F] = .ok (tb (fb F.length c G) F) := by
  obtain ⟨r', e, x, er⟩ := for_inv (g := gSet 6) (b := ifS (withEnv (tst (bin eqD (bin ixD (gAny 0) (gAny 6)) (gAny 1)))) (seqS (itmS 4 (gAny 6) (appN (mm2D (fun i j => if j < i then j else i)) (aCons (bin ixD (gAny 2) (bin plusD (gAny 6) (kc (.int 1)))) (aCons (gAny 5) aNil)))) (setS 5 (withEnv (appN (mm2D (fun i j => if j < i then j else i)) (aCons (gAny 5) (aCons (bin plusD (bin ixD (gAny 2) (bin plusD (gAny 6) (kc (.int 1)))) (kc (.int 1))) aNil)))))) skipS)
    (items := (rngL 0 F.length).reverse) (r := [.sh (tx F), .sh (tx [c]), .sh (tb G F), .sh (ni F.length), .own (.lst (cnf F.length c G F 0)), .sh (ni F.length), .un])
    (fun i r => ∃ x, r = [.sh (tx F), .sh (tx [c]), .sh (tb G F), .sh (ni F.length), .own (.lst (cnf F.length c G F i)), .sh (ni (lg F.length c G (F.drop (F.length - i)))), x]) ⟨.un, by rw [Nat.sub_zero, List.drop_of_length_le (Nat.le_refl _)]; rfl⟩ (fun i x r e hI => by
      obtain ⟨y, er⟩ := hI
      obtain ⟨hi, ex⟩ := rngr_get 0 F.length i x e
      rw [Int.zero_add] at ex
      obtain ⟨p, hp⟩ : ∃ p, p = F.length - 1 - i := ⟨_, rfl⟩
      rw [← hp] at ex
      subst er ex
      have hpl : p < F.length := by omega
      have hni : F.length - i = p + 1 := by omega
      have hni2 : F.length - (i + 1) = p := by omega
      have e1 : F[p]? = some F[p] := List.getElem?_eq_getElem hpl
      have e2 : F.drop p = F[p] :: F.drop (p + 1) := List.drop_eq_getElem_cons hpl
      have e3 : ixD (tb G F) (.int ((p : Int) + 1)) = some (ni (G (F.drop (p + 1)))) := by
        unfold tb
        rw [ix_lst, atI_succ, tb_get (G := G) (F := F) (p := p + 1) (by omega)]
      rw [hni, hni2]
      by_cases hc : F[p] = c
      · have hb : fb F.length c G (F.drop p) = min (G (F.drop (p + 1))) (lg F.length c G (F.drop (p + 1))) := by rw [e2]; simp only [fb, if_pos hc]
        have ha : lg F.length c G (F.drop p) = min (lg F.length c G (F.drop (p + 1))) (G (F.drop (p + 1)) + 1) := by rw [e2]; simp only [lg, if_pos hc]
        have hcnt : (cnf F.length c G F i).set p (ni (min (G (F.drop (p + 1))) (lg F.length c G (F.drop (p + 1))))) = cnf F.length c G F (i + 1) := by
          unfold cnf
          rw [← hb]
          have := setmap (fun q => D.int ((if q < F.length - i then F.length else fb F.length c G (F.drop q) : Nat) : Int)) (fun q => D.int ((if q < F.length - (i + 1) then F.length else fb F.length c G (F.drop q) : Nat) : Int)) (F.length + 1) p (fun q hq hne => by
            rw [hni, hni2]
            by_cases h1 : q < p
            · rw [if_pos (by omega), if_pos h1]
            · rw [if_neg (by omega), if_neg h1])
          simp only [hni2, if_neg (Nat.lt_irrefl p)] at this
          rw [hni2]
          exact this
        have hlen : (cnf F.length c G F i).length = F.length + 1 := by simp [cnf]
        have hix : L2.ixN (cnf F.length c G F i).length (p : Int) = some p := ixN_nat (by rw [hlen]; omega)
        have t1 := min_nat (G (F.drop (p + 1))) (lg F.length c G (F.drop (p + 1)))
        have t2 := min_nat (lg F.length c G (F.drop (p + 1))) (G (F.drop (p + 1)) + 1)
        have t2' : mm2D (fun i j => if j < i then j else i) [ni (lg F.length c G (F.drop (p + 1))), .int (((G (F.drop (p + 1)) : Nat) : Int) + 1)] = some (ni (min (lg F.length c G (F.drop (p + 1))) (G (F.drop (p + 1)) + 1))) := t2
        rw [ha]
        refine ⟨[.sh (tx F), .sh (tx [c]), .sh (tb G F), .sh (ni F.length), .own (.lst (cnf F.length c G F i)), .sh (ni (lg F.length c G (F.drop (p + 1)))), .sh (ni p)], [.sh (tx F), .sh (tx [c]), .sh (tb G F), .sh (ni F.length), .own (.lst (cnf F.length c G F (i + 1))), .sh (ni (min (lg F.length c G (F.drop (p + 1))) (G (F.drop (p + 1)) + 1))), .sh (ni p)], rfl, ?_, ⟨_, rfl⟩⟩
        wide_open with ((), e1, hc, e3, t1, t2', hix, hcnt)
      · have hb : fb F.length c G (F.drop p) = F.length := by rw [e2]; simp only [fb, if_neg hc]
        have ha : lg F.length c G (F.drop p) = lg F.length c G (F.drop (p + 1)) := by rw [e2]; simp only [lg, if_neg hc]
        have hcnt : cnf F.length c G F i = cnf F.length c G F (i + 1) := by
          unfold cnf
          apply List.map_congr_left
          intro q hq
          rw [hni, hni2]
          by_cases h1 : q < p
          · rw [if_pos (by omega), if_pos h1]
          · by_cases h2 : q = p
            · subst h2
              rw [if_pos (by omega), if_neg h1, hb]
            · rw [if_neg (by omega), if_neg h1]
        rw [ha, ← hcnt]
        refine ⟨[.sh (tx F), .sh (tx [c]), .sh (tb G F), .sh (ni F.length), .own (.lst (cnf F.length c G F i)), .sh (ni (lg F.length c G (F.drop (p + 1)))), .sh (ni p)], [.sh (tx F), .sh (tx [c]), .sh (tb G F), .sh (ni F.length), .own (.lst (cnf F.length c G F i)), .sh (ni (lg F.length c G (F.drop (p + 1)))), .sh (ni p)], rfl, ?_, ⟨_, rfl⟩⟩
        wide_open with ((), e1, hc))
  rw [List.length_reverse, rngL_length, Nat.sub_self, cnf_end] at er
  subst er
  have t0 : repD (.lst [ni F.length]) (.int ((F.length : Int) + 1)) = some (.lst (cnf F.length c G F 0)) := by
    rw [cnf_zero]
    exact rep_lst1s (d := ni F.length) (k := F.length) (by omega)
  have t9 := rvR_nat (n := F.length) (by omega)
  refine fnD_rt (r1 := [.sh (tx F), .sh (tx [c]), .sh (tb G F), .sh (ni F.length), .sh (tb (fb F.length c G) F), .sh (ni (lg F.length c G (F.drop 0))), x]) rfl (show b_fewest_of_block [.sh (tx F), .sh (tx [c]), .sh (tb G F), .un, .un, .un, .un] = _ from ?_)
  unfold b_fewest_of_block
  wide_open with ((), t0, t9, e)
def TF (F g : List Nat) : List D := (List.range (g.length + 1)).map fun k => tb (FW F.length (g.drop k)) F
def TFr (F g : List Nat) (i : Nat) : List D := (List.range (i + 1)).map fun k => tb (FW F.length (g.drop (g.length - k))) F
theorem fewest_behind_ok {F g : List Nat} (hF : F.length ≤ 200) (hg : g.length ≤ 200) : F_fewest_behind [tx F, tx g] = .ok (.lst (TF F g)) := by
  obtain ⟨r', e, x, er⟩ := for_inv (g := gSet 3) (b := appS 2 (callF 3 F_fewest_of_block (aCons (gSh 0) (aCons (gSh 3) (aCons (bin ixD (gAny 2) (un1 negD (kc (.int 1)))) aNil)))))
    (items := g.reverse.map fun c => tx [c]) (r := [.sh (tx F), .sh (tx g), .own (.lst (TFr F g 0)), .un]) (fun i r => ∃ x, r = [.sh (tx F), .sh (tx g), .own (.lst (TFr F g i)), x]) ⟨_, rfl⟩ (fun i x r e hI => by
      obtain ⟨y, er⟩ := hI
      obtain ⟨c, ec, ex⟩ := tx_get e
      subst er ex
      have hi : i < g.length := by
        have := (List.getElem?_eq_some_iff.mp ec).1
        rwa [List.length_reverse] at this
      rw [List.getElem?_reverse hi] at ec
      have hlast : (TFr F g i).getLast? = some (tb (FW F.length (g.drop (g.length - i))) F) := by
        unfold TFr
        rw [map_snoc, List.getLast?_append]
        simp
      have hc : g.drop (g.length - (i + 1)) = c :: g.drop (g.length - i) := by
        have h1 : g.length - (i + 1) < g.length := by omega
        rw [List.drop_eq_getElem_cons h1]
        have h2 : g.length - (i + 1) + 1 = g.length - i := by omega
        have h3 : g[g.length - (i + 1)] = c := by
          have h4 := (List.getElem?_eq_some_iff.mp ec).2
          have h5 : g.length - 1 - i = g.length - (i + 1) := by omega
          simp only [h5] at h4
          exact h4
        rw [h2, h3]
      have hW : FW F.length (g.drop (g.length - (i + 1))) = fb F.length c (FW F.length (g.drop (g.length - i))) := by rw [hc]; rfl
      have hlen : (TFr F g i).length = i + 1 := by simp [TFr]
      have hl2 : (TFr F g i).length < 1000000 := by omega
      have hT : TFr F g (i + 1) = TFr F g i ++ [tb (fb F.length c (FW F.length (g.drop (g.length - i)))) F] := by
        rw [← hW]
        exact map_snoc _ _
      have hb := fewest_of_block_ok (c := c) (G := FW F.length (g.drop (g.length - i))) hF
      refine ⟨[.sh (tx F), .sh (tx g), .own (.lst (TFr F g i)), .sh (tx [c])], [.sh (tx F), .sh (tx g), .own (.lst (TFr F g (i + 1))), .sh (tx [c])], rfl, ?_, ⟨_, rfl⟩⟩
      rw [hT]
      wide_open with ((), hlast, hb))
  rw [List.length_map, List.length_reverse] at er
  subst er
  have hrev : (TFr F g g.length).reverse = TF F g := by
    unfold TFr TF
    rw [range_rev]
    apply List.map_congr_left
    intro k hk
    have := List.mem_range.mp hk
    have h2 : g.length - (g.length - k) = k := by omega
    rw [h2]
  have h0 : TFr F g 0 = [.lst (List.replicate F.length (ni F.length) ++ [.int 0])] := by
    unfold TFr tb
    rw [List.range_one, List.map_cons, List.map_nil, Nat.sub_zero, List.drop_of_length_le (Nat.le_refl _), map_snoc]
    congr 3
    · rw [List.eq_replicate_iff]
      refine ⟨by simp, fun d h => ?_⟩
      obtain ⟨p, hp, ep⟩ := List.mem_map.mp h
      have hp' := List.mem_range.mp hp
      rw [← ep]
      have hne : F.drop p ≠ [] := by
        intro z
        have := congrArg List.length z
        rw [List.length_drop, List.length_nil] at this
        omega
      have hz : FW F.length [] (F.drop p) = F.length := by
        unfold FW
        rw [if_neg hne]
      rw [hz]
    · rw [List.drop_of_length_le (Nat.le_refl _)]
      rfl
  rw [h0] at e
  have hl3 : (List.replicate F.length (ni F.length)).length + 1 ≤ 1000000 := by rw [List.length_replicate]; omega
  refine fnD_rt (r1 := [.sh (tx F), .sh (tx g), .sh (.lst (TF F g)), x]) rfl (show b_fewest_behind [.sh (tx F), .sh (tx g), .un, .un] = _ from ?_)
  unfold b_fewest_behind
  wide_open with ((), e, hrev)
theorem TF_ix {F g : List Nat} {k s : Nat} (hk : k ≤ g.length) (hs : s ≤ F.length) : ∃ d, ixD (.lst (TF F g)) (ni k) = some d ∧ ixD d (ni s) = some (ni (FW F.length (g.drop k) (F.drop s))) := by
  refine ⟨tb (FW F.length (g.drop k)) F, ?_, ?_⟩
  · rw [ix_lst, atI_nat]
    exact map_get _ _ _ (by omega)
  · unfold tb
    rw [ix_lst, atI_nat, tb_get hs]
theorem fewest_cuts_ok {F g : List Nat} (hF : Film F) (hg : Film g) : F_fewest_cuts [tx F, tx g] = .ok (if 0 < W g F then ni (FW F.length g F) else .non) := by
  have hFl := hF.2.1
  have hb := fewest_behind_ok hF.2.1 hg.2.1
  obtain ⟨d, d1, d2⟩ := TF_ix (F := F) (g := g) (k := 0) (s := 0) (Nat.zero_le _) (Nat.zero_le _)
  have d1' : ixD (.lst (TF F g)) (.int 0) = some d := d1
  have d2' : ixD d (.int 0) = some (ni (FW F.length g F)) := d2
  have hlt := FW_lt (g := g) hF.1
  refine fnD_rt (r1 := [.sh (tx F), .sh (tx g), .sh (ni (FW F.length g F))]) rfl (show b_fewest_cuts [.sh (tx F), .sh (tx g), .un] = _ from ?_)
  unfold b_fewest_cuts
  by_cases h : 0 < W g F
  · have h' : ((FW F.length g F : Nat) : Int) < (F.length : Int) := by have := hlt.mpr h; omega
    rw [if_pos h]
    simp (disch := first | omega | (simp; done) | (simp; omega)) only [↓DL.we_e, DL.weB_ok, ↓DL.ts_e, DL.tsB_ok, ↓DL.tsE_e, DL.tsE_ok, DL.prB_ok, ↓DL.tr_e, DL.trB_ok, ↓DL.trE_e, DL.trE_ok, ↓DL.bn_e, DL.bnB_ok, ↓DL.bnE_e, DL.bnE_ok, DL.bnE2_ok, ↓DL.ap_e, DL.apB_ok, ↓DL.itN_e, ↓DL.apE_e, DL.apE_ok, ↓DL.itX_e, DL.apX_ok, ↓DL.un1_e, ↓DL.aNil_e, ↓DL.aCons_e, DL.acB_ok, ↓DL.aConsE_e, DL.acE_ok, DL.acE2_ok, ↓DL.kc_e, ↓DL.notB_e, DL.ntB_ok, ↓DL.notV_e, DL.ntV_ok, ↓DL.notE_e, DL.ntE_ok, ↓DL.andB_e, DL.anB_t, DL.anB_f, ↓DL.orB_e, DL.orB_t, DL.orB_f, ↓DL.andV_e, DL.anV_t, DL.anV_f, ↓DL.orV_e, DL.roV_t, DL.roV_f, ↓DL.ifV_e, DL.ivB_t, DL.ivB_f, ↓DL.ifVE_e, DL.ivE_t, DL.ivE_f, ↓DL.andE_e, DL.anE_t, DL.anE_f, ↓DL.orE_e, DL.roE_t, DL.roE_f, ↓DL.chn_e, DL.chB_ok, DL.chB2_t, DL.chB2_f, ↓DL.oNone_e, ↓DL.oSome_e, DL.osB_ok, ↓DL.sl3_e, DL.s3B_ok, ↓DL.mthV_e, DL.mvB_tx, ↓DL.mthL_e, DL.mlB_ok, ↓DL.mkT_e, DL.mtB_ok, ↓DL.mkL_e, DL.mlB'_ok, ↓DL.mkTE_e, DL.mtE_ok, ↓DL.gSet_e, ↓DL.gTup_e, ↓DL.gsCons_e, DL.gcB_ok, ↓DL.gsNil_e, ↓DL.seq_st, DL.sq_nx, DL.sq_rt, DL.sq_bk, DL.sq_ct, ↓DL.if_st, DL.ifB_y, DL.ifB_n, ↓DL.set_st, DL.stB_ok, ↓DL.ret_st, DL.rtB_ok, ↓DL.seto_st, DL.soB_ok, ↓DL.for_st', DL.frB_ok, DL.forD_nil, ↓DL.expr_st, DL.exB_ok, ↓DL.skip_st, ↓DL.retN_st, ↓DL.brk_st, ↓DL.call_st, DL.clB_ok, ↓DL.callE_st, DL.clE_ok, DL.R_at_ok, ↓DL.callIO_st, DL.ciB_ok, DL.ciC_ok, DL.ciD_ok, ↓DL.par_st, DL.psB_ok, ↓DL.asg_st, DL.asB1_ok, DL.asB2_ok, ↓DL.aug_st, DL.agB_ok, DL.agC_ok, ↓DL.app_st, DL.apS_ok, ↓DL.itm_st, DL.imB_ok, DL.imC_ok, ↓DL.rvs_st, DL.rvB_ok, ↓DL.retO_st, DL.roB_own, DL.roB_sh, ↓DL.frz_st, ↓DL.frzS_st, DL.fzB_own, DL.fzB_sh, DL.fzB_un, ↓DL.itR1_st, DL.r1B_ok, DL.rg1_ok, DL.rg2_ok, DL.tn_add1, DL.tn_succ, DL.tn_nat, DL.tn_pred, DL.tn_sub, DL.len0, DL.len1, DL.len2, DL.len3, DL.len4, DL.gSh_eq, DL.gAny_eq, DL.gS_sh, DL.gA_sh, DL.gA_own, DL.gA_io, DL.ownL_eq, DL.oL_own, DL.oL_io, DL.put_own, DL.put_io, DL.ofO_some, DL.tru_bl, DL.tru_int, DL.tru_lst, DL.len_tx, DL.len_lst, DL.len_tup, DL.ix_tx, DL.ix_lst, DL.ix_tup, DL.sl_tx, DL.sl_lst, DL.sl_tup, DL.plus_tx, DL.plus_int, DL.plus_lst, DL.plus_tup, DL.cat_lst, DL.rep_lst1, DL.zD_tx, DL.zD_lst, DL.zD_tup, DL.rev_tx, DL.en_tx, DL.tup_lst, DL.lst_tup, DL.isi_tx, DL.isi_int, DL.isi_intb, DL.isi_tt, DL.isi_lt, DL.isi_int_tl, DL.isi_non_tl, DL.isi_tup_tl, DL.isi_tup_l, DL.isi_int_s, DL.isi_non_s, DL.eq_bl, DL.ne_bl, DL.eq_non, DL.isn_i, DL.isn_n, DL.sub_int', DL.add_ip, DL.sub_ip, DL.mul_int', DL.lt_int, DL.gt_int, DL.ge_int, DL.le_int, DL.eq_int, DL.ne_int, DL.eq_tx, DL.ne_tx, DL.isn_int, DL.isn_non, DL.isb, DL.neg_int, DL.int_int, DL.atI_nat, DL.atI_zero, DL.atI_one, DL.atI_two, DL.atI_three, DL.atI_succ, DL.atI_last, DL.cut_to, DL.cut_from, DL.cut_both, DL.cut_butlast, DL.sum_nl, DL.sum_nt, DL.mul_tx1, DL.mul_tup, ↓DL.ownK_e, DL.oK_own, ↓DL.put_st, DL.puB_tx, DL.puB_ni, ↓DL.pop_st, DL.poB_ok, ↓DL.parO_st, DL.paO_ok, ↓DL.parOS_st, DL.paS_ok, ↓DL.disp_e, DL.diB_tx, ↓DL.whl_st, ↓DL.ch3_e, DL.ch3_ok, DL.ch3_t, DL.ch3_f, DL.ch3b_ok, DL.ch3_t2, DL.ch3_f2, List.getElem?_cons_zero, List.getElem?_cons_succ, List.set_cons_zero, List.set_cons_succ, List.length_cons, List.length_nil, List.map_nil, List.length_map, List.cons.injEq, and_true, eq_self, Bool.true_eq_false, Bool.false_eq_true, decide_true, decide_false, Bool.not_true, Bool.not_false, Option.map_some, Int.reduceLT, Int.reduceLE, Int.reduceAdd, Int.reduceSub, Int.reduceMul, Int.reduceNeg, Int.reduceEq, Nat.reduceAdd, Nat.reduceSub, check_film_ok hF, check_film_ok hg, hb, ↓d1', ↓d2', d1', d2', h']
  · have h' : ¬ ((FW F.length g F : Nat) : Int) < (F.length : Int) := fun z => h (hlt.mp (by omega))
    rw [if_neg h]
    simp (disch := first | omega | (simp; done) | (simp; omega)) only [↓DL.we_e, DL.weB_ok, ↓DL.ts_e, DL.tsB_ok, ↓DL.tsE_e, DL.tsE_ok, DL.prB_ok, ↓DL.tr_e, DL.trB_ok, ↓DL.trE_e, DL.trE_ok, ↓DL.bn_e, DL.bnB_ok, ↓DL.bnE_e, DL.bnE_ok, DL.bnE2_ok, ↓DL.ap_e, DL.apB_ok, ↓DL.itN_e, ↓DL.apE_e, DL.apE_ok, ↓DL.itX_e, DL.apX_ok, ↓DL.un1_e, ↓DL.aNil_e, ↓DL.aCons_e, DL.acB_ok, ↓DL.aConsE_e, DL.acE_ok, DL.acE2_ok, ↓DL.kc_e, ↓DL.notB_e, DL.ntB_ok, ↓DL.notV_e, DL.ntV_ok, ↓DL.notE_e, DL.ntE_ok, ↓DL.andB_e, DL.anB_t, DL.anB_f, ↓DL.orB_e, DL.orB_t, DL.orB_f, ↓DL.andV_e, DL.anV_t, DL.anV_f, ↓DL.orV_e, DL.roV_t, DL.roV_f, ↓DL.ifV_e, DL.ivB_t, DL.ivB_f, ↓DL.ifVE_e, DL.ivE_t, DL.ivE_f, ↓DL.andE_e, DL.anE_t, DL.anE_f, ↓DL.orE_e, DL.roE_t, DL.roE_f, ↓DL.chn_e, DL.chB_ok, DL.chB2_t, DL.chB2_f, ↓DL.oNone_e, ↓DL.oSome_e, DL.osB_ok, ↓DL.sl3_e, DL.s3B_ok, ↓DL.mthV_e, DL.mvB_tx, ↓DL.mthL_e, DL.mlB_ok, ↓DL.mkT_e, DL.mtB_ok, ↓DL.mkL_e, DL.mlB'_ok, ↓DL.mkTE_e, DL.mtE_ok, ↓DL.gSet_e, ↓DL.gTup_e, ↓DL.gsCons_e, DL.gcB_ok, ↓DL.gsNil_e, ↓DL.seq_st, DL.sq_nx, DL.sq_rt, DL.sq_bk, DL.sq_ct, ↓DL.if_st, DL.ifB_y, DL.ifB_n, ↓DL.set_st, DL.stB_ok, ↓DL.ret_st, DL.rtB_ok, ↓DL.seto_st, DL.soB_ok, ↓DL.for_st', DL.frB_ok, DL.forD_nil, ↓DL.expr_st, DL.exB_ok, ↓DL.skip_st, ↓DL.retN_st, ↓DL.brk_st, ↓DL.call_st, DL.clB_ok, ↓DL.callE_st, DL.clE_ok, DL.R_at_ok, ↓DL.callIO_st, DL.ciB_ok, DL.ciC_ok, DL.ciD_ok, ↓DL.par_st, DL.psB_ok, ↓DL.asg_st, DL.asB1_ok, DL.asB2_ok, ↓DL.aug_st, DL.agB_ok, DL.agC_ok, ↓DL.app_st, DL.apS_ok, ↓DL.itm_st, DL.imB_ok, DL.imC_ok, ↓DL.rvs_st, DL.rvB_ok, ↓DL.retO_st, DL.roB_own, DL.roB_sh, ↓DL.frz_st, ↓DL.frzS_st, DL.fzB_own, DL.fzB_sh, DL.fzB_un, ↓DL.itR1_st, DL.r1B_ok, DL.rg1_ok, DL.rg2_ok, DL.tn_add1, DL.tn_succ, DL.tn_nat, DL.tn_pred, DL.tn_sub, DL.len0, DL.len1, DL.len2, DL.len3, DL.len4, DL.gSh_eq, DL.gAny_eq, DL.gS_sh, DL.gA_sh, DL.gA_own, DL.gA_io, DL.ownL_eq, DL.oL_own, DL.oL_io, DL.put_own, DL.put_io, DL.ofO_some, DL.tru_bl, DL.tru_int, DL.tru_lst, DL.len_tx, DL.len_lst, DL.len_tup, DL.ix_tx, DL.ix_lst, DL.ix_tup, DL.sl_tx, DL.sl_lst, DL.sl_tup, DL.plus_tx, DL.plus_int, DL.plus_lst, DL.plus_tup, DL.cat_lst, DL.rep_lst1, DL.zD_tx, DL.zD_lst, DL.zD_tup, DL.rev_tx, DL.en_tx, DL.tup_lst, DL.lst_tup, DL.isi_tx, DL.isi_int, DL.isi_intb, DL.isi_tt, DL.isi_lt, DL.isi_int_tl, DL.isi_non_tl, DL.isi_tup_tl, DL.isi_tup_l, DL.isi_int_s, DL.isi_non_s, DL.eq_bl, DL.ne_bl, DL.eq_non, DL.isn_i, DL.isn_n, DL.sub_int', DL.add_ip, DL.sub_ip, DL.mul_int', DL.lt_int, DL.gt_int, DL.ge_int, DL.le_int, DL.eq_int, DL.ne_int, DL.eq_tx, DL.ne_tx, DL.isn_int, DL.isn_non, DL.isb, DL.neg_int, DL.int_int, DL.atI_nat, DL.atI_zero, DL.atI_one, DL.atI_two, DL.atI_three, DL.atI_succ, DL.atI_last, DL.cut_to, DL.cut_from, DL.cut_both, DL.cut_butlast, DL.sum_nl, DL.sum_nt, DL.mul_tx1, DL.mul_tup, ↓DL.ownK_e, DL.oK_own, ↓DL.put_st, DL.puB_tx, DL.puB_ni, ↓DL.pop_st, DL.poB_ok, ↓DL.parO_st, DL.paO_ok, ↓DL.parOS_st, DL.paS_ok, ↓DL.disp_e, DL.diB_tx, ↓DL.whl_st, ↓DL.ch3_e, DL.ch3_ok, DL.ch3_t, DL.ch3_f, DL.ch3b_ok, DL.ch3_t2, DL.ch3_f2, List.getElem?_cons_zero, List.getElem?_cons_succ, List.set_cons_zero, List.set_cons_succ, List.length_cons, List.length_nil, List.map_nil, List.length_map, List.cons.injEq, and_true, eq_self, Bool.true_eq_false, Bool.false_eq_true, decide_true, decide_false, Bool.not_true, Bool.not_false, Option.map_some, Int.reduceLT, Int.reduceLE, Int.reduceAdd, Int.reduceSub, Int.reduceMul, Int.reduceNeg, Int.reduceEq, Nat.reduceAdd, Nat.reduceSub, check_film_ok hF, check_film_ok hg, hb, ↓d1', ↓d2', d1', d2', h']
end LW

end
section
namespace LW
open PySem DL PT
/-! ### a shortest row -/
abbrev FP (f g t : D) (es : List D) (s : Nat) (x5 x6 x7 x8 : Slot) : DL.Env := [.sh f, .sh g, .sh t, .own (.lst es), .sh (ni s), x5, x6, x7, x8]
abbrev fpB : DL.Env → DL.R Fl := seqS (setS 8 (withEnv (ifV (tst (bin gtD (gAny 7) (gAny 4))) (kc (.int 1)) (kc (.int 0))))) (ifS (withEnv (tst (bin eqD (bin plusD (bin ixD (bin ixD (gAny 2) (bin plusD (gAny 5) (kc (.int 1)))) (bin plusD (gAny 7) (kc (.int 1)))) (gAny 8)) (bin ixD (bin ixD (gAny 2) (gAny 5)) (gAny 4))))) (seqS (appS 3 (gSh 7)) (seqS (setS 4 (withEnv (bin plusD (gAny 7) (kc (.int 1))))) brkS)) skipS)
theorem fp_inner {F : List Nat} {G : List Nat → Nat} {B s k : Nat} {tbl T0 T1 : D} (g : D) (x6 : Slot) (es : List D) (hes : es.length ≤ 1000) (h0 : ixD tbl (.int (k : Int)) = some T0) (h1 : ixD tbl (.int ((k : Int) + 1)) = some T1) (h2 : ixD T0 (ni s) = some (ni B)) (h3 : ∀ q, q < F.length → ixD T1 (.int ((q : Int) + 1)) = some (ni (G (F.drop (q + 1))))) :
    ∀ (ps : List Nat) (e : Nat) (x7 x8 : Slot), (∀ q ∈ ps, q < F.length) → ps.find? (fun e => decide (cst G F s e = B)) = some e →
      ∃ y7 y8, forD (gSet 7) fpB (ps.map ni) (FP (tx F) g tbl es s (.sh (ni k)) x6 x7 x8) = .ok (.nx (FP (tx F) g tbl (es ++ [ni e]) (e + 1) (.sh (ni k)) x6 y7 y8))
  | [], e, x7, x8, _, h => by cases h
  | q :: ps, e, x7, x8, hq, h => by
    have hql := hq q (List.mem_cons_self ..)
    have h4 := h3 q hql
    rw [List.find?_cons] at h
    have t5 : D.int ((q : Int) + 1) = ni (q + 1) := rfl
    have hl : es.length < 1000000 := by omega
    rw [List.map_cons]
    unfold forD
    have g1 : gSet 7 (ni q) (FP (tx F) g tbl es s (.sh (ni k)) x6 x7 x8) = .ok (FP (tx F) g tbl es s (.sh (ni k)) x6 (.sh (ni q)) x8) := rfl
    rw [g1]
    simp only [bind_ok]
    by_cases hc : cst G F s q = B
    · rw [decide_eq_true hc] at h
      have he : q = e := Option.some.inj h
      subst he
      have hb : fpB (FP (tx F) g tbl es s (.sh (ni k)) x6 (.sh (ni q)) x8) = .ok (.bk (FP (tx F) g tbl (es ++ [ni q]) (q + 1) (.sh (ni k)) x6 (.sh (ni q)) (.sh (ni (if s < q then 1 else 0))))) := by
        by_cases hs : s < q
        · have hs' : (s : Int) < (q : Int) := by omega
          have hv : ((G (F.drop (q + 1)) : Nat) : Int) + 1 = ((B : Nat) : Int) := by
            unfold cst at hc
            rw [if_pos hs] at hc
            omega
          rw [if_pos hs]
          wide_open with ((), hs', h0, h1, h2, h4, hv)
          rfl
        · have hs' : ¬ (s : Int) < (q : Int) := by omega
          have hv : ((G (F.drop (q + 1)) : Nat) : Int) + 0 = ((B : Nat) : Int) := by
            unfold cst at hc
            rw [if_neg hs] at hc
            omega
          rw [if_neg hs]
          wide_open with ((), hs', h0, h1, h2, h4, hv)
          rfl
      rw [hb]
      exact ⟨_, _, rfl⟩
    · rw [decide_eq_false hc] at h
      obtain ⟨y7, y8, ih⟩ := fp_inner g x6 es hes h0 h1 h2 h3 ps e (.sh (ni q)) (.sh (ni (if s < q then 1 else 0))) (fun z hz => hq z (List.mem_cons_of_mem _ hz)) h
      have hb : fpB (FP (tx F) g tbl es s (.sh (ni k)) x6 (.sh (ni q)) x8) = .ok (.nx (FP (tx F) g tbl es s (.sh (ni k)) x6 (.sh (ni q)) (.sh (ni (if s < q then 1 else 0))))) := by
        by_cases hs : s < q
        · have hs' : (s : Int) < (q : Int) := by omega
          have hv : ¬ ((G (F.drop (q + 1)) : Nat) : Int) + 1 = ((B : Nat) : Int) := fun z => hc (by
            unfold cst
            rw [if_pos hs]
            omega)
          rw [if_pos hs]
          wide_open with ((), hs', h0, h1, h2, h4, hv)
          rfl
        · have hs' : ¬ (s : Int) < (q : Int) := by omega
          have hv : ¬ ((G (F.drop (q + 1)) : Nat) : Int) + 0 = ((B : Nat) : Int) := fun z => hc (by
            unfold cst
            rw [if_neg hs]
            omega)
          rw [if_neg hs]
          wide_open with ((), hs', h0, h1, h2, h4, hv)
          rfl
      rw [hb]
      exact ⟨y7, y8, ih⟩
theorem fp_loop {F g : List Nat} (hF : F.length ≤ 200) (hg : g.length ≤ 200) : ∀ (g2 pre : List Nat) (s : Nat) (es : List Nat) (x5 x6 x7 x8 : Slot), g = pre ++ g2 → s ≤ F.length → es.length + g2.length ≤ 500 → FW F.length g2 (F.drop s) < F.length →
    ∃ s' y5 y6 y7 y8, forD (gTupD 2 (gsCons (gSet 5) (gsCons (gSet 6) gsNil))) (forS (withEnv (itX zD (callF 3 F_places_from (aCons (gSh 0) (aCons (gSh 6) (aCons (gSh 4) aNil)))))) (gSet 7) fpB) ((g2.zipIdx pre.length).map fun p => D.tup [.int (p.2 : Nat), tx [p.1]])
      (FP (tx F) (tx g) (.lst (TF F g)) (es.map ni) s x5 x6 x7 x8) = .ok (.nx (FP (tx F) (tx g) (.lst (TF F g)) ((es ++ gp F.length F g2 s).map ni) s' y5 y6 y7 y8))
  | [], pre, s, es, x5, x6, x7, x8, hgp, hs, hl, h => ⟨s, x5, x6, x7, x8, by unfold gp; rw [List.append_nil]; rfl⟩
  | c :: g2, pre, s, es, x5, x6, x7, x8, hgp, hs, hl, h => by
    obtain ⟨e, h1, h2, h3, h4⟩ := gp_step h
    have hp := pl_mem h2
    have h5 : FW F.length g2 (F.drop (e + 1)) < F.length := by
      unfold cst at h3
      omega
    rw [List.length_cons] at hl
    have eg : gp F.length F (c :: g2) s = e :: gp F.length F g2 (e + 1) := by rw [gp, h1]
    obtain ⟨T0, i0, i1⟩ := TF_ix (F := F) (g := g) (k := pre.length) (s := s) (by rw [hgp, List.length_append]; omega) hs
    have hk1 : pre.length + 1 ≤ g.length := by rw [hgp, List.length_append, List.length_cons]; omega
    obtain ⟨T1, i2, _⟩ := TF_ix (F := F) (g := g) (k := pre.length + 1) (s := 0) hk1 (Nat.zero_le _)
    have d0 : g.drop pre.length = c :: g2 := by rw [hgp, List.drop_append_of_le_length (Nat.le_refl _), List.drop_of_length_le (Nat.le_refl _)]; rfl
    have d1 : g.drop (pre.length + 1) = g2 := by rw [← List.drop_drop, d0]; rfl
    rw [d0] at i1
    have i3 : ∀ q, q < F.length → ixD T1 (.int ((q : Int) + 1)) = some (ni (FW F.length g2 (F.drop (q + 1)))) := fun q hq => by
      obtain ⟨T2, j1, j2⟩ := TF_ix (F := F) (g := g) (k := pre.length + 1) (s := q + 1) hk1 (by omega)
      rw [d1] at j2
      have : T2 = T1 := by rw [i2] at j1; exact (Option.some.inj j1).symm
      rw [this] at j2
      exact j2
    obtain ⟨y7, y8, hin⟩ := fp_inner (F := F) (G := FW F.length g2) (B := FW F.length (c :: g2) (F.drop s)) (s := s) (k := pre.length) (tx g) (.sh (tx [c])) (es.map ni) (by rw [List.length_map]; omega) i0 i2 i1 i3 (pl F c s) e x7 x8 (fun q hq => (pl_mem hq).2.1) h1
    obtain ⟨s', z5, z6, z7, z8, ih⟩ := fp_loop hF hg g2 (pre ++ [c]) (e + 1) (es ++ [e]) (.sh (ni pre.length)) (.sh (tx [c])) y7 y8 (by rw [hgp]; simp) (by omega) (by rw [List.length_append, List.length_singleton]; omega) h5
    refine ⟨s', z5, z6, z7, z8, ?_⟩
    rw [List.zipIdx_cons, List.map_cons]
    unfold forD
    have g1 : gTupD 2 (gsCons (gSet 5) (gsCons (gSet 6) gsNil)) (.tup [.int ((pre.length : Nat) : Int), tx [c]]) (FP (tx F) (tx g) (.lst (TF F g)) (es.map ni) s x5 x6 x7 x8) = .ok (FP (tx F) (tx g) (.lst (TF F g)) (es.map ni) s (.sh (ni pre.length)) (.sh (tx [c])) x7 x8) := rfl
    rw [g1]
    simp only [bind_ok]
    have hpf := places_from_ok (c := c) hF hs
    have hb : forS (withEnv (itX zD (callF 3 F_places_from (aCons (gSh 0) (aCons (gSh 6) (aCons (gSh 4) aNil)))))) (gSet 7) fpB (FP (tx F) (tx g) (.lst (TF F g)) (es.map ni) s (.sh (ni pre.length)) (.sh (tx [c])) x7 x8) = .ok (.nx (FP (tx F) (tx g) (.lst (TF F g)) ((es ++ [e]).map ni) (e + 1) (.sh (ni pre.length)) (.sh (tx [c])) y7 y8)) := by
      have e5 : (es ++ [e]).map ni = es.map ni ++ [ni e] := by simp
      rw [e5]
      wide_open with ((), hpf, hin)
    rw [hb]
    simp only [bind_ok]
    have e2 : (pre ++ [c]).length = pre.length + 1 := by simp
    rw [e2] at ih
    have e3 : es ++ gp F.length F (c :: g2) s = es ++ [e] ++ gp F.length F g2 (e + 1) := by rw [eg]; simp
    rw [e3]
    exact ih
theorem fewest_parting_ok {F g : List Nat} (hF : F.length ≤ 200) (hg : g.length ≤ 200) (h : FW F.length g F < F.length) : F_fewest_parting [tx F, tx g, .lst (TF F g)] = .ok (.lst ((gp F.length F g 0).map ni)) := by
  obtain ⟨s', y5, y6, y7, y8, e⟩ := fp_loop hF hg g [] 0 [] .un .un .un .un rfl (Nat.zero_le _) (by simp; omega) h
  have e' : forD (gTupD 2 (gsCons (gSet 5) (gsCons (gSet 6) gsNil))) (forS (withEnv (itX zD (callF 3 F_places_from (aCons (gSh 0) (aCons (gSh 6) (aCons (gSh 4) aNil)))))) (gSet 7) fpB) ((g.zipIdx).map fun p => D.tup [.int (p.2 : Nat), tx [p.1]]) [.sh (tx F), .sh (tx g), .sh (.lst (TF F g)), .own (.lst []), .sh (.int 0), .un, .un, .un, .un] = _ := e
  refine fnD_rt (r1 := [.sh (tx F), .sh (tx g), .sh (.lst (TF F g)), .sh (.lst ((gp F.length F g 0).map ni)), .sh (ni s'), y5, y6, y7, y8]) rfl (show b_fewest_parting [.sh (tx F), .sh (tx g), .sh (.lst (TF F g)), .un, .un, .un, .un, .un, .un] = _ from ?_)
  unfold b_fewest_parting
  wide_open with ((), e', List.nil_append)
/-! the cuts for a parting -/
abbrev cfB : DL.Env → DL.R Fl := seqS (ifS (withEnv (tst (bin gtD (gAny 4) (gAny 2)))) (appS 1 (mkT (aCons (gSh 3) (aCons (bin subD (bin plusD (gAny 3) (gAny 4)) (gAny 2)) aNil)))) skipS) (setS 2 (withEnv (bin plusD (gAny 4) (kc (.int 1)))))
theorem cf_loop (x0 : Slot) : ∀ (es : List Nat) (k s : Nat) (B : List D) (x3 x4 : Slot), B.length + es.length ≤ 1000 →
    ∃ s' y3 y4, forD (gTupD 2 (gsCons (gSet 3) (gsCons (gSet 4) gsNil))) cfB (((es.map ni).zipIdx k).map fun p => D.tup [.int (p.2 : Nat), p.1]) [x0, .own (.lst B), .sh (ni s), x3, x4] = .ok (.nx [x0, .own (.lst (B ++ (cf k s es).map pd)), s', y3, y4])
  | [], k, s, B, x3, x4, _ => ⟨.sh (ni s), x3, x4, (congrArg (fun z => R.ok (Fl.nx [x0, Slot.own (.lst z), .sh (ni s), x3, x4])) (show B ++ (cf k s []).map pd = B by simp [cf])).symm⟩
  | e :: es, k, s, B, x3, x4, hB => by
    rw [List.length_cons] at hB
    rw [List.map_cons, List.zipIdx_cons, List.map_cons]
    unfold forD
    have g1 : gTupD 2 (gsCons (gSet 3) (gsCons (gSet 4) gsNil)) (.tup [.int ((k : Nat) : Int), ni e]) [x0, .own (.lst B), .sh (ni s), x3, x4] = .ok [x0, .own (.lst B), .sh (ni s), .sh (ni k), .sh (ni e)] := rfl
    rw [g1]
    simp only [bind_ok]
    have hl : B.length < 1000000 := by omega
    have t5 : D.int ((e : Int) + 1) = ni (e + 1) := rfl
    by_cases hs : s < e
    · obtain ⟨s', y3, y4, ih⟩ := cf_loop x0 es (k + 1) (e + 1) (B ++ [pd (k, k + e - s)]) (.sh (ni k)) (.sh (ni e)) (by rw [List.length_append, List.length_singleton]; omega)
      have hs' : (s : Int) < (e : Int) := by omega
      have t6 : (k : Int) + (e : Int) - (s : Int) = ((k + e - s : Nat) : Int) := by omega
      have hb : cfB [x0, .own (.lst B), .sh (ni s), .sh (ni k), .sh (ni e)] = .ok (.nx [x0, .own (.lst (B ++ [pd (k, k + e - s)])), .sh (ni (e + 1)), .sh (ni k), .sh (ni e)]) := by
        wide_open with ((), hs', t6, t5)
      rw [hb]
      refine ⟨s', y3, y4, ?_⟩
      have e3 : B ++ (cf k s (e :: es)).map pd = B ++ [pd (k, k + e - s)] ++ (cf (k + 1) (e + 1) es).map pd := by
        rw [cf, if_pos hs]
        simp
      rw [e3]
      exact ih
    · obtain ⟨s', y3, y4, ih⟩ := cf_loop x0 es (k + 1) (e + 1) B (.sh (ni k)) (.sh (ni e)) (by omega)
      have hs' : ¬ (s : Int) < (e : Int) := by omega
      have hb : cfB [x0, .own (.lst B), .sh (ni s), .sh (ni k), .sh (ni e)] = .ok (.nx [x0, .own (.lst B), .sh (ni (e + 1)), .sh (ni k), .sh (ni e)]) := by
        wide_open with ((), hs', t5)
      rw [hb]
      refine ⟨s', y3, y4, ?_⟩
      have e3 : B ++ (cf k s (e :: es)).map pd = B ++ (cf (k + 1) (e + 1) es).map pd := by
        rw [cf, if_neg hs]
        rfl
      rw [e3]
      exact ih
theorem en_lst (xs : List D) : enD [.lst xs] = some (xs.zipIdx.map fun p => D.tup [.int (p.2 : Nat), p.1]) := (rfl)
theorem cuts_for_ok {es : List Nat} (hl : es.length ≤ 500) : F_cuts_for [.lst (es.map ni)] = .ok (.tup ((cf 0 0 es).map pd)) := by
  obtain ⟨s', y3, y4, e⟩ := cf_loop (.sh (.lst (es.map ni))) es 0 0 [] .un .un (by simp; omega)
  have e' : forD (gTupD 2 (gsCons (gSet 3) (gsCons (gSet 4) gsNil))) cfB (((es.map ni).zipIdx).map fun p => D.tup [.int (p.2 : Nat), p.1]) [.sh (.lst (es.map ni)), .own (.lst []), .sh (.int 0), .un, .un] = _ := e
  refine fnD_rt (r1 := [.sh (.lst (es.map ni)), .own (.lst ((cf 0 0 es).map pd)), s', y3, y4]) rfl (show b_cuts_for [.sh (.lst (es.map ni)), .un, .un, .un, .un] = _ from ?_)
  unfold b_cuts_for
  wide_open with ((), en_lst, e', List.nil_append)
theorem some_cuts_ok {F g : List Nat} (hF : Film F) (hg : Film g) : F_some_cuts [tx F, tx g] = .ok (if 0 < W g F then .tup ((cf 0 0 (gp F.length F g 0)).map pd) else .non) := by
  have hFl := hF.2.1
  have hb := fewest_behind_ok hF.2.1 hg.2.1
  obtain ⟨d, d1, d2⟩ := TF_ix (F := F) (g := g) (k := 0) (s := 0) (Nat.zero_le _) (Nat.zero_le _)
  have d1' : ixD (.lst (TF F g)) (.int 0) = some d := d1
  have d2' : ixD d (.int 0) = some (ni (FW F.length g F)) := d2
  have hlt := FW_lt (g := g) hF.1
  have hle : FW F.length g F ≤ F.length := by
    cases g with
    | nil => exact absurd rfl hg.1
    | cons c g =>
      by_cases z : F[0]? = some c
      · have := lg_le (N := F.length) (c := c) (G := FW F.length g) (F.drop 1)
        have h0 : 0 < F.length := List.length_pos_iff.mpr hF.1
        have e1 : F = F[0] :: F.drop 1 := by
          have := List.drop_eq_getElem_cons h0
          rw [List.drop_zero] at this
          exact this
        have e2 : F[0] = c := (List.getElem?_eq_some_iff.mp z).2
        have e3 : FW F.length (c :: g) F = fb F.length c (FW F.length g) (F[0] :: F.drop 1) := by rw [← e1]; rfl
        rw [e3]
        simp only [fb, if_pos e2]
        omega
      · have := fb_no (N := F.length) (G := FW F.length g) (s := 0) z
        rw [List.drop_zero] at this
        exact Nat.le_of_eq this
  by_cases h : 0 < W g F
  · have hl := hlt.mpr h
    have h' : ¬ ((FW F.length g F : Nat) : Int) = (F.length : Int) := by omega
    have k1 := fewest_parting_ok hF.2.1 hg.2.1 hl
    have hgp := gp_ok (N := F.length) (F := F) g 0 (Nat.zero_le _) (by rw [List.drop_zero]; exact hl)
    have hlen := (E_isP hgp.1).2
    have hgl := hg.2.1
    have k2 := cuts_for_ok (es := gp F.length F g 0) (by omega)
    rw [if_pos h]
    refine fnD_rt (r1 := [.sh (tx F), .sh (tx g), .sh (.lst (TF F g))]) rfl (show b_some_cuts [.sh (tx F), .sh (tx g), .un] = _ from ?_)
    unfold b_some_cuts
    simp (disch := first | omega | (simp; done) | (simp; omega)) only [↓DL.we_e, DL.weB_ok, ↓DL.ts_e, DL.tsB_ok, ↓DL.tsE_e, DL.tsE_ok, DL.prB_ok, ↓DL.tr_e, DL.trB_ok, ↓DL.trE_e, DL.trE_ok, ↓DL.bn_e, DL.bnB_ok, ↓DL.bnE_e, DL.bnE_ok, DL.bnE2_ok, ↓DL.ap_e, DL.apB_ok, ↓DL.itN_e, ↓DL.apE_e, DL.apE_ok, ↓DL.itX_e, DL.apX_ok, ↓DL.un1_e, ↓DL.aNil_e, ↓DL.aCons_e, DL.acB_ok, ↓DL.aConsE_e, DL.acE_ok, DL.acE2_ok, ↓DL.kc_e, ↓DL.notB_e, DL.ntB_ok, ↓DL.notV_e, DL.ntV_ok, ↓DL.notE_e, DL.ntE_ok, ↓DL.andB_e, DL.anB_t, DL.anB_f, ↓DL.orB_e, DL.orB_t, DL.orB_f, ↓DL.andV_e, DL.anV_t, DL.anV_f, ↓DL.orV_e, DL.roV_t, DL.roV_f, ↓DL.ifV_e, DL.ivB_t, DL.ivB_f, ↓DL.ifVE_e, DL.ivE_t, DL.ivE_f, ↓DL.andE_e, DL.anE_t, DL.anE_f, ↓DL.orE_e, DL.roE_t, DL.roE_f, ↓DL.chn_e, DL.chB_ok, DL.chB2_t, DL.chB2_f, ↓DL.oNone_e, ↓DL.oSome_e, DL.osB_ok, ↓DL.sl3_e, DL.s3B_ok, ↓DL.mthV_e, DL.mvB_tx, ↓DL.mthL_e, DL.mlB_ok, ↓DL.mkT_e, DL.mtB_ok, ↓DL.mkL_e, DL.mlB'_ok, ↓DL.mkTE_e, DL.mtE_ok, ↓DL.gSet_e, ↓DL.gTup_e, ↓DL.gsCons_e, DL.gcB_ok, ↓DL.gsNil_e, ↓DL.seq_st, DL.sq_nx, DL.sq_rt, DL.sq_bk, DL.sq_ct, ↓DL.if_st, DL.ifB_y, DL.ifB_n, ↓DL.set_st, DL.stB_ok, ↓DL.ret_st, DL.rtB_ok, ↓DL.seto_st, DL.soB_ok, ↓DL.for_st', DL.frB_ok, DL.forD_nil, ↓DL.expr_st, DL.exB_ok, ↓DL.skip_st, ↓DL.retN_st, ↓DL.brk_st, ↓DL.call_st, DL.clB_ok, ↓DL.callE_st, DL.clE_ok, DL.R_at_ok, ↓DL.callIO_st, DL.ciB_ok, DL.ciC_ok, DL.ciD_ok, ↓DL.par_st, DL.psB_ok, ↓DL.asg_st, DL.asB1_ok, DL.asB2_ok, ↓DL.aug_st, DL.agB_ok, DL.agC_ok, ↓DL.app_st, DL.apS_ok, ↓DL.itm_st, DL.imB_ok, DL.imC_ok, ↓DL.rvs_st, DL.rvB_ok, ↓DL.retO_st, DL.roB_own, DL.roB_sh, ↓DL.frz_st, ↓DL.frzS_st, DL.fzB_own, DL.fzB_sh, DL.fzB_un, ↓DL.itR1_st, DL.r1B_ok, DL.rg1_ok, DL.rg2_ok, DL.tn_add1, DL.tn_succ, DL.tn_nat, DL.tn_pred, DL.tn_sub, DL.len0, DL.len1, DL.len2, DL.len3, DL.len4, DL.gSh_eq, DL.gAny_eq, DL.gS_sh, DL.gA_sh, DL.gA_own, DL.gA_io, DL.ownL_eq, DL.oL_own, DL.oL_io, DL.put_own, DL.put_io, DL.ofO_some, DL.tru_bl, DL.tru_int, DL.tru_lst, DL.len_tx, DL.len_lst, DL.len_tup, DL.ix_tx, DL.ix_lst, DL.ix_tup, DL.sl_tx, DL.sl_lst, DL.sl_tup, DL.plus_tx, DL.plus_int, DL.plus_lst, DL.plus_tup, DL.cat_lst, DL.rep_lst1, DL.zD_tx, DL.zD_lst, DL.zD_tup, DL.rev_tx, DL.en_tx, DL.tup_lst, DL.lst_tup, DL.isi_tx, DL.isi_int, DL.isi_intb, DL.isi_tt, DL.isi_lt, DL.isi_int_tl, DL.isi_non_tl, DL.isi_tup_tl, DL.isi_tup_l, DL.isi_int_s, DL.isi_non_s, DL.eq_bl, DL.ne_bl, DL.eq_non, DL.isn_i, DL.isn_n, DL.sub_int', DL.add_ip, DL.sub_ip, DL.mul_int', DL.lt_int, DL.gt_int, DL.ge_int, DL.le_int, DL.eq_int, DL.ne_int, DL.eq_tx, DL.ne_tx, DL.isn_int, DL.isn_non, DL.isb, DL.neg_int, DL.int_int, DL.atI_nat, DL.atI_zero, DL.atI_one, DL.atI_two, DL.atI_three, DL.atI_succ, DL.atI_last, DL.cut_to, DL.cut_from, DL.cut_both, DL.cut_butlast, DL.sum_nl, DL.sum_nt, DL.mul_tx1, DL.mul_tup, ↓DL.ownK_e, DL.oK_own, ↓DL.put_st, DL.puB_tx, DL.puB_ni, ↓DL.pop_st, DL.poB_ok, ↓DL.parO_st, DL.paO_ok, ↓DL.parOS_st, DL.paS_ok, ↓DL.disp_e, DL.diB_tx, ↓DL.whl_st, ↓DL.ch3_e, DL.ch3_ok, DL.ch3_t, DL.ch3_f, DL.ch3b_ok, DL.ch3_t2, DL.ch3_f2, List.getElem?_cons_zero, List.getElem?_cons_succ, List.set_cons_zero, List.set_cons_succ, List.length_cons, List.length_nil, List.map_nil, List.length_map, List.cons.injEq, and_true, eq_self, Bool.true_eq_false, Bool.false_eq_true, decide_true, decide_false, Bool.not_true, Bool.not_false, Option.map_some, Int.reduceLT, Int.reduceLE, Int.reduceAdd, Int.reduceSub, Int.reduceMul, Int.reduceNeg, Int.reduceEq, Nat.reduceAdd, Nat.reduceSub, check_film_ok hF, check_film_ok hg, hb, ↓d1', ↓d2', d1', d2', h', k1, k2]
  · have h' : ((FW F.length g F : Nat) : Int) = (F.length : Int) := by
      have : ¬ FW F.length g F < F.length := fun z => h (hlt.mp z)
      omega
    rw [if_neg h]
    refine fnD_rt (r1 := [.sh (tx F), .sh (tx g), .sh (.lst (TF F g))]) rfl (show b_some_cuts [.sh (tx F), .sh (tx g), .un] = _ from ?_)
    unfold b_some_cuts
    simp (disch := first | omega | (simp; done) | (simp; omega)) only [↓DL.we_e, DL.weB_ok, ↓DL.ts_e, DL.tsB_ok, ↓DL.tsE_e, DL.tsE_ok, DL.prB_ok, ↓DL.tr_e, DL.trB_ok, ↓DL.trE_e, DL.trE_ok, ↓DL.bn_e, DL.bnB_ok, ↓DL.bnE_e, DL.bnE_ok, DL.bnE2_ok, ↓DL.ap_e, DL.apB_ok, ↓DL.itN_e, ↓DL.apE_e, DL.apE_ok, ↓DL.itX_e, DL.apX_ok, ↓DL.un1_e, ↓DL.aNil_e, ↓DL.aCons_e, DL.acB_ok, ↓DL.aConsE_e, DL.acE_ok, DL.acE2_ok, ↓DL.kc_e, ↓DL.notB_e, DL.ntB_ok, ↓DL.notV_e, DL.ntV_ok, ↓DL.notE_e, DL.ntE_ok, ↓DL.andB_e, DL.anB_t, DL.anB_f, ↓DL.orB_e, DL.orB_t, DL.orB_f, ↓DL.andV_e, DL.anV_t, DL.anV_f, ↓DL.orV_e, DL.roV_t, DL.roV_f, ↓DL.ifV_e, DL.ivB_t, DL.ivB_f, ↓DL.ifVE_e, DL.ivE_t, DL.ivE_f, ↓DL.andE_e, DL.anE_t, DL.anE_f, ↓DL.orE_e, DL.roE_t, DL.roE_f, ↓DL.chn_e, DL.chB_ok, DL.chB2_t, DL.chB2_f, ↓DL.oNone_e, ↓DL.oSome_e, DL.osB_ok, ↓DL.sl3_e, DL.s3B_ok, ↓DL.mthV_e, DL.mvB_tx, ↓DL.mthL_e, DL.mlB_ok, ↓DL.mkT_e, DL.mtB_ok, ↓DL.mkL_e, DL.mlB'_ok, ↓DL.mkTE_e, DL.mtE_ok, ↓DL.gSet_e, ↓DL.gTup_e, ↓DL.gsCons_e, DL.gcB_ok, ↓DL.gsNil_e, ↓DL.seq_st, DL.sq_nx, DL.sq_rt, DL.sq_bk, DL.sq_ct, ↓DL.if_st, DL.ifB_y, DL.ifB_n, ↓DL.set_st, DL.stB_ok, ↓DL.ret_st, DL.rtB_ok, ↓DL.seto_st, DL.soB_ok, ↓DL.for_st', DL.frB_ok, DL.forD_nil, ↓DL.expr_st, DL.exB_ok, ↓DL.skip_st, ↓DL.retN_st, ↓DL.brk_st, ↓DL.call_st, DL.clB_ok, ↓DL.callE_st, DL.clE_ok, DL.R_at_ok, ↓DL.callIO_st, DL.ciB_ok, DL.ciC_ok, DL.ciD_ok, ↓DL.par_st, DL.psB_ok, ↓DL.asg_st, DL.asB1_ok, DL.asB2_ok, ↓DL.aug_st, DL.agB_ok, DL.agC_ok, ↓DL.app_st, DL.apS_ok, ↓DL.itm_st, DL.imB_ok, DL.imC_ok, ↓DL.rvs_st, DL.rvB_ok, ↓DL.retO_st, DL.roB_own, DL.roB_sh, ↓DL.frz_st, ↓DL.frzS_st, DL.fzB_own, DL.fzB_sh, DL.fzB_un, ↓DL.itR1_st, DL.r1B_ok, DL.rg1_ok, DL.rg2_ok, DL.tn_add1, DL.tn_succ, DL.tn_nat, DL.tn_pred, DL.tn_sub, DL.len0, DL.len1, DL.len2, DL.len3, DL.len4, DL.gSh_eq, DL.gAny_eq, DL.gS_sh, DL.gA_sh, DL.gA_own, DL.gA_io, DL.ownL_eq, DL.oL_own, DL.oL_io, DL.put_own, DL.put_io, DL.ofO_some, DL.tru_bl, DL.tru_int, DL.tru_lst, DL.len_tx, DL.len_lst, DL.len_tup, DL.ix_tx, DL.ix_lst, DL.ix_tup, DL.sl_tx, DL.sl_lst, DL.sl_tup, DL.plus_tx, DL.plus_int, DL.plus_lst, DL.plus_tup, DL.cat_lst, DL.rep_lst1, DL.zD_tx, DL.zD_lst, DL.zD_tup, DL.rev_tx, DL.en_tx, DL.tup_lst, DL.lst_tup, DL.isi_tx, DL.isi_int, DL.isi_intb, DL.isi_tt, DL.isi_lt, DL.isi_int_tl, DL.isi_non_tl, DL.isi_tup_tl, DL.isi_tup_l, DL.isi_int_s, DL.isi_non_s, DL.eq_bl, DL.ne_bl, DL.eq_non, DL.isn_i, DL.isn_n, DL.sub_int', DL.add_ip, DL.sub_ip, DL.mul_int', DL.lt_int, DL.gt_int, DL.ge_int, DL.le_int, DL.eq_int, DL.ne_int, DL.eq_tx, DL.ne_tx, DL.isn_int, DL.isn_non, DL.isb, DL.neg_int, DL.int_int, DL.atI_nat, DL.atI_zero, DL.atI_one, DL.atI_two, DL.atI_three, DL.atI_succ, DL.atI_last, DL.cut_to, DL.cut_from, DL.cut_both, DL.cut_butlast, DL.sum_nl, DL.sum_nt, DL.mul_tx1, DL.mul_tup, ↓DL.ownK_e, DL.oK_own, ↓DL.put_st, DL.puB_tx, DL.puB_ni, ↓DL.pop_st, DL.poB_ok, ↓DL.parO_st, DL.paO_ok, ↓DL.parOS_st, DL.paS_ok, ↓DL.disp_e, DL.diB_tx, ↓DL.whl_st, ↓DL.ch3_e, DL.ch3_ok, DL.ch3_t, DL.ch3_f, DL.ch3b_ok, DL.ch3_t2, DL.ch3_f2, List.getElem?_cons_zero, List.getElem?_cons_succ, List.set_cons_zero, List.set_cons_succ, List.length_cons, List.length_nil, List.map_nil, List.length_map, List.cons.injEq, and_true, eq_self, Bool.true_eq_false, Bool.false_eq_true, decide_true, decide_false, Bool.not_true, Bool.not_false, Option.map_some, Int.reduceLT, Int.reduceLE, Int.reduceAdd, Int.reduceSub, Int.reduceMul, Int.reduceNeg, Int.reduceEq, Nat.reduceAdd, Nat.reduceSub, check_film_ok hF, check_film_ok hg, hb, ↓d1', ↓d2', d1', d2', h']
end LW

end
section
namespace LW
open PySem DL PT
/-! ### rows played -/
def fpl : List Nat → List (Nat × Nat) → List (List Nat)
  | _, [] => []
  | f, p :: ps => f :: fpl (cutBy f p) ps
/-! shows_cuts -/
abbrev few (f g : List Nat) : D := if 0 < W g f then ni (FW f.length g f) else .non
end LW

end
section
namespace LW
open PySem DL PT
/-! kept_places -/
abbrev kppB : DL.Env → DL.R Fl := delSl 2 (bin plusD (gAny 3) (kc (.int 1))) (bin plusD (gAny 4) (kc (.int 1)))
end LW

end
section
namespace PT
/-! ### how many unlike films one cut makes -/
/-- the cuts of d letters that have no such cut one place ahead -/
def runS (f : List Nat) (i d : Nat) : Prop := f[i]? = f[i + d]? ∧ (i = 0 ∨ f[i - 1]? ≠ f[i - 1 + d]?)
instance (f : List Nat) (i d : Nat) : Decidable (runS f i d) := inferInstanceAs (Decidable (_ ∧ (_ ∨ _)))
theorem cut_run {f : List Nat} {d : Nat} : ∀ i, i + d < f.length → f[i]? = f[i + d]? → ∃ j, j ≤ i ∧ runS f j d ∧ cutBy f (j, j + d) = cutBy f (i, i + d)
  | 0, _, h => ⟨0, Nat.le_refl _, ⟨h, .inl rfl⟩, rfl⟩
  | i + 1, hl, h => by
    by_cases z : f[i]? = f[i + d]?
    · obtain ⟨j, h1, h2, h3⟩ := cut_run i (by omega) z
      refine ⟨j, by omega, h2, h3.trans ?_⟩
      show f.take (i + 1) ++ f.drop (i + d + 1) = f.take (i + 1 + 1) ++ f.drop (i + 1 + d + 1)
      have e1 : f.take (i + 1 + 1) = f.take (i + 1) ++ [f[i + 1]'(by omega)] := by rw [List.take_add_one, List.getElem?_eq_getElem (show i + 1 < f.length by omega)]; rfl
      have e2 : f.drop (i + d + 1) = f[i + 1 + d]'(by omega) :: f.drop (i + 1 + d + 1) := by
        have := List.drop_eq_getElem_cons (l := f) (i := i + 1 + d) (by omega)
        rw [show i + d + 1 = i + 1 + d by omega]
        exact this
      have e3 : f[i + 1]'(by omega) = f[i + 1 + d]'(by omega) := by
        rw [List.getElem?_eq_getElem (show i + 1 < f.length by omega), List.getElem?_eq_getElem (show i + 1 + d < f.length by omega)] at h
        exact Option.some.inj h
      rw [e1, e2, e3, List.append_assoc]
      rfl
    · exact ⟨i + 1, Nat.le_refl _, ⟨h, .inr (by rw [Nat.add_sub_cancel]; exact z)⟩, rfl⟩
def prs120 : List (Nat × Nat) := (List.range 60).flatMap fun k => (List.range' 1 (119 - 2 * k)).map fun d => (k, d)
theorem prs_len : prs120.length = 3600 := by decide +kernel
theorem cut_few {f : List Nat} (hl : f.length ≤ 120) {D : List (List Nat)} (nd : D.Nodup) (hD : ∀ x ∈ D, ∃ p ∈ cutsL f, x = cutBy f p) : D.length ≤ 3600 := by
  have := nodup_le (l := D) (m := prs120.map fun q => if runS f (2 * q.1) q.2 then cutBy f (2 * q.1, 2 * q.1 + q.2) else cutBy f (2 * q.1 + 1, 2 * q.1 + 1 + q.2)) nd fun x hx => by
    obtain ⟨⟨a, b⟩, hp, e⟩ := hD x hx
    obtain ⟨h1, h2, h3⟩ := mem_cutsL.mp hp
    have h1 : a < b := h1
    have h2 : b < f.length := h2
    have h3 : f[a]? = f[b]? := h3
    obtain ⟨d, rfl⟩ : ∃ d, b = a + d := ⟨b - a, by omega⟩
    obtain ⟨j, j1, j2, j3⟩ := cut_run a h2 h3
    refine List.mem_map.mpr ⟨(j / 2, d), ?_, ?_⟩
    · unfold prs120
      refine List.mem_flatMap.mpr ⟨j / 2, List.mem_range.mpr (by omega), List.mem_map.mpr ⟨d, List.mem_range'_1.mpr (by omega), rfl⟩⟩
    · rw [e, ← j3]
      show (if runS f (2 * (j / 2)) d then _ else _) = _
      rcases Nat.mod_two_eq_zero_or_one j with z | z
      · have ej : 2 * (j / 2) = j := by omega
        rw [ej, if_pos j2]
      · have ej : 2 * (j / 2) + 1 = j := by omega
        have no : ¬ runS f (2 * (j / 2)) d := fun w => by
          rcases j2.2 with y | y
          · omega
          · have e1 : j - 1 = 2 * (j / 2) := by omega
            rw [e1] at y
            exact y w.1
        rw [if_neg no, ej]
  rw [List.length_map, prs_len] at this
  exact this
end PT

end
section
namespace LW
open PySem DL PT
/-! cut, next films, tight rows of one cut, one cut off -/
theorem scYU {α : Type} {g : D → DL.Env → DL.R DL.Env} {f : DL.Env → DL.R D} {own : List (Str × Nat)} {h : DL.Env → DL.R (List D)} {r : DL.Env} (L : List α) (φ : α → D) (ψ : α → Str) (E : α → DL.Env) (hn : noOwn (own.map (·.2)) r = true) (hi : h r = .ok (L.map φ)) (hb : (dedT (L.map ψ)).length ≤ 4000)
    (hg : ∀ x, g (φ x) (wipeE r (own.map (·.2))) = .ok (E x)) (hx : ∀ x ∈ L, f (E x) = .ok (.str (ψ x))) : srtScUD own h g yesB f r = .ok (.lst ((sortStr (dedT (L.map ψ))).map D.str)) := by
  unfold srtScUD
  rw [if_pos hn, hi]
  simp only [DL.R.bind]
  have := lcP_map (g := g) (c := yesB) (f := f) (r0 := wipeE r (own.map (·.2))) E φ (fun x => .str (ψ x)) (fun _ => true) L fun x m => ⟨hg x, rfl, fun _ => hx x m⟩
  rw [List.filter_eq_self.mpr (fun _ _ => rfl)] at this
  rw [this]
  simp only [DL.R.ne, DL.R.bind]
  have e : ∀ l : List α, strsOf (l.map fun x => D.str (ψ x)) = some (l.map ψ) := by
    intro l
    induction l with
    | nil => rfl
    | cons x l ih =>
      show (strsOf (l.map fun x => D.str (ψ x))).map (fun l => ψ x :: l) = _
      rw [ih]
      rfl
  rw [e]
  simp only [DL.R.ofO, DL.R.bind]
  rw [if_pos (by unfold PySem.scanBound; omega)]
theorem next_films_ok {F : List Nat} (hF : Film F) (hl : F.length ≤ 120) : F_next_films [tx F] = .ok (.lst ((srtU ((cutsL F).map (cutBy F))).map fun l => tx l)) := by
  have it : itX zD (callF 1 F_cuts (aCons (gSh 0) aNil)) [.sh (tx F), .un] = .ok ((cutsL F).map pd) := by wide_open with ((), cuts_ok hF)
  have few : (dedT ((cutsL F).map fun p => mkS (cutBy F p))).length ≤ 4000 := by
    have nd := nodup_dedT ((cutsL F).map fun p => mkS (cutBy F p))
    have := cut_few hl (D := (dedT ((cutsL F).map fun p => mkS (cutBy F p))).map fun s => s.cps.toList) (List.Pairwise.map _ (S := fun a b => a ≠ b) (fun a b (z : a ≠ b) e => z (by
      have e : a.cps.toList = b.cps.toList := e
      cases a; cases b
      exact congrArg _ (Array.toList_inj.mp e))) nd) fun x hx => by
      obtain ⟨s, hs, e⟩ := List.mem_map.mp hx
      obtain ⟨p, hp, e2⟩ := List.mem_map.mp (mem_dedT.mp hs)
      exact ⟨p, hp, by rw [← e, ← e2]⟩
    rw [List.length_map] at this
    omega
  have c := scYU (r := [.sh (tx F), .un]) (own := [("pair", 1)]) (g := gSet 1) (f := callF 2 F_behind_cut (aCons (gSh 0) (aCons (gSh 1) aNil))) (cutsL F) pd (fun p => mkS (cutBy F p)) (fun p => [.sh (tx F), .sh (pd p)]) rfl it few (fun _ => rfl) fun p hp => by
    have b := behind_ok (f := F) hF.2.1 p.1 p.2
    have b' : F_behind_cut [tx F, pd p] = .ok (tx (cutBy F p)) := b
    wide_open with ((), b')
    rfl
  have e := srtU_D ((cutsL F).map (cutBy F))
  rw [List.map_map] at e
  have e : (sortStr (dedT ((cutsL F).map fun p => mkS (cutBy F p)))).map D.str = _ := e
  rw [e] at c
  refine fnD_rt (r1 := [.sh (tx F), .un]) rfl (show b_next_films [.sh (tx F), .un] = _ from ?_)
  unfold b_next_films
  wide_open with ((), c)
def oneOff (F g : List Nat) : Bool := decide (0 < W g F ∧ FW F.length g F = 1)
end LW

end
section
namespace PT
/-! ### parting by a name; walks where all letters have ties -/
theorem sum_partN {α : Type} (f : α → Nat) : ∀ {P : List Nat} (L : List α), P.Nodup → (P.map fun p => (L.filter fun u => decide (f u = p)).length).sum = (L.filter fun u => decide (f u ∈ P)).length
  | [], L, _ => by
    rw [List.map_nil, List.sum_nil, List.filter_eq_nil_iff.mpr (fun u _ => by simp)]
    rfl
  | p :: P, L, h => by
    obtain ⟨n1, n2⟩ := List.nodup_cons.mp h
    rw [List.map_cons, List.sum_cons, sum_partN f L n2]
    induction L with
    | nil => rfl
    | cons u L ih =>
      rw [List.filter_cons, List.filter_cons, List.filter_cons]
      by_cases z : f u = p
      · have z2 : f u ∉ P := fun y => n1 (z ▸ y)
        rw [if_pos (decide_eq_true z), if_neg (by rw [decide_eq_false z2]; decide), if_pos (decide_eq_true (List.mem_cons.mpr (.inl z))), List.length_cons, List.length_cons]
        omega
      · by_cases y : f u ∈ P
        · rw [if_neg (by rw [decide_eq_false z]; decide), if_pos (decide_eq_true y), if_pos (decide_eq_true (List.mem_cons_of_mem _ y)), List.length_cons, List.length_cons]
          omega
        · rw [if_neg (by rw [decide_eq_false z]; decide), if_neg (by rw [decide_eq_false y]; decide), if_neg (by
            rw [decide_eq_false fun w => (List.mem_cons.mp w).elim z y]
            decide)]
          exact ih
section
variable {A : Nat → Nat → Bool}
end
end PT

end
section
namespace PT
/-! ### mends, few -/
section
variable {P : Nat → Prop} {pi lo ch : Nat}
def PutIn (P : Nat → Prop) (A A' : List Nat) : Prop := ∃ p c, p ≤ A.length ∧ P c ∧ A' = A.take p ++ c :: A.drop p
def LeftOut (A A' : List Nat) : Prop := ∃ p, p < A.length ∧ A' = A.take p ++ A.drop (p + 1)
end
section
variable {F g : List Nat}
theorem W_len {F g : List Nat} (h : 0 < W g F) : g.length ≤ F.length := by
  obtain ⟨es, l, hp⟩ : ∃ es, es.length = g.length ∧ isP F g 0 es = true := by
    have h2 : 0 < (E F g 0).length := by
      rw [E_eq]
      simpa using h
    obtain ⟨es, hes⟩ := List.exists_mem_of_length_pos h2
    obtain ⟨a, b⟩ := E_isP hes
    exact ⟨es, b, a⟩
  have key : ∀ (g es : List Nat) (s : Nat), es.length = g.length → isP F g s es = true → s + g.length ≤ F.length := by
    intro g
    induction g with
    | nil => intro es s l hp; have := List.eq_nil_of_length_eq_zero (by simpa using l : es.length = 0); subst this; have := isP_nil.mp hp; simp [this]
    | cons c g ih =>
      intro es s l hp
      cases es with
      | nil => cases l
      | cons e es =>
        obtain ⟨h1, h2, h3, h4⟩ := isP_cons.mp hp
        have := ih es (e + 1) (by simpa using l) h4
        rw [List.length_cons]
        omega
  have := key g es 0 l hp
  omega
end
end PT

end
section
/-! ### how many films of a size come to a goal -/
namespace PT
/-- films of k letters over L that come to g (M54 has the same by the name bef) -/
abbrev bfw (g L : List Nat) (k : Nat) : List (List Nat) := (aw L k).filter fun F => decide (0 < W g F)
/-- the letters one on, the last one to the first -/
def nx8 (c : Nat) : Nat := if c = 104 then 97 else if 97 ≤ c ∧ c < 104 then c + 1 else c
def pv8 (c : Nat) : Nat := if c = 97 then 104 else if 97 < c ∧ c ≤ 104 then c - 1 else c
end PT

end
section
namespace PT
/-! ### rings: what comes of turned films, cuts of rings -/
/-- the least letter -/
def lwN (x : Nat) (xs : List Nat) : Nat := xs.foldl (fun a y => if decide ([y] < [a]) = true then y else a) x
end PT

end
section
/-! ### films that come to one letter; pairs of films and outcomes counted both ways -/
namespace PT
end PT

end
section
namespace PT
/-! ### first and last letters -/
end PT

end
section
namespace LW
open PySem DL PT
noncomputable section
abbrev fB : DL.Env → DL.R Fl := (setS 7 (withEnv (bin plusD (gAny 7) (callF 2 F_count_beginning (aCons (gSh 2) (aCons (bin plusD (bin ixD (gAny 2) (kc (.int 0))) (gAny 8)) aNil))))))
def lawC : DL.Env → DL.R Fl := (seqS (setS 7 (withEnv (ifV (tst (bin eqD (bin ixD (gAny 2) (kc (.int 0))) (bin ixD (gAny 2) (un1 negD (kc (.int 1)))))) (kc (.int 1)) (kc (.int 0))))) (seqS (forS (withEnv (itX zD (kc (.str "abcdefgh")))) (gSet 8) (setS 7 (withEnv (bin plusD (gAny 7) (callF 2 F_count_beginning (aCons (gSh 2) (aCons (bin plusD (bin ixD (gAny 2) (kc (.int 0))) (gAny 8)) aNil))))))) (seqS (ifS (withEnv (tst (bin neD (gAny 7) (gAny 3)))) (retS (withEnv (kc (.bl false)))) skipS) (seqS (setS 9 (withEnv (sl3 slA (callF 1 F_next_films (aCons (gSh 2) aNil)) oNone (oSome (kc (.int 5)))))) (retS (withEnv (bin eqD (lcD [("one", 10)] (itX zD (gSh 9)) (gSet 10) (orB (tst (bin geD (callF 1 F_count_outcomes (aCons (gSh 10) aNil)) (gAny 3))) (tst (bin isN2 (callF 2 F_rank_of (aCons (gSh 2) (aCons (gSh 10) aNil))) (kc .non)))) (gSh 10)) (mkL aNil))))))))
def lawB : DL.Env → DL.R Fl := (seqS (ifS (withEnv (orB (tst (bin neD (callF 2 F_rank_of (aCons (gSh 2) (aCons (gSh 5) aNil))) (gAny 4))) (orB (notB (tru (callF 2 F_comes (aCons (gSh 2) (aCons (gSh 5) aNil))))) (tst (bin notN2 (callF 2 F_outcome_at (aCons (gSh 2) (aCons (gSh 3) aNil))) (kc .non)))))) (retS (withEnv (kc (.bl false)))) skipS) (seqS (setS 6 (withEnv (callF 2 F_next_outcome (aCons (gSh 2) (aCons (gSh 5) aNil))))) (seqS (ifS (withEnv (orB (tst (bin neD (gAny 6) (callF 2 F_outcome_at (aCons (gSh 2) (aCons (bin plusD (gAny 4) (kc (.int 1))) aNil))))) (andB (tst (bin notN2 (gAny 6) (kc .non))) (tst (bin leSD (gAny 6) (gAny 5)))))) (retS (withEnv (kc (.bl false)))) skipS) (seqS (ifS (withEnv (orB (tst (bin gtD (callF 1 F_count_outcomes (aCons (gSh 5) aNil)) (gAny 3))) (tst (bin neD (appN lenD (aCons (callF 2 F_some_cuts (aCons (gSh 2) (aCons (gSh 5) aNil))) aNil)) (callF 2 F_fewest_cuts (aCons (gSh 2) (aCons (gSh 5) aNil))))))) (retS (withEnv (kc (.bl false)))) skipS) (seqS (ifS (withEnv (orB (tst (bin neD (callF 2 F_count_beginning (aCons (gSh 2) (aCons (bin ixD (gAny 2) (kc (.int 0))) aNil))) (gAny 3))) (tst (bin ltD (callF 2 F_count_beginning (aCons (gSh 2) (aCons (gSh 5) aNil))) (kc (.int 1)))))) (retS (withEnv (kc (.bl false)))) skipS) lawC)))))
theorem b_law_eq : b_law = (seqS (setO 1 (mkL (aCons (gSh 0) (aCons (kc (.int 0)) (aCons (kc (.int 5039)) (aCons (kc (.int 0)) aNil)))))) (seqS (setS 2 (callIO 1 2 F__law_film (aConsE (withEnv (kc (.int 120))) (aConsE (binE plusD (withEnv (kc (.int 2))) (callIO 1 1 F__law_taken (withEnv (aCons (kc (.int 3)) aNil)))) (withEnv aNil))))) (seqS (setS 3 (withEnv (callF 1 F_count_outcomes (aCons (gSh 2) aNil)))) (seqS (setS 4 (binE modD (binE plusD (binE plusD (binE mulD (binE mulD (callIO 1 1 F__law_taken (withEnv (aCons (kc (.int 9999)) aNil))) (withEnv (kc (.int 7919)))) (withEnv (kc (.int 7919)))) (binE mulD (callIO 1 1 F__law_taken (withEnv (aCons (kc (.int 9999)) aNil))) (withEnv (kc (.int 7919))))) (callIO 1 1 F__law_taken (withEnv (aCons (kc (.int 9999)) aNil)))) (withEnv (gSh 3)))) (seqS (setS 5 (withEnv (callF 2 F_outcome_at (aCons (gSh 2) (aCons (gSh 4) aNil))))) lawB))))) := rfl
theorem ix0 {F : List Nat} {c : Nat} (hl : F.length ≤ 1000) (h : F.head? = some c) : ixD (tx F) (.int 0) = some (tx [c]) := by
  rw [ix_tx hl, atI_zero, ← List.head?_eq_getElem?, h]
  rfl
theorem ix9 {F : List Nat} {c : Nat} (hl : F.length ≤ 1000) (h : F.getLast? = some c) : ixD (tx F) (.int (-1)) = some (tx [c]) := by
  rw [ix_tx hl, atI_last, h]
  rfl
theorem head_of {F : List Nat} (h : F ≠ []) : ∃ c, F.head? = some c := by
  cases F with
  | nil => exact absurd rfl h
  | cons a t => exact ⟨a, rfl⟩
theorem last_of {F : List Nat} (h : F ≠ []) : ∃ c, F.getLast? = some c := ⟨_, List.getLast?_eq_some_getLast h⟩
abbrev pfx (w : List Nat) (F : List Nat) : Nat := ((ocs F).filter fun l => w.isPrefixOf l).length
/-- the outcomes by their second letters -/
theorem second_sum {F : List Nat} (hF : Film F) {f l : Nat} (f1 : F.head? = some f) (f2 : F.getLast? = some l) : (if f = l then 1 else 0) + (L8.map fun c => pfx [f, c] F).sum = (ocs F).length := by
  have hd : ∀ u ∈ ocs F, ∃ t, u = f :: t := fun u hu => by
    have uf := ocs_film hF hu
    have h := W_first uf.1 ((ocs_mem hF).mp hu)
    rw [f1] at h
    cases u with
    | nil => exact absurd rfl uf.1
    | cons x t =>
      have h : some f = some x := h
      exact ⟨t, by rw [Option.some.inj h]⟩
  have one : ((ocs F).filter fun u => decide (u.length = 1)).length = if f = l then 1 else 0 := by
    by_cases z : f = l
    · rw [if_pos z]
      have := same_len (L := (ocs F).filter fun u => decide (u.length = 1)) (M := [[f]]) ((List.filter_sublist).nodup (ocs_nodup F)) (by simp) fun u => by
        rw [List.mem_filter, List.mem_singleton, decide_eq_true_eq]
        constructor
        · rintro ⟨h1, h2⟩
          obtain ⟨t, e⟩ := hd u h1
          rw [e] at h2
          have h2 : t.length + 1 = 1 := h2
          have t0 : t = [] := List.eq_nil_of_length_eq_zero (by omega)
          rw [e, t0]
        · rintro e
          rw [e]
          exact ⟨(ocs_mem hF).mpr (W_one.mpr ⟨f1, by rw [f2, z]⟩), rfl⟩
      rw [this]
      rfl
    · rw [if_neg z, List.filter_eq_nil_iff.mpr]
      · rfl
      · intro u hu w
        have w := of_decide_eq_true w
        obtain ⟨t, e⟩ := hd u hu
        rw [e] at w
        have w : t.length + 1 = 1 := w
        have t0 : t = [] := List.eq_nil_of_length_eq_zero (by omega)
        rw [e, t0] at hu
        have := (W_one.mp ((ocs_mem hF).mp hu)).2
        rw [f2] at this
        exact z (Option.some.inj this).symm
  have more : (L8.map fun c => pfx [f, c] F).sum = ((ocs F).filter fun u => decide (2 ≤ u.length)).length := by
    have sp := sum_partN (fun u : List Nat => u.getD 1 0) (P := L8) ((ocs F).filter fun u => decide (2 ≤ u.length)) L8_nodup
    have al : ((ocs F).filter fun u => decide (2 ≤ u.length)).filter (fun u => decide (u.getD 1 0 ∈ L8)) = (ocs F).filter fun u => decide (2 ≤ u.length) :=
      List.filter_eq_self.mpr fun u hu => decide_eq_true (by
        obtain ⟨h1, h2⟩ := List.mem_filter.mp hu
        have h2 := of_decide_eq_true h2
        have uf := ocs_film hF h1
        rw [List.getD_eq_getElem?_getD, List.getElem?_eq_getElem (show 1 < u.length by omega)]
        exact mem_L8.mpr (uf.2.2 _ (List.getElem_mem _)))
    rw [al] at sp
    rw [← sp]
    congr 1
    refine List.map_congr_left fun c _ => ?_
    show ((ocs F).filter fun l => [f, c].isPrefixOf l).length = _
    rw [List.filter_filter]
    refine congrArg List.length (List.filter_congr fun u hu => ?_)
    obtain ⟨t, e⟩ := hd u hu
    rw [e]
    cases t with
    | nil =>
      show (f == f && [c].isPrefixOf []) = _
      rw [beq_self_eq_true]
      show false = (decide _ && decide (2 ≤ 1))
      rw [decide_eq_false (by omega : ¬ 2 ≤ 1), Bool.and_false]
    | cons x t =>
      show (f == f && (c == x && ([] : List Nat).isPrefixOf t)) = (decide (x = c) && decide (2 ≤ t.length + 1 + 1))
      rw [beq_self_eq_true, decide_eq_true (by omega : 2 ≤ t.length + 1 + 1), Bool.and_true, Bool.true_and]
      have e : ([] : List Nat).isPrefixOf t = true := by cases t <;> rfl
      rw [e, Bool.and_true, Bool.eq_iff_iff, beq_iff_eq, decide_eq_true_eq]
      exact eq_comm
  rw [more, ← one]
  have : ∀ L : List (List Nat), (∀ u ∈ L, u ≠ []) → (L.filter fun u => decide (u.length = 1)).length + (L.filter fun u => decide (2 ≤ u.length)).length = L.length := fun L => by
    induction L with
    | nil => intro _; rfl
    | cons u L ih =>
      intro h
      have ih := ih fun x hx => h x (List.mem_cons_of_mem _ hx)
      have p := List.length_pos_iff.mpr (h u List.mem_cons_self)
      rw [List.filter_cons, List.filter_cons, List.length_cons]
      by_cases z : u.length = 1
      · rw [if_pos (decide_eq_true z), if_neg (by rw [decide_eq_false (by omega)]; decide), List.length_cons]
        omega
      · rw [if_neg (by rw [decide_eq_false z]; decide), if_pos (decide_eq_true (by omega)), List.length_cons]
        omega
  exact this _ fun u hu => (ocs_film hF hu).1
theorem lawC_true (sc : D) (row : List D) {F g : List Nat} {k : Nat} (hF : Film F) (l120 : F.length ≤ 120) : ∃ r, lawC [.sh sc, .own (.lst row), .sh (tx F), .sh (ni (ocs F).length), .sh (ni k), .sh (tx g), .sh (nxO F k), .un, .un, .un, .un] = .ok (.rt (.bl true) r) := by
  obtain ⟨f, f1⟩ := head_of hF.1
  obtain ⟨l, f2⟩ := last_of hF.1
  have hl := hF.2.1
  have f8 := hF.2.2 f (List.mem_of_head? f1)
  have i0 := ix0 (by omega) f1
  have i9 := ix9 (by omega) f2
  have e0 := eq_tx [f] [l]
  have ss := second_sum hF f1 f2
  obtain ⟨b, hb⟩ : ∃ b : Nat, b = if f = l then 1 else 0 := ⟨_, rfl⟩
  rw [← hb] at ss
  have st10 : (setS 7 (withEnv (ifV (tst (bin eqD (bin ixD (gAny 2) (kc (.int 0))) (bin ixD (gAny 2) (un1 negD (kc (.int 1)))))) (kc (.int 1)) (kc (.int 0))))) [.sh sc, .own (.lst row), .sh (tx F), .sh (ni (ocs F).length), .sh (ni k), .sh (tx g), .sh (nxO F k), .un, .un, .un, .un] = .ok (.nx [.sh sc, .own (.lst row), .sh (tx F), .sh (ni (ocs F).length), .sh (ni k), .sh (tx g), .sh (nxO F k), .sh (ni b), .un, .un, .un]) := by
    by_cases z : f = l
    · rw [if_pos z] at hb
      rw [decide_eq_true (by rw [z])] at e0
      rw [hb]
      generalize nxO F k = NX
      wide_open with ((), i0, i9, e0)
      rfl
    · rw [if_neg z] at hb
      rw [decide_eq_false (fun y => z (List.cons.inj y).1)] at e0
      rw [hb]
      generalize nxO F k = NX
      wide_open with ((), i0, i9, e0)
      rfl
  obtain ⟨t, y8, el, it, n8⟩ := for_run (b := fB) (g := gSet 8) (τ := Nat) (fun c => tx [c]) (fun t s' => [.sh sc, .own (.lst row), .sh (tx F), .sh (ni (ocs F).length), .sh (ni k), .sh (tx g), .sh (nxO F k), .sh (ni t), s', .un, .un]) (fun j t => t = b + ((L8.take j).map fun c => pfx [f, c] F).sum) L8 b .un (fun _ _ _ => rfl) (by simp) rfl fun j c t ej hI => by
    have hI : t = b + ((L8.take j).map fun c => pfx [f, c] F).sum := hI
    have c8 := mem_L8.mp (List.mem_of_getElem? ej)
    have wf : Film [f, c] := ⟨by simp, by simp, fun x hx => by
      rcases List.mem_cons.mp hx with z | z
      · rw [z]; exact f8
      · rw [List.mem_singleton.mp z]; exact c8⟩
    have cb := count_beginning_ok hF wf
    have cb : F_count_beginning [tx F, tx [f, c]] = .ok (ni (pfx [f, c] F)) := cb
    have pl : plusD (tx [f]) (tx [c]) = some (tx [f, c]) := plus_tx (l := [f]) (m := [c]) (by simp) (by simp)
    refine ⟨t + pfx [f, c] F, ?_, ?_⟩
    · have ad : (t : Int) + (pfx [f, c] F : Int) = ((t + pfx [f, c] F : Nat) : Int) := by omega
      generalize pfx [f, c] F = q at cb ad ⊢
      generalize nxO F k = NX
      wide_open with ((), i0, pl, cb, ad)
    · show t + _ = _
      rw [hI, List.take_add_one, ej, Option.toList_some, List.map_append, sum_app]
      show _ + pfx [f, c] F = b + (_ + (pfx [f, c] F + 0))
      omega
  rw [List.take_length, ss] at it
  subst it
  have dd : decide (((ocs F).length : Int) = ((ocs F).length : Int)) = true := decide_eq_true rfl
  have nf := next_films_ok hF l120
  obtain ⟨S, hS⟩ : ∃ S, S = (srtU ((cutsL F).map (cutBy F))).take 5 := ⟨_, rfl⟩
  have sl : slA (.lst ((srtU ((cutsL F).map (cutBy F))).map fun l => tx l)) none (some 5) = some (.lst (S.map fun l => tx l)) := by
    show some (D.lst (cutL ((srtU ((cutsL F).map (cutBy F))).map fun l => tx l) none (some ((5 : Nat) : Int)))) = _
    rw [cut_to, hS, List.map_take]
  have s5 : S.length ≤ 5 := by rw [hS, List.length_take]; omega
  have sm : ∀ x ∈ S, ∃ p ∈ cutsL F, cutBy F p = x := fun x hx => by
    rw [hS] at hx
    exact List.mem_map.mp (mem_srtU.mp (List.mem_of_mem_take hx))
  have c14 := lcA (r := [.sh sc, .own (.lst row), .sh (tx F), .sh (ni (ocs F).length), .sh (ni k), .sh (tx g), .sh (nxO F k), .sh (ni (ocs F).length), y8, .sh (.lst (S.map fun l => tx l)), .un]) (own := [("one", 10)]) (h := (itX zD (gSh 9))) (g := (gSet 10)) (c := (orB (tst (bin geD (callF 1 F_count_outcomes (aCons (gSh 10) aNil)) (gAny 3))) (tst (bin isN2 (callF 2 F_rank_of (aCons (gSh 2) (aCons (gSh 10) aNil))) (kc .non))))) (f := (gSh 10)) S (fun l => tx l) (fun l => tx l) (fun _ => false) (fun l => [.sh sc, .own (.lst row), .sh (tx F), .sh (ni (ocs F).length), .sh (ni k), .sh (tx g), .sh (nxO F k), .sh (ni (ocs F).length), y8, .sh (.lst (S.map fun l => tx l)), .sh (tx l)]) rfl (by
    generalize S.map (fun l => tx l) = SS
    generalize nxO F k = NX
    wide_open with ((), DL.eq_non)) (by omega) (fun _ => rfl) fun x hx => by
    obtain ⟨p, hp, e⟩ := sm x hx
    obtain ⟨p1, p2, p3⟩ := mem_cutsL.mp hp
    have ok : cutOk F p := ⟨p1, p2, p3⟩
    have wx_ : 0 < W x F := by
      rw [← e]
      exact Nat.lt_of_lt_of_le (W_self _) (W_mono ok)
    have xf : Film x := W_film hF wx_
    have xl : x.length < F.length := by
      rw [← e]
      show (F.take (p.1 + 1) ++ F.drop (p.2 + 1)).length < _
      rw [List.length_append, List.length_take, List.length_drop]
      omega
    have co := count_outcomes_ok xf
    have lt : (ocs x).length < (ocs F).length := by
      have nd : (F :: ocs x).Nodup := List.nodup_cons.mpr ⟨fun z => by
        have := W_len ((ocs_mem xf).mp z)
        omega, ocs_nodup x⟩
      have := nodup_le (l := F :: ocs x) (m := ocs F) nd fun u hu => by
        rcases List.mem_cons.mp hu with z | z
        · rw [z]; exact (ocs_mem hF).mpr (W_self F)
        · exact (ocs_mem hF).mpr (W_tr _ (Nat.le_refl _) wx_ ((ocs_mem xf).mp z))
      rw [List.length_cons] at this
      omega
    obtain ⟨kk, rk, _⟩ := rank_of_ok hF ((ocs_mem hF).mpr wx_)
    have d1 : decide (((ocs F).length : Int) ≤ ((ocs x).length : Int)) = false := decide_eq_false (by omega)
    have isn : isN2 (ni kk) .non = some (.bl false) := rfl
    refine ⟨?_, fun z => by cases z⟩
    generalize S.map (fun l => tx l) = SS
    generalize nxO F k = NX
    wide_open with ((), co, d1, rk, isn)
  rw [List.filter_eq_nil_iff.mpr (fun _ _ => by decide)] at c14
  have c14 : (lcD [("one", 10)] (itX zD (gSh 9)) (gSet 10) (orB (tst (bin geD (callF 1 F_count_outcomes (aCons (gSh 10) aNil)) (gAny 3))) (tst (bin isN2 (callF 2 F_rank_of (aCons (gSh 2) (aCons (gSh 10) aNil))) (kc .non)))) (gSh 10)) [.sh sc, .own (.lst row), .sh (tx F), .sh (ni (ocs F).length), .sh (ni k), .sh (tx g), .sh (nxO F k), .sh (ni (ocs F).length), y8, .sh (.lst (S.map fun l => tx l)), .un] = .ok (.lst []) := c14
  have en : eqD (.lst []) (.lst []) = some (.bl true) := eq_nil' shp_nil
  refine ⟨[.sh sc, .own (.lst row), .sh (tx F), .sh (ni (ocs F).length), .sh (ni k), .sh (tx g), .sh (nxO F k), .sh (ni (ocs F).length), y8, .sh (.lst (S.map fun l => tx l)), .un], ?_⟩
  unfold lawC
  have el : forD (gSet 8) fB (L8.map fun c => tx [c]) [.sh sc, .own (.lst row), .sh (tx F), .sh (ni (ocs F).length), .sh (ni k), .sh (tx g), .sh (nxO F k), .sh (ni b), .un, .un, .un] = .ok (.nx [.sh sc, .own (.lst row), .sh (tx F), .sh (ni (ocs F).length), .sh (ni k), .sh (tx g), .sh (nxO F k), .sh (ni (ocs F).length), y8, .un, .un]) := el
  have st13 : (setS 9 (withEnv (sl3 slA (callF 1 F_next_films (aCons (gSh 2) aNil)) oNone (oSome (kc (.int 5)))))) [.sh sc, .own (.lst row), .sh (tx F), .sh (ni (ocs F).length), .sh (ni k), .sh (tx g), .sh (nxO F k), .sh (ni (ocs F).length), y8, .un, .un] = .ok (.nx [.sh sc, .own (.lst row), .sh (tx F), .sh (ni (ocs F).length), .sh (ni k), .sh (tx g), .sh (nxO F k), .sh (ni (ocs F).length), y8, .sh (.lst (S.map fun l => tx l)), .un]) := by
    generalize (srtU ((cutsL F).map (cutBy F))).map (fun l => tx l) = NF at nf sl
    generalize S.map (fun l => tx l) = SS at sl ⊢
    generalize nxO F k = NX
    wide_open with ((), nf, sl)
  refine seq_nx st10 (seq_nx (for_p (items := L8.map fun c => tx [c]) rfl el) (seq_nx (r1 := [.sh sc, .own (.lst row), .sh (tx F), .sh (ni (ocs F).length), .sh (ni k), .sh (tx g), .sh (nxO F k), .sh (ni (ocs F).length), y8, .un, .un]) (by
    generalize nxO F k = NX
    wide_open with ((), dd)) (seq_nx st13 ?_)))
  generalize S.map (fun l => tx l) = SS at *
  generalize nxO F k = NX at *
  wide_open with ((), c14, en)
theorem lawB_true (sc : D) (row : List D) {F g : List Nat} {k : Nat} (hF : Film F) (l120 : F.length ≤ 120) (hk : (ocs F)[k]? = some g) : ∃ r, lawB [.sh sc, .own (.lst row), .sh (tx F), .sh (ni (ocs F).length), .sh (ni k), .sh (tx g), .un, .un, .un, .un, .un] = .ok (.rt (.bl true) r) := by
  obtain ⟨r, ec⟩ := lawC_true sc row (g := g) (k := k) hF l120
  refine ⟨r, ?_⟩
  have hg := List.mem_of_getElem? hk
  have gf := ocs_film hF hg
  have w := (ocs_mem hF).mp hg
  have kl := (List.getElem?_eq_some_iff.mp hk).1
  obtain ⟨k', rk, hk'⟩ := rank_of_ok hF hg
  have ek : k' = k := (List.getElem?_inj (i := k') (j := k) (List.getElem?_eq_some_iff.mp hk').1 (ocs_nodup F)).mp (by rw [hk, hk'])
  subst ek
  have cm := comes_ok hF gf
  rw [decide_eq_true w] at cm
  have oa := outcome_at_no hF (k := (ocs F).length) (Nat.le_refl _)
  have nx := next_outcome_ok hF hk
  have o2 : F_outcome_at [tx F, ni (k' + 1)] = .ok (nxO F k') := by
    unfold nxO
    cases q : (ocs F)[k' + 1]? with
    | some h => exact outcome_at_ok hF q
    | none => exact outcome_at_no hF (List.getElem?_eq_none_iff.mp q)
  have ad : (k' : Int) + 1 = ((k' + 1 : Nat) : Int) := by omega
  have d0 : decide ((k' : Int) = (k' : Int)) = true := decide_eq_true rfl
  have nn0 : notN2 .non .non = some (.bl false) := rfl
  have co := count_outcomes_ok gf
  have le : (ocs g).length ≤ (ocs F).length := nodup_le (ocs_nodup g) fun u hu => (ocs_mem hF).mpr (W_tr _ (Nat.le_refl _) w ((ocs_mem gf).mp hu))
  have d1 : decide (((ocs F).length : Int) < ((ocs g).length : Int)) = false := decide_eq_false (by omega)
  have sc' := some_cuts_ok hF gf
  rw [if_pos w] at sc'
  have fc := fewest_cuts_ok hF gf
  rw [if_pos w] at fc
  have hgp := gp_ok (N := F.length) (F := F) g 0 (Nat.zero_le _) (by rw [List.drop_zero]; exact (FW_lt (g := g) hF.1).mpr w)
  rw [List.drop_zero] at hgp
  have hrl : (cf 0 0 (gp F.length F g 0)).length = FW F.length g F := by rw [cf_len, hgp.2]
  have lc : lenD [.tup ((cf 0 0 (gp F.length F g 0)).map pd)] = some (ni (FW F.length g F)) := by rw [len_tup, List.length_map, hrl]
  have d2 : decide ((FW F.length g F : Int) = (FW F.length g F : Int)) = true := decide_eq_true rfl
  obtain ⟨f, f1⟩ := head_of hF.1
  have i0 := ix0 (by have := hF.2.1; omega) f1
  have ff : Film [f] := ⟨by simp, by simp, fun d hd => by rw [List.mem_singleton.mp hd]; exact hF.2.2 f (List.mem_of_head? f1)⟩
  have cb := count_beginning_ok hF ff
  have eb : (ocs F).filter (fun x => [f].isPrefixOf x) = ocs F := List.filter_eq_self.mpr fun u hu => by
    have u0 := (ocs_film hF hu).1
    have h := W_first u0 ((ocs_mem hF).mp hu)
    rw [f1] at h
    cases u with
    | nil => exact absurd rfl u0
    | cons x t =>
      have h : some f = some x := h
      rw [Option.some.inj h]
      show (x == x && ([] : List Nat).isPrefixOf t) = true
      rw [beq_self_eq_true]
      cases t <;> rfl
  rw [eb] at cb
  have d3 : decide (((ocs F).length : Int) = ((ocs F).length : Int)) = true := decide_eq_true rfl
  have cg := count_beginning_ok hF gf
  have pos : 0 < ((ocs F).filter fun l => g.isPrefixOf l).length := List.length_pos_of_mem (List.mem_filter.mpr ⟨hg, by
    have : ∀ l : List Nat, l.isPrefixOf l = true := fun l => by
      induction l with
      | nil => rfl
      | cons x l ih =>
        show (x == x && l.isPrefixOf l) = true
        rw [beq_self_eq_true, ih]
        rfl
    exact this g⟩)
  have d4 : decide ((((ocs F).filter fun l => g.isPrefixOf l).length : Int) < 1) = false := decide_eq_false (by omega)
  unfold lawB
  have st7 : (ifS (withEnv (orB (tst (bin neD (gAny 6) (callF 2 F_outcome_at (aCons (gSh 2) (aCons (bin plusD (gAny 4) (kc (.int 1))) aNil))))) (andB (tst (bin notN2 (gAny 6) (kc .non))) (tst (bin leSD (gAny 6) (gAny 5)))))) (retS (withEnv (kc (.bl false)))) skipS) [.sh sc, .own (.lst row), .sh (tx F), .sh (ni (ocs F).length), .sh (ni k'), .sh (tx g), .sh (nxO F k'), .un, .un, .un, .un] = .ok (.nx [.sh sc, .own (.lst row), .sh (tx F), .sh (ni (ocs F).length), .sh (ni k'), .sh (tx g), .sh (nxO F k'), .un, .un, .un, .un]) := by
    unfold nxO at *
    cases q : (ocs F)[k' + 1]? with
    | none =>
      rw [q] at o2
      have o2 : F_outcome_at [tx F, ni (k' + 1)] = .ok .non := o2
      have n0 : neD .non .non = some (.bl false) := rfl
      wide_open with ((), ad, o2, n0, nn0)
    | some h =>
      rw [q] at o2
      have o2 : F_outcome_at [tx F, ni (k' + 1)] = .ok (tx h) := o2
      have n0 := ne_tx h h
      rw [decide_eq_true (p := h = h) rfl] at n0
      have n1 : notN2 (tx h) .non = some (.bl true) := rfl
      have lt : g < h := by
        have := List.pairwise_iff_getElem.mp (ocs_asc F) k' (k' + 1) kl (List.getElem?_eq_some_iff.mp q).1 (by omega)
        rw [(List.getElem?_eq_some_iff.mp hk).2, (List.getElem?_eq_some_iff.mp q).2] at this
        exact this
      have le : leSD (tx h) (tx g) = some (.bl false) := by
        show some (D.bl (!decide (g < h))) = _
        rw [decide_eq_true lt]
        rfl
      wide_open with ((), ad, o2, n0, n1, le)
  generalize nxO F k' = NX at nx st7 ec
  generalize (ocs g).length = q1 at co d1
  generalize ((ocs F).filter fun l => g.isPrefixOf l).length = q2 at cg d4
  generalize FW F.length g F = q3 at fc lc d2
  generalize (cf 0 0 (gp F.length F g 0)).map pd = CF at sc' lc
  generalize (ocs F).length = q4 at *
  exact seq_nx (r1 := [.sh sc, .own (.lst row), .sh (tx F), .sh (ni q4), .sh (ni k'), .sh (tx g), .un, .un, .un, .un, .un]) (by wide_open with ((), rk, d0, cm, oa, nn0)) (seq_nx (r1 := [.sh sc, .own (.lst row), .sh (tx F), .sh (ni q4), .sh (ni k'), .sh (tx g), .sh NX, .un, .un, .un, .un]) (by wide_open with ((), nx)) (seq_nx st7 (seq_nx (r1 := [.sh sc, .own (.lst row), .sh (tx F), .sh (ni q4), .sh (ni k'), .sh (tx g), .sh NX, .un, .un, .un, .un]) (by wide_open with ((), co, d1, sc', lc, fc, d2)) (seq_nx (r1 := [.sh sc, .own (.lst row), .sh (tx F), .sh (ni q4), .sh (ni k'), .sh (tx g), .sh NX, .un, .un, .un, .un]) (by wide_open with ((), i0, cb, d3, cg, d4)) ec))))
theorem law_true (ns : List Int) (hns : ns.length ≤ 63) : F_law [.lst (ns.map D.int)] = .ok (.bl true) := by
  have hr0 : RowOk [.lst (ns.map D.int), .int 0, .int 5039, .int 0] := ⟨ns, 0, 5039, 0, hns, rfl⟩
  obtain ⟨v0, row1, e0, hr1, hv0⟩ := taken_ok (m := 3) hr0 (by decide) (by decide)
  have e0 : F__law_taken [.lst (ns.map D.int), .int 0, .int 5039, .int 0] [.int 3] = .ok (ni v0, row1) := e0
  have a0 : (2 : Int) + (v0 : Int) = ((2 + v0 : Nat) : Int) := by omega
  obtain ⟨F, row2, e1, hr2, F1, F2, F3⟩ := film_many (most := 120) (many := 2 + v0) hr1 (by decide) (by decide) (by omega) (by omega)
  have e1 : F__law_film row1 [.int 120, ni (2 + v0)] = .ok (tx F, row2) := e1
  have hF : Film F := ⟨F1, by omega, fun c hc => by have := F3 c hc; omega⟩
  have co := count_outcomes_ok hF
  have wp : 0 < (ocs F).length := List.length_pos_of_mem ((ocs_mem hF).mpr (W_self F))
  obtain ⟨u1, row3, e3, hr3, hu1⟩ := taken_ok (m := 9999) hr2 (by decide) (by decide)
  have e3 : F__law_taken row2 [.int 9999] = .ok (ni u1, row3) := e3
  obtain ⟨u2, row4, e4, hr4, hu2⟩ := taken_ok (m := 9999) hr3 (by decide) (by decide)
  have e4 : F__law_taken row3 [.int 9999] = .ok (ni u2, row4) := e4
  obtain ⟨u3, row5, e5, hr5, hu3⟩ := taken_ok (m := 9999) hr4 (by decide) (by decide)
  have e5 : F__law_taken row4 [.int 9999] = .ok (ni u3, row5) := e5
  have m1 : mulD (ni u1) (.int 7919) = some (ni (u1 * 7919)) := mul_int' (i := (u1 : Int)) (j := 7919) (Or.inr (by decide))
  have m2 : mulD (ni (u1 * 7919)) (.int 7919) = some (ni (u1 * 7919 * 7919)) := mul_int' (i := ((u1 * 7919 : Nat) : Int)) (j := 7919) (Or.inr (by decide))
  have m3 : mulD (ni u2) (.int 7919) = some (ni (u2 * 7919)) := mul_int' (i := (u2 : Int)) (j := 7919) (Or.inr (by decide))
  have ad : ((u1 * 7919 * 7919 : Nat) : Int) + ((u2 * 7919 : Nat) : Int) + (u3 : Int) = ((u1 * 7919 * 7919 + u2 * 7919 + u3 : Nat) : Int) := by omega
  have md := mod_int' (i := ((u1 * 7919 * 7919 + u2 * 7919 + u3 : Nat) : Int)) (j := ((ocs F).length : Int)) (by omega)
  rw [← Int.natCast_emod] at md
  obtain ⟨k, hkk⟩ : ∃ k, k = (u1 * 7919 * 7919 + u2 * 7919 + u3) % (ocs F).length := ⟨_, rfl⟩
  rw [← hkk] at md
  have kl : k < (ocs F).length := by rw [hkk]; exact Nat.mod_lt _ wp
  have hk : (ocs F)[k]? = some ((ocs F)[k]) := List.getElem?_eq_getElem kl
  generalize (ocs F)[k] = g at hk
  have oa := outcome_at_ok hF hk
  obtain ⟨r, eb⟩ := lawB_true (.lst (ns.map D.int)) row5 hF F2 hk
  refine fnD_rt (r1 := r) rfl (show b_law [.sh (.lst (ns.map D.int)), .un, .un, .un, .un, .un, .un, .un, .un, .un, .un] = _ from ?_)
  rw [b_law_eq]
  generalize (ocs F).length = q4 at *
  generalize u1 * 7919 * 7919 + u2 * 7919 + u3 = T3 at ad md
  generalize u1 * 7919 * 7919 = T1 at m2 ad
  generalize u1 * 7919 = T0 at m1 m2
  generalize u2 * 7919 = T2 at m3 ad
  exact seq_nx (r1 := [.sh (.lst (ns.map D.int)), .own (.lst [.lst (ns.map D.int), .int 0, .int 5039, .int 0]), .un, .un, .un, .un, .un, .un, .un, .un, .un]) (by wide_open with ((), DL.eq_non)) (seq_nx (r1 := [.sh (.lst (ns.map D.int)), .own (.lst row2), .sh (tx F), .un, .un, .un, .un, .un, .un, .un, .un]) (by wide_open with ((), e0, a0, e1)) (seq_nx (r1 := [.sh (.lst (ns.map D.int)), .own (.lst row2), .sh (tx F), .sh (ni q4), .un, .un, .un, .un, .un, .un, .un]) (by wide_open with ((), co)) (seq_nx (r1 := [.sh (.lst (ns.map D.int)), .own (.lst row5), .sh (tx F), .sh (ni q4), .sh (ni k), .un, .un, .un, .un, .un, .un]) (by wide_open with ((), e3, m1, m2, e4, m3, e5, ad, md)) (seq_nx (r1 := [.sh (.lst (ns.map D.int)), .own (.lst row5), .sh (tx F), .sh (ni q4), .sh (ni k), .sh (tx g), .un, .un, .un, .un, .un]) (by wide_open with ((), oa)) eb))))
end
end LW

end
section
namespace LW
open PySem L2 DL
def d__law_taken : He.DefD := ⟨("_law_taken", none), "_law_taken", "_law_taken", defArgs s__law_taken, defBody s__law_taken, defScope s__law_taken, [], []⟩
def d__law_film : He.DefD := ⟨("_law_film", none), "_law_film", "_law_film", defArgs s__law_film, defBody s__law_film, defScope s__law_film, [], []⟩
def d_is_letter : He.DefD := ⟨("is_letter", none), "is_letter", "is_letter", defArgs s_is_letter, defBody s_is_letter, defScope s_is_letter, [], []⟩
def d_check_film : He.DefD := ⟨("check_film", none), "check_film", "check_film", defArgs s_check_film, defBody s_check_film, defScope s_check_film, [], []⟩
def d_counts_from : He.DefD := ⟨("counts_from", none), "counts_from", "counts_from", defArgs s_counts_from, defBody s_counts_from, defScope s_counts_from, [], []⟩
def d_count_words : He.DefD := ⟨("count_words", none), "count_words", "count_words", defArgs s_count_words, defBody s_count_words, defScope s_count_words, [], []⟩
def d_outcome_graph : He.DefD := ⟨("outcome_graph", none), "outcome_graph", "outcome_graph", defArgs s_outcome_graph, defBody s_outcome_graph, defScope s_outcome_graph, [], []⟩
def d_count_outcomes : He.DefD := ⟨("count_outcomes", none), "count_outcomes", "count_outcomes", defArgs s_count_outcomes, defBody s_count_outcomes, defScope s_count_outcomes, [], []⟩
def d_is_whole : He.DefD := ⟨("is_whole", none), "is_whole", "is_whole", defArgs s_is_whole, defBody s_is_whole, defScope s_is_whole, [], []⟩
def d_check_rank : He.DefD := ⟨("check_rank", none), "check_rank", "check_rank", defArgs s_check_rank, defBody s_check_rank, defScope s_check_rank, [], []⟩
def d_word_at : He.DefD := ⟨("word_at", none), "word_at", "word_at", defArgs s_word_at, defBody s_word_at, defScope s_word_at, [], []⟩
def d_outcome_at : He.DefD := ⟨("outcome_at", none), "outcome_at", "outcome_at", defArgs s_outcome_at, defBody s_outcome_at, defScope s_outcome_at, [], []⟩
def d_rank_in : He.DefD := ⟨("rank_in", none), "rank_in", "rank_in", defArgs s_rank_in, defBody s_rank_in, defScope s_rank_in, [], []⟩
def d_rank_of : He.DefD := ⟨("rank_of", none), "rank_of", "rank_of", defArgs s_rank_of, defBody s_rank_of, defScope s_rank_of, [], []⟩
def d_earliest_starts : He.DefD := ⟨("earliest_starts", none), "earliest_starts", "earliest_starts", defArgs s_earliest_starts, defBody s_earliest_starts, defScope s_earliest_starts, [], []⟩
def d_comes_to : He.DefD := ⟨("comes_to", none), "comes_to", "comes_to", defArgs s_comes_to, defBody s_comes_to, defScope s_comes_to, [], []⟩
def d_comes : He.DefD := ⟨("comes", none), "comes", "comes", defArgs s_comes, defBody s_comes, defScope s_comes, [], []⟩
def d_next_outcome : He.DefD := ⟨("next_outcome", none), "next_outcome", "next_outcome", defArgs s_next_outcome, defBody s_next_outcome, defScope s_next_outcome, [], []⟩
def d_fewest_of_block : He.DefD := ⟨("fewest_of_block", none), "fewest_of_block", "fewest_of_block", defArgs s_fewest_of_block, defBody s_fewest_of_block, defScope s_fewest_of_block, [], []⟩
def d_fewest_behind : He.DefD := ⟨("fewest_behind", none), "fewest_behind", "fewest_behind", defArgs s_fewest_behind, defBody s_fewest_behind, defScope s_fewest_behind, [], []⟩
def d_cuts_for : He.DefD := ⟨("cuts_for", none), "cuts_for", "cuts_for", defArgs s_cuts_for, defBody s_cuts_for, defScope s_cuts_for, [], []⟩
def d_places_from : He.DefD := ⟨("places_from", none), "places_from", "places_from", defArgs s_places_from, defBody s_places_from, defScope s_places_from, [], []⟩
def d_fewest_parting : He.DefD := ⟨("fewest_parting", none), "fewest_parting", "fewest_parting", defArgs s_fewest_parting, defBody s_fewest_parting, defScope s_fewest_parting, [], []⟩
def d_some_cuts : He.DefD := ⟨("some_cuts", none), "some_cuts", "some_cuts", defArgs s_some_cuts, defBody s_some_cuts, defScope s_some_cuts, [], []⟩
def d_fewest_cuts : He.DefD := ⟨("fewest_cuts", none), "fewest_cuts", "fewest_cuts", defArgs s_fewest_cuts, defBody s_fewest_cuts, defScope s_fewest_cuts, [], []⟩
def d_counted_beginning : He.DefD := ⟨("counted_beginning", none), "counted_beginning", "counted_beginning", defArgs s_counted_beginning, defBody s_counted_beginning, defScope s_counted_beginning, [], []⟩
def d_count_beginning : He.DefD := ⟨("count_beginning", none), "count_beginning", "count_beginning", defArgs s_count_beginning, defBody s_count_beginning, defScope s_count_beginning, [], []⟩
def d_behind_cut : He.DefD := ⟨("behind_cut", none), "behind_cut", "behind_cut", defArgs s_behind_cut, defBody s_behind_cut, defScope s_behind_cut, [], []⟩
def d_cuts : He.DefD := ⟨("cuts", none), "cuts", "cuts", defArgs s_cuts, defBody s_cuts, defScope s_cuts, [], []⟩
def d_next_films : He.DefD := ⟨("next_films", none), "next_films", "next_films", defArgs s_next_films, defBody s_next_films, defScope s_next_films, [], []⟩
def d_law : He.DefD := ⟨("law", none), "law", "law", defArgs s_law, defBody s_law, defScope s_law, [], []⟩
def di_Graph : He.DefD := ⟨("Graph", some "__init__"), "__init__", "Graph.__init__", defArgs sI_Graph, defBody sI_Graph, defScope sI_Graph, [], []⟩
def fns : List He.DefD := [d__law_taken, d__law_film, d_is_letter, d_check_film, d_counts_from, d_count_words, d_outcome_graph, d_count_outcomes, d_is_whole, d_check_rank, d_word_at, d_outcome_at, d_rank_in, d_rank_of, d_earliest_starts, d_comes_to, d_comes, d_next_outcome, d_fewest_of_block, d_fewest_behind, d_cuts_for, d_places_from, d_fewest_parting, d_some_cuts, d_fewest_cuts, d_counted_beginning, d_count_beginning, d_behind_cut, d_cuts, d_next_films, d_law, di_Graph]
def fas : List He.Fa := [.glo "_law_taken", .glo "_law_film", .glo "is_letter", .glo "check_film", .glo "counts_from", .glo "count_words", .glo "outcome_graph", .glo "count_outcomes", .glo "is_whole", .glo "check_rank", .glo "word_at", .glo "outcome_at", .glo "rank_in", .glo "rank_of", .glo "earliest_starts", .glo "comes_to", .glo "comes", .glo "next_outcome", .glo "fewest_of_block", .glo "fewest_behind", .glo "cuts_for", .glo "places_from", .glo "fewest_parting", .glo "some_cuts", .glo "fewest_cuts", .glo "counted_beginning", .glo "count_beginning", .glo "behind_cut", .glo "cuts", .glo "next_films", .glo "law", .free "bool", .free "enumerate", .free "int", .free "isinstance", .free "len", .free "min", .free "range", .free "reversed", .free "sorted", .free "str", .free "sum", .free "tuple", .str "LETTERS" "abcdefgh", .int "MOST_LETTERS" 200, .glo "Graph", .cls "Graph", .noat "Graph" "arrows", .noat "Graph" "ends", .mkr "Graph"]
abbrev Rw : PySem.W.OpenRow := PySem.W.OpenLaw.row PySem.Challenge.rw_jumpcuts_k39_across_ranks_of_long_films
abbrev hk : PySem.W.Hook := He.hookD 4 fas fns
def ob (s : PySem.W.SharedT) : He.AlD := He.obsDG 4 fas fns (HandSHeadRun.getT s)
theorem ob_eq (s : PySem.W.SharedT) : ob s = hk.obs s.abs := He.obsDG_eq (HandSHeadRun.getT_eq s)
def lo0 : List Str := ["CutError", "BadFilm", "BadNumber", "Graph", "LETTERS", "MOST_LETTERS", "is_whole", "is_letter", "check_film", "check_rank", "outcome_graph", "counts_from", "count_words", "word_at", "rank_in", "count_outcomes", "outcome_at", "rank_of", "behind_cut", "cuts"]
def lo1 : List Str := ["next_films", "places_from", "earliest_starts", "comes_to", "comes", "fewest_of_block", "fewest_behind", "fewest_parting", "cuts_for", "fewest_cuts", "some_cuts", "next_outcome", "counted_beginning", "count_beginning", "_law_taken", "_law_film"]
def loose : List Str := lo0 ++ lo1
set_option maxHeartbeats 0 in
theorem run (w : World) : HandSHeadRun.RunEq Rw (PySem.W.view Rw.prog [46]) hk ob 4000 loose w := by
  intro os
  kernel_rfl
theorem gs_of {K : PySem.W.Frag} {h : Heap} {mg : Str → Option Value} (X : K.In h) (G : h.Ns mainGlobals mg) (c : He.SaysD fas fns K) : Gs mg where
  f_bool := He.free_ok X G (c.fact 31 (f := .free "bool") rfl)
  f_enumerate := He.free_ok X G (c.fact 32 (f := .free "enumerate") rfl)
  f_int := He.free_ok X G (c.fact 33 (f := .free "int") rfl)
  f_isinstance := He.free_ok X G (c.fact 34 (f := .free "isinstance") rfl)
  f_len := He.free_ok X G (c.fact 35 (f := .free "len") rfl)
  f_min := He.free_ok X G (c.fact 36 (f := .free "min") rfl)
  f_range := He.free_ok X G (c.fact 37 (f := .free "range") rfl)
  f_reversed := He.free_ok X G (c.fact 38 (f := .free "reversed") rfl)
  f_sorted := He.free_ok X G (c.fact 39 (f := .free "sorted") rfl)
  f_str := He.free_ok X G (c.fact 40 (f := .free "str") rfl)
  f_sum := He.free_ok X G (c.fact 41 (f := .free "sum") rfl)
  f_tuple := He.free_ok X G (c.fact 42 (f := .free "tuple") rfl)
  c_LETTERS := He.str_ok X G (c.fact 43 (f := .str "LETTERS" "abcdefgh") rfl)
  c_MOST_LETTERS := He.int_ok X G (c.fact 44 (f := .int "MOST_LETTERS" 200) rfl)
theorem facts {P : Program} {w : World} {K : PySem.W.Frag} {h : Heap} {mg : Str → Option Value} {f : Addr} (X : K.In h) (G : h.Ns mainGlobals mg) (hfa : mg ("law" : Str) = some (.ref f)) (c : He.SaysD fas fns K) :
    ∃ fd : FuncData, (∀ (s : Shared) (v : Value), BindsTo s fd ⟨[v], []⟩ [("script", v)]) ∧ ∀ base : Heap, K.In base → base.Ns mainGlobals mg → FnOk P w K mg base (L2.CX P w) 9 f fd ["script"] (SpF K mg 1 F_law) := by
  have g := gs_of X G c
  obtain ⟨e__law_taken, D__law_taken⟩ := c.def_ 0 (d := d__law_taken) rfl
  have m__law_taken := He.glo_ok X G (c.fact 0 (f := .glo "_law_taken") rfl)
  obtain ⟨e__law_film, D__law_film⟩ := c.def_ 1 (d := d__law_film) rfl
  have m__law_film := He.glo_ok X G (c.fact 1 (f := .glo "_law_film") rfl)
  obtain ⟨e_is_letter, D_is_letter⟩ := c.def_ 2 (d := d_is_letter) rfl
  have m_is_letter := He.glo_ok X G (c.fact 2 (f := .glo "is_letter") rfl)
  obtain ⟨e_check_film, D_check_film⟩ := c.def_ 3 (d := d_check_film) rfl
  have m_check_film := He.glo_ok X G (c.fact 3 (f := .glo "check_film") rfl)
  obtain ⟨e_counts_from, D_counts_from⟩ := c.def_ 4 (d := d_counts_from) rfl
  have m_counts_from := He.glo_ok X G (c.fact 4 (f := .glo "counts_from") rfl)
  obtain ⟨e_count_words, D_count_words⟩ := c.def_ 5 (d := d_count_words) rfl
  have m_count_words := He.glo_ok X G (c.fact 5 (f := .glo "count_words") rfl)
  obtain ⟨e_outcome_graph, D_outcome_graph⟩ := c.def_ 6 (d := d_outcome_graph) rfl
  have m_outcome_graph := He.glo_ok X G (c.fact 6 (f := .glo "outcome_graph") rfl)
  obtain ⟨e_count_outcomes, D_count_outcomes⟩ := c.def_ 7 (d := d_count_outcomes) rfl
  have m_count_outcomes := He.glo_ok X G (c.fact 7 (f := .glo "count_outcomes") rfl)
  obtain ⟨e_is_whole, D_is_whole⟩ := c.def_ 8 (d := d_is_whole) rfl
  have m_is_whole := He.glo_ok X G (c.fact 8 (f := .glo "is_whole") rfl)
  obtain ⟨e_check_rank, D_check_rank⟩ := c.def_ 9 (d := d_check_rank) rfl
  have m_check_rank := He.glo_ok X G (c.fact 9 (f := .glo "check_rank") rfl)
  obtain ⟨e_word_at, D_word_at⟩ := c.def_ 10 (d := d_word_at) rfl
  have m_word_at := He.glo_ok X G (c.fact 10 (f := .glo "word_at") rfl)
  obtain ⟨e_outcome_at, D_outcome_at⟩ := c.def_ 11 (d := d_outcome_at) rfl
  have m_outcome_at := He.glo_ok X G (c.fact 11 (f := .glo "outcome_at") rfl)
  obtain ⟨e_rank_in, D_rank_in⟩ := c.def_ 12 (d := d_rank_in) rfl
  have m_rank_in := He.glo_ok X G (c.fact 12 (f := .glo "rank_in") rfl)
  obtain ⟨e_rank_of, D_rank_of⟩ := c.def_ 13 (d := d_rank_of) rfl
  have m_rank_of := He.glo_ok X G (c.fact 13 (f := .glo "rank_of") rfl)
  obtain ⟨e_earliest_starts, D_earliest_starts⟩ := c.def_ 14 (d := d_earliest_starts) rfl
  have m_earliest_starts := He.glo_ok X G (c.fact 14 (f := .glo "earliest_starts") rfl)
  obtain ⟨e_comes_to, D_comes_to⟩ := c.def_ 15 (d := d_comes_to) rfl
  have m_comes_to := He.glo_ok X G (c.fact 15 (f := .glo "comes_to") rfl)
  obtain ⟨e_comes, D_comes⟩ := c.def_ 16 (d := d_comes) rfl
  have m_comes := He.glo_ok X G (c.fact 16 (f := .glo "comes") rfl)
  obtain ⟨e_next_outcome, D_next_outcome⟩ := c.def_ 17 (d := d_next_outcome) rfl
  have m_next_outcome := He.glo_ok X G (c.fact 17 (f := .glo "next_outcome") rfl)
  obtain ⟨e_fewest_of_block, D_fewest_of_block⟩ := c.def_ 18 (d := d_fewest_of_block) rfl
  have m_fewest_of_block := He.glo_ok X G (c.fact 18 (f := .glo "fewest_of_block") rfl)
  obtain ⟨e_fewest_behind, D_fewest_behind⟩ := c.def_ 19 (d := d_fewest_behind) rfl
  have m_fewest_behind := He.glo_ok X G (c.fact 19 (f := .glo "fewest_behind") rfl)
  obtain ⟨e_cuts_for, D_cuts_for⟩ := c.def_ 20 (d := d_cuts_for) rfl
  have m_cuts_for := He.glo_ok X G (c.fact 20 (f := .glo "cuts_for") rfl)
  obtain ⟨e_places_from, D_places_from⟩ := c.def_ 21 (d := d_places_from) rfl
  have m_places_from := He.glo_ok X G (c.fact 21 (f := .glo "places_from") rfl)
  obtain ⟨e_fewest_parting, D_fewest_parting⟩ := c.def_ 22 (d := d_fewest_parting) rfl
  have m_fewest_parting := He.glo_ok X G (c.fact 22 (f := .glo "fewest_parting") rfl)
  obtain ⟨e_some_cuts, D_some_cuts⟩ := c.def_ 23 (d := d_some_cuts) rfl
  have m_some_cuts := He.glo_ok X G (c.fact 23 (f := .glo "some_cuts") rfl)
  obtain ⟨e_fewest_cuts, D_fewest_cuts⟩ := c.def_ 24 (d := d_fewest_cuts) rfl
  have m_fewest_cuts := He.glo_ok X G (c.fact 24 (f := .glo "fewest_cuts") rfl)
  obtain ⟨e_counted_beginning, D_counted_beginning⟩ := c.def_ 25 (d := d_counted_beginning) rfl
  have m_counted_beginning := He.glo_ok X G (c.fact 25 (f := .glo "counted_beginning") rfl)
  obtain ⟨e_count_beginning, D_count_beginning⟩ := c.def_ 26 (d := d_count_beginning) rfl
  have m_count_beginning := He.glo_ok X G (c.fact 26 (f := .glo "count_beginning") rfl)
  obtain ⟨e_behind_cut, D_behind_cut⟩ := c.def_ 27 (d := d_behind_cut) rfl
  have m_behind_cut := He.glo_ok X G (c.fact 27 (f := .glo "behind_cut") rfl)
  obtain ⟨e_cuts, D_cuts⟩ := c.def_ 28 (d := d_cuts) rfl
  have m_cuts := He.glo_ok X G (c.fact 28 (f := .glo "cuts") rfl)
  obtain ⟨e_next_films, D_next_films⟩ := c.def_ 29 (d := d_next_films) rfl
  have m_next_films := He.glo_ok X G (c.fact 29 (f := .glo "next_films") rfl)
  obtain ⟨e_law, D_law⟩ := c.def_ 30 (d := d_law) rfl
  have e := hfa.symm.trans (He.glo_ok X G (c.fact 30 (f := .glo "law") rfl))
  cases e
  have b := FunD.bindsA (ps := ["script"]) D_law fun _ _ _ _ _ _ us hl => match us, hl with | [_], _ => rfl
  refine ⟨e_law, fun s v => b s [v] rfl, fun base _ _ => ?_⟩
  obtain ⟨ei_Graph, Di_Graph⟩ := c.def_ 31 (d := di_Graph) rfl
  have hi_Graph := He.glo_ok X G (c.fact 45 (f := .glo "Graph") rfl)
  have c_Graph := ok_Graph (P := P) (w := w) (base := base) Di_Graph (He.mkr_ok (c.fact 49 (f := .mkr "Graph") rfl)) hi_Graph (He.cls_ok (c.fact 46 (f := .cls "Graph") rfl)) (He.noat_ok (c.fact 47 (f := .noat "Graph" "arrows") rfl)) (He.noat_ok (c.fact 48 (f := .noat "Graph" "ends") rfl))
  have c__law_taken := ok__law_taken (P := P) (w := w) (base := base) g D__law_taken m__law_taken 
  have c__law_film := ok__law_film (P := P) (w := w) (base := base) g D__law_film m__law_film c__law_taken
  have c_is_letter := ok_is_letter (P := P) (w := w) (base := base) g D_is_letter m_is_letter 
  have c_check_film := ok_check_film (P := P) (w := w) (base := base) g D_check_film m_check_film c_is_letter
  have c_counts_from := ok_counts_from (P := P) (w := w) (base := base) g D_counts_from m_counts_from 
  have c_count_words := ok_count_words (P := P) (w := w) (base := base) g D_count_words m_count_words c_counts_from
  have c_outcome_graph := ok_outcome_graph (P := P) (w := w) (base := base) g D_outcome_graph m_outcome_graph c_Graph
  have c_count_outcomes := ok_count_outcomes (P := P) (w := w) (base := base) g D_count_outcomes m_count_outcomes c_check_film c_count_words c_outcome_graph
  have c_is_whole := ok_is_whole (P := P) (w := w) (base := base) g D_is_whole m_is_whole 
  have c_check_rank := ok_check_rank (P := P) (w := w) (base := base) g D_check_rank m_check_rank c_is_whole
  have c_word_at := ok_word_at (P := P) (w := w) (base := base) g D_word_at m_word_at c_counts_from
  have c_outcome_at := ok_outcome_at (P := P) (w := w) (base := base) g D_outcome_at m_outcome_at c_check_film c_check_rank c_word_at c_outcome_graph
  have c_rank_in := ok_rank_in (P := P) (w := w) (base := base) g D_rank_in m_rank_in c_counts_from
  have c_rank_of := ok_rank_of (P := P) (w := w) (base := base) g D_rank_of m_rank_of c_check_film c_rank_in c_outcome_graph
  have c_earliest_starts := ok_earliest_starts (P := P) (w := w) (base := base) g D_earliest_starts m_earliest_starts 
  have c_comes_to := ok_comes_to (P := P) (w := w) (base := base) g D_comes_to m_comes_to c_earliest_starts
  have c_comes := ok_comes (P := P) (w := w) (base := base) g D_comes m_comes c_check_film c_comes_to
  have c_next_outcome := ok_next_outcome (P := P) (w := w) (base := base) g D_next_outcome m_next_outcome c_check_film c_outcome_graph c_rank_in c_word_at
  have c_fewest_of_block := ok_fewest_of_block (P := P) (w := w) (base := base) g D_fewest_of_block m_fewest_of_block 
  have c_fewest_behind := ok_fewest_behind (P := P) (w := w) (base := base) g D_fewest_behind m_fewest_behind c_fewest_of_block
  have c_cuts_for := ok_cuts_for (P := P) (w := w) (base := base) g D_cuts_for m_cuts_for 
  have c_places_from := ok_places_from (P := P) (w := w) (base := base) g D_places_from m_places_from 
  have c_fewest_parting := ok_fewest_parting (P := P) (w := w) (base := base) g D_fewest_parting m_fewest_parting c_places_from
  have c_some_cuts := ok_some_cuts (P := P) (w := w) (base := base) g D_some_cuts m_some_cuts c_check_film c_fewest_behind c_cuts_for c_fewest_parting
  have c_fewest_cuts := ok_fewest_cuts (P := P) (w := w) (base := base) g D_fewest_cuts m_fewest_cuts c_check_film c_fewest_behind
  have c_counted_beginning := ok_counted_beginning (P := P) (w := w) (base := base) g D_counted_beginning m_counted_beginning c_outcome_graph c_counts_from
  have c_count_beginning := ok_count_beginning (P := P) (w := w) (base := base) g D_count_beginning m_count_beginning c_check_film c_counted_beginning
  have c_behind_cut := ok_behind_cut (P := P) (w := w) (base := base) g D_behind_cut m_behind_cut 
  have c_cuts := ok_cuts (P := P) (w := w) (base := base) g D_cuts m_cuts c_check_film
  have c_next_films := ok_next_films (P := P) (w := w) (base := base) g D_next_films m_next_films c_behind_cut c_cuts
  exact law_fn g D_law c__law_film c__law_taken c_count_outcomes c_outcome_at c_rank_of c_comes c_next_outcome c_some_cuts c_fewest_cuts c_count_beginning c_next_films
end LW
open PySem PySem.W PySem.Calls PyProof.Rows
theorem PySem.Challenge.cw_jumpcuts_k39_across_ranks_of_long_films_holds : PySem.Challenge.rw_jumpcuts_k39_across_ranks_of_long_films.Holds := by
  w_on; o_law
  refine HandSHeadRun.head_any (r := OpenLaw.row PySem.Challenge.rw_jumpcuts_k39_across_ranks_of_long_films) (q := view (OpenLaw.row PySem.Challenge.rw_jumpcuts_k39_across_ranks_of_long_films).prog [46]) (H := LW.hk) (ob := LW.ob) (M := 4000) (loose := LW.loose) (d := HandSHeadRun.topDef (OpenLaw.row PySem.Challenge.rw_jumpcuts_k39_across_ranks_of_long_films).prog 46) (kwd := []) LW.ob_eq
    (by kernel_rfl) (fun s => by kernel_rfl) LW.run (by kernel_rfl) (by kernel_rfl) (by kernel_rfl) (by rfl) (by first | assumption | decide +kernel) (by decide +kernel) ⟨rfl, rfl, rfl, rfl, rfl, by decide +kernel⟩ ?hw ?hc
  case hw => w_witness2
  case hc =>
    refine DL.walk_data (l := PySem.Challenge.rw_jumpcuts_k39_across_ranks_of_long_films) (n := 63) (k := 9) (x := "script") (G := LW.F_law) rfl (by decide) (by kernel_rfl) ⟨rfl, by decide, by decide⟩ ?F LW.law_true
    intro w mg fa h Y G hmg0
    obtain ⟨K, KX, c⟩ := Y
    have hmg : mg ("law" : PySem.Str) = some (.ref fa) := by
      have e : (HandSHeadRun.topDef (OpenLaw.row PySem.Challenge.rw_jumpcuts_k39_across_ranks_of_long_films).prog 46).name = ("law" : PySem.Str) := by kernel_rfl
      rw [← e] <;> exact hmg0
    obtain ⟨fd, hb, hF⟩ := LW.facts (P := (PySem.Challenge.rw_jumpcuts_k39_across_ranks_of_long_films).prog) (w := w) KX G hmg c
    exact ⟨K, fd, KX, hb, hF⟩

end
