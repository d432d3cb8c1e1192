import PyProof.Rows.All
import Wide.All
import OpenK.AllK
import Wide.FinOn
import HandS.ForMost
import HandS.ForExc
import HandS.Wide
import HandS.IsInst
import HandS.TupMul
import HandS.Deep
import HandS.Zip
import HandS.EndBits
import HandS.TupAny
import HandS.TupLe
import HandS.RaiseMore
import HandS.Sort
import KE.SortData
import HandS.Style
import KE.KDictCopyH
import KE.KDictPairs
import KE.KDictSum
import PyProof.Rows.RegFStrParts
import PySem.Challenge.RW_roundorlist_k01_sums_of_rows_beside_trie
import KE.IntTextLaws
set_option Elab.async false
set_option linter.all false
set_option maxRecDepth 100000
set_option maxHeartbeats 4000000

/-! Core: data, store, how they stand in the heap. -/
namespace Rol
open PySem L2 PySem.Spec

/-- data: what never changes by itself, and places of the store -/
inductive D where
  | non | bl (b : Bool) | int (i : Int) | str (x : Str) | tup (xs : List D) | loc (i : Nat) | opq (v : V)
/-- what stands at a place of the store -/
inductive O where
  | lst (xs : List D) | src (xs : List D) | dct (kvs : List (D × D))
abbrev S := List O
abbrev Nv := List (Option D)
def O.mut : O → Bool
  | .src _ => false
  | _ => true

mutual
inductive RepV (K : PySem.W.Frag) (φ : List Addr) (H : Hp) : D → V → Prop
  | non : RepV K φ H .non .non
  | bl (b : Bool) : RepV K φ H (.bl b) (.bl b)
  | int (i : Int) : RepV K φ H (.int i) (.int i)
  | str (x : Str) : RepV K φ H (.str x) (.str x)
  | tup {a : Addr} {xs : List D} {vs : List V} : SqT K H a vs → RepL K φ H xs vs → RepV K φ H (.tup xs) (.ref a)
  | loc {i : Nat} {a : Addr} : φ[i]? = some a → RepV K φ H (.loc i) (.ref a)
  | opq (v : V) : RepV K φ H (.opq v) v
inductive RepL (K : PySem.W.Frag) (φ : List Addr) (H : Hp) : List D → List V → Prop
  | nil : RepL K φ H [] []
  | cons {x : D} {xs : List D} {v : V} {vs : List V} : RepV K φ H x v → RepL K φ H xs vs → RepL K φ H (x :: xs) (v :: vs)
end

def Ext (φ φ' : List Addr) : Prop := ∃ l, φ' = φ ++ l
theorem Ext.refl (φ : List Addr) : Ext φ φ := ⟨[], by simp⟩
theorem Ext.trans {a b c : List Addr} (h : Ext a b) (h' : Ext b c) : Ext a c := by
  obtain ⟨l, rfl⟩ := h
  obtain ⟨m, rfl⟩ := h'
  exact ⟨l ++ m, by simp⟩
theorem Ext.get {φ φ' : List Addr} (h : Ext φ φ') {i : Nat} {a : Addr} (e : φ[i]? = some a) : φ'[i]? = some a := by
  obtain ⟨l, rfl⟩ := h
  have hl : i < φ.length := (List.getElem?_eq_some_iff.mp e).1
  rw [List.getElem?_append_left hl]
  exact e
theorem Ext.one (φ : List Addr) (a : Addr) : Ext φ (φ ++ [a]) := ⟨[a], rfl⟩

/-- what never changes is kept -/
def Kp (H H' : Hp) : Prop := ∀ a o, H a = some o → ¬ Mut (some o) → H' a = some o
theorem Kp.refl (H : Hp) : Kp H H := fun _ _ h _ => h
theorem Kp.trans {H H1 H2 : Hp} (a : Kp H H1) (b : Kp H1 H2) : Kp H H2 := fun c o h n => b c o (a c o h n) n
theorem Kp.new {H : Hp} {p : Addr} {o : HO} (hp : H p = none) : Kp H (upd H p o) := fun a u h _ => by
  rw [upd_ne (ne_of_none h hp)]
  exact h
theorem Kp.write {H : Hp} {p : Addr} {o : HO} (hp : Mut (H p)) : Kp H (upd H p o) := fun a u h n => by
  by_cases e : a = p
  · subst e
    rw [h] at hp
    exact absurd hp n
  · rw [upd_ne e]
    exact h
theorem Kp.sqT {K : PySem.W.Frag} {H H' : Hp} (k : Kp H H') {a : Addr} {vs : List V} (h : SqT K H a vs) : SqT K H' a vs := by
  rcases h with h | h
  · rcases h with h | ⟨o, h⟩
    · exact .inl (.inl (k _ _ h (fun z => z)))
    · exact .inl (.inr ⟨o, k _ _ h (fun z => z)⟩)
  · exact .inr h

section
variable {K : PySem.W.Frag} {φ φ' : List Addr} {H H' : Hp}
mutual
theorem RepV.mono (e : Ext φ φ') (k : Kp H H') : ∀ {x : D} {v : V}, RepV K φ H x v → RepV K φ' H' x v
  | _, _, .non => .non
  | _, _, .bl b => .bl b
  | _, _, .int i => .int i
  | _, _, .str x => .str x
  | _, _, .tup s r => .tup (k.sqT s) (RepL.mono e k r)
  | _, _, .loc h => .loc (e.get h)
  | _, _, .opq v => .opq v
theorem RepL.mono (e : Ext φ φ') (k : Kp H H') : ∀ {xs : List D} {vs : List V}, RepL K φ H xs vs → RepL K φ' H' xs vs
  | _, _, .nil => .nil
  | _, _, .cons r t => .cons (RepV.mono e k r) (RepL.mono e k t)
end
theorem RepL.length : ∀ {xs : List D} {vs : List V}, RepL K φ H xs vs → xs.length = vs.length
  | _, _, .nil => rfl
  | _, _, .cons _ t => by rw [List.length_cons, List.length_cons, RepL.length t]
theorem RepL.get : ∀ {xs : List D} {vs : List V} {i : Nat} {x : D}, RepL K φ H xs vs → xs[i]? = some x → ∃ v, vs[i]? = some v ∧ RepV K φ H x v
  | _, _, _, _, .nil, e => by simp at e
  | _, _, 0, _, .cons r _, e => by simp at e; subst e; exact ⟨_, rfl, r⟩
  | _, _, i + 1, x, .cons _ t, e => by
    obtain ⟨u, h1, h2⟩ := RepL.get (i := i) (x := x) t (by simpa using e)
    exact ⟨u, by simpa using h1, h2⟩
theorem RepL.getV : ∀ {xs : List D} {vs : List V} {i : Nat} {v : V}, RepL K φ H xs vs → vs[i]? = some v → ∃ x, xs[i]? = some x ∧ RepV K φ H x v
  | _, _, _, _, .nil, e => by simp at e
  | _, _, 0, _, .cons r _, e => by simp at e; subst e; exact ⟨_, rfl, r⟩
  | _, _, i + 1, v, .cons _ t, e => by
    obtain ⟨u, h1, h2⟩ := RepL.getV (i := i) (v := v) t (by simpa using e)
    exact ⟨u, by simpa using h1, h2⟩
theorem RepL.set {x : D} {v : V} (r : RepV K φ H x v) : ∀ {xs : List D} {vs : List V} (i : Nat), RepL K φ H xs vs → RepL K φ H (xs.set i x) (vs.set i v)
  | _, _, _, .nil => .nil
  | _, _, 0, .cons _ t => .cons r t
  | _, _, i + 1, .cons q t => .cons q (RepL.set r i t)
theorem RepL.append : ∀ {xs ys : List D} {vs ws : List V}, RepL K φ H xs vs → RepL K φ H ys ws → RepL K φ H (xs ++ ys) (vs ++ ws)
  | _, _, _, _, .nil, s => s
  | _, _, _, _, .cons r t, s => .cons r (RepL.append t s)
theorem RepL.take : ∀ {xs : List D} {vs : List V} (n : Nat), RepL K φ H xs vs → RepL K φ H (xs.take n) (vs.take n)
  | _, _, 0, _ => .nil
  | _, _, _ + 1, .nil => .nil
  | _, _, n + 1, .cons r t => .cons r (RepL.take n t)
theorem RepL.drop : ∀ {xs : List D} {vs : List V} (n : Nat), RepL K φ H xs vs → RepL K φ H (xs.drop n) (vs.drop n)
  | _, _, 0, r => r
  | _, _, _ + 1, .nil => .nil
  | _, _, n + 1, .cons _ t => RepL.drop n t
theorem RepL.erase : ∀ {xs : List D} {vs : List V} (i : Nat), RepL K φ H xs vs → RepL K φ H (xs.eraseIdx i) (vs.eraseIdx i)
  | _, _, _, .nil => .nil
  | _, _, 0, .cons _ t => t
  | _, _, i + 1, .cons q t => .cons q (RepL.erase i t)
theorem RepL.rep {xs : List D} {vs : List V} (h : RepL K φ H xs vs) : ∀ k : Nat, RepL K φ H (List.replicate k xs).flatten (List.replicate k vs).flatten
  | 0 => .nil
  | k + 1 => by
    rw [List.replicate_succ, List.replicate_succ, List.flatten_cons, List.flatten_cons]
    exact h.append (RepL.rep h k)
end

/-- an object of the store, at its address -/
def RepO (K : PySem.W.Frag) (φ : List Addr) (H : Hp) (a : Addr) : O → Prop
  | .lst xs => ∃ vs, H a = some (.lst vs) ∧ RepL K φ H xs vs
  | .src xs => ∃ vs, ((∃ o, H a = some (.frz o (.lst vs))) ∨ (∀ H0 : Hp, SqL K H0 a vs)) ∧ RepL K φ H xs vs
  | .dct _ => False
/-- the store in the heap -/
structure RepS (K : PySem.W.Frag) (φ : List Addr) (H : Hp) (st : S) : Prop where
  len : φ.length = st.length
  obj : ∀ (i : Nat) (a : Addr) (o : O), φ[i]? = some a → st[i]? = some o → RepO K φ H a o
  inj : ∀ (i j : Nat) (a : Addr) (o u : O), φ[i]? = some a → φ[j]? = some a → st[i]? = some o → st[j]? = some u → o.mut = true → u.mut = true → i = j
/-- the slots -/
def RepE (K : PySem.W.Frag) (φ : List Addr) (H : Hp) (ρ : Nv) (σ : St) : Prop := ρ.length = σ.length ∧ ∀ (i : Nat) (d : D), ρ[i]? = some (some d) → ∃ v, σ[i]? = some (some v) ∧ RepV K φ H d v

section
variable {K : PySem.W.Frag} {φ φ' : List Addr} {H H' : Hp} {st : S} {ρ : Nv} {σ : St}
theorem RepE.mono (e : Ext φ φ') (k : Kp H H') (h : RepE K φ H ρ σ) : RepE K φ' H' ρ σ := ⟨h.1, fun i d q => by
  obtain ⟨v, h1, h2⟩ := h.2 i d q
  exact ⟨v, h1, h2.mono e k⟩⟩
theorem RepE.set {d : D} {v : V} (h : RepE K φ H ρ σ) (r : RepV K φ H d v) (i : Nat) : RepE K φ H (ρ.set i (some d)) (σ.set i (some v)) := by
  refine ⟨by rw [List.length_set, List.length_set]; exact h.1, fun j d' q => ?_⟩
  by_cases e : i = j
  · subst e
    have hi : i < ρ.length := by
      have := (List.getElem?_eq_some_iff.mp q).1
      rw [List.length_set] at this
      exact this
    rw [List.getElem?_set_self hi] at q
    cases q
    exact ⟨v, List.getElem?_set_self (by rw [← h.1]; exact hi), r⟩
  · rw [List.getElem?_set_ne e] at q
    rw [List.getElem?_set_ne e]
    exact h.2 j d' q
theorem RepS.addr (R : RepS K φ H st) {i : Nat} {o : O} (h : st[i]? = some o) : ∃ a, φ[i]? = some a ∧ RepO K φ H a o := by
  have hl : i < st.length := (List.getElem?_eq_some_iff.mp h).1
  have hl' : i < φ.length := by rw [R.len]; exact hl
  exact ⟨φ[i], by simp [hl'], R.obj i _ o (by simp [hl']) h⟩
theorem RepO.mono_of {a : Addr} {o : O} (e : Ext φ φ') (k : Kp H H') (hl : o.mut = true → H' a = H a) (h : RepO K φ H a o) : RepO K φ' H' a o := by
  cases o with
  | lst xs =>
    obtain ⟨vs, h1, h2⟩ := h
    exact ⟨vs, by rw [hl rfl]; exact h1, h2.mono e k⟩
  | src xs =>
    obtain ⟨vs, h1, h2⟩ := h
    refine ⟨vs, ?_, h2.mono e k⟩
    rcases h1 with ⟨o, h1⟩ | h1
    · exact .inl ⟨o, k _ _ h1 (fun z => z)⟩
    · exact .inr h1
  | dct _ => exact h
theorem RepO.mutable {a : Addr} {o : O} (h : RepO K φ H a o) (m : o.mut = true) : Mut (H a) := by
  cases o with
  | lst xs =>
    obtain ⟨vs, h1, _⟩ := h
    rw [h1]
    exact trivial
  | src xs => cases m
  | dct _ => exact h.elim
theorem mut_not_none {a : Addr} {o : O} (h : RepO K φ H a o) (m : o.mut = true) : H a ≠ none := fun z => by
  have q := h.mutable m
  rw [z] at q
  exact q
/-- something is laid beside the store -/
theorem RepS.beside {p : Addr} {o : HO} (R : RepS K φ H st) (hp : H p = none) : RepS K φ (upd H p o) st :=
  ⟨R.len, fun i a u h1 h2 => RepO.mono_of (Ext.refl _) (Kp.new hp) (fun m => upd_ne fun z => mut_not_none (R.obj i a u h1 h2) m (by rw [z]; exact hp)) (R.obj i a u h1 h2), R.inj⟩
/-- a new list -/
theorem RepS.alloc {p : Addr} {xs : List D} {vs : List V} (R : RepS K φ H st) (hp : H p = none) (r : RepL K φ H xs vs) : RepS K (φ ++ [p]) (upd H p (.lst vs)) (st ++ [.lst xs]) := by
  have R' := R.beside (o := .lst vs) hp
  have e := Ext.one φ p
  have k : Kp H (upd H p (.lst vs)) := Kp.new hp
  refine ⟨by simp [R.len], fun i a o h1 h2 => ?_, fun i j a o u h1 h2 h3 h4 m1 m2 => ?_⟩
  · by_cases hi : i < st.length
    · rw [List.getElem?_append_left hi] at h2
      rw [List.getElem?_append_left (by rw [R.len]; exact hi)] at h1
      exact RepO.mono_of e (Kp.refl _) (fun _ => rfl) (R'.obj i a o h1 h2)
    · have hi2 : i = st.length := by
        have := (List.getElem?_eq_some_iff.mp h2).1
        simp at this
        omega
      subst hi2
      rw [List.getElem?_append_right (Nat.le_refl _), Nat.sub_self] at h2
      rw [← R.len, List.getElem?_append_right (Nat.le_refl _), Nat.sub_self] at h1
      simp at h1 h2
      subst h1 h2
      exact ⟨vs, upd_same, r.mono e k⟩
  · have get : ∀ (i : Nat) (o : O), (φ ++ [p])[i]? = some a → (st ++ [.lst xs])[i]? = some o → o.mut = true → (i < st.length ∧ φ[i]? = some a ∧ st[i]? = some o ∧ a ≠ p) ∨ (i = st.length ∧ a = p) := fun i o h1 h3 m => by
      by_cases hi : i < st.length
      · rw [List.getElem?_append_left hi] at h3
        rw [List.getElem?_append_left (by rw [R.len]; exact hi)] at h1
        refine .inl ⟨hi, h1, h3, fun z => ?_⟩
        exact mut_not_none (R.obj i a o h1 h3) m (by rw [z]; exact hp)
      · have hi2 : i = st.length := by
          have := (List.getElem?_eq_some_iff.mp h3).1
          simp at this
          omega
        subst hi2
        rw [← R.len, List.getElem?_append_right (Nat.le_refl _), Nat.sub_self] at h1
        simp at h1
        exact .inr ⟨rfl, h1.symm⟩
    rcases get i o h1 h3 m1 with ⟨_, a1, a2, a3⟩ | ⟨e1, a3⟩
    · rcases get j u h2 h4 m2 with ⟨_, b1, b2, _⟩ | ⟨_, b3⟩
      · exact R.inj i j a o u a1 b1 a2 b2 m1 m2
      · exact absurd b3 a3
    · rcases get j u h2 h4 m2 with ⟨_, _, _, b3⟩ | ⟨e2, _⟩
      · exact absurd a3 b3
      · rw [e1, e2]
/-- a list is changed -/
theorem RepS.write {i : Nat} {a : Addr} {ys xs : List D} {vs : List V} (R : RepS K φ H st) (h1 : φ[i]? = some a) (h2 : st[i]? = some (.lst ys)) (r : RepL K φ H xs vs) : RepS K φ (upd H a (.lst vs)) (st.set i (.lst xs)) := by
  obtain ⟨ws, e0, _⟩ := R.obj i a _ h1 h2
  have hm : Mut (H a) := by
    rw [e0]
    exact trivial
  have k : Kp H (upd H a (.lst vs)) := Kp.write hm
  have hi : i < st.length := (List.getElem?_eq_some_iff.mp h2).1
  refine ⟨by simp [R.len], fun j b o g1 g2 => ?_, fun j l b o u g1 g2 g3 g4 m1 m2 => ?_⟩
  · by_cases hj : j = i
    · subst hj
      rw [h1] at g1
      cases g1
      rw [List.getElem?_set_self hi] at g2
      cases g2
      exact ⟨vs, upd_same, r.mono (Ext.refl _) k⟩
    · rw [List.getElem?_set_ne (fun z => hj z.symm)] at g2
      have ro := R.obj j b o g1 g2
      refine RepO.mono_of (Ext.refl _) k (fun m => upd_ne fun z => ?_) ro
      subst z
      exact hj (R.inj j i b o _ g1 h1 g2 h2 m rfl)
  · have get : ∀ (j : Nat) (o : O), (st.set i (.lst xs))[j]? = some o → ∃ o', st[j]? = some o' ∧ (o.mut = true → o'.mut = true) := fun j o g => by
      by_cases hj : j = i
      · subst hj
        exact ⟨_, h2, fun _ => rfl⟩
      · rw [List.getElem?_set_ne (fun z => hj z.symm)] at g
        exact ⟨o, g, fun z => z⟩
    obtain ⟨o', q1, q2⟩ := get j o g3
    obtain ⟨u', q3, q4⟩ := get l u g4
    exact R.inj j l b o' u' g1 g2 q1 q3 (q2 m1) (q4 m2)
end
end Rol

/-! Judgements by functions of data. -/
namespace Rol
open PySem L2 PySem.Spec

inductive Res (α : Type) where
  | ok (a : α) (st : S) | exc (c : Str) (w : D) (st : S) | stuck
def Res.bind {α β : Type} (r : Res α) (k : α → S → Res β) : Res β :=
  match r with
  | .ok a st => k a st
  | .exc c w st => .exc c w st
  | .stuck => .stuck
@[simp] theorem Res.bind_ok {α β : Type} (a : α) (st : S) (k : α → S → Res β) : (Res.ok a st).bind k = k a st := rfl
@[simp] theorem Res.bind_exc {α β : Type} (c : Str) (w : D) (st : S) (k : α → S → Res β) : (Res.exc c w st : Res α).bind k = .exc c w st := rfl
@[simp] theorem Res.bind_stuck {α β : Type} (k : α → S → Res β) : (Res.stuck : Res α).bind k = .stuck := rfl

abbrev DE := Nv → S → Res D
abbrev DA := Nv → S → Res (List D)
abbrev DT := Nv → S → Res Bool

section
variable (K : PySem.W.Frag) (cm : Str → Addr) (W : WX)
/-- what is wanted behind: of a value, of an exception -/
def AtG {α β : Type} (R : List Addr → Hp → α → β → Prop) (φ : List Addr) (H : Hp) (σ : L2.St) (Q : β → Hp → Prop) : Res α → Prop
  | .ok a st => ∀ φ' H' b, Ext φ φ' → Kp H H' → RepS K φ' H' st → R φ' H' a b → Q b H'
  | .exc c w st => ∀ φ' H' d w', Ext φ φ' → Kp H H' → RepS K φ' H' st → RepV K φ' H' w w' → H' d = some (.xd [(("what" : Str), w')]) → W (.ref (cm c)) (some d) σ H'
  | .stuck => False
structure Hd (φ : List Addr) (H : Hp) (σ : L2.St) (ρ : Nv) (st : S) : Prop where
  s : RepS K φ H st
  e : RepE K φ H ρ σ
def tG {α β : Type} (R : List Addr → Hp → α → β → Prop) (m : Nv → S → Res α) : L2.St → Hp → (β → Hp → Prop) → Prop := fun σ H Q =>
  ∃ φ ρ st, Hd K φ H σ ρ st ∧ AtG K cm W R φ H σ Q (m ρ st)
abbrev RV : List Addr → Hp → D → V → Prop := fun φ H => RepV K φ H
abbrev RL : List Addr → Hp → List D → List V → Prop := fun φ H => RepL K φ H
abbrev RB : List Addr → Hp → Bool → Bool → Prop := fun _ _ a b => a = b
abbrev tE (m : DE) : TE := tG K cm W (RV K) m
abbrev tA (m : DA) : TA := tG K cm W (RL K) m
abbrev tT (m : DT) : TT := tG K cm W RB m
end

section
variable {K : PySem.W.Frag} {cm : Str → Addr} {W : WX} {α β γ δ : Type} {R : List Addr → Hp → α → β → Prop} {R2 : List Addr → Hp → γ → δ → Prop}
  {φ φ' : List Addr} {H H' : Hp} {σ : L2.St} {ρ : Nv} {st : S} {Q : β → Hp → Prop} {Q2 : δ → Hp → Prop}
theorem AtG.mono {r : Res α} (e : Ext φ φ') (k : Kp H H') (h : AtG K cm W R φ H σ Q r) : AtG K cm W R φ' H' σ Q r := by
  cases r with
  | ok a st => exact fun φ2 H2 b e2 k2 => h φ2 H2 b (e.trans e2) (k.trans k2)
  | exc c w st => exact fun φ2 H2 d w' e2 k2 => h φ2 H2 d w' (e.trans e2) (k.trans k2)
  | stuck => exact h
theorem Hd.mono (hd : Hd K φ H σ ρ st) (e : Ext φ φ') (k : Kp H H') {st' : S} (s : RepS K φ' H' st') : Hd K φ' H' σ ρ st' := ⟨s, hd.e.mono e k⟩
theorem AtG.bind {r : Res α} {k : α → S → Res γ} (h : AtG K cm W R2 φ H σ Q2 (r.bind k))
    (hk : ∀ a st' φ' H' b, Ext φ φ' → Kp H H' → RepS K φ' H' st' → R φ' H' a b → AtG K cm W R2 φ' H' σ Q2 (k a st') → Q b H') : AtG K cm W R φ H σ Q r := by
  cases r with
  | ok a st => exact fun φ2 H2 b e2 k2 s2 r2 => hk a st φ2 H2 b e2 k2 s2 r2 (AtG.mono e2 k2 h)
  | exc c w st => exact h
  | stuck => exact h
theorem tG_bind {m : Nv → S → Res α} {k : α → S → Res γ} (hd : Hd K φ H σ ρ st) (h : AtG K cm W R2 φ H σ Q2 ((m ρ st).bind k))
    (hk : ∀ a st' φ' H' b, Ext φ φ' → Kp H H' → Hd K φ' H' σ ρ st' → R φ' H' a b → AtG K cm W R2 φ' H' σ Q2 (k a st') → Q b H') : tG K cm W R m σ H Q :=
  ⟨φ, ρ, st, hd, AtG.bind h fun a st' φ' H' b e k' s r h' => hk a st' φ' H' b e k' (hd.mono e k' s) r h'⟩
/-- it's there -/
theorem AtG.here {a : α} {b : β} (h : AtG K cm W R φ H σ Q (.ok a st)) (s : RepS K φ H st) (r : R φ H a b) : Q b H := h φ H b (Ext.refl _) (Kp.refl _) s r
theorem conv_E {X : Cx} {e : Expr} {t t' : TE} (h : PE X e t) (c : ∀ σ H Q, t' σ H Q → t σ H Q) : PE X e t' := ⟨fun pins s σ H Q I q => h.run pins s σ H Q I (c σ H Q q)⟩
theorem conv_T {X : Cx} {e : Expr} {t t' : TT} (h : PT X e t) (c : ∀ σ H Q, t' σ H Q → t σ H Q) : PT X e t' := ⟨fun pins s σ H Q I q => h.run pins s σ H Q I (c σ H Q q)⟩
theorem conv_A {X : Cx} {e : List Expr} {t t' : TA} (h : PA X e t) (c : ∀ σ H Q, t' σ H Q → t σ H Q) : PA X e t' := ⟨fun ps pins s σ H Q I q => h.run ps pins s σ H Q I (c σ H Q q)⟩
theorem conv_S {X : Cx} {e : Stmt} {t t' : TS} (h : PS X e t) (c : ∀ D σ H, t' D σ H → t D σ H) : PS X e t' := ⟨fun pins s σ H D I q => h.run pins s σ H D I (c D σ H q)⟩
theorem conv_Ss {X : Cx} {e : List Stmt} {t t' : TS} (h : PSs X e t) (c : ∀ D σ H, t' D σ H → t D σ H) : PSs X e t' := ⟨fun pins s σ H D I q => h.run pins s σ H D I (c D σ H q)⟩
end

/-! ### names, constants, displays, arguments -/
def eVar (i : Nat) : DE := fun ρ st => match ρ[i]? with
  | some (some d) => .ok d st
  | _ => .stuck
def eC (d : D) : DE := fun _ st => .ok d st
def aNil : DA := fun _ st => .ok [] st
def aCons (m : DE) (l : DA) : DA := fun ρ st => (m ρ st).bind fun x st => (l ρ st).bind fun xs st => .ok (x :: xs) st
def eTup (l : DA) : DE := fun ρ st => (l ρ st).bind fun xs st => if xs.length ≤ sizeLine then .ok (.tup xs) st else .stuck
def eLst (l : DA) : DE := fun ρ st => (l ρ st).bind fun xs st => if xs.length ≤ sizeLine then .ok (.loc st.length) (st ++ [.lst xs]) else .stuck

section
variable {X : Cx} {cm : Str → Addr} {W : WX} {e a b : Expr} {es : List Expr} {ma mb m : DE} {ml : DA} {x : Str} {pos : Pos}
theorem rE_var (i : Nat) (hN : X.N[i]? = some x := by rfl) (hv : Vis X.env.scope x := by first | exact Or.inl rfl | exact Or.inr (Or.inl rfl) | exact Or.inr (Or.inr rfl)) (hd : (x == ("__debug__" : Str)) = false := by decide)
    (hcd : (x == ("__classdict__" : Str)) = false := by decide) : PE X (.Name x pos) (tE X.K cm W (eVar i)) := by
  refine conv_E (pe_var hN hv hd hcd) fun σ H Q h => ?_
  obtain ⟨φ, ρ, st, hd, h⟩ := h
  unfold eVar at h
  split at h
  · rename_i d q
    obtain ⟨v, h1, h2⟩ := hd.e.2 i d q
    exact ⟨v, h1, h.here hd.s h2⟩
  · exact h.elim
theorem rE_C {d : D} {v : V} (h : PE X e (tC v)) (r : ∀ φ H, RepV X.K φ H d v) : PE X e (tE X.K cm W (eC d)) := by
  refine conv_E h fun σ H Q h => ?_
  obtain ⟨φ, ρ, st, hd, h⟩ := h
  exact AtG.here h hd.s (r φ H)
theorem rE_int {i : Int} {j} : PE X (.Constant (.int i) j pos) (tE X.K cm W (eC (.int i))) := rE_C pe_int fun _ _ => .int i
theorem rE_bl {i : Bool} {j} : PE X (.Constant (.bool i) j pos) (tE X.K cm W (eC (.bl i))) := rE_C pe_bl fun _ _ => .bl i
theorem rE_non {j} : PE X (.Constant .none j pos) (tE X.K cm W (eC .non)) := rE_C pe_non fun _ _ => .non
theorem rE_str {i : Str} {j} : PE X (.Constant (.str i) j pos) (tE X.K cm W (eC (.str i))) := rE_C pe_str fun _ _ => .str i
/-- a module's constant, a class, a built-in class -/
theorem rE_glob {v : V} {u : Value} {d : D} (hm : X.mg x = some u) (r : RelV v u) (rd : ∀ φ H, RepV X.K φ H d v) (hg : Gl X x := by rfl) (hd : (x == ("__debug__" : Str)) = false := by decide) : PE X (.Name x pos) (tE X.K cm W (eC d)) := rE_C (pe_glob hg hm r hd) rd
theorem rE_bltn {v : V} {u : Value} {d : D} (hm : X.mg x = none) (hv : bootBuiltins x = some u) (r : RelV v u) (rd : ∀ φ H, RepV X.K φ H d v) (hg : Gl X x := by rfl) (hn : x ≠ "__name__" := by decide) (hd : (x == ("__debug__" : Str)) = false := by decide) : PE X (.Name x pos) (tE X.K cm W (eC d)) := rE_C (pe_bltn hg hm hv r hn hd) rd
theorem rA_nil : PA X [] (tA X.K cm W aNil) := by
  refine conv_A pa_nil fun σ H Q h => ?_
  obtain ⟨φ, ρ, st, hd, h⟩ := h
  exact AtG.here h hd.s .nil
theorem rA_cons (h1 : PE X e (tE X.K cm W m)) (h2 : PA X es (tA X.K cm W ml)) (hs : starEach (e :: es) X.env = (false, eval e X.env) :: starEach es X.env := by rfl) : PA X (e :: es) (tA X.K cm W (aCons m ml)) := by
  refine conv_A (pa_cons h1 h2 hs) fun σ H Q h => ?_
  obtain ⟨φ, ρ, st, hd, h⟩ := h
  refine tG_bind hd h fun x st1 φ1 H1 v e1 k1 hd1 r1 h1 => ?_
  refine tG_bind hd1 h1 fun xs st2 φ2 H2 vs e2 k2 hd2 r2 h2 => ?_
  exact AtG.here h2 hd2.s (.cons (r1.mono e2 k2) r2)
theorem rE_tup {x1} (h : PA X es (tA X.K cm W ml)) : PE X (.Tuple es x1 pos) (tE X.K cm W (eTup ml)) := by
  refine conv_E (pe_tup h) fun σ H Q h => ?_
  obtain ⟨φ, ρ, st, hd, h⟩ := h
  refine tG_bind hd h fun xs st1 φ1 H1 vs e1 k1 hd1 r1 h1 => ?_
  split at h1
  · rename_i hl
    refine ⟨by rw [← r1.length]; exact hl, fun p hp => ?_⟩
    exact h1 φ1 _ _ (Ext.refl _) (Kp.new hp) (hd1.s.beside hp) (.tup (SqT.of upd_same) (r1.mono (Ext.refl _) (Kp.new hp)))
  · exact h1.elim
theorem rE_lst (h : PA X es (tA X.K cm W ml)) : PE X (.List es pos) (tE X.K cm W (eLst ml)) := by
  refine conv_E (pe_lst h) fun σ H Q h => ?_
  obtain ⟨φ, ρ, st, hd, h⟩ := h
  refine tG_bind hd h fun xs st1 φ1 H1 vs e1 k1 hd1 r1 h1 => ?_
  split at h1
  · rename_i hl
    refine ⟨by rw [← r1.length]; exact hl, fun p hp => ?_⟩
    refine h1 (φ1 ++ [p]) _ _ (Ext.one _ _) (Kp.new hp) (hd1.s.alloc hp r1) (.loc ?_)
    rw [← hd1.s.len, List.getElem?_append_right (Nat.le_refl _), Nat.sub_self]
    rfl
  · exact h1.elim

/-! ### operators -/
/-- a two-place operation by data -/
def OpD (K : PySem.W.Frag) (r : L2.R2) (f : D → D → S → Res D) : Prop :=
  ∀ (cm : Str → Addr) (W : WX) (φ : List Addr) (H : Hp) (σ : L2.St) (st : S) (x y : D) (v w : V) (Q : VK), RepS K φ H st → RepV K φ H x v → RepV K φ H y w → AtG K cm W (RV K) φ H σ Q (f x y st) → r v w H Q
def e2 (f : D → D → S → Res D) (ma mb : DE) : DE := fun ρ st => (ma ρ st).bind fun x st => (mb ρ st).bind fun y st => f x y st
def e1 (f : D → S → Res D) (ma : DE) : DE := fun ρ st => (ma ρ st).bind f
theorem e2_run {f : D → D → S → Res D} {r : L2.R2} (hr : OpD X.K r f) (ta : TE) (tb : TE) (ea : ta = tE X.K cm W ma) (eb : tb = tE X.K cm W mb) (σ : L2.St) (H : Hp) (Q : VK) (h : tE X.K cm W (e2 f ma mb) σ H Q) : tOp r ta tb σ H Q := by
  subst ea eb
  obtain ⟨φ, ρ, st, hd, h⟩ := h
  refine tG_bind hd h fun x st1 φ1 H1 v e1 k1 hd1 r1 h1 => ?_
  refine tG_bind hd1 h1 fun y st2 φ2 H2 w e2 k2 hd2 r2 h2 => ?_
  exact hr cm W φ2 H2 σ st2 x y v w Q hd2.s (r1.mono e2 k2) r2 h2
theorem rE_op {op : Operator} {f : D → D → S → Res D} {r : L2.R2} (ho : OpR X (binaryOp op) r) (hr : OpD X.K r f) (ha : PE X a (tE X.K cm W ma)) (hb : PE X b (tE X.K cm W mb)) : PE X (.BinOp a op b pos) (tE X.K cm W (e2 f ma mb)) :=
  conv_E (pe_op ho ha hb) (e2_run hr _ _ rfl rfl)
theorem rE_cmp {op : CmpOp} {f : D → D → S → Res D} {r : L2.R2} (ho : OpR X (compareOp op) r) (hr : OpD X.K r f) (ha : PE X a (tE X.K cm W ma)) (hb : PE X b (tE X.K cm W mb)) (hm : behindInMarks op b = false) : PE X (.Compare a [op] [b] pos) (tE X.K cm W (e2 f ma mb)) :=
  conv_E (pe_cmpR ho ha hb hm) (e2_run hr _ _ rfl rfl)
theorem rE_ix {f : D → D → S → Res D} {r : L2.R2} (ho : IxR X r) (hr : OpD X.K r f) (ha : PE X a (tE X.K cm W ma)) (hb : PE X b (tE X.K cm W mb)) (hs : PlainIx b := by exact fun _ _ => rfl) : PE X (.Subscript a b pos) (tE X.K cm W (e2 f ma mb)) :=
  conv_E (pe_ix ho ha hb hs) (e2_run hr _ _ rfl rfl)
def UnD (K : PySem.W.Frag) (r : V → Hp → VK → Prop) (f : D → S → Res D) : Prop :=
  ∀ (cm : Str → Addr) (W : WX) (φ : List Addr) (H : Hp) (σ : L2.St) (st : S) (x : D) (v : V) (Q : VK), RepS K φ H st → RepV K φ H x v → AtG K cm W (RV K) φ H σ Q (f x st) → r v H Q
theorem rE_un {op : UnaryOp} {f : D → S → Res D} {r : V → Hp → VK → Prop} (ho : UnR X (unaryOp op) r) (hr : UnD X.K r f) (ha : PE X a (tE X.K cm W ma)) : PE X (.UnaryOp op a pos) (tE X.K cm W (e1 f ma)) := by
  refine conv_E (pe_un ho ha) fun σ H Q h => ?_
  obtain ⟨φ, ρ, st, hd, h⟩ := h
  refine tG_bind hd h fun x st1 φ1 H1 v e1 k1 hd1 r1 h1 => ?_
  exact hr cm W φ1 H1 σ st1 x v Q hd1.s r1 h1
/-- a built-in's call by data -/
def CallD (K : PySem.W.Frag) (r : List V → Hp → VK → Prop) (f : List D → S → Res D) : Prop :=
  ∀ (cm : Str → Addr) (W : WX) (φ : List Addr) (H : Hp) (σ : L2.St) (st : S) (xs : List D) (vs : List V) (Q : VK), RepS K φ H st → RepL K φ H xs vs → AtG K cm W (RV K) φ H σ Q (f xs st) → r vs H Q
def eCall (f : List D → S → Res D) (l : DA) : DE := fun ρ st => (l ρ st).bind f
theorem rE_callB {id : String} {p : Pos} {f : List D → S → Res D} {r : List V → Hp → VK → Prop} (hc : CallR X (.builtin id) r) (hr : CallD X.K r f) (hm : X.mg x = none) (hv : bootBuiltins x = some (.builtin id)) (ha : PA X (e :: es) (tA X.K cm W ml)) (hg : Gl X x := by rfl) (hn : x ≠ "__name__" := by decide) (hdb : (x == ("__debug__" : Str)) = false := by decide)
    (he : starEach (e :: es) X.env = (false, eval e X.env) :: starEach es X.env := by rfl) (hpl : (backTo pos (starEach es X.env)).any (·.1) = false := by rfl) : PE X (.Call (.Name x p) (e :: es) [] pos) (tE X.K cm W (eCall f ml)) := by
  refine conv_E (pe_callB hc hg hm hv ha hn hdb he hpl) fun σ H Q h => ?_
  obtain ⟨φ, ρ, st, hd, h⟩ := h
  refine tG_bind hd h fun xs st1 φ1 H1 vs e1 k1 hd1 r1 h1 => ?_
  exact hr cm W φ1 H1 σ st1 xs vs Q hd1.s r1 h1
theorem rE_callTy {T : String} {p : Pos} {f : List D → S → Res D} {r : List V → Hp → VK → Prop} (hc : CallR X (.type T) r) (hr : CallD X.K r f) (hm : X.mg x = none) (hv : bootBuiltins x = some (.type T)) (ha : PA X (e :: es) (tA X.K cm W ml)) (hg : Gl X x := by rfl) (hn : x ≠ "__name__" := by decide) (hdb : (x == ("__debug__" : Str)) = false := by decide)
    (he : starEach (e :: es) X.env = (false, eval e X.env) :: starEach es X.env := by rfl) (hpl : (backTo pos (starEach es X.env)).any (·.1) = false := by rfl) : PE X (.Call (.Name x p) (e :: es) [] pos) (tE X.K cm W (eCall f ml)) := by
  refine conv_E (pe_callTy hc hg hm hv ha hn hdb he hpl) fun σ H Q h => ?_
  obtain ⟨φ, ρ, st, hd, h⟩ := h
  refine tG_bind hd h fun xs st1 φ1 H1 vs e1 k1 hd1 r1 h1 => ?_
  exact hr cm W φ1 H1 σ st1 xs vs Q hd1.s r1 h1
end

/-! ### tests, and, or, not, if else -/
/-- a value that is a truth -/
def asB (x : D) (st : S) : Res Bool := match x with
  | .bl b => .ok b st
  | _ => .stuck
def tOf (m : DE) : DT := fun ρ st => (m ρ st).bind asB
def tNotD (m : DT) : DT := fun ρ st => (m ρ st).bind fun b st => .ok (!b) st
def tAndD (m n : DT) : DT := fun ρ st => (m ρ st).bind fun b st => if b = true then n ρ st else .ok false st
def tOrD (m n : DT) : DT := fun ρ st => (m ρ st).bind fun b st => if b = true then .ok true st else n ρ st
def eAnd (m n : DE) : DE := fun ρ st => (m ρ st).bind fun x st => (asB x st).bind fun b st => if b = true then n ρ st else .ok (.bl false) st
def eOr (m n : DE) : DE := fun ρ st => (m ρ st).bind fun x st => (asB x st).bind fun b st => if b = true then .ok (.bl true) st else n ρ st
def eNot (m : DE) : DE := fun ρ st => (m ρ st).bind fun x st => (asB x st).bind fun b st => .ok (.bl (!b)) st
def eIf (c : DT) (m n : DE) : DE := fun ρ st => (c ρ st).bind fun b st => if b = true then m ρ st else n ρ st
section
variable {X : Cx} {cm : Str → Addr} {W : WX} {e a b c : Expr} {es rest : List Expr} {ma mb m : DE} {ta tb tc : DT} {x : Str} {pos : Pos}
theorem asB_at {K : PySem.W.Frag} {φ : List Addr} {H : Hp} {σ : L2.St} {γ δ : Type} {R2 : List Addr → Hp → γ → δ → Prop} {Q2 : δ → Hp → Prop} {d : D} {v : V} {st : S} {k : Bool → S → Res γ} (r : RepV K φ H d v) (h : AtG K cm W R2 φ H σ Q2 ((asB d st).bind k)) : ∃ b, v = .bl b ∧ AtG K cm W R2 φ H σ Q2 (k b st) := by
  unfold asB at h
  split at h
  · rename_i b
    cases r
    exact ⟨b, rfl, h⟩
  · exact h.elim
theorem rT_val (h : PE X e (tE X.K cm W m)) (he : ∀ whole, isTrue e X.env whole = (do let v ← whole; standAt e.pos; holding [v] (truthy v)) := by intro _; rfl) : PT X e (tT X.K cm W (tOf m)) := by
  refine conv_T (pt_val h he) fun σ H Q h => ?_
  obtain ⟨φ, ρ, st, hd, h⟩ := h
  refine tG_bind hd h fun x st1 φ1 H1 v e1 k1 hd1 r1 h1 => ?_
  have h1' : AtG X.K cm W RB φ1 H1 σ Q ((asB x st1).bind fun b st => Res.ok b st) := by
    unfold asB at h1 ⊢
    split at h1
    · exact h1
    · exact h1
  obtain ⟨b, e, h2⟩ := asB_at r1 h1'
  exact ⟨b, e, AtG.here h2 hd1.s rfl⟩
theorem rT_cmp {op : CmpOp} {f : D → D → S → Res D} {r : L2.R2} (ho : OpR X (compareOp op) r) (hr : OpD X.K r f) (ha : PE X a (tE X.K cm W ma)) (hb : PE X b (tE X.K cm W mb)) (hm : behindInMarks op b = false) : PT X (.Compare a [op] [b] pos) (tT X.K cm W (tOf (e2 f ma mb))) := by
  refine conv_T (pt_cmpR ho ha hb hm) fun σ H Q h => ?_
  obtain ⟨φ, ρ, st, hd, h⟩ := h
  show tOp r _ _ σ H _
  refine e2_run hr _ _ rfl rfl σ H _ ⟨φ, ρ, st, hd, ?_⟩
  refine AtG.bind h fun x st1 φ1 H1 v e1 k1 s1 r1 h1 => ?_
  have h1' : AtG X.K cm W RB φ1 H1 σ Q ((asB x st1).bind fun b st => Res.ok b st) := by
    unfold asB at h1 ⊢
    split at h1
    · exact h1
    · exact h1
  obtain ⟨b, e, h2⟩ := asB_at r1 h1'
  exact ⟨b, e, AtG.here h2 s1 rfl⟩
theorem rT_not (ha : PT X a (tT X.K cm W ta)) : PT X (.UnaryOp .Not a pos) (tT X.K cm W (tNotD ta)) := by
  refine conv_T (pt_not ha) fun σ H Q h => ?_
  obtain ⟨φ, ρ, st, hd, h⟩ := h
  refine tG_bind hd h fun x st1 φ1 H1 v e1 k1 hd1 r1 h1 => ?_
  have r1' : x = v := r1
  subst r1'
  exact AtG.here h1 hd1.s rfl
theorem conv_W {t t' : TT} (h : PW X e t) (c : ∀ σ H Q, t' σ H Q → t σ H Q) : PW X e t' := ⟨fun w pins s σ H Q I q => h.run w pins s σ H Q I (c σ H Q q)⟩
theorem rW_and1 (ha : PT X a (tT X.K cm W ta)) : PW X (.BoolOp .And [a] pos) (tT X.K cm W ta) := pw_and1 ha
theorem rW_or1 (ha : PT X a (tT X.K cm W ta)) : PW X (.BoolOp .Or [a] pos) (tT X.K cm W ta) := pw_or1 ha
theorem rW_and (ha : PT X a (tT X.K cm W ta)) (hb : PW X (.BoolOp .And (b :: rest) pos) (tT X.K cm W tb)) : PW X (.BoolOp .And (a :: b :: rest) pos) (tT X.K cm W (tAndD ta tb)) := by
  refine conv_W (pw_and ha hb) fun σ H Q h => ?_
  obtain ⟨φ, ρ, st, hd, h⟩ := h
  refine tG_bind hd h fun x st1 φ1 H1 v e1 k1 hd1 r1 h1 => ?_
  have r1' : x = v := r1
  subst r1'
  cases x with
  | true => rw [if_pos rfl]; exact ⟨φ1, ρ, st1, hd1, h1⟩
  | false => rw [if_neg Bool.false_ne_true]; exact AtG.here (R := RB) h1 hd1.s rfl
theorem rW_or (ha : PT X a (tT X.K cm W ta)) (hb : PW X (.BoolOp .Or (b :: rest) pos) (tT X.K cm W tb)) : PW X (.BoolOp .Or (a :: b :: rest) pos) (tT X.K cm W (tOrD ta tb)) := by
  refine conv_W (pw_or ha hb) fun σ H Q h => ?_
  obtain ⟨φ, ρ, st, hd, h⟩ := h
  refine tG_bind hd h fun x st1 φ1 H1 v e1 k1 hd1 r1 h1 => ?_
  have r1' : x = v := r1
  subst r1'
  cases x with
  | true => rw [if_pos rfl]; exact AtG.here (R := RB) h1 hd1.s rfl
  | false => rw [if_neg Bool.false_ne_true]; exact ⟨φ1, ρ, st1, hd1, h1⟩
theorem rE_one {op} (ha : PE X a (tE X.K cm W ma)) : PE X (.BoolOp op [a] pos) (tE X.K cm W ma) := pe_one ha
theorem rE_and (ha : PE X a (tE X.K cm W ma)) (hb : PE X (.BoolOp .And (b :: rest) pos) (tE X.K cm W mb)) : PE X (.BoolOp .And (a :: b :: rest) pos) (tE X.K cm W (eAnd ma mb)) := by
  refine conv_E (pe_and ha hb) fun σ H Q h => ?_
  obtain ⟨φ, ρ, st, hd, h⟩ := h
  refine tG_bind hd h fun x st1 φ1 H1 v e1 k1 hd1 r1 h1 => ?_
  obtain ⟨k, e, h2⟩ := asB_at r1 h1
  refine ⟨k, e, ?_⟩
  cases k with
  | true => rw [if_pos rfl]; exact ⟨φ1, ρ, st1, hd1, h2⟩
  | false => rw [if_neg Bool.false_ne_true]; exact AtG.here (R := RV X.K) h2 hd1.s (.bl _)
theorem rE_or (ha : PE X a (tE X.K cm W ma)) (hb : PE X (.BoolOp .Or (b :: rest) pos) (tE X.K cm W mb)) : PE X (.BoolOp .Or (a :: b :: rest) pos) (tE X.K cm W (eOr ma mb)) := by
  refine conv_E (pe_or ha hb) fun σ H Q h => ?_
  obtain ⟨φ, ρ, st, hd, h⟩ := h
  refine tG_bind hd h fun x st1 φ1 H1 v e1 k1 hd1 r1 h1 => ?_
  obtain ⟨k, e, h2⟩ := asB_at r1 h1
  refine ⟨k, e, ?_⟩
  cases k with
  | true => rw [if_pos rfl]; exact AtG.here (R := RV X.K) h2 hd1.s (.bl _)
  | false => rw [if_neg Bool.false_ne_true]; exact ⟨φ1, ρ, st1, hd1, h2⟩
theorem rE_not (ha : PE X a (tE X.K cm W ma)) : PE X (.UnaryOp .Not a pos) (tE X.K cm W (eNot ma)) := by
  refine conv_E (pe_not ha) fun σ H Q h => ?_
  obtain ⟨φ, ρ, st, hd, h⟩ := h
  refine tG_bind hd h fun x st1 φ1 H1 v e1 k1 hd1 r1 h1 => ?_
  obtain ⟨k, e, h2⟩ := asB_at r1 h1
  exact ⟨k, e, AtG.here (R := RV X.K) h2 hd1.s (.bl _)⟩
theorem rE_if (hc : PT X c (tT X.K cm W tc)) (ha : PE X a (tE X.K cm W ma)) (hb : PE X b (tE X.K cm W mb)) : PE X (.IfExp c a b pos) (tE X.K cm W (eIf tc ma mb)) := by
  refine conv_E (pe_ifExp hc ha hb) fun σ H Q h => ?_
  obtain ⟨φ, ρ, st, hd, h⟩ := h
  refine tG_bind hd h fun x st1 φ1 H1 v e1 k1 hd1 r1 h1 => ?_
  have r1' : x = v := r1
  subst r1'
  cases x with
  | true => rw [if_pos rfl]; exact ⟨φ1, ρ, st1, hd1, h1⟩
  | false => rw [if_neg Bool.false_ne_true]; exact ⟨φ1, ρ, st1, hd1, h1⟩
end
end Rol

/-! Statements by functions of data. -/
namespace Rol
open PySem L2 PySem.Spec

inductive Out where
  | nx (ρ : Nv) (st : S) | rt (v : D) (st : S) | bk (ρ : Nv) (st : S) | ct (ρ : Nv) (st : S) | exc (c : Str) (w : D) (ρ : Nv) (st : S) | stuck
abbrev DS := Nv → S → Out
def Res.out {α : Type} (r : Res α) (ρ : Nv) (k : α → S → Out) : Out :=
  match r with
  | .ok a st => k a st
  | .exc c w st => .exc c w ρ st
  | .stuck => .stuck
@[simp] theorem Res.out_ok {α : Type} (a : α) (st : S) (ρ : Nv) (k : α → S → Out) : (Res.ok a st).out ρ k = k a st := rfl
@[simp] theorem Res.out_exc {α : Type} (c : Str) (w : D) (st : S) (ρ : Nv) (k : α → S → Out) : (Res.exc c w st : Res α).out ρ k = .exc c w ρ st := rfl
@[simp] theorem Res.out_stuck {α : Type} (ρ : Nv) (k : α → S → Out) : (Res.stuck : Res α).out ρ k = .stuck := rfl

section
variable (K : PySem.W.Frag) (cm : Str → Addr) (W : WX)
def AtS (E : Ends) (φ : List Addr) (H : Hp) : Out → Prop
  | .nx ρ st => ∀ φ' H' σ', Ext φ φ' → Kp H H' → Hd K φ' H' σ' ρ st → E.nx σ' H'
  | .rt v st => ∀ φ' H' v', Ext φ φ' → Kp H H' → RepS K φ' H' st → RepV K φ' H' v v' → E.rt v' H'
  | .bk ρ st => ∀ φ' H' σ', Ext φ φ' → Kp H H' → Hd K φ' H' σ' ρ st → E.bk σ' H'
  | .ct ρ st => ∀ φ' H' σ', Ext φ φ' → Kp H H' → Hd K φ' H' σ' ρ st → E.ct σ' H'
  | .exc c w ρ st => ∀ φ' H' σ' d w', Ext φ φ' → Kp H H' → Hd K φ' H' σ' ρ st → RepV K φ' H' w w' → H' d = some (.xd [(("what" : Str), w')]) → W (.ref (cm c)) (some d) σ' H'
  | .stuck => False
def tS (m : DS) : TS := fun E σ H => ∃ φ ρ st, Hd K φ H σ ρ st ∧ AtS K cm W E φ H (m ρ st)
end

section
variable {K : PySem.W.Frag} {cm : Str → Addr} {W : WX} {α β : Type} {R : List Addr → Hp → α → β → Prop}
  {φ φ' : List Addr} {H H' : Hp} {σ : L2.St} {ρ : Nv} {st : S} {Q : β → Hp → Prop} {E : Ends}
theorem AtS.mono {o : Out} (e : Ext φ φ') (k : Kp H H') (h : AtS K cm W E φ H o) : AtS K cm W E φ' H' o := by
  cases o with
  | nx ρ st => exact fun φ2 H2 b e2 k2 => h φ2 H2 b (e.trans e2) (k.trans k2)
  | rt ρ st => exact fun φ2 H2 b e2 k2 => h φ2 H2 b (e.trans e2) (k.trans k2)
  | bk ρ st => exact fun φ2 H2 b e2 k2 => h φ2 H2 b (e.trans e2) (k.trans k2)
  | ct ρ st => exact fun φ2 H2 b e2 k2 => h φ2 H2 b (e.trans e2) (k.trans k2)
  | exc c w ρ st => exact fun φ2 H2 b d w' e2 k2 => h φ2 H2 b d w' (e.trans e2) (k.trans k2)
  | stuck => exact h
theorem AtS.bind {m : Nv → S → Res α} {k : α → S → Out} (hd : Hd K φ H σ ρ st) (h : AtS K cm W E φ H ((m ρ st).out ρ k))
    (hk : ∀ a st' φ' H' b, Ext φ φ' → Kp H H' → Hd K φ' H' σ ρ st' → R φ' H' a b → AtS K cm W E φ' H' (k a st') → Q b H') : tG K cm W R m σ H Q := by
  refine ⟨φ, ρ, st, hd, ?_⟩
  cases e : m ρ st with
  | ok a st' =>
    rw [e] at h
    exact fun φ2 H2 b e2 k2 s2 r2 => hk a st' φ2 H2 b e2 k2 (hd.mono e2 k2 s2) r2 (AtS.mono e2 k2 h)
  | exc c w st' =>
    rw [e] at h
    exact fun φ2 H2 d w' e2 k2 s2 r2 hx => h φ2 H2 σ d w' e2 k2 (hd.mono e2 k2 s2) r2 hx
  | stuck =>
    rw [e] at h
    exact h
theorem AtS.next {ρ' : Nv} {st' : S} {σ' : L2.St} (h : AtS K cm W E φ H (.nx ρ' st')) (hd : Hd K φ H σ' ρ' st') : E.nx σ' H := h φ H σ' (Ext.refl _) (Kp.refl _) hd
end

def sSkip : DS := fun ρ st => .nx ρ st
def sSeq (m n : DS) : DS := fun ρ st => match m ρ st with
  | .nx ρ st => n ρ st
  | o => o
def sExpr (m : DE) : DS := fun ρ st => (m ρ st).out ρ fun _ st => .nx ρ st
def sRet (m : DE) : DS := fun ρ st => (m ρ st).out ρ fun v st => .rt v st
def sRetN : DS := fun _ st => .rt .non st
def sIf (c : DT) (m n : DS) : DS := fun ρ st => (c ρ st).out ρ fun b st => if b = true then m ρ st else n ρ st
def sBk : DS := fun ρ st => .bk ρ st
def sCt : DS := fun ρ st => .ct ρ st
def sNo : DS := fun _ _ => .stuck

/-- a target: a name, or names in a tuple -/
inductive Pat where
  | nm (i : Nat) | tp (ps : List Pat)
mutual
def setP : Pat → D → Nv → Option Nv
  | .nm i, d, ρ => some (ρ.set i (some d))
  | .tp ps, .tup xs, ρ => setPs ps xs ρ
  | .tp _, _, _ => none
def setPs : List Pat → List D → Nv → Option Nv
  | [], [], ρ => some ρ
  | p :: ps, x :: xs, ρ => (setP p x ρ).bind (setPs ps xs)
  | _, _, _ => none
end
mutual
def Pat.ids : Pat → List Nat
  | .nm i => [i]
  | .tp ps => Pat.idsAll ps
def Pat.idsAll : List Pat → List Nat
  | [] => []
  | p :: ps => p.ids ++ Pat.idsAll ps
end
/-- the slots of a target alone are changed -/
def Only (is : List Nat) (σ σ' : L2.St) : Prop := σ'.length = σ.length ∧ ∀ j, j ∉ is → σ'[j]? = σ[j]?
def PatOk (K : PySem.W.Frag) (p : Pat) (g : TG) : Prop := ∀ φ H σ ρ st d v ρ' (Q : L2.St → Hp → Prop), Hd K φ H σ ρ st → RepV K φ H d v → setP p d ρ = some ρ' →
  (∀ σ', Only p.ids σ σ' → Hd K φ H σ' ρ' st → Q σ' H) → g v σ H Q
def PatsOk (K : PySem.W.Frag) (ps : List Pat) (g : TGs) : Prop := ∀ φ H σ ρ st ds vs ρ' (Q : L2.St → Hp → Prop), Hd K φ H σ ρ st → RepL K φ H ds vs → setPs ps ds ρ = some ρ' →
  (∀ σ', Only (Pat.idsAll ps) σ σ' → Hd K φ H σ' ρ' st → Q σ' H) → g vs σ H Q
mutual
def gOf (K : PySem.W.Frag) : Pat → TG
  | .nm i => gName i
  | .tp ps => gTup K ps.length (gsOf K ps)
def gsOf (K : PySem.W.Frag) : List Pat → TGs
  | [] => gNil
  | p :: ps => gCons (gOf K p) (gsOf K ps)
end
def JG (X : Cx) (tg : Expr) (p : Pat) : Prop := PG X tg (gOf X.K p)
def JGs (X : Cx) (tgs : List Expr) (ps : List Pat) : Prop := PGs X tgs (gsOf X.K ps)
theorem Only.refl (is : List Nat) (σ : L2.St) : L2.St → Rol.Only is σ σ := fun _ => ⟨rfl, fun _ _ => rfl⟩
theorem Only.trans {is js : List Nat} {σ σ1 σ2 : L2.St} (a : Rol.Only is σ σ1) (b : Rol.Only js σ1 σ2) : Rol.Only (is ++ js) σ σ2 :=
  ⟨b.1.trans a.1, fun j h => by
    rw [List.mem_append, not_or] at h
    exact (b.2 j h.2).trans (a.2 j h.1)⟩
theorem gName_ok {K : PySem.W.Frag} (i : Nat) : PatOk K (.nm i) (gName i) := fun φ H σ ρ st d v ρ' Q hd r e h => by
  cases e
  exact h _ ⟨by rw [List.length_set], fun j hj => List.getElem?_set_ne fun z => hj (by rw [z]; exact List.mem_singleton.mpr rfl)⟩ ⟨hd.s, hd.e.set r i⟩
theorem RepL.nil_inv {K : PySem.W.Frag} {φ : List Addr} {H : Hp} {vs : List V} (h : RepL K φ H [] vs) : vs = [] := by
  cases h
  rfl
theorem setPs_length : ∀ {ps : List Pat} {ds : List D} {ρ ρ' : Nv}, setPs ps ds ρ = some ρ' → ds.length = ps.length
  | [], [], _, _, _ => rfl
  | [], _ :: _, _, _, h => by simp [setPs] at h
  | _ :: _, [], _, _, h => by simp [setPs] at h
  | p :: ps, d :: ds, ρ, ρ', h => by
    rw [setPs] at h
    cases e : setP p d ρ with
    | none =>
      rw [e] at h
      cases h
    | some ρ1 =>
      rw [e] at h
      rw [List.length_cons, List.length_cons, setPs_length (ps := ps) (ds := ds) (ρ := ρ1) h]

mutual
theorem gOf_ok {K : PySem.W.Frag} : ∀ p : Pat, PatOk K p (gOf K p)
  | .nm i => gName_ok i
  | .tp ps => fun φ H σ ρ st d v ρ' Q hd r e h => by
    cases r with
    | tup s r2 =>
      rename_i a xs vs
      rw [setP] at e
      exact ⟨a, vs, rfl, s, by rw [← r2.length, setPs_length e], gsOf_ok ps φ H σ ρ st xs vs ρ' Q hd r2 e h⟩
    | _ => simp [setP] at e
theorem gsOf_ok {K : PySem.W.Frag} : ∀ ps : List Pat, PatsOk K ps (gsOf K ps)
  | [] => fun φ H σ ρ st ds vs ρ' Q hd r e h => by
    have hds : ds = [] := List.length_eq_zero_iff.mp (setPs_length e)
    subst hds
    cases e
    exact ⟨r.nil_inv, h σ (Rol.Only.refl _ σ σ) hd⟩
  | p :: ps => fun φ H σ ρ st ds vs ρ' Q hd r e h => by
    cases r with
    | nil => simp [setPs] at e
    | cons r1 r2 =>
      rename_i d ds v vs
      rw [setPs] at e
      cases e1 : setP p d ρ with
      | none =>
        rw [e1] at e
        cases e
      | some ρ1 =>
        rw [e1] at e
        refine ⟨v, vs, rfl, ?_⟩
        refine gOf_ok p φ H σ ρ st d v ρ1 _ hd r1 e1 fun σ1 o1 hd1 => ?_
        exact gsOf_ok ps φ H σ1 ρ1 st ds vs ρ' _ hd1 r2 e fun σ2 o2 hd2 => h σ2 (o1.trans o2) hd2
end

section
variable {X : Cx} {cm : Str → Addr} {W : WX} {e : Expr} {es : List Expr} {m mo mi : DE} {tc : DT} {ms mt : DS} {x : Str} {pos : Pos} {s : Stmt} {ss rest : List Stmt} {p : Pat} {ps : List Pat}
theorem rG_nm (i : Nat) (hN : X.N.Nodup) (hi : X.N[i]? = some x := by rfl) (hx : Loc X.env.scope x := by first | exact Or.inl rfl | exact Or.inr rfl) (hf : X.fn x = true ∨ X.env.scope.names.lookup x = some .local := by first | exact .inl rfl | exact .inr rfl | assumption) : JG X (.Name x pos) (.nm i) := pg_name hN hi hx hf
theorem rG_nil : JGs X [] [] := pgs_nil
theorem rG_cons (h1 : JG X e p) (h2 : JGs X es ps) (hs : (assignEach (e :: es) X.env).map (·.2) = assign e X.env :: (assignEach es X.env).map (·.2) := by rfl) : JGs X (e :: es) (p :: ps) := pgs_cons h1 h2 hs
theorem rG_tup {k : Nat} (hc : X.calm = true) (h : JGs X es ps) (hn : (assignEach es X.env).length = ps.length := by rfl) (hst : (assignEach es X.env).findIdx? (·.1) = none := by rfl) : JG X (.Tuple es k pos) (.tp ps) := pg_tup hc h hn hst
theorem rSs_nil : PSs X [] (tS X.K cm W sSkip) := by
  refine conv_Ss pss_nil fun E σ H h => ?_
  obtain ⟨φ, ρ, st, hd, h⟩ := h
  exact h.next hd
theorem rSs_cons (h1 : PS X s (tS X.K cm W ms)) (h2 : PSs X rest (tS X.K cm W mt)) : PSs X (s :: rest) (tS X.K cm W (sSeq ms mt)) := by
  refine conv_Ss (pss_cons h1 h2) fun E σ H h => ?_
  obtain ⟨φ, ρ, st, hd, h⟩ := h
  refine ⟨φ, ρ, st, hd, ?_⟩
  unfold sSeq at h
  cases e : ms ρ st with
  | nx ρ1 st1 =>
    rw [e] at h
    exact fun φ2 H2 σ2 e2 k2 hd2 => ⟨φ2, ρ1, st1, hd2, AtS.mono e2 k2 h⟩
  | rt v st => rw [e] at h; exact h
  | bk ρ st => rw [e] at h; exact h
  | ct ρ st => rw [e] at h; exact h
  | exc c w ρ st => rw [e] at h; exact h
  | stuck => rw [e] at h; exact h
theorem rSs_one (h1 : PS X s (tS X.K cm W ms)) : PSs X [s] (tS X.K cm W ms) := pss_one h1
theorem rS_pass : PS X (.Pass pos) (tS X.K cm W sSkip) := by
  refine conv_S ps_pass fun E σ H h => ?_
  obtain ⟨φ, ρ, st, hd, h⟩ := h
  exact h.next hd
theorem rS_break : PS X (.Break pos) (tS X.K cm W sBk) := by
  refine conv_S ps_break fun E σ H h => ?_
  obtain ⟨φ, ρ, st, hd, h⟩ := h
  exact h φ H σ (Ext.refl _) (Kp.refl _) hd
theorem rS_continue : PS X (.Continue pos) (tS X.K cm W sCt) := by
  refine conv_S ps_continue fun E σ H h => ?_
  obtain ⟨φ, ρ, st, hd, h⟩ := h
  exact h φ H σ (Ext.refl _) (Kp.refl _) hd
theorem rS_no : PS X s (tS X.K cm W sNo) := by
  refine conv_S ps_never fun E σ H h => ?_
  obtain ⟨φ, ρ, st, hd, h⟩ := h
  exact h
theorem rS_expr (he : PE X e (tE X.K cm W m)) (hs : swapsWith e none pos.line X.env = pure false := by rfl) : PS X (.Expr e pos) (tS X.K cm W (sExpr m)) := by
  refine conv_S (ps_expr he hs) fun E σ H h => ?_
  obtain ⟨φ, ρ, st, hd, h⟩ := h
  exact AtS.bind hd h fun v st1 φ1 H1 b e1 k1 hd1 r1 h1 => h1.next hd1
theorem rS_ret (he : PE X e (tE X.K cm W m)) : PS X (.Return (some e) pos) (tS X.K cm W (sRet m)) := by
  refine conv_S (ps_ret he) fun E σ H h => ?_
  obtain ⟨φ, ρ, st, hd, h⟩ := h
  exact AtS.bind hd h fun v st1 φ1 H1 b e1 k1 hd1 r1 h1 => h1 φ1 H1 b (Ext.refl _) (Kp.refl _) hd1.s r1
theorem rS_retN : PS X (.Return none pos) (tS X.K cm W sRetN) := by
  refine conv_S ps_retN fun E σ H h => ?_
  obtain ⟨φ, ρ, st, hd, h⟩ := h
  exact h φ H .non (Ext.refl _) (Kp.refl _) hd.s .non
theorem rS_if {c : Expr} {a b : List Stmt} (hc : PT X c (tT X.K cm W tc)) (ha : PSs X a (tS X.K cm W ms)) (hb : PSs X b (tS X.K cm W mt)) : PS X (.If c a b pos) (tS X.K cm W (sIf tc ms mt)) := by
  refine conv_S (ps_if hc ha hb) fun E σ H h => ?_
  obtain ⟨φ, ρ, st, hd, h⟩ := h
  refine AtS.bind hd h fun x st1 φ1 H1 b e1 k1 hd1 r1 h1 => ?_
  have r1' : x = b := r1
  subst r1'
  cases x with
  | true => rw [if_pos rfl]; exact ⟨φ1, ρ, st1, hd1, h1⟩
  | false => rw [if_neg Bool.false_ne_true]; exact ⟨φ1, ρ, st1, hd1, h1⟩
end

def sAsg (p : Pat) (m : DE) : DS := fun ρ st => (m ρ st).out ρ fun v st => match setP p v ρ with
  | some ρ' => .nx ρ' st
  | none => .stuck
def sSet (i : Nat) (m : DE) : DS := fun ρ st => (m ρ st).out ρ fun v st => .nx (ρ.set i (some v)) st
/-- o[i] = v -/
def SetD (K : PySem.W.Frag) (r : TSet) (f : D → D → D → S → Option S) : Prop :=
  ∀ (φ : List Addr) (H : Hp) (st st' : S) (o i v : D) (o' i' v' : V) (Q : Hp → Prop), RepS K φ H st → RepV K φ H o o' → RepV K φ H i i' → RepV K φ H v v' → f o i v st = some st' →
    (∀ H', Kp H H' → RepS K φ H' st' → Q H') → r o' i' v' H Q
def sSub (f : D → D → D → S → Option S) (mo mi m : DE) : DS := fun ρ st => (m ρ st).out ρ fun v st => (mo ρ st).out ρ fun o st => (mi ρ st).out ρ fun i st => match f o i v st with
  | some st' => .nx ρ st'
  | none => .stuck
/-- x op= e -/
def sAug (i : Nat) (f : D → D → S → Res D) (m : DE) : DS := fun ρ st => match ρ[i]? with
  | some (some x) => (m ρ st).out ρ fun y st => (f x y st).out ρ fun z st => .nx (ρ.set i (some z)) st
  | _ => .stuck
section
variable {X : Cx} {cm : Str → Addr} {W : WX} {e o ie : Expr} {es : List Expr} {m mo mi : DE} {x : Str} {pos pos' tpos : Pos} {p : Pat}
theorem rS_set (i : Nat) (hN : X.N.Nodup) (he : PE X e (tE X.K cm W m)) (hi : X.N[i]? = some x := by rfl) (hx : Loc X.env.scope x := by first | exact Or.inl rfl | exact Or.inr rfl) (hs : swapsWith e (some (.Name x pos')) pos.line X.env = pure false := by rfl) (hf : X.fn x = true ∨ X.env.scope.names.lookup x = some .local := by first | exact .inl rfl | exact .inr rfl | assumption) :
    PS X (.Assign [.Name x pos'] e pos) (tS X.K cm W (sSet i m)) := by
  refine conv_S (ps_set hN hi hx he hs hf) fun E σ H h => ?_
  obtain ⟨φ, ρ, st, hd, h⟩ := h
  refine AtS.bind hd h fun x st1 φ1 H1 b e1 k1 hd1 r1 h1 => ?_
  exact h1.next ⟨hd1.s, hd1.e.set r1 i⟩
theorem rS_asg {tg : Expr} (he : PE X e (tE X.K cm W m)) (hg : JG X tg p) (hs : swapsWithSole [tg] e pos.line X.env = pure false := by rfl) (hw : swappedStores [tg] e X.env = pure none := by rfl)
    (h1 : (assignEach [tg] X.env).map (·.2) = [assign tg X.env] := by rfl) : PS X (.Assign [tg] e pos) (tS X.K cm W (sAsg p m)) := by
  refine conv_S (ps_asg he hg hs hw h1) fun E σ H h => ?_
  obtain ⟨φ, ρ, st, hd, h⟩ := h
  refine AtS.bind hd h fun d st1 φ1 H1 v e1 k1 hd1 r1 h1 => ?_
  cases e2 : setP p d ρ with
  | none =>
    rw [e2] at h1
    exact h1.elim
  | some ρ' =>
    rw [e2] at h1
    exact gOf_ok p φ1 H1 σ ρ st1 d v ρ' _ hd1 r1 e2 fun σ' _ hd' => h1.next hd'
theorem rS_sub {r : TSet} {f : D → D → D → S → Option S} (hset : PSet X r) (hf : SetD X.K r f) (he : PE X e (tE X.K cm W m)) (ho : PE X o (tE X.K cm W mo)) (hi : PE X ie (tE X.K cm W mi))
    (ha : ∀ v, assign (.Subscript o ie tpos) X.env v = (do
      let ov ← holding [v] (eval o X.env)
      let iv ← holding [v, ov] (eval ie X.env)
      standAt tpos
      holding [v, ov, iv] (setItem ov iv v)
      release [v, ov, iv] []) := by intro _; rfl)
    (hs : swapsWithSole [.Subscript o ie tpos] e pos.line X.env = pure false := by rfl) (hw : swappedStores [.Subscript o ie tpos] e X.env = pure none := by rfl)
    (h1 : (assignEach [.Subscript o ie tpos] X.env).map (·.2) = [assign (.Subscript o ie tpos) X.env] := by rfl) : PS X (.Assign [.Subscript o ie tpos] e pos) (tS X.K cm W (sSub f mo mi m)) := by
  refine conv_S (ps_asg he (pg_sub ho hi hset ha) hs hw h1) fun E σ H h => ?_
  obtain ⟨φ, ρ, st, hd, h⟩ := h
  refine AtS.bind hd h fun d st1 φ1 H1 v e1 k1 hd1 r1 h1 => ?_
  refine AtS.bind hd1 h1 fun od st2 φ2 H2 ov e2 k2 hd2 r2 h2 => ?_
  refine AtS.bind hd2 h2 fun id st3 φ3 H3 iv e3 k3 hd3 r3 h3 => ?_
  cases e4 : f od id d st3 with
  | none =>
    rw [e4] at h3
    exact h3.elim
  | some st4 =>
    rw [e4] at h3
    exact hf φ3 H3 st3 st4 od id d ov iv v _ hd3.s (r2.mono e3 k3) r3 (r1.mono (e2.trans e3) (k2.trans k3)) e4 fun H' k' s' => h3 φ3 H' σ (Ext.refl _) k' (hd3.mono (Ext.refl _) k' s')
theorem rS_aug (i : Nat) {op : Operator} {ti : TIp} {f : D → D → S → Res D} (hN : X.N.Nodup) (ho : PIp X op ti) (hr : OpD X.K ti f) (he : PE X e (tE X.K cm W m)) (hi : X.N[i]? = some x := by rfl) (hx : Loc X.env.scope x := by first | exact Or.inl rfl | exact Or.inr rfl)
    (hf : X.fn x = true ∨ X.env.scope.names.lookup x = some .local := by first | exact .inl rfl | exact .inr rfl | assumption) : PS X (.AugAssign (.Name x pos') op e pos) (tS X.K cm W (sAug i f m)) := by
  refine conv_S (ps_aug hN hi hx he ho hf) fun E σ H h => ?_
  obtain ⟨φ, ρ, st, hd, h⟩ := h
  unfold sAug at h
  split at h
  · rename_i x q
    obtain ⟨v, h1, h2⟩ := hd.e.2 i x q
    refine ⟨v, h1, ?_⟩
    refine AtS.bind hd h fun y st1 φ1 H1 w e1 k1 hd1 r1 h1 => ?_
    refine hr cm (fun c d σ H => W c d σ H) φ1 H1 σ st1 x y v w _ hd1.s (h2.mono e1 k1) r1 ?_
    cases e2 : f x y st1 with
    | ok z st2 =>
      rw [e2] at h1
      exact fun φ2 H2 b e3 k3 s3 r3 => h1 φ2 H2 _ e3 k3 ⟨s3, (hd1.e.mono e3 k3).set r3 i⟩
    | exc c w st2 =>
      rw [e2] at h1
      exact fun φ2 H2 d w' e3 k3 s3 r3 hx => h1 φ2 H2 σ d w' e3 k3 (hd1.mono e3 k3 s3) r3 hx
    | stuck =>
      rw [e2] at h1
      exact h1.elim
  · exact h.elim
end

/-! ### for -/
/-- the items of a list at a place -/
def itemsAt (st : S) (k : Nat) : Option (List D) := match st[k]? with
  | some (.lst xs) => some xs
  | some (.src xs) => some xs
  | _ => none
def Gd (g : Option Nat) (xs : List D) (st : S) : Prop := match g with
  | none => True
  | some k => itemsAt st k = some xs
structure ItOk (K : PySem.W.Frag) (φ₀ : List Addr) (H₀ : Hp) (xg : List D × Option Nat) (J : It) : Prop where
  stop : ∀ φ H st i, Ext φ₀ φ → Kp H₀ H → RepS K φ H st → Gd xg.2 xg.1 st → xg.1.length ≤ i → J.stop i H
  go : ∀ φ H st i, Ext φ₀ φ → Kp H₀ H → RepS K φ H st → Gd xg.2 xg.1 st → i < xg.1.length → J.go i H
  yld : ∀ φ H st i v H' x, Ext φ₀ φ → Kp H₀ H → RepS K φ H st → Gd xg.2 xg.1 st → xg.1[i]? = some x → J.yld i H v H' → Kp H H' ∧ RepS K φ H' st ∧ RepV K φ H' x v
abbrev DI := Nv → S → Res (List D × Option Nat)
abbrev tI (K : PySem.W.Frag) (cm : Str → Addr) (W : WX) (m : DI) : TI := tG K cm W (ItOk K) m
open Classical in
noncomputable def forL (gd : S → Prop) (p : Pat) (body : DS) : List D → DS
  | [], ρ, st => if gd st then .nx ρ st else .stuck
  | x :: xs, ρ, st => if gd st then (match setP p x ρ with
    | none => .stuck
    | some ρ' => match body ρ' st with
      | .nx ρ st => forL gd p body xs ρ st
      | .ct ρ st => forL gd p body xs ρ st
      | .bk ρ st => .nx ρ st
      | o => o) else .stuck
noncomputable def sFor (mi : DI) (p : Pat) (body : DS) : DS := fun ρ st => (mi ρ st).out ρ fun xg st => forL (Gd xg.2 xg.1) p body xg.1 ρ st
section
variable {X : Cx} {cm : Str → Addr} {W : WX} {tg it : Expr} {body : List Stmt} {mi : DI} {mb : DS} {p : Pat} {pos : Pos}
theorem rS_for (hp : PassesOwn (model X.prog X.w) X.A X.env X.xe) (hc : X.calm = true) (hi : PI X tg it (tI X.K cm W mi)) (hg : JG X tg p) (hb : PSs X body (tS X.K cm W mb)) (hs : ∀ x, foldedSetIterable it X.env x = pure x := by intro _; rfl) :
    PS X (.For tg it body [] pos) (tS X.K cm W (sFor mi p mb)) := by
  refine conv_S (ps_for hp hc hi hg hb hs) fun E σ H h => ?_
  obtain ⟨φ, ρ, st, hd, h⟩ := h
  refine AtS.bind hd h fun xg st1 φ1 H1 J e1 k1 hd1 r1 h1 => ?_
  obtain ⟨xs, gu⟩ := xg
  refine ⟨fun i m σ' H' => m = xs.length - i ∧ i ≤ xs.length ∧ ∃ φ' ρ' st', Ext φ1 φ' ∧ Kp H1 H' ∧ Hd X.K φ' H' σ' ρ' st' ∧ AtS X.K cm W E φ' H' (forL (Gd gu xs) p mb (xs.drop i) ρ' st'),
    ⟨xs.length, by simp, Nat.zero_le _, φ1, ρ, st1, Ext.refl _, Kp.refl _, hd1, h1⟩, ?_⟩
  rintro i n σ2 H2 ⟨rfl, hi, φ2, ρ2, st2, e2, k2, hd2, h2⟩
  by_cases hlt : i < xs.length
  · rw [List.drop_eq_getElem_cons hlt] at h2
    unfold forL at h2
    split at h2
    · rename_i gd
      refine .inr ⟨r1.go φ2 H2 st2 i e2 k2 hd2.s gd hlt, fun σ' H' => i + 1 ≤ xs.length ∧ ∃ φ' ρ' st', Ext φ1 φ' ∧ Kp H1 H' ∧ Hd X.K φ' H' σ' ρ' st' ∧ AtS X.K cm W E φ' H' (forL (Gd gu xs) p mb (xs.drop (i + 1)) ρ' st'),
        fun σ' H' ⟨l', q'⟩ => ⟨xs.length - (i + 1), by omega, rfl, l', q'⟩, fun v H3 y => ?_⟩
      obtain ⟨k3, s3, r3⟩ := r1.yld φ2 H2 st2 i v H3 xs[i] e2 k2 hd2.s gd (by simp [hlt]) y
      cases e4 : setP p xs[i] ρ2 with
      | none =>
        rw [e4] at h2
        exact h2.elim
      | some ρ3 =>
        rw [e4] at h2
        dsimp only at h2
        refine gOf_ok p φ2 H3 σ2 ρ2 st2 xs[i] v ρ3 _ (hd2.mono (Ext.refl _) k3 s3) r3 e4 fun σ3 _ hd3 => ?_
        refine ⟨φ2, ρ3, st2, hd3, ?_⟩
        have h3 := AtS.mono (Ext.refl _) k3 h2
        cases eo : mb ρ3 st2 with
        | nx ρ5 st5 =>
          rw [eo] at h3
          exact fun φ6 H6 σ6 e6 k6 hd6 => ⟨hlt, φ6, ρ5, st5, e2.trans e6, (k2.trans k3).trans k6, hd6, AtS.mono e6 k6 h3⟩
        | ct ρ5 st5 =>
          rw [eo] at h3
          exact fun φ6 H6 σ6 e6 k6 hd6 => ⟨hlt, φ6, ρ5, st5, e2.trans e6, (k2.trans k3).trans k6, hd6, AtS.mono e6 k6 h3⟩
        | bk ρ5 st5 => rw [eo] at h3; exact h3
        | rt v5 st5 => rw [eo] at h3; exact h3
        | exc c w ρ5 st5 => rw [eo] at h3; exact h3
        | stuck => rw [eo] at h3; exact h3
    · exact h2.elim
  · have hi' : i = xs.length := by omega
    subst hi'
    rw [List.drop_length] at h2
    unfold forL at h2
    split at h2
    · rename_i gd
      exact .inl ⟨r1.stop φ2 H2 st2 _ e2 k2 hd2.s gd (Nat.le_refl _), h2.next hd2⟩
    · exact h2.elim
end
end Rol

/-! Defs: a promise by a function of data, where no built-in's display is under way. -/
namespace Rol
open PySem L2 PySem.Spec
open PyProof.Rows hiding St

/-- as FnOk, called where no display of an object is under way -/
structure FnG (P : Program) (w : World) (K : PySem.W.Frag) (mg : Str → Option Value) (base : Heap) (k : Nat) (f : Addr) (fd : FuncData) (ps : List Str) (sp : Sp) : Prop where
  ar : ∀ vs H Q E, sp vs H Q E → vs.length = ps.length
  go : ∀ (A : Around) (fr : List PySem.Env) (s : Shared) (H : Hp) (ag : Args) (us : List Value) (vs : List V) (Q : VK) (E : XK), A.guards = some [] → Room k A → Env0 P w K mg base A fr s H →
    BindsTo s fd ag (ps.zip us) → Vals vs us → sp vs H Q E → codeAny (model P w) A (.call (.ref f) ag) (CR (L2.CX P w) fr P w H s Q E) s
theorem FnG.mono {P : Program} {w : World} {K : PySem.W.Frag} {mg : Str → Option Value} {base : Heap} {j k : Nat} {f : Addr} {fd : FuncData} {ps : List Str} {sp : Sp} (F : FnG P w K mg base j f fd ps sp) (h : j ≤ k) : FnG P w K mg base k f fd ps sp :=
  ⟨F.ar, fun A fr s H ag us vs Q E hg hr => F.go A fr s H ag us vs Q E hg (hr.mono h)⟩

theorem fnG_of {P : Program} {w : World} {K : PySem.W.Frag} {mg : Str → Option Value} {base : Heap} {k : Nat} {f : Addr} {x qual : Str} {st : Stmt} {fd : FuncData} {N ps : List Str} {sp : Sp} (F : Fun K x qual st f fd) (Sc : FnScope N ps (defScope st))
    (ar : ∀ vs H Q E, sp vs H Q E → vs.length = ps.length)
    (body : ∀ (cdv : Value) (A : Around) (fr : List PySem.Env) (s : Shared) (H : Hp) (vs : List V) (Q : VK) (E : XK), A.guards = some [] → Room k (A.deeper (envOfC qual (defScope st) s.heap.objs.size f cdv)) → sp vs H Q E →
      ∃ t, PSs (cxOf (L2.CX P w) P w K mg base N qual (defScope st) f cdv A fr s H E) (defBody st) t ∧ t { nx := fun _ H' => Q .non H', rt := Q } (L2.start N vs) H) : FnG P w K mg base (k + 1) f fd ps sp := by
  obtain ⟨oc, od, kV, doc, pm, an, cdv, ct, osl, rfl, lk, hcd⟩ := F.ex
  constructor
  · exact ar
  intro A fr s H ag us vs Q E hg room e0 bd rl hsp
  have n1 := ar _ _ _ _ hsp
  have inK : K.In s.heap := e0.mod.kin.keeps (fun b o q => (e0.bs b o q).1)
  have noL : s.heap.NoLimit := e0.mod.nolimit.keeps (fun b o q => (e0.bs b o q).1)
  have kinds : ∀ y ∈ ps.zip us, (defScope st).names.lookup y.1 = some .local ∨ ((defScope st).names.lookup y.1 = some .cell ∧ ((cellsFrom (s.heap.objs.size + 1) (defScope st).names []).lookup y.1).isSome = true) := by
    rintro ⟨nm, v⟩ hy
    cases Sc.par nm (List.of_mem_zip hy).1 with
    | inl q => exact Or.inl q
    | inr q => exact Or.inr ⟨q, PySem.W.cellsFrom_some _ _ _ (Or.inl q)⟩
  apply codeAny_call_function room.depth (inK _ _ lk) rfl Sc.co Sc.gen rfl (PySem.W.codeRec_of inK hcd)
  apply bd
  apply wpAny_newFunctionEnv_cells Sc.kind kinds
  intro env he s1 ic
  subst he
  constructor
  · exact noL.keeps ic.toInCall.keep
  apply codeAny_func
  obtain ⟨t, ht, hq⟩ := body cdv A fr s H vs Q E hg (room.deeper _) hsp
  have J : Inv (cxOf (L2.CX P w) P w K mg base N qual (defScope st) f cdv A fr s H E) [] (L2.start N vs) H s1 := inv_start Sc room.hd e0 n1 rl ic
  apply wpAny_mono (ht.run [] s1 (L2.start N vs) H _ J hq)
  · intro fl s' hs
    cases fl with
    | ret u =>
      obtain ⟨v, σ', H', J', rv, q⟩ := hs
      exact ⟨v, H', J'.os, J'.bare, J'.base, J'.hok, rv, q⟩
    | next =>
      obtain ⟨σ', H', J', q⟩ := hs
      exact ⟨.non, H', J'.os, J'.bare, J'.base, J'.hok, rfl, q⟩
    | brk => obtain ⟨_, _, _, q⟩ := hs; exact False.elim q
    | cont => obtain ⟨_, _, _, q⟩ := hs; exact False.elim q
  · intro e s' q
    exact q

section
variable {X : Cx} {k : Nat} {f : Addr} {fd : FuncData} {ps ks : List Str} {sp : Sp} {W : WX} {x : Str} {p pos : Pos} {e : Expr} {es : List Expr} {kws : List Keyword} {t tk : TA}
theorem FnG.at (F : FnG X.prog X.w X.K X.mg X.base k f fd ps sp) (hg : X.A.guards = some []) (hr : Room k X.A) (tk : Takes X W) {pins : List (Addr × Obj)} {σ : L2.St} {H : Hp} {s : Shared} {Q : VK} {ag : List Value} {kw : List (Str × Value)} {us : List Value} {vs : List V}
    (hb : us.length = ps.length → BindsTo s fd ⟨ag, kw⟩ (ps.zip us)) (I : Inv X pins σ H s) (rl : Vals vs us) (h : sp vs H Q (WE W σ)) : wpAny (model X.prog X.w) X.A (call (.ref f) ag kw) (EP X pins σ Q) X.xe s := by
  have n1 : us.length = ps.length := rl.length.symm.trans (F.ar _ _ _ _ h)
  apply wpAny_call
  apply codeAny_mono (F.go X.A X.stack s H ⟨ag, kw⟩ us vs Q (WE W σ) hg hr I.env0 (hb n1) rl h)
  intro r s' hq
  cases r with
  | error e => exact passAt tk σ pins H s e s' I hq
  | ok fl =>
    cases fl with
    | ret u => exact I.after hq
    | _ => exact False.elim hq
theorem pe_callG (F : FnG X.prog X.w X.K X.mg X.base k f fd ps sp) (hG : X.A.guards = some []) (hr : Room k X.A) (hm : X.mg x = some (.ref f)) (hk : PySem.W.keepIn X.K (.ref f) = true) (hb : Binds X.K fd ps []) (tk : Takes X W) (ha : PA X (e :: es) t) (hg : Gl X x) (hdb : (x == ("__debug__" : Str)) = false)
    (he : starEach (e :: es) X.env = (false, eval e X.env) :: starEach es X.env) (hpl : (backTo pos (starEach es X.env)).any (·.1) = false) : PE X (.Call (.Name x p) (e :: es) [] pos) (tCallS sp (WE W) t) := by
  constructor
  intro pins s σ H Q I h
  apply wpAny_Call_Name_kw
  apply ld_glob I hg hm _ hdb
  apply PySem.W.callWith_K (h₀ := X.base) I.ok.mod.kin hk _ he hpl
  apply thn (ha.run pos pins s σ H _ I h)
  rintro us s1 ⟨vs, H1, I1, r, q⟩
  refine ⟨I1.kIn, F.at hG hr tk (kw := []) (fun hl => ?_) I1 r q⟩
  have b := hb s1 us I1.kIn (by rw [List.append_nil]; exact hl)
  rw [List.append_nil] at b
  exact b
theorem pe_callG0 (F : FnG X.prog X.w X.K X.mg X.base k f fd ps sp) (hG : X.A.guards = some []) (hr : Room k X.A) (hm : X.mg x = some (.ref f)) (hk : PySem.W.keepIn X.K (.ref f) = true) (hb : Binds X.K fd ps []) (tk : Takes X W) (hg : Gl X x) (hdb : (x == ("__debug__" : Str)) = false) :
    PE X (.Call (.Name x p) [] [] pos) (tCallS sp (WE W) tNil) := by
  constructor
  intro pins s σ H Q I h
  apply wpAny_Call_Name_kw
  apply ld_glob I hg hm _ hdb
  apply PySem.W.callWith_K0 I.kIn hk
  refine F.at hG hr tk (us := []) (kw := []) (fun hl => ?_) I .nil h
  have b := hb s [] I.kIn (by rw [List.append_nil]; exact hl)
  rw [List.append_nil] at b
  exact b
variable {g : List Value → List Value → List Value} {gV : List V → List V → List V}
def tCallKS (sp : Sp) (gV : List V → List V → List V) (E : L2.St → XK) (t tk : TA) : TE := fun σ H Q => t σ H fun vs H1 => tk σ H1 fun zs H2 => sp (gV vs zs) H2 Q (E σ)
/-- f(k = v, ..) and f(e, .., k = v, ..) -/
theorem pe_callKG (F : FnG X.prog X.w X.K X.mg X.base k f fd ps sp) (hG : X.A.guards = some []) (hr : Room k X.A) (hm : X.mg x = some (.ref f)) (hk : PySem.W.keepIn X.K (.ref f) = true) (hb : KBinds X.K fd ps ks g gV) (tk' : Takes X W) (ha : PA X (e :: es) t) (hkw : PK X kws tk) (hg : Gl X x)
    (hall : (backToKw pos (keywordEach kws X.env)).all (·.1.isSome) = true) (hks : (backToKw pos (keywordEach kws X.env)).filterMap (·.1) = ks) (hdb : (x == ("__debug__" : Str)) = false) (he : starEach (e :: es) X.env = (false, eval e X.env) :: starEach es X.env)
    (hpl : ((backTo pos (starEach (e :: es) X.env)).any (·.1) || (backToKw pos (keywordEach kws X.env)).any (·.1.isNone)) = false) : PE X (.Call (.Name x p) (e :: es) kws pos) (tCallKS sp gV (WE W) t tk) := by
  constructor
  intro pins s σ H Q I h
  apply wpAny_Call_Name_kw
  apply ld_glob I hg hm _ hdb
  refine PySem.W.callWith_KW (h₀ := X.base) I.ok.mod.kin hk hall (thn (ha.run pos pins s σ H _ I h) ?_) hpl he
  rintro us s1 ⟨vs, H1, I1, r, q⟩
  apply thn (hkw.run pos pins s1 σ H1 _ I1 q)
  rintro ws s2 ⟨zs, H2, I2, rz, q2⟩
  refine ⟨I2.kIn, ?_⟩
  rw [hks]
  exact F.at hG hr tk' (us := g us ws) (fun hl => hb.to s2 us ws I2.kIn hl) I2 (hb.rel r rz) q2
end

/-! ### promises by functions of data -/
abbrev Fn := List D → S → Res D
def spD (K : PySem.W.Frag) (cm : Str → Addr) (n : Nat) (m : Fn) : Sp := fun vs H Q E => vs.length = n ∧ ∃ φ xs st, RepS K φ H st ∧ RepL K φ H xs vs ∧ AtG K cm (fun c d _ H => E c d H) (RV K) φ H [] Q (m xs st)
/-- a body run at its parameters -/
def body (n : Nat) (m : DS) : Fn := fun xs st => match m (xs.map some ++ List.replicate (n - xs.length) none) st with
  | .nx _ st => .ok .non st
  | .rt v st => .ok v st
  | .exc c w _ st => .exc c w st
  | _ => .stuck
theorem RepE.start {K : PySem.W.Frag} {φ : List Addr} {H : Hp} {N : List Str} {xs : List D} {vs : List V} (r : RepL K φ H xs vs) : RepE K φ H (xs.map some ++ List.replicate (N.length - xs.length) none) (L2.start N vs) := by
  have hl := r.length
  refine ⟨by unfold L2.start; simp [hl], fun i d q => ?_⟩
  by_cases hi : i < xs.length
  · rw [List.getElem?_append_left (by simpa using hi)] at q
    rw [List.getElem?_map] at q
    cases e : xs[i]? with
    | none =>
      rw [e] at q
      cases q
    | some d' =>
      rw [e] at q
      cases q
      obtain ⟨v, h1, h2⟩ := r.get e
      refine ⟨v, ?_, h2⟩
      unfold L2.start
      rw [List.getElem?_append_left (by simp; omega), List.getElem?_map, h1]
      rfl
  · rw [List.getElem?_append_right (by simpa using hi)] at q
    rw [List.getElem?_replicate] at q
    split at q
    · cases q
    · cases q

/-- THE RULE: a def keeps the promise of its body's function -/
theorem fn_D {P : Program} {w : World} {K : PySem.W.Frag} {mg : Str → Option Value} {base : Heap} {k : Nat} {f : Addr} {x qual : Str} {st : Stmt} {fd : FuncData} {N ps : List Str} {cm : Str → Addr} {m : DS} (F : Fun K x qual st f fd) (Sc : FnScope N ps (defScope st))
    (h : ∀ (cdv : Value) (A : Around) (fr : List PySem.Env) (s : Shared) (H : Hp) (E : XK), A.guards = some [] → Room k (A.deeper (envOfC qual (defScope st) s.heap.objs.size f cdv)) →
      Takes (cxOf (L2.CX P w) P w K mg base N qual (defScope st) f cdv A fr s H E) (fun c d _ H => E c d H) →
      PassesOwn (model P w) (A.deeper (envOfC qual (defScope st) s.heap.objs.size f cdv)) (envOfC qual (defScope st) s.heap.objs.size f cdv) (cxOf (L2.CX P w) P w K mg base N qual (defScope st) f cdv A fr s H E).xe →
      PSs (cxOf (L2.CX P w) P w K mg base N qual (defScope st) f cdv A fr s H E) (defBody st) (tS K cm (fun c d _ H => E c d H) m)) : FnG P w K mg base (k + 1) f fd ps (spD K cm ps.length (body N.length m)) := by
  refine fnG_of F Sc (fun vs H Q E h => h.1) fun cdv A fr s H vs Q E hg hr hsp => ?_
  obtain ⟨hl, φ, xs, st0, rs, rl, q⟩ := hsp
  refine ⟨_, h cdv A fr s H E hg hr (takes_of rfl rfl rfl rfl) (passes_of (X := cxOf (L2.CX P w) P w K mg base N qual (defScope st) f cdv A fr s H E) (E₁ := fun e' s'' => L2.CX P w fr H s E e' s'') (K := fun e s'' => L2.CX P w fr H s E e s'') rfl), ?_⟩
  refine ⟨φ, _, st0, ⟨rs, RepE.start rl⟩, ?_⟩
  unfold body at q
  revert q
  generalize m (xs.map some ++ List.replicate (N.length - xs.length) none) st0 = o
  intro q
  cases o with
  | nx ρ st => exact fun φ' H' σ' e' k' hd' => q φ' H' .non e' k' hd'.s .non
  | rt v st => exact q
  | exc c w ρ st => exact fun φ' H' σ' d w' e' k' hd' r' hx => q φ' H' d w' e' k' hd'.s r' hx
  | bk ρ st => exact q.elim
  | ct ρ st => exact q.elim
  | stuck => exact q.elim

def eFn (m : Fn) (l : DA) : DE := fun ρ st => (l ρ st).bind m
def eFnK (m : Fn) (g : List D → List D → List D) (l lk : DA) : DE := fun ρ st => (l ρ st).bind fun xs st => (lk ρ st).bind fun ys st => m (g xs ys) st
section
variable {X : Cx} {cm : Str → Addr} {W : WX} {k : Nat} {f : Addr} {fd : FuncData} {ps ks : List Str} {x : Str} {p pos : Pos} {e : Expr} {es : List Expr} {kws : List Keyword} {ml mk : DA} {n : Nat} {m : Fn} {me : DE}
theorem spD_of {φ : List Addr} {H : Hp} {σ : L2.St} {st : S} {xs : List D} {vs : List V} {Q : VK} (s : RepS X.K φ H st) (r : RepL X.K φ H xs vs) (hn : vs.length = n) (h : AtG X.K cm W (RV X.K) φ H σ Q (m xs st)) : spD X.K cm n m vs H Q (WE W σ) := by
  refine ⟨hn, φ, xs, st, s, r, ?_⟩
  cases e : m xs st with
  | ok v st' => rw [e] at h; exact h
  | exc c w st' => rw [e] at h; exact h
  | stuck => rw [e] at h; exact h
theorem rE_fn (F : FnG X.prog X.w X.K X.mg X.base k f fd ps (spD X.K cm (es.length + 1) m)) (hG : X.A.guards = some []) (hr : Room k X.A) (hm : X.mg x = some (.ref f)) (hk : PySem.W.keepIn X.K (.ref f) = true) (hb : Binds X.K fd ps []) (tk : Takes X W) (ha : PA X (e :: es) (tA X.K cm W ml))
    (hlen : ∀ ρ st xs st', ml ρ st = .ok xs st' → xs.length = es.length + 1) (hg : Gl X x := by rfl) (hdb : (x == ("__debug__" : Str)) = false := by decide)
    (he : starEach (e :: es) X.env = (false, eval e X.env) :: starEach es X.env := by rfl) (hpl : (backTo pos (starEach es X.env)).any (·.1) = false := by rfl) : PE X (.Call (.Name x p) (e :: es) [] pos) (tE X.K cm W (eFn m ml)) := by
  refine conv_E (pe_callG F hG hr hm hk hb tk ha hg hdb he hpl) fun σ H Q h => ?_
  obtain ⟨φ, ρ, st, hd, h⟩ := h
  have h0 : ∀ r, ml ρ st = r → tG X.K cm W (RL X.K) ml σ H (fun vs H1 => spD X.K cm (es.length + 1) m vs H1 Q (WE W σ)) := fun r er => by
    refine ⟨φ, ρ, st, hd, ?_⟩
    unfold eFn at h
    rw [er] at h ⊢
    cases r with
    | ok xs st1 =>
      have n1 := hlen ρ st xs st1 er
      exact fun φ2 H2 vs e2 k2 s2 r2 => spD_of s2 r2 (by rw [← r2.length]; exact n1) (AtG.mono e2 k2 h)
    | exc c w st1 => exact h
    | stuck => exact h
  exact h0 _ rfl
theorem rE_fn0 (F : FnG X.prog X.w X.K X.mg X.base k f fd ps (spD X.K cm 0 m)) (hG : X.A.guards = some []) (hr : Room k X.A) (hm : X.mg x = some (.ref f)) (hk : PySem.W.keepIn X.K (.ref f) = true) (hb : Binds X.K fd ps []) (tk : Takes X W) (hg : Gl X x := by rfl) (hdb : (x == ("__debug__" : Str)) = false := by decide) :
    PE X (.Call (.Name x p) [] [] pos) (tE X.K cm W (eFn m aNil)) := by
  refine conv_E (pe_callG0 F hG hr hm hk hb tk hg hdb) fun σ H Q h => ?_
  obtain ⟨φ, ρ, st, hd, h⟩ := h
  exact spD_of hd.s .nil rfl h
theorem conv_K {X : Cx} {e : List Keyword} {t t' : TA} (h : PK X e t) (c : ∀ σ H Q, t' σ H Q → t σ H Q) : PK X e t' := ⟨fun ps pins s σ H Q I q => h.run ps pins s σ H Q I (c σ H Q q)⟩
theorem rK_nil : PK X [] (tA X.K cm W aNil) := by
  refine conv_K pk_nil fun σ H Q h => ?_
  obtain ⟨φ, ρ, st, hd, h⟩ := h
  exact AtG.here h hd.s .nil
theorem rK_cons {nm : Option Str} {kpos : Pos} (h1 : PE X e (tE X.K cm W me)) (h2 : PK X kws (tA X.K cm W mk)) : PK X (⟨nm, e, kpos⟩ :: kws) (tA X.K cm W (aCons me mk)) := by
  refine conv_K (pk_cons h1 h2) fun σ H Q h => ?_
  obtain ⟨φ, ρ, st, hd, h⟩ := h
  refine tG_bind hd h fun x st1 φ1 H1 v e1 k1 hd1 r1 h1 => ?_
  refine tG_bind hd1 h1 fun xs st2 φ2 H2 vs e2 k2 hd2 r2 h2 => ?_
  exact AtG.here h2 hd2.s (.cons (r1.mono e2 k2) r2)
end

/-! ### the end -/
theorem env_law {P : Program} {w : World} {K : PySem.W.Frag} {mg mb : Str → Option Value} {s : Shared} {a : Addr} {vs : List Value} {H : Hp} (inK : K.In s.heap) (ns : s.heap.Ns mainGlobals mg) (nb : s.heap.Ns builtinsNs mb) (bb : ∀ x : Str, x ≠ "__name__" → mb x = bootBuiltins x)
    (nl : s.heap.NoLimit) (hg : s.gens = #[]) (ha : s.heap.get? a = some { cls := .type "list", data := .seq vs.toArray }) (ok : HOk P w H s.heap) (only : ∀ b, H b ≠ none → b = a) (hK : H a ≠ none → K.lookup a = none) :
    K.In (hidT s.heap H) ∧ (hidT s.heap H).Ns mainGlobals mg ∧ Env0 P w K mg (hidT s.heap H) callerA [] s H := by
  have dictN : ∀ {b : Addr} {o : Obj} {es : Array DictEntry} {ep : Nat}, s.heap.get? b = some o → o.data = .dict es ep → H b = none := by
    intro b o es ep e d
    apply Classical.byContradiction
    intro q
    have e' := only b q
    subst e'
    rw [ha] at e
    cases e
    cases d
  have toN : ∀ {b : Addr} {m : Str → Option Value}, s.heap.Ns b m → (hidT s.heap H).Ns b m := by
    rintro b m ⟨o, es, ep, e, d, r⟩
    exact ⟨o, es, ep, hidT_get e (dictN e d), d, r⟩
  have toK : K.In (hidT s.heap H) := by
    intro b o e
    refine hidT_get (inK b o e) (Classical.byContradiction fun q => ?_)
    have e' := only b q
    subst e'
    rw [hK q] at e
    cases e
  refine ⟨toK, toN ns, rfl, ⟨toK, toN ns, ⟨mb, toN nb, bb⟩, ?_⟩, fun b o e => of_hidT e, Nat.le_of_eq (hidT_size _ _), trivial, ?_, ok, .of_eq hg⟩
  · obtain ⟨mc, h1, h2⟩ := nl
    exact ⟨mc, toN h1, h2⟩
  · intro b hb
    cases hb
/-- the law is called: its promise by data, at the store that holds the script alone -/
theorem law_G {P : Program} {w : World} {K : PySem.W.Frag} {mg mb : Str → Option Value} {cm : Str → Addr} {k : Nat} {fa a : Addr} {fd : FuncData} {x : Str} {m : Fn} {s : Shared} {vs : List Value} {ns : List Int} (inK : K.In s.heap) (nm : s.heap.Ns mainGlobals mg) (nb : s.heap.Ns builtinsNs mb)
    (bb : ∀ x : Str, x ≠ "__name__" → mb x = bootBuiltins x) (nl : s.heap.NoLimit) (hg : s.gens = #[]) (ha : s.heap.get? a = some { cls := .type "list", data := .seq vs.toArray }) (hi : IntsAre vs ns) (hl : ns.length ≤ sizeLine) (room : Room k callerA)
    (F : ∀ base : Heap, K.In base → base.Ns mainGlobals mg → FnG P w K mg base k fa fd [x] (spD K cm 1 m)) (bd : ∀ (s : Shared) (u : Value), BindsTo s fd ⟨[u], []⟩ [(x, u)]) (law : ∃ st', m [.loc 0] [.src (ns.map D.int)] = .ok (.bl true) st') :
    codeAny (model P w) callerA (.call (.ref fa) ⟨[.ref a], []⟩) (fun r s' => r = .ok (.ret (.bool true)) ∧ OldK s.heap s'.heap ∧ s'.os = s.os ∧ AllBare s'.gens) s := by
  have rv := vals_ints hi
  have nV := hi.length
  obtain ⟨st', hlaw⟩ := law
  have rint : ∀ (φ : List Addr) (H : Hp) (l : List Int), RepL K φ H (l.map D.int) (l.map V.int) := by
    intro φ H l
    induction l with
    | nil => exact .nil
    | cons i l ih => exact .cons (.int i) ih
  have core : ∀ H : Hp, L2.Only H → ((∃ o, H a = some (.frz o (.lst (ns.map V.int)))) ∨ (∀ H0 : Hp, SqL K H0 a (ns.map V.int))) → HOk P w H s.heap → (∀ b, H b ≠ none → b = a) → (H a ≠ none → K.lookup a = none) →
      codeAny (model P w) callerA (.call (.ref fa) ⟨[.ref a], []⟩) (fun r s' => r = .ok (.ret (.bool true)) ∧ OldK s.heap s'.heap ∧ s'.os = s.os ∧ AllBare s'.gens) s := by
    intro H hO hS ok only hK
    obtain ⟨k1, k2, e0⟩ := env_law inK nm nb bb nl hg ha ok only hK
    have pr : spD K cm 1 m [.ref a] H (fun v _ => v = .bl true) (fun _ _ _ => False) := by
      refine ⟨rfl, [a], [.loc 0], [.src (ns.map D.int)], ⟨rfl, ?_, ?_⟩, .cons (.loc rfl) .nil, ?_⟩
      · intro i b o h1 h2
        cases i with
        | zero =>
          simp at h1 h2
          subst h1 h2
          exact ⟨ns.map V.int, hS, rint _ _ _⟩
        | succ i => simp at h1
      · intro i j b o u h1 h2 h3 h4 m1 m2
        cases i with
        | zero =>
          cases j with
          | zero => rfl
          | succ j => simp at h2
        | succ i => simp at h1
      · rw [hlaw]
        intro φ' H' b e' k' s' r'
        cases r'
        rfl
    apply codeAny_mono ((F _ k1 k2).go callerA [] s H ⟨[.ref a], []⟩ [.ref a] [.ref a] _ _ rfl room e0 (bd s (.ref a)) (.cons rfl .nil) pr)
    intro r s' h
    cases r with
    | error e => obtain ⟨_, _, _, _, _, _, _, _, _, _, _, _, z⟩ := h; exact z.elim
    | ok fl =>
      cases fl with
      | ret u =>
        obtain ⟨v, H', os, bare, un, ok', r', q⟩ := h
        have q' : v = .bl true := q
        subst q'
        cases r'
        refine ⟨rfl, OldK.of_keep ?_, os, bare⟩
        intro b o e
        cases q : H b with
        | none => exact un.keep b o e q (fun z => nomatch z) (fun z => nomatch z)
        | some u =>
          cases hO b with
          | inl z => rw [q] at z; cases z
          | inr z =>
            obtain ⟨ob, xs, z⟩ := z
            have e1 := (ok b _ z).1
            have e2 := (ok' b _ (un.frzs b ob _ z)).1
            rw [e] at e1
            cases e1
            exact e2
      | _ => exact False.elim h
  cases hk : K.lookup a with
  | some o =>
    have e := inK a o hk
    rw [ha] at e
    cases e
    refine core (fun _ => none) (fun _ => .inl rfl) (.inr fun H0 => .inr ⟨_, vs.toArray, _, hk, rfl, rfl, rfl, ?_, by simpa using rv⟩) (fun b u z => nomatch z) (fun b z => absurd rfl z) (fun z => absurd rfl z)
    rw [List.size_toArray, nV]
    exact hl
  | none =>
    have hit : ∀ b, (if b = a then some (HO.frz { cls := .type "list", data := .seq vs.toArray } (.lst (ns.map V.int))) else none) ≠ none → b = a := by
      intro b z
      apply Classical.byContradiction
      intro n
      rw [if_neg n] at z
      exact z rfl
    refine core (fun b => if b = a then some (.frz { cls := .type "list", data := .seq vs.toArray } (.lst (ns.map V.int))) else none) ?_ (.inl ⟨_, if_pos rfl⟩) ?_ hit (fun _ => hk)
    · intro b
      by_cases n : b = a
      · exact .inr ⟨_, _, if_pos n⟩
      · exact .inl (if_neg n)
    · intro b u z
      dsimp only at z
      have n : b = a := hit b (by rw [z]; simp)
      subst n
      rw [if_pos rfl] at z
      cases z
      exact ⟨ha, by rw [List.length_map]; exact hl, vs, _, rv, ha⟩
/-- what k_head leaves, from the law's promise -/
theorem walk_G {l : PySem.W.OpenLaw} {n k : Nat} {q : Program} {loose : List Str} {XP : (Str → Option Value) → Heap → Prop} {YP : World → Heap → Prop} {d : DefRec} {K : Params → PySem.W.Frag} {x : Str} {m : Fn} (hn : l.most = some n) (hn2 : n ≤ sizeLine) (hdf : d.params.defaults = []) (room : Room k callerA)
    (hY : ∀ (w : World) (h : Heap), YP w h → (K w.params).In h)
    (F : ∀ (w : World) (mg : Str → Option Value) (fa : Addr) (h : Heap), (K w.params).In h → h.Ns mainGlobals mg → mg d.name = some (.ref fa) →
      ∃ (fd : FuncData) (cm : Str → Addr), (∀ (s : Shared) (u : Value), BindsTo s fd ⟨[u], []⟩ [(x, u)]) ∧ ∀ base : Heap, (K w.params).In base → base.Ns mainGlobals mg → FnG l.prog w (K w.params) mg base k fa fd [x] (spD (K w.params) cm 1 m))
    (law : ∀ ns : List Int, ns.length ≤ n → (∀ z ∈ ns, Builtin.Int.intBits z ≤ 1048576) → ∃ st', m [.loc 0] [.src (ns.map D.int)] = .ok (.bl true) st') : PySem.W.WalkO q loose XP YP l.row.toRowW d [] (fun f vs => PySem.call f vs) := by
  apply Att.attach_callB hn hdf
  intro w s₀ s₁ mg mb fa o pm cd doc a vs ns G Y ho hd hcd hmg hobj hints hlen hbits hg
  have KX := hY w _ Y
  obtain ⟨fd, cm, hb, hF⟩ := F w mg fa _ KX G.T.g hmg
  exact law_G KX G.T.g G.T.b G.T.builtins G.T.nolimit hg hobj hints (Nat.le_trans hlen hn2) room hF hb (law ns hlen hbits)
end Rol

/-! Operations on data. -/
namespace Rol
open PySem L2 PySem.Spec

/-! ### data as the library's data -/
def optAll {α β : Type} (f : α → Option β) : List α → Option (List β)
  | [] => some []
  | x :: xs => match f x, optAll f xs with
    | some a, some b => some (a :: b)
    | _, _ => none
def scalP : D → Option PyData
  | .non => some .none
  | .bl b => some (.bool b)
  | .int i => some (.int i)
  | .str x => some (.str x)
  | _ => none
def toP (st : S) : Nat → D → Option PyData
  | 0, d => scalP d
  | n + 1, .tup xs => (optAll (toP st n) xs).map .tuple
  | n + 1, .loc k => match itemsAt st k with
    | some xs => (optAll (toP st n) xs).map .list
    | none => none
  | _ + 1, d => scalP d
section
variable {K : PySem.W.Frag} {φ : List Addr} {H : Hp} {st : S}
theorem scalP_dp {x : D} {v : V} {d : PyData} (r : RepV K φ H x v) (h : scalP x = some d) : Dp K H v d := by
  cases r with
  | non => cases h; exact .non
  | bl b => cases h; exact .bl b
  | int i => cases h; exact .int i
  | str x => cases h; exact .str x
  | tup _ _ => cases h
  | loc _ => cases h
  | opq _ => cases h
theorem optAll_dp {f : D → Option PyData} (ih : ∀ (x : D) (v : V) (d : PyData), RepV K φ H x v → f x = some d → Dp K H v d) : ∀ {xs : List D} {vs : List V} {ds : List PyData}, RepL K φ H xs vs → optAll f xs = some ds → DpAll K H vs ds
  | _, _, ds, .nil, h => by
    cases h
    exact .nil
  | _, _, ds, .cons r t, h => by
    rename_i x xs v vs
    unfold optAll at h
    cases e1 : f x with
    | none => rw [e1] at h; cases h
    | some a =>
      cases e2 : optAll f xs with
      | none => rw [e1, e2] at h; cases h
      | some b =>
        rw [e1, e2] at h
        cases h
        exact .cons (ih _ _ _ r e1) (optAll_dp ih t e2)
theorem RepS.seqL (R : RepS K φ H st) {k : Nat} {a : Addr} {xs : List D} (h : φ[k]? = some a) (e : itemsAt st k = some xs) : ∃ vs, SqL K H a vs ∧ RepL K φ H xs vs := by
  unfold itemsAt at e
  cases q : st[k]? with
  | none => rw [q] at e; cases e
  | some o =>
    rw [q] at e
    cases o with
    | lst ys =>
      cases e
      obtain ⟨vs, h1, h2⟩ := R.obj k a _ h q
      exact ⟨vs, SqL.of h1, h2⟩
    | src ys =>
      cases e
      obtain ⟨vs, h1, h2⟩ := R.obj k a _ h q
      rcases h1 with ⟨o, h1⟩ | h1
      · exact ⟨vs, .inl (.inr ⟨o, h1⟩), h2⟩
      · exact ⟨vs, h1 H, h2⟩
    | dct _ => cases e
theorem toP_dp (R : RepS K φ H st) : ∀ (n : Nat) (x : D) (v : V) (d : PyData), RepV K φ H x v → toP st n x = some d → Dp K H v d
  | 0, x, v, d, r, h => scalP_dp r h
  | n + 1, x, v, d, r, h => by
    cases r with
    | tup s r2 =>
      unfold toP at h
      rename_i a xs vs
      cases e : optAll (toP st n) xs with
      | none => rw [e] at h; cases h
      | some ds =>
        rw [e] at h
        cases h
        exact .tup s (optAll_dp (toP_dp R n) r2 e)
    | loc h1 =>
      unfold toP at h
      rename_i k a
      cases e : itemsAt st k with
      | none => rw [e] at h; cases h
      | some xs =>
        rw [e] at h
        dsimp only at h
        cases e2 : optAll (toP st n) xs with
        | none => rw [e2] at h; cases h
        | some ds =>
          rw [e2] at h
          cases h
          obtain ⟨vs, s, r2⟩ := R.seqL h1 e
          exact .lst s (optAll_dp (toP_dp R n) r2 e2)
    | non => exact scalP_dp (φ := φ) .non h
    | bl b => exact scalP_dp (φ := φ) (.bl b) h
    | int i => exact scalP_dp (φ := φ) (.int i) h
    | str x => exact scalP_dp (φ := φ) (.str x) h
    | opq v => exact scalP_dp (φ := φ) (.opq v) h
end

/-! ### arithmetic -/
def i2 (f : Int → Int → D) : D → D → S → Res D
  | .int i, .int j, st => .ok (f i j) st
  | _, _, _ => .stuck
def i2c (c : Int → Int → Bool) (f : Int → Int → D) : D → D → S → Res D
  | .int i, .int j, st => if c i j = true then .ok (f i j) st else .stuck
  | _, _, _ => .stuck
def ofI (f : Int → Int → V) (g : Int → Int → D) : Prop := ∀ (K : PySem.W.Frag) φ H i j, RepV K φ H (g i j) (f i j)
theorem od_i2 {K : PySem.W.Frag} {f : Int → Int → V} {g : Int → Int → D} (fg : ofI f g) : OpD K (rI0 f) (i2 g) := by
  intro cm W φ H σ st x y v w Q rs rx ry h
  cases rx <;> cases ry <;> first | exact False.elim h | skip
  exact ⟨_, _, rfl, rfl, AtG.here h rs (fg K φ H _ _)⟩
theorem od_i2c {K : PySem.W.Frag} {C : Int → Int → Prop} {c : Int → Int → Bool} {f : Int → Int → V} {g : Int → Int → D} (fg : ofI f g) (hc : ∀ i j, c i j = true → C i j) : OpD K (rI C f) (i2c c g) := by
  intro cm W φ H σ st x y v w Q rs rx ry h
  cases rx <;> cases ry <;> first | exact False.elim h | skip
  dsimp only [i2c] at h
  split at h
  · rename_i hh
    exact ⟨_, _, rfl, rfl, hc _ _ hh, AtG.here h rs (fg K φ H _ _)⟩
  · exact h.elim
def OpD.orL {K : PySem.W.Frag} {r r' : L2.R2} {f : D → D → S → Res D} (h : OpD K r f) : OpD K (fun x y H Q => r x y H Q ∨ r' x y H Q) f := fun cm W φ H σ st x y v w Q rs rx ry q => .inl (h cm W φ H σ st x y v w Q rs rx ry q)

def dAdd : D → D → S → Res D
  | .int i, .int j, st => .ok (.int (i + j)) st
  | .tup xs, .tup ys, st => if xs.length + ys.length ≤ sizeLine then .ok (.tup (xs ++ ys)) st else .stuck
  | .str a, .str b, st => if a.length + b.length ≤ sizeLine then .ok (.str (a ++ b)) st else .stuck
  | .loc i, .loc j, st => match st[i]?, st[j]? with
    | some (.lst xs), some (.lst ys) => if xs.length + ys.length ≤ sizeLine then .ok (.loc st.length) (st ++ [.lst (xs ++ ys)]) else .stuck
    | _, _ => .stuck
  | _, _, _ => .stuck
def rAddA (K : PySem.W.Frag) : L2.R2 := fun x y H Q => rI0 (fun i j => .int (i + j)) x y H Q ∨ rCatA K x y H Q ∨ (∃ i j, x = .str i ∧ y = .str j ∧ i.length + j.length ≤ sizeLine ∧ Q (.str (i ++ j)) H) ∨ rCat x y H Q
theorem op_addA {X : Cx} : OpR X (binaryOp .Add) (rAddA X.K) := op_add.or (op_catA.or (op_add_str.or op_cat))
theorem od_add {K : PySem.W.Frag} : OpD K (rAddA K) dAdd := by
  intro cm W φ H σ st x y v w Q rs rx ry h
  cases rx <;> cases ry <;> first | exact False.elim h | skip
  · exact .inl ⟨_, _, rfl, rfl, AtG.here h rs (.int _)⟩
  · exact .inr (.inr (.inl (by
      dsimp only [dAdd] at h
      split at h
      · rename_i hl
        exact ⟨_, _, rfl, rfl, hl, AtG.here h rs (.str _)⟩
      · exact h.elim)))
  · rename_i a xs vs s1 r1 b ys ws s2 r2
    refine .inr (.inl ?_)
    dsimp only [dAdd] at h
    split at h
    · rename_i hl
      refine ⟨a, b, vs, ws, rfl, rfl, s1, s2, by rw [← r1.length, ← r2.length]; exact hl, fun e => ?_, fun _ e => ?_, fun _ _ p hp => ?_⟩
      · subst e
        cases r1
        exact AtG.here h rs (.tup s2 r2)
      · subst e
        cases r2
        rw [List.append_nil] at h
        exact AtG.here h rs (.tup s1 r1)
      · have k := Kp.new (o := .tup (vs ++ ws)) hp
        exact h φ _ _ (Ext.refl _) k (rs.beside hp) (.tup (SqT.of upd_same) ((r1.append r2).mono (Ext.refl _) k))
    · exact h.elim
  · rename_i i a h1 j b h2
    refine .inr (.inr (.inr ?_))
    dsimp only [dAdd] at h
    split at h
    · rename_i xs ys e1 e2
      split at h
      · rename_i hl
        obtain ⟨vs, g1, g2⟩ := rs.obj i a _ h1 e1
        obtain ⟨ws, g3, g4⟩ := rs.obj j b _ h2 e2
        refine ⟨a, b, vs, ws, rfl, rfl, g1, g3, by rw [← g2.length, ← g4.length]; exact hl, fun p hp => ?_⟩
        refine h (φ ++ [p]) _ _ (Ext.one _ _) (Kp.new hp) (rs.alloc hp (g2.append g4)) (.loc ?_)
        rw [← rs.len, List.getElem?_append_right (Nat.le_refl _), Nat.sub_self]
        rfl
      · exact h.elim
    · exact h.elim

/-! ### times -/
def cMul (i j : Int) : Bool := (decide (-(2 ^ 64) < i) && decide (i < 2 ^ 64)) || (decide (-(2 ^ 64) < j) && decide (j < 2 ^ 64)) || decide (i.natAbs.log2 + j.natAbs.log2 < 1000000)
def dMul : D → D → S → Res D
  | .int i, .int j, st => if cMul i j = true then .ok (.int (i * j)) st else .stuck
  | .tup xs, .int k, st => if k = 1 then .ok (.tup xs) st else if xs.isEmpty = false ∧ 2 ≤ k ∧ k ≤ 1000 ∧ xs.length ≤ 1000 then .ok (.tup (List.replicate k.toNat xs).flatten) st else .stuck
  | .str x, .int k, st => if 2 ≤ k ∧ 1 ≤ x.length ∧ x.length * k.toNat ≤ 1000000 then .ok (.str ⟨(List.replicate k.toNat x.cps).foldl (· ++ ·) #[]⟩) st else .stuck
  | .loc i, .int k, st => match st[i]? with
    | some (.lst xs) => if -(2 ^ 63) ≤ k ∧ k < 2 ^ 63 ∧ xs.length * k.toNat ≤ sizeLine then .ok (.loc st.length) (st ++ [.lst (List.replicate k.toNat xs).flatten]) else .stuck
    | _ => .stuck
  | _, _, _ => .stuck
theorem tuple_mul1 (l : Addr) (items : Array Value) (n : Nat) (dd : Option Addr) (sl : Array (Option Value)) (u : Tok) :
    Meets (Builtin.«tuple.__mul__» ⟨[.ref l, .int 1 u], []⟩) (fun _ R s => s.heap.get? l = some { cls := .type "tuple", dict := dd, data := .seq items n, slots := sl } ∧ R (.ok (.ret (Value.ref l))) s) :=
  .of_wp fun prog w A R s h => by
    obtain ⟨hp, g, d, tk, os⟩ := s
    obtain ⟨hl, h⟩ := h
    have f1 := AutoSeq1.idx_int
    have c1 : (items.isEmpty || ((1 : Int) == 1)) = true := by simp
    wp_walk using wpAny_loadPart' hl
    repeat (first
      | (refine wpAny_ite_true (decide_eq_true c1) ?_; wp_walk using wpAny_loadPart' hl)
      | (refine wpAny_ite_true (by simp) ?_; wp_walk using wpAny_loadPart' hl)
      | (refine wpAny_ite_false (by simp) ?_; wp_walk using wpAny_loadPart' hl))
    all_goals first | exact ⟨_, rfl, h⟩ | exact h
end Rol

/-! Operations on data, further. -/
namespace Rol
open PySem L2 PySem.Spec
open PyProof.Rows hiding St

section
variable {X : Cx}
theorem op_repT1 : OpR X (binaryOp .Mult) (fun x y H Q => ∃ l xs, x = .ref l ∧ y = .int 1 ∧ SqT X.K H l xs ∧ Q (.ref l) H) := by
  intro pins s σ H x y v u Q I rx ry h
  obtain ⟨l, xs, rfl, rfl, hT, q⟩ := h
  cases rx
  obtain ⟨t, rfl⟩ := ry
  obtain ⟨its, r, ⟨⟨cls, dd, data, sl⟩, ho, hc, n, hd⟩, hs⟩ := I.tuple hT
  simp only at hc hd
  subst hc hd
  refine wpAny_binaryOp_repeat_ref (T := "tuple") (U := "int") (by decide) ⟨_, ho, rfl⟩ (fun s' => typeIs_int s' 1 t) noFill_tuple_mul PySem.F.fills_int_mul PySem.F.slot_int_rmul repeat_tuple PySem.F.slot_int_index.lookup ?_
  refine call_meets PySem.F.slot_int_rmul (typeIs_int s 1 t) PySem.F.entry_int_rmul (PySem.F.args_int_rmul_2 _ _) (int_rmul_tuple 1 t l its.toArray n dd sl) ⟨ho, rfl, ⟨_, ho, rfl⟩, ?_⟩
  exact call_meets PySem.F.slot_tuple_mul ⟨_, ho, rfl⟩ PySem.F.entry_tuple_mul (PySem.F.args_tuple_mul_2 _ _) (tuple_mul1 l its.toArray n dd sl t) ⟨ho, .ref l, H, I, rfl, q⟩
theorem op_mulS : OpR X (binaryOp .Mult) (fun x y H Q => ∃ z k, x = .str z ∧ y = .int k ∧ 2 ≤ k ∧ 1 ≤ z.length ∧ z.length * k.toNat ≤ 1000000 ∧ Q (.str ⟨(List.replicate k.toNat z.cps).foldl (· ++ ·) #[]⟩) H) := by
  intro pins s σ H x y v u Q I rx ry h
  obtain ⟨z, k, rfl, rfl, h1, h2, h3, q⟩ := h
  obtain ⟨t, rfl⟩ := rx
  obtain ⟨t', rfl⟩ := ry
  have hk : k.toNat ≤ 1000000 := Nat.le_trans (Nat.le_mul_of_pos_left _ h2) h3
  have hz : z.length ≤ 1000000 := Nat.le_trans (Nat.le_mul_of_pos_right _ (by omega)) h3
  have e1 : (decide (k < -(2 ^ 63 : Int)) || decide (k ≥ 2 ^ 63)) = false := by
    rw [decide_eq_false (by omega), decide_eq_false (by omega)]
    rfl
  have e2 : ¬ k < 1 := by omega
  have e3 : (k == 1 || z.length == 0) = false := by
    have a1 : (k == 1) = false := by
      rw [beq_eq_false_iff_ne]
      omega
    have a2 : (z.length == 0) = false := by
      rw [beq_eq_false_iff_ne]
      omega
    rw [a1, a2]
    rfl
  have hl : ((List.replicate k.toNat z.cps).foldl (· ++ ·) #[]).size = k.toNat * z.length := by
    have : ∀ (n : Nat) (acc : Array Nat), ((List.replicate n z.cps).foldl (· ++ ·) acc).size = acc.size + n * z.length := by
      intro n
      induction n with
      | zero => intro acc; simp
      | succ n ih =>
        intro acc
        rw [List.replicate_succ, List.foldl_cons, ih, Array.size_append, Nat.succ_mul]
        have : z.cps.size = z.length := rfl
        omega
    rw [this]
    simp
  have lim : (sizeLine : Nat) = 16777216 := sizeLine_eq
  refine PySem.P.mul_str e1 (fun _ _ => ?_) (fun _ _ => ?_) ?_
  · have hp : ((z.length : Nat) : Int) * k ≤ 2 ^ 63 - 1 := by
      have a1 : ((z.length * k.toNat : Nat) : Int) ≤ ((1000000 : Nat) : Int) := Int.ofNat_le.mpr h3
      have a2 : ((k.toNat : Nat) : Int) = k := Int.toNat_of_nonneg (by omega)
      rw [Int.natCast_mul, a2] at a1
      omega
    have := Int.le_ediv_of_mul_le (show (0 : Int) < k by omega) hp
    omega
  · unfold Builtin.Str.tooLong
    exact decide_eq_false (by omega)
  · rw [if_neg e2, if_neg (by rw [e3]; exact Bool.false_ne_true)]
    refine ⟨?_, ?_⟩
    · show ((List.replicate k.toNat z.cps).foldl (· ++ ·) #[]).size ≤ sizeLine
      rw [hl, lim, Nat.mul_comm]
      omega
    · exact ⟨.str _, H, I.tok _, ⟨_, rfl⟩, q⟩
end
def rMulA (K : PySem.W.Frag) : L2.R2 := fun x y H Q => rI CMul (fun i j => .int (i * j)) x y H Q ∨ rI CMulW (fun i j => .int (i * j)) x y H Q ∨ rRepT K x y H Q ∨ (∃ l xs, x = .ref l ∧ y = .int 1 ∧ SqT K H l xs ∧ Q (.ref l) H) ∨
  (∃ z k, x = .str z ∧ y = .int k ∧ 2 ≤ k ∧ 1 ≤ z.length ∧ z.length * k.toNat ≤ 1000000 ∧ Q (.str ⟨(List.replicate k.toNat z.cps).foldl (· ++ ·) #[]⟩) H) ∨ rRep x y H Q
theorem op_mulA {X : Cx} : OpR X (binaryOp .Mult) (rMulA X.K) := op_mul.or (op_mulW.or (op_repT.or (op_repT1.or (op_mulS.or op_rep))))
theorem od_mul {K : PySem.W.Frag} : OpD K (rMulA K) dMul := by
  intro cm W φ H σ st x y v w Q rs rx ry h
  cases rx <;> cases ry <;> first | exact False.elim h | skip
  · rename_i i j
    dsimp only [dMul] at h
    split at h
    · rename_i hc
      unfold cMul at hc
      rw [Bool.or_eq_true, Bool.or_eq_true] at hc
      simp only [Bool.and_eq_true, decide_eq_true_eq] at hc
      have hq := AtG.here h rs (RepV.int (i * j))
      rcases hc with (hc | hc) | hc
      · exact .inl ⟨i, j, rfl, rfl, .inl hc, hq⟩
      · exact .inl ⟨i, j, rfl, rfl, .inr hc, hq⟩
      · exact .inr (.inl ⟨i, j, rfl, rfl, hc, hq⟩)
    · exact h.elim
  · rename_i z k
    dsimp only [dMul] at h
    split at h
    · rename_i hc
      exact .inr (.inr (.inr (.inr (.inl ⟨z, k, rfl, rfl, hc.1, hc.2.1, hc.2.2, AtG.here h rs (.str _)⟩))))
    · exact h.elim
  · rename_i a xs vs s1 r1 k
    dsimp only [dMul] at h
    split at h
    · rename_i hk
      subst hk
      exact .inr (.inr (.inr (.inl ⟨a, vs, rfl, rfl, s1, AtG.here h rs (.tup s1 r1)⟩)))
    · split at h
      · rename_i hc
        obtain ⟨c1, c2, c3, c4⟩ := hc
        refine .inr (.inr (.inl ⟨a, k, vs, rfl, rfl, s1, ?_, c2, c3, by rw [← r1.length]; exact c4, fun p hp => ?_⟩))
        · intro e
          subst e
          cases r1
          cases c1
        · have kk := Kp.new (o := .tup (List.replicate k.toNat vs).flatten) hp
          exact h φ _ _ (Ext.refl _) kk (rs.beside hp) (.tup (SqT.of upd_same) ((r1.rep k.toNat).mono (Ext.refl _) kk))
      · exact h.elim
  · rename_i i a h1 k
    dsimp only [dMul] at h
    split at h
    · rename_i xs e1
      split at h
      · rename_i hc
        obtain ⟨vs, g1, g2⟩ := rs.obj i a _ h1 e1
        refine .inr (.inr (.inr (.inr (.inr ⟨a, k, vs, rfl, rfl, g1, hc.1, hc.2.1, by rw [← g2.length]; exact hc.2.2, fun p hp => ?_⟩))))
        refine h (φ ++ [p]) _ _ (Ext.one _ _) (Kp.new hp) (rs.alloc hp (g2.rep k.toNat)) (.loc ?_)
        rw [← rs.len, List.getElem?_append_right (Nat.le_refl _), Nat.sub_self]
        rfl
      · exact h.elim
    · exact h.elim

/-! ### the rest of arithmetic -/
def dSub := i2 fun i j => .int (i - j)
theorem od_sub {K : PySem.W.Frag} : OpD K (rI0 fun i j => .int (i - j)) dSub := od_i2 fun _ _ _ _ _ => .int _
def dFdiv := i2c (fun _ j => decide (0 < j) && decide (j.natAbs.log2 < 9000)) fun i j => .int (i / j)
theorem od_fdiv {K : PySem.W.Frag} : OpD K (rI CDivW fun i j => .int (i / j)) dFdiv := od_i2c (fun _ _ _ _ _ => .int _) fun i j h => by
  simp only [Bool.and_eq_true, decide_eq_true_eq] at h
  exact h
def dMod := i2c (fun _ j => decide (0 < j)) fun i j => .int (i % j)
theorem od_mod {K : PySem.W.Frag} : OpD K (rI (fun _ j => 0 < j) fun i j => .int (i % j)) dMod := od_i2c (fun _ _ _ _ _ => .int _) fun i j h => of_decide_eq_true h
def dPow := i2c (fun i j => decide (0 ≤ j) && decide (j ≤ 1000000) && decide (i.natAbs < 2 ^ 64)) fun i j => .int (i ^ j.toNat)
theorem od_pow {K : PySem.W.Frag} : OpD K (rI CPow fun i j => .int (i ^ j.toNat)) dPow := od_i2c (fun _ _ _ _ _ => .int _) fun i j h => by
  simp only [Bool.and_eq_true, decide_eq_true_eq] at h
  exact ⟨h.1.1, h.1.2, h.2⟩
def dShl := i2c (fun i j => decide (0 ≤ j) && decide (j ≤ 1000000) && decide (i.natAbs < 2 ^ 64)) fun i j => .int (i * 2 ^ j.toNat)
theorem od_shl {K : PySem.W.Frag} : OpD K (rI CPow fun i j => .int (i * 2 ^ j.toNat)) dShl := od_i2c (fun _ _ _ _ _ => .int _) fun i j h => by
  simp only [Bool.and_eq_true, decide_eq_true_eq] at h
  exact ⟨h.1.1, h.1.2, h.2⟩
def dShr := i2c (fun _ j => decide (0 ≤ j)) fun i j => .int (i / 2 ^ j.toNat)
theorem od_shr {K : PySem.W.Frag} : OpD K (rI (fun _ j => 0 ≤ j) fun i j => .int (i / 2 ^ j.toNat)) dShr := od_i2c (fun _ _ _ _ _ => .int _) fun i j h => of_decide_eq_true h
def dAnd := i2 fun i j => .int (Builtin.bitAnd i j)
theorem od_and {K : PySem.W.Frag} : OpD K (rI0 fun i j => .int (Builtin.bitAnd i j)) dAnd := od_i2 fun _ _ _ _ _ => .int _
def dOr := i2 fun i j => .int (Builtin.bitOr i j)
theorem od_or {K : PySem.W.Frag} : OpD K (rI0 fun i j => .int (Builtin.bitOr i j)) dOr := od_i2 fun _ _ _ _ _ => .int _
def dNeg : D → S → Res D
  | .int i, st => .ok (.int (-i)) st
  | _, _ => .stuck
theorem ud_neg {K : PySem.W.Frag} : UnD K (rU fun i => .int (-i)) dNeg := by
  intro cm W φ H σ st x v Q rs rx h
  cases rx <;> first | exact False.elim h | skip
  exact ⟨_, rfl, AtG.here h rs (.int _)⟩

/-! ### comparisons -/
def dEqD : D → D → S → Res D := fun x y st => match toP st 64 x, toP st 64 y with
  | some d, some e => if SeqAt.shaped d = true ∧ SeqAt.shaped e = true then .ok (.bl (PyData.eqv d e)) st else .stuck
  | _, _ => .stuck
def dNeD : D → D → S → Res D := fun x y st => match toP st 64 x, toP st 64 y with
  | some d, some e => if SeqAt.shaped d = true ∧ SeqAt.shaped e = true then .ok (.bl (!PyData.eqv d e)) st else .stuck
  | _, _ => .stuck
theorem od_eqD {K : PySem.W.Frag} : OpD K (rEqD K) dEqD := by
  intro cm W φ H σ st x y v w Q rs rx ry h
  unfold dEqD at h
  split at h
  · rename_i d e h1 h2
    split at h
    · rename_i hs
      exact ⟨d, e, toP_dp rs _ _ _ _ rx h1, toP_dp rs _ _ _ _ ry h2, hs.1, hs.2, AtG.here h rs (.bl _)⟩
    · exact h.elim
  · exact h.elim
theorem od_neD {K : PySem.W.Frag} : OpD K (rNeD K) dNeD := by
  intro cm W φ H σ st x y v w Q rs rx ry h
  unfold dNeD at h
  split at h
  · rename_i d e h1 h2
    split at h
    · rename_i hs
      exact ⟨d, e, toP_dp rs _ _ _ _ rx h1, toP_dp rs _ _ _ _ ry h2, hs.1, hs.2, AtG.here h rs (.bl _)⟩
    · exact h.elim
  · exact h.elim
/-- texts may hold any signs -/
def dEq : D → D → S → Res D
  | .str a, .str b, st => .ok (.bl (decide (a = b))) st
  | x, y, st => dEqD x y st
def dNe : D → D → S → Res D
  | .str a, .str b, st => .ok (.bl (!decide (a = b))) st
  | x, y, st => dNeD x y st
def rEqA (K : PySem.W.Frag) : L2.R2 := fun x y H Q => rEqD K x y H Q ∨ (∃ a b, x = .str a ∧ y = .str b ∧ Q (.bl (decide (a = b))) H)
def rNeA (K : PySem.W.Frag) : L2.R2 := fun x y H Q => rNeD K x y H Q ∨ (∃ a b, x = .str a ∧ y = .str b ∧ Q (.bl (!decide (a = b))) H)
theorem od_eq {K : PySem.W.Frag} : OpD K (rEqA K) dEq := by
  intro cm W φ H σ st x y v w Q rs rx ry h
  unfold dEq at h
  split at h
  · cases rx; cases ry
    exact .inr ⟨_, _, rfl, rfl, AtG.here h rs (.bl _)⟩
  · exact .inl (od_eqD cm W φ H σ st _ _ v w Q rs rx ry h)
theorem od_ne {K : PySem.W.Frag} : OpD K (rNeA K) dNe := by
  intro cm W φ H σ st x y v w Q rs rx ry h
  unfold dNe at h
  split at h
  · cases rx; cases ry
    exact .inr ⟨_, _, rfl, rfl, AtG.here h rs (.bl _)⟩
  · exact .inl (od_neD cm W φ H σ st _ _ v w Q rs rx ry h)
theorem op_eqA {X : Cx} (hu : X.A.units + 64 < cLine) : OpR X (compareOp .Eq) (rEqA X.K) := by
  intro pins s σ H x y v u Q I rx ry h
  rcases h with h | ⟨a, b, rfl, rfl, q⟩
  · exact op_eqD hu pins s σ H _ _ v u Q I rx ry h
  · refine op_eq pins s σ H _ _ v u Q I rx ry ⟨rfl, ?_⟩
    have e : decide (V.str a = V.str b) = decide (a = b) := decide_eq_decide.mpr ⟨fun e => V.str.inj e, fun e => congrArg V.str e⟩
    rw [e]
    exact q
theorem op_neA {X : Cx} (hu : X.A.units + 64 < cLine) : OpR X (compareOp .NotEq) (rNeA X.K) := by
  intro pins s σ H x y v u Q I rx ry h
  rcases h with h | ⟨a, b, rfl, rfl, q⟩
  · exact op_neD hu pins s σ H _ _ v u Q I rx ry h
  · refine op_ne pins s σ H _ _ v u Q I rx ry ⟨rfl, ?_⟩
    have e : decide (V.str a = V.str b) = decide (a = b) := decide_eq_decide.mpr ⟨fun e => V.str.inj e, fun e => congrArg V.str e⟩
    rw [e]
    exact q
/-- is None -/
def dIsN : D → D → S → Res D
  | .opq _, _, _ => .stuck
  | .non, .non, st => .ok (.bl true) st
  | _, .non, st => .ok (.bl false) st
  | _, _, _ => .stuck
def dNotN : D → D → S → Res D
  | .opq _, _, _ => .stuck
  | .non, .non, st => .ok (.bl false) st
  | _, .non, st => .ok (.bl true) st
  | _, _, _ => .stuck
theorem od_isN {K : PySem.W.Frag} : OpD K (fun x y H Q => y = .non ∧ Q (.bl (decide (x = .non))) H) dIsN := by
  intro cm W φ H σ st x y v w Q rs rx ry h
  cases rx <;> cases ry <;> first | exact False.elim h | exact ⟨rfl, AtG.here h rs (.bl _)⟩
theorem od_notN {K : PySem.W.Frag} : OpD K (fun x y H Q => y = .non ∧ Q (.bl (!decide (x = .non))) H) dNotN := by
  intro cm W φ H σ st x y v w Q rs rx ry h
  cases rx <;> cases ry <;> first | exact False.elim h | exact ⟨rfl, AtG.here h rs (.bl _)⟩
/-- the ints of a tuple -/
def intsOf : List D → Option (List Int)
  | [] => some []
  | .int i :: xs => (intsOf xs).map (i :: ·)
  | _ :: _ => none
theorem intsOf_rep {K : PySem.W.Frag} {φ : List Addr} {H : Hp} : ∀ {xs : List D} {vs : List V} {ns : List Int}, RepL K φ H xs vs → intsOf xs = some ns → vs = ns.map V.int
  | _, _, _, .nil, h => by
    cases h
    rfl
  | _, _, ns, .cons r t, h => by
    cases r <;> first | (simp [intsOf] at h; done) | skip
    rename_i xs vs i
    simp only [intsOf] at h
    cases e : intsOf xs with
    | none => rw [e] at h; cases h
    | some ms =>
      rw [e] at h
      cases h
      rw [intsOf_rep t e]
      rfl
def cmpD (f : Int → Int → Bool) (g : List Int → List Int → Bool) : D → D → S → Res D
  | .int i, .int j, st => .ok (.bl (f i j)) st
  | .tup xs, .tup ys, st => match intsOf xs, intsOf ys with
    | some ns, some ms => .ok (.bl (g ns ms)) st
    | _, _ => .stuck
  | _, _, _ => .stuck
def dLt := cmpD (fun i j => decide (i < j)) HT.lexLt
def rLtA (K : PySem.W.Frag) : L2.R2 := fun x y H Q => rI0 (fun i j => .bl (decide (i < j))) x y H Q ∨ rLtT K x y H Q
theorem op_ltA {X : Cx} (hu : X.A.units < cLine) : OpR X (compareOp .Lt) (rLtA X.K) := op_lt.or (op_ltT hu)
theorem od_lt {K : PySem.W.Frag} : OpD K (rLtA K) dLt := by
  intro cm W φ H σ st x y v w Q rs rx ry h
  cases rx <;> cases ry <;> first | exact False.elim h | skip
  · exact .inl ⟨_, _, rfl, rfl, AtG.here h rs (.bl _)⟩
  · rename_i a xs vs s1 r1 b ys ws s2 r2
    dsimp only [dLt, cmpD] at h
    split at h
    · rename_i ns ms e1 e2
      have q1 := intsOf_rep r1 e1
      have q2 := intsOf_rep r2 e2
      subst q1 q2
      exact .inr ⟨a, b, ns, ms, rfl, rfl, s1, s2, AtG.here h rs (.bl _)⟩
    · exact h.elim
def dLe := i2 fun i j => .bl (decide (i ≤ j))
def dGt := i2 fun i j => .bl (decide (j < i))
def dGe := i2 fun i j => .bl (decide (j ≤ i))
theorem od_le {K : PySem.W.Frag} : OpD K (rI0 fun i j => .bl (decide (i ≤ j))) dLe := od_i2 fun _ _ _ _ _ => .bl _
theorem od_gt {K : PySem.W.Frag} : OpD K (rI0 fun i j => .bl (decide (j < i))) dGt := od_i2 fun _ _ _ _ _ => .bl _
theorem od_ge {K : PySem.W.Frag} : OpD K (rI0 fun i j => .bl (decide (j ≤ i))) dGe := od_i2 fun _ _ _ _ _ => .bl _

/-! ### in -/
section
variable {X : Cx}
theorem op_inT (hu : X.A.units + 65 < cLine) : OpR X (compareOp .In) (fun x y H Q => ∃ d ds, Dp X.K H x d ∧ Dp X.K H y (.tuple ds) ∧ SeqAt.shaped d = true ∧ SeqAt.shaped (.tuple ds) = true ∧ Q (.bl (ds.any fun z => PyData.eqv z d)) H) := by
  intro pins s σ H x y v u Q I rx ry h
  obtain ⟨d, ds, hd, he, sd, se, q⟩ := h
  obtain ⟨as, r1⟩ := hd.reads I d x v rx
  obtain ⟨bs, r2⟩ := he.reads I (.tuple ds) y u ry
  exact SeqAt.in_tuple_reads r2 r1 (SeqAt.canLay_of_shaped se) (SeqAt.canLay_of_shaped sd) (room_in_shaped sd hu) ⟨.bl _, H, I, rfl, q⟩
end
end Rol

/-! Operations on data: in, places, slices, calls, methods. -/
namespace Rol
open PySem L2 PySem.Spec
open PyProof.Rows hiding St

section
variable {X : Cx}
theorem op_notInT (hu : X.A.units + 65 < cLine) : OpR X (compareOp .NotIn) (fun x y H Q => ∃ d ds, Dp X.K H x d ∧ Dp X.K H y (.tuple ds) ∧ SeqAt.shaped d = true ∧ SeqAt.shaped (.tuple ds) = true ∧ Q (.bl (!ds.any fun z => PyData.eqv z d)) H) := by
  intro pins s σ H x y v u Q I rx ry h
  obtain ⟨d, ds, hd, he, sd, se, q⟩ := h
  obtain ⟨as, r1⟩ := hd.reads I d x v rx
  obtain ⟨bs, r2⟩ := he.reads I (.tuple ds) y u ry
  exact SeqAt.notIn_tuple_reads r2 r1 (SeqAt.canLay_of_shaped se) (SeqAt.canLay_of_shaped sd) (room_in_shaped sd hu) ⟨.bl _, H, I, rfl, q⟩
end
def dIn (neg : Bool) : D → D → S → Res D := fun x y st => match toP st 64 x, toP st 65 y with
  | some d, some (.list ds) => if SeqAt.shaped d = true ∧ SeqAt.shaped (.list ds) = true then .ok (.bl (if neg = true then !(ds.any fun z => PyData.eqv z d) else ds.any fun z => PyData.eqv z d)) st else .stuck
  | some d, some (.tuple ds) => if SeqAt.shaped d = true ∧ SeqAt.shaped (.tuple ds) = true then .ok (.bl (if neg = true then !(ds.any fun z => PyData.eqv z d) else ds.any fun z => PyData.eqv z d)) st else .stuck
  | _, _ => .stuck
def rInA (K : PySem.W.Frag) : L2.R2 := fun x y H Q => rInD K x y H Q ∨ (∃ d ds, Dp K H x d ∧ Dp K H y (.tuple ds) ∧ SeqAt.shaped d = true ∧ SeqAt.shaped (.tuple ds) = true ∧ Q (.bl (ds.any fun z => PyData.eqv z d)) H)
def rNotInA (K : PySem.W.Frag) : L2.R2 := fun x y H Q => rNotInD K x y H Q ∨ (∃ d ds, Dp K H x d ∧ Dp K H y (.tuple ds) ∧ SeqAt.shaped d = true ∧ SeqAt.shaped (.tuple ds) = true ∧ Q (.bl (!ds.any fun z => PyData.eqv z d)) H)
theorem op_inA {X : Cx} (hu : X.A.units + 65 < cLine) : OpR X (compareOp .In) (rInA X.K) := (op_inD hu).or (op_inT hu)
theorem op_notInA {X : Cx} (hu : X.A.units + 65 < cLine) : OpR X (compareOp .NotIn) (rNotInA X.K) := (op_notInD hu).or (op_notInT hu)
theorem od_in {K : PySem.W.Frag} : OpD K (rInA K) (dIn false) := by
  intro cm W φ H σ st x y v w Q rs rx ry h
  unfold dIn at h
  split at h
  · rename_i d ds h1 h2
    split at h
    · rename_i hs
      exact .inl ⟨d, ds, toP_dp rs _ _ _ _ rx h1, toP_dp rs _ _ _ _ ry h2, hs.1, hs.2, AtG.here h rs (.bl _)⟩
    · exact h.elim
  · rename_i d ds h1 h2
    split at h
    · rename_i hs
      exact .inr ⟨d, ds, toP_dp rs _ _ _ _ rx h1, toP_dp rs _ _ _ _ ry h2, hs.1, hs.2, AtG.here h rs (.bl _)⟩
    · exact h.elim
  · exact h.elim
theorem od_notIn {K : PySem.W.Frag} : OpD K (rNotInA K) (dIn true) := by
  intro cm W φ H σ st x y v w Q rs rx ry h
  unfold dIn at h
  split at h
  · rename_i d ds h1 h2
    split at h
    · rename_i hs
      exact .inl ⟨d, ds, toP_dp rs _ _ _ _ rx h1, toP_dp rs _ _ _ _ ry h2, hs.1, hs.2, AtG.here h rs (.bl _)⟩
    · exact h.elim
  · rename_i d ds h1 h2
    split at h
    · rename_i hs
      exact .inr ⟨d, ds, toP_dp rs _ _ _ _ rx h1, toP_dp rs _ _ _ _ ry h2, hs.1, hs.2, AtG.here h rs (.bl _)⟩
    · exact h.elim
  · exact h.elim

/-! ### places -/
def dIx : D → D → S → Res D
  | .tup xs, .int i, st => match atI xs i with
    | some x => .ok x st
    | none => .stuck
  | .loc k, .int i, st => match itemsAt st k with
    | some xs => (match atI xs i with
      | some x => .ok x st
      | none => .stuck)
    | none => .stuck
  | _, _, _ => .stuck
theorem atI_rep {K : PySem.W.Frag} {φ : List Addr} {H : Hp} {xs : List D} {vs : List V} {i : Int} {x : D} (r : RepL K φ H xs vs) (h : atI xs i = some x) : ∃ v, atI vs i = some v ∧ RepV K φ H x v := by
  unfold L2.atI at h ⊢
  rw [← r.length]
  cases e : ixN xs.length i with
  | none => rw [e] at h; cases h
  | some j =>
    rw [e] at h
    exact r.get h
theorem od_ix {K : PySem.W.Frag} : OpD K (rIx K) dIx := by
  intro cm W φ H σ st x y v w Q rs rx ry h
  cases rx <;> cases ry <;> first | exact False.elim h | skip
  · rename_i a xs vs s1 r1 i
    dsimp only [dIx] at h
    split at h
    · rename_i x e
      obtain ⟨v, e1, r2⟩ := atI_rep r1 e
      exact .inr (.inl ⟨a, vs, i, v, rfl, rfl, s1, e1, AtG.here h rs r2⟩)
    · exact h.elim
  · rename_i k a h1 i
    dsimp only [dIx] at h
    split at h
    · rename_i xs e
      obtain ⟨vs, s1, r1⟩ := rs.seqL h1 e
      split at h
      · rename_i x e2
        obtain ⟨v, e1, r2⟩ := atI_rep r1 e2
        exact .inl ⟨a, vs, i, v, rfl, rfl, s1, e1, AtG.here h rs r2⟩
      · exact h.elim
    · exact h.elim
/-- xs[i] = v -/
def dSetIx : D → D → D → S → Option S
  | .loc k, .int i, v, st => match st[k]? with
    | some (.lst xs) => (match ixN xs.length i with
      | some j => some (st.set k (.lst (xs.set j v)))
      | none => none)
    | _ => none
  | _, _, _, _ => none
theorem sd_ix {K : PySem.W.Frag} : SetD K rSetL dSetIx := by
  intro φ H st st' o i v o' i' v' Q rs ro ri rv e h
  cases ro <;> cases ri <;> first | (cases e; done) | skip
  rename_i k a h1 i
  dsimp only [dSetIx] at e
  split at e
  · rename_i xs e1
    split at e
    · rename_i j e2
      cases e
      obtain ⟨vs, g1, g2⟩ := rs.obj k a _ h1 e1
      refine ⟨a, vs, i, j, rfl, rfl, g1, by rw [← g2.length]; exact e2, ?_⟩
      exact h _ (Kp.write (by rw [g1]; exact trivial)) (rs.write h1 e1 (g2.set rv j))
    · cases e
  · cases e

/-! ### slices -/
abbrev DO := Nv → S → Res (Option Int)
abbrev RO : List Addr → Hp → Option Int → Option Int → Prop := fun _ _ a b => a = b
abbrev tO (K : PySem.W.Frag) (cm : Str → Addr) (W : WX) (m : DO) : TO := tG K cm W RO m
def oNone : DO := fun _ st => .ok none st
def asI (x : D) (st : S) : Res (Option Int) := match x with
  | .int i => .ok (some i) st
  | _ => .stuck
def oSome (m : DE) : DO := fun ρ st => (m ρ st).bind asI
def cutD (xs : List D) (lo hi : Option Int) : List D := (xs.drop (HT.sIx xs.length 0 lo)).take (HT.sIx xs.length xs.length hi - HT.sIx xs.length 0 lo)
def dSl (x : D) (lo hi : Option Int) (st : S) : Res D := match x with
  | .tup xs => .ok (.tup (cutD xs lo hi)) st
  | .loc k => match itemsAt st k with
    | some xs => .ok (.loc st.length) (st ++ [.lst (cutD xs lo hi)])
    | none => .stuck
  | _ => .stuck
def eSl (m : DE) (lo hi : DO) : DE := fun ρ st => (m ρ st).bind fun x st => (lo ρ st).bind fun a st => (hi ρ st).bind fun b st => dSl x a b st
theorem cut_rep {K : PySem.W.Frag} {φ : List Addr} {H : Hp} {xs : List D} {vs : List V} (r : RepL K φ H xs vs) (lo hi : Option Int) : RepL K φ H (cutD xs lo hi) (cutV vs lo hi) := by
  unfold cutD L2.cutV
  rw [r.length]
  exact (r.drop _).take _
theorem cut_whole {xs : List D} {lo hi : Option Int} (h : HT.sIx xs.length 0 lo = 0 ∧ HT.sIx xs.length xs.length hi = xs.length) : cutD xs lo hi = xs := by
  unfold cutD
  rw [h.1, h.2, List.drop_zero, Nat.sub_zero, List.take_length]
section
variable {X : Cx} {cm : Str → Addr} {W : WX} {e a b : Expr} {es : List Expr} {m : DE} {pos : Pos} {lo hi : Option Expr} {ml mh : DO}
theorem conv_O {e : Option Expr} {t t' : TO} (h : PO X e t) (c : ∀ σ H Q, t' σ H Q → t σ H Q) : PO X e t' := ⟨fun pins s σ H Q I q => h.run pins s σ H Q I (c σ H Q q)⟩
theorem rO_none : PO X none (tO X.K cm W oNone) := by
  refine conv_O po_none fun σ H Q h => ?_
  obtain ⟨φ, ρ, st, hd, h⟩ := h
  exact AtG.here (R := RO) h hd.s rfl
theorem rO_some (h : PE X e (tE X.K cm W m)) : PO X (some e) (tO X.K cm W (oSome m)) := by
  refine conv_O (po_some h) fun σ H Q h => ?_
  obtain ⟨φ, ρ, st, hd, h⟩ := h
  refine tG_bind hd h fun x st1 φ1 H1 v e1 k1 hd1 r1 h1 => ?_
  unfold asI at h1
  split at h1
  · cases r1
    exact ⟨_, rfl, AtG.here (R := RO) h1 hd1.s rfl⟩
  · exact h1.elim
theorem rE_sl {p2 : Pos} (he : PE X e (tE X.K cm W m)) (hl : PO X lo (tO X.K cm W ml)) (hu : PO X hi (tO X.K cm W mh)) : PE X (.Subscript e (.Slice lo hi none p2) pos) (tE X.K cm W (eSl m ml mh)) := by
  refine conv_E (pe_slice (sl_tupA.or sl_list) he hl hu) fun σ H Q h => ?_
  obtain ⟨φ, ρ, st, hd, h⟩ := h
  refine tG_bind hd h fun x st1 φ1 H1 v e1 k1 hd1 r1 h1 => ?_
  refine tG_bind hd1 h1 fun lo st2 φ2 H2 lo' e2 k2 hd2 r2 h2 => ?_
  refine tG_bind hd2 h2 fun hi st3 φ3 H3 hi' e3 k3 hd3 r3 h3 => ?_
  have r2' : lo = lo' := r2
  have r3' : hi = hi' := r3
  subst r2' r3'
  have r1' := r1.mono (e2.trans e3) (k2.trans k3)
  revert h3
  cases r1' with
  | tup s1 r4 =>
    rename_i a xs vs
    intro h3
    refine .inl ⟨a, vs, rfl, s1, fun hw => ?_, fun hw p hp => ?_⟩
    · rw [← r4.length] at hw
      unfold dSl at h3
      dsimp only at h3
      rw [cut_whole hw] at h3
      exact AtG.here h3 hd3.s (.tup s1 r4)
    · have k := Kp.new (o := .tup (cutV vs lo hi)) hp
      exact h3 φ3 _ _ (Ext.refl _) k (hd3.s.beside hp) (.tup (SqT.of upd_same) ((cut_rep r4 lo hi).mono (Ext.refl _) k))
  | loc g =>
    rename_i k a
    intro h3
    unfold dSl at h3
    dsimp only at h3
    split at h3
    · rename_i xs e4
      obtain ⟨vs, s1, r4⟩ := hd3.s.seqL g e4
      refine .inr ⟨a, vs, rfl, s1, fun p hp => ?_⟩
      refine h3 (φ3 ++ [p]) _ _ (Ext.one _ _) (Kp.new hp) (hd3.s.alloc hp (cut_rep r4 lo hi)) (.loc ?_)
      rw [← hd3.s.len, List.getElem?_append_right (Nat.le_refl _), Nat.sub_self]
      rfl
    · exact h3.elim
  | _ => intro h3; exact h3.elim
end

/-! ### calls of built-ins -/
def dMax : List D → S → Res D
  | [.int i, .int j], st => .ok (.int (if j > i then j else i)) st
  | _, _ => .stuck
def dMin : List D → S → Res D
  | [.int i, .int j], st => .ok (.int (if j < i then j else i)) st
  | _, _ => .stuck
def dAbs : List D → S → Res D
  | [.int i], st => .ok (.int (if i < 0 then -i else i)) st
  | _, _ => .stuck
def dInt : List D → S → Res D
  | [.int i], st => .ok (.int i) st
  | [.bl k], st => .ok (.int (if k then 1 else 0)) st
  | _, _ => .stuck
def dLen : List D → S → Res D
  | [.tup xs], st => .ok (.int xs.length) st
  | [.str x], st => if x.length ≤ sizeLine then .ok (.int x.length) st else .stuck
  | [.loc k], st => match itemsAt st k with
    | some xs => .ok (.int xs.length) st
    | none => .stuck
  | _, _ => .stuck
def dTuple : List D → S → Res D
  | [.tup xs], st => .ok (.tup xs) st
  | [.loc k], st => match itemsAt st k with
    | some xs => .ok (.tup xs) st
    | none => .stuck
  | _, _ => .stuck
def dList : List D → S → Res D
  | [.tup xs], st => .ok (.loc st.length) (st ++ [.lst xs])
  | [.loc k], st => match itemsAt st k with
    | some xs => .ok (.loc st.length) (st ++ [.lst xs])
    | none => .stuck
  | _, _ => .stuck
section
variable {K : PySem.W.Frag}
theorem RepL.one {φ : List Addr} {H : Hp} {x : D} {vs : List V} (r : RepL K φ H [x] vs) : ∃ v, vs = [v] ∧ RepV K φ H x v := by
  cases r with
  | cons r t => cases t; exact ⟨_, rfl, r⟩
theorem RepL.two {φ : List Addr} {H : Hp} {x y : D} {vs : List V} (r : RepL K φ H [x, y] vs) : ∃ v w, vs = [v, w] ∧ RepV K φ H x v ∧ RepV K φ H y w := by
  cases r with
  | cons r t =>
    obtain ⟨w, rfl, t2⟩ := t.one
    exact ⟨_, _, rfl, r, t2⟩
theorem cd_max : CallD K (fun xs H Q => ∃ i j, xs = [.int i, .int j] ∧ Q (.int (if j > i then j else i)) H) dMax := by
  intro cm W φ H σ st xs vs Q rs r h
  unfold dMax at h
  split at h
  · obtain ⟨v, w, rfl, r1, r2⟩ := r.two
    cases r1
    cases r2
    exact ⟨_, _, rfl, AtG.here h rs (.int _)⟩
  · exact h.elim
theorem cd_min : CallD K (fun xs H Q => ∃ i j, xs = [.int i, .int j] ∧ Q (.int (if j < i then j else i)) H) dMin := by
  intro cm W φ H σ st xs vs Q rs r h
  unfold dMin at h
  split at h
  · obtain ⟨v, w, rfl, r1, r2⟩ := r.two
    cases r1
    cases r2
    exact ⟨_, _, rfl, AtG.here h rs (.int _)⟩
  · exact h.elim
theorem cd_abs : CallD K (fun xs H Q => ∃ i, xs = [.int i] ∧ Q (.int (if i < 0 then -i else i)) H) dAbs := by
  intro cm W φ H σ st xs vs Q rs r h
  unfold dAbs at h
  split at h
  · obtain ⟨v, rfl, r1⟩ := r.one
    cases r1
    exact ⟨_, rfl, AtG.here h rs (.int _)⟩
  · exact h.elim
theorem cd_int : CallD K (fun xs H Q => (∃ i, xs = [.int i] ∧ Q (.int i) H) ∨ ∃ k, xs = [.bl k] ∧ Q (.int (if k then 1 else 0)) H) dInt := by
  intro cm W φ H σ st xs vs Q rs r h
  unfold dInt at h
  split at h
  · obtain ⟨v, rfl, r1⟩ := r.one
    cases r1
    exact .inl ⟨_, rfl, AtG.here h rs (.int _)⟩
  · obtain ⟨v, rfl, r1⟩ := r.one
    cases r1
    exact .inr ⟨_, rfl, AtG.here h rs (.int _)⟩
  · exact h.elim
theorem cd_len : CallD K (fun xs H Q => ∃ x n, xs = [x] ∧ LenV K x H n ∧ Q (.int n) H) dLen := by
  intro cm W φ H σ st xs vs Q rs r h
  unfold dLen at h
  split at h
  · obtain ⟨v, rfl, r1⟩ := r.one
    cases r1 with
    | tup s1 r2 =>
      refine ⟨_, _, rfl, .inr ⟨_, s1, rfl⟩, ?_⟩
      rw [← r2.length]
      exact AtG.here h rs (.int _)
  · obtain ⟨v, rfl, r1⟩ := r.one
    cases r1
    split at h
    · rename_i hl
      exact ⟨_, _, rfl, ⟨hl, rfl⟩, AtG.here h rs (.int _)⟩
    · exact h.elim
  · obtain ⟨v, rfl, r1⟩ := r.one
    cases r1 with
    | loc g =>
      split at h
      · rename_i xs e
        obtain ⟨vs, s1, r2⟩ := rs.seqL g e
        refine ⟨_, _, rfl, .inl ⟨_, s1, rfl⟩, ?_⟩
        rw [← r2.length]
        exact AtG.here h rs (.int _)
      · exact h.elim
  · exact h.elim
theorem cd_tuple : CallD K (fun xs H Q => ∃ p ys, xs = [.ref p] ∧ ((SqL K H p ys ∧ ∀ l, H l = none → Q (.ref l) (upd H l (.tup ys))) ∨ (SqT K H p ys ∧ Q (.ref p) H))) dTuple := by
  intro cm W φ H σ st xs vs Q rs r h
  unfold dTuple at h
  split at h
  · obtain ⟨v, rfl, r1⟩ := r.one
    cases r1 with
    | tup s1 r2 => exact ⟨_, _, rfl, .inr ⟨s1, AtG.here h rs (.tup s1 r2)⟩⟩
  · obtain ⟨v, rfl, r1⟩ := r.one
    cases r1 with
    | loc g =>
      split at h
      · rename_i xs e
        obtain ⟨vs, s1, r2⟩ := rs.seqL g e
        refine ⟨_, vs, rfl, .inl ⟨s1, fun l hl => ?_⟩⟩
        have k := Kp.new (o := .tup vs) hl
        exact h φ _ _ (Ext.refl _) k (rs.beside hl) (.tup (SqT.of upd_same) (r2.mono (Ext.refl _) k))
      · exact h.elim
  · exact h.elim
theorem alloc_at {cm : Str → Addr} {W : WX} {φ : List Addr} {H : Hp} {σ : L2.St} {st : S} {xs : List D} {vs : List V} {Q : VK} (rs : RepS K φ H st) (r : RepL K φ H xs vs) (h : AtG K cm W (RV K) φ H σ Q (.ok (.loc st.length) (st ++ [.lst xs]))) : ∀ p, H p = none → Q (.ref p) (upd H p (.lst vs)) := by
  intro p hp
  refine h (φ ++ [p]) _ _ (Ext.one _ _) (Kp.new hp) (rs.alloc hp r) (.loc ?_)
  rw [← rs.len, List.getElem?_append_right (Nat.le_refl _), Nat.sub_self]
  rfl
theorem cd_list : CallD K (fun xs H Q => ∃ p ys, xs = [.ref p] ∧ (SqL K H p ys ∨ SqT K H p ys) ∧ ∀ l, H l = none → Q (.ref l) (upd H l (.lst ys))) dList := by
  intro cm W φ H σ st xs vs Q rs r h
  unfold dList at h
  split at h
  · obtain ⟨v, rfl, r1⟩ := r.one
    cases r1 with
    | tup s1 r2 => exact ⟨_, _, rfl, .inr s1, alloc_at rs r2 h⟩
  · obtain ⟨v, rfl, r1⟩ := r.one
    cases r1 with
    | loc g =>
      split at h
      · rename_i xs e
        obtain ⟨vs, s1, r2⟩ := rs.seqL g e
        exact ⟨_, _, rfl, .inl s1, alloc_at rs r2 h⟩
      · exact h.elim
  · exact h.elim
end

/-! ### repr -/
def dRepr : List D → S → Res D
  | [x], st => match toP st 64 x with
    | some d => if d.showable = true ∧ d.hasDict = false ∧ d.depth ≤ 70 ∧ d.shown.length ≤ sizeLine then .ok (.str d.shown) st else .stuck
    | none => .stuck
  | _, _ => .stuck
theorem call_reprD {X : Cx} (hG : X.A.guards = some []) (hu : X.A.units + 100 < cLine) : CallR X (.builtin "repr") (fun xs H Q => ∃ x d, xs = [x] ∧ Dp X.K H x d ∧ d.showable = true ∧ d.hasDict = false ∧ d.depth ≤ 70 ∧ d.shown.length ≤ sizeLine ∧ Q (.str d.shown) H) := by
  intro pins s σ H xs us Q I r h
  obtain ⟨x, d, rfl, hd, h1, h2, h3, h4, q⟩ := h
  obtain ⟨u, rfl, ru⟩ := vals1 r
  obtain ⟨as, rd⟩ := hd.reads I d x u ru
  have disp : ∀ a, u = .ref a → wpAny (model X.prog X.w) X.A (call (.builtin "repr") [u]) (EP X pins σ Q) X.xe s := by
    intro a e
    subst e
    exact repr_of_reads' rd h1 (PySem.PyData.noDict_hsm h2) hG (by omega) (fun b o e => e) (fun h' u tk hk => ⟨.str d.shown, H, I.kept hk, ⟨_, rfl⟩, q⟩) h4
  cases hd with
  | non =>
    cases ru
    exact PySem.P.repr_of_none ⟨.str _, H, I.tok _, ⟨_, rfl⟩, q⟩
  | bl b =>
    cases ru
    exact PySem.P.repr_of_bool ⟨.str _, H, I.tok _, ⟨_, rfl⟩, q⟩
  | int i =>
    obtain ⟨t, rfl⟩ := ru
    exact PySem.P.repr_of_int (of_decide_eq_true h1) ⟨.str _, H, I.tok _, ⟨_, rfl⟩, q⟩
  | str z =>
    obtain ⟨t, rfl⟩ := ru
    exact PySem.P.repr_of_str ⟨.str _, H, I.tok _, ⟨_, rfl⟩, q⟩ (hsz := h4)
  | lst _ _ => cases ru; exact disp _ rfl
  | tup _ _ => cases ru; exact disp _ rfl
theorem cd_repr {K : PySem.W.Frag} : CallD K (fun xs H Q => ∃ x d, xs = [x] ∧ Dp K H x d ∧ d.showable = true ∧ d.hasDict = false ∧ d.depth ≤ 70 ∧ d.shown.length ≤ sizeLine ∧ Q (.str d.shown) H) dRepr := by
  intro cm W φ H σ st xs vs Q rs r h
  unfold dRepr at h
  split at h
  · obtain ⟨v, rfl, r1⟩ := r.one
    split at h
    · rename_i d e
      split at h
      · rename_i hc
        exact ⟨v, d, rfl, toP_dp rs _ _ _ _ r1 e, hc.1, hc.2.1, hc.2.2.1, hc.2.2.2, AtG.here h rs (.str _)⟩
      · exact h.elim
    · exact h.elim
  · exact h.elim
end Rol

/-! Methods of lists, what is walked, comprehensions, chains. -/
namespace Rol
open PySem L2 PySem.Spec
open PyProof.Rows hiding St

/-! ### methods of lists -/
def MtD (K : PySem.W.Frag) (r : V → List V → Hp → VK → Prop) (f : D → List D → S → Res D) : Prop :=
  ∀ (cm : Str → Addr) (W : WX) (φ : List Addr) (H : Hp) (σ : L2.St) (st : S) (x : D) (v : V) (xs : List D) (vs : List V) (Q : VK), RepS K φ H st → RepV K φ H x v → RepL K φ H xs vs → AtG K cm W (RV K) φ H σ Q (f x xs st) → r v vs H Q
def isLst (x : D) (st : S) : Bool := match x with
  | .loc k => (itemsAt st k).isSome
  | _ => false
def eMt (f : D → List D → S → Res D) (mo : DE) (l : DA) : DE := fun ρ st => (mo ρ st).bind fun x st => if isLst x st = true then (l ρ st).bind fun xs st => f x xs st else .stuck
theorem isLst_ty {K : PySem.W.Frag} {φ : List Addr} {H : Hp} {st : S} {x : D} {v : V} (rs : RepS K φ H st) (r : RepV K φ H x v) (h : isLst x st = true) : tyV K "list" v H := by
  cases r with
  | loc g =>
    rename_i k a
    unfold isLst at h
    dsimp only at h
    cases e : itemsAt st k with
    | none => rw [e] at h; cases h
    | some xs =>
      obtain ⟨vs, s1, _⟩ := rs.seqL g e
      exact .inl ⟨rfl, vs, s1⟩
  | _ => cases h
section
variable {X : Cx} {cm : Str → Addr} {W : WX} {o e : Expr} {es : List Expr} {mo : DE} {ml : DA} {name : Str} {apos cpos : Pos} {id : String} {r : V → List V → Hp → VK → Prop} {f : D → List D → S → Res D}
theorem rE_mt0 (pa : PlainAttrs "list") (slot : Slot "list" name id) (hty : typeOf (.builtin id) = pure (.type "method_descriptor")) (hm : MtR X id r) (hr : MtD X.K r f) (ho : PE X o (tE X.K cm W mo)) (hbase : attributeBase o name X.env (eval o X.env) = eval o X.env := by rfl) (hline : (apos.endLine == cpos.line) = true := by rfl) :
    PE X (.Call (.Attribute o name apos) [] [] cpos) (tE X.K cm W (eMt f mo aNil)) := by
  refine conv_E (pe_bm0 pa slot hty hm ho hbase hline) fun σ H Q h => ?_
  obtain ⟨φ, ρ, st, hd, h⟩ := h
  refine tG_bind hd h fun x st1 φ1 H1 v e1 k1 hd1 r1 h1 => ?_
  split at h1
  · rename_i hl
    exact ⟨isLst_ty hd1.s r1 hl, hr cm W φ1 H1 σ st1 x v [] [] Q hd1.s r1 .nil h1⟩
  · exact h1.elim
theorem rE_mt (pa : PlainAttrs "list") (slot : Slot "list" name id) (hty : typeOf (.builtin id) = pure (.type "method_descriptor")) (hm : MtR X id r) (hr : MtD X.K r f) (ho : PE X o (tE X.K cm W mo)) (ha : PA X (e :: es) (tA X.K cm W ml)) (hbase : attributeBase o name X.env (eval o X.env) = eval o X.env := by rfl)
    (hfew : ((backTo cpos (starEach (e :: es) X.env)).all (fun x => !x.1) && (backToKw cpos (keywordEach [] X.env)).all (fun x => x.1.isSome) && decide ((e :: es).length + ([] : List Keyword).length + (if ([] : List Keyword).isEmpty then 0 else 1) < 30)) = true := by rfl)
    (hline : (apos.endLine == cpos.line) = true := by rfl) (hs : starEach (e :: es) X.env = (false, eval e X.env) :: starEach es X.env := by rfl) (hplain : (backTo cpos (starEach es X.env)).any (·.1) = false := by rfl) :
    PE X (.Call (.Attribute o name apos) (e :: es) [] cpos) (tE X.K cm W (eMt f mo ml)) := by
  refine conv_E (pe_bm pa slot hty hm ho ha hbase hfew hline hs hplain) fun σ H Q h => ?_
  obtain ⟨φ, ρ, st, hd, h⟩ := h
  refine tG_bind hd h fun x st1 φ1 H1 v e1 k1 hd1 r1 h1 => ?_
  split at h1
  · rename_i hl
    refine ⟨isLst_ty hd1.s r1 hl, ?_⟩
    refine tG_bind hd1 h1 fun xs st2 φ2 H2 vs e2 k2 hd2 r2 h2 => ?_
    exact hr cm W φ2 H2 σ st2 x v xs vs Q hd2.s (r1.mono e2 k2) r2 h2
  · exact h1.elim
theorem list_extend_tupW (l : Addr) (items : Array Value) (n : Nat) (b : Addr) (items2 : Array Value) (n2 : Nat) (dd : Option Addr) (sl : Array (Option Value)) (door : ¬(!items.isEmpty && Builtin.List.listTooLong (items.size + items2.size)) = true) (z1 : items.size ≤ sizeLine) (z2 : items.size + items2.size ≤ sizeLine + 1) :
    Meets (Builtin.«list.extend» ⟨[.ref l, .ref b], []⟩) (fun _ R s => s.heap.get? l = some { cls := .type "list", dict := none, data := .seq items n, slots := #[] } ∧ s.heap.get? b = some { cls := .type "tuple", dict := dd, data := .seq items2 n2, slots := sl } ∧ R (.ok (.ret Value.none)) { s with heap := s.heap.update l (Obj.mapSeq fun x => x ++ items2), toks := s.toks }) :=
  .of_wp fun prog w A R s h => by
    obtain ⟨hp, g, d, tk, os⟩ := s
    obtain ⟨hl, hb, h⟩ := h
    have f1 := AutoSeq1.idx_int
    have f2 := AutoSeq1.sub_tuple_tuple
    have f3 := AutoSeq1.sub_list_list
    have f4 := AutoSeq1.sub_tuple_list
    have f5 := AutoSeq1.sub_list_tuple
    have zz : (items ++ items2).size ≤ sizeLine + 1 := by simp; exact z2
    wp_walk using (wpAny_updateSeq hl rfl (hz := z1) (_hz' := zz)), wpAny_loadPart' hl, wpAny_loadPart' hb
    exact ⟨_, rfl, h⟩
theorem mt_extendT : MtM X "list.extend" (fun x vs H Q => ∃ l b xs zs, x = .ref l ∧ vs = [.ref b] ∧ H l = some (.lst xs) ∧ SqT X.K H b zs ∧ xs.length + zs.length ≤ sizeLine ∧ Q .non (upd H l (.lst (xs ++ zs)))) := by
  intro pins s σ H x vs v us Q I rx rv h
  obtain ⟨l, b, xs, zs, rfl, rfl, hH, hB, hz, q⟩ := h
  cases rx
  obtain ⟨u, rfl, ru⟩ := rv.one
  cases ru
  obtain ⟨z, its, n, r, hl, e⟩ := I.lstM hH
  obtain ⟨its2, r2, ⟨⟨cls, dd, data, sl⟩, ho, hc, n2, hd⟩, hs2⟩ := I.tuple hB
  simp only at hc hd
  subst hc hd
  have l2 := r2.length
  have big : its.toArray.size + its2.toArray.size ≤ sizeLine := by simp; omega
  have door : ¬ (!its.toArray.isEmpty && Builtin.List.listTooLong (its.toArray.size + its2.toArray.size)) = true := by
    rw [notLongL big, Bool.and_false]
    decide
  refine call_meets PySem.F.slot_list_extend ⟨_, e, rfl⟩ PySem.F.entry_list_extend (PySem.F.args_list_extend_2 _ _) (list_extend_tupW l its.toArray n b its2.toArray n2 dd sl door (by simp; omega) (by omega)) ⟨e, ho, .non, _, I.lset (its' := its ++ its2) hH e (by simp) (r.append r2) ?_, rfl, q⟩
  rw [List.length_append]
  omega
end
end Rol

/-! Methods of lists by data, what is walked. -/
namespace Rol
open PySem L2 PySem.Spec
open PyProof.Rows hiding St

def dAppend : D → List D → S → Res D
  | .loc k, [y], st => match st[k]? with
    | some (.lst xs) => if xs.length < sizeLine then .ok .non (st.set k (.lst (xs ++ [y]))) else .stuck
    | _ => .stuck
  | _, _, _ => .stuck
def dExtend : D → List D → S → Res D
  | .loc k, [.loc j], st => match st[k]?, st[j]? with
    | some (.lst xs), some (.lst ys) => if xs.length + ys.length ≤ sizeLine then .ok .non (st.set k (.lst (xs ++ ys))) else .stuck
    | _, _ => .stuck
  | .loc k, [.tup ys], st => match st[k]? with
    | some (.lst xs) => if xs.length + ys.length ≤ sizeLine then .ok .non (st.set k (.lst (xs ++ ys))) else .stuck
    | _ => .stuck
  | _, _, _ => .stuck
def dPop : D → List D → S → Res D
  | .loc k, [], st => match st[k]? with
    | some (.lst xs) => (match xs[xs.length - 1]? with
      | some y => .ok y (st.set k (.lst (xs.eraseIdx (xs.length - 1))))
      | none => .stuck)
    | _ => .stuck
  | .loc k, [.int i], st => match st[k]? with
    | some (.lst xs) => if -(2 ^ 63) ≤ i ∧ i < 2 ^ 63 then (match seqIndex? i xs.length with
      | some j => (match xs[j]? with
        | some y => .ok y (st.set k (.lst (xs.eraseIdx j)))
        | none => .stuck)
      | none => .stuck) else .stuck
    | _ => .stuck
  | _, _, _ => .stuck
theorem AtG.put {K : PySem.W.Frag} {cm : Str → Addr} {W : WX} {φ : List Addr} {H : Hp} {σ : L2.St} {st : S} {k : Nat} {a : Addr} {d : D} {v : V} {ys xs : List D} {vs : List V} {Q : VK} (h : AtG K cm W (RV K) φ H σ Q (.ok d (st.set k (.lst xs)))) (rs : RepS K φ H st) (h1 : φ[k]? = some a) (h2 : st[k]? = some (.lst ys)) (r : RepL K φ H xs vs) (rd : RepV K φ H d v) : Q v (upd H a (.lst vs)) := by
  obtain ⟨ws, g1, _⟩ := rs.obj k a _ h1 h2
  have kp : Kp H (upd H a (.lst vs)) := Kp.write (by rw [g1]; exact trivial)
  exact h φ _ v (Ext.refl _) kp (rs.write h1 h2 r) (rd.mono (Ext.refl _) kp)
section
variable {K : PySem.W.Frag}
theorem md_append : MtD K rAppend dAppend := by
  intro cm W φ H σ st x v xs vs Q rs rx r h
  unfold dAppend at h
  split at h
  · rename_i k y
    obtain ⟨w, rfl, ry⟩ := r.one
    cases rx with
    | loc g =>
      rename_i a
      split at h
      · rename_i ys e
        split at h
        · rename_i hl
          obtain ⟨ws, g1, g2⟩ := rs.obj k a _ g e
          exact ⟨a, ws, w, rfl, rfl, g1, by rw [← g2.length]; exact hl, h.put rs g e (g2.append (.cons ry .nil)) .non⟩
        · exact h.elim
      · exact h.elim
  · exact h.elim
def rExtendA (K : PySem.W.Frag) : V → List V → Hp → VK → Prop := fun x vs H Q => rExtend x vs H Q ∨ ∃ l b xs zs, x = .ref l ∧ vs = [.ref b] ∧ H l = some (.lst xs) ∧ SqT K H b zs ∧ xs.length + zs.length ≤ sizeLine ∧ Q .non (upd H l (.lst (xs ++ zs)))
theorem mt_extendA {X : Cx} : MtM X "list.extend" (rExtendA X.K) := MtR.or mt_extend mt_extendT
theorem md_extend : MtD K (rExtendA K) dExtend := by
  intro cm W φ H σ st x v xs vs Q rs rx r h
  unfold dExtend at h
  split at h
  · rename_i k j
    obtain ⟨w, rfl, ry⟩ := r.one
    cases rx with
    | loc g =>
      rename_i a
      cases ry with
      | loc g' =>
        rename_i b
        split at h
        · rename_i ys zs e e'
          split at h
          · rename_i hl
            obtain ⟨ws, g1, g2⟩ := rs.obj k a _ g e
            obtain ⟨us, g3, g4⟩ := rs.obj j b _ g' e'
            exact .inl ⟨a, b, ws, us, rfl, rfl, g1, g3, by rw [← g2.length, ← g4.length]; exact hl, h.put rs g e (g2.append g4) .non⟩
          · exact h.elim
        · exact h.elim
  · rename_i k zs
    obtain ⟨w, rfl, ry⟩ := r.one
    cases rx with
    | loc g =>
      rename_i a
      cases ry with
      | tup s1 r1 =>
        rename_i b us
        split at h
        · rename_i ys e
          split at h
          · rename_i hl
            obtain ⟨ws, g1, g2⟩ := rs.obj k a _ g e
            exact .inr ⟨a, b, ws, us, rfl, rfl, g1, s1, by rw [← g2.length, ← r1.length]; exact hl, h.put rs g e (g2.append r1) .non⟩
          · exact h.elim
        · exact h.elim
  · exact h.elim
theorem dropLast_erase {α : Type} (xs : List α) : xs.dropLast = xs.eraseIdx (xs.length - 1) := by
  induction xs with
  | nil => rfl
  | cons x xs ih =>
    cases xs with
    | nil => rfl
    | cons y ys =>
      show x :: (y :: ys).dropLast = _
      rw [ih]
      simp [List.eraseIdx]
theorem mt_popA {X : Cx} : MtM X "list.pop" (fun x vs H Q => rPop x vs H Q ∨ rPopAt x vs H Q) := MtR.or mt_pop mt_popAt
theorem md_pop : MtD K (fun x vs H Q => rPop x vs H Q ∨ rPopAt x vs H Q) dPop := by
  intro cm W φ H σ st x v xs vs Q rs rx r h
  unfold dPop at h
  split at h
  · rename_i k
    cases r
    cases rx with
    | loc g =>
      rename_i a
      split at h
      · rename_i ys e
        split at h
        · rename_i y ey
          obtain ⟨ws, g1, g2⟩ := rs.obj k a _ g e
          obtain ⟨w, g3, g4⟩ := g2.get ey
          refine .inl ⟨a, ws, w, rfl, rfl, g1, by rw [← g2.length]; exact g3, ?_⟩
          rw [dropLast_erase, ← g2.length]
          exact h.put rs g e (g2.erase _) g4
        · exact h.elim
      · exact h.elim
  · rename_i k i
    obtain ⟨w, rfl, ry⟩ := r.one
    cases ry
    cases rx with
    | loc g =>
      rename_i a
      split at h
      · rename_i ys e
        split at h
        · rename_i hb
          split at h
          · rename_i j ej
            split at h
            · rename_i y ey
              obtain ⟨ws, g1, g2⟩ := rs.obj k a _ g e
              obtain ⟨w, g3, g4⟩ := g2.get ey
              exact .inr ⟨a, ws, i, j, w, rfl, rfl, g1, hb.1, hb.2, by rw [← g2.length]; exact ej, g3, h.put rs g e (g2.erase _) g4⟩
            · exact h.elim
          · exact h.elim
        · exact h.elim
      · exact h.elim
  · exact h.elim
end

/-! ### what is walked -/
def iSeq (m : DE) : DI := fun ρ st => (m ρ st).bind fun x st => match x with
  | .tup xs => .ok (xs, none) st
  | .loc k => match itemsAt st k with
    | some xs => .ok (xs, some k) st
    | none => .stuck
  | _ => .stuck
def irange (lo : Int) (n : Nat) : List D := (List.range n).map fun (i : Nat) => D.int (lo + (i : Int))
def iRg1 (l : DA) : DI := fun ρ st => (l ρ st).bind fun xs st => match xs with
  | [.int j] => if -(2 ^ 62) ≤ j ∧ j < 2 ^ 62 then .ok (irange 0 j.toNat, none) st else .stuck
  | _ => .stuck
def iRg2 (l : DA) : DI := fun ρ st => (l ρ st).bind fun xs st => match xs with
  | [.int i, .int j] => if -(2 ^ 62) ≤ i ∧ i < 2 ^ 62 ∧ -(2 ^ 62) ≤ j ∧ j < 2 ^ 62 then .ok (irange i (j - i).toNat, none) st else .stuck
  | _ => .stuck
/-- zip of two tuples -/
def iZipT (l : DA) : DI := fun ρ st => (l ρ st).bind fun xs st => match xs with
  | [.tup a, .tup b] => .ok (List.zipWith (fun x y => .tup [x, y]) a b, none) st
  | _ => .stuck
section
variable {K : PySem.W.Frag} {φ : List Addr} {H : Hp}
theorem it_tup {a : Addr} {xs : List D} {vs : List V} (s : SqT K H a vs) (r : RepL K φ H xs vs) : ItOk K φ H (xs, none) (Itt K a) where
  stop := fun φ' H' st i e k rs g hl => ⟨vs, k.sqT s, by rw [← r.length]; exact hl⟩
  go := fun φ' H' st i e k rs g hl => ⟨vs, vs[i]'(by rw [← r.length]; exact hl), k.sqT s, by simp⟩
  yld := fun φ' H' st i v H2 x e k rs g hx y => by
    obtain ⟨e1, e2⟩ := y
    subst e1
    obtain ⟨w, h1, h2⟩ := r.get hx
    have h3 := e2 vs (k.sqT s)
    rw [h1] at h3
    cases h3
    exact ⟨Kp.refl _, rs, h2.mono e k⟩
theorem it_lst {k : Nat} {a : Addr} {xs : List D} (h : φ[k]? = some a) : ItOk K φ H (xs, some k) (Itl K a) where
  stop := fun φ' H' st i e kp rs g hl => by
    obtain ⟨vs, s1, r1⟩ := rs.seqL (e.get h) g
    exact ⟨vs, s1, by rw [← r1.length]; exact hl⟩
  go := fun φ' H' st i e kp rs g hl => by
    obtain ⟨vs, s1, r1⟩ := rs.seqL (e.get h) g
    exact ⟨vs, vs[i]'(by rw [← r1.length]; exact hl), s1, by simp⟩
  yld := fun φ' H' st i v H2 x e kp rs g hx y => by
    obtain ⟨e1, e2⟩ := y
    subst e1
    obtain ⟨vs, s1, r1⟩ := rs.seqL (e.get h) g
    obtain ⟨w, h1, h2⟩ := r1.get hx
    have h3 := e2 vs s1
    rw [h1] at h3
    cases h3
    exact ⟨Kp.refl _, rs, h2⟩
theorem irange_get {lo : Int} {n i : Nat} {x : D} (h : (irange lo n)[i]? = some x) : x = .int (lo + (i : Int)) := by
  unfold irange at h
  rw [List.getElem?_map] at h
  cases e : (List.range n)[i]? with
  | none => rw [e] at h; cases h
  | some j =>
    rw [e] at h
    obtain ⟨_, hj⟩ := List.getElem?_eq_some_iff.mp e
    simp at hj
    subst hj
    exact (Option.some.inj h).symm
theorem irange_len (lo : Int) (n : Nat) : (irange lo n).length = n := by
  unfold irange
  simp
theorem it_range (lo : Int) (n : Nat) : ItOk K φ H (irange lo n, none) (Itr lo n) where
  stop := fun φ' H' st i e kp rs g hl => by rwa [irange_len] at hl
  go := fun φ' H' st i e kp rs g hl => by rwa [irange_len] at hl
  yld := fun φ' H' st i v H2 x e kp rs g hx y => by
    obtain ⟨e1, e2⟩ := y
    subst e1 e2
    have := irange_get (n := n) hx
    subst this
    exact ⟨Kp.refl _, rs, .int _⟩
theorem it_zipT {a b : Addr} {xs ys : List D} {vs ws : List V} (s1 : SqT K H a vs) (r1 : RepL K φ H xs vs) (s2 : SqT K H b ws) (r2 : RepL K φ H ys ws) : ItOk K φ H (List.zipWith (fun x y => .tup [x, y]) xs ys, none) (RZ.ItzT K a b) where
  stop := fun φ' H' st i e k rs g hl => by
    simp only [List.length_zipWith] at hl
    refine ⟨vs, ws, k.sqT s1, k.sqT s2, ?_⟩
    rw [← r1.length, ← r2.length]
    omega
  go := fun φ' H' st i e k rs g hl => by
    simp only [List.length_zipWith] at hl
    exact ⟨vs, ws, vs[i]'(by rw [← r1.length]; omega), ws[i]'(by rw [← r2.length]; omega), k.sqT s1, k.sqT s2, by simp, by simp⟩
  yld := fun φ' H' st i v H2 x e k rs g hx y => by
    obtain ⟨T, u, w, rfl, hT, rfl, y1, y2⟩ := y
    rw [List.getElem?_zipWith] at hx
    cases ex : xs[i]? with
    | none => rw [ex] at hx; cases hx
    | some x1 =>
      cases ey : ys[i]? with
      | none => rw [ex, ey] at hx; cases hx
      | some x2 =>
        rw [ex, ey] at hx
        cases hx
        obtain ⟨v1, a1, a2⟩ := r1.get ex
        obtain ⟨v2, b1, b2⟩ := r2.get ey
        have c1 := y1 vs (k.sqT s1)
        have c2 := y2 ws (k.sqT s2)
        rw [a1] at c1
        rw [b1] at c2
        cases c1
        cases c2
        exact ⟨Kp.new hT, rs.beside hT, .tup (SqT.of upd_same) (.cons (a2.mono e (k.trans (Kp.new hT))) (.cons (b2.mono e (k.trans (Kp.new hT))) .nil))⟩
end
section
variable {X : Cx} {cm : Str → Addr} {W : WX} {tg e e2 a b : Expr} {m : DE} {ml : DA} {p pos : Pos}
theorem rI_seq (he : PE X e (tE X.K cm W m)) : PI X tg e (tI X.K cm W (iSeq m)) := by
  constructor
  intro pins s σ H R I h
  obtain ⟨φ, ρ, st, hd, h⟩ := h
  unfold iSeq at h
  cases em : m ρ st with
  | stuck =>
    rw [em] at h
    exact h.elim
  | exc c w st1 =>
    rw [em] at h
    refine (pi_tup he).run pins s σ H R I ⟨φ, ρ, st, hd, ?_⟩
    rw [em]
    exact h
  | ok x st1 =>
    rw [em, Res.bind_ok] at h
    cases x with
    | tup xs =>
      refine (pi_tup he).run pins s σ H R I ⟨φ, ρ, st, hd, ?_⟩
      rw [em]
      intro φ1 H1 v e1 k1 s1 r1
      cases r1 with
      | tup q r2 => exact ⟨_, rfl, ⟨_, q⟩, h φ1 H1 _ e1 k1 s1 (it_tup q r2)⟩
    | loc k =>
      dsimp only at h
      cases ei : itemsAt st1 k with
      | none =>
        rw [ei] at h
        exact h.elim
      | some xs =>
        rw [ei] at h
        refine (pi_list he).run pins s σ H R I ⟨φ, ρ, st, hd, ?_⟩
        rw [em]
        intro φ1 H1 v e1 k1 s1 r1
        cases r1 with
        | loc q =>
          obtain ⟨vs, g1, g2⟩ := s1.seqL q ei
          exact ⟨_, rfl, ⟨_, g1⟩, h φ1 H1 _ e1 k1 s1 (it_lst q)⟩
    | _ => exact h.elim
theorem conv_I {tg e : Expr} {t t' : TI} (h : PI X tg e t) (c : ∀ σ H Q, t' σ H Q → t σ H Q) : PI X tg e t' := ⟨fun pins s σ H Q I q => h.run pins s σ H Q I (c σ H Q q)⟩
theorem rI_range1 (hm : X.mg "range" = none) (ha : PA X [a] (tA X.K cm W ml)) (hg : Gl X "range" := by rfl) (hs : starEach [a] X.env = [(false, eval a X.env)] := by rfl) : PI X tg (.Call (.Name "range" p) [a] [] pos) (tI X.K cm W (iRg1 ml)) := by
  refine conv_I (pi_range1 hg hm ha hs) fun σ H Q h => ?_
  obtain ⟨φ, ρ, st, hd, h⟩ := h
  refine tG_bind hd h fun xs st1 φ1 H1 vs e1 k1 hd1 r1 h1 => ?_
  split at h1
  · split at h1
    · rename_i j hb
      obtain ⟨v, rfl, r2⟩ := r1.one
      cases r2
      exact ⟨j, rfl, hb.1, hb.2, h1 φ1 H1 _ (Ext.refl _) (Kp.refl _) hd1.s (it_range 0 j.toNat)⟩
    · exact h1.elim
  · exact h1.elim
theorem rI_range2 (hm : X.mg "range" = none) (ha : PA X [a, b] (tA X.K cm W ml)) (hg : Gl X "range" := by rfl) (hs : starEach [a, b] X.env = [(false, eval a X.env), (false, eval b X.env)] := by rfl) (hs2 : starEach [b] X.env = [(false, eval b X.env)] := by rfl) :
    PI X tg (.Call (.Name "range" p) [a, b] [] pos) (tI X.K cm W (iRg2 ml)) := by
  refine conv_I (pi_range2 hg hm ha hs hs2) fun σ H Q h => ?_
  obtain ⟨φ, ρ, st, hd, h⟩ := h
  refine tG_bind hd h fun xs st1 φ1 H1 vs e1 k1 hd1 r1 h1 => ?_
  split at h1
  · split at h1
    · rename_i i j hb
      obtain ⟨v, w, rfl, r2, r3⟩ := r1.two
      cases r2
      cases r3
      exact ⟨i, j, rfl, hb, h1 φ1 H1 _ (Ext.refl _) (Kp.refl _) hd1.s (it_range i (j - i).toNat)⟩
    · exact h1.elim
  · exact h1.elim
theorem rI_zipT {elts : List Expr} {kk : Nat} {tpos : Pos} (hm : X.mg "zip" = none) (ha : PA X [e, e2] (tA X.K cm W ml)) (hg : Gl X "zip" := by rfl) (hs : starEach [e, e2] X.env = (false, eval e X.env) :: starEach [e2] X.env := by rfl) (hpl : (backTo pos (starEach [e2] X.env)).any (·.1) = false := by rfl) :
    PI X (.Tuple elts kk tpos) (.Call (.Name "zip" p) [e, e2] [] pos) (tI X.K cm W (iZipT ml)) := by
  refine conv_I (RZ.pi_zipA hg hm ha hs hpl) fun σ H Q h => ?_
  obtain ⟨φ, ρ, st, hd, h⟩ := h
  refine tG_bind hd h fun xs st1 φ1 H1 vs e1 k1 hd1 r1 h1 => ?_
  split at h1
  · obtain ⟨v, w, rfl, r2, r3⟩ := r1.two
    cases r2 with
    | tup q2 g2 =>
      cases r3 with
      | tup q3 g3 => exact ⟨_, _, _, _, rfl, .inr ⟨q2, q3, h1 φ1 H1 _ (Ext.refl _) (Kp.refl _) hd1.s (it_zipT q2 g2 q3 g3)⟩⟩
  · exact h1.elim
end
end Rol

/-! Comprehensions. -/
namespace Rol
open PySem L2 PySem.Spec
open PyProof.Rows hiding St

def wipeD (ρ : Nv) : List Nat → Nv
  | [] => ρ
  | v :: vs => (wipeD ρ vs).set v none
theorem wipeD_length (ρ : Nv) : ∀ vs : List Nat, (wipeD ρ vs).length = ρ.length
  | [] => rfl
  | v :: vs => by unfold wipeD; rw [List.length_set, wipeD_length ρ vs]
theorem wipeD_some {ρ : Nv} {i : Nat} {x : D} : ∀ {vs : List Nat}, (wipeD ρ vs)[i]? = some (some x) → ρ[i]? = some (some x) ∧ i ∉ vs
  | [], h => ⟨h, by simp⟩
  | v :: vs, h => by
    unfold wipeD at h
    by_cases hi : v = i
    · subst hi
      by_cases hv : v < (wipeD ρ vs).length
      · rw [List.getElem?_set_self hv] at h
        cases h
      · rw [List.getElem?_eq_none (by simpa using hv)] at h
        cases h
    · rw [List.getElem?_set_ne hi] at h
      obtain ⟨h1, h2⟩ := wipeD_some h
      exact ⟨h1, by simp only [List.mem_cons, not_or]; exact ⟨fun e => hi e.symm, h2⟩⟩
theorem wipe_in {σ : L2.St} {i : Nat} : ∀ {vs : List Nat}, i ∈ vs → i < σ.length → (wipe σ vs)[i]? = some none
  | v :: vs, h, hl => by
    unfold L2.wipe
    by_cases e : v = i
    · subst e
      exact List.getElem?_set_self (by rw [wipe_length]; exact hl)
    · rw [List.getElem?_set_ne e]
      rcases List.mem_cons.mp h with z | z
      · exact absurd z.symm e
      · exact wipe_in z hl
theorem wipe_same {σ σ' : L2.St} {is vs : List Nat} (o : Rol.Only is (wipe σ vs) σ') (h : ∀ i ∈ is, i ∈ vs) : wipe σ' vs = wipe σ vs := by
  have hl : σ'.length = σ.length := by rw [o.1, wipe_length]
  apply List.ext_getElem?
  intro i
  by_cases hi : i ∈ vs
  · by_cases hb : i < σ.length
    · rw [wipe_in hi hb, wipe_in hi (by rw [hl]; exact hb)]
    · rw [List.getElem?_eq_none (by rw [wipe_length]; omega), List.getElem?_eq_none (by rw [wipe_length]; omega)]
  · rw [wipe_out hi, o.2 i (fun z => hi (h i z)), wipe_out hi]
theorem RepE.wipe {K : PySem.W.Frag} {φ : List Addr} {H : Hp} {ρ : Nv} {σ : L2.St} (h : RepE K φ H ρ σ) (vs : List Nat) : RepE K φ H (wipeD ρ vs) (L2.wipe σ vs) := by
  refine ⟨by rw [wipeD_length, wipe_length]; exact h.1, fun i d q => ?_⟩
  obtain ⟨q1, q2⟩ := wipeD_some q
  obtain ⟨v, h1, h2⟩ := h.2 i d q1
  exact ⟨v, by rw [wipe_out q2]; exact h1, h2⟩

/-- nothing is raised within -/
abbrev W0 : WX := fun _ _ _ _ => False
def Res.calm {α : Type} (r : Res α) : Res α := match r with
  | .ok a st => .ok a st
  | _ => .stuck
@[simp] theorem Res.calm_ok {α : Type} (a : α) (st : S) : (Res.ok a st).calm = .ok a st := rfl
open Classical in
noncomputable def compL (gd : S → Prop) (p : Pat) (test : DT) (elt : DE) (n : Nat) : List D → Nv → S → Res Unit
  | [], _, st => if gd st then .ok () st else .stuck
  | x :: xs, ρ, st => if gd st then (match setP p x ρ with
    | none => .stuck
    | some ρ' => (test ρ' st).bind fun b st => if b = true then (elt ρ' st).bind fun y st => (match st[n]? with
        | some (.lst acc) => if acc.length < sizeLine then compL gd p test elt n xs ρ (st.set n (.lst (acc ++ [y]))) else .stuck
        | _ => .stuck) else compL gd p test elt n xs ρ st) else .stuck
noncomputable def eComp (mi : DI) (p : Pat) (vs : List Nat) (test : DT) (elt : DE) : DE := fun ρ st => (mi ρ st).bind fun xg st => ((compL (Gd xg.2 xg.1) p test elt st.length xg.1 (wipeD ρ vs) (st ++ [.lst []])).calm).bind fun _ st' => .ok (.loc st.length) st'
open Classical in
noncomputable def compL2 (gd : S → Prop) (p : Pat) (test : DT) (mi1 : DI) (p1 : Pat) (vs1 : List Nat) (test1 : DT) (elt : DE) (n : Nat) : List D → Nv → S → Res Unit
  | [], _, st => if gd st then .ok () st else .stuck
  | x :: xs, ρ, st => if gd st then (match setP p x ρ with
    | none => .stuck
    | some ρ' => (test ρ' st).bind fun b st => if b = true then (mi1 ρ' st).bind fun xg st => (compL (Gd xg.2 xg.1) p1 test1 elt n xg.1 (wipeD ρ' vs1) st).bind fun _ st => compL2 gd p test mi1 p1 vs1 test1 elt n xs ρ st
        else compL2 gd p test mi1 p1 vs1 test1 elt n xs ρ st) else .stuck
noncomputable def eComp2 (mi : DI) (p : Pat) (vs : List Nat) (test : DT) (mi1 : DI) (p1 : Pat) (vs1 : List Nat) (test1 : DT) (elt : DE) : DE := fun ρ st => (mi ρ st).bind fun xg st =>
  ((compL2 (Gd xg.2 xg.1) p test mi1 p1 vs1 test1 elt st.length xg.1 (wipeD ρ vs) (st ++ [.lst []])).calm).bind fun _ st' => .ok (.loc st.length) st'

abbrev RU : List Addr → Hp → Unit → Unit → Prop := fun _ _ _ _ => True
section
variable {K : PySem.W.Frag} {cm : Str → Addr} {J : It} {p : Pat} {vs : List Nat} {test : DT} {elt : DE} {n : Nat} {σ : L2.St} {D₀ : Addr}
/-- the loop of a comprehension, from an invariant by data -/
theorem comp_run {φ₁ : List Addr} {H₁ : Hp} {xs : List D} {gu : Option Nat} {φ : List Addr} {H : Hp} {ρ : Nv} {st : S} {Fin : Hp → Prop} (it : ItOk K φ₁ H₁ (xs, gu) J) (e₁ : Ext φ₁ φ) (k₁ : Kp H₁ H) (hD : φ[n]? = some D₀) (hd : Hd K φ H (wipe σ vs) ρ st) (hp : ∀ i ∈ p.ids, i ∈ vs)
    (h : AtG K cm W0 RU φ H (wipe σ vs) (fun _ H => Fin H) (compL (Gd gu xs) p test elt n xs ρ st)) :
    ∃ W : Nat → Nat → Hp → Prop, (∃ m, W 0 m H) ∧ ∀ i m H, W i m H → (J.stop i H ∧ Fin H) ∨ (J.go i H ∧ ∃ Nx : Hp → Prop, (∀ H', Nx H' → ∃ m', m' < m ∧ W (i + 1) m' H') ∧ ∀ x H', J.yld i H x H' →
      gOf K p x (wipe σ vs) H' fun σ2 H2 => wipe σ2 vs = wipe σ vs ∧ tT K cm W0 test σ2 H2 fun b H3 => if b = true then tE K cm W0 elt σ2 H3 fun y H4 => ∃ acc, H4 D₀ = some (.lst acc) ∧ acc.length < sizeLine ∧ Nx (upd H4 D₀ (.lst (acc ++ [y]))) else Nx H3) := by
  refine ⟨fun i m H' => m = xs.length - i ∧ i ≤ xs.length ∧ ∃ φ' st', Ext φ φ' ∧ Kp H H' ∧ Hd K φ' H' (wipe σ vs) ρ st' ∧ AtG K cm W0 RU φ' H' (wipe σ vs) (fun _ H => Fin H) (compL (Gd gu xs) p test elt n (xs.drop i) ρ st'),
    ⟨xs.length, by simp, Nat.zero_le _, φ, st, Ext.refl _, Kp.refl _, hd, h⟩, ?_⟩
  rintro i m H2 ⟨rfl, hi, φ2, st2, e2, k2, hd2, h2⟩
  by_cases hlt : i < xs.length
  · rw [List.drop_eq_getElem_cons hlt] at h2
    unfold compL at h2
    split at h2
    · rename_i gd
      refine .inr ⟨it.go φ2 H2 st2 i (e₁.trans e2) (k₁.trans k2) hd2.s gd hlt, fun H' => i + 1 ≤ xs.length ∧ ∃ φ' st', Ext φ φ' ∧ Kp H H' ∧ Hd K φ' H' (wipe σ vs) ρ st' ∧ AtG K cm W0 RU φ' H' (wipe σ vs) (fun _ H => Fin H) (compL (Gd gu xs) p test elt n (xs.drop (i + 1)) ρ st'),
        fun H' ⟨l', q'⟩ => ⟨xs.length - (i + 1), by omega, rfl, l', q'⟩, fun v H3 y => ?_⟩
      obtain ⟨k3, s3, r3⟩ := it.yld φ2 H2 st2 i v H3 xs[i] (e₁.trans e2) (k₁.trans k2) hd2.s gd (by simp [hlt]) y
      cases e4 : setP p xs[i] ρ with
      | none =>
        rw [e4] at h2
        exact h2.elim
      | some ρ3 =>
        rw [e4] at h2
        dsimp only at h2
        refine gOf_ok p φ2 H3 (wipe σ vs) ρ st2 xs[i] v ρ3 _ (hd2.mono (Ext.refl _) k3 s3) r3 e4 fun σ3 o3 hd3 => ⟨wipe_same o3 hp, ?_⟩
        have h3 := AtG.mono (Ext.refl _) k3 h2
        have h3' : AtG K cm W0 RU φ2 H3 σ3 (fun _ H => Fin H) _ := h3
        refine tG_bind hd3 h3' fun b st4 φ4 H4 b' e4 k4 hd4 r4 h4 => ?_
        have r4' : b = b' := r4
        subst r4'
        have dn : ∀ {φ' : List Addr} {H' : Hp} {st' : S}, Ext φ2 φ' → Kp H2 H' → RepS K φ' H' st' → Hd K φ' H' (wipe σ vs) ρ st' := fun e k s => ⟨s, hd2.e.mono e k⟩
        cases b with
        | true =>
          rw [if_pos rfl] at h4 ⊢
          refine tG_bind hd4 h4 fun y st5 φ5 H5 y' e5 k5 hd5 r5 h5 => ?_
          split at h5
          · rename_i acc ea
            split at h5
            · rename_i hl
              have hn : φ5[n]? = some D₀ := (e4.trans e5).get (e2.get hD)
              obtain ⟨ws, g1, g2⟩ := hd5.s.obj n D₀ _ hn ea
              have kp : Kp H5 (upd H5 D₀ (.lst (ws ++ [y']))) := Kp.write (by rw [g1]; exact trivial)
              refine ⟨ws, g1, by rw [← g2.length]; exact hl, hlt, φ5, _, e2.trans (e4.trans e5), (((k2.trans k3).trans k4).trans k5).trans kp, dn (e4.trans e5) (((k3.trans k4).trans k5).trans kp) (hd5.s.write hn ea (g2.append (.cons r5 .nil))), ?_⟩
              exact AtG.mono (Ext.refl _) kp h5
            · exact h5.elim
          · exact h5.elim
        | false =>
          rw [if_neg Bool.false_ne_true] at h4 ⊢
          exact ⟨hlt, φ4, st4, e2.trans e4, (k2.trans k3).trans k4, dn e4 (k3.trans k4) hd4.s, h4⟩
    · exact h2.elim
  · have hi' : i = xs.length := by omega
    subst hi'
    rw [List.drop_length] at h2
    unfold compL at h2
    split at h2
    · rename_i gd
      exact .inl ⟨it.stop φ2 H2 st2 _ (e₁.trans e2) (k₁.trans k2) hd2.s gd (Nat.le_refl _), AtG.here (R := RU) (b := ()) h2 hd2.s trivial⟩
    · exact h2.elim
/-- what is wanted behind the comprehension, as what is wanted behind its loop -/
theorem comp_want {W : WX} {φ : List Addr} {H : Hp} {σ' : L2.St} {Q : VK} {r : Res Unit} (hD : φ[n]? = some D₀) (h : AtG K cm W (RV K) φ H σ Q ((r.calm).bind fun _ st' => .ok (.loc n) st')) : AtG K cm W0 RU φ H σ' (fun _ H => Q (.ref D₀) H) r := by
  cases r with
  | ok a st => exact fun φ' H' b e k s _ => h φ' H' _ e k s (.loc (e.get hD))
  | exc c w st => exact h.elim
  | stuck => exact h.elim
end
section
variable {X : Cx} {cm : Str → Addr} {W : WX} {elt tg iter tg1 iter1 : Expr} {ifs ifs1 : List Expr} {scope : Scope} {own : List (Str × Nat)} {pos spos py : Pos} {mi mi1 : DI} {p p1 : Pat} {mt mt1 : DT} {me : DE} {y : Str}
def tYesD : DT := fun _ st => .ok true st
theorem conv_Ts {X : Cx} {e : List Expr} {t t' : TT} (h : PTs X e t) (c : ∀ σ H Q, t' σ H Q → t σ H Q) : PTs X e t' := ⟨fun pins s σ H Q I q => h.run pins s σ H Q I (c σ H Q q)⟩
theorem rTs_nil : PTs X [] (tT X.K cm W tYesD) := by
  refine conv_Ts pts_nil fun σ H Q h => ?_
  obtain ⟨φ, ρ, st, hd, h⟩ := h
  exact AtG.here (R := RB) h hd.s rfl
theorem rTs_one {c : Expr} (h : PT X c (tT X.K cm W mt)) : PTs X [c] (tT X.K cm W mt) := pts_one h
theorem lc_read (hp : ∀ i ∈ p.ids, i ∈ own.map (·.2)) (σ : L2.St) (H : Hp) (Q : VK) (h : tE X.K cm W (eComp mi p (own.map (·.2)) mt me) σ H Q) :
    tLc (tI X.K cm W mi) (gOf X.K p) (tT X.K cm W0 mt) (tE X.K cm W0 me) (own.map (·.2)) σ H Q := by
  obtain ⟨φ, ρ, st, hd, h⟩ := h
  refine tG_bind hd h fun xg st1 φ1 H1 J e1 k1 hd1 r1 h1 => ?_
  intro D₀ hD
  have hn : (φ1 ++ [D₀])[st1.length]? = some D₀ := by
    rw [← hd1.s.len, List.getElem?_append_right (Nat.le_refl _), Nat.sub_self]
    rfl
  have k2 : Kp H1 (upd H1 D₀ (.lst [])) := Kp.new hD
  have s2 := hd1.s.alloc (xs := []) (vs := []) hD .nil
  exact comp_run r1 (Ext.one _ _) k2 hn ⟨s2, ((hd1.e.mono (Ext.one _ _) k2)).wipe _⟩ hp (comp_want hn (AtG.mono (Ext.one _ _) k2 h1))
theorem rE_comp (own : List (Str × Nat)) (hc : X.calm = true) (hN : X.N.Nodup) (hi : PI X tg iter (tI X.K cm W mi)) (ok : BlkOk X.N X.env.scope scope own)
    (hg : ∀ (s : Shared) (H : Hp) (C : Addr) (cl : List (Str × Addr)) (fp : List Addr), JG (X.blk s H scope (compEnvC scope cl C X.env) fp) tg p) (ht : ∀ (s : Shared) (H : Hp) (C : Addr) (cl : List (Str × Addr)) (fp : List Addr), PTs (X.blk s H scope (compEnvC scope cl C X.env) fp) ifs (tT X.K cm W0 mt))
    (he : ∀ (s : Shared) (H : Hp) (C : Addr) (cl : List (Str × Addr)) (fp : List Addr), PE (X.blk s H scope (compEnvC scope cl C X.env) fp) elt (tE X.K cm W0 me)) (hp : ∀ i ∈ p.ids, i ∈ own.map (·.2) := by decide) (hs : ∀ x, foldedSetIterable iter X.env x = pure x := by intro _; rfl) :
    PE X (.ListComp elt [⟨tg, iter, ifs, 0⟩] scope pos) (tE X.K cm W (eComp mi p (own.map (·.2)) mt me)) := conv_E (pe_lc (g := gOf X.K p) hc hN hi ok hg ht he hs) (lc_read hp)
theorem rS_setComp (i : Nat) (own : List (Str × Nat)) (hc : X.calm = true) (hN : X.N.Nodup) (hyl : X.env.scope.names.lookup y = some .local) (hsw : swapsWith (.ListComp elt [⟨tg, iter, ifs, 0⟩] scope pos) (some (.Name y py)) spos.line X.env = pure true) (hi : PI X tg iter (tI X.K cm W mi)) (ok : BlkOk X.N X.env.scope scope own)
    (hg : ∀ (s : Shared) (H : Hp) (C : Addr) (cl : List (Str × Addr)) (fp : List Addr), JG (X.blk s H scope (compEnvC scope cl C X.env) fp) tg p) (ht : ∀ (s : Shared) (H : Hp) (C : Addr) (cl : List (Str × Addr)) (fp : List Addr), PTs (X.blk s H scope (compEnvC scope cl C X.env) fp) ifs (tT X.K cm W0 mt))
    (he : ∀ (s : Shared) (H : Hp) (C : Addr) (cl : List (Str × Addr)) (fp : List Addr), PE (X.blk s H scope (compEnvC scope cl C X.env) fp) elt (tE X.K cm W0 me)) (hy : X.N[i]? = some y := by rfl) (hp : ∀ i ∈ p.ids, i ∈ own.map (·.2) := by decide) (hs : ∀ x, foldedSetIterable iter X.env x = pure x := by intro _; rfl) :
    PS X (.Assign [.Name y py] (.ListComp elt [⟨tg, iter, ifs, 0⟩] scope pos) spos) (tS X.K cm W (sSet i (eComp mi p (own.map (·.2)) mt me))) := by
  refine conv_S (ps_setLc (g := gOf X.K p) hc hN hy hyl hsw hi ok hg ht he hs) fun E σ H h => ?_
  obtain ⟨φ, ρ, st, hd, h⟩ := h
  refine lc_read hp σ H _ ?_
  refine AtS.bind hd h fun x st1 φ1 H1 b e1 k1 hd1 r1 h1 => ?_
  exact h1.next ⟨hd1.s, hd1.e.set r1 i⟩
/-! two clauses -/
theorem lc2_read {vs1 : List Nat} (hp : ∀ i ∈ p.ids, i ∈ own.map (·.2)) (hp1 : ∀ i ∈ p1.ids, i ∈ vs1) (σ : L2.St) (H : Hp) (Q : VK) (h : tE X.K cm W (eComp2 mi p (own.map (·.2)) mt mi1 p1 vs1 mt1 me) σ H Q) :
    tLc2 (tI X.K cm W mi) (gOf X.K p) (tT X.K cm W0 mt) (tI X.K cm W0 mi1) (gOf X.K p1) (tT X.K cm W0 mt1) (tE X.K cm W0 me) (own.map (·.2)) vs1 σ H Q := by
  obtain ⟨φ, ρ, st, hd, h⟩ := h
  refine tG_bind hd h fun xg st1 φ1 H1 J e1 k1 hd1 r1 h1 => ?_
  obtain ⟨xs, gu⟩ := xg
  intro D₀ hD
  have hn : (φ1 ++ [D₀])[st1.length]? = some D₀ := by
    rw [← hd1.s.len, List.getElem?_append_right (Nat.le_refl _), Nat.sub_self]
    rfl
  have k2 : Kp H1 (upd H1 D₀ (.lst [])) := Kp.new hD
  have s2 := hd1.s.alloc (xs := []) (vs := []) hD .nil
  have hdw : Hd X.K (φ1 ++ [D₀]) (upd H1 D₀ (.lst [])) (wipe σ (own.map (·.2))) (wipeD ρ (own.map (·.2))) (st1 ++ [.lst []]) := ⟨s2, ((hd1.e.mono (Ext.one _ _) k2)).wipe _⟩
  have h2 : AtG X.K cm W0 RU (φ1 ++ [D₀]) (upd H1 D₀ (.lst [])) (wipe σ (own.map (·.2))) (fun _ H => Q (.ref D₀) H) _ := comp_want hn (AtG.mono (Ext.one _ _) k2 h1)
  dsimp only at h2
  generalize wipeD ρ (own.map (·.2)) = ρw at hdw h2
  generalize st1.length = n at hn h2
  refine ⟨fun i m H' => m = xs.length - i ∧ i ≤ xs.length ∧ ∃ φ' st', Ext (φ1 ++ [D₀]) φ' ∧ Kp (upd H1 D₀ (.lst [])) H' ∧ Hd X.K φ' H' (wipe σ (own.map (·.2))) ρw st' ∧ AtG X.K cm W0 RU φ' H' (wipe σ (own.map (·.2))) (fun _ H => Q (.ref D₀) H) (compL2 (Gd gu xs) p mt mi1 p1 vs1 mt1 me n (xs.drop i) ρw st'),
    ⟨xs.length, by simp, Nat.zero_le _, _, _, Ext.refl _, Kp.refl _, hdw, h2⟩, ?_⟩
  rintro i m H3 ⟨rfl, hi, φ3, st3, e3, k3, hd3, h3⟩
  by_cases hlt : i < xs.length
  · rw [List.drop_eq_getElem_cons hlt] at h3
    unfold compL2 at h3
    split at h3
    · rename_i gd
      refine .inr ⟨r1.go φ3 H3 st3 i ((Ext.one _ _).trans e3) (k2.trans k3) hd3.s gd hlt, fun H' => i + 1 ≤ xs.length ∧ ∃ φ' st', Ext (φ1 ++ [D₀]) φ' ∧ Kp (upd H1 D₀ (.lst [])) H' ∧ Hd X.K φ' H' (wipe σ (own.map (·.2))) ρw st' ∧ AtG X.K cm W0 RU φ' H' (wipe σ (own.map (·.2))) (fun _ H => Q (.ref D₀) H) (compL2 (Gd gu xs) p mt mi1 p1 vs1 mt1 me n (xs.drop (i + 1)) ρw st'),
        fun H' ⟨l', q'⟩ => ⟨xs.length - (i + 1), by omega, rfl, l', q'⟩, fun v H4 y => ?_⟩
      obtain ⟨k4, s4, r4⟩ := r1.yld φ3 H3 st3 i v H4 xs[i] ((Ext.one _ _).trans e3) (k2.trans k3) hd3.s gd (by simp [hlt]) y
      cases e4 : setP p xs[i] ρw with
      | none =>
        rw [e4] at h3
        exact h3.elim
      | some ρ4 =>
        rw [e4] at h3
        dsimp only at h3
        refine gOf_ok p φ3 H4 _ ρw st3 xs[i] v ρ4 _ (hd3.mono (Ext.refl _) k4 s4) r4 e4 fun σ4 o4 hd4 => ⟨wipe_same o4 hp, ?_⟩
        have h4 := AtG.mono (Ext.refl _) k4 h3
        have h4' : AtG X.K cm W0 RU φ3 H4 σ4 (fun _ H => Q (.ref D₀) H) _ := h4
        have dn : ∀ {φ' : List Addr} {H' : Hp} {st' : S}, Ext φ3 φ' → Kp H3 H' → RepS X.K φ' H' st' → Hd X.K φ' H' (wipe σ (own.map (·.2))) ρw st' := fun e k s => ⟨s, hd3.e.mono e k⟩
        refine tG_bind hd4 h4' fun b st5 φ5 H5 b' e5 k5 hd5 r5 h5 => ?_
        have r5' : b = b' := r5
        subst r5'
        cases b with
        | true =>
          rw [if_pos rfl] at h5 ⊢
          refine tG_bind hd5 h5 fun xg1 st6 φ6 H6 J1 e6 k6 hd6 r6 h6 => ?_
          refine comp_run (σ := σ4) r6 (Ext.refl _) (Kp.refl _) ((e5.trans e6).get (e3.get hn)) ⟨hd6.s, hd6.e.wipe _⟩ hp1 ?_
          refine AtG.bind h6 fun _ st7 φ7 H7 b7 e7 k7 s7 _ h7 => ?_
          exact ⟨hlt, φ7, st7, e3.trans ((e5.trans e6).trans e7), (((k3.trans k4).trans k5).trans k6).trans k7, dn ((e5.trans e6).trans e7) (((k4.trans k5).trans k6).trans k7) s7, h7⟩
        | false =>
          rw [if_neg Bool.false_ne_true] at h5 ⊢
          exact ⟨hlt, φ5, st5, e3.trans e5, (k3.trans k4).trans k5, dn e5 (k4.trans k5) hd5.s, h5⟩
    · exact h3.elim
  · have hi' : i = xs.length := by omega
    subst hi'
    rw [List.drop_length] at h3
    unfold compL2 at h3
    split at h3
    · rename_i gd
      exact .inl ⟨r1.stop φ3 H3 st3 _ ((Ext.one _ _).trans e3) (k2.trans k3) hd3.s gd (Nat.le_refl _), AtG.here (R := RU) (b := ()) h3 hd3.s trivial⟩
    · exact h3.elim
theorem rE_comp2 (own : List (Str × Nat)) (vs1 : List Nat) (hc : X.calm = true) (hN : X.N.Nodup) (hi : PI X tg iter (tI X.K cm W mi)) (ok : BlkOk X.N X.env.scope scope own)
    (hg : ∀ (s : Shared) (H : Hp) (C : Addr) (cl : List (Str × Addr)) (fp : List Addr), JG (X.blk s H scope (compEnvC scope cl C X.env) fp) tg p) (ht : ∀ (s : Shared) (H : Hp) (C : Addr) (cl : List (Str × Addr)) (fp : List Addr), PTs (X.blk s H scope (compEnvC scope cl C X.env) fp) ifs (tT X.K cm W0 mt))
    (hi1 : ∀ (s : Shared) (H : Hp) (C : Addr) (cl : List (Str × Addr)) (fp : List Addr), PI (X.blk s H scope (compEnvC scope cl C X.env) fp) tg1 iter1 (tI X.K cm W0 mi1)) (hg1 : ∀ (s : Shared) (H : Hp) (C : Addr) (cl : List (Str × Addr)) (fp : List Addr), JG (X.blk s H scope (compEnvC scope cl C X.env) fp) tg1 p1)
    (ht1 : ∀ (s : Shared) (H : Hp) (C : Addr) (cl : List (Str × Addr)) (fp : List Addr), PTs (X.blk s H scope (compEnvC scope cl C X.env) fp) ifs1 (tT X.K cm W0 mt1)) (he : ∀ (s : Shared) (H : Hp) (C : Addr) (cl : List (Str × Addr)) (fp : List Addr), PE (X.blk s H scope (compEnvC scope cl C X.env) fp) elt (tE X.K cm W0 me))
    (hv : ∀ i ∈ vs1, i ∈ own.map (·.2) := by decide) (hp : ∀ i ∈ p.ids, i ∈ own.map (·.2) := by decide) (hp1 : ∀ i ∈ p1.ids, i ∈ vs1 := by decide) (hs : ∀ x, foldedSetIterable iter X.env x = pure x := by intro _; rfl) (hs1 : ∀ env x, foldedSetIterable iter1 env x = pure x := by intro _ _; rfl) :
    PE X (.ListComp elt [⟨tg, iter, ifs, 0⟩, ⟨tg1, iter1, ifs1, 0⟩] scope pos) (tE X.K cm W (eComp2 mi p (own.map (·.2)) mt mi1 p1 vs1 mt1 me)) :=
  conv_E (pe_lc2 (g := gOf X.K p) (g1 := gOf X.K p1) hc hN hi ok hv hg ht hi1 hg1 ht1 he hs hs1) (lc2_read hp hp1)
theorem rS_setComp2 (i : Nat) (own : List (Str × Nat)) (vs1 : List Nat) (hc : X.calm = true) (hN : X.N.Nodup) (hyl : X.env.scope.names.lookup y = some .local) (hsw : swapsWith (.ListComp elt [⟨tg, iter, ifs, 0⟩, ⟨tg1, iter1, ifs1, 0⟩] scope pos) (some (.Name y py)) spos.line X.env = pure true) (hi : PI X tg iter (tI X.K cm W mi)) (ok : BlkOk X.N X.env.scope scope own)
    (hg : ∀ (s : Shared) (H : Hp) (C : Addr) (cl : List (Str × Addr)) (fp : List Addr), JG (X.blk s H scope (compEnvC scope cl C X.env) fp) tg p) (ht : ∀ (s : Shared) (H : Hp) (C : Addr) (cl : List (Str × Addr)) (fp : List Addr), PTs (X.blk s H scope (compEnvC scope cl C X.env) fp) ifs (tT X.K cm W0 mt))
    (hi1 : ∀ (s : Shared) (H : Hp) (C : Addr) (cl : List (Str × Addr)) (fp : List Addr), PI (X.blk s H scope (compEnvC scope cl C X.env) fp) tg1 iter1 (tI X.K cm W0 mi1)) (hg1 : ∀ (s : Shared) (H : Hp) (C : Addr) (cl : List (Str × Addr)) (fp : List Addr), JG (X.blk s H scope (compEnvC scope cl C X.env) fp) tg1 p1)
    (ht1 : ∀ (s : Shared) (H : Hp) (C : Addr) (cl : List (Str × Addr)) (fp : List Addr), PTs (X.blk s H scope (compEnvC scope cl C X.env) fp) ifs1 (tT X.K cm W0 mt1)) (he : ∀ (s : Shared) (H : Hp) (C : Addr) (cl : List (Str × Addr)) (fp : List Addr), PE (X.blk s H scope (compEnvC scope cl C X.env) fp) elt (tE X.K cm W0 me))
    (hy : X.N[i]? = some y := by rfl) (hv : ∀ i ∈ vs1, i ∈ own.map (·.2) := by decide) (hp : ∀ i ∈ p.ids, i ∈ own.map (·.2) := by decide) (hp1 : ∀ i ∈ p1.ids, i ∈ vs1 := by decide) (hs : ∀ x, foldedSetIterable iter X.env x = pure x := by intro _; rfl) (hs1 : ∀ env x, foldedSetIterable iter1 env x = pure x := by intro _ _; rfl) :
    PS X (.Assign [.Name y py] (.ListComp elt [⟨tg, iter, ifs, 0⟩, ⟨tg1, iter1, ifs1, 0⟩] scope pos) spos) (tS X.K cm W (sSet i (eComp2 mi p (own.map (·.2)) mt mi1 p1 vs1 mt1 me))) := by
  refine conv_S (ps_setLc2 (g := gOf X.K p) (g1 := gOf X.K p1) hc hN hy hyl hsw hi ok hv hg ht hi1 hg1 ht1 he hs hs1) fun E σ H h => ?_
  obtain ⟨φ, ρ, st, hd, h⟩ := h
  refine lc2_read hp hp1 σ H _ ?_
  refine AtS.bind hd h fun x st1 φ1 H1 b e1 k1 hd1 r1 h1 => ?_
  exact h1.next ⟨hd1.s, hd1.e.set r1 i⟩
end
end Rol

/-! Chains, isinstance, int of a text, pairs stored, room, sorted. -/
namespace Rol
open PySem L2 PySem.Spec
open PyProof.Rows hiding St

theorem u65 {k : Nat} {A : Around} (r : Room k A) : A.units + 65 < cLine := by have := r.un; omega
theorem u100 {k : Nat} {A : Around} (r : Room k A) : A.units + 100 < cLine := by have := r.un; omega
/-- as many arguments -/
def AL (m : DA) (n : Nat) : Prop := ∀ ρ st xs st', m ρ st = .ok xs st' → xs.length = n
theorem al_nil : AL aNil 0 := fun ρ st xs st' h => by
  cases h
  rfl
theorem al_cons {m : DE} {l : DA} {n : Nat} (h : AL l n) : AL (aCons m l) (n + 1) := fun ρ st xs st' e => by
  unfold aCons at e
  cases e1 : m ρ st with
  | ok x st1 =>
    rw [e1, Res.bind_ok] at e
    cases e2 : l ρ st1 with
    | ok ys st2 =>
      rw [e2] at e
      cases e
      rw [List.length_cons, h _ _ _ _ e2]
    | exc c w st2 => rw [e2] at e; cases e
    | stuck => rw [e2] at e; cases e
  | exc c w st1 => rw [e1] at e; cases e
  | stuck => rw [e1] at e; cases e

def eChain (f g : D → D → S → Res D) (ma mb mc : DE) : DE := fun ρ st => (ma ρ st).bind fun x st => (mb ρ st).bind fun y st => (f x y st).bind fun z st => (asB z st).bind fun b st => if b = true then (mc ρ st).bind fun w st => g y w st else .ok (.bl false) st
section
variable {X : Cx} {cm : Str → Addr} {W : WX} {a b c : Expr} {ma mb mc m : DE} {op op' : CmpOp} {r r' : L2.R2} {f g : D → D → S → Res D} {pos : Pos}
theorem chain_read (hr : OpD X.K r f) (hr' : OpD X.K r' g) (σ : L2.St) (H : Hp) (Q : VK) (h : tE X.K cm W (eChain f g ma mb mc) σ H Q) : tChain r r' (tE X.K cm W ma) (tE X.K cm W mb) (tE X.K cm W mc) σ H Q := by
  obtain ⟨φ, ρ, st, hd, h⟩ := h
  refine tG_bind hd h fun x st1 φ1 H1 v e1 k1 hd1 r1 h1 => ?_
  refine tG_bind hd1 h1 fun y st2 φ2 H2 w e2 k2 hd2 r2 h2 => ?_
  refine hr cm W φ2 H2 σ st2 x y v w _ hd2.s (r1.mono e2 k2) r2 ?_
  refine AtG.bind h2 fun z st3 φ3 H3 z' e3 k3 s3 r3 h3 => ?_
  obtain ⟨k, e, h4⟩ := asB_at r3 h3
  refine ⟨k, e, ?_⟩
  have hd3 := hd2.mono e3 k3 s3
  cases k with
  | true =>
    rw [if_pos rfl] at h4 ⊢
    refine tG_bind hd3 h4 fun u st5 φ5 H5 u' e5 k5 hd5 r5 h5 => ?_
    exact hr' cm W φ5 H5 σ st5 y u w u' Q hd5.s ((r2.mono e3 k3).mono e5 k5) r5 h5
  | false =>
    rw [if_neg Bool.false_ne_true] at h4 ⊢
    exact AtG.here (R := RV X.K) h4 s3 (.bl _)
theorem rE_chain (ho : OpR X (compareOp op) r) (hr : OpD X.K r f) (ho' : OpR X (compareOp op') r') (hr' : OpD X.K r' g) (ha : PE X a (tE X.K cm W ma)) (hb : PE X b (tE X.K cm W mb)) (hc : PE X c (tE X.K cm W mc)) (hm : lastMarks [op, op'] [b, c] = false := by with_unfolding_all rfl) :
    PE X (.Compare a [op, op'] [b, c] pos) (tE X.K cm W (eChain f g ma mb mc)) := conv_E (pe_chain ho ho' ha hb hc hm) (chain_read hr hr')
theorem rT_chain (ho : OpR X (compareOp op) r) (hr : OpD X.K r f) (ho' : OpR X (compareOp op') r') (hr' : OpD X.K r' g) (ha : PE X a (tE X.K cm W ma)) (hb : PE X b (tE X.K cm W mb)) (hc : PE X c (tE X.K cm W mc)) (hm : lastMarks [op, op'] [b, c] = false := by with_unfolding_all rfl) :
    PT X (.Compare a [op, op'] [b, c] pos) (tT X.K cm W (tOf (eChain f g ma mb mc))) := by
  refine conv_T (pt_chain ho ho' ha hb hc hm) fun σ H Q h => ?_
  obtain ⟨φ, ρ, st, hd, h⟩ := h
  show tChain r r' _ _ _ σ H _
  refine chain_read hr hr' σ H _ ⟨φ, ρ, st, hd, ?_⟩
  refine AtG.bind h fun x st1 φ1 H1 v e1 k1 s1 r1 h1 => ?_
  have h1' : AtG X.K cm W RB φ1 H1 σ Q ((asB x st1).bind fun b st => Res.ok b st) := by
    unfold asB at h1 ⊢
    split at h1
    · exact h1
    · exact h1
  obtain ⟨b, e, h2⟩ := asB_at r1 h1'
  exact ⟨b, e, AtG.here h2 s1 rfl⟩
end

/-! ### isinstance -/
def tyName (x : D) (st : S) : Option String := match x with
  | .non => some "NoneType"
  | .bl _ => some "bool"
  | .int _ => some "int"
  | .str _ => some "str"
  | .tup _ => some "tuple"
  | .loc k => (itemsAt st k).map fun _ => "list"
  | .opq _ => none
def dIsi : List D → S → Res D
  | [x, .opq (.ty T)], st => match tyName x st with
    | some n => (match kitB n T with
      | some b => .ok (.bl b) st
      | none => .stuck)
    | none => .stuck
  | _, _ => .stuck
theorem tyName_ty {K : PySem.W.Frag} {φ : List Addr} {H : Hp} {st : S} {x : D} {v : V} {n : String} (rs : RepS K φ H st) (r : RepV K φ H x v) (h : tyName x st = some n) : TyX K H v (.type n) := by
  cases r with
  | non => cases h; exact .base .non
  | bl b => cases h; exact .base (.bl b)
  | int i => cases h; exact .base (.int i)
  | str z => cases h; exact .base (.str z)
  | tup s _ =>
    cases h
    rcases s with (s | ⟨o, s⟩) | ⟨o, its, n, s, c, _⟩
    · exact .base (.tup s)
    · exact .fTuple s
    · exact .kTuple s c
  | loc g =>
    rename_i k a
    unfold tyName at h
    dsimp only at h
    cases e : itemsAt st k with
    | none => rw [e] at h; cases h
    | some xs =>
      rw [e] at h
      cases h
      obtain ⟨vs, s, _⟩ := rs.seqL g e
      rcases s with (s | ⟨o, s⟩) | ⟨o, its, n, s, c, _⟩
      · exact .base (.lst s)
      · exact .base (.frz s)
      · exact .kList s c
  | opq _ => cases h
theorem cd_isi {K : PySem.W.Frag} : CallD K (rIsi K) dIsi := by
  intro cm W φ H σ st xs vs Q rs r h
  unfold dIsi at h
  split at h
  · rename_i x T
    obtain ⟨v, w, rfl, r1, r2⟩ := r.two
    cases r2
    split at h
    · rename_i n en
      split at h
      · rename_i b eb
        exact ⟨v, .ty T, .type n, .type T, b, rfl, .ty T, tyName_ty rs r1 en, kit_ty eb, AtG.here h rs (.bl b)⟩
      · exact h.elim
    · exact h.elim
  · exact h.elim

/-! ### int of a text -/
def dIntS : List D → S → Res D
  | [.str x], st => if x.length ≤ 640 then (match PySem.intText? x with
    | some n => .ok (.int n) st
    | none => .stuck) else .stuck
  | xs, st => dInt xs st
def rIntA : List V → Hp → VK → Prop := fun xs H Q => ((∃ i, xs = [.int i] ∧ Q (.int i) H) ∨ ∃ k, xs = [.bl k] ∧ Q (.int (if k then 1 else 0)) H) ∨ (∃ a n, xs = [.str a] ∧ PySem.intText? a = some n ∧ a.length ≤ 640 ∧ Q (.int n) H)
theorem call_intA {X : Cx} : CallR X (.type "int") rIntA := call_int1.or call_int_str
theorem cd_intA {K : PySem.W.Frag} : CallD K rIntA dIntS := by
  intro cm W φ H σ st xs vs Q rs r h
  unfold dIntS at h
  split at h
  · rename_i x
    obtain ⟨v, rfl, r1⟩ := r.one
    cases r1
    split at h
    · rename_i hl
      split at h
      · rename_i n en
        exact .inr ⟨x, n, rfl, en, hl, AtG.here h rs (.int _)⟩
      · exact h.elim
    · exact h.elim
  · exact .inl (cd_int cm W φ H σ st _ vs Q rs r h)

/-! ### pairs stored -/
def sPar (is : List Nat) (l : DA) : DS := fun ρ st => (l ρ st).out ρ fun xs st => if xs.length = is.length then .nx ((is.zip xs).foldl (fun ρ p => ρ.set p.1 (some p.2)) ρ) st else .stuck
section
variable {X : Cx} {cm : Str → Addr} {W : WX} {i j l : Nat} {x y z : Str} {a b c : Expr} {ml : DA} {px py pz pt pos : Pos} {kt k2 : Nat} {pt2 : Pos}
theorem rS_par (i j : Nat) {kt k2 pt2} (hc : X.calm = true) (hN : X.N.Nodup) (hx : X.env.scope.names.lookup x = some .local) (hy : X.env.scope.names.lookup y = some .local) (ha : PA X [a, b] (tA X.K cm W ml)) (hi : X.N[i]? = some x := by rfl) (hj : X.N[j]? = some y := by rfl) (hij : i ≠ j := by decide)
    (hw : swappedStores [.Tuple [.Name x px, .Name y py] kt pt] (.Tuple [a, b] k2 pt2) X.env = pure (some [x, y]) := by rfl) (hs : swapsWithSole [.Tuple [.Name x px, .Name y py] kt pt] (.Tuple [a, b] k2 pt2) pos.line X.env = pure false := by rfl) :
    PS X (.Assign [.Tuple [.Name x px, .Name y py] kt pt] (.Tuple [a, b] k2 pt2) pos) (tS X.K cm W (sPar [i, j] ml)) := by
  refine conv_S (ps_par hc hN hi hj hij hx hy ha hw hs) fun E σ H h => ?_
  obtain ⟨φ, ρ, st, hd, h⟩ := h
  refine AtS.bind hd h fun xs st1 φ1 H1 vs e1 k1 hd1 r1 h1 => ?_
  split at h1
  · rename_i hl
    cases r1 with
    | nil => cases hl
    | cons q1 t1 =>
      cases t1 with
      | nil => cases hl
      | cons q2 t2 =>
        cases t2 with
        | nil => exact ⟨_, _, rfl, h1.next ⟨hd1.s, (hd1.e.set q1 i).set q2 j⟩⟩
        | cons q3 t3 => simp at hl
  · exact h1.elim
theorem rS_par3 (i j l : Nat) {kt k2 pt2} (hc : X.calm = true) (hN : X.N.Nodup) (hx : X.env.scope.names.lookup x = some .local) (hy : X.env.scope.names.lookup y = some .local) (hz : X.env.scope.names.lookup z = some .local) (ha : PA X [a, b, c] (tA X.K cm W ml)) (hi : X.N[i]? = some x := by rfl) (hj : X.N[j]? = some y := by rfl) (hl : X.N[l]? = some z := by rfl) (hij : i ≠ j := by decide) (hil : i ≠ l := by decide) (hjl : j ≠ l := by decide)
    (hw : swappedStores [.Tuple [.Name x px, .Name y py, .Name z pz] kt pt] (.Tuple [a, b, c] k2 pt2) X.env = pure (some [x, y, z]) := by rfl) (hs : swapsWithSole [.Tuple [.Name x px, .Name y py, .Name z pz] kt pt] (.Tuple [a, b, c] k2 pt2) pos.line X.env = pure false := by rfl) :
    PS X (.Assign [.Tuple [.Name x px, .Name y py, .Name z pz] kt pt] (.Tuple [a, b, c] k2 pt2) pos) (tS X.K cm W (sPar [i, j, l] ml)) := by
  refine conv_S (ps_par3 hc hN hi hj hl hij hil hjl hx hy hz ha hw hs) fun E σ H h => ?_
  obtain ⟨φ, ρ, st, hd, h⟩ := h
  refine AtS.bind hd h fun xs st1 φ1 H1 vs e1 k1 hd1 r1 h1 => ?_
  split at h1
  · rename_i hl'
    cases r1 with
    | nil => cases hl'
    | cons q1 t1 =>
      cases t1 with
      | nil => simp at hl'
      | cons q2 t2 =>
        cases t2 with
        | nil => simp at hl'
        | cons q3 t3 =>
          cases t3 with
          | nil => exact ⟨_, _, _, rfl, h1.next ⟨hd1.s, ((hd1.e.set q1 i).set q2 j).set q3 l⟩⟩
          | cons q4 t4 => simp at hl'
  · exact h1.elim
end

/-! ### sorted -/
open Classical in
noncomputable def sortP (st : S) (xs : List D) : Option (List D) := match optAll (toP st 64) xs with
  | some ds => if PySem.W.AllAlike ds ∧ PySem.W.Sortable ds ∧ xs.length ≤ sizeLine ∧ (∀ d ∈ ds, d.depth ≤ 70) then some ((xs.zip ds).mergeSort (PySem.W.dataLe false fun p => p.2) |>.map (·.1)) else none
  | none => none
noncomputable def dSorted : List D → S → Res D
  | [.loc k], st => match itemsAt st k with
    | some xs => (match sortP st xs with
      | some ys => .ok (.loc st.length) (st ++ [.lst ys])
      | none => .stuck)
    | none => .stuck
  | _, _ => .stuck
def rSortD (K : PySem.W.Frag) : List V → Hp → VK → Prop := fun vs H Q => ∃ (a : Addr) (xs : List V) (ds : List PyData), vs = [.ref a] ∧ SqL K H a xs ∧ DpAll K H xs ds ∧ PySem.W.AllAlike ds ∧ PySem.W.Sortable ds ∧ (∀ d ∈ ds, d.depth ≤ 70) ∧
  ∀ p, H p = none → Q (.ref p) (upd H p (.lst (((xs.zip ds).mergeSort (PySem.W.dataLe false fun p => p.2)).map (·.1))))
theorem dpAll_length {K : PySem.W.Frag} {H : Hp} : ∀ {vs : List V} {ds : List PyData}, DpAll K H vs ds → vs.length = ds.length
  | _, _, .nil => rfl
  | _, _, .cons _ t => by rw [List.length_cons, List.length_cons, dpAll_length t]
theorem each_of {X : Cx} {pins : List (Addr × Obj)} {σ : L2.St} {H : Hp} {s : Shared} (I : Inv X pins σ H s) : ∀ {vs : List V} {ds : List PyData} {us : List Value}, DpAll X.K H vs ds → Vals vs us → PySem.W.EachIs (fun (v : Value) (b : V × PyData) => RelV b.1 v) us (vs.zip ds) ∧ PySem.W.EachIs (fun (v : Value) (b : V × PyData) => ∃ as, Reads s.heap v b.2 as) us (vs.zip ds)
  | _, _, _, .nil, .nil => ⟨.nil, .nil⟩
  | _, _, _, .cons d t, .cons r tr => by
    obtain ⟨h1, h2⟩ := each_of I t tr
    exact ⟨.cons r h1, .cons (d.reads I _ _ _ r) h2⟩
theorem vals_each : ∀ {us : List Value} {bs : List (V × PyData)}, PySem.W.EachIs (fun (v : Value) (b : V × PyData) => RelV b.1 v) us bs → Vals (bs.map (·.1)) us
  | _, _, .nil => .nil
  | _, _, .cons r t => .cons r (vals_each t)
theorem zip_snd {α β : Type} : ∀ {xs : List α} {ys : List β}, xs.length = ys.length → (xs.zip ys).map (·.2) = ys
  | [], [], _ => rfl
  | x :: xs, y :: ys, h => by
    rw [List.zip_cons_cons, List.map_cons, zip_snd (by simpa using h)]
theorem call_sortD {X : Cx} (hu : X.A.units + 100 < cLine) : CallR X (.builtin "sorted") (rSortD X.K) := by
  intro pins s σ H xs us Q I r h
  obtain ⟨a, vs, ds, rfl, hs, hd, c1, c2, c3, q⟩ := h
  obtain ⟨u, rfl, ru⟩ := vals1 r
  cases ru
  obtain ⟨its, rv, pl, hz⟩ := I.list hs
  obtain ⟨e1, e2⟩ := each_of I hd rv
  have hl := dpAll_length hd
  have mp : (vs.zip ds).map (·.2) = ds := zip_snd hl
  refine PySem.W.sorted_data (enc := fun b : V × PyData => b.2) (R := fun v b => RelV b.1 v) pl.isList e1 e2 (by rw [mp]; exact c1) (by rw [mp]; exact c2) (by rw [List.length_zip, ← hl, Nat.min_self]; exact hz) (fun b hb => ?_) fun out hlen ho => ?_
  · have : b.2 ∈ ds := by
      rw [← mp]
      exact List.mem_map.mpr ⟨b, hb, rfl⟩
    have := c3 _ this
    omega
  · obtain ⟨ep, he⟩ := sortedAll_at s.heap its out.toArray
    have rv' := vals_each ho
    have l2 := rv'.length
    refine ⟨.ref _, _, I.laid (t' := s.toks) (fun _ _ => sortedAll_old) (Nat.le_succ _) (o := .lst (((vs.zip ds).mergeSort (PySem.W.dataLe false fun b => b.2)).map (·.1))) ⟨?_, out, ep, rv', he⟩, rfl, q _ (I.hok.fresh (Nat.le_succ _))⟩
    rw [List.length_map, List.length_mergeSort, List.length_zip, ← hl, Nat.min_self]
    exact hz
theorem repL_of {K : PySem.W.Frag} {φ : List Addr} {H : Hp} : ∀ {l : List ((D × V) × PyData)}, (∀ t ∈ l, RepV K φ H t.1.1 t.1.2) → RepL K φ H (l.map (·.1.1)) (l.map (·.1.2))
  | [], _ => .nil
  | t :: l, h => .cons (h t List.mem_cons_self) (repL_of fun u hu => h u (List.mem_cons_of_mem _ hu))
theorem repL_zip {K : PySem.W.Frag} {φ : List Addr} {H : Hp} : ∀ {xs : List D} {vs : List V} (ds : List PyData), RepL K φ H xs vs → ∀ t ∈ (xs.zip vs).zip ds, RepV K φ H t.1.1 t.1.2
  | _, _, ds, .nil, t, h => by simp at h
  | _, _, [], .cons _ _, t, h => by simp at h
  | _, _, d :: ds, .cons r rs, t, h => by
    rw [List.zip_cons_cons, List.zip_cons_cons] at h
    rcases List.mem_cons.mp h with e | h
    · subst e
      exact r
    · exact repL_zip ds rs t h
theorem zip_fst3 {α β γ : Type} : ∀ {xs : List α} {vs : List β} {ds : List γ}, xs.length = vs.length → ((xs.zip vs).zip ds).map (fun t => (t.1.1, t.2)) = xs.zip ds ∧ ((xs.zip vs).zip ds).map (fun t => (t.1.2, t.2)) = vs.zip ds
  | [], [], ds, _ => by simp
  | x :: xs, v :: vs, [], _ => by simp
  | x :: xs, v :: vs, d :: ds, h => by
    obtain ⟨h1, h2⟩ := zip_fst3 (xs := xs) (vs := vs) (ds := ds) (by simpa using h)
    simp only [List.zip_cons_cons, List.map_cons, h1, h2, and_self]
theorem sort_rep {K : PySem.W.Frag} {φ : List Addr} {H : Hp} {xs : List D} {vs : List V} (ds : List PyData) (r : RepL K φ H xs vs) :
    RepL K φ H (((xs.zip ds).mergeSort (PySem.W.dataLe false fun p => p.2)).map (·.1)) (((vs.zip ds).mergeSort (PySem.W.dataLe false fun p => p.2)).map (·.1)) := by
  obtain ⟨h1, h2⟩ := zip_fst3 (ds := ds) r.length
  have m1 := PySem.W.sort_maps (r := PySem.W.dataLe false fun t : (D × V) × PyData => t.2) (s := PySem.W.dataLe false fun p : D × PyData => p.2) (fun t : (D × V) × PyData => (t.1.1, t.2)) (l := (xs.zip vs).zip ds) (fun _ _ _ _ => rfl)
  have m2 := PySem.W.sort_maps (r := PySem.W.dataLe false fun t : (D × V) × PyData => t.2) (s := PySem.W.dataLe false fun p : V × PyData => p.2) (fun t : (D × V) × PyData => (t.1.2, t.2)) (l := (xs.zip vs).zip ds) (fun _ _ _ _ => rfl)
  rw [← h1, ← h2, ← m1, ← m2, List.map_map, List.map_map]
  exact repL_of fun t ht => repL_zip ds r t (List.mem_mergeSort.mp ht)
theorem cd_sorted {K : PySem.W.Frag} : CallD K (rSortD K) dSorted := by
  intro cm W φ H σ st xs vs Q rs r h
  unfold dSorted at h
  split at h
  · rename_i k
    obtain ⟨v, rfl, r1⟩ := r.one
    cases r1 with
    | loc g =>
      rename_i a
      split at h
      · rename_i xs e
        obtain ⟨vs, s1, r2⟩ := rs.seqL g e
        split at h
        · rename_i ys ey
          unfold sortP at ey
          split at ey
          · rename_i ds ed
            split at ey
            · rename_i hc
              cases ey
              exact ⟨a, vs, ds, rfl, s1, optAll_dp (toP_dp rs 64) r2 ed, hc.1, hc.2.1, hc.2.2.2, alloc_at rs (sort_rep ds r2) h⟩
            · cases ey
          · cases ey
        · exact h.elim
      · exact h.elim
  · exact h.elim
end Rol

namespace Rol
open PySem L2 PySem.Spec
open PyProof.Rows hiding St
section
variable {X : Cx} {cm : Str → Addr} {W : WX} {x : Str} {pos : Pos}
theorem rE_gint {i : Int} (h : ∃ t, X.mg x = some (.int i t)) (hg : Gl X x := by rfl) (hd : (x == ("__debug__" : Str)) = false := by decide) : PE X (.Name x pos) (tE X.K cm W (eC (.int i))) := by
  obtain ⟨t, h⟩ := h
  exact rE_glob (v := .int i) h ⟨t, rfl⟩ (fun _ _ => .int i) hg hd
theorem rE_gtup {xs : List D} (h : ∃ a, X.mg x = some (.ref a) ∧ ∀ φ H, RepV X.K φ H (.tup xs) (.ref a)) (hg : Gl X x := by rfl) (hd : (x == ("__debug__" : Str)) = false := by decide) : PE X (.Name x pos) (tE X.K cm W (eC (.tup xs))) := by
  obtain ⟨a, h, r⟩ := h
  exact rE_glob (v := .ref a) h rfl r hg hd
theorem rE_ty (T : String) (hm : X.mg x = none) (hv : bootBuiltins x = some (.type T)) (hg : Gl X x := by rfl) (hn : x ≠ "__name__" := by decide) (hd : (x == ("__debug__" : Str)) = false := by decide) : PE X (.Name x pos) (tE X.K cm W (eC (.opq (.ty T)))) :=
  rE_bltn (v := .ty T) (u := .type T) hm hv rfl (fun _ _ => .opq _) hg hn hd
theorem blk_of {N : List Str} {sc scope : Scope} {own : List (Str × Nat)} (h : blkC N sc scope own = true) (hN : X.N = N := by rfl) (hs : X.env.scope = sc := by rfl) : BlkOk X.N X.env.scope scope own := by
  rw [hN, hs]
  exact blkOk_by h
end

/-! ### calls by keywords alone -/
def permL {α : Type} (perm : List Nat) (ws : List α) : List α := perm.filterMap (ws[·]?)
theorem permL_length {α : Type} : ∀ (perm : List Nat) (ws : List α), (∀ j ∈ perm, j < ws.length) → (permL perm ws).length = perm.length
  | [], _, _ => rfl
  | j :: perm, ws, h => by
    have hj : j < ws.length := h j List.mem_cons_self
    unfold permL
    rw [List.filterMap_cons, List.getElem?_eq_getElem hj]
    show ((permL perm ws).length + 1) = _
    rw [permL_length perm ws fun i hi => h i (List.mem_cons_of_mem _ hi), List.length_cons]
theorem permL_rep {K : PySem.W.Frag} {φ : List Addr} {H : Hp} {ws : List D} {vs : List V} (r : RepL K φ H ws vs) : ∀ perm : List Nat, RepL K φ H (permL perm ws) (permL perm vs)
  | [] => .nil
  | j :: perm => by
    unfold permL
    rw [List.filterMap_cons, List.filterMap_cons]
    cases e : ws[j]? with
    | none =>
      have : vs[j]? = none := List.getElem?_eq_none (by rw [← r.length]; exact List.getElem?_eq_none_iff.mp e)
      rw [this]
      exact permL_rep r perm
    | some x =>
      obtain ⟨v, h1, h2⟩ := r.get e
      rw [h1]
      exact .cons h2 (permL_rep r perm)
theorem permL_vals {vs : List V} {us : List Value} (r : Vals vs us) : ∀ perm : List Nat, Vals (permL perm vs) (permL perm us)
  | [] => .nil
  | j :: perm => by
    unfold permL
    rw [List.filterMap_cons, List.filterMap_cons]
    cases e : vs[j]? with
    | none =>
      rw [r.none_of e]
      exact permL_vals r perm
    | some x =>
      obtain ⟨u, h1, h2⟩ := r.get e
      rw [h1]
      exact .cons h2 (permL_vals r perm)
/-- how keywords alone bind -/
def KwB (fd : FuncData) (ps ks : List Str) (perm : List Nat) : Prop := ∀ ws : List Value, ws.length = ks.length → bindArgs fd ⟨[], ks.zip ws⟩ = pure (ps.zip (permL perm ws))
def eFnK0 (m : Fn) (perm : List Nat) (l : DA) : DE := fun ρ st => (l ρ st).bind fun ys st => m (permL perm ys) st
section
variable {X : Cx} {cm : Str → Addr} {W : WX} {k : Nat} {f : Addr} {fd : FuncData} {ps : List Str} {x : Str} {p pos : Pos} {kws : List Keyword} {t : TA} {sp : Sp}
theorem pe_callK0 (ks : List Str) (perm : List Nat) (F : FnG X.prog X.w X.K X.mg X.base k f fd ps sp) (hG : X.A.guards = some []) (hr : Room k X.A) (hm : X.mg x = some (.ref f)) (hk : PySem.W.keepIn X.K (.ref f) = true) (hb : KwB fd ps ks perm) (tk : Takes X W) (hkw : PK X kws t) (hg : Gl X x)
    (hall : (backToKw pos (keywordEach kws X.env)).all (·.1.isSome) = true) (hks : (backToKw pos (keywordEach kws X.env)).filterMap (·.1) = ks) (hdb : (x == ("__debug__" : Str)) = false) (hpl : ((backTo pos (starEach [] X.env)).any (·.1) || (backToKw pos (keywordEach kws X.env)).any (·.1.isNone)) = false) :
    PE X (.Call (.Name x p) [] kws pos) (fun σ H Q => t σ H fun vs H1 => vs.length = ks.length ∧ sp (permL perm vs) H1 Q (WE W σ)) := by
  constructor
  intro pins s σ H Q I h
  apply wpAny_Call_Name_kw
  apply ld_glob I hg hm _ hdb
  refine PySem.W.callWith_KW0 (h₀ := X.base) I.ok.mod.kin hk hall ?_ hpl
  apply thn (hkw.run pos pins s σ H _ I h)
  rintro ws s1 ⟨vs, H1, I1, r, n1, q⟩
  refine ⟨I1.kIn, ?_⟩
  rw [hks]
  exact F.at hG hr tk (us := permL perm ws) (fun _ => .of_eq (hb ws (r.length.symm.trans n1))) I1 (permL_vals r perm) q
theorem rE_fnK0 (ks : List Str) (perm : List Nat) {m : Fn} {n : Nat} {mk : DA} (F : FnG X.prog X.w X.K X.mg X.base k f fd ps (spD X.K cm n m)) (hG : X.A.guards = some []) (hr : Room k X.A) (hm : X.mg x = some (.ref f)) (hk : PySem.W.keepIn X.K (.ref f) = true) (hb : KwB fd ps ks perm) (tk : Takes X W) (hkw : PK X kws (tA X.K cm W mk)) (al : AL mk n)
    (hn : perm.length = n := by rfl) (hn2 : ks.length = n := by rfl) (hj : ∀ j ∈ perm, j < n := by decide) (hg : Gl X x := by rfl) (hall : (backToKw pos (keywordEach kws X.env)).all (·.1.isSome) = true := by rfl) (hks : (backToKw pos (keywordEach kws X.env)).filterMap (·.1) = ks := by rfl) (hdb : (x == ("__debug__" : Str)) = false := by decide)
    (hpl : ((backTo pos (starEach [] X.env)).any (·.1) || (backToKw pos (keywordEach kws X.env)).any (·.1.isNone)) = false := by rfl) : PE X (.Call (.Name x p) [] kws pos) (tE X.K cm W (eFnK0 m perm mk)) := by
  refine conv_E (pe_callK0 ks perm F hG hr hm hk hb tk hkw hg hall hks hdb hpl) fun σ H Q h => ?_
  obtain ⟨φ, ρ, st, hd, h⟩ := h
  refine ⟨φ, ρ, st, hd, ?_⟩
  unfold eFnK0 at h
  cases er : mk ρ st with
  | ok xs st1 =>
    rw [er] at h
    have n1 := al ρ st xs st1 er
    exact fun φ2 H2 vs e2 k2 s2 r2 => ⟨by rw [← r2.length, n1, hn2], spD_of s2 (permL_rep r2 perm) (by rw [permL_length _ _ (fun j h' => by rw [← r2.length, n1]; exact hj j h'), hn]) (AtG.mono e2 k2 h)⟩
  | exc c w st1 => rw [er] at h; exact h
  | stuck => rw [er] at h; exact h
end
end Rol

/-! sorted(dict(pairs)), the keys tuples of ints and texts. -/
namespace Rol
open PySem L2 PySem.Spec
open PyProof.Rows hiding St

def keyOf1 : D → Option Key
  | .int i => some (.inl i)
  | .str x => some (.inr x)
  | _ => none
def keyD : D → Option (List Key)
  | .tup xs => optAll keyOf1 xs
  | _ => none
def dd {α : Type} (acc : List (List Key × α)) (p : List Key × α) : List (List Key × α) := if acc.any (fun q => decide (q.1 = p.1)) = true then acc else acc ++ [p]
def dedup {α : Type} (ps : List (List Key × α)) : List (List Key × α) := ps.foldl dd []
def pairKeys : List D → Option (List (List Key × D))
  | [] => some []
  | .tup [k, _] :: r => match keyD k, pairKeys r with
    | some ks, some l => some ((ks, k) :: l)
    | _, _ => none
  | _ => none
noncomputable def dSortDict : List D → S → Res D
  | [.loc k], st => match itemsAt st k with
    | some xs => (match pairKeys xs with
      | some l => (match sortP st ((dedup l).map (·.2)) with
        | some ys => .ok (.loc st.length) (st ++ [.lst ys])
        | none => .stuck)
      | none => .stuck)
    | none => .stuck
  | _, _ => .stuck

/-- a pair whose first is a key -/
def PKey (K : PySem.W.Frag) (H : Hp) (v : V) (x : List Key × V) : Prop := ∃ (pa ka : Addr) (w : V), v = .ref pa ∧ SqT K H pa [.ref ka, w] ∧ x.2 = .ref ka ∧ SqT K H ka (x.1.map kV)
def rDictT (K : PySem.W.Frag) : List V → Hp → VK → Prop := fun vs H Q => ∃ (a : Addr) (ps : List V) (L : List (List Key × V)), vs = [.ref a] ∧ SqL K H a ps ∧ Paired (PKey K H) ps L ∧
  ∀ (p : Addr) (es : Array DictEntry) (ep : Nat), H p = none → (p == sysModules) = false → es.size = (dedup L).length → (∀ (i : Nat) (hi : i < es.size), ∃ y, (dedup L)[i]? = some y ∧ RelV y.2 es[i].key) → es.size ≤ sizeLine →
    Q (.ref p) (upd H p (.ext fun h => h.DictRaw p es ep))
def rSortRaw (K : PySem.W.Frag) : List V → Hp → VK → Prop := fun vs H Q => ∃ (d : Addr) (es : Array DictEntry) (ep : Nat) (ks : List V) (ds : List PyData), vs = [.ref d] ∧ H d = some (.ext fun h => h.DictRaw d es ep) ∧ (d == sysModules) = false ∧ es.size = ks.length ∧ es.size ≤ sizeLine ∧
  (∀ (i : Nat) (hi : i < es.size), ∃ y, ks[i]? = some y ∧ RelV y es[i].key) ∧ DpAll K H ks ds ∧ PySem.W.AllAlike ds ∧ PySem.W.Sortable ds ∧ (∀ d ∈ ds, d.depth ≤ 70) ∧
  ∀ p, H p = none → Q (.ref p) (upd H p (.lst (((ks.zip ds).mergeSort (PySem.W.dataLe false fun p => p.2)).map (·.1))))

theorem dedup_stored {g : (List Key × Addr × Value) → List Key × V} (hg : ∀ x, (g x).1 = x.1) (hg2 : ∀ k a v v', g (k, a, v) = g (k, a, v')) : ∀ (ps acc : List (List Key × Addr × Value)), (storedAllH acc ps).map g = (ps.map g).foldl dd (acc.map g)
  | [], acc => rfl
  | p :: ps, acc => by
    have ih := dedup_stored hg hg2 ps (storedH acc p.1 p.2.1 p.2.2)
    show (storedAllH (storedH acc p.1 p.2.1 p.2.2) ps).map g = _
    rw [ih, List.map_cons, List.foldl_cons]
    clear ih
    congr 1
    have e : (acc.map g).any (fun q => decide (q.1 = (g p).1)) = (atKey acc p.1).isSome := by
      rw [hg]
      unfold atKey
      rw [Option.isSome_map, List.any_map]
      induction acc with
      | nil => rfl
      | cons x acc ih2 =>
        rw [List.any_cons, List.find?_cons]
        have : ((fun q : List Key × V => decide (q.1 = p.1)) ∘ g) x = decide (x.1 = p.1) := by
          show decide ((g x).1 = p.1) = _
          rw [hg]
        rw [this]
        cases decide (x.1 = p.1) with
        | true => rfl
        | false =>
          rw [Bool.false_or]
          exact ih2
    unfold dd storedH
    rw [e]
    by_cases q : (atKey acc p.1).isSome = true
    · rw [if_pos q, if_pos q, List.map_map]
      apply List.map_congr_left
      intro x _
      show g (putAt p.1 p.2.2 x) = g x
      unfold putAt
      split
      · exact hg2 _ _ _ _
      · rfl
    · rw [if_neg q, if_neg q, List.map_append]
      rfl
section
variable {X : Cx} {pins : List (Addr × Obj)} {σ : L2.St} {H : Hp} {s : Shared}
theorem pkeys_run (I : Inv X pins σ H s) : ∀ {ps : List V} {L : List (List Key × V)} {us : List Value}, Paired (PKey X.K H) ps L → Vals ps us →
    ∃ prs : List (List Key × Addr × Value), prs.map (fun x => (x.1, V.ref x.2.1)) = L ∧ prs.length = us.length ∧ ∀ (j : Nat) (x : List Key × Addr × Value), prs[j]? = some x → ∃ pa, us[j]? = some (.ref pa) ∧ IsTup s.heap pa #[.ref x.2.1, x.2.2] ∧ (tupleKind (mixKind X.prog X.w)).is s.heap x.1 x.2.1
  | _, _, _, .nil, .nil => ⟨[], rfl, rfl, fun j x e => by simp at e⟩
  | _, _, _, .cons (b := x) h t, .cons r tr => by
    obtain ⟨prs, e1, e2, e3⟩ := pkeys_run I t tr
    obtain ⟨pa, ka, w, rfl, h1, h2, h3⟩ := h
    cases r
    obtain ⟨its, rv, ht, _⟩ := I.tuple h1
    obtain ⟨u1, u2, rfl, q1, q2⟩ := vals2 rv
    cases q1
    obtain ⟨its2, rv2, ⟨o, ho, hc, n, hd⟩, _⟩ := I.tuple h3
    refine ⟨(x.1, ka, u2) :: prs, ?_, by rw [List.length_cons, List.length_cons, e2], fun j y e => ?_⟩
    · rw [List.map_cons, e1]
      show (x.1, V.ref ka) :: _ = x :: _
      rw [← h2]
    · cases j with
      | zero =>
        have e' : (x.1, ka, u2) = y := Option.some.inj e
        subst e'
        exact ⟨pa, rfl, ht, ⟨o, its2.toArray, n, ho, hc, hd, items_are (by simpa using rv2)⟩⟩
      | succ j =>
        obtain ⟨pa', a1, a2, a3⟩ := e3 j y (by simpa using e)
        exact ⟨pa', by simpa using a1, a2, a3⟩
end
theorem call_dictT {X : Cx} (hc : X.calm = true) (hu : X.A.units + 100 < cLine) : CallR X (.type "dict") (rDictT X.K) := by
  intro pins s σ H xs us Q I r h
  obtain ⟨a, ps, L, rfl, hs, hp, q⟩ := h
  obtain ⟨u, rfl, ru⟩ := vals1 r
  cases ru
  obtain ⟨its, rv, ⟨o, n, ho, hcl, hdn, hdt⟩, hz⟩ := I.list hs
  obtain ⟨prs, e1, e2, e3⟩ := pkeys_run I hp rv
  let Ts : Nat → Addr := fun j => match its[j]? with
    | some (.ref pa) => pa
    | _ => 0
  let qs : List (Value × Value) := prs.map fun x => (.ref x.2.1, x.2.2)
  have P := PairArg.list (prog := X.prog) (w := X.w) a its.toArray Ts qs
  have hq : qs.length = its.length := by rw [List.length_map, e2]
  have ok : PlainSeq "list" s.heap a its.toArray ∧ PairItems s.heap its.toArray Ts qs := by
    refine ⟨⟨o, n, ho, hcl, hdn, hdt⟩, by rw [List.size_toArray, hq], fun j k v hj => ?_⟩
    rw [List.getElem?_map] at hj
    cases ej : prs[j]? with
    | none => rw [ej] at hj; cases hj
    | some x =>
      rw [ej] at hj
      cases hj
      obtain ⟨pa, a1, a2, _⟩ := e3 j x ej
      have et : Ts j = pa := by
        show (match its[j]? with | some (.ref pa) => pa | _ => 0) = pa
        rw [a1]
      rw [et]
      exact ⟨by simpa using a1, .inl a2⟩
  refine call_dict_pairsH (knd := tupleKind (mixKind X.prog X.w)) (ps := prs) P (I.ok.hd hc) (by show X.A.units + 1 + 1 < cLine; omega) ok ⟨by rw [List.length_map], fun i key v hr => ?_⟩ (fun h' hk x hx => ?_) (by rw [hq, ← rv.length]; exact hz) fun h' tk hD hk => ?_
  · have hr' : qs[i]? = some (key, v) := hr
    rw [List.getElem?_map] at hr'
    cases ej : prs[i]? with
    | none => rw [ej] at hr'; cases hr'
    | some x =>
      rw [ej] at hr'
      cases hr'
      exact ⟨x.1, x.2.1, rfl, rfl⟩
  · obtain ⟨j, hj, ej⟩ := List.getElem_of_mem hx
    obtain ⟨_, _, _, ⟨o2, it2, n2, g1, g2, g3, g4⟩⟩ := e3 j x (by rw [List.getElem?_eq_getElem hj, ej])
    exact ⟨o2, it2, n2, hk _ _ (Nat.ne_of_lt (Heap.lt_size g1)) (fun z => nomatch z) g1, g2, g3, g4⟩
  · obtain ⟨es, ep, raw, hsz, hkey⟩ := hD.raw
    have hst := dedup_stored (g := fun x => (x.1, V.ref x.2.1)) (fun _ => rfl) (fun _ _ _ _ => rfl) prs []
    rw [e1] at hst
    have hst2 : (storedAllH [] prs).map (fun x => (x.1, V.ref x.2.1)) = dedup L := hst
    have hbig : (s.heap.objs.size == sysModules) = false := beq_eq_false_iff_ne.mpr (Nat.ne_of_gt I.big)
    refine ⟨.ref s.heap.objs.size, upd H s.heap.objs.size (.ext fun h => h.DictRaw s.heap.objs.size es ep), I.laid (t' := tk) (fun b o e => hk b o (fun z => nomatch z) e) (Nat.le_refl _) ?_, rfl, q _ es ep (I.hok.fresh (Nat.le_refl _)) hbig ?_ ?_ ?_⟩
    · obtain ⟨od, hod, _, _⟩ := id raw
      exact ⟨raw, ⟨od, hod⟩, fun h1 h2 f k => f.at k⟩
    · rw [hsz, ← hst2, List.length_map]
    · intro i hi
      obtain ⟨y, y1, y2, _, _⟩ := hkey i hi
      refine ⟨(y.1, .ref y.2.1), ?_, ?_⟩
      · rw [← hst2, List.getElem?_map, y1]
        rfl
      · show es[i].key = .ref y.2.1
        exact y2
    · rw [hsz]
      refine Nat.le_trans (storedAllH_length prs []) ?_
      rw [List.length_nil, Nat.zero_add, e2, ← rv.length]
      exact hz
theorem call_sortRaw {X : Cx} (hc : X.calm = true) (hu : X.A.units + 100 < cLine) : CallR X (.builtin "sorted") (rSortRaw X.K) := by
  intro pins s σ H xs us Q I r h
  obtain ⟨d, es, ep, ks, ds, rfl, hd, lo, hsz, hz, hkey, hdp, c1, c2, c3, q⟩ := h
  obtain ⟨u, rfl, ru⟩ := vals1 r
  cases ru
  obtain ⟨raw, _, _⟩ := (show ObjOk X.prog X.w H s.heap d (.ext fun h => h.DictRaw d es ep) from I.hok d _ hd)
  refine Calls.call_function_entry kind_sorted plain_sorted entry_sorted (args_sorted1 _) ?_
  unfold Builtin.«sorted»
  refine wpAny_bind (m := checkCount "sorted" 1 1 _) (wpAny_pure ?_)
  refine wpAny_bind (PySem.W.kdu_collect (A := X.A.in1) (KdlSrc.rawDict (prog := X.prog) (w := X.w) (es := es) (ep := ep) lo) (I.ok.hd hc) raw hz fun h' tk acc hk hacc => ?_)
  have I1 : Inv X pins σ H { s with heap := h', toks := tk } := I.kept hk
  have al : acc.toList.length = ks.length := by rw [Array.length_toList, hacc.1, hsz]
  have rv : Vals ks acc.toList := by
    have go : ∀ (l : List V) (m : List Value), m.length = l.length → (∀ (j : Nat) (x : V) (u : Value), l[j]? = some x → m[j]? = some u → RelV x u) → Vals l m := by
      intro l
      induction l with
      | nil =>
        intro m hl _
        cases m with
        | nil => exact .nil
        | cons _ _ => cases hl
      | cons x l ih =>
        intro m hl hr
        cases m with
        | nil => cases hl
        | cons u m => exact .cons (hr 0 x u rfl rfl) (ih m (by simpa using hl) fun j y v h1 h2 => hr (j + 1) y v (by simpa using h1) (by simpa using h2))
    refine go ks acc.toList al fun j x v h1 h2 => ?_
    obtain ⟨hi, ev⟩ := hacc.2 j v (by rw [← Array.getElem?_toList]; exact h2)
    obtain ⟨y, y1, y2⟩ := hkey j hi
    rw [h1] at y1
    cases y1
    rw [ev]
    exact y2
  have hl := dpAll_length hdp
  have big : acc.toList.length ≤ sizeLine := by rw [al, ← hsz]; exact hz
  refine wpAny_bind (wpAny_newList ?_ big)
  have hoL : (h'.push (seqObj "list" acc.toList.toArray 0)).get? h'.objs.size = some (seqObj "list" acc.toList.toArray 0) := Heap.get?_push_size _ rfl
  show wpAny _ _ _ _ _ { s with heap := h'.push (seqObj "list" acc.toList.toArray 0), toks := tk }
  obtain ⟨e1, e2⟩ := each_of I1 hdp rv
  have mp : (ks.zip ds).map (·.2) = ds := zip_snd hl
  have er : PySem.W.EachIs (fun (v : Value) (b : V × PyData) => ∃ as, Reads (h'.push (seqObj "list" acc.toList.toArray 0)) v b.2 as ∧ h'.objs.size ∉ as) acc.toList (ks.zip ds) :=
    e2.mono fun v b ⟨as, rd⟩ => ⟨as, PyProof.Rows.Reads.keeps (fun b o e => Heap.get?_push_of_some _ e) rd, fun hm => by
      obtain ⟨oo, ho⟩ := PyProof.On.reads_mem_get rd _ hm
      exact absurd (Heap.lt_size ho) (Nat.lt_irrefl _)⟩
  refine wpAny_bind (wpAny_holding (PySem.W.list_sort_data (enc := fun b : V × PyData => b.2) (R := fun v b => RelV b.1 v) hoL e1 er (by rw [mp]; exact c1) (by rw [mp]; exact c2) (by rw [List.length_zip, ← hl, Nat.min_self, ← al]; exact big) (fun b hb => ?_) fun out hlen ho => ?_))
  · have : b.2 ∈ ds := by
      rw [← mp]
      exact List.mem_map.mpr ⟨b, hb, rfl⟩
    have := c3 _ this
    show X.A.units + 1 + 1 + b.2.depth < cLine
    omega
  · obtain ⟨e', he'⟩ := PyProof.Rows.sortedHeap_at (vs := acc.toList) (out := out.toArray) hoL
    have rv' := vals_each ho
    refine wpAny_pure ⟨_, rfl, .ref h'.objs.size, upd H h'.objs.size (.lst (((ks.zip ds).mergeSort (PySem.W.dataLe false fun b => b.2)).map (·.1))), I1.laid (t' := tk) (fun b u e => ?_) (Nat.le_refl _) ⟨?_, out, e', rv', he'⟩, rfl, q _ (I1.hok.fresh (Nat.le_refl _))⟩
    · have hb : b < h'.objs.size := Heap.lt_size e
      rw [PyProof.Rows.sortedHeap_old (Nat.ne_of_lt hb) (by rw [size_push']; exact Nat.lt_succ_of_lt hb)]
      exact Heap.get?_push_of_some _ e
    · rw [List.length_map, List.length_mergeSort, List.length_zip, ← hl, Nat.min_self, ← al]
      exact big

theorem optAll_keys {K : PySem.W.Frag} {φ : List Addr} {H : Hp} : ∀ {xs : List D} {vs : List V} {ks : List Key}, RepL K φ H xs vs → optAll keyOf1 xs = some ks → vs = ks.map kV
  | _, _, _, .nil, h => by
    cases h
    rfl
  | _, _, ks, .cons (x := x) (xs := xs) (v := v) r t, h => by
    unfold optAll at h
    cases e1 : keyOf1 x with
    | none => rw [e1] at h; cases h
    | some a =>
      cases e2 : optAll keyOf1 xs with
      | none => rw [e1, e2] at h; cases h
      | some b =>
        rw [e1, e2] at h
        cases h
        rw [optAll_keys t e2, List.map_cons]
        congr 1
        cases r with
        | int i => cases e1; rfl
        | str z => cases e1; rfl
        | _ => cases e1
/-- the pairs, their keys as data and as values -/
theorem pairs_rep {K : PySem.W.Frag} {φ : List Addr} {H : Hp} : ∀ {xs : List D} {vs : List V} {l : List (List Key × D)}, RepL K φ H xs vs → pairKeys xs = some l → ∃ L : List (List Key × V), Paired (PKey K H) vs L ∧ Paired (fun (p : List Key × D) (q : List Key × V) => p.1 = q.1 ∧ RepV K φ H p.2 q.2) l L
  | _, _, l, .nil, h => by
    cases h
    exact ⟨[], .nil, .nil⟩
  | _, _, l, .cons (x := x) (xs := xs) r t, h => by
    cases r with
    | tup s r2 =>
      cases r2 with
      | nil => cases h
      | cons rk t2 =>
        rename_i a kd rest kv vs'
        cases t2 with
        | nil => cases h
        | cons rv t3 =>
          cases t3 with
          | cons _ _ => cases h
          | nil =>
            rename_i vd vv
            unfold pairKeys at h
            cases e1 : keyD kd with
            | none => rw [e1] at h; cases h
            | some ks =>
              cases e2 : pairKeys xs with
              | none => rw [e1, e2] at h; cases h
              | some l' =>
                rw [e1, e2] at h
                cases h
                obtain ⟨L, p1, p2⟩ := pairs_rep t e2
                cases rk with
                | tup sk rk2 =>
                  rename_i ka kxs kvs
                  have e3 : kvs = ks.map kV := optAll_keys rk2 e1
                  subst e3
                  exact ⟨(ks, .ref ka) :: L, .cons ⟨a, ka, vv, rfl, s, rfl, sk⟩ p1, .cons ⟨rfl, .tup sk rk2⟩ p2⟩
                | _ => cases e1
    | _ => cases h
theorem dd_rep {K : PySem.W.Frag} {φ : List Addr} {H : Hp} {R : List Key × D → List Key × V → Prop} (hR : ∀ p q, R p q → p.1 = q.1) {p : List Key × D} {q : List Key × V} (r : R p q) {acc : List (List Key × D)} {acc' : List (List Key × V)} (h : Paired R acc acc') : Paired R (dd acc p) (dd acc' q) := by
  have e : acc.any (fun x => decide (x.1 = p.1)) = acc'.any (fun x => decide (x.1 = q.1)) := by
    rw [hR p q r]
    induction h with
    | nil => rfl
    | cons h t ih => rw [List.any_cons, List.any_cons, hR _ _ h, ih]
  unfold dd
  rw [e]
  split
  · exact h
  · exact Paired.snoc h r
theorem dedup_rep {K : PySem.W.Frag} {φ : List Addr} {H : Hp} {R : List Key × D → List Key × V → Prop} (hR : ∀ p q, R p q → p.1 = q.1) {l : List (List Key × D)} {L : List (List Key × V)} (h : Paired R l L) : ∀ {acc : List (List Key × D)} {acc' : List (List Key × V)}, Paired R acc acc' → Paired R (l.foldl dd acc) (L.foldl dd acc') := by
  induction h with
  | nil => exact fun q => q
  | cons r t ih => exact fun q => ih (dd_rep (K := K) (φ := φ) (H := H) hR r q)
theorem repL_paired {K : PySem.W.Frag} {φ : List Addr} {H : Hp} : ∀ {l : List (List Key × D)} {L : List (List Key × V)}, Paired (fun (p : List Key × D) (q : List Key × V) => p.1 = q.1 ∧ RepV K φ H p.2 q.2) l L → RepL K φ H (l.map (·.2)) (L.map (·.2))
  | _, _, .nil => .nil
  | _, _, .cons r t => .cons r.2 (repL_paired t)
noncomputable def eSortDict (m : DE) : DE := fun ρ st => (m ρ st).bind fun x st => dSortDict [x] st
section
variable {X : Cx} {cm : Str → Addr} {W : WX} {e : Expr} {m : DE} {p p2 pos pos2 : Pos}
theorem rE_sortdict (hc : X.calm = true) (hu : X.A.units + 100 < cLine) (hm : X.mg "sorted" = none) (hm2 : X.mg "dict" = none) (he : PE X e (tE X.K cm W m)) (hg : Gl X "sorted" := by rfl) (hg2 : Gl X "dict" := by rfl)
    (he1 : starEach [e] X.env = (false, eval e X.env) :: starEach [] X.env := by rfl) (hp1 : (backTo pos2 (starEach [] X.env)).any (·.1) = false := by rfl)
    (he2 : starEach [.Call (.Name "dict" p2) [e] [] pos2] X.env = (false, eval (.Call (.Name "dict" p2) [e] [] pos2) X.env) :: starEach [] X.env := by rfl) (hp2 : (backTo pos (starEach [] X.env)).any (·.1) = false := by rfl) :
    PE X (.Call (.Name "sorted" p) [.Call (.Name "dict" p2) [e] [] pos2] [] pos) (tE X.K cm W (eSortDict m)) := by
  refine conv_E (pe_callB (call_sortRaw hc hu) hg hm PyProof.Rows.boot_sorted (pa_cons (pe_callTy (call_dictT hc hu) hg2 hm2 PyProof.Rows.boot_dict (pa_cons he pa_nil he1) (by decide) (by decide) he1 hp1) pa_nil he2) (by decide) (by decide) he2 hp2) fun σ H Q h => ?_
  obtain ⟨φ, ρ, st, hd, h⟩ := h
  refine tG_bind hd h fun x st1 φ1 H1 v e1 k1 hd1 r1 h1 => ?_
  show rDictT X.K [v] H1 fun y H2 => rSortRaw X.K [y] H2 Q
  unfold dSortDict at h1
  split at h1
  · rename_i xs k ex
    cases ex
    cases r1 with
    | loc g =>
      rename_i a
      split at h1
      · rename_i xs ei
        obtain ⟨vs, s1, r2⟩ := hd1.s.seqL g ei
        split at h1
        · rename_i l el
          obtain ⟨L, q1, q2⟩ := pairs_rep r2 el
          have q3 : Paired _ (dedup l) (dedup L) := dedup_rep (K := X.K) (φ := φ1) (H := H1) (fun _ _ z => z.1) q2 .nil
          split at h1
          · rename_i ys ey
            refine ⟨a, vs, L, rfl, s1, q1, fun p es ep hp lo hsz hkey hz => ?_⟩
            have kp : Kp H1 (upd H1 p (.ext fun h => h.DictRaw p es ep)) := Kp.new hp
            have rl := (repL_paired q3).mono (Ext.refl _) kp
            have s2 := hd1.s.beside (o := .ext fun h => h.DictRaw p es ep) hp
            unfold sortP at ey
            split at ey
            · rename_i ds ed
              split at ey
              · rename_i hcs
                cases ey
                refine ⟨p, es, ep, (dedup L).map (·.2), ds, rfl, upd_same, lo, by rw [hsz, List.length_map], hz, fun i hi => ?_, optAll_dp (toP_dp s2 64) rl ed, hcs.1, hcs.2.1, hcs.2.2.2, ?_⟩
                · obtain ⟨y, y1, y2⟩ := hkey i hi
                  exact ⟨y.2, by rw [List.getElem?_map, y1]; rfl, y2⟩
                · exact alloc_at s2 (sort_rep ds rl) (AtG.mono (Ext.refl _) kp h1)
              · cases ey
            · cases ey
          · exact h1.elim
        · exact h1.elim
      · exact h1.elim
  · exact h1.elim
end
end Rol

/-! Rows and rows of rows as data: ==, in, repr, sorted. -/
namespace Rol
open PySem L2 PySem.Spec
open PyProof.Rows hiding St

abbrev rw' (r : List Int) : D := .tup (r.map D.int)
def rows' (rs : List (List Int)) : D := .tup (rs.map rw')
def pr (r : List Int) : PyData := .tuple (r.map .int)
theorem optAll_map {α β γ : Type} {f : α → Option β} {g : γ → α} {h : γ → β} : ∀ (l : List γ), (∀ x ∈ l, f (g x) = some (h x)) → optAll f (l.map g) = some (l.map h)
  | [], _ => rfl
  | x :: l, e => by
    rw [List.map_cons, optAll, e x (List.mem_cons_self ..), optAll_map l fun y hy => e y (List.mem_cons_of_mem _ hy)]
    rfl
@[simp] theorem toP_int (st : S) (n : Nat) (i : Int) : toP st n (.int i) = some (.int i) := by cases n <;> rfl
@[simp] theorem toP_bl (st : S) (n : Nat) (b : Bool) : toP st n (.bl b) = some (.bool b) := by cases n <;> rfl
@[simp] theorem toP_str (st : S) (n : Nat) (b : Str) : toP st n (.str b) = some (.str b) := by cases n <;> rfl
@[simp] theorem toP_non (st : S) (n : Nat) : toP st n .non = some .none := by cases n <;> rfl
theorem toP_rw (st : S) (n : Nat) (r : List Int) : toP st (n + 1) (rw' r) = some (pr r) := by
  rw [toP, optAll_map (h := PyData.int) r fun x _ => toP_int st n x]
  rfl
theorem toP_rows (st : S) (n : Nat) (rs : List (List Int)) : toP st (n + 2) (rows' rs) = some (.tuple (rs.map pr)) := by
  unfold rows'
  rw [toP, optAll_map (h := pr) rs fun x _ => toP_rw st n x]
  rfl
theorem beq_dec (a b : Int) : (a == b) = decide (a = b) := by rw [Bool.eq_iff_iff, beq_iff_eq, decide_eq_true_eq]
theorem eqvAll_ints : ∀ (xs ys : List Int), PyData.eqvAll (xs.map .int) (ys.map .int) = decide (xs = ys)
  | [], [] => by simp [PyData.eqvAll]
  | [], _ :: _ => by simp [PyData.eqvAll]
  | _ :: _, [] => by simp [PyData.eqvAll]
  | x :: xs, y :: ys => by
    rw [List.map_cons, List.map_cons, PyData.eqvAll, PyData.eqv, beq_dec, eqvAll_ints xs ys, ← Bool.decide_and]
    exact decide_eq_decide.mpr (by rw [List.cons.injEq])
theorem eqv_pr (a b : List Int) : PyData.eqv (pr a) (pr b) = decide (a = b) := by
  unfold pr
  rw [PyData.eqv, eqvAll_ints]
theorem eqvAll_prs : ∀ (xs ys : List (List Int)), PyData.eqvAll (xs.map pr) (ys.map pr) = decide (xs = ys)
  | [], [] => by simp [PyData.eqvAll]
  | [], _ :: _ => by simp [PyData.eqvAll]
  | _ :: _, [] => by simp [PyData.eqvAll]
  | x :: xs, y :: ys => by
    rw [List.map_cons, List.map_cons, PyData.eqvAll, eqv_pr, eqvAll_prs xs ys, ← Bool.decide_and]
    exact decide_eq_decide.mpr (by rw [List.cons.injEq])
theorem canLay_ints : ∀ r : List Int, PyData.canLayAll0 (r.map .int) = true
  | [] => by simp [PyData.canLayAll0]
  | x :: r => by simp [PyData.canLayAll0, PyData.canLay0, canLay_ints r]
theorem canLay_pr (r : List Int) : PyData.canLay0 (pr r) = true := by simp [pr, PyData.canLay0, canLay_ints]
theorem canLay_prs : ∀ rs : List (List Int), PyData.canLayAll0 (rs.map pr) = true
  | [] => by simp [PyData.canLayAll0]
  | x :: r => by simp [PyData.canLayAll0, canLay_pr, canLay_prs r]
theorem depth_ints : ∀ r : List Int, PyData.depthAll (r.map .int) = 0
  | [] => by simp [PyData.depthAll]
  | x :: r => by simp [PyData.depthAll, PyData.depth, depth_ints r]
theorem depth_pr (r : List Int) : PyData.depth (pr r) = 1 := by simp [pr, PyData.depth, depth_ints]
theorem depth_prs : ∀ rs : List (List Int), PyData.depthAll (rs.map pr) ≤ 1
  | [] => by simp [PyData.depthAll]
  | x :: r => by
    rw [List.map_cons, PyData.depthAll, depth_pr]
    exact Nat.max_le.mpr ⟨Nat.le_refl _, depth_prs r⟩
theorem shaped_int (i : Int) : SeqAt.shaped (.int i) = true := by simp [SeqAt.shaped, PyData.canLay0, PyData.depth]
theorem shaped_pr (r : List Int) : SeqAt.shaped (pr r) = true := by simp [SeqAt.shaped, canLay_pr, depth_pr]
theorem shaped_tprs (rs : List (List Int)) : SeqAt.shaped (.tuple (rs.map pr)) = true := by
  have := depth_prs rs
  have h1 : PyData.depth (.tuple (rs.map pr)) ≤ 64 := by rw [PyData.depth]; omega
  have h2 : PyData.canLay0 (.tuple (rs.map pr)) = true := by rw [PyData.canLay0]; exact canLay_prs rs
  unfold SeqAt.shaped
  rw [h2, decide_eq_true h1]
  rfl
theorem shaped_lprs (rs : List (List Int)) : SeqAt.shaped (.list (rs.map pr)) = true := by
  have := depth_prs rs
  have h1 : PyData.depth (.list (rs.map pr)) ≤ 64 := by rw [PyData.depth]; omega
  have h2 : PyData.canLay0 (.list (rs.map pr)) = true := by rw [PyData.canLay0]; exact canLay_prs rs
  unfold SeqAt.shaped
  rw [h2, decide_eq_true h1]
  rfl
theorem shaped_lints (r : List Int) : SeqAt.shaped (.list (r.map .int)) = true := by
  simp [SeqAt.shaped, PyData.canLay0, canLay_ints, PyData.depth, depth_ints]

/-! ### ==, in -/
@[simp] theorem dEq_int (i j : Int) (st : S) : dEq (.int i) (.int j) st = .ok (.bl (decide (i = j))) st := by
  simp [dEq, dEqD, shaped_int, PyData.eqv, beq_dec]
@[simp] theorem dNe_int (i j : Int) (st : S) : dNe (.int i) (.int j) st = .ok (.bl (!decide (i = j))) st := by
  simp [dNe, dNeD, shaped_int, PyData.eqv, beq_dec]
@[simp] theorem dEq_str (a b : Str) (st : S) : dEq (.str a) (.str b) st = .ok (.bl (decide (a = b))) st := rfl
@[simp] theorem dNe_str (a b : Str) (st : S) : dNe (.str a) (.str b) st = .ok (.bl (!decide (a = b))) st := rfl
@[simp] theorem dEq_rw (a b : List Int) (st : S) : dEq (rw' a) (rw' b) st = .ok (.bl (decide (a = b))) st := by
  show dEqD (rw' a) (rw' b) st = _
  unfold dEqD
  rw [toP_rw, toP_rw]
  simp [shaped_pr, eqv_pr]
@[simp] theorem dNe_rw (a b : List Int) (st : S) : dNe (rw' a) (rw' b) st = .ok (.bl (!decide (a = b))) st := by
  show dNeD (rw' a) (rw' b) st = _
  unfold dNeD
  rw [toP_rw, toP_rw]
  simp [shaped_pr, eqv_pr]
@[simp] theorem dEq_rows (a b : List (List Int)) (st : S) : dEq (rows' a) (rows' b) st = .ok (.bl (decide (a = b))) st := by
  show dEqD (rows' a) (rows' b) st = _
  unfold dEqD
  rw [toP_rows, toP_rows]
  simp [shaped_tprs, PyData.eqv, eqvAll_prs]
theorem any_pr (rs : List (List Int)) (r : List Int) : ((rs.map pr).any fun z => PyData.eqv z (pr r)) = decide (r ∈ rs) := by
  rw [Bool.eq_iff_iff, List.any_eq_true, decide_eq_true_eq]
  constructor
  · rintro ⟨z, hz, e⟩
    obtain ⟨y, hy, rfl⟩ := List.mem_map.mp hz
    rw [eqv_pr, decide_eq_true_eq] at e
    exact e ▸ hy
  · intro h
    exact ⟨pr r, List.mem_map.mpr ⟨r, h, rfl⟩, by rw [eqv_pr]; simp⟩
theorem any_int (rs : List Int) (r : Int) : ((rs.map PyData.int).any fun z => PyData.eqv z (.int r)) = decide (r ∈ rs) := by
  rw [Bool.eq_iff_iff, List.any_eq_true, decide_eq_true_eq]
  constructor
  · rintro ⟨z, hz, e⟩
    obtain ⟨y, hy, rfl⟩ := List.mem_map.mp hz
    simp [PyData.eqv] at e
    exact e ▸ hy
  · intro h
    exact ⟨.int r, List.mem_map.mpr ⟨r, h, rfl⟩, by simp [PyData.eqv]⟩
@[simp] theorem dIn_rows (neg : Bool) (r : List Int) (rs : List (List Int)) (st : S) : dIn neg (rw' r) (rows' rs) st = .ok (.bl (if neg = true then !decide (r ∈ rs) else decide (r ∈ rs))) st := by
  unfold dIn
  rw [toP_rw, toP_rows]
  simp only [shaped_pr, shaped_tprs, and_self, if_true, any_pr]
theorem dIn_lint (neg : Bool) (i : Int) (k : Nat) (rs : List Int) (st : S) (h : itemsAt st k = some (rs.map D.int)) : dIn neg (.int i) (.loc k) st = .ok (.bl (if neg = true then !decide (i ∈ rs) else decide (i ∈ rs))) st := by
  have e : toP st 65 (.loc k) = some (.list (rs.map .int)) := by
    rw [toP, h]
    simp only [optAll_map (h := PyData.int) rs fun x _ => toP_int st 64 x, Option.map_some]
  unfold dIn
  rw [e]
  simp only [toP_int, shaped_int, shaped_lints, and_self, if_true, any_int]

/-! ### repr -/
theorem short_shown {i : Int} (h : -1000 < i ∧ i < 1000) : (PyData.shown (.int i)).length ≤ 13 := by
  have key : ∀ n : Fin 2001, (PyData.shown (.int ((n.val : Int) - 1000))).length ≤ 13 := by decide +kernel
  have := key ⟨(i + 1000).toNat, by omega⟩
  have e : (((i + 1000).toNat : Nat) : Int) - 1000 = i := by omega
  simp only [e] at this
  exact this
def Small (r : List Int) : Prop := ∀ i ∈ r, -1000 < i ∧ i < 1000
theorem short_pr {r : List Int} (h : Small r) : PyData.intsShort 13 (pr r) = true := by
  unfold pr
  rw [PyData.intsShort]
  refine intsShortAll_of fun x hx => ?_
  obtain ⟨i, hi, rfl⟩ := List.mem_map.mp hx
  simp only [PyData.intsShort, decide_eq_true_eq]
  exact short_shown (h i hi)
theorem log_small {i : Int} (h : -1000 < i ∧ i < 1000) : i.natAbs.log2 < 10 := by
  by_cases z : i.natAbs = 0
  · rw [z]; decide
  · rw [Nat.log2_lt z]; omega
theorem showable_ints : ∀ {r : List Int}, Small r → PyData.showableAll (r.map .int) = true
  | [], _ => by simp [PyData.showableAll]
  | x :: r, h => by
    have h1 := log_small (h x (List.mem_cons_self ..))
    have h2 : x.natAbs.log2 < 1920 := by omega
    simp [PyData.showableAll, PyData.showable, h2, showable_ints (r := r) fun i hi => h i (List.mem_cons_of_mem _ hi)]
theorem hasDict_ints : ∀ r : List Int, PyData.hasDictAll (r.map .int) = false
  | [] => by simp [PyData.hasDictAll]
  | x :: r => by simp [PyData.hasDictAll, PyData.hasDict, hasDict_ints r]
theorem weight_ints : ∀ {r : List Int}, Small r → PyData.weightAll (r.map .int) ≤ 11 * r.length
  | [], _ => by simp [PyData.weightAll]
  | x :: r, h => by
    have h1 := log_small (h x (List.mem_cons_self ..))
    have h2 := weight_ints (r := r) fun i hi => h i (List.mem_cons_of_mem _ hi)
    rw [List.map_cons, PyData.weightAll, PyData.weight, List.length_cons]
    split <;> omega
theorem weight_prs {n : Nat} : ∀ {rs : List (List Int)}, (∀ r ∈ rs, Small r ∧ r.length ≤ n) → PyData.weightAll (rs.map pr) ≤ (11 * n + 1) * rs.length
  | [], _ => by simp [PyData.weightAll]
  | x :: rs, h => by
    have h1 := h x (List.mem_cons_self ..)
    have h2 := weight_prs (rs := rs) fun i hi => h i (List.mem_cons_of_mem _ hi)
    have h3 := weight_ints h1.1
    have e : PyData.weight (pr x) = PyData.weightAll (x.map .int) := by simp [pr, PyData.weight]
    rw [List.map_cons, PyData.weightAll, e, List.length_cons, Nat.mul_succ]
    have h4 : 11 * x.length ≤ 11 * n := Nat.mul_le_mul_left _ h1.2
    omega
theorem showable_prs : ∀ {rs : List (List Int)}, (∀ r ∈ rs, Small r) → PyData.showableAll (rs.map pr) = true
  | [], _ => by simp [PyData.showableAll]
  | x :: rs, h => by
    have e : PyData.showable (pr x) = true := by simp [pr, PyData.showable, showable_ints (h x (List.mem_cons_self ..))]
    simp [PyData.showableAll, e, showable_prs (rs := rs) fun i hi => h i (List.mem_cons_of_mem _ hi)]
theorem hasDict_prs : ∀ rs : List (List Int), PyData.hasDictAll (rs.map pr) = false
  | [] => by simp [PyData.hasDictAll]
  | x :: rs => by
    have e : PyData.hasDict (pr x) = false := by simp [pr, PyData.hasDict, hasDict_ints]
    simp [PyData.hasDictAll, e, hasDict_prs rs]
theorem dRepr_rw {r : List Int} (h : Small r) (hn : r.length ≤ 1000) (st : S) : dRepr [rw' r] st = .ok (.str (pr r).shown) st := by
  show (match toP st 64 (rw' r) with
    | some d => if d.showable = true ∧ d.hasDict = false ∧ d.depth ≤ 70 ∧ d.shown.length ≤ sizeLine then Res.ok (D.str d.shown) st else .stuck
    | none => .stuck) = _
  rw [toP_rw]
  have h1 : (pr r).showable = true := by simp [pr, PyData.showable, showable_ints h]
  have h2 : (pr r).hasDict = false := by simp [pr, PyData.hasDict, hasDict_ints]
  have h3 := weight_ints h
  have e : PyData.weight (pr r) = PyData.weightAll (r.map .int) := by simp [pr, PyData.weight]
  have h4 : PyData.layable0 (pr r) = true := by
    simp only [PyData.layable0, canLay_pr, depth_pr, e, Bool.true_and, Bool.and_eq_true, decide_eq_true_eq]
    exact ⟨by decide, Nat.le_trans h3 (Nat.le_trans (Nat.mul_le_mul_left 11 hn) (by decide))⟩
  have h5 := shown_le13 h4 (short_pr h)
  have h6 : (pr r).shown.length ≤ sizeLine := Nat.le_trans h5 (by decide)
  simp only [h1, h2, depth_pr, h6, and_self, and_true, true_and]
  rfl
theorem dRepr_rows {n : Nat} {rs : List (List Int)} (h : ∀ r ∈ rs, Small r ∧ r.length ≤ n) (hn : (11 * n + 1) * rs.length ≤ 1000000) (st : S) : dRepr [rows' rs] st = .ok (.str (PyData.tuple (rs.map pr)).shown) st := by
  show (match toP st 64 (rows' rs) with
    | some d => if d.showable = true ∧ d.hasDict = false ∧ d.depth ≤ 70 ∧ d.shown.length ≤ sizeLine then Res.ok (D.str d.shown) st else .stuck
    | none => .stuck) = _
  rw [toP_rows]
  have h0 : ∀ r ∈ rs, Small r := fun r hr => (h r hr).1
  have h1 : (PyData.tuple (rs.map pr)).showable = true := by simp [PyData.showable, showable_prs h0]
  have h2 : (PyData.tuple (rs.map pr)).hasDict = false := by simp [PyData.hasDict, hasDict_prs]
  have h3 := weight_prs h
  have e : PyData.weight (PyData.tuple (rs.map pr)) = PyData.weightAll (rs.map pr) := by simp [PyData.weight]
  have hd := depth_prs rs
  have hd2 : (PyData.tuple (rs.map pr)).depth ≤ 64 := by simp only [PyData.depth]; exact Nat.le_trans (Nat.succ_le_succ hd) (by decide)
  have h4 : PyData.layable0 (PyData.tuple (rs.map pr)) = true := by
    simp only [PyData.layable0, PyData.canLay0, canLay_prs, e, Bool.true_and, Bool.and_eq_true, decide_eq_true_eq]
    exact ⟨hd2, Nat.le_trans h3 (Nat.le_trans hn (by decide))⟩
  have hs : PyData.intsShort 13 (PyData.tuple (rs.map pr)) = true := by
    rw [PyData.intsShort]
    refine intsShortAll_of fun x hx => ?_
    obtain ⟨r, hr, rfl⟩ := List.mem_map.mp hx
    exact short_pr (h0 r hr)
  have h5 := shown_le13 h4 hs
  have h6 : (PyData.tuple (rs.map pr)).shown.length ≤ sizeLine := Nat.le_trans h5 (by decide)
  have h7 : (PyData.tuple (rs.map pr)).depth ≤ 70 := by omega
  simp only [h1, h2, h7, h6, and_self, and_true, true_and]
  rfl

/-! ### sorted -/
theorem alikeAll_ints : ∀ a b : List Int, PySem.W.alikeAll (a.map .int) (b.map .int) = true
  | [], _ => by simp [PySem.W.alikeAll]
  | _ :: _, [] => by simp [PySem.W.alikeAll]
  | x :: a, y :: b => by simp [PySem.W.alikeAll, PySem.W.alike, alikeAll_ints a b]
theorem alike_pr (a b : List Int) : PySem.W.alike (pr a) (pr b) = true := by simp [pr, PySem.W.alike, alikeAll_ints]
/-- dataLe of rows -/
theorem toks_inj : ∀ a b : List Int, PySem.W.keyToksAll (a.map .int) = PySem.W.keyToksAll (b.map .int) → a = b
  | [], [], _ => rfl
  | [], _ :: _, h => by simp [PySem.W.keyToksAll] at h
  | _ :: _, [], h => by simp [PySem.W.keyToksAll] at h
  | x :: a, y :: b, h => by
    simp only [List.map_cons, PySem.W.keyToksAll, PySem.W.keyToks, List.cons_append, List.nil_append, List.cons.injEq, true_and, Sum.inl.injEq] at h
    rw [h.1, toks_inj a b h.2]
theorem lt_ints : ∀ a b : List Int, PyProof.Rows.lexLt itemOrd (PySem.W.keyToksAll (a.map .int)) (PySem.W.keyToksAll (b.map .int)) = HT.lexLt a b
  | [], [] => by simp [PySem.W.keyToksAll, HT.lexLt, lex_irrefl]
  | [], y :: b => by
    simp only [List.map_nil, List.map_cons, PySem.W.keyToksAll]
    rw [lex_diff (O := itemOrd) (by simp)]
    simp [HT.lexLt, itemLt]
  | x :: a, [] => by
    simp only [List.map_nil, List.map_cons, PySem.W.keyToksAll]
    rw [lex_diff (O := itemOrd) (by simp)]
    simp [HT.lexLt, itemLt]
  | x :: a, y :: b => by
    rw [List.map_cons, List.map_cons, HT.lexLt]
    by_cases e : x = y
    · rw [PySem.W.dataLt_all_yes (by simp [PySem.W.alike]) (by simp [PyData.eqv, e]), if_pos e, lt_ints a b]
    · rw [PySem.W.dataLt_all_no (by simp [PySem.W.alike]) (by simp [PyData.eqv, e]), if_neg e]
      unfold PySem.W.dataLt
      simp only [PySem.W.keyToks]
      rw [lex_diff (O := itemOrd) (by simp [e])]
      simp [itemLt]
/-- a ≤ b of rows -/
def rle (a b : List Int) : Bool := !HT.lexLt b a
theorem dataLe_pr (a b : List Int) : PySem.W.dataLe false pr a b = rle a b := by
  show (!PyProof.Rows.lexLt itemOrd (PySem.W.keyToks (pr b)) (PySem.W.keyToks (pr a))) = _
  have e : ∀ r : List Int, PySem.W.keyToks (pr r) = PySem.W.keyToksAll (r.map .int) := fun r => by simp [pr, PySem.W.keyToks]
  rw [e, e, lt_ints]
  rfl
end Rol

/-! sorted of rows; stores that grow; walks and comprehensions by their items. -/
namespace Rol
open PySem L2 PySem.Spec
open PyProof.Rows hiding St

theorem rle_total : PySem.W.TotalLe rle := by
  have h := PySem.W.sortLe_total (listOrd itemOrd) false (fun r => PySem.W.keyToks (pr r))
  have e : PySem.W.sortLe (listOrd itemOrd) false (fun r => PySem.W.keyToks (pr r)) = rle := by
    funext a b
    exact dataLe_pr a b
  rw [e] at h
  exact h
theorem lexLt_anti : ∀ a b : List Int, HT.lexLt a b = false → HT.lexLt b a = false → a = b
  | [], [], _, _ => rfl
  | [], _ :: _, h, _ => by simp [HT.lexLt] at h
  | _ :: _, [], _, h => by simp [HT.lexLt] at h
  | x :: a, y :: b, h1, h2 => by
    rw [HT.lexLt] at h1 h2
    by_cases e : x = y
    · subst e
      rw [if_pos rfl] at h1 h2
      rw [lexLt_anti a b h1 h2]
    · rw [if_neg e] at h1
      rw [if_neg (Ne.symm e)] at h2
      simp only [decide_eq_false_iff_not] at h1 h2
      omega
theorem rle_anti {a b : List Int} (h1 : rle a b = true) (h2 : rle b a = true) : a = b := by
  unfold rle at h1 h2
  rw [Bool.not_eq_true'] at h1 h2
  exact lexLt_anti a b h2 h1
theorem sort_rows {rs ys : List (List Int)} (hp : ys.Perm rs) (hs : ys.Pairwise (fun a b => rle a b = true)) : rs.mergeSort rle = ys :=
  List.Perm.eq_of_pairwise (fun a b _ _ => rle_anti) (PySem.W.sort_pairwise rle_total rs) hs ((List.mergeSort_perm rs rle).trans hp.symm)
theorem sortP_of {α : Type} {st : S} {rs ys : List α} (f : α → D) (g : α → PyData) (le : α → α → Bool) (h1 : ∀ r ∈ rs, toP st 64 (f r) = some (g r)) (hd : ∀ r ∈ rs, (g r).depth ≤ 70) (ha : PySem.W.AllAlike (rs.map g)) (ho : PySem.W.Sortable (rs.map g)) (hl : rs.length ≤ sizeLine)
    (hle : ∀ a ∈ rs, ∀ b ∈ rs, PySem.W.dataLe false g a b = le a b) (hs : rs.mergeSort le = ys) : sortP st (rs.map f) = some (ys.map f) := by
  unfold sortP
  rw [optAll_map (h := g) rs h1]
  have hz : (rs.map f).zip (rs.map g) = rs.map fun r => (f r, g r) := List.zip_map'
  have hsort : (rs.map fun r => (f r, g r)).mergeSort (PySem.W.dataLe false fun p => p.2) = (rs.mergeSort le).map fun r => (f r, g r) :=
    (PySem.W.sort_maps (fun r => (f r, g r)) fun a ha b hb => (hle a ha b hb).symm).symm
  have hc : PySem.W.AllAlike (rs.map g) ∧ PySem.W.Sortable (rs.map g) ∧ (rs.map f).length ≤ sizeLine ∧ ∀ d ∈ rs.map g, d.depth ≤ 70 := by
    refine ⟨ha, ho, by rw [List.length_map]; exact hl, fun d h => ?_⟩
    obtain ⟨r, hr, rfl⟩ := List.mem_map.mp h
    exact hd r hr
  dsimp only
  rw [if_pos hc, hz, hsort, hs, List.map_map]
  rfl
theorem sortP_rows {st : S} {rs ys : List (List Int)} (hne : ∀ r ∈ rs, r ≠ []) (hl : rs.length ≤ sizeLine) (hp : ys.Perm rs) (hs : ys.Pairwise (fun a b => rle a b = true)) : sortP st (rs.map rw') = some (ys.map rw') := by
  refine sortP_of rw' pr rle (fun r _ => toP_rw st 63 r) (fun r _ => by rw [depth_pr]; decide) (fun d h e h' => ?_) (.inl fun d h => ?_) hl (fun a _ b _ => dataLe_pr a b) (sort_rows hp hs)
  · obtain ⟨r, hr, rfl⟩ := List.mem_map.mp h
    obtain ⟨q, hq, rfl⟩ := List.mem_map.mp h'
    exact alike_pr r q
  · obtain ⟨r, hr, rfl⟩ := List.mem_map.mp h
    cases r with
    | nil => exact absurd rfl (hne _ hr)
    | cons x r => exact ⟨.int x, r.map .int, rfl⟩
theorem sortP_ints {st : S} {rs ys : List Int} (hl : rs.length ≤ sizeLine) (hp : ys.Perm rs) (hs : ys.Pairwise (· ≤ ·)) : sortP st (rs.map D.int) = some (ys.map D.int) := by
  have hle : ∀ a b : Int, PySem.W.dataLe false PyData.int a b = decide (a ≤ b) := fun a b => by
    show (!PyProof.Rows.lexLt itemOrd (PySem.W.keyToks (.int b)) (PySem.W.keyToks (.int a))) = _
    simp only [PySem.W.keyToks]
    by_cases e : a = b
    · subst e
      rw [lex_irrefl]
      simp
    · rw [lex_diff (O := itemOrd) (by simp [Ne.symm e])]
      show (!decide (b < a)) = decide (a ≤ b)
      rw [Bool.eq_iff_iff]
      simp
  have htot : PySem.W.TotalLe (fun a b : Int => decide (a ≤ b)) := ⟨fun a b c h1 h2 => by simp at *; omega, fun a b => by simp; omega⟩
  refine sortP_of D.int PyData.int (fun a b => decide (a ≤ b)) (fun r _ => toP_int st 64 r) (fun r _ => by simp [PyData.depth]) (fun d h e h' => ?_) (.inr fun d h => ?_) hl (fun a _ b _ => hle a b) ?_
  · obtain ⟨r, hr, rfl⟩ := List.mem_map.mp h
    obtain ⟨q, hq, rfl⟩ := List.mem_map.mp h'
    simp [PySem.W.alike]
  · obtain ⟨r, hr, rfl⟩ := List.mem_map.mp h
    exact ⟨(by simp), (by simp)⟩
  · refine List.Perm.eq_of_pairwise (le := fun a b : Int => decide (a ≤ b) = true) (fun a b _ _ h1 h2 => ?_) (PySem.W.sort_pairwise htot rs) (hs.imp fun h => decide_eq_true h) ((List.mergeSort_perm rs _).trans hp.symm)
    simp only [decide_eq_true_eq] at h1 h2
    omega

/-! ### stores that grow -/
structure Gr (st st' : S) : Prop where
  le : st.length ≤ st'.length
  get : ∀ i, i < st.length → st'[i]? = st[i]?
theorem Gr.refl (st : S) : Gr st st := ⟨Nat.le_refl _, fun _ _ => rfl⟩
theorem Gr.trans {a b c : S} (h : Gr a b) (k : Gr b c) : Gr a c := ⟨Nat.le_trans h.le k.le, fun i hi => (k.get i (Nat.lt_of_lt_of_le hi h.le)).trans (h.get i hi)⟩
theorem Gr.app (st l : S) : Gr st (st ++ l) := ⟨by simp, fun i hi => List.getElem?_append_left hi⟩
theorem Gr.set {st s : S} (h : Gr st s) {n : Nat} {o : O} (hn : st.length ≤ n) : Gr st (s.set n o) := ⟨by rw [List.length_set]; exact h.le, fun i hi => by
  rw [List.getElem?_set_ne (by omega)]
  exact h.get i hi⟩
theorem itemsAt_lt {st : S} {k : Nat} {xs : List D} (h : itemsAt st k = some xs) : k < st.length := by
  unfold itemsAt at h
  cases e : st[k]? with
  | none =>
    rw [e] at h
    cases h
  | some o => exact (List.getElem?_eq_some_iff.mp e).1
theorem Gr.items {st st' : S} (h : Gr st st') {k : Nat} {xs : List D} (e : itemsAt st k = some xs) : itemsAt st' k = some xs := by
  unfold itemsAt at e ⊢
  rw [h.get k (itemsAt_lt e)]
  exact e
theorem Gr.at {st st' : S} (h : Gr st st') {k : Nat} {o : O} (e : st[k]? = some o) : st'[k]? = some o := (h.get k (List.getElem?_eq_some_iff.mp e).1).trans e
theorem items_of {st : S} {k : Nat} {xs : List D} (e : st[k]? = some (.lst xs)) : itemsAt st k = some xs := by
  unfold itemsAt
  rw [e]

/-- the jar at j: two numbers, the first no less than 0 -/
def Jar (j : Nat) (st : S) : Prop := ∃ a b : Int, 0 ≤ a ∧ st[j]? = some (.lst [.int a, .int b])
structure Ev (j : Nat) (st st' : S) : Prop where
  le : st.length ≤ st'.length
  get : ∀ i, i < st.length → i ≠ j → st'[i]? = st[i]?
  jar : Jar j st'
theorem Jar.lt {j : Nat} {st : S} (h : Jar j st) : j < st.length := by
  obtain ⟨a, b, _, e⟩ := h
  exact (List.getElem?_eq_some_iff.mp e).1
theorem Jar.gr {j : Nat} {st st' : S} (h : Jar j st) (g : Gr st st') : Jar j st' := by
  obtain ⟨a, b, h0, e⟩ := h
  exact ⟨a, b, h0, g.at e⟩
theorem Ev.refl {j : Nat} {st : S} (h : Jar j st) : Ev j st st := ⟨Nat.le_refl _, fun _ _ _ => rfl, h⟩
theorem Ev.trans {j : Nat} {a b c : S} (h : Ev j a b) (k : Ev j b c) : Ev j a c := ⟨Nat.le_trans h.le k.le, fun i hi ne => (k.get i (Nat.lt_of_lt_of_le hi h.le) ne).trans (h.get i hi ne), k.jar⟩
theorem Ev.gr {j : Nat} {a b c : S} (h : Ev j a b) (k : Gr b c) : Ev j a c := ⟨Nat.le_trans h.le k.le, fun i hi ne => (k.get i (Nat.lt_of_lt_of_le hi h.le)).trans (h.get i hi ne), h.jar.gr k⟩
theorem Gr.ev {j : Nat} {a b : S} (k : Gr a b) (h : Jar j a) : Ev j a b := (Ev.refl h).gr k
theorem Ev.set {j : Nat} {st s : S} (h : Ev j st s) {n : Nat} {o : O} (hn : st.length ≤ n) (hj : n ≠ j) : Ev j st (s.set n o) := by
  refine ⟨by rw [List.length_set]; exact h.le, fun i hi ne => ?_, ?_⟩
  · rw [List.getElem?_set_ne (by omega)]
    exact h.get i hi ne
  · obtain ⟨a, b, h0, e⟩ := h.jar
    exact ⟨a, b, h0, by rw [List.getElem?_set_ne hj]; exact e⟩
theorem Ev.at {j : Nat} {st st' : S} (h : Ev j st st') {k : Nat} {o : O} (hk : k ≠ j) (e : st[k]? = some o) : st'[k]? = some o := (h.get k (List.getElem?_eq_some_iff.mp e).1 hk).trans e
theorem Ev.items {j : Nat} {st st' : S} (h : Ev j st st') {k : Nat} {xs : List D} (hk : k ≠ j) (e : itemsAt st k = some xs) : itemsAt st' k = some xs := by
  unfold itemsAt at e ⊢
  rw [h.get k (itemsAt_lt e) hk]
  exact e

/-! ### comprehensions -/
inductive Pd {α β : Type} (R : α → β → Prop) : List α → List β → Prop
  | nil : Pd R [] []
  | cons {a : α} {b : β} {as : List α} {bs : List β} : R a b → Pd R as bs → Pd R (a :: as) (b :: bs)
theorem Pd.map_eq {α β : Type} {f : α → β} : ∀ {as : List α} {bs : List β}, Pd (fun a b => b = f a) as bs → bs = as.map f
  | _, _, .nil => rfl
  | _, _, .cons h t => by rw [h, t.map_eq]; rfl
theorem Pd.length {α β : Type} {R : α → β → Prop} : ∀ {as : List α} {bs : List β}, Pd R as bs → bs.length = as.length
  | _, _, .nil => rfl
  | _, _, .cons _ t => by rw [List.length_cons, List.length_cons, t.length]
theorem Pd.all {α β : Type} {P : β → Prop} : ∀ {as : List α} {bs : List β}, Pd (fun _ b => P b) as bs → ∀ b ∈ bs, P b
  | _, _, .nil, _, h => by cases h
  | _, _, .cons h t, _, m => by
    cases m with
    | head => exact h
    | tail _ m => exact t.all _ m
theorem compL_of {gd : S → Prop} {p : Pat} {test : DT} {elt : DE} {n : Nat} {ρ : Nv} {R : S → Prop} {Px : D → D → Prop} (hstab : ∀ st acc, R st → R (st.set n (.lst acc))) (hgd : ∀ st, R st → gd st) :
    ∀ (xs : List D), (∀ x ∈ xs, ∀ st, R st → (∃ acc, st[n]? = some (.lst acc)) → ∃ ρ' y st', setP p x ρ = some ρ' ∧ test ρ' st = .ok true st ∧ elt ρ' st = .ok y st' ∧ Px x y ∧ R st' ∧ st'[n]? = st[n]?) →
    ∀ (acc : List D) (st : S), R st → st[n]? = some (.lst acc) → acc.length + xs.length ≤ sizeLine → ∃ ys st', compL gd p test elt n xs ρ st = .ok () st' ∧ R st' ∧ st'[n]? = some (.lst (acc ++ ys)) ∧ Pd Px xs ys
  | [], _, acc, st, hR, hn, _ => ⟨[], st, by rw [compL, if_pos (hgd _ hR)], hR, by rw [List.append_nil]; exact hn, .nil⟩
  | x :: xs, step, acc, st, hR, hn, hl => by
    obtain ⟨ρ', y, st1, e1, e2, e3, hp, hR1, hn1⟩ := step x (List.mem_cons_self ..) st hR ⟨acc, hn⟩
    have hn1' : st1[n]? = some (.lst acc) := hn1.trans hn
    have hlt : n < st1.length := (List.getElem?_eq_some_iff.mp hn1').1
    have hla : acc.length < sizeLine := by simp at hl; omega
    obtain ⟨ys, st', c, hR', hn', hpd⟩ := compL_of hstab hgd xs (fun z hz => step z (List.mem_cons_of_mem _ hz)) (acc ++ [y]) (st1.set n (.lst (acc ++ [y]))) (hstab _ _ hR1) (by rw [List.getElem?_set_self hlt]) (by simp at hl ⊢; omega)
    refine ⟨y :: ys, st', ?_, hR', by rw [hn']; simp, .cons hp hpd⟩
    rw [compL, if_pos (hgd _ hR), e1]
    dsimp only
    rw [e2, Res.bind_ok, if_pos rfl, e3, Res.bind_ok, hn1']
    dsimp only
    rw [if_pos hla]
    exact c
theorem Gd.gr {g : Option Nat} {xs : List D} {st st' : S} (h : Gd g xs st) (k : Gr st st') : Gd g xs st' := by
  cases g with
  | none => trivial
  | some i => exact k.items h
theorem Gd.ev {j : Nat} {g : Option Nat} {xs : List D} {st st' : S} (h : Gd g xs st) (k : Ev j st st') (hj : g ≠ some j) : Gd g xs st' := by
  cases g with
  | none => trivial
  | some i => exact k.items (fun e => hj (by rw [e])) h
/-- a comprehension whose elements only make the store grow -/
theorem eComp_gr {mi : DI} {p : Pat} {vs : List Nat} {elt : DE} {ρ : Nv} {st st0 : S} {xs : List D} {g : Option Nat} (f : D → D) (hi : mi ρ st = .ok (xs, g) st0) (hg : Gd g xs st0) (hl : xs.length ≤ sizeLine)
    (step : ∀ x ∈ xs, ∀ s, Gr st0 s → ∃ ρ' s', setP p x (wipeD ρ vs) = some ρ' ∧ elt ρ' s = .ok (f x) s' ∧ Gr s s') : ∃ st', eComp mi p vs tYesD elt ρ st = .ok (.loc st0.length) st' ∧ Gr st0 st' ∧ st'[st0.length]? = some (.lst (xs.map f)) := by
  obtain ⟨ys, st', c, hR, hn, hpd⟩ := compL_of (gd := Gd g xs) (p := p) (test := tYesD) (elt := elt) (n := st0.length) (ρ := wipeD ρ vs) (R := Gr st0) (Px := fun x y => y = f x) (fun s acc h => h.set (Nat.le_refl _)) (fun s h => hg.gr h) xs (fun x hx s hs ⟨acc, ha⟩ => by
      obtain ⟨ρ', s', e1, e2, e3⟩ := step x hx s hs
      exact ⟨ρ', f x, s', e1, rfl, e2, rfl, hs.trans e3, e3.get _ (List.getElem?_eq_some_iff.mp ha).1⟩) [] (st0 ++ [.lst []]) (Gr.app _ _) (by simp) (by simpa using hl)
  refine ⟨st', ?_, hR, by rw [hn, hpd.map_eq]; rfl⟩
  unfold eComp
  rw [hi, Res.bind_ok]
  dsimp only
  rw [c]
  rfl
/-- a comprehension whose elements draw from the jar -/
theorem eComp_ev {j : Nat} {mi : DI} {p : Pat} {vs : List Nat} {elt : DE} {ρ : Nv} {st st0 : S} {xs : List D} {g : Option Nat} (Px : D → D → Prop) (hj : Jar j st0) (hi : mi ρ st = .ok (xs, g) st0) (hg : Gd g xs st0) (hgj : g ≠ some j) (hl : xs.length ≤ sizeLine)
    (step : ∀ x ∈ xs, ∀ s, Ev j st0 s → ∃ ρ' y s', setP p x (wipeD ρ vs) = some ρ' ∧ elt ρ' s = .ok y s' ∧ Px x y ∧ Ev j s s') : ∃ ys st', eComp mi p vs tYesD elt ρ st = .ok (.loc st0.length) st' ∧ Ev j st0 st' ∧ st'[st0.length]? = some (.lst ys) ∧ Pd Px xs ys := by
  have hlt := hj.lt
  obtain ⟨ys, st', c, hR, hn, hpd⟩ := compL_of (gd := Gd g xs) (p := p) (test := tYesD) (elt := elt) (n := st0.length) (ρ := wipeD ρ vs) (R := Ev j st0) (Px := Px) (fun s acc h => h.set (Nat.le_refl _) (by omega)) (fun s h => hg.ev h hgj) xs (fun x hx s hs ⟨acc, ha⟩ => by
      obtain ⟨ρ', y, s', e1, e2, e3, e4⟩ := step x hx s hs
      exact ⟨ρ', y, s', e1, rfl, e2, e3, hs.trans e4, e4.get _ (List.getElem?_eq_some_iff.mp ha).1 (by omega)⟩) [] (st0 ++ [.lst []]) ((Gr.app _ _).ev hj) (by simp) (by simpa using hl)
  refine ⟨ys, st', ?_, hR, by rw [hn]; rfl, hpd⟩
  unfold eComp
  rw [hi, Res.bind_ok]
  dsimp only
  rw [c]
  rfl
theorem dTuple_at {st : S} {k : Nat} {xs : List D} (h : st[k]? = some (.lst xs)) : dTuple [.loc k] st = .ok (.tup xs) st := by
  unfold dTuple
  simp only [items_of h]
/-- tuple([...]) -/
theorem tupComp_gr {mi : DI} {p : Pat} {vs : List Nat} {elt : DE} {ρ : Nv} {st st0 : S} {xs : List D} {g : Option Nat} (f : D → D) (hi : mi ρ st = .ok (xs, g) st0) (h0 : Gr st st0) (hg : Gd g xs st0) (hl : xs.length ≤ sizeLine)
    (step : ∀ x ∈ xs, ∀ s, Gr st0 s → ∃ ρ' s', setP p x (wipeD ρ vs) = some ρ' ∧ elt ρ' s = .ok (f x) s' ∧ Gr s s') : ∃ st', eCall dTuple (aCons (eComp mi p vs tYesD elt) aNil) ρ st = .ok (.tup (xs.map f)) st' ∧ Gr st st' := by
  obtain ⟨st', c, hR, hn⟩ := eComp_gr f hi hg hl step
  refine ⟨st', ?_, h0.trans hR⟩
  unfold eCall aCons aNil
  rw [c]
  simp only [Res.bind_ok]
  exact dTuple_at hn
theorem tupComp_ev {j : Nat} {mi : DI} {p : Pat} {vs : List Nat} {elt : DE} {ρ : Nv} {st st0 : S} {xs : List D} {g : Option Nat} (Px : D → D → Prop) (hj : Jar j st) (hi : mi ρ st = .ok (xs, g) st0) (h0 : Gr st st0) (hg : Gd g xs st0) (hgj : g ≠ some j) (hl : xs.length ≤ sizeLine)
    (step : ∀ x ∈ xs, ∀ s, Ev j st0 s → ∃ ρ' y s', setP p x (wipeD ρ vs) = some ρ' ∧ elt ρ' s = .ok y s' ∧ Px x y ∧ Ev j s s') : ∃ ys st', eCall dTuple (aCons (eComp mi p vs tYesD elt) aNil) ρ st = .ok (.tup ys) st' ∧ Ev j st st' ∧ Pd Px xs ys := by
  obtain ⟨ys, st', c, hR, hn, hpd⟩ := eComp_ev Px (hj.gr h0) hi hg hgj hl step
  refine ⟨ys, st', ?_, (h0.ev hj).trans hR, hpd⟩
  unfold eCall aCons aNil
  rw [c]
  simp only [Res.bind_ok]
  exact dTuple_at hn

/-! ### walks -/
theorem forL_of {gd : S → Prop} {p : Pat} {bd : DS} (all : List D) (I : List D → Nv → S → Prop) (hgd : ∀ done ρ st, I done ρ st → gd st)
    (step : ∀ done x rest ρ st, all = done ++ x :: rest → I done ρ st → ∃ ρ', setP p x ρ = some ρ' ∧ ∃ ρ'' st', bd ρ' st = .nx ρ'' st' ∧ I (done ++ [x]) ρ'' st') :
    ∀ (xs done : List D) (ρ : Nv) (st : S), all = done ++ xs → I done ρ st → ∃ ρ' st', forL gd p bd xs ρ st = .nx ρ' st' ∧ I all ρ' st'
  | [], done, ρ, st, e, h => ⟨ρ, st, by rw [forL, if_pos (hgd _ _ _ h)], by rw [e, List.append_nil]; exact h⟩
  | x :: xs, done, ρ, st, e, h => by
    obtain ⟨ρ', e1, ρ'', st', e2, h'⟩ := step done x xs ρ st e h
    obtain ⟨ρ3, st3, e3, h3⟩ := forL_of all I hgd step xs (done ++ [x]) ρ'' st' (by rw [e]; simp) h'
    refine ⟨ρ3, st3, ?_, h3⟩
    rw [forL, if_pos (hgd _ _ _ h), e1]
    dsimp only
    rw [e2]
    exact e3
theorem sFor_of {mi : DI} {p : Pat} {bd : DS} {ρ : Nv} {st st0 : S} {xs : List D} {g : Option Nat} (I : List D → Nv → S → Prop) (hi : mi ρ st = .ok (xs, g) st0) (hgd : ∀ done ρ st, I done ρ st → Gd g xs st) (h0 : I [] ρ st0)
    (step : ∀ done x rest ρ st, xs = done ++ x :: rest → I done ρ st → ∃ ρ', setP p x ρ = some ρ' ∧ ∃ ρ'' st', bd ρ' st = .nx ρ'' st' ∧ I (done ++ [x]) ρ'' st') : ∃ ρ' st', sFor mi p bd ρ st = .nx ρ' st' ∧ I xs ρ' st' := by
  obtain ⟨ρ', st', e, h⟩ := forL_of (gd := Gd g xs) (p := p) (bd := bd) xs I hgd step xs [] ρ st0 rfl h0
  refine ⟨ρ', st', ?_, h⟩
  unfold sFor
  rw [hi]
  exact e
end Rol

/-! Steps: what a function of data gives, piece by piece. -/
namespace Rol
open PySem L2 PySem.Spec
open PyProof.Rows hiding St

section
variable {m n mo mi ma mb mc : DE} {c c' : DT} {l l' : DA} {s1 s2 s3 s4 st st' : S} {ρ ρ' : Nv} {o : Out} {sm sn : DS} {i j k : Nat} {x y z v w d : D} {xs ys : List D} {b b' : Bool} {f g : D → D → S → Res D}
theorem x_seq (h : sm ρ st = .nx ρ' st') (h2 : sn ρ' st' = o) : sSeq sm sn ρ st = o := by unfold sSeq; rw [h]; exact h2
theorem x_seqr (h : sm ρ st = .rt v st') : sSeq sm sn ρ st = .rt v st' := by unfold sSeq; rw [h]
theorem x_set (h : m ρ st = .ok v st') : sSet i m ρ st = .nx (ρ.set i (some v)) st' := by unfold sSet; rw [h]; rfl
inductive SetTo (ρ : Nv) (i : Nat) (v : D) (ρ' : Nv) : Prop
  | mk (h : ρ.set i (some v) = ρ') : SetTo ρ i v ρ'
inductive EnvEq (ρ ρ' : Nv) : Prop
  | mk (h : ρ = ρ') : EnvEq ρ ρ'
theorem x_setE (h : m ρ st = .ok v st') (h2 : SetTo ρ i v ρ') : sSet i m ρ st = .nx ρ' st' := by
  obtain ⟨h2⟩ := h2
  subst h2
  exact x_set h
theorem x_exprE (h : m ρ st = .ok v st') (h2 : EnvEq ρ ρ') : sExpr m ρ st = .nx ρ' st' := by
  obtain ⟨h2⟩ := h2
  subst h2
  unfold sExpr
  rw [h]
  rfl
theorem x_expr (h : m ρ st = .ok v st') : sExpr m ρ st = .nx ρ st' := by unfold sExpr; rw [h]; rfl
theorem x_ret (h : m ρ st = .ok v st') : sRet m ρ st = .rt v st' := by unfold sRet; rw [h]; rfl
theorem x_ift (h : c ρ st = .ok b st') (hb : b = true) (h2 : sm ρ st' = o) : sIf c sm sn ρ st = o := by unfold sIf; rw [h]; simp only [Res.out_ok, if_pos hb]; exact h2
theorem x_iff (h : c ρ st = .ok b st') (hb : b = false) (h2 : sn ρ st' = o) : sIf c sm sn ρ st = o := by subst hb; unfold sIf; rw [h]; exact h2
theorem x_skip : sSkip ρ st = .nx ρ st := rfl
theorem x_par2 (h : l ρ st = .ok [x, y] st') : sPar [i, j] l ρ st = .nx ((ρ.set i (some x)).set j (some y)) st' := by unfold sPar; rw [h]; rfl
theorem x_par3 (h : l ρ st = .ok [x, y, z] st') : sPar [i, j, k] l ρ st = .nx (((ρ.set i (some x)).set j (some y)).set k (some z)) st' := by unfold sPar; rw [h]; rfl
theorem x_sub {sf : D → D → D → S → Option S} (h : m ρ st = .ok v s1) (h2 : mo ρ s1 = .ok x s2) (h3 : mi ρ s2 = .ok y s3) (h4 : sf x y v s3 = some s4) : sSub sf mo mi m ρ st = .nx ρ s4 := by
  unfold sSub
  rw [h]
  simp only [Res.out_ok]
  rw [h2]
  simp only [Res.out_ok]
  rw [h3]
  simp only [Res.out_ok]
  rw [h4]
theorem x_var (h : ρ[i]? = some (some d)) : eVar i ρ st = .ok d st := by unfold eVar; rw [h]
theorem x_c : eC d ρ st = .ok d st := rfl
theorem x_nil : aNil ρ st = .ok [] st := rfl
theorem x_cons (h : m ρ st = .ok x s1) (h2 : l ρ s1 = .ok xs s2) : aCons m l ρ st = .ok (x :: xs) s2 := by unfold aCons; rw [h, Res.bind_ok, h2]; rfl
theorem x_tup (h : l ρ st = .ok xs st') (hl : xs.length ≤ sizeLine) : eTup l ρ st = .ok (.tup xs) st' := by unfold eTup; rw [h, Res.bind_ok, if_pos hl]
theorem x_lst (h : l ρ st = .ok xs st') (hl : xs.length ≤ sizeLine) : eLst l ρ st = .ok (.loc st'.length) (st' ++ [.lst xs]) := by unfold eLst; rw [h, Res.bind_ok, if_pos hl]
theorem x_2 (h : ma ρ st = .ok x s1) (h2 : mb ρ s1 = .ok y s2) (h3 : f x y s2 = .ok v s3) : e2 f ma mb ρ st = .ok v s3 := by unfold e2; rw [h, Res.bind_ok, h2, Res.bind_ok, h3]
theorem x_1 {f : D → S → Res D} (h : ma ρ st = .ok x s1) (h3 : f x s1 = .ok v s3) : e1 f ma ρ st = .ok v s3 := by unfold e1; rw [h, Res.bind_ok, h3]
theorem x_call {f : List D → S → Res D} (h : l ρ st = .ok xs s1) (h3 : f xs s1 = .ok v s3) : eCall f l ρ st = .ok v s3 := by unfold eCall; rw [h, Res.bind_ok, h3]
theorem x_fn {f : Fn} (h : l ρ st = .ok xs s1) (h3 : f xs s1 = .ok v s3) : eFn f l ρ st = .ok v s3 := by unfold eFn; rw [h, Res.bind_ok, h3]
theorem x_fnk {f : Fn} {is : List Nat} (h : l ρ st = .ok xs s1) (h3 : f (permL is xs) s1 = .ok v s3) : eFnK0 f is l ρ st = .ok v s3 := by unfold eFnK0; rw [h, Res.bind_ok, h3]
theorem x_tof (h : m ρ st = .ok (.bl b) s1) : tOf m ρ st = .ok b s1 := by unfold tOf; rw [h]; rfl
theorem x_tnot (h : c ρ st = .ok b s1) : tNotD c ρ st = .ok (!b) s1 := by unfold tNotD; rw [h]; rfl
theorem x_tort (h : c ρ st = .ok b s1) (hb : b = true) : tOrD c c' ρ st = .ok true s1 := by subst hb; unfold tOrD; rw [h]; rfl
theorem x_torf (h : c ρ st = .ok b s1) (hb : b = false) (h2 : c' ρ s1 = .ok b' s2) : tOrD c c' ρ st = .ok b' s2 := by subst hb; unfold tOrD; rw [h]; exact h2
theorem x_tandf (h : c ρ st = .ok b s1) (hb : b = false) : tAndD c c' ρ st = .ok false s1 := by subst hb; unfold tAndD; rw [h]; rfl
theorem x_tandt (h : c ρ st = .ok b s1) (hb : b = true) (h2 : c' ρ s1 = .ok b' s2) : tAndD c c' ρ st = .ok b' s2 := by subst hb; unfold tAndD; rw [h]; exact h2
theorem x_not (h : m ρ st = .ok (.bl b) s1) : eNot m ρ st = .ok (.bl (!b)) s1 := by unfold eNot; rw [h]; rfl
theorem x_andt (h : m ρ st = .ok (.bl b) s1) (hb : b = true) (h2 : n ρ s1 = .ok v s2) : eAnd m n ρ st = .ok v s2 := by subst hb; unfold eAnd; rw [h]; exact h2
theorem x_andf (h : m ρ st = .ok (.bl b) s1) (hb : b = false) : eAnd m n ρ st = .ok (.bl false) s1 := by subst hb; unfold eAnd; rw [h]; rfl
theorem x_and2 (h : m ρ st = .ok (.bl b) s1) (h2 : n ρ s1 = .ok (.bl b') s1) : eAnd m n ρ st = .ok (.bl (b && b')) s1 := by
  unfold eAnd
  rw [h]
  cases b with
  | true => exact h2
  | false => rfl
theorem x_it (h : c ρ st = .ok b s1) (hb : b = true) (h2 : m ρ s1 = .ok v s2) : eIf c m n ρ st = .ok v s2 := by subst hb; unfold eIf; rw [h]; exact h2
theorem x_if (h : c ρ st = .ok b s1) (hb : b = false) (h2 : n ρ s1 = .ok v s2) : eIf c m n ρ st = .ok v s2 := by subst hb; unfold eIf; rw [h]; exact h2
theorem x_sl {lo hi : DO} {p q : Option Int} (h : m ρ st = .ok x s1) (h2 : lo ρ s1 = .ok p s2) (h3 : hi ρ s2 = .ok q s3) (h4 : dSl x p q s3 = .ok v s4) : eSl m lo hi ρ st = .ok v s4 := by unfold eSl; rw [h, Res.bind_ok, h2, Res.bind_ok, h3, Res.bind_ok, h4]
theorem x_on : oNone ρ st = .ok none st := rfl
theorem x_os {i : Int} (h : m ρ st = .ok (.int i) s1) : oSome m ρ st = .ok (some i) s1 := by unfold oSome; rw [h]; rfl
theorem x_mt {f : D → List D → S → Res D} (h : mo ρ st = .ok x s1) (hx : isLst x s1 = true) (h2 : l ρ s1 = .ok xs s2) (h3 : f x xs s2 = .ok v s3) : eMt f mo l ρ st = .ok v s3 := by unfold eMt; rw [h, Res.bind_ok, if_pos hx, h2, Res.bind_ok, h3]
theorem x_body {q : Nat} (h : sm (xs.map some ++ List.replicate (q - xs.length) none) st = .rt v st') : body q sm xs st = .ok v st' := by unfold body; rw [h]
theorem x_bodyn {q : Nat} (h : sm (xs.map some ++ List.replicate (q - xs.length) none) st = .nx ρ' st') : body q sm xs st = .ok .non st' := by unfold body; rw [h]
theorem x_iseq (h : m ρ st = .ok (.tup xs) s1) : iSeq m ρ st = .ok (xs, none) s1 := by unfold iSeq; rw [h]; rfl
theorem x_iseql {k : Nat} (h : m ρ st = .ok (.loc k) s1) (h2 : itemsAt s1 k = some xs) : iSeq m ρ st = .ok (xs, some k) s1 := by unfold iSeq; rw [h, Res.bind_ok]; simp only [h2]
theorem x_irg1 {j : Int} (h : l ρ st = .ok [.int j] s1) (h1 : -(2 ^ 62) ≤ j) (h2 : j < 2 ^ 62) : iRg1 l ρ st = .ok (irange 0 j.toNat, none) s1 := by unfold iRg1; rw [h, Res.bind_ok]; simp only [if_pos (And.intro h1 h2)]
theorem x_irg2 {i j : Int} (h : l ρ st = .ok [.int i, .int j] s1) (h1 : -(2 ^ 62) ≤ i ∧ i < 2 ^ 62 ∧ -(2 ^ 62) ≤ j ∧ j < 2 ^ 62) : iRg2 l ρ st = .ok (irange i (j - i).toNat, none) s1 := by unfold iRg2; rw [h, Res.bind_ok]; simp only [if_pos h1]
theorem x_izip (h : l ρ st = .ok [.tup xs, .tup ys] s1) : iZipT l ρ st = .ok (List.zipWith (fun x y => .tup [x, y]) xs ys, none) s1 := by unfold iZipT; rw [h]; rfl
end
section
variable {i j : Int} {st st' : S} {xs ys : List D} {k : Nat} {x : D}
theorem atI_nat {α : Type} (xs : List α) (i : Nat) (h : i < xs.length) : atI xs (i : Int) = xs[i]? := by
  unfold atI ixN
  rw [if_pos (by omega), if_pos (by omega)]
  simp
theorem l_ixl (e : st[k]? = some (.lst xs)) (hx : atI xs i = some x) : dIx (.loc k) (.int i) st = .ok x st := by
  unfold dIx
  simp only [items_of e, hx]
theorem l_ixt (hx : atI xs i = some x) : dIx (.tup xs) (.int i) st = .ok x st := by
  unfold dIx
  simp only [hx]
theorem cMul_r (h1 : -(2 ^ 64) < j) (h2 : j < 2 ^ 64) : cMul i j = true := by
  unfold cMul
  rw [decide_eq_true h1, decide_eq_true h2]
  simp
theorem l_mul (h : cMul i j = true) : dMul (.int i) (.int j) st = .ok (.int (i * j)) st := by
  show (if cMul i j = true then Res.ok (D.int (i * j)) st else .stuck) = _
  rw [if_pos h]
theorem l_mod (h : 0 < j) : dMod (.int i) (.int j) st = .ok (.int (i % j)) st := by simp [dMod, i2c, h]
theorem l_fdiv (h : 0 < j) (h2 : j.natAbs.log2 < 9000) : dFdiv (.int i) (.int j) st = .ok (.int (i / j)) st := by simp [dFdiv, i2c, h, h2]
theorem l_add : dAdd (.int i) (.int j) st = .ok (.int (i + j)) st := rfl
theorem l_addt (h : xs.length + ys.length ≤ sizeLine) : dAdd (.tup xs) (.tup ys) st = .ok (.tup (xs ++ ys)) st := by
  show (if xs.length + ys.length ≤ sizeLine then Res.ok (D.tup (xs ++ ys)) st else .stuck) = _
  rw [if_pos h]
theorem l_sub : dSub (.int i) (.int j) st = .ok (.int (i - j)) st := rfl
theorem l_neg : dNeg (.int i) st = .ok (.int (-i)) st := rfl
theorem l_lt : dLt (.int i) (.int j) st = .ok (.bl (decide (i < j))) st := rfl
theorem l_le : dLe (.int i) (.int j) st = .ok (.bl (decide (i ≤ j))) st := rfl
theorem l_gt : dGt (.int i) (.int j) st = .ok (.bl (decide (j < i))) st := rfl
theorem l_ge : dGe (.int i) (.int j) st = .ok (.bl (decide (j ≤ i))) st := rfl
theorem l_lent : dLen [.tup xs] st = .ok (.int xs.length) st := rfl
theorem l_lenl (h : itemsAt st k = some xs) : dLen [.loc k] st = .ok (.int xs.length) st := by unfold dLen; simp only [h]
theorem l_inti : dIntS [.int i] st = .ok (.int i) st := rfl
theorem l_intb {b : Bool} : dIntS [.bl b] st = .ok (.int (if b then 1 else 0)) st := rfl
theorem l_tup : dTuple [.tup xs] st = .ok (.tup xs) st := rfl
theorem l_tupl (h : itemsAt st k = some xs) : dTuple [.loc k] st = .ok (.tup xs) st := by unfold dTuple; simp only [h]
theorem l_listt : dList [.tup xs] st = .ok (.loc st.length) (st ++ [.lst xs]) := rfl
theorem l_slt {p q : Option Int} : dSl (.tup xs) p q st = .ok (.tup (cutD xs p q)) st := rfl
theorem l_app {y : D} (e : st[k]? = some (.lst xs)) (h : xs.length < sizeLine) : dAppend (.loc k) [y] st = .ok .non (st.set k (.lst (xs ++ [y]))) := by
  unfold dAppend
  simp only [e, if_pos h]
theorem l_extt (e : st[k]? = some (.lst xs)) (h : xs.length + ys.length ≤ sizeLine) : dExtend (.loc k) [.tup ys] st = .ok .non (st.set k (.lst (xs ++ ys))) := by
  unfold dExtend
  simp only [e, if_pos h]
theorem l_extl {j : Nat} (e : st[k]? = some (.lst xs)) (e2 : st[j]? = some (.lst ys)) (h : xs.length + ys.length ≤ sizeLine) : dExtend (.loc k) [.loc j] st = .ok .non (st.set k (.lst (xs ++ ys))) := by
  unfold dExtend
  simp only [e, e2, if_pos h]
theorem l_set {v : D} {q : Nat} (e : st[k]? = some (.lst xs)) (h : ixN xs.length i = some q) : dSetIx (.loc k) (.int i) v st = some (st.set k (.lst (xs.set q v))) := by
  unfold dSetIx
  simp only [e, h]
theorem isLst_at (e : st[k]? = some (.lst xs)) : isLst (.loc k) st = true := by
  unfold isLst
  simp only [items_of e]
  rfl
theorem ixN_nat {n q : Nat} (h : q < n) : ixN n (q : Int) = some q := by
  unfold ixN
  rw [if_pos (by omega), if_pos (by omega)]
  simp
theorem jar_set {j : Nat} {st : S} (h : Jar j st) {a b : Int} (h0 : 0 ≤ a) : Ev j st (st.set j (.lst [.int a, .int b])) :=
  ⟨by simp, fun i hi ne => by rw [List.getElem?_set_ne (Ne.symm ne)], a, b, h0, by rw [List.getElem?_set_self h.lt]⟩
end
end Rol

namespace Rol
open PySem L2 PySem.Spec
open PyProof.Rows hiding St
theorem compL2_gr {gd : S → Prop} {p p1 : Pat} {mi1 : DI} {vs1 : List Nat} {elt : DE} {n : Nat} {ρ : Nv} {st0 : S} (hn : n = st0.length) (hgd : ∀ s, Gr st0 s → gd s) (inner : D → List D) (f : D → D → D) :
    ∀ (xs : List D), (∀ x ∈ xs, ∃ ρ', setP p x ρ = some ρ' ∧ ∀ s, Gr st0 s → ∃ g1, mi1 ρ' s = .ok (inner x, g1) s ∧ (∀ s', Gr st0 s' → Gd g1 (inner x) s') ∧ ∀ y ∈ inner x, ∀ s', Gr st0 s' → ∃ ρ'' s'', setP p1 y (wipeD ρ' vs1) = some ρ'' ∧ elt ρ'' s' = .ok (f x y) s'' ∧ Gr s' s'') →
    ∀ (acc : List D) (st : S), Gr st0 st → st[n]? = some (.lst acc) → acc.length + (xs.flatMap fun x => (inner x).map (f x)).length ≤ sizeLine → ∃ st', compL2 gd p tYesD mi1 p1 vs1 tYesD elt n xs ρ st = .ok () st' ∧ Gr st0 st' ∧ st'[n]? = some (.lst (acc ++ xs.flatMap fun x => (inner x).map (f x)))
  | [], _, acc, st, hR, hc, _ => ⟨st, by rw [compL2, if_pos (hgd _ hR)], hR, by rw [hc]; simp⟩
  | x :: xs, step, acc, st, hR, hc, hl => by
    obtain ⟨ρ', e1, h1⟩ := step x (List.mem_cons_self ..)
    obtain ⟨g1, e2, hg1, h2⟩ := h1 st hR
    rw [List.flatMap_cons, List.length_append, List.length_map] at hl
    obtain ⟨ys, st1, c1, hR1, hc1, hpd⟩ := compL_of (gd := Gd g1 (inner x)) (p := p1) (test := tYesD) (elt := elt) (n := n) (ρ := wipeD ρ' vs1) (R := Gr st0) (Px := fun y z => z = f x y) (fun s acc h => h.set (by omega)) hg1 (inner x) (fun y hy s hs ⟨a, ha⟩ => by
      obtain ⟨ρ'', s'', k1, k2, k3⟩ := h2 y hy s hs
      exact ⟨ρ'', f x y, s'', k1, rfl, k2, rfl, hs.trans k3, k3.get _ (List.getElem?_eq_some_iff.mp ha).1⟩) acc st hR hc (by omega)
    have hm := hpd.map_eq
    obtain ⟨st', c, hR', hc'⟩ := compL2_gr hn hgd inner f xs (fun z hz => step z (List.mem_cons_of_mem _ hz)) (acc ++ ys) st1 hR1 hc1 (by rw [hm, List.length_append, List.length_map]; omega)
    refine ⟨st', ?_, hR', by rw [hc', hm]; simp⟩
    rw [compL2, if_pos (hgd _ hR), e1]
    dsimp only
    rw [show tYesD ρ' st = .ok true st from rfl, Res.bind_ok, if_pos rfl, e2, Res.bind_ok]
    dsimp only
    rw [c1, Res.bind_ok]
    exact c
theorem eComp2_gr {mi : DI} {p p1 : Pat} {vs vs1 : List Nat} {mi1 : DI} {elt : DE} {ρ : Nv} {st st0 : S} {xs : List D} {g : Option Nat} (inner : D → List D) (f : D → D → D) (hi : mi ρ st = .ok (xs, g) st0) (hg : Gd g xs st0) (hl : (xs.flatMap fun x => (inner x).map (f x)).length ≤ sizeLine)
    (step : ∀ x ∈ xs, ∃ ρ', setP p x (wipeD ρ vs) = some ρ' ∧ ∀ s, Gr st0 s → ∃ g1, mi1 ρ' s = .ok (inner x, g1) s ∧ (∀ s', Gr st0 s' → Gd g1 (inner x) s') ∧ ∀ y ∈ inner x, ∀ s', Gr st0 s' → ∃ ρ'' s'', setP p1 y (wipeD ρ' vs1) = some ρ'' ∧ elt ρ'' s' = .ok (f x y) s'' ∧ Gr s' s'') :
    ∃ st', eComp2 mi p vs tYesD mi1 p1 vs1 tYesD elt ρ st = .ok (.loc st0.length) st' ∧ Gr st0 st' ∧ st'[st0.length]? = some (.lst (xs.flatMap fun x => (inner x).map (f x))) := by
  obtain ⟨st', c, hR, hn⟩ := compL2_gr (gd := Gd g xs) (p := p) (p1 := p1) (mi1 := mi1) (vs1 := vs1) (elt := elt) (n := st0.length) (ρ := wipeD ρ vs) rfl (fun s h => hg.gr h) inner f xs step [] (st0 ++ [.lst []]) (Gr.app _ _) (by simp) (by simpa using hl)
  refine ⟨st', ?_, hR, by rw [hn]; simp⟩
  unfold eComp2
  rw [hi, Res.bind_ok]
  dsimp only
  rw [c]
  rfl
theorem split_at {α : Type} {f : α → D} {cs : List α} {done rest : List D} {x : D} (e : cs.map f = done ++ x :: rest) : ∃ c, x = f c ∧ c ∈ cs ∧ cs[done.length]? = some c ∧ cs.take (done.length + 1) = cs.take done.length ++ [c] := by
  have h : (cs.map f)[done.length]? = some x := by
    rw [e, List.getElem?_append_right (Nat.le_refl _), Nat.sub_self]
    rfl
  rw [List.getElem?_map] at h
  cases hc : cs[done.length]? with
  | none =>
    rw [hc] at h
    cases h
  | some c =>
    rw [hc] at h
    refine ⟨c, (Option.some.inj h).symm, List.mem_of_getElem? hc, rfl, ?_⟩
    rw [List.take_succ, hc]
    rfl
theorem ints_of {α : Type} {P : Int → Prop} : ∀ {xs : List α} {ys : List D}, Pd (fun _ y => ∃ z, y = D.int z ∧ P z) xs ys → ∃ r : List Int, ys = r.map D.int ∧ (∀ z ∈ r, P z) ∧ r.length = xs.length
  | _, _, .nil => ⟨[], rfl, fun z h => (by cases h), rfl⟩
  | _, _, .cons ⟨z, h1, h2⟩ t => by
    obtain ⟨r, e, h, hl⟩ := ints_of t
    refine ⟨z :: r, by rw [h1, e]; rfl, fun y hy => ?_, by rw [List.length_cons, List.length_cons, hl]⟩
    cases hy with
    | head => exact h2
    | tail _ hy => exact h y hy
end Rol

namespace Rol.G
open PySem L2 PySem.Spec Rol
open PyProof.Rows hiding St
def top (i : Nat) : Stmt := PySem.Challenge.pw_roundorlist_k01_sums_of_rows_beside_trie.main.body.getD i (.Pass ⟨0, 0, 0, 0⟩)
/-! ### functions of data -/
abbrev N_is_number : List Str := ["thing"]
noncomputable def m_is_number : DS := (sRet (eAnd (eCall dIsi (aCons (eVar 0) (aCons (eC (.opq (.ty "int"))) aNil))) (eNot (eCall dIsi (aCons (eVar 0) (aCons (eC (.opq (.ty "bool"))) aNil))))))
noncomputable def d_is_number : Fn := body 1 m_is_number

abbrev N_is_many : List Str := ["n"]
noncomputable def m_is_many : DS := (sRet (eAnd (eFn d_is_number (aCons (eVar 0) aNil)) (eChain dLe dLe (eC (.int 1)) (eVar 0) (eC (.int 6)))))
noncomputable def d_is_many : Fn := body 1 m_is_many

abbrev N_ask_many : List Str := ["n"]
noncomputable def m_ask_many : DS := (sIf (tNotD (tOf (eFn d_is_many (aCons (eVar 0) aNil)))) sNo sSkip)
noncomputable def d_ask_many : Fn := body 1 m_ask_many

abbrev N_level : List Str := ["n"]
noncomputable def m_level : DS := (sSeq (sExpr (eFn d_ask_many (aCons (eVar 0) aNil))) (sRet (e2 dMul (eTup (aCons (eC (.int 0)) aNil)) (eVar 0))))
noncomputable def d_level : Fn := body 1 m_level

abbrev N_all_of : List Str := ["choices", "rows", "signs", "row", "sign"]
noncomputable def m_all_of : DS := (sSeq (sSet 1 (eLst (aCons (eTup aNil) aNil))) (sSeq (sFor (iSeq (eVar 0)) (.nm 2) (sSet 1 (eComp2 (iSeq (eVar 1)) (.nm 3) [3, 4] tYesD (iSeq (eVar 2)) (.nm 4) [4] tYesD (e2 dAdd (eVar 3) (eTup (aCons (eVar 4) aNil)))))) (sRet (eCall dTuple (aCons (eVar 1) aNil)))))
noncomputable def d_all_of : Fn := body 5 m_all_of

abbrev N_turned : List Str := ["row", "sign"]
noncomputable def m_turned : DS := (sRet (eCall dTuple (aCons (eComp (iSeq (eVar 0)) (.nm 1) [1] tYesD (e1 dNeg (eVar 1))) aNil)))
noncomputable def d_turned : Fn := body 2 m_turned

abbrev N_signs_summed : List Str := ["here", "there"]
noncomputable def m_signs_summed : DS := (sSeq (sIf (tOrD (tOf (e2 dEq (eVar 0) (eC (.int 0)))) (tOf (e2 dEq (eVar 0) (eVar 1)))) (sRet (eTup (aCons (eVar 1) aNil))) sSkip) (sSeq (sIf (tOf (e2 dEq (eVar 1) (eC (.int 0)))) (sRet (eTup (aCons (eVar 0) aNil))) sSkip) (sRet (eC (.tup [(.int (-1)), (.int 0), (.int 1)])))))
noncomputable def d_signs_summed : Fn := body 2 m_signs_summed

abbrev N_sums : List Str := ["one", "two", "here", "there"]
noncomputable def m_sums : DS := (sRet (eFn d_all_of (aCons (eComp (iZipT (aCons (eVar 0) (aCons (eVar 1) aNil))) (.tp [(.nm 2), (.nm 3)]) [2, 3] tYesD (eFn d_signs_summed (aCons (eVar 2) (aCons (eVar 3) aNil)))) aNil)))
noncomputable def d_sums : Fn := body 4 m_sums

abbrev N_sign_between : List Str := ["new", "old"]
noncomputable def m_sign_between : DS := (sSeq (sIf (tOf (e2 dGt (eVar 0) (eVar 1))) (sRet (eC (.int 1))) sSkip) (sSeq (sIf (tOf (e2 dLt (eVar 0) (eVar 1))) (sRet (e1 dNeg (eC (.int 1)))) sSkip) (sRet (eC (.int 0)))))
noncomputable def d_sign_between : Fn := body 2 m_sign_between

abbrev N_row_of : List Str := ["new", "old", "here", "there"]
noncomputable def m_row_of : DS := (sRet (eCall dTuple (aCons (eComp (iZipT (aCons (eVar 0) (aCons (eVar 1) aNil))) (.tp [(.nm 2), (.nm 3)]) [2, 3] tYesD (eFn d_sign_between (aCons (eVar 2) (aCons (eVar 3) aNil)))) aNil)))
noncomputable def d_row_of : Fn := body 4 m_row_of

abbrev N__law_pool : List Str := ["script", "k", "cell", "big", "mixed"]
noncomputable def m__law_pool : DS := (sSeq (sSet 2 (eC (.int 0))) (sSeq (sIf (tOf (e2 dLt (eVar 1) (eCall dLen (aCons (eVar 0) aNil)))) (sSet 2 (e2 dIx (eVar 0) (eVar 1))) (sIf (tOf (e2 dNe (eVar 0) (eLst aNil))) (sSet 2 (e2 dIx (eVar 0) (eC (.int 0)))) sSkip)) (sSeq (sSet 3 (eCall dMax (aCons (eCall dIntS (aCons (eVar 2) aNil)) (aCons (eCall dIntS (aCons (e2 dSub (e1 dNeg (eC (.int 1))) (eVar 2)) aNil)) aNil)))) (sSeq (sSet 4 (e2 dMod (eCall dIntS (aCons (e2 dMul (e2 dAdd (e2 dAdd (e2 dAdd (e2 dMod (eCall dIntS (aCons (eVar 3) aNil)) (eC (.int 2147483629))) (e2 dMul (e2 dMul (eC (.int 7919)) (eVar 1)) (eVar 1))) (e2 dMul (eC (.int 31)) (eVar 1))) (eC (.int 17))) (eC (.int 48271))) aNil)) (eC (.int 2147483647)))) (sRet (eLst (aCons (e2 dMul (eVar 3) (eCall dIntS (aCons (eAnd (e2 dGe (eVar 3) (e2 dPow (eC (.int 10)) (eC (.int 18)))) (e2 dLt (eVar 1) (eCall dLen (aCons (eVar 0) aNil)))) aNil))) (aCons (eVar 4) aNil))))))))
noncomputable def d__law_pool : Fn := body 5 m__law_pool

abbrev N__law_take : List Str := ["jar", "top", "drawn"]
noncomputable def m__law_take : DS := (sSeq (sIf (tOf (e2 dGt (e2 dIx (eVar 0) (eC (.int 0))) (eC (.int 0)))) (sSeq (sSet 2 (e2 dMod (eCall dIntS (aCons (e2 dIx (eVar 0) (eC (.int 0))) aNil)) (eVar 1))) (sSeq (sSub dSetIx (eVar 0) (eC (.int 0)) (e2 dFdiv (e2 dIx (eVar 0) (eC (.int 0))) (eVar 1))) (sRet (eVar 2)))) sSkip) (sSeq (sSub dSetIx (eVar 0) (eC (.int 1)) (e2 dMod (eCall dIntS (aCons (e2 dAdd (e2 dMul (e2 dIx (eVar 0) (eC (.int 1))) (eC (.int 39373))) (eC (.int 7))) aNil)) (eC (.int 2147483647)))) (sRet (e2 dMod (eCall dIntS (aCons (e2 dFdiv (e2 dMod (eCall dIntS (aCons (e2 dMul (e2 dIx (eVar 0) (eC (.int 1))) (e2 dIx (eVar 0) (eC (.int 1)))) aNil)) (eC (.int 2147483629))) (eC (.int 32))) aNil)) (eVar 1)))))
noncomputable def d__law_take : Fn := body 3 m__law_take

abbrev N__law_one : List Str := ["jar", "things"]
noncomputable def m__law_one : DS := (sRet (e2 dIx (eVar 1) (eFn d__law_take (aCons (eVar 0) (aCons (eCall dLen (aCons (eVar 1) aNil)) aNil)))))
noncomputable def d__law_one : Fn := body 2 m__law_one

abbrev N__law_level : List Str := ["n"]
noncomputable def m__law_level : DS := (sRet (e2 dMul (eTup (aCons (eC (.int 0)) aNil)) (eVar 0)))
noncomputable def d__law_level : Fn := body 1 m__law_level

abbrev N__law_turned : List Str := ["row", "a"]
noncomputable def m__law_turned : DS := (sRet (eCall dTuple (aCons (eComp (iSeq (eVar 0)) (.nm 1) [1] tYesD (e1 dNeg (eVar 1))) aNil)))
noncomputable def d__law_turned : Fn := body 2 m__law_turned

abbrev N__law_in_rows : List Str := ["rows", "row"]
noncomputable def m__law_in_rows : DS := (sRet (eCall dTuple (aCons (eSortDict (eComp (iSeq (eVar 0)) (.nm 1) [1] tYesD (eTup (aCons (eVar 1) (aCons (eC (.bl true)) aNil))))) aNil)))
noncomputable def d__law_in_rows : Fn := body 2 m__law_in_rows

abbrev N__law_any_row : List Str := ["jar", "n", "i"]
noncomputable def m__law_any_row : DS := (sRet (eCall dTuple (aCons (eComp (iRg1 (aCons (eVar 1) aNil)) (.nm 2) [2] tYesD (e2 dSub (eFn d__law_take (aCons (eVar 0) (aCons (eC (.int 3)) aNil))) (eC (.int 1)))) aNil)))
noncomputable def d__law_any_row : Fn := body 3 m__law_any_row

abbrev N__law_row_of : List Str := ["new", "old", "i"]
noncomputable def m__law_row_of : DS := (sRet (eCall dTuple (aCons (eComp (iRg1 (aCons (eCall dLen (aCons (eVar 1) aNil)) aNil)) (.nm 2) [2] tYesD (e2 dSub (eCall dIntS (aCons (e2 dGt (e2 dIx (eVar 0) (eVar 2)) (e2 dIx (eVar 1) (eVar 2))) aNil)) (eCall dIntS (aCons (e2 dLt (e2 dIx (eVar 0) (eVar 2)) (e2 dIx (eVar 1) (eVar 2))) aNil)))) aNil)))
noncomputable def d__law_row_of : Fn := body 3 m__law_row_of

abbrev N__law_any_motion : List Str := ["jar", "n", "wide", "i"]
noncomputable def m__law_any_motion : DS := (sSeq (sSet 2 (eFn d__law_one (aCons (eVar 0) (aCons (eLst (aCons (eC (.int 2)) (aCons (eC (.int 3)) (aCons (eC (.int 3)) (aCons (eC (.int 5)) (aCons (e2 dPow (eC (.int 10)) (eC (.int 12))) aNil)))))) aNil)))) (sRet (eCall dTuple (aCons (eComp (iRg1 (aCons (eVar 1) aNil)) (.nm 3) [3] tYesD (e2 dSub (eFn d__law_take (aCons (eVar 0) (aCons (eVar 2) aNil))) (e2 dFdiv (eVar 2) (eC (.int 2))))) aNil))))
noncomputable def d__law_any_motion : Fn := body 4 m__law_any_motion

abbrev N__law_near_motion : List Str := ["jar", "motion", "found", "turn", "i"]
noncomputable def m__law_near_motion : DS := (sSeq (sSet 2 (eCall dList (aCons (eVar 1) aNil))) (sSeq (sFor (iRg1 (aCons (e2 dAdd (eC (.int 1)) (eFn d__law_take (aCons (eVar 0) (aCons (eC (.int 2)) aNil)))) aNil)) (.nm 3) (sSeq (sSet 4 (eFn d__law_take (aCons (eVar 0) (aCons (eCall dLen (aCons (eVar 1) aNil)) aNil)))) (sSub dSetIx (eVar 2) (eVar 4) (e2 dAdd (e2 dIx (eVar 2) (eVar 4)) (eFn d__law_one (aCons (eVar 0) (aCons (eLst (aCons (e1 dNeg (eC (.int 2))) (aCons (e1 dNeg (eC (.int 1))) (aCons (eC (.int 1)) (aCons (eC (.int 2)) aNil))))) aNil))))))) (sRet (eCall dTuple (aCons (eVar 2) aNil)))))
noncomputable def d__law_near_motion : Fn := body 5 m__law_near_motion

abbrev N__law_tried : List Str := ["a", "b", "found", "middle", "top", "told"]
noncomputable def m__law_tried : DS := (sSeq (sSet 2 (eLst aNil)) (sSeq (sFor (iRg2 (aCons (e1 dNeg (eC (.int 2))) (aCons (eC (.int 3)) aNil))) (.nm 3) (sFor (iRg2 (aCons (e1 dNeg (eC (.int 2))) (aCons (eC (.int 3)) aNil))) (.nm 4) (sSeq (sSet 5 (e2 dIx (eFn d__law_row_of (aCons (eTup (aCons (eVar 4) aNil)) (aCons (eTup (aCons (eC (.int 0)) aNil)) aNil))) (eC (.int 0)))) (sIf (tAndD (tOf (e2 dEq (eFn d__law_row_of (aCons (eTup (aCons (eVar 3) aNil)) (aCons (eTup (aCons (eC (.int 0)) aNil)) aNil))) (eTup (aCons (eVar 0) aNil)))) (tAndD (tOf (e2 dEq (eFn d__law_row_of (aCons (eTup (aCons (eVar 4) aNil)) (aCons (eTup (aCons (eVar 3) aNil)) aNil))) (eTup (aCons (eVar 1) aNil)))) (tOf (e2 (dIn true) (eVar 5) (eVar 2))))) (sExpr (eMt dAppend (eVar 2) (aCons (eVar 5) aNil))) sSkip)))) (sRet (eCall dSorted (aCons (eVar 2) aNil)))))
noncomputable def d__law_tried : Fn := body 6 m__law_tried

abbrev N__law_tried_sums : List Str := ["one", "two", "found", "i", "later", "some", "row", "c"]
noncomputable def m__law_tried_sums : DS := (sSeq (sSet 2 (eLst (aCons (eTup aNil) aNil))) (sSeq (sFor (iRg1 (aCons (eCall dLen (aCons (eVar 0) aNil)) aNil)) (.nm 3) (sSeq (sPar [4, 5] (aCons (eLst aNil) (aCons (eFn d__law_tried (aCons (e2 dIx (eVar 0) (eVar 3)) (aCons (e2 dIx (eVar 1) (eVar 3)) aNil))) aNil))) (sSeq (sFor (iSeq (eVar 2)) (.nm 6) (sExpr (eMt dExtend (eVar 4) (aCons (eComp (iSeq (eVar 5)) (.nm 7) [7] tYesD (e2 dAdd (eVar 6) (eTup (aCons (eVar 7) aNil)))) aNil)))) (sSet 2 (eVar 4))))) (sRet (eCall dTuple (aCons (eVar 2) aNil)))))
noncomputable def d__law_tried_sums : Fn := body 8 m__law_tried_sums

abbrev N__law_other_row : List Str := ["jar", "n", "one", "way", "i", "other"]
noncomputable def m__law_other_row : DS := (sSeq (sPar [3, 4] (aCons (eFn d__law_take (aCons (eVar 0) (aCons (eC (.int 7)) aNil))) (aCons (eFn d__law_take (aCons (eVar 0) (aCons (eVar 1) aNil))) aNil))) (sSeq (sIf (tOf (e2 dLt (eVar 3) (eC (.int 2)))) (sRet (eFn d__law_any_row (aCons (eVar 0) (aCons (eVar 1) aNil)))) sSkip) (sSeq (sIf (tOf (e2 dEq (eVar 3) (eC (.int 2)))) (sRet (eFn d__law_level (aCons (eVar 1) aNil))) sSkip) (sSeq (sIf (tOf (e2 dEq (eVar 3) (eC (.int 3)))) (sRet (eVar 2)) sSkip) (sSeq (sSet 5 (eIf (tOf (e2 dLt (eVar 3) (eC (.int 6)))) (eFn d__law_turned (aCons (eVar 2) aNil)) (eVar 2))) (sRet (eIf (tOf (e2 dEq (eVar 3) (eC (.int 4)))) (eVar 5) (e2 dAdd (e2 dAdd (eSl (eVar 5) oNone (oSome (eVar 4))) (eTup (aCons (e2 dSub (eFn d__law_take (aCons (eVar 0) (aCons (eC (.int 3)) aNil))) (eC (.int 1))) aNil))) (eSl (eVar 5) (oSome (e2 dAdd (eVar 4) (eC (.int 1)))) oNone)))))))))
noncomputable def d__law_other_row : Fn := body 6 m__law_other_row

abbrev N__law_two_right : List Str := ["n", "one", "two", "due", "row"]
noncomputable def m__law_two_right : DS := (sSeq (sSet 3 (eFn d__law_tried_sums (aCons (eVar 1) (aCons (eVar 2) aNil)))) (sSeq (sIf (tOrD (tOf (e2 dNe (eCall dRepr (aCons (eFn d_sums (aCons (eVar 1) (aCons (eVar 2) aNil))) aNil)) (eCall dRepr (aCons (eVar 3) aNil)))) (tOf (e2 dNe (eCall dRepr (aCons (eFn d_sums (aCons (eVar 2) (aCons (eVar 1) aNil))) aNil)) (eCall dRepr (aCons (eVar 3) aNil))))) (sRet (eC (.bl false))) sSkip) (sSeq (sIf (tOf (e2 dNe (eCall dRepr (aCons (eFn d_sums (aCons (eFn d_turned (aCons (eVar 2) aNil)) (aCons (eFn d_turned (aCons (eVar 1) aNil)) aNil))) aNil)) (eCall dRepr (aCons (eCall dTuple (aCons (eCall dSorted (aCons (eComp (iSeq (eVar 3)) (.nm 4) [4] tYesD (eFn d__law_turned (aCons (eVar 4) aNil))) aNil)) aNil)) aNil)))) (sRet (eC (.bl false))) sSkip) (sSeq (sIf (tOf (e2 dNe (e2 (dIn false) (eFn d_level (aCons (eVar 0) aNil)) (eFn d_sums (aCons (eVar 1) (aCons (eVar 2) aNil)))) (e2 dEq (eVar 2) (eFn d__law_turned (aCons (eVar 1) aNil))))) (sRet (eC (.bl false))) sSkip) (sRet (eAnd (e2 dEq (eCall dRepr (aCons (eFn d_sums (aCons (eVar 1) (aCons (eVar 1) aNil))) aNil)) (eCall dRepr (aCons (eTup (aCons (eVar 1) aNil)) aNil))) (e2 dEq (eCall dRepr (aCons (eFn d_sums (aCons (eVar 2) (aCons (eFn d_level (aCons (eVar 0) aNil)) aNil))) aNil)) (eCall dRepr (aCons (eTup (aCons (eVar 2) aNil)) aNil)))))))))
noncomputable def d__law_two_right : Fn := body 5 m__law_two_right

abbrev N__law_behind : List Str := ["rows", "last", "found", "row"]
noncomputable def m__law_behind : DS := (sSeq (sSet 2 (eLst aNil)) (sSeq (sFor (iSeq (eVar 0)) (.nm 3) (sExpr (eMt dExtend (eVar 2) (aCons (eFn d_sums (aCons (eVar 3) (aCons (eVar 1) aNil))) aNil)))) (sRet (eFn d__law_in_rows (aCons (eVar 2) aNil)))))
noncomputable def d__law_behind : Fn := body 4 m__law_behind

abbrev N__law_ahead : List Str := ["one", "rows", "found", "row"]
noncomputable def m__law_ahead : DS := (sSeq (sSet 2 (eLst aNil)) (sSeq (sFor (iSeq (eVar 1)) (.nm 3) (sExpr (eMt dExtend (eVar 2) (aCons (eFn d_sums (aCons (eVar 0) (aCons (eVar 3) aNil))) aNil)))) (sRet (eFn d__law_in_rows (aCons (eVar 2) aNil)))))
noncomputable def d__law_ahead : Fn := body 4 m__law_ahead

abbrev N__law_three_right : List Str := ["one", "two", "last"]
noncomputable def m__law_three_right : DS := (sRet (e2 dEq (eFn d__law_behind (aCons (eFn d_sums (aCons (eVar 0) (aCons (eVar 1) aNil))) (aCons (eVar 2) aNil))) (eFn d__law_ahead (aCons (eVar 0) (aCons (eFn d_sums (aCons (eVar 1) (aCons (eVar 2) aNil))) aNil)))))
noncomputable def d__law_three_right : Fn := body 3 m__law_three_right

abbrev N__law_tale_right : List Str := ["first", "middle", "last", "one", "two", "due", "far", "some", "motion", "height"]
noncomputable def m__law_tale_right : DS := (sSeq (sPar [3, 4, 5] (aCons (eFn d_row_of (aCons (eVar 1) (aCons (eVar 0) aNil))) (aCons (eFn d_row_of (aCons (eVar 2) (aCons (eVar 1) aNil))) (aCons (eFn d__law_row_of (aCons (eVar 2) (aCons (eVar 0) aNil))) aNil)))) (sSeq (sSet 6 (eCall dIntS (aCons (e2 dAdd (eC (.str "1")) (e2 dMul (eC (.str "0")) (eC (.int 300)))) aNil))) (sSeq (sSet 7 (eComp (iSeq (eLst (aCons (eVar 2) (aCons (eVar 0) aNil)))) (.nm 8) [8] tYesD (eCall dTuple (aCons (eComp (iSeq (eVar 8)) (.nm 9) [9] tYesD (e2 dMul (eVar 6) (eVar 9))) aNil)))) (sSeq (sIf (tOrD (tOf (e2 dNe (eCall dRepr (aCons (eFnK0 d_row_of [1, 0] (aCons (e2 dIx (eVar 7) (eC (.int 1))) (aCons (e2 dIx (eVar 7) (eC (.int 0))) aNil))) aNil)) (eCall dRepr (aCons (eVar 5) aNil)))) (tOf (e2 dNe (eCall dRepr (aCons (eFn d_row_of (aCons (eVar 2) (aCons (eVar 0) aNil))) aNil)) (eCall dRepr (aCons (eVar 5) aNil))))) (sRet (eC (.bl false))) sSkip) (sRet (e2 (dIn false) (eVar 5) (eFnK0 d_sums [1, 0] (aCons (eVar 4) (aCons (eVar 3) aNil)))))))))
noncomputable def d__law_tale_right : Fn := body 10 m__law_tale_right

abbrev N_law : List Str := ["script", "jar", "n", "turn", "one", "two", "last", "motion", "near_one", "other"]
noncomputable def m_law : DS := (sSeq (sSet 1 (eFn d__law_pool (aCons (eVar 0) (aCons (eC (.int 0)) aNil)))) (sSeq (sSet 2 (eFn d__law_one (aCons (eVar 1) (aCons (eLst (aCons (eC (.int 1)) (aCons (eC (.int 2)) (aCons (eC (.int 2)) (aCons (eC (.int 3)) (aCons (eC (.int 3)) (aCons (eC (.int 4)) (aCons (eC (.int 4)) (aCons (eC (.int 5)) (aCons (eC (.int 6)) aNil)))))))))) aNil)))) (sSeq (sFor (iRg1 (aCons (eC (.int 3)) aNil)) (.nm 3) (sSeq (sSet 4 (eFn d__law_any_row (aCons (eVar 1) (aCons (eVar 2) aNil)))) (sSeq (sSet 5 (eFn d__law_other_row (aCons (eVar 1) (aCons (eVar 2) (aCons (eVar 4) aNil))))) (sSeq (sSet 6 (eFn d__law_other_row (aCons (eVar 1) (aCons (eVar 2) (aCons (eVar 4) aNil))))) (sSeq (sIf (tOrD (tNotD (tOf (eFn d__law_two_right (aCons (eVar 2) (aCons (eVar 4) (aCons (eVar 5) aNil)))))) (tNotD (tOf (eFn d__law_two_right (aCons (eVar 2) (aCons (eVar 5) (aCons (eVar 6) aNil))))))) (sRet (eC (.bl false))) sSkip) (sSeq (sIf (tNotD (tOf (eFn d__law_three_right (aCons (eSl (eVar 4) oNone (oSome (eC (.int 3)))) (aCons (eSl (eVar 5) oNone (oSome (eC (.int 3)))) (aCons (eSl (eVar 6) oNone (oSome (eC (.int 3)))) aNil)))))) (sRet (eC (.bl false))) sSkip) (sSeq (sSet 7 (eFn d__law_any_motion (aCons (eVar 1) (aCons (eVar 2) aNil)))) (sSeq (sSet 8 (eFn d__law_near_motion (aCons (eVar 1) (aCons (eVar 7) aNil)))) (sSeq (sSet 9 (eIf (tOf (e2 dEq (eFn d__law_take (aCons (eVar 1) (aCons (eC (.int 2)) aNil))) (eC (.int 0)))) (eFn d__law_any_motion (aCons (eVar 1) (aCons (eVar 2) aNil))) (eFn d__law_near_motion (aCons (eVar 1) (aCons (eVar 8) aNil))))) (sIf (tOrD (tNotD (tOf (eFn d__law_tale_right (aCons (eVar 7) (aCons (eVar 8) (aCons (eVar 9) aNil)))))) (tNotD (tOf (eFn d__law_tale_right (aCons (eVar 9) (aCons (eVar 7) (aCons (eVar 8) aNil))))))) (sRet (eC (.bl false))) sSkip)))))))))) (sRet (eC (.bl true))))))
noncomputable def d_law : Fn := body 10 m_law

/-! ### what the top has written -/
structure Tx (K : PySem.W.Frag) (mg : Str → Option Value) (ad : Nat → Addr) (fd : Nat → FuncData) : Prop where
  g6 : mg "is_number" = some (.ref (ad 6))
  F6 : Fun K "is_number" "is_number" (top 6) (ad 6) (fd 6)
  b6 : Binds K (fd 6) ["thing"] []
  g7 : mg "is_many" = some (.ref (ad 7))
  F7 : Fun K "is_many" "is_many" (top 7) (ad 7) (fd 7)
  b7 : Binds K (fd 7) ["n"] []
  g8 : mg "ask_many" = some (.ref (ad 8))
  F8 : Fun K "ask_many" "ask_many" (top 8) (ad 8) (fd 8)
  b8 : Binds K (fd 8) ["n"] []
  g9 : mg "level" = some (.ref (ad 9))
  F9 : Fun K "level" "level" (top 9) (ad 9) (fd 9)
  b9 : Binds K (fd 9) ["n"] []
  g10 : mg "all_of" = some (.ref (ad 10))
  F10 : Fun K "all_of" "all_of" (top 10) (ad 10) (fd 10)
  b10 : Binds K (fd 10) ["choices"] []
  g11 : mg "turned" = some (.ref (ad 11))
  F11 : Fun K "turned" "turned" (top 11) (ad 11) (fd 11)
  b11 : Binds K (fd 11) ["row"] []
  g13 : mg "signs_summed" = some (.ref (ad 13))
  F13 : Fun K "signs_summed" "signs_summed" (top 13) (ad 13) (fd 13)
  b13 : Binds K (fd 13) ["here", "there"] []
  g12 : mg "sums" = some (.ref (ad 12))
  F12 : Fun K "sums" "sums" (top 12) (ad 12) (fd 12)
  b12 : Binds K (fd 12) ["one", "two"] []
  g15 : mg "sign_between" = some (.ref (ad 15))
  F15 : Fun K "sign_between" "sign_between" (top 15) (ad 15) (fd 15)
  b15 : Binds K (fd 15) ["new", "old"] []
  g16 : mg "row_of" = some (.ref (ad 16))
  F16 : Fun K "row_of" "row_of" (top 16) (ad 16) (fd 16)
  b16 : Binds K (fd 16) ["new", "old"] []
  g18 : mg "_law_pool" = some (.ref (ad 18))
  F18 : Fun K "_law_pool" "_law_pool" (top 18) (ad 18) (fd 18)
  b18 : Binds K (fd 18) ["script", "k"] []
  g19 : mg "_law_take" = some (.ref (ad 19))
  F19 : Fun K "_law_take" "_law_take" (top 19) (ad 19) (fd 19)
  b19 : Binds K (fd 19) ["jar", "top"] []
  g20 : mg "_law_one" = some (.ref (ad 20))
  F20 : Fun K "_law_one" "_law_one" (top 20) (ad 20) (fd 20)
  b20 : Binds K (fd 20) ["jar", "things"] []
  g21 : mg "_law_level" = some (.ref (ad 21))
  F21 : Fun K "_law_level" "_law_level" (top 21) (ad 21) (fd 21)
  b21 : Binds K (fd 21) ["n"] []
  g22 : mg "_law_turned" = some (.ref (ad 22))
  F22 : Fun K "_law_turned" "_law_turned" (top 22) (ad 22) (fd 22)
  b22 : Binds K (fd 22) ["row"] []
  g23 : mg "_law_in_rows" = some (.ref (ad 23))
  F23 : Fun K "_law_in_rows" "_law_in_rows" (top 23) (ad 23) (fd 23)
  b23 : Binds K (fd 23) ["rows"] []
  g24 : mg "_law_any_row" = some (.ref (ad 24))
  F24 : Fun K "_law_any_row" "_law_any_row" (top 24) (ad 24) (fd 24)
  b24 : Binds K (fd 24) ["jar", "n"] []
  g25 : mg "_law_row_of" = some (.ref (ad 25))
  F25 : Fun K "_law_row_of" "_law_row_of" (top 25) (ad 25) (fd 25)
  b25 : Binds K (fd 25) ["new", "old"] []
  g26 : mg "_law_any_motion" = some (.ref (ad 26))
  F26 : Fun K "_law_any_motion" "_law_any_motion" (top 26) (ad 26) (fd 26)
  b26 : Binds K (fd 26) ["jar", "n"] []
  g27 : mg "_law_near_motion" = some (.ref (ad 27))
  F27 : Fun K "_law_near_motion" "_law_near_motion" (top 27) (ad 27) (fd 27)
  b27 : Binds K (fd 27) ["jar", "motion"] []
  g28 : mg "_law_tried" = some (.ref (ad 28))
  F28 : Fun K "_law_tried" "_law_tried" (top 28) (ad 28) (fd 28)
  b28 : Binds K (fd 28) ["a", "b"] []
  g29 : mg "_law_tried_sums" = some (.ref (ad 29))
  F29 : Fun K "_law_tried_sums" "_law_tried_sums" (top 29) (ad 29) (fd 29)
  b29 : Binds K (fd 29) ["one", "two"] []
  g30 : mg "_law_other_row" = some (.ref (ad 30))
  F30 : Fun K "_law_other_row" "_law_other_row" (top 30) (ad 30) (fd 30)
  b30 : Binds K (fd 30) ["jar", "n", "one"] []
  g31 : mg "_law_two_right" = some (.ref (ad 31))
  F31 : Fun K "_law_two_right" "_law_two_right" (top 31) (ad 31) (fd 31)
  b31 : Binds K (fd 31) ["n", "one", "two"] []
  g32 : mg "_law_behind" = some (.ref (ad 32))
  F32 : Fun K "_law_behind" "_law_behind" (top 32) (ad 32) (fd 32)
  b32 : Binds K (fd 32) ["rows", "last"] []
  g33 : mg "_law_ahead" = some (.ref (ad 33))
  F33 : Fun K "_law_ahead" "_law_ahead" (top 33) (ad 33) (fd 33)
  b33 : Binds K (fd 33) ["one", "rows"] []
  g34 : mg "_law_three_right" = some (.ref (ad 34))
  F34 : Fun K "_law_three_right" "_law_three_right" (top 34) (ad 34) (fd 34)
  b34 : Binds K (fd 34) ["one", "two", "last"] []
  g35 : mg "_law_tale_right" = some (.ref (ad 35))
  F35 : Fun K "_law_tale_right" "_law_tale_right" (top 35) (ad 35) (fd 35)
  b35 : Binds K (fd 35) ["first", "middle", "last"] []
  g36 : mg "law" = some (.ref (ad 36))
  F36 : Fun K "law" "law" (top 36) (ad 36) (fd 36)
  b36 : Binds K (fd 36) ["script"] []
  k12_10 : KwB (fd 12) ["one", "two"] ["two", "one"] [1, 0]
  k16_10 : KwB (fd 16) ["new", "old"] ["old", "new"] [1, 0]
  n_bool : mg "bool" = none
  n_dict : mg "dict" = none
  n_int : mg "int" = none
  n_isinstance : mg "isinstance" = none
  n_len : mg "len" = none
  n_list : mg "list" = none
  n_max : mg "max" = none
  n_range : mg "range" = none
  n_repr : mg "repr" = none
  n_sorted : mg "sorted" = none
  n_tuple : mg "tuple" = none
  n_zip : mg "zip" = none
  c_MOST_MEMBERS : ∃ t, mg "MOST_MEMBERS" = some (.int 6 t)
  c_SIGNS : ∃ a, mg "SIGNS" = some (.ref a) ∧ ∀ φ H, RepV K φ H (.tup [(.int (-1)), (.int 0), (.int 1)]) (.ref a)
section
variable {P : Program} {w : World} {K : PySem.W.Frag} {mg : Str → Option Value} {base : Heap} {ad : Nat → Addr} {fd : Nat → FuncData} {cm : Str → Addr}
theorem sc_is_number : FnScope N_is_number ["thing"] (defScope (top 6)) := ⟨rfl, rfl, rfl, by decide +kernel, rfl, by decide +kernel, by decide +kernel⟩
theorem ok_is_number (T : Tx K mg ad fd) : FnG P w K mg base 1 (ad 6) (fd 6) ["thing"] (spD K cm 1 d_is_number) := fn_D (N := N_is_number) (m := m_is_number) T.F6 sc_is_number fun cdv A fr s H E hG hr tk hp =>
  (rSs_one (rS_ret (rE_and (rE_callB call_isi cd_isi T.n_isinstance (by decide +kernel) (rA_cons (rE_var 0) (rA_cons (rE_ty "int" T.n_int (by decide +kernel)) rA_nil))) (rE_one (rE_not (rE_callB call_isi cd_isi T.n_isinstance (by decide +kernel) (rA_cons (rE_var 0) (rA_cons (rE_ty "bool" T.n_bool (by decide +kernel)) rA_nil))))))))

theorem sc_is_many : FnScope N_is_many ["n"] (defScope (top 7)) := ⟨rfl, rfl, rfl, by decide +kernel, rfl, by decide +kernel, by decide +kernel⟩
theorem ok_is_many (T : Tx K mg ad fd) : FnG P w K mg base 2 (ad 7) (fd 7) ["n"] (spD K cm 1 d_is_many) := fn_D (N := N_is_many) (m := m_is_many) T.F7 sc_is_many fun cdv A fr s H E hG hr tk hp =>
  (rSs_one (rS_ret (rE_and (rE_fn (ok_is_number T) hG (hr.mono (by decide)) T.g6 T.F6.kp T.b6 tk (rA_cons (rE_var 0) rA_nil) (al_cons al_nil)) (rE_one (rE_chain op_le od_le op_le od_le rE_int (rE_var 0) (rE_gint T.c_MOST_MEMBERS))))))

theorem sc_ask_many : FnScope N_ask_many ["n"] (defScope (top 8)) := ⟨rfl, rfl, rfl, by decide +kernel, rfl, by decide +kernel, by decide +kernel⟩
theorem ok_ask_many (T : Tx K mg ad fd) : FnG P w K mg base 3 (ad 8) (fd 8) ["n"] (spD K cm 1 d_ask_many) := fn_D (N := N_ask_many) (m := m_ask_many) T.F8 sc_ask_many fun cdv A fr s H E hG hr tk hp =>
  (rSs_one (rS_if (rT_not (rT_val (rE_fn (ok_is_many T) hG (hr.mono (by decide)) T.g7 T.F7.kp T.b7 tk (rA_cons (rE_var 0) rA_nil) (al_cons al_nil)))) (rSs_one rS_no) rSs_nil))

theorem sc_level : FnScope N_level ["n"] (defScope (top 9)) := ⟨rfl, rfl, rfl, by decide +kernel, rfl, by decide +kernel, by decide +kernel⟩
theorem ok_level (T : Tx K mg ad fd) : FnG P w K mg base 4 (ad 9) (fd 9) ["n"] (spD K cm 1 d_level) := fn_D (N := N_level) (m := m_level) T.F9 sc_level fun cdv A fr s H E hG hr tk hp =>
  (rSs_cons (rS_expr (rE_fn (ok_ask_many T) hG (hr.mono (by decide)) T.g8 T.F8.kp T.b8 tk (rA_cons (rE_var 0) rA_nil) (al_cons al_nil))) (rSs_one (rS_ret (rE_op op_mulA od_mul (rE_tup (rA_cons rE_int rA_nil)) (rE_var 0)))))

theorem sc_all_of : FnScope N_all_of ["choices"] (defScope (top 10)) := ⟨rfl, rfl, rfl, by decide +kernel, rfl, by decide +kernel, by decide +kernel⟩
theorem ok_all_of (T : Tx K mg ad fd) : FnG P w K mg base 1 (ad 10) (fd 10) ["choices"] (spD K cm 1 d_all_of) := fn_D (N := N_all_of) (m := m_all_of) T.F10 sc_all_of fun cdv A fr s H E hG hr tk hp =>
  (rSs_cons (rS_set 1 sc_all_of.nd (rE_lst (rA_cons (rE_tup rA_nil) rA_nil))) (rSs_cons (rS_for hp rfl (rI_seq (rE_var 0)) (rG_nm 2 sc_all_of.nd) (rSs_one (rS_setComp2 1 [("row", 3), ("sign", 4)] [4] rfl sc_all_of.nd rfl (sw_true rfl rfl rfl (by decide +kernel)) (rI_seq (rE_var 1)) (blk_of (N := N_all_of) (sc := defScope (top 10)) (by decide +kernel)) (fun _ _ _ _ _ => (rG_nm 3 sc_all_of.nd)) (fun _ _ _ _ _ => rTs_nil) (fun _ _ _ _ _ => (rI_seq (rE_var 2))) (fun _ _ _ _ _ => (rG_nm 4 sc_all_of.nd)) (fun _ _ _ _ _ => rTs_nil) (fun _ _ _ _ _ => (rE_op op_addA od_add (rE_var 3) (rE_tup (rA_cons (rE_var 4) rA_nil))))))) (rSs_one (rS_ret (rE_callTy call_tuple_of cd_tuple T.n_tuple (by decide +kernel) (rA_cons (rE_var 1) rA_nil))))))

theorem sc_turned : FnScope N_turned ["row"] (defScope (top 11)) := ⟨rfl, rfl, rfl, by decide +kernel, rfl, by decide +kernel, by decide +kernel⟩
theorem ok_turned (T : Tx K mg ad fd) : FnG P w K mg base 1 (ad 11) (fd 11) ["row"] (spD K cm 1 d_turned) := fn_D (N := N_turned) (m := m_turned) T.F11 sc_turned fun cdv A fr s H E hG hr tk hp =>
  (rSs_one (rS_ret (rE_callTy call_tuple_of cd_tuple T.n_tuple (by decide +kernel) (rA_cons (rE_comp [("sign", 1)] rfl sc_turned.nd (rI_seq (rE_var 0)) (blk_of (N := N_turned) (sc := defScope (top 11)) (by decide +kernel)) (fun _ _ _ _ _ => (rG_nm 1 sc_turned.nd)) (fun _ _ _ _ _ => rTs_nil) (fun _ _ _ _ _ => (rE_un un_neg ud_neg (rE_var 1)))) rA_nil))))

theorem sc_signs_summed : FnScope N_signs_summed ["here", "there"] (defScope (top 13)) := ⟨rfl, rfl, rfl, by decide +kernel, rfl, by decide +kernel, by decide +kernel⟩
theorem ok_signs_summed (T : Tx K mg ad fd) : FnG P w K mg base 1 (ad 13) (fd 13) ["here", "there"] (spD K cm 2 d_signs_summed) := fn_D (N := N_signs_summed) (m := m_signs_summed) T.F13 sc_signs_summed fun cdv A fr s H E hG hr tk hp =>
  (rSs_cons (rS_if (PW.pt (rW_or (rT_cmp (op_eqA hr.units) od_eq (rE_var 0) rE_int (nomark _)) (rW_or1 (rT_cmp (op_eqA hr.units) od_eq (rE_var 0) (rE_var 1) (nomark _))))) (rSs_one (rS_ret (rE_tup (rA_cons (rE_var 1) rA_nil)))) rSs_nil) (rSs_cons (rS_if (rT_cmp (op_eqA hr.units) od_eq (rE_var 1) rE_int (nomark _)) (rSs_one (rS_ret (rE_tup (rA_cons (rE_var 0) rA_nil)))) rSs_nil) (rSs_one (rS_ret (rE_gtup T.c_SIGNS)))))

theorem sc_sums : FnScope N_sums ["one", "two"] (defScope (top 12)) := ⟨rfl, rfl, rfl, by decide +kernel, rfl, by decide +kernel, by decide +kernel⟩
theorem ok_sums (T : Tx K mg ad fd) : FnG P w K mg base 2 (ad 12) (fd 12) ["one", "two"] (spD K cm 2 d_sums) := fn_D (N := N_sums) (m := m_sums) T.F12 sc_sums fun cdv A fr s H E hG hr tk hp =>
  (rSs_one (rS_ret (rE_fn (ok_all_of T) hG (hr.mono (by decide)) T.g10 T.F10.kp T.b10 tk (rA_cons (rE_comp [("here", 2), ("there", 3)] rfl sc_sums.nd (rI_zipT T.n_zip (rA_cons (rE_var 0) (rA_cons (rE_var 1) rA_nil))) (blk_of (N := N_sums) (sc := defScope (top 12)) (by decide +kernel)) (fun _ _ _ _ _ => (rG_tup rfl (rG_cons (rG_nm 2 sc_sums.nd) (rG_cons (rG_nm 3 sc_sums.nd) rG_nil)))) (fun _ _ _ _ _ => rTs_nil) (fun _ _ _ _ _ => (rE_fn (ok_signs_summed T) hG (hr.mono (by decide)) T.g13 T.F13.kp T.b13 takes0 (rA_cons (rE_var 2) (rA_cons (rE_var 3) rA_nil)) (al_cons (al_cons al_nil))))) rA_nil) (al_cons al_nil))))

theorem sc_sign_between : FnScope N_sign_between ["new", "old"] (defScope (top 15)) := ⟨rfl, rfl, rfl, by decide +kernel, rfl, by decide +kernel, by decide +kernel⟩
theorem ok_sign_between (T : Tx K mg ad fd) : FnG P w K mg base 1 (ad 15) (fd 15) ["new", "old"] (spD K cm 2 d_sign_between) := fn_D (N := N_sign_between) (m := m_sign_between) T.F15 sc_sign_between fun cdv A fr s H E hG hr tk hp =>
  (rSs_cons (rS_if (rT_cmp op_gt od_gt (rE_var 0) (rE_var 1) (nomark _)) (rSs_one (rS_ret rE_int)) rSs_nil) (rSs_cons (rS_if (rT_cmp (op_ltA hr.units0) od_lt (rE_var 0) (rE_var 1) (nomark _)) (rSs_one (rS_ret (rE_un un_neg ud_neg rE_int))) rSs_nil) (rSs_one (rS_ret rE_int))))

theorem sc_row_of : FnScope N_row_of ["new", "old"] (defScope (top 16)) := ⟨rfl, rfl, rfl, by decide +kernel, rfl, by decide +kernel, by decide +kernel⟩
theorem ok_row_of (T : Tx K mg ad fd) : FnG P w K mg base 2 (ad 16) (fd 16) ["new", "old"] (spD K cm 2 d_row_of) := fn_D (N := N_row_of) (m := m_row_of) T.F16 sc_row_of fun cdv A fr s H E hG hr tk hp =>
  (rSs_one (rS_ret (rE_callTy call_tuple_of cd_tuple T.n_tuple (by decide +kernel) (rA_cons (rE_comp [("here", 2), ("there", 3)] rfl sc_row_of.nd (rI_zipT T.n_zip (rA_cons (rE_var 0) (rA_cons (rE_var 1) rA_nil))) (blk_of (N := N_row_of) (sc := defScope (top 16)) (by decide +kernel)) (fun _ _ _ _ _ => (rG_tup rfl (rG_cons (rG_nm 2 sc_row_of.nd) (rG_cons (rG_nm 3 sc_row_of.nd) rG_nil)))) (fun _ _ _ _ _ => rTs_nil) (fun _ _ _ _ _ => (rE_fn (ok_sign_between T) hG (hr.mono (by decide)) T.g15 T.F15.kp T.b15 takes0 (rA_cons (rE_var 2) (rA_cons (rE_var 3) rA_nil)) (al_cons (al_cons al_nil))))) rA_nil))))

theorem sc__law_pool : FnScope N__law_pool ["script", "k"] (defScope (top 18)) := ⟨rfl, rfl, rfl, by decide +kernel, rfl, by decide +kernel, by decide +kernel⟩
theorem ok__law_pool (T : Tx K mg ad fd) : FnG P w K mg base 1 (ad 18) (fd 18) ["script", "k"] (spD K cm 2 d__law_pool) := fn_D (N := N__law_pool) (m := m__law_pool) T.F18 sc__law_pool fun cdv A fr s H E hG hr tk hp =>
  (rSs_cons (rS_set 2 sc__law_pool.nd rE_int) (rSs_cons (rS_if (rT_cmp (op_ltA hr.units0) od_lt (rE_var 1) (rE_callB call_len cd_len T.n_len (by decide +kernel) (rA_cons (rE_var 0) rA_nil)) (nomark _)) (rSs_one (rS_set 2 sc__law_pool.nd (rE_ix ix_seq od_ix (rE_var 0) (rE_var 1)))) (rSs_one (rS_if (rT_cmp (op_neA hr.units) od_ne (rE_var 0) (rE_lst rA_nil) (nomark _)) (rSs_one (rS_set 2 sc__law_pool.nd (rE_ix ix_seq od_ix (rE_var 0) rE_int))) rSs_nil))) (rSs_cons (rS_set 3 sc__law_pool.nd (rE_callB (call_max2 rfl) cd_max T.n_max (by decide +kernel) (rA_cons (rE_callTy call_intA cd_intA T.n_int (by decide +kernel) (rA_cons (rE_var 2) rA_nil)) (rA_cons (rE_callTy call_intA cd_intA T.n_int (by decide +kernel) (rA_cons (rE_op op_sub od_sub (rE_un un_neg ud_neg rE_int) (rE_var 2)) rA_nil)) rA_nil)))) (rSs_cons (rS_set 4 sc__law_pool.nd (rE_op op_mod od_mod (rE_callTy call_intA cd_intA T.n_int (by decide +kernel) (rA_cons (rE_op op_mulA od_mul (rE_op op_addA od_add (rE_op op_addA od_add (rE_op op_addA od_add (rE_op op_mod od_mod (rE_callTy call_intA cd_intA T.n_int (by decide +kernel) (rA_cons (rE_var 3) rA_nil)) rE_int) (rE_op op_mulA od_mul (rE_op op_mulA od_mul rE_int (rE_var 1)) (rE_var 1))) (rE_op op_mulA od_mul rE_int (rE_var 1))) rE_int) rE_int) rA_nil)) rE_int)) (rSs_one (rS_ret (rE_lst (rA_cons (rE_op op_mulA od_mul (rE_var 3) (rE_callTy call_intA cd_intA T.n_int (by decide +kernel) (rA_cons (rE_and (rE_cmp op_ge od_ge (rE_var 3) (rE_op op_pow od_pow rE_int rE_int) (nomark _)) (rE_one (rE_cmp (op_ltA hr.units0) od_lt (rE_var 1) (rE_callB call_len cd_len T.n_len (by decide +kernel) (rA_cons (rE_var 0) rA_nil)) (nomark _)))) rA_nil))) (rA_cons (rE_var 4) rA_nil)))))))))

theorem sc__law_take : FnScope N__law_take ["jar", "top"] (defScope (top 19)) := ⟨rfl, rfl, rfl, by decide +kernel, rfl, by decide +kernel, by decide +kernel⟩
theorem ok__law_take (T : Tx K mg ad fd) : FnG P w K mg base 1 (ad 19) (fd 19) ["jar", "top"] (spD K cm 2 d__law_take) := fn_D (N := N__law_take) (m := m__law_take) T.F19 sc__law_take fun cdv A fr s H E hG hr tk hp =>
  (rSs_cons (rS_if (rT_cmp op_gt od_gt (rE_ix ix_seq od_ix (rE_var 0) rE_int) rE_int (nomark _)) (rSs_cons (rS_set 2 sc__law_take.nd (rE_op op_mod od_mod (rE_callTy call_intA cd_intA T.n_int (by decide +kernel) (rA_cons (rE_ix ix_seq od_ix (rE_var 0) rE_int) rA_nil)) (rE_var 1))) (rSs_cons (rS_sub set_list sd_ix (rE_op op_fdivW od_fdiv (rE_ix ix_seq od_ix (rE_var 0) rE_int) (rE_var 1)) (rE_var 0) rE_int) (rSs_one (rS_ret (rE_var 2))))) rSs_nil) (rSs_cons (rS_sub set_list sd_ix (rE_op op_mod od_mod (rE_callTy call_intA cd_intA T.n_int (by decide +kernel) (rA_cons (rE_op op_addA od_add (rE_op op_mulA od_mul (rE_ix ix_seq od_ix (rE_var 0) rE_int) rE_int) rE_int) rA_nil)) rE_int) (rE_var 0) rE_int) (rSs_one (rS_ret (rE_op op_mod od_mod (rE_callTy call_intA cd_intA T.n_int (by decide +kernel) (rA_cons (rE_op op_fdivW od_fdiv (rE_op op_mod od_mod (rE_callTy call_intA cd_intA T.n_int (by decide +kernel) (rA_cons (rE_op op_mulA od_mul (rE_ix ix_seq od_ix (rE_var 0) rE_int) (rE_ix ix_seq od_ix (rE_var 0) rE_int)) rA_nil)) rE_int) rE_int) rA_nil)) (rE_var 1))))))

theorem sc__law_one : FnScope N__law_one ["jar", "things"] (defScope (top 20)) := ⟨rfl, rfl, rfl, by decide +kernel, rfl, by decide +kernel, by decide +kernel⟩
theorem ok__law_one (T : Tx K mg ad fd) : FnG P w K mg base 2 (ad 20) (fd 20) ["jar", "things"] (spD K cm 2 d__law_one) := fn_D (N := N__law_one) (m := m__law_one) T.F20 sc__law_one fun cdv A fr s H E hG hr tk hp =>
  (rSs_one (rS_ret (rE_ix ix_seq od_ix (rE_var 1) (rE_fn (ok__law_take T) hG (hr.mono (by decide)) T.g19 T.F19.kp T.b19 tk (rA_cons (rE_var 0) (rA_cons (rE_callB call_len cd_len T.n_len (by decide +kernel) (rA_cons (rE_var 1) rA_nil)) rA_nil)) (al_cons (al_cons al_nil))))))

theorem sc__law_level : FnScope N__law_level ["n"] (defScope (top 21)) := ⟨rfl, rfl, rfl, by decide +kernel, rfl, by decide +kernel, by decide +kernel⟩
theorem ok__law_level (T : Tx K mg ad fd) : FnG P w K mg base 1 (ad 21) (fd 21) ["n"] (spD K cm 1 d__law_level) := fn_D (N := N__law_level) (m := m__law_level) T.F21 sc__law_level fun cdv A fr s H E hG hr tk hp =>
  (rSs_one (rS_ret (rE_op op_mulA od_mul (rE_tup (rA_cons rE_int rA_nil)) (rE_var 0))))

theorem sc__law_turned : FnScope N__law_turned ["row"] (defScope (top 22)) := ⟨rfl, rfl, rfl, by decide +kernel, rfl, by decide +kernel, by decide +kernel⟩
theorem ok__law_turned (T : Tx K mg ad fd) : FnG P w K mg base 1 (ad 22) (fd 22) ["row"] (spD K cm 1 d__law_turned) := fn_D (N := N__law_turned) (m := m__law_turned) T.F22 sc__law_turned fun cdv A fr s H E hG hr tk hp =>
  (rSs_one (rS_ret (rE_callTy call_tuple_of cd_tuple T.n_tuple (by decide +kernel) (rA_cons (rE_comp [("a", 1)] rfl sc__law_turned.nd (rI_seq (rE_var 0)) (blk_of (N := N__law_turned) (sc := defScope (top 22)) (by decide +kernel)) (fun _ _ _ _ _ => (rG_nm 1 sc__law_turned.nd)) (fun _ _ _ _ _ => rTs_nil) (fun _ _ _ _ _ => (rE_un un_neg ud_neg (rE_var 1)))) rA_nil))))

theorem sc__law_in_rows : FnScope N__law_in_rows ["rows"] (defScope (top 23)) := ⟨rfl, rfl, rfl, by decide +kernel, rfl, by decide +kernel, by decide +kernel⟩
theorem ok__law_in_rows (T : Tx K mg ad fd) : FnG P w K mg base 1 (ad 23) (fd 23) ["rows"] (spD K cm 1 d__law_in_rows) := fn_D (N := N__law_in_rows) (m := m__law_in_rows) T.F23 sc__law_in_rows fun cdv A fr s H E hG hr tk hp =>
  (rSs_one (rS_ret (rE_callTy call_tuple_of cd_tuple T.n_tuple (by decide +kernel) (rA_cons (rE_sortdict rfl (u100 hr) T.n_sorted T.n_dict (rE_comp [("row", 1)] rfl sc__law_in_rows.nd (rI_seq (rE_var 0)) (blk_of (N := N__law_in_rows) (sc := defScope (top 23)) (by decide +kernel)) (fun _ _ _ _ _ => (rG_nm 1 sc__law_in_rows.nd)) (fun _ _ _ _ _ => rTs_nil) (fun _ _ _ _ _ => (rE_tup (rA_cons (rE_var 1) (rA_cons rE_bl rA_nil)))))) rA_nil))))

theorem sc__law_any_row : FnScope N__law_any_row ["jar", "n"] (defScope (top 24)) := ⟨rfl, rfl, rfl, by decide +kernel, rfl, by decide +kernel, by decide +kernel⟩
theorem ok__law_any_row (T : Tx K mg ad fd) : FnG P w K mg base 2 (ad 24) (fd 24) ["jar", "n"] (spD K cm 2 d__law_any_row) := fn_D (N := N__law_any_row) (m := m__law_any_row) T.F24 sc__law_any_row fun cdv A fr s H E hG hr tk hp =>
  (rSs_one (rS_ret (rE_callTy call_tuple_of cd_tuple T.n_tuple (by decide +kernel) (rA_cons (rE_comp [("i", 2)] rfl sc__law_any_row.nd (rI_range1 T.n_range (rA_cons (rE_var 1) rA_nil)) (blk_of (N := N__law_any_row) (sc := defScope (top 24)) (by decide +kernel)) (fun _ _ _ _ _ => (rG_nm 2 sc__law_any_row.nd)) (fun _ _ _ _ _ => rTs_nil) (fun _ _ _ _ _ => (rE_op op_sub od_sub (rE_fn (ok__law_take T) hG (hr.mono (by decide)) T.g19 T.F19.kp T.b19 takes0 (rA_cons (rE_var 0) (rA_cons rE_int rA_nil)) (al_cons (al_cons al_nil))) rE_int))) rA_nil))))

theorem sc__law_row_of : FnScope N__law_row_of ["new", "old"] (defScope (top 25)) := ⟨rfl, rfl, rfl, by decide +kernel, rfl, by decide +kernel, by decide +kernel⟩
theorem ok__law_row_of (T : Tx K mg ad fd) : FnG P w K mg base 1 (ad 25) (fd 25) ["new", "old"] (spD K cm 2 d__law_row_of) := fn_D (N := N__law_row_of) (m := m__law_row_of) T.F25 sc__law_row_of fun cdv A fr s H E hG hr tk hp =>
  (rSs_one (rS_ret (rE_callTy call_tuple_of cd_tuple T.n_tuple (by decide +kernel) (rA_cons (rE_comp [("i", 2)] rfl sc__law_row_of.nd (rI_range1 T.n_range (rA_cons (rE_callB call_len cd_len T.n_len (by decide +kernel) (rA_cons (rE_var 1) rA_nil)) rA_nil)) (blk_of (N := N__law_row_of) (sc := defScope (top 25)) (by decide +kernel)) (fun _ _ _ _ _ => (rG_nm 2 sc__law_row_of.nd)) (fun _ _ _ _ _ => rTs_nil) (fun _ _ _ _ _ => (rE_op op_sub od_sub (rE_callTy call_intA cd_intA T.n_int (by decide +kernel) (rA_cons (rE_cmp op_gt od_gt (rE_ix ix_seq od_ix (rE_var 0) (rE_var 2)) (rE_ix ix_seq od_ix (rE_var 1) (rE_var 2)) (nomark _)) rA_nil)) (rE_callTy call_intA cd_intA T.n_int (by decide +kernel) (rA_cons (rE_cmp (op_ltA hr.units0) od_lt (rE_ix ix_seq od_ix (rE_var 0) (rE_var 2)) (rE_ix ix_seq od_ix (rE_var 1) (rE_var 2)) (nomark _)) rA_nil))))) rA_nil))))

theorem sc__law_any_motion : FnScope N__law_any_motion ["jar", "n"] (defScope (top 26)) := ⟨rfl, rfl, rfl, by decide +kernel, rfl, by decide +kernel, by decide +kernel⟩
theorem ok__law_any_motion (T : Tx K mg ad fd) : FnG P w K mg base 3 (ad 26) (fd 26) ["jar", "n"] (spD K cm 2 d__law_any_motion) := fn_D (N := N__law_any_motion) (m := m__law_any_motion) T.F26 sc__law_any_motion fun cdv A fr s H E hG hr tk hp =>
  (rSs_cons (rS_set 2 sc__law_any_motion.nd (rE_fn (ok__law_one T) hG (hr.mono (by decide)) T.g20 T.F20.kp T.b20 tk (rA_cons (rE_var 0) (rA_cons (rE_lst (rA_cons rE_int (rA_cons rE_int (rA_cons rE_int (rA_cons rE_int (rA_cons (rE_op op_pow od_pow rE_int rE_int) rA_nil)))))) rA_nil)) (al_cons (al_cons al_nil)))) (rSs_one (rS_ret (rE_callTy call_tuple_of cd_tuple T.n_tuple (by decide +kernel) (rA_cons (rE_comp [("i", 3)] rfl sc__law_any_motion.nd (rI_range1 T.n_range (rA_cons (rE_var 1) rA_nil)) (blk_of (N := N__law_any_motion) (sc := defScope (top 26)) (by decide +kernel)) (fun _ _ _ _ _ => (rG_nm 3 sc__law_any_motion.nd)) (fun _ _ _ _ _ => rTs_nil) (fun _ _ _ _ _ => (rE_op op_sub od_sub (rE_fn (ok__law_take T) hG (hr.mono (by decide)) T.g19 T.F19.kp T.b19 takes0 (rA_cons (rE_var 0) (rA_cons (rE_var 2) rA_nil)) (al_cons (al_cons al_nil))) (rE_op op_fdivW od_fdiv (rE_var 2) rE_int)))) rA_nil)))))

theorem sc__law_near_motion : FnScope N__law_near_motion ["jar", "motion"] (defScope (top 27)) := ⟨rfl, rfl, rfl, by decide +kernel, rfl, by decide +kernel, by decide +kernel⟩
theorem ok__law_near_motion (T : Tx K mg ad fd) : FnG P w K mg base 3 (ad 27) (fd 27) ["jar", "motion"] (spD K cm 2 d__law_near_motion) := fn_D (N := N__law_near_motion) (m := m__law_near_motion) T.F27 sc__law_near_motion fun cdv A fr s H E hG hr tk hp =>
  (rSs_cons (rS_set 2 sc__law_near_motion.nd (rE_callTy call_list_of cd_list T.n_list (by decide +kernel) (rA_cons (rE_var 1) rA_nil))) (rSs_cons (rS_for hp rfl (rI_range1 T.n_range (rA_cons (rE_op op_addA od_add rE_int (rE_fn (ok__law_take T) hG (hr.mono (by decide)) T.g19 T.F19.kp T.b19 tk (rA_cons (rE_var 0) (rA_cons rE_int rA_nil)) (al_cons (al_cons al_nil)))) rA_nil)) (rG_nm 3 sc__law_near_motion.nd) (rSs_cons (rS_set 4 sc__law_near_motion.nd (rE_fn (ok__law_take T) hG (hr.mono (by decide)) T.g19 T.F19.kp T.b19 tk (rA_cons (rE_var 0) (rA_cons (rE_callB call_len cd_len T.n_len (by decide +kernel) (rA_cons (rE_var 1) rA_nil)) rA_nil)) (al_cons (al_cons al_nil)))) (rSs_one (rS_sub set_list sd_ix (rE_op op_addA od_add (rE_ix ix_seq od_ix (rE_var 2) (rE_var 4)) (rE_fn (ok__law_one T) hG (hr.mono (by decide)) T.g20 T.F20.kp T.b20 tk (rA_cons (rE_var 0) (rA_cons (rE_lst (rA_cons (rE_un un_neg ud_neg rE_int) (rA_cons (rE_un un_neg ud_neg rE_int) (rA_cons rE_int (rA_cons rE_int rA_nil))))) rA_nil)) (al_cons (al_cons al_nil)))) (rE_var 2) (rE_var 4))))) (rSs_one (rS_ret (rE_callTy call_tuple_of cd_tuple T.n_tuple (by decide +kernel) (rA_cons (rE_var 2) rA_nil))))))

theorem sc__law_tried : FnScope N__law_tried ["a", "b"] (defScope (top 28)) := ⟨rfl, rfl, rfl, by decide +kernel, rfl, by decide +kernel, by decide +kernel⟩
theorem ok__law_tried (T : Tx K mg ad fd) : FnG P w K mg base 2 (ad 28) (fd 28) ["a", "b"] (spD K cm 2 d__law_tried) := fn_D (N := N__law_tried) (m := m__law_tried) T.F28 sc__law_tried fun cdv A fr s H E hG hr tk hp =>
  (rSs_cons (rS_set 2 sc__law_tried.nd (rE_lst rA_nil)) (rSs_cons (rS_for hp rfl (rI_range2 T.n_range (rA_cons (rE_un un_neg ud_neg rE_int) (rA_cons rE_int rA_nil))) (rG_nm 3 sc__law_tried.nd) (rSs_one (rS_for hp rfl (rI_range2 T.n_range (rA_cons (rE_un un_neg ud_neg rE_int) (rA_cons rE_int rA_nil))) (rG_nm 4 sc__law_tried.nd) (rSs_cons (rS_set 5 sc__law_tried.nd (rE_ix ix_seq od_ix (rE_fn (ok__law_row_of T) hG (hr.mono (by decide)) T.g25 T.F25.kp T.b25 tk (rA_cons (rE_tup (rA_cons (rE_var 4) rA_nil)) (rA_cons (rE_tup (rA_cons rE_int rA_nil)) rA_nil)) (al_cons (al_cons al_nil))) rE_int)) (rSs_one (rS_if (PW.pt (rW_and (rT_cmp (op_eqA hr.units) od_eq (rE_fn (ok__law_row_of T) hG (hr.mono (by decide)) T.g25 T.F25.kp T.b25 tk (rA_cons (rE_tup (rA_cons (rE_var 3) rA_nil)) (rA_cons (rE_tup (rA_cons rE_int rA_nil)) rA_nil)) (al_cons (al_cons al_nil))) (rE_tup (rA_cons (rE_var 0) rA_nil)) (nomark _)) (rW_and (rT_cmp (op_eqA hr.units) od_eq (rE_fn (ok__law_row_of T) hG (hr.mono (by decide)) T.g25 T.F25.kp T.b25 tk (rA_cons (rE_tup (rA_cons (rE_var 4) rA_nil)) (rA_cons (rE_tup (rA_cons (rE_var 3) rA_nil)) rA_nil)) (al_cons (al_cons al_nil))) (rE_tup (rA_cons (rE_var 1) rA_nil)) (nomark _)) (rW_and1 (rT_cmp (op_notInA (u65 hr)) od_notIn (rE_var 5) (rE_var 2) (by rfl)))))) (rSs_one (rS_expr (rE_mt PySem.F.plainAttrs_list PySem.F.slot_list_append PySem.F.type_list_append mt_append md_append (rE_var 2) (rA_cons (rE_var 5) rA_nil)))) rSs_nil)))))) (rSs_one (rS_ret (rE_callB (call_sortD (u100 hr)) cd_sorted T.n_sorted (by decide +kernel) (rA_cons (rE_var 2) rA_nil))))))

theorem sc__law_tried_sums : FnScope N__law_tried_sums ["one", "two"] (defScope (top 29)) := ⟨rfl, rfl, rfl, by decide +kernel, rfl, by decide +kernel, by decide +kernel⟩
theorem ok__law_tried_sums (T : Tx K mg ad fd) : FnG P w K mg base 3 (ad 29) (fd 29) ["one", "two"] (spD K cm 2 d__law_tried_sums) := fn_D (N := N__law_tried_sums) (m := m__law_tried_sums) T.F29 sc__law_tried_sums fun cdv A fr s H E hG hr tk hp =>
  (rSs_cons (rS_set 2 sc__law_tried_sums.nd (rE_lst (rA_cons (rE_tup rA_nil) rA_nil))) (rSs_cons (rS_for hp rfl (rI_range1 T.n_range (rA_cons (rE_callB call_len cd_len T.n_len (by decide +kernel) (rA_cons (rE_var 0) rA_nil)) rA_nil)) (rG_nm 3 sc__law_tried_sums.nd) (rSs_cons (rS_par 4 5 rfl sc__law_tried_sums.nd rfl rfl (rA_cons (rE_lst rA_nil) (rA_cons (rE_fn (ok__law_tried T) hG (hr.mono (by decide)) T.g28 T.F28.kp T.b28 tk (rA_cons (rE_ix ix_seq od_ix (rE_var 0) (rE_var 3)) (rA_cons (rE_ix ix_seq od_ix (rE_var 1) (rE_var 3)) rA_nil)) (al_cons (al_cons al_nil))) rA_nil))) (rSs_cons (rS_for hp rfl (rI_seq (rE_var 2)) (rG_nm 6 sc__law_tried_sums.nd) (rSs_one (rS_expr (rE_mt PySem.F.plainAttrs_list PySem.F.slot_list_extend PySem.F.type_list_extend mt_extendA md_extend (rE_var 4) (rA_cons (rE_comp [("c", 7)] rfl sc__law_tried_sums.nd (rI_seq (rE_var 5)) (blk_of (N := N__law_tried_sums) (sc := defScope (top 29)) (by decide +kernel)) (fun _ _ _ _ _ => (rG_nm 7 sc__law_tried_sums.nd)) (fun _ _ _ _ _ => rTs_nil) (fun _ _ _ _ _ => (rE_op op_addA od_add (rE_var 6) (rE_tup (rA_cons (rE_var 7) rA_nil))))) rA_nil))))) (rSs_one (rS_set 2 sc__law_tried_sums.nd (rE_var 4)))))) (rSs_one (rS_ret (rE_callTy call_tuple_of cd_tuple T.n_tuple (by decide +kernel) (rA_cons (rE_var 2) rA_nil))))))

theorem sc__law_other_row : FnScope N__law_other_row ["jar", "n", "one"] (defScope (top 30)) := ⟨rfl, rfl, rfl, by decide +kernel, rfl, by decide +kernel, by decide +kernel⟩
theorem ok__law_other_row (T : Tx K mg ad fd) : FnG P w K mg base 3 (ad 30) (fd 30) ["jar", "n", "one"] (spD K cm 3 d__law_other_row) := fn_D (N := N__law_other_row) (m := m__law_other_row) T.F30 sc__law_other_row fun cdv A fr s H E hG hr tk hp =>
  (rSs_cons (rS_par 3 4 rfl sc__law_other_row.nd rfl rfl (rA_cons (rE_fn (ok__law_take T) hG (hr.mono (by decide)) T.g19 T.F19.kp T.b19 tk (rA_cons (rE_var 0) (rA_cons rE_int rA_nil)) (al_cons (al_cons al_nil))) (rA_cons (rE_fn (ok__law_take T) hG (hr.mono (by decide)) T.g19 T.F19.kp T.b19 tk (rA_cons (rE_var 0) (rA_cons (rE_var 1) rA_nil)) (al_cons (al_cons al_nil))) rA_nil))) (rSs_cons (rS_if (rT_cmp (op_ltA hr.units0) od_lt (rE_var 3) rE_int (nomark _)) (rSs_one (rS_ret (rE_fn (ok__law_any_row T) hG (hr.mono (by decide)) T.g24 T.F24.kp T.b24 tk (rA_cons (rE_var 0) (rA_cons (rE_var 1) rA_nil)) (al_cons (al_cons al_nil))))) rSs_nil) (rSs_cons (rS_if (rT_cmp (op_eqA hr.units) od_eq (rE_var 3) rE_int (nomark _)) (rSs_one (rS_ret (rE_fn (ok__law_level T) hG (hr.mono (by decide)) T.g21 T.F21.kp T.b21 tk (rA_cons (rE_var 1) rA_nil) (al_cons al_nil)))) rSs_nil) (rSs_cons (rS_if (rT_cmp (op_eqA hr.units) od_eq (rE_var 3) rE_int (nomark _)) (rSs_one (rS_ret (rE_var 2))) rSs_nil) (rSs_cons (rS_set 5 sc__law_other_row.nd (rE_if (rT_cmp (op_ltA hr.units0) od_lt (rE_var 3) rE_int (nomark _)) (rE_fn (ok__law_turned T) hG (hr.mono (by decide)) T.g22 T.F22.kp T.b22 tk (rA_cons (rE_var 2) rA_nil) (al_cons al_nil)) (rE_var 2))) (rSs_one (rS_ret (rE_if (rT_cmp (op_eqA hr.units) od_eq (rE_var 3) rE_int (nomark _)) (rE_var 5) (rE_op op_addA od_add (rE_op op_addA od_add (rE_sl (rE_var 5) rO_none (rO_some (rE_var 4))) (rE_tup (rA_cons (rE_op op_sub od_sub (rE_fn (ok__law_take T) hG (hr.mono (by decide)) T.g19 T.F19.kp T.b19 tk (rA_cons (rE_var 0) (rA_cons rE_int rA_nil)) (al_cons (al_cons al_nil))) rE_int) rA_nil))) (rE_sl (rE_var 5) (rO_some (rE_op op_addA od_add (rE_var 4) rE_int)) rO_none))))))))))

theorem sc__law_two_right : FnScope N__law_two_right ["n", "one", "two"] (defScope (top 31)) := ⟨rfl, rfl, rfl, by decide +kernel, rfl, by decide +kernel, by decide +kernel⟩
theorem ok__law_two_right (T : Tx K mg ad fd) : FnG P w K mg base 5 (ad 31) (fd 31) ["n", "one", "two"] (spD K cm 3 d__law_two_right) := fn_D (N := N__law_two_right) (m := m__law_two_right) T.F31 sc__law_two_right fun cdv A fr s H E hG hr tk hp =>
  (rSs_cons (rS_set 3 sc__law_two_right.nd (rE_fn (ok__law_tried_sums T) hG (hr.mono (by decide)) T.g29 T.F29.kp T.b29 tk (rA_cons (rE_var 1) (rA_cons (rE_var 2) rA_nil)) (al_cons (al_cons al_nil)))) (rSs_cons (rS_if (PW.pt (rW_or (rT_cmp (op_neA hr.units) od_ne (rE_callB (call_reprD hG (u100 hr)) cd_repr T.n_repr (by decide +kernel) (rA_cons (rE_fn (ok_sums T) hG (hr.mono (by decide)) T.g12 T.F12.kp T.b12 tk (rA_cons (rE_var 1) (rA_cons (rE_var 2) rA_nil)) (al_cons (al_cons al_nil))) rA_nil)) (rE_callB (call_reprD hG (u100 hr)) cd_repr T.n_repr (by decide +kernel) (rA_cons (rE_var 3) rA_nil)) (nomark _)) (rW_or1 (rT_cmp (op_neA hr.units) od_ne (rE_callB (call_reprD hG (u100 hr)) cd_repr T.n_repr (by decide +kernel) (rA_cons (rE_fn (ok_sums T) hG (hr.mono (by decide)) T.g12 T.F12.kp T.b12 tk (rA_cons (rE_var 2) (rA_cons (rE_var 1) rA_nil)) (al_cons (al_cons al_nil))) rA_nil)) (rE_callB (call_reprD hG (u100 hr)) cd_repr T.n_repr (by decide +kernel) (rA_cons (rE_var 3) rA_nil)) (nomark _))))) (rSs_one (rS_ret rE_bl)) rSs_nil) (rSs_cons (rS_if (rT_cmp (op_neA hr.units) od_ne (rE_callB (call_reprD hG (u100 hr)) cd_repr T.n_repr (by decide +kernel) (rA_cons (rE_fn (ok_sums T) hG (hr.mono (by decide)) T.g12 T.F12.kp T.b12 tk (rA_cons (rE_fn (ok_turned T) hG (hr.mono (by decide)) T.g11 T.F11.kp T.b11 tk (rA_cons (rE_var 2) rA_nil) (al_cons al_nil)) (rA_cons (rE_fn (ok_turned T) hG (hr.mono (by decide)) T.g11 T.F11.kp T.b11 tk (rA_cons (rE_var 1) rA_nil) (al_cons al_nil)) rA_nil)) (al_cons (al_cons al_nil))) rA_nil)) (rE_callB (call_reprD hG (u100 hr)) cd_repr T.n_repr (by decide +kernel) (rA_cons (rE_callTy call_tuple_of cd_tuple T.n_tuple (by decide +kernel) (rA_cons (rE_callB (call_sortD (u100 hr)) cd_sorted T.n_sorted (by decide +kernel) (rA_cons (rE_comp [("row", 4)] rfl sc__law_two_right.nd (rI_seq (rE_var 3)) (blk_of (N := N__law_two_right) (sc := defScope (top 31)) (by decide +kernel)) (fun _ _ _ _ _ => (rG_nm 4 sc__law_two_right.nd)) (fun _ _ _ _ _ => rTs_nil) (fun _ _ _ _ _ => (rE_fn (ok__law_turned T) hG (hr.mono (by decide)) T.g22 T.F22.kp T.b22 takes0 (rA_cons (rE_var 4) rA_nil) (al_cons al_nil)))) rA_nil)) rA_nil)) rA_nil)) (nomark _)) (rSs_one (rS_ret rE_bl)) rSs_nil) (rSs_cons (rS_if (rT_cmp (op_neA hr.units) od_ne (rE_cmp (op_inA (u65 hr)) od_in (rE_fn (ok_level T) hG (hr.mono (by decide)) T.g9 T.F9.kp T.b9 tk (rA_cons (rE_var 0) rA_nil) (al_cons al_nil)) (rE_fn (ok_sums T) hG (hr.mono (by decide)) T.g12 T.F12.kp T.b12 tk (rA_cons (rE_var 1) (rA_cons (rE_var 2) rA_nil)) (al_cons (al_cons al_nil))) (by rfl)) (rE_cmp (op_eqA hr.units) od_eq (rE_var 2) (rE_fn (ok__law_turned T) hG (hr.mono (by decide)) T.g22 T.F22.kp T.b22 tk (rA_cons (rE_var 1) rA_nil) (al_cons al_nil)) (nomark _)) (nomark _)) (rSs_one (rS_ret rE_bl)) rSs_nil) (rSs_one (rS_ret (rE_and (rE_cmp (op_eqA hr.units) od_eq (rE_callB (call_reprD hG (u100 hr)) cd_repr T.n_repr (by decide +kernel) (rA_cons (rE_fn (ok_sums T) hG (hr.mono (by decide)) T.g12 T.F12.kp T.b12 tk (rA_cons (rE_var 1) (rA_cons (rE_var 1) rA_nil)) (al_cons (al_cons al_nil))) rA_nil)) (rE_callB (call_reprD hG (u100 hr)) cd_repr T.n_repr (by decide +kernel) (rA_cons (rE_tup (rA_cons (rE_var 1) rA_nil)) rA_nil)) (nomark _)) (rE_one (rE_cmp (op_eqA hr.units) od_eq (rE_callB (call_reprD hG (u100 hr)) cd_repr T.n_repr (by decide +kernel) (rA_cons (rE_fn (ok_sums T) hG (hr.mono (by decide)) T.g12 T.F12.kp T.b12 tk (rA_cons (rE_var 2) (rA_cons (rE_fn (ok_level T) hG (hr.mono (by decide)) T.g9 T.F9.kp T.b9 tk (rA_cons (rE_var 0) rA_nil) (al_cons al_nil)) rA_nil)) (al_cons (al_cons al_nil))) rA_nil)) (rE_callB (call_reprD hG (u100 hr)) cd_repr T.n_repr (by decide +kernel) (rA_cons (rE_tup (rA_cons (rE_var 2) rA_nil)) rA_nil)) (nomark _))))))))))

theorem sc__law_behind : FnScope N__law_behind ["rows", "last"] (defScope (top 32)) := ⟨rfl, rfl, rfl, by decide +kernel, rfl, by decide +kernel, by decide +kernel⟩
theorem ok__law_behind (T : Tx K mg ad fd) : FnG P w K mg base 3 (ad 32) (fd 32) ["rows", "last"] (spD K cm 2 d__law_behind) := fn_D (N := N__law_behind) (m := m__law_behind) T.F32 sc__law_behind fun cdv A fr s H E hG hr tk hp =>
  (rSs_cons (rS_set 2 sc__law_behind.nd (rE_lst rA_nil)) (rSs_cons (rS_for hp rfl (rI_seq (rE_var 0)) (rG_nm 3 sc__law_behind.nd) (rSs_one (rS_expr (rE_mt PySem.F.plainAttrs_list PySem.F.slot_list_extend PySem.F.type_list_extend mt_extendA md_extend (rE_var 2) (rA_cons (rE_fn (ok_sums T) hG (hr.mono (by decide)) T.g12 T.F12.kp T.b12 tk (rA_cons (rE_var 3) (rA_cons (rE_var 1) rA_nil)) (al_cons (al_cons al_nil))) rA_nil))))) (rSs_one (rS_ret (rE_fn (ok__law_in_rows T) hG (hr.mono (by decide)) T.g23 T.F23.kp T.b23 tk (rA_cons (rE_var 2) rA_nil) (al_cons al_nil))))))

theorem sc__law_ahead : FnScope N__law_ahead ["one", "rows"] (defScope (top 33)) := ⟨rfl, rfl, rfl, by decide +kernel, rfl, by decide +kernel, by decide +kernel⟩
theorem ok__law_ahead (T : Tx K mg ad fd) : FnG P w K mg base 3 (ad 33) (fd 33) ["one", "rows"] (spD K cm 2 d__law_ahead) := fn_D (N := N__law_ahead) (m := m__law_ahead) T.F33 sc__law_ahead fun cdv A fr s H E hG hr tk hp =>
  (rSs_cons (rS_set 2 sc__law_ahead.nd (rE_lst rA_nil)) (rSs_cons (rS_for hp rfl (rI_seq (rE_var 1)) (rG_nm 3 sc__law_ahead.nd) (rSs_one (rS_expr (rE_mt PySem.F.plainAttrs_list PySem.F.slot_list_extend PySem.F.type_list_extend mt_extendA md_extend (rE_var 2) (rA_cons (rE_fn (ok_sums T) hG (hr.mono (by decide)) T.g12 T.F12.kp T.b12 tk (rA_cons (rE_var 0) (rA_cons (rE_var 3) rA_nil)) (al_cons (al_cons al_nil))) rA_nil))))) (rSs_one (rS_ret (rE_fn (ok__law_in_rows T) hG (hr.mono (by decide)) T.g23 T.F23.kp T.b23 tk (rA_cons (rE_var 2) rA_nil) (al_cons al_nil))))))

theorem sc__law_three_right : FnScope N__law_three_right ["one", "two", "last"] (defScope (top 34)) := ⟨rfl, rfl, rfl, by decide +kernel, rfl, by decide +kernel, by decide +kernel⟩
theorem ok__law_three_right (T : Tx K mg ad fd) : FnG P w K mg base 4 (ad 34) (fd 34) ["one", "two", "last"] (spD K cm 3 d__law_three_right) := fn_D (N := N__law_three_right) (m := m__law_three_right) T.F34 sc__law_three_right fun cdv A fr s H E hG hr tk hp =>
  (rSs_one (rS_ret (rE_cmp (op_eqA hr.units) od_eq (rE_fn (ok__law_behind T) hG (hr.mono (by decide)) T.g32 T.F32.kp T.b32 tk (rA_cons (rE_fn (ok_sums T) hG (hr.mono (by decide)) T.g12 T.F12.kp T.b12 tk (rA_cons (rE_var 0) (rA_cons (rE_var 1) rA_nil)) (al_cons (al_cons al_nil))) (rA_cons (rE_var 2) rA_nil)) (al_cons (al_cons al_nil))) (rE_fn (ok__law_ahead T) hG (hr.mono (by decide)) T.g33 T.F33.kp T.b33 tk (rA_cons (rE_var 0) (rA_cons (rE_fn (ok_sums T) hG (hr.mono (by decide)) T.g12 T.F12.kp T.b12 tk (rA_cons (rE_var 1) (rA_cons (rE_var 2) rA_nil)) (al_cons (al_cons al_nil))) rA_nil)) (al_cons (al_cons al_nil))) (nomark _))))

theorem sc__law_tale_right : FnScope N__law_tale_right ["first", "middle", "last"] (defScope (top 35)) := ⟨rfl, rfl, rfl, by decide +kernel, rfl, by decide +kernel, by decide +kernel⟩
theorem ok__law_tale_right (T : Tx K mg ad fd) : FnG P w K mg base 3 (ad 35) (fd 35) ["first", "middle", "last"] (spD K cm 3 d__law_tale_right) := fn_D (N := N__law_tale_right) (m := m__law_tale_right) T.F35 sc__law_tale_right fun cdv A fr s H E hG hr tk hp =>
  (rSs_cons (rS_par3 3 4 5 rfl sc__law_tale_right.nd rfl rfl rfl (rA_cons (rE_fn (ok_row_of T) hG (hr.mono (by decide)) T.g16 T.F16.kp T.b16 tk (rA_cons (rE_var 1) (rA_cons (rE_var 0) rA_nil)) (al_cons (al_cons al_nil))) (rA_cons (rE_fn (ok_row_of T) hG (hr.mono (by decide)) T.g16 T.F16.kp T.b16 tk (rA_cons (rE_var 2) (rA_cons (rE_var 1) rA_nil)) (al_cons (al_cons al_nil))) (rA_cons (rE_fn (ok__law_row_of T) hG (hr.mono (by decide)) T.g25 T.F25.kp T.b25 tk (rA_cons (rE_var 2) (rA_cons (rE_var 0) rA_nil)) (al_cons (al_cons al_nil))) rA_nil)))) (rSs_cons (rS_set 6 sc__law_tale_right.nd (rE_callTy call_intA cd_intA T.n_int (by decide +kernel) (rA_cons (rE_op op_addA od_add rE_str (rE_op op_mulA od_mul rE_str rE_int)) rA_nil))) (rSs_cons (rS_setComp 7 [("motion", 8)] rfl sc__law_tale_right.nd rfl (sw_true rfl rfl rfl (by decide +kernel)) (rI_seq (rE_lst (rA_cons (rE_var 2) (rA_cons (rE_var 0) rA_nil)))) (blk_of (N := N__law_tale_right) (sc := defScope (top 35)) (by decide +kernel)) (fun _ _ _ _ _ => (rG_nm 8 sc__law_tale_right.nd)) (fun _ _ _ _ _ => rTs_nil) (fun _ _ _ _ _ => (rE_callTy call_tuple_of cd_tuple T.n_tuple (by decide +kernel) (rA_cons (rE_comp [("height", 9)] rfl sc__law_tale_right.nd (rI_seq (rE_var 8)) (blk_of (N := N__law_tale_right) (sc := L2.relS ({ kind := PySem.ScopeKind.function, names := [ (PySem.Str.ofString ".0", PySem.NameKind.local), (PySem.Str.ofString "motion", PySem.NameKind.local), (PySem.Str.ofString "tuple", PySem.NameKind.globalImplicit), (PySem.Str.ofString "far", PySem.NameKind.free)], isGenerator := false, isCoroutine := false, more := [] : PySem.Scope }) (defScope (top 35))) (by decide +kernel)) (fun _ _ _ _ _ => (rG_nm 9 sc__law_tale_right.nd)) (fun _ _ _ _ _ => rTs_nil) (fun _ _ _ _ _ => (rE_op op_mulA od_mul (rE_var 6) (rE_var 9)))) rA_nil)))) (rSs_cons (rS_if (PW.pt (rW_or (rT_cmp (op_neA hr.units) od_ne (rE_callB (call_reprD hG (u100 hr)) cd_repr T.n_repr (by decide +kernel) (rA_cons (rE_fnK0 ["old", "new"] [1, 0] (ok_row_of T) hG (hr.mono (by decide)) T.g16 T.F16.kp T.k16_10 tk (rK_cons (rE_ix ix_seq od_ix (rE_var 7) rE_int) (rK_cons (rE_ix ix_seq od_ix (rE_var 7) rE_int) rK_nil)) (al_cons (al_cons al_nil))) rA_nil)) (rE_callB (call_reprD hG (u100 hr)) cd_repr T.n_repr (by decide +kernel) (rA_cons (rE_var 5) rA_nil)) (nomark _)) (rW_or1 (rT_cmp (op_neA hr.units) od_ne (rE_callB (call_reprD hG (u100 hr)) cd_repr T.n_repr (by decide +kernel) (rA_cons (rE_fn (ok_row_of T) hG (hr.mono (by decide)) T.g16 T.F16.kp T.b16 tk (rA_cons (rE_var 2) (rA_cons (rE_var 0) rA_nil)) (al_cons (al_cons al_nil))) rA_nil)) (rE_callB (call_reprD hG (u100 hr)) cd_repr T.n_repr (by decide +kernel) (rA_cons (rE_var 5) rA_nil)) (nomark _))))) (rSs_one (rS_ret rE_bl)) rSs_nil) (rSs_one (rS_ret (rE_cmp (op_inA (u65 hr)) od_in (rE_var 5) (rE_fnK0 ["two", "one"] [1, 0] (ok_sums T) hG (hr.mono (by decide)) T.g12 T.F12.kp T.k12_10 tk (rK_cons (rE_var 4) (rK_cons (rE_var 3) rK_nil)) (al_cons (al_cons al_nil))) (by rfl))))))))

theorem sc_law : FnScope N_law ["script"] (defScope (top 36)) := ⟨rfl, rfl, rfl, by decide +kernel, rfl, by decide +kernel, by decide +kernel⟩
theorem ok_law (T : Tx K mg ad fd) : FnG P w K mg base 6 (ad 36) (fd 36) ["script"] (spD K cm 1 d_law) := fn_D (N := N_law) (m := m_law) T.F36 sc_law fun cdv A fr s H E hG hr tk hp =>
  (rSs_cons (rS_set 1 sc_law.nd (rE_fn (ok__law_pool T) hG (hr.mono (by decide)) T.g18 T.F18.kp T.b18 tk (rA_cons (rE_var 0) (rA_cons rE_int rA_nil)) (al_cons (al_cons al_nil)))) (rSs_cons (rS_set 2 sc_law.nd (rE_fn (ok__law_one T) hG (hr.mono (by decide)) T.g20 T.F20.kp T.b20 tk (rA_cons (rE_var 1) (rA_cons (rE_lst (rA_cons rE_int (rA_cons rE_int (rA_cons rE_int (rA_cons rE_int (rA_cons rE_int (rA_cons rE_int (rA_cons rE_int (rA_cons rE_int (rA_cons rE_int rA_nil)))))))))) rA_nil)) (al_cons (al_cons al_nil)))) (rSs_cons (rS_for hp rfl (rI_range1 T.n_range (rA_cons rE_int rA_nil)) (rG_nm 3 sc_law.nd) (rSs_cons (rS_set 4 sc_law.nd (rE_fn (ok__law_any_row T) hG (hr.mono (by decide)) T.g24 T.F24.kp T.b24 tk (rA_cons (rE_var 1) (rA_cons (rE_var 2) rA_nil)) (al_cons (al_cons al_nil)))) (rSs_cons (rS_set 5 sc_law.nd (rE_fn (ok__law_other_row T) hG (hr.mono (by decide)) T.g30 T.F30.kp T.b30 tk (rA_cons (rE_var 1) (rA_cons (rE_var 2) (rA_cons (rE_var 4) rA_nil))) (al_cons (al_cons (al_cons al_nil))))) (rSs_cons (rS_set 6 sc_law.nd (rE_fn (ok__law_other_row T) hG (hr.mono (by decide)) T.g30 T.F30.kp T.b30 tk (rA_cons (rE_var 1) (rA_cons (rE_var 2) (rA_cons (rE_var 4) rA_nil))) (al_cons (al_cons (al_cons al_nil))))) (rSs_cons (rS_if (PW.pt (rW_or (rT_not (rT_val (rE_fn (ok__law_two_right T) hG (hr.mono (by decide)) T.g31 T.F31.kp T.b31 tk (rA_cons (rE_var 2) (rA_cons (rE_var 4) (rA_cons (rE_var 5) rA_nil))) (al_cons (al_cons (al_cons al_nil)))))) (rW_or1 (rT_not (rT_val (rE_fn (ok__law_two_right T) hG (hr.mono (by decide)) T.g31 T.F31.kp T.b31 tk (rA_cons (rE_var 2) (rA_cons (rE_var 5) (rA_cons (rE_var 6) rA_nil))) (al_cons (al_cons (al_cons al_nil))))))))) (rSs_one (rS_ret rE_bl)) rSs_nil) (rSs_cons (rS_if (rT_not (rT_val (rE_fn (ok__law_three_right T) hG (hr.mono (by decide)) T.g34 T.F34.kp T.b34 tk (rA_cons (rE_sl (rE_var 4) rO_none (rO_some rE_int)) (rA_cons (rE_sl (rE_var 5) rO_none (rO_some rE_int)) (rA_cons (rE_sl (rE_var 6) rO_none (rO_some rE_int)) rA_nil))) (al_cons (al_cons (al_cons al_nil)))))) (rSs_one (rS_ret rE_bl)) rSs_nil) (rSs_cons (rS_set 7 sc_law.nd (rE_fn (ok__law_any_motion T) hG (hr.mono (by decide)) T.g26 T.F26.kp T.b26 tk (rA_cons (rE_var 1) (rA_cons (rE_var 2) rA_nil)) (al_cons (al_cons al_nil)))) (rSs_cons (rS_set 8 sc_law.nd (rE_fn (ok__law_near_motion T) hG (hr.mono (by decide)) T.g27 T.F27.kp T.b27 tk (rA_cons (rE_var 1) (rA_cons (rE_var 7) rA_nil)) (al_cons (al_cons al_nil)))) (rSs_cons (rS_set 9 sc_law.nd (rE_if (rT_cmp (op_eqA hr.units) od_eq (rE_fn (ok__law_take T) hG (hr.mono (by decide)) T.g19 T.F19.kp T.b19 tk (rA_cons (rE_var 1) (rA_cons rE_int rA_nil)) (al_cons (al_cons al_nil))) rE_int (nomark _)) (rE_fn (ok__law_any_motion T) hG (hr.mono (by decide)) T.g26 T.F26.kp T.b26 tk (rA_cons (rE_var 1) (rA_cons (rE_var 2) rA_nil)) (al_cons (al_cons al_nil))) (rE_fn (ok__law_near_motion T) hG (hr.mono (by decide)) T.g27 T.F27.kp T.b27 tk (rA_cons (rE_var 1) (rA_cons (rE_var 8) rA_nil)) (al_cons (al_cons al_nil))))) (rSs_one (rS_if (PW.pt (rW_or (rT_not (rT_val (rE_fn (ok__law_tale_right T) hG (hr.mono (by decide)) T.g35 T.F35.kp T.b35 tk (rA_cons (rE_var 7) (rA_cons (rE_var 8) (rA_cons (rE_var 9) rA_nil))) (al_cons (al_cons (al_cons al_nil)))))) (rW_or1 (rT_not (rT_val (rE_fn (ok__law_tale_right T) hG (hr.mono (by decide)) T.g35 T.F35.kp T.b35 tk (rA_cons (rE_var 9) (rA_cons (rE_var 7) (rA_cons (rE_var 8) rA_nil))) (al_cons (al_cons (al_cons al_nil))))))))) (rSs_one (rS_ret rE_bl)) rSs_nil))))))))))) (rSs_one (rS_ret rE_bl)))))

end
end Rol.G

namespace Rol.G
open PySem L2 PySem.Spec Rol
open PyProof.Rows hiding St
def ss (a b : Int) : List Int := if a = 0 ∨ a = b then [b] else if b = 0 then [a] else [-1, 0, 1]
def sg (x y : Int) : Int := if y < x then 1 else if x < y then -1 else 0
def neg (r : List Int) : List Int := r.map fun i => -i
def zero (n : Nat) : List Int := List.replicate n 0
def prod : List (List Int) → List (List Int)
  | [] => [[]]
  | c :: cs => c.flatMap fun z => (prod cs).map (z :: ·)
theorem prod_snoc (c : List Int) : ∀ cs : List (List Int), prod (cs ++ [c]) = (prod cs).flatMap fun r => c.map fun z => r ++ [z]
  | [] => by
    simp only [List.nil_append, prod, List.flatMap_cons, List.flatMap_nil, List.append_nil]
    show List.flatMap (fun z => [[z]]) c = c.map fun z => [z]
    induction c with
    | nil => rfl
    | cons z c ih => rw [List.flatMap_cons, ih]; rfl
  | d :: cs => by
    simp only [List.cons_append, prod, prod_snoc c cs, List.flatMap_assoc, List.map_flatMap, List.flatMap_map, List.map_map]
    rfl
theorem prod_len : ∀ cs : List (List Int), (∀ c ∈ cs, c.length ≤ 3) → (prod cs).length ≤ 3 ^ cs.length
  | [], _ => by simp [prod]
  | c :: cs, h => by
    have h1 := prod_len cs fun d hd => h d (List.mem_cons_of_mem _ hd)
    have h2 := h c (List.mem_cons_self ..)
    have e : (prod (c :: cs)).length = c.length * (prod cs).length := by
      rw [prod]
      clear h1 h2 h
      induction c with
      | nil => simp
      | cons z c ih => rw [List.flatMap_cons, List.length_append, ih, List.length_map, List.length_cons, Nat.succ_mul, Nat.add_comm]
    rw [e, List.length_cons, Nat.pow_succ, Nat.mul_comm]
    exact Nat.mul_le_mul h1 h2
theorem mem_prod : ∀ (cs : List (List Int)) (r : List Int), r ∈ prod cs ↔ Pd (fun z c => z ∈ c) r cs
  | [], r => by
    rw [prod, List.mem_singleton]
    exact ⟨fun e => e ▸ .nil, fun h => by cases h; rfl⟩
  | c :: cs, r => by
    rw [prod, List.mem_flatMap]
    constructor
    · rintro ⟨z, hz, h⟩
      obtain ⟨t, ht, rfl⟩ := List.mem_map.mp h
      exact .cons hz ((mem_prod cs t).mp ht)
    · intro h
      cases h with
      | cons h1 h2 => exact ⟨_, h1, List.mem_map.mpr ⟨_, (mem_prod cs _).mpr h2, rfl⟩⟩
theorem lt_same (z : Int) (a b : List Int) : HT.lexLt (z :: a) (z :: b) = HT.lexLt a b := by rw [HT.lexLt, if_pos rfl]
theorem lt_less {y z : Int} (h : y < z) (a b : List Int) : HT.lexLt (y :: a) (z :: b) = true := by rw [HT.lexLt, if_neg (by omega)]; exact decide_eq_true h
theorem prod_sorted : ∀ cs : List (List Int), (∀ c ∈ cs, c.Pairwise (· < ·)) → (prod cs).Pairwise (fun a b => HT.lexLt a b = true)
  | [], _ => by simp [prod]
  | c :: cs, h => by
    have h1 := prod_sorted cs fun d hd => h d (List.mem_cons_of_mem _ hd)
    have h2 := h c (List.mem_cons_self ..)
    rw [prod]
    clear h
    induction c with
    | nil => simp
    | cons z c ih =>
      rw [List.flatMap_cons, List.pairwise_append]
      refine ⟨?_, ih h2.tail, ?_⟩
      · rw [List.pairwise_map]
        exact h1.imp fun {a b} hab => by rw [lt_same]; exact hab
      · intro a ha b hb
        obtain ⟨a', _, rfl⟩ := List.mem_map.mp ha
        obtain ⟨y, hy, hb⟩ := List.mem_flatMap.mp hb
        obtain ⟨b', _, rfl⟩ := List.mem_map.mp hb
        exact lt_less ((List.pairwise_cons.mp h2).1 y hy) _ _
theorem lt_asymm : ∀ a b : List Int, HT.lexLt a b = true → HT.lexLt b a = false
  | [], [], h => by simp [HT.lexLt] at h
  | [], _ :: _, _ => by simp [HT.lexLt]
  | _ :: _, [], h => by simp [HT.lexLt] at h
  | x :: a, y :: b, h => by
    rw [HT.lexLt] at h ⊢
    by_cases e : x = y
    · subst e
      rw [if_pos rfl] at h ⊢
      exact lt_asymm a b h
    · rw [if_neg e] at h
      rw [if_neg (Ne.symm e)]
      simp only [decide_eq_true_eq, decide_eq_false_iff_not] at h ⊢
      omega
theorem prod_rle (cs : List (List Int)) (h : ∀ c ∈ cs, c.Pairwise (· < ·)) : (prod cs).Pairwise (fun a b => rle a b = true) :=
  (prod_sorted cs h).imp fun {a b} hab => by unfold rle; rw [lt_asymm a b hab]; rfl
theorem prod_neg : ∀ cs : List (List Int), prod (cs.map fun c => (neg c).reverse) = ((prod cs).map neg).reverse
  | [] => rfl
  | c :: cs => by
    have ih := prod_neg cs
    rw [List.map_cons, prod, ih, prod]
    unfold neg
    rw [List.map_flatMap, List.reverse_flatMap, show (List.map (fun i => -i) c).reverse = List.map (fun i => -i) c.reverse from List.map_reverse.symm, List.flatMap_map]
    congr 1
    funext z
    simp [List.map_reverse]
theorem ss_neg (a b : Int) : ss (-b) (-a) = (neg (ss a b)).reverse := by
  unfold ss neg
  by_cases h1 : a = 0
  · subst h1
    by_cases h2 : b = 0
    · subst h2; rfl
    · rw [if_neg (by omega), if_pos (by omega), if_pos (by omega)]; rfl
  · by_cases h2 : a = b
    · subst h2
      rw [if_pos (by omega), if_pos (by omega)]; rfl
    · by_cases h3 : b = 0
      · subst h3
        rw [if_pos (by omega), if_neg (by omega), if_pos rfl]; rfl
      · rw [if_neg (by omega), if_neg (by omega), if_neg (by omega), if_neg h3]; rfl
theorem ss_comm (a b : Int) : ss b a = ss a b := by
  unfold ss
  by_cases h1 : a = 0
  · subst h1
    by_cases h2 : b = 0
    · subst h2; rfl
    · rw [if_neg (by omega), if_pos (by omega), if_pos (by omega)]
  · by_cases h2 : a = b
    · subst h2; rfl
    · by_cases h3 : b = 0
      · subst h3
        rw [if_pos (by omega), if_neg (by omega), if_pos rfl]
      · rw [if_neg (by omega), if_neg (by omega), if_neg (by omega), if_neg h3]
theorem ss_self (a : Int) : ss a a = [a] := by unfold ss; rw [if_pos (Or.inr rfl)]
theorem ss_zero (a : Int) : ss a 0 = [a] := by
  unfold ss
  by_cases h : a = 0
  · rw [if_pos (Or.inl h), h]
  · rw [if_neg (by omega), if_pos rfl]
abbrev Sgn (z : Int) : Prop := z = -1 ∨ z = 0 ∨ z = 1
theorem ss_in0 {a b : Int} (ha : Sgn a) (hb : Sgn b) : 0 ∈ ss a b ↔ b = -a := by
  rcases ha with rfl | rfl | rfl <;> rcases hb with rfl | rfl | rfl <;> decide
theorem ss_sgn {a b z : Int} (ha : Sgn a) (hb : Sgn b) (h : z ∈ ss a b) : Sgn z := by
  unfold ss at h
  split at h
  · rw [List.mem_singleton] at h; exact h ▸ hb
  · split at h
    · rw [List.mem_singleton] at h; exact h ▸ ha
    · simp at h; exact h
theorem ss_len (a b : Int) : (ss a b).length ≤ 3 := by
  unfold ss
  split
  · simp
  · split <;> simp
theorem ss_sorted (a b : Int) : (ss a b).Pairwise (· < ·) := by
  unfold ss
  split
  · simp
  · split
    · simp
    · decide
theorem ss_assoc1 {a b c : Int} (ha : Sgn a) (hb : Sgn b) (hc : Sgn c) : (∀ y ∈ ss a b, ∀ x ∈ ss y c, ∃ z ∈ ss b c, x ∈ ss a z) ∧ (∀ z ∈ ss b c, ∀ x ∈ ss a z, ∃ y ∈ ss a b, x ∈ ss y c) := by
  rcases ha with rfl | rfl | rfl <;> rcases hb with rfl | rfl | rfl <;> rcases hc with rfl | rfl | rfl <;> decide
theorem sg_sgn (x y : Int) : Sgn (sg x y) := by
  unfold sg
  split
  · exact .inr (.inr rfl)
  · split
    · exact .inl rfl
    · exact .inr (.inl rfl)
theorem sg_sum (a b c : Int) : sg c a ∈ ss (sg b a) (sg c b) := by
  unfold sg
  by_cases h1 : a < b <;> by_cases h2 : b < a <;> by_cases h3 : b < c <;> by_cases h4 : c < b <;> by_cases h5 : a < c <;> by_cases h6 : c < a <;> first | (exfalso; omega) | (simp only [h1, h2, h3, h4, h5, h6, if_true, if_false]; decide)
theorem sg_mul {F : Int} (hF : 0 < F) (x y : Int) : sg (F * x) (F * y) = sg x y := by
  unfold sg
  have h1 : F * y < F * x ↔ y < x := Int.mul_lt_mul_left hF
  have h2 : F * x < F * y ↔ x < y := Int.mul_lt_mul_left hF
  simp only [h1, h2]
abbrev Sr (r : List Int) : Prop := ∀ z ∈ r, Sgn z
theorem zip_comm : ∀ a b : List Int, List.zipWith ss b a = List.zipWith ss a b
  | [], b => by cases b <;> rfl
  | _ :: _, [] => rfl
  | x :: a, y :: b => by rw [List.zipWith_cons_cons, List.zipWith_cons_cons, ss_comm, zip_comm a b]
theorem zip_neg : ∀ a b : List Int, List.zipWith ss (neg b) (neg a) = (List.zipWith ss a b).map fun c => (neg c).reverse
  | [], b => by cases b <;> rfl
  | _ :: _, [] => rfl
  | x :: a, y :: b => by
    have := zip_neg a b
    unfold neg at this ⊢
    rw [List.map_cons, List.map_cons, List.zipWith_cons_cons, List.zipWith_cons_cons, List.map_cons, this, ss_neg]
    rfl
theorem prod_self : ∀ a : List Int, prod (List.zipWith ss a a) = [a]
  | [] => rfl
  | x :: a => by rw [List.zipWith_cons_cons, prod, prod_self a, ss_self]; rfl
theorem prod_zero : ∀ a : List Int, prod (List.zipWith ss a (zero a.length)) = [a]
  | [] => rfl
  | x :: a => by
    have := prod_zero a
    unfold zero at this ⊢
    rw [List.length_cons, List.replicate_succ, List.zipWith_cons_cons, prod, this, ss_zero]
    rfl
theorem zero_in : ∀ a b : List Int, Sr a → Sr b → a.length = b.length → (zero a.length ∈ prod (List.zipWith ss a b) ↔ b = neg a)
  | [], [], _, _, _ => by simp [prod, zero, neg]
  | [], _ :: _, _, _, h => by simp at h
  | _ :: _, [], _, _, h => by simp at h
  | x :: a, y :: b, ha, hb, hl => by
    have ih := zero_in a b (fun z hz => ha z (List.mem_cons_of_mem _ hz)) (fun z hz => hb z (List.mem_cons_of_mem _ hz)) (by simpa using hl)
    have h0 := ss_in0 (ha x (List.mem_cons_self ..)) (hb y (List.mem_cons_self ..))
    rw [mem_prod] at ih ⊢
    unfold zero neg at *
    rw [List.length_cons, List.replicate_succ, List.zipWith_cons_cons, List.map_cons, List.cons.injEq, ← ih, ← h0]
    exact ⟨fun h => by cases h with | cons h1 h2 => exact ⟨h1, h2⟩, fun h => .cons h.1 h.2⟩
/-- put together from the left, from the right -/
theorem assoc1 : ∀ a b c : List Int, Sr a → Sr b → Sr c → a.length = b.length → b.length = c.length → ∀ x, (∃ y ∈ prod (List.zipWith ss a b), x ∈ prod (List.zipWith ss y c)) ↔ (∃ z ∈ prod (List.zipWith ss b c), x ∈ prod (List.zipWith ss a z))
  | [], [], [], _, _, _, _, _, x => by simp [prod]
  | [], _ :: _, _, _, _, _, h, _, _ => by simp at h
  | _ :: _, [], _, _, _, _, h, _, _ => by simp at h
  | _, [], _ :: _, _, _, _, _, h, _ => by simp at h
  | _, _ :: _, [], _, _, _, _, h, _ => by simp at h
  | p :: a, q :: b, r :: c, ha, hb, hc, h1, h2, x => by
    have ih := assoc1 a b c (fun z hz => ha z (List.mem_cons_of_mem _ hz)) (fun z hz => hb z (List.mem_cons_of_mem _ hz)) (fun z hz => hc z (List.mem_cons_of_mem _ hz)) (by simpa using h1) (by simpa using h2)
    obtain ⟨k1, k2⟩ := ss_assoc1 (ha p (List.mem_cons_self ..)) (hb q (List.mem_cons_self ..)) (hc r (List.mem_cons_self ..))
    simp only [mem_prod, List.zipWith_cons_cons] at ih ⊢
    constructor
    · rintro ⟨y, hy, hx⟩
      cases hy with
      | cons hy1 hy2 =>
        rw [List.zipWith_cons_cons] at hx
        cases hx with
        | cons hx1 hx2 =>
          obtain ⟨z, hz, hxz⟩ := k1 _ hy1 _ hx1
          obtain ⟨t, ht, hxt⟩ := (ih _).mp ⟨_, hy2, hx2⟩
          exact ⟨z :: t, .cons hz ht, by rw [List.zipWith_cons_cons]; exact .cons hxz hxt⟩
    · rintro ⟨y, hy, hx⟩
      cases hy with
      | cons hy1 hy2 =>
        rw [List.zipWith_cons_cons] at hx
        cases hx with
        | cons hx1 hx2 =>
          obtain ⟨z, hz, hxz⟩ := k2 _ hy1 _ hx1
          obtain ⟨t, ht, hxt⟩ := (ih _).mpr ⟨_, hy2, hx2⟩
          exact ⟨z :: t, .cons hz ht, by rw [List.zipWith_cons_cons]; exact .cons hxz hxt⟩
theorem row_sum : ∀ a b c : List Int, a.length = b.length → b.length = c.length → List.zipWith sg c a ∈ prod (List.zipWith ss (List.zipWith sg b a) (List.zipWith sg c b))
  | [], [], [], _, _ => by simp [prod]
  | [], _ :: _, _, h, _ => by simp at h
  | _ :: _, [], _, h, _ => by simp at h
  | _, [], _ :: _, _, h => by simp at h
  | _, _ :: _, [], _, h => by simp at h
  | p :: a, q :: b, r :: c, h1, h2 => by
    have ih := row_sum a b c (by simpa using h1) (by simpa using h2)
    rw [mem_prod] at ih ⊢
    simp only [List.zipWith_cons_cons]
    exact .cons (sg_sum p q r) ih
theorem row_mul {F : Int} (hF : 0 < F) : ∀ a b : List Int, List.zipWith sg (a.map (F * ·)) (b.map (F * ·)) = List.zipWith sg a b
  | [], _ => by simp
  | _ :: _, [] => by simp
  | x :: a, y :: b => by simp only [List.map_cons, List.zipWith_cons_cons, sg_mul hF, row_mul hF a b]
theorem zip_len3 : ∀ (a b : List Int) (c : List Int), c ∈ List.zipWith ss a b → c.length ≤ 3 ∧ c.Pairwise (· < ·)
  | [], _, _, h => by simp at h
  | _ :: _, [], _, h => by simp at h
  | x :: a, y :: b, c, h => by
    rw [List.zipWith_cons_cons, List.mem_cons] at h
    rcases h with rfl | h
    · exact ⟨ss_len _ _, ss_sorted _ _⟩
    · exact zip_len3 a b c h
theorem Pd.len {α β : Type} {R : α → β → Prop} {as : List α} {bs : List β} (h : Pd R as bs) : as.length = bs.length := h.length.symm
theorem prod_rows : ∀ (a b r : List Int), Sr a → Sr b → r ∈ prod (List.zipWith ss a b) → Sr r ∧ r.length = min a.length b.length
  | [], b, r, _, _, h => by
    simp [prod] at h
    subst h
    exact ⟨fun z hz => (by cases hz), by simp⟩
  | _ :: _, [], r, _, _, h => by
    simp [prod] at h
    subst h
    exact ⟨fun z hz => (by cases hz), by simp⟩
  | x :: a, y :: b, r, ha, hb, h => by
    rw [mem_prod, List.zipWith_cons_cons] at h
    cases h with
    | cons h1 h2 =>
      obtain ⟨k1, k2⟩ := prod_rows a b _ (fun z hz => ha z (List.mem_cons_of_mem _ hz)) (fun z hz => hb z (List.mem_cons_of_mem _ hz)) ((mem_prod _ _).mpr h2)
      refine ⟨fun z hz => ?_, ?_⟩
      · cases hz with
        | head => exact ss_sgn (ha x (List.mem_cons_self ..)) (hb y (List.mem_cons_self ..)) h1
        | tail _ hz => exact k1 z hz
      · rw [List.length_cons, k2, List.length_cons, List.length_cons]
        omega
end Rol.G

namespace Rol.G
open PySem L2 PySem.Spec Rol
open PyProof.Rows hiding St

theorem take_of {j : Nat} {st : S} (hj : Jar j st) {top : Int} (h0 : 0 < top) (h1 : top.natAbs.log2 < 9000) : ∃ d st', d__law_take [.loc j, .int top] st = .ok (.int d) st' ∧ 0 ≤ d ∧ d < top ∧ Ev j st st' := by
  obtain ⟨a, b, ha, e⟩ := id hj
  have hlt := hj.lt
  have x0 : dIx (.loc j) (.int 0) st = .ok (.int a) st := l_ixl e rfl
  have x1 : dIx (.loc j) (.int 1) st = .ok (.int b) st := l_ixl e rfl
  by_cases hp : 0 < a
  · refine ⟨a % top, st.set j (.lst [.int (a / top), .int b]), ?_, Int.emod_nonneg _ (by omega), Int.emod_lt_of_pos _ h0, jar_set hj (Int.ediv_nonneg ha (by omega))⟩
    have q1 := @l_mod a top st h0
    have q2 := @l_fdiv a top st h0 h1
    have q3 : dSetIx (.loc j) (.int 0) (.int (a / top)) st = some (st.set j (.lst [.int (a / top), .int b])) := l_set (q := 0) e rfl
    refine x_body (x_seqr (x_ift (b := decide (0 < a)) (st' := st) ?_ (decide_eq_true hp) (x_seq (ρ' := [some (.loc j), some (.int top), some (.int (a % top))]) (st' := st) ?_ (x_seq (ρ' := [some (.loc j), some (.int top), some (.int (a % top))]) (st' := st.set j (.lst [.int (a / top), .int b])) ?_ ?_))))
    · (repeat' first | with_reducible assumption | ((with_reducible apply x_var); rfl) | with_reducible exact x_c | with_reducible exact x_nil | with_reducible exact x_skip | with_reducible apply x_setE | exact SetTo.mk rfl | with_reducible apply x_exprE | exact EnvEq.mk rfl | with_reducible apply x_ret | with_reducible apply x_cons | with_reducible apply x_2 | with_reducible apply x_1 | with_reducible apply x_call | with_reducible apply x_fn | with_reducible apply x_tof | with_reducible apply x_tnot | with_reducible apply x_sl | with_reducible apply x_os | with_reducible apply x_tup | with_reducible apply x_lst | with_reducible apply x_sub | with_reducible exact x_on | with_reducible exact l_add | with_reducible exact l_sub | with_reducible exact l_neg | with_reducible exact l_lt | with_reducible exact l_le | with_reducible exact l_gt | with_reducible exact l_ge | with_reducible exact l_lent | with_reducible exact l_inti | with_reducible exact l_intb | with_reducible exact l_tup | with_reducible exact l_slt | with_reducible exact dEq_int _ _ _ | with_reducible exact dNe_int _ _ _ | with_reducible exact dEq_str _ _ _ | with_reducible exact dNe_str _ _ _ | exact Nat.le_of_ble_eq_true rfl)
    · (repeat' first | with_reducible assumption | ((with_reducible apply x_var); rfl) | with_reducible exact x_c | with_reducible exact x_nil | with_reducible exact x_skip | with_reducible apply x_setE | exact SetTo.mk rfl | with_reducible apply x_exprE | exact EnvEq.mk rfl | with_reducible apply x_ret | with_reducible apply x_cons | with_reducible apply x_2 | with_reducible apply x_1 | with_reducible apply x_call | with_reducible apply x_fn | with_reducible apply x_tof | with_reducible apply x_tnot | with_reducible apply x_sl | with_reducible apply x_os | with_reducible apply x_tup | with_reducible apply x_lst | with_reducible apply x_sub | with_reducible exact x_on | with_reducible exact l_add | with_reducible exact l_sub | with_reducible exact l_neg | with_reducible exact l_lt | with_reducible exact l_le | with_reducible exact l_gt | with_reducible exact l_ge | with_reducible exact l_lent | with_reducible exact l_inti | with_reducible exact l_intb | with_reducible exact l_tup | with_reducible exact l_slt | with_reducible exact dEq_int _ _ _ | with_reducible exact dNe_int _ _ _ | with_reducible exact dEq_str _ _ _ | with_reducible exact dNe_str _ _ _ | exact Nat.le_of_ble_eq_true rfl)
    · (repeat' first | with_reducible assumption | ((with_reducible apply x_var); rfl) | with_reducible exact x_c | with_reducible exact x_nil | with_reducible exact x_skip | with_reducible apply x_setE | exact SetTo.mk rfl | with_reducible apply x_exprE | exact EnvEq.mk rfl | with_reducible apply x_ret | with_reducible apply x_cons | with_reducible apply x_2 | with_reducible apply x_1 | with_reducible apply x_call | with_reducible apply x_fn | with_reducible apply x_tof | with_reducible apply x_tnot | with_reducible apply x_sl | with_reducible apply x_os | with_reducible apply x_tup | with_reducible apply x_lst | with_reducible apply x_sub | with_reducible exact x_on | with_reducible exact l_add | with_reducible exact l_sub | with_reducible exact l_neg | with_reducible exact l_lt | with_reducible exact l_le | with_reducible exact l_gt | with_reducible exact l_ge | with_reducible exact l_lent | with_reducible exact l_inti | with_reducible exact l_intb | with_reducible exact l_tup | with_reducible exact l_slt | with_reducible exact dEq_int _ _ _ | with_reducible exact dNe_int _ _ _ | with_reducible exact dEq_str _ _ _ | with_reducible exact dNe_str _ _ _ | exact Nat.le_of_ble_eq_true rfl)
    · (repeat' first | with_reducible assumption | ((with_reducible apply x_var); rfl) | with_reducible exact x_c | with_reducible exact x_nil | with_reducible exact x_skip | with_reducible apply x_setE | exact SetTo.mk rfl | with_reducible apply x_exprE | exact EnvEq.mk rfl | with_reducible apply x_ret | with_reducible apply x_cons | with_reducible apply x_2 | with_reducible apply x_1 | with_reducible apply x_call | with_reducible apply x_fn | with_reducible apply x_tof | with_reducible apply x_tnot | with_reducible apply x_sl | with_reducible apply x_os | with_reducible apply x_tup | with_reducible apply x_lst | with_reducible apply x_sub | with_reducible exact x_on | with_reducible exact l_add | with_reducible exact l_sub | with_reducible exact l_neg | with_reducible exact l_lt | with_reducible exact l_le | with_reducible exact l_gt | with_reducible exact l_ge | with_reducible exact l_lent | with_reducible exact l_inti | with_reducible exact l_intb | with_reducible exact l_tup | with_reducible exact l_slt | with_reducible exact dEq_int _ _ _ | with_reducible exact dNe_int _ _ _ | with_reducible exact dEq_str _ _ _ | with_reducible exact dNe_str _ _ _ | exact Nat.le_of_ble_eq_true rfl)
  · let r : Int := (b * 39373 + 7) % 2147483647
    have r0 : 0 ≤ r := Int.emod_nonneg _ (by decide)
    have r1 : r < 2147483647 := Int.emod_lt_of_pos _ (by decide)
    have y1 : dIx (.loc j) (.int 1) (st.set j (.lst [.int a, .int r])) = .ok (.int r) (st.set j (.lst [.int a, .int r])) := l_ixl (by rw [List.getElem?_set_self hlt]) rfl
    refine ⟨(r * r % 2147483629 / 32) % top, st.set j (.lst [.int a, .int r]), ?_, Int.emod_nonneg _ (by omega), Int.emod_lt_of_pos _ h0, jar_set hj ha⟩
    have m1 := @l_mul b 39373 st (cMul_r (by decide) (by decide))
    have m2 := @l_mul r r (st.set j (.lst [.int a, .int r])) (cMul_r (by omega) (by omega))
    have q1 := @l_mod (b * 39373 + 7) 2147483647 st (by decide)
    have q2 := @l_mod (r * r) 2147483629 (st.set j (.lst [.int a, .int r])) (by decide)
    have q4 := @l_fdiv (r * r % 2147483629) 32 (st.set j (.lst [.int a, .int r])) (by decide) (by decide)
    have q5 := @l_mod (r * r % 2147483629 / 32) top (st.set j (.lst [.int a, .int r])) h0
    have q3 : dSetIx (.loc j) (.int 1) (.int r) st = some (st.set j (.lst [.int a, .int r])) := l_set (q := 1) e rfl
    refine x_body (x_seq (ρ' := [some (.loc j), some (.int top), none]) (st' := st) (x_iff (b := decide (0 < a)) (st' := st) ?_ (decide_eq_false hp) x_skip) (x_seq (ρ' := [some (.loc j), some (.int top), none]) (st' := st.set j (.lst [.int a, .int r])) ?_ ?_))
    · (repeat' first | with_reducible assumption | ((with_reducible apply x_var); rfl) | with_reducible exact x_c | with_reducible exact x_nil | with_reducible exact x_skip | with_reducible apply x_setE | exact SetTo.mk rfl | with_reducible apply x_exprE | exact EnvEq.mk rfl | with_reducible apply x_ret | with_reducible apply x_cons | with_reducible apply x_2 | with_reducible apply x_1 | with_reducible apply x_call | with_reducible apply x_fn | with_reducible apply x_tof | with_reducible apply x_tnot | with_reducible apply x_sl | with_reducible apply x_os | with_reducible apply x_tup | with_reducible apply x_lst | with_reducible apply x_sub | with_reducible exact x_on | with_reducible exact l_add | with_reducible exact l_sub | with_reducible exact l_neg | with_reducible exact l_lt | with_reducible exact l_le | with_reducible exact l_gt | with_reducible exact l_ge | with_reducible exact l_lent | with_reducible exact l_inti | with_reducible exact l_intb | with_reducible exact l_tup | with_reducible exact l_slt | with_reducible exact dEq_int _ _ _ | with_reducible exact dNe_int _ _ _ | with_reducible exact dEq_str _ _ _ | with_reducible exact dNe_str _ _ _ | exact Nat.le_of_ble_eq_true rfl)
    · (repeat' first | with_reducible assumption | ((with_reducible apply x_var); rfl) | with_reducible exact x_c | with_reducible exact x_nil | with_reducible exact x_skip | with_reducible apply x_setE | exact SetTo.mk rfl | with_reducible apply x_exprE | exact EnvEq.mk rfl | with_reducible apply x_ret | with_reducible apply x_cons | with_reducible apply x_2 | with_reducible apply x_1 | with_reducible apply x_call | with_reducible apply x_fn | with_reducible apply x_tof | with_reducible apply x_tnot | with_reducible apply x_sl | with_reducible apply x_os | with_reducible apply x_tup | with_reducible apply x_lst | with_reducible apply x_sub | with_reducible exact x_on | with_reducible exact l_add | with_reducible exact l_sub | with_reducible exact l_neg | with_reducible exact l_lt | with_reducible exact l_le | with_reducible exact l_gt | with_reducible exact l_ge | with_reducible exact l_lent | with_reducible exact l_inti | with_reducible exact l_intb | with_reducible exact l_tup | with_reducible exact l_slt | with_reducible exact dEq_int _ _ _ | with_reducible exact dNe_int _ _ _ | with_reducible exact dEq_str _ _ _ | with_reducible exact dNe_str _ _ _ | exact Nat.le_of_ble_eq_true rfl)
    · (repeat' first | with_reducible assumption | ((with_reducible apply x_var); rfl) | with_reducible exact x_c | with_reducible exact x_nil | with_reducible exact x_skip | with_reducible apply x_setE | exact SetTo.mk rfl | with_reducible apply x_exprE | exact EnvEq.mk rfl | with_reducible apply x_ret | with_reducible apply x_cons | with_reducible apply x_2 | with_reducible apply x_1 | with_reducible apply x_call | with_reducible apply x_fn | with_reducible apply x_tof | with_reducible apply x_tnot | with_reducible apply x_sl | with_reducible apply x_os | with_reducible apply x_tup | with_reducible apply x_lst | with_reducible apply x_sub | with_reducible exact x_on | with_reducible exact l_add | with_reducible exact l_sub | with_reducible exact l_neg | with_reducible exact l_lt | with_reducible exact l_le | with_reducible exact l_gt | with_reducible exact l_ge | with_reducible exact l_lent | with_reducible exact l_inti | with_reducible exact l_intb | with_reducible exact l_tup | with_reducible exact l_slt | with_reducible exact dEq_int _ _ _ | with_reducible exact dNe_int _ _ _ | with_reducible exact dEq_str _ _ _ | with_reducible exact dNe_str _ _ _ | exact Nat.le_of_ble_eq_true rfl)
theorem one_of {j : Nat} {st : S} (hj : Jar j st) {xs : List D} {k : Nat} (hk : k ≠ j) (e : st[k]? = some (.lst xs)) (h0 : 0 < xs.length) (h1 : xs.length < 1000) : ∃ d st', d__law_one [.loc j, .loc k] st = .ok d st' ∧ d ∈ xs ∧ Ev j st st' := by
  obtain ⟨d, st', e1, d0, d1, ev⟩ := take_of hj (top := (xs.length : Int)) (by omega) (by
    by_cases z : (xs.length : Int).natAbs = 0
    · rw [z]; decide
    · have := (Nat.log2_lt z (k := 10)).mpr (by omega)
      omega)
  have hd : d.toNat < xs.length := by omega
  have eq : ((d.toNat : Nat) : Int) = d := by omega
  have e2 := ev.at hk e
  have hx : atI xs d = some xs[d.toNat] := by
    have h := atI_nat xs d.toNat hd
    rw [eq] at h
    rw [h]
    simp [hd]
  refine ⟨xs[d.toNat], st', ?_, List.getElem_mem hd, ev⟩
  have q1 : dLen [.loc k] st = .ok (.int xs.length) st := l_lenl (items_of e)
  have q2 : dIx (.loc k) (.int d) st' = .ok xs[d.toNat] st' := l_ixl e2 hx
  refine x_body (x_ret ?_)
  (repeat' first | with_reducible assumption | ((with_reducible apply x_var); rfl) | with_reducible exact x_c | with_reducible exact x_nil | with_reducible exact x_skip | with_reducible apply x_setE | exact SetTo.mk rfl | with_reducible apply x_exprE | exact EnvEq.mk rfl | with_reducible apply x_ret | with_reducible apply x_cons | with_reducible apply x_2 | with_reducible apply x_1 | with_reducible apply x_call | with_reducible apply x_fn | with_reducible apply x_tof | with_reducible apply x_tnot | with_reducible apply x_sl | with_reducible apply x_os | with_reducible apply x_tup | with_reducible apply x_lst | with_reducible apply x_sub | with_reducible exact x_on | with_reducible exact l_add | with_reducible exact l_sub | with_reducible exact l_neg | with_reducible exact l_lt | with_reducible exact l_le | with_reducible exact l_gt | with_reducible exact l_ge | with_reducible exact l_lent | with_reducible exact l_inti | with_reducible exact l_intb | with_reducible exact l_tup | with_reducible exact l_slt | with_reducible exact dEq_int _ _ _ | with_reducible exact dNe_int _ _ _ | with_reducible exact dEq_str _ _ _ | with_reducible exact dNe_str _ _ _ | exact Nat.le_of_ble_eq_true rfl)

/-! ### the program's functions -/
theorem ss_of (a b : Int) (st : S) : d_signs_summed [.int a, .int b] st = .ok (rw' (ss a b)) st := by
  refine x_body ?_
  by_cases h1 : a = 0
  · refine x_seqr (x_ift (b := true) (st' := st) (x_tort (b := decide (a = 0)) ?_ (decide_eq_true h1)) rfl ?_)
    · (repeat' first | with_reducible assumption | ((with_reducible apply x_var); rfl) | with_reducible exact x_c | with_reducible exact x_nil | with_reducible exact x_skip | with_reducible apply x_setE | exact SetTo.mk rfl | with_reducible apply x_exprE | exact EnvEq.mk rfl | with_reducible apply x_ret | with_reducible apply x_cons | with_reducible apply x_2 | with_reducible apply x_1 | with_reducible apply x_call | with_reducible apply x_fn | with_reducible apply x_tof | with_reducible apply x_tnot | with_reducible apply x_sl | with_reducible apply x_os | with_reducible apply x_tup | with_reducible apply x_lst | with_reducible apply x_sub | with_reducible exact x_on | with_reducible exact l_add | with_reducible exact l_sub | with_reducible exact l_neg | with_reducible exact l_lt | with_reducible exact l_le | with_reducible exact l_gt | with_reducible exact l_ge | with_reducible exact l_lent | with_reducible exact l_inti | with_reducible exact l_intb | with_reducible exact l_tup | with_reducible exact l_slt | with_reducible exact dEq_int _ _ _ | with_reducible exact dNe_int _ _ _ | with_reducible exact dEq_str _ _ _ | with_reducible exact dNe_str _ _ _ | exact Nat.le_of_ble_eq_true rfl)
    · have e : rw' (ss a b) = .tup [.int b] := by unfold ss; rw [if_pos (Or.inl h1)]; rfl
      rw [e]
      (repeat' first | with_reducible assumption | ((with_reducible apply x_var); rfl) | with_reducible exact x_c | with_reducible exact x_nil | with_reducible exact x_skip | with_reducible apply x_setE | exact SetTo.mk rfl | with_reducible apply x_exprE | exact EnvEq.mk rfl | with_reducible apply x_ret | with_reducible apply x_cons | with_reducible apply x_2 | with_reducible apply x_1 | with_reducible apply x_call | with_reducible apply x_fn | with_reducible apply x_tof | with_reducible apply x_tnot | with_reducible apply x_sl | with_reducible apply x_os | with_reducible apply x_tup | with_reducible apply x_lst | with_reducible apply x_sub | with_reducible exact x_on | with_reducible exact l_add | with_reducible exact l_sub | with_reducible exact l_neg | with_reducible exact l_lt | with_reducible exact l_le | with_reducible exact l_gt | with_reducible exact l_ge | with_reducible exact l_lent | with_reducible exact l_inti | with_reducible exact l_intb | with_reducible exact l_tup | with_reducible exact l_slt | with_reducible exact dEq_int _ _ _ | with_reducible exact dNe_int _ _ _ | with_reducible exact dEq_str _ _ _ | with_reducible exact dNe_str _ _ _ | exact Nat.le_of_ble_eq_true rfl)
  · by_cases h2 : a = b
    · refine x_seqr (x_ift (b := decide (a = b)) (st' := st) (x_torf (b := decide (a = 0)) (s1 := st) ?_ (decide_eq_false h1) ?_) (decide_eq_true h2) ?_)
      · (repeat' first | with_reducible assumption | ((with_reducible apply x_var); rfl) | with_reducible exact x_c | with_reducible exact x_nil | with_reducible exact x_skip | with_reducible apply x_setE | exact SetTo.mk rfl | with_reducible apply x_exprE | exact EnvEq.mk rfl | with_reducible apply x_ret | with_reducible apply x_cons | with_reducible apply x_2 | with_reducible apply x_1 | with_reducible apply x_call | with_reducible apply x_fn | with_reducible apply x_tof | with_reducible apply x_tnot | with_reducible apply x_sl | with_reducible apply x_os | with_reducible apply x_tup | with_reducible apply x_lst | with_reducible apply x_sub | with_reducible exact x_on | with_reducible exact l_add | with_reducible exact l_sub | with_reducible exact l_neg | with_reducible exact l_lt | with_reducible exact l_le | with_reducible exact l_gt | with_reducible exact l_ge | with_reducible exact l_lent | with_reducible exact l_inti | with_reducible exact l_intb | with_reducible exact l_tup | with_reducible exact l_slt | with_reducible exact dEq_int _ _ _ | with_reducible exact dNe_int _ _ _ | with_reducible exact dEq_str _ _ _ | with_reducible exact dNe_str _ _ _ | exact Nat.le_of_ble_eq_true rfl)
      · (repeat' first | with_reducible assumption | ((with_reducible apply x_var); rfl) | with_reducible exact x_c | with_reducible exact x_nil | with_reducible exact x_skip | with_reducible apply x_setE | exact SetTo.mk rfl | with_reducible apply x_exprE | exact EnvEq.mk rfl | with_reducible apply x_ret | with_reducible apply x_cons | with_reducible apply x_2 | with_reducible apply x_1 | with_reducible apply x_call | with_reducible apply x_fn | with_reducible apply x_tof | with_reducible apply x_tnot | with_reducible apply x_sl | with_reducible apply x_os | with_reducible apply x_tup | with_reducible apply x_lst | with_reducible apply x_sub | with_reducible exact x_on | with_reducible exact l_add | with_reducible exact l_sub | with_reducible exact l_neg | with_reducible exact l_lt | with_reducible exact l_le | with_reducible exact l_gt | with_reducible exact l_ge | with_reducible exact l_lent | with_reducible exact l_inti | with_reducible exact l_intb | with_reducible exact l_tup | with_reducible exact l_slt | with_reducible exact dEq_int _ _ _ | with_reducible exact dNe_int _ _ _ | with_reducible exact dEq_str _ _ _ | with_reducible exact dNe_str _ _ _ | exact Nat.le_of_ble_eq_true rfl)
      · have e : rw' (ss a b) = .tup [.int b] := by unfold ss; rw [if_pos (Or.inr h2)]; rfl
        rw [e]
        (repeat' first | with_reducible assumption | ((with_reducible apply x_var); rfl) | with_reducible exact x_c | with_reducible exact x_nil | with_reducible exact x_skip | with_reducible apply x_setE | exact SetTo.mk rfl | with_reducible apply x_exprE | exact EnvEq.mk rfl | with_reducible apply x_ret | with_reducible apply x_cons | with_reducible apply x_2 | with_reducible apply x_1 | with_reducible apply x_call | with_reducible apply x_fn | with_reducible apply x_tof | with_reducible apply x_tnot | with_reducible apply x_sl | with_reducible apply x_os | with_reducible apply x_tup | with_reducible apply x_lst | with_reducible apply x_sub | with_reducible exact x_on | with_reducible exact l_add | with_reducible exact l_sub | with_reducible exact l_neg | with_reducible exact l_lt | with_reducible exact l_le | with_reducible exact l_gt | with_reducible exact l_ge | with_reducible exact l_lent | with_reducible exact l_inti | with_reducible exact l_intb | with_reducible exact l_tup | with_reducible exact l_slt | with_reducible exact dEq_int _ _ _ | with_reducible exact dNe_int _ _ _ | with_reducible exact dEq_str _ _ _ | with_reducible exact dNe_str _ _ _ | exact Nat.le_of_ble_eq_true rfl)
    · refine x_seq (ρ' := [some (.int a), some (.int b)]) (st' := st) (x_iff (b := decide (a = b)) (st' := st) (x_torf (b := decide (a = 0)) (s1 := st) ?_ (decide_eq_false h1) ?_) (decide_eq_false h2) x_skip) ?_
      · (repeat' first | with_reducible assumption | ((with_reducible apply x_var); rfl) | with_reducible exact x_c | with_reducible exact x_nil | with_reducible exact x_skip | with_reducible apply x_setE | exact SetTo.mk rfl | with_reducible apply x_exprE | exact EnvEq.mk rfl | with_reducible apply x_ret | with_reducible apply x_cons | with_reducible apply x_2 | with_reducible apply x_1 | with_reducible apply x_call | with_reducible apply x_fn | with_reducible apply x_tof | with_reducible apply x_tnot | with_reducible apply x_sl | with_reducible apply x_os | with_reducible apply x_tup | with_reducible apply x_lst | with_reducible apply x_sub | with_reducible exact x_on | with_reducible exact l_add | with_reducible exact l_sub | with_reducible exact l_neg | with_reducible exact l_lt | with_reducible exact l_le | with_reducible exact l_gt | with_reducible exact l_ge | with_reducible exact l_lent | with_reducible exact l_inti | with_reducible exact l_intb | with_reducible exact l_tup | with_reducible exact l_slt | with_reducible exact dEq_int _ _ _ | with_reducible exact dNe_int _ _ _ | with_reducible exact dEq_str _ _ _ | with_reducible exact dNe_str _ _ _ | exact Nat.le_of_ble_eq_true rfl)
      · (repeat' first | with_reducible assumption | ((with_reducible apply x_var); rfl) | with_reducible exact x_c | with_reducible exact x_nil | with_reducible exact x_skip | with_reducible apply x_setE | exact SetTo.mk rfl | with_reducible apply x_exprE | exact EnvEq.mk rfl | with_reducible apply x_ret | with_reducible apply x_cons | with_reducible apply x_2 | with_reducible apply x_1 | with_reducible apply x_call | with_reducible apply x_fn | with_reducible apply x_tof | with_reducible apply x_tnot | with_reducible apply x_sl | with_reducible apply x_os | with_reducible apply x_tup | with_reducible apply x_lst | with_reducible apply x_sub | with_reducible exact x_on | with_reducible exact l_add | with_reducible exact l_sub | with_reducible exact l_neg | with_reducible exact l_lt | with_reducible exact l_le | with_reducible exact l_gt | with_reducible exact l_ge | with_reducible exact l_lent | with_reducible exact l_inti | with_reducible exact l_intb | with_reducible exact l_tup | with_reducible exact l_slt | with_reducible exact dEq_int _ _ _ | with_reducible exact dNe_int _ _ _ | with_reducible exact dEq_str _ _ _ | with_reducible exact dNe_str _ _ _ | exact Nat.le_of_ble_eq_true rfl)
      · by_cases h3 : b = 0
        · refine x_seqr (x_ift (b := decide (b = 0)) (st' := st) ?_ (decide_eq_true h3) ?_)
          · (repeat' first | with_reducible assumption | ((with_reducible apply x_var); rfl) | with_reducible exact x_c | with_reducible exact x_nil | with_reducible exact x_skip | with_reducible apply x_setE | exact SetTo.mk rfl | with_reducible apply x_exprE | exact EnvEq.mk rfl | with_reducible apply x_ret | with_reducible apply x_cons | with_reducible apply x_2 | with_reducible apply x_1 | with_reducible apply x_call | with_reducible apply x_fn | with_reducible apply x_tof | with_reducible apply x_tnot | with_reducible apply x_sl | with_reducible apply x_os | with_reducible apply x_tup | with_reducible apply x_lst | with_reducible apply x_sub | with_reducible exact x_on | with_reducible exact l_add | with_reducible exact l_sub | with_reducible exact l_neg | with_reducible exact l_lt | with_reducible exact l_le | with_reducible exact l_gt | with_reducible exact l_ge | with_reducible exact l_lent | with_reducible exact l_inti | with_reducible exact l_intb | with_reducible exact l_tup | with_reducible exact l_slt | with_reducible exact dEq_int _ _ _ | with_reducible exact dNe_int _ _ _ | with_reducible exact dEq_str _ _ _ | with_reducible exact dNe_str _ _ _ | exact Nat.le_of_ble_eq_true rfl)
          · have e : rw' (ss a b) = .tup [.int a] := by unfold ss; rw [if_neg (by omega), if_pos h3]; rfl
            rw [e]
            (repeat' first | with_reducible assumption | ((with_reducible apply x_var); rfl) | with_reducible exact x_c | with_reducible exact x_nil | with_reducible exact x_skip | with_reducible apply x_setE | exact SetTo.mk rfl | with_reducible apply x_exprE | exact EnvEq.mk rfl | with_reducible apply x_ret | with_reducible apply x_cons | with_reducible apply x_2 | with_reducible apply x_1 | with_reducible apply x_call | with_reducible apply x_fn | with_reducible apply x_tof | with_reducible apply x_tnot | with_reducible apply x_sl | with_reducible apply x_os | with_reducible apply x_tup | with_reducible apply x_lst | with_reducible apply x_sub | with_reducible exact x_on | with_reducible exact l_add | with_reducible exact l_sub | with_reducible exact l_neg | with_reducible exact l_lt | with_reducible exact l_le | with_reducible exact l_gt | with_reducible exact l_ge | with_reducible exact l_lent | with_reducible exact l_inti | with_reducible exact l_intb | with_reducible exact l_tup | with_reducible exact l_slt | with_reducible exact dEq_int _ _ _ | with_reducible exact dNe_int _ _ _ | with_reducible exact dEq_str _ _ _ | with_reducible exact dNe_str _ _ _ | exact Nat.le_of_ble_eq_true rfl)
        · refine x_seq (ρ' := [some (.int a), some (.int b)]) (st' := st) (x_iff (b := decide (b = 0)) (st' := st) ?_ (decide_eq_false h3) x_skip) ?_
          · (repeat' first | with_reducible assumption | ((with_reducible apply x_var); rfl) | with_reducible exact x_c | with_reducible exact x_nil | with_reducible exact x_skip | with_reducible apply x_setE | exact SetTo.mk rfl | with_reducible apply x_exprE | exact EnvEq.mk rfl | with_reducible apply x_ret | with_reducible apply x_cons | with_reducible apply x_2 | with_reducible apply x_1 | with_reducible apply x_call | with_reducible apply x_fn | with_reducible apply x_tof | with_reducible apply x_tnot | with_reducible apply x_sl | with_reducible apply x_os | with_reducible apply x_tup | with_reducible apply x_lst | with_reducible apply x_sub | with_reducible exact x_on | with_reducible exact l_add | with_reducible exact l_sub | with_reducible exact l_neg | with_reducible exact l_lt | with_reducible exact l_le | with_reducible exact l_gt | with_reducible exact l_ge | with_reducible exact l_lent | with_reducible exact l_inti | with_reducible exact l_intb | with_reducible exact l_tup | with_reducible exact l_slt | with_reducible exact dEq_int _ _ _ | with_reducible exact dNe_int _ _ _ | with_reducible exact dEq_str _ _ _ | with_reducible exact dNe_str _ _ _ | exact Nat.le_of_ble_eq_true rfl)
          · have e : rw' (ss a b) = .tup [.int (-1), .int 0, .int 1] := by unfold ss; rw [if_neg (by omega), if_neg h3]; rfl
            rw [e]
            (repeat' first | with_reducible assumption | ((with_reducible apply x_var); rfl) | with_reducible exact x_c | with_reducible exact x_nil | with_reducible exact x_skip | with_reducible apply x_setE | exact SetTo.mk rfl | with_reducible apply x_exprE | exact EnvEq.mk rfl | with_reducible apply x_ret | with_reducible apply x_cons | with_reducible apply x_2 | with_reducible apply x_1 | with_reducible apply x_call | with_reducible apply x_fn | with_reducible apply x_tof | with_reducible apply x_tnot | with_reducible apply x_sl | with_reducible apply x_os | with_reducible apply x_tup | with_reducible apply x_lst | with_reducible apply x_sub | with_reducible exact x_on | with_reducible exact l_add | with_reducible exact l_sub | with_reducible exact l_neg | with_reducible exact l_lt | with_reducible exact l_le | with_reducible exact l_gt | with_reducible exact l_ge | with_reducible exact l_lent | with_reducible exact l_inti | with_reducible exact l_intb | with_reducible exact l_tup | with_reducible exact l_slt | with_reducible exact dEq_int _ _ _ | with_reducible exact dNe_int _ _ _ | with_reducible exact dEq_str _ _ _ | with_reducible exact dNe_str _ _ _ | exact Nat.le_of_ble_eq_true rfl)
theorem sg_of (x y : Int) (st : S) : d_sign_between [.int x, .int y] st = .ok (.int (sg x y)) st := by
  refine x_body ?_
  unfold sg
  by_cases h1 : y < x
  · rw [if_pos h1]
    refine x_seqr (x_ift (b := decide (y < x)) (st' := st) ?_ (decide_eq_true h1) ?_)
    · (repeat' first | with_reducible assumption | ((with_reducible apply x_var); rfl) | with_reducible exact x_c | with_reducible exact x_nil | with_reducible exact x_skip | with_reducible apply x_setE | exact SetTo.mk rfl | with_reducible apply x_exprE | exact EnvEq.mk rfl | with_reducible apply x_ret | with_reducible apply x_cons | with_reducible apply x_2 | with_reducible apply x_1 | with_reducible apply x_call | with_reducible apply x_fn | with_reducible apply x_tof | with_reducible apply x_tnot | with_reducible apply x_sl | with_reducible apply x_os | with_reducible apply x_tup | with_reducible apply x_lst | with_reducible apply x_sub | with_reducible exact x_on | with_reducible exact l_add | with_reducible exact l_sub | with_reducible exact l_neg | with_reducible exact l_lt | with_reducible exact l_le | with_reducible exact l_gt | with_reducible exact l_ge | with_reducible exact l_lent | with_reducible exact l_inti | with_reducible exact l_intb | with_reducible exact l_tup | with_reducible exact l_slt | with_reducible exact dEq_int _ _ _ | with_reducible exact dNe_int _ _ _ | with_reducible exact dEq_str _ _ _ | with_reducible exact dNe_str _ _ _ | exact Nat.le_of_ble_eq_true rfl)
    · (repeat' first | with_reducible assumption | ((with_reducible apply x_var); rfl) | with_reducible exact x_c | with_reducible exact x_nil | with_reducible exact x_skip | with_reducible apply x_setE | exact SetTo.mk rfl | with_reducible apply x_exprE | exact EnvEq.mk rfl | with_reducible apply x_ret | with_reducible apply x_cons | with_reducible apply x_2 | with_reducible apply x_1 | with_reducible apply x_call | with_reducible apply x_fn | with_reducible apply x_tof | with_reducible apply x_tnot | with_reducible apply x_sl | with_reducible apply x_os | with_reducible apply x_tup | with_reducible apply x_lst | with_reducible apply x_sub | with_reducible exact x_on | with_reducible exact l_add | with_reducible exact l_sub | with_reducible exact l_neg | with_reducible exact l_lt | with_reducible exact l_le | with_reducible exact l_gt | with_reducible exact l_ge | with_reducible exact l_lent | with_reducible exact l_inti | with_reducible exact l_intb | with_reducible exact l_tup | with_reducible exact l_slt | with_reducible exact dEq_int _ _ _ | with_reducible exact dNe_int _ _ _ | with_reducible exact dEq_str _ _ _ | with_reducible exact dNe_str _ _ _ | exact Nat.le_of_ble_eq_true rfl)
  · rw [if_neg h1]
    refine x_seq (ρ' := [some (.int x), some (.int y)]) (st' := st) (x_iff (b := decide (y < x)) (st' := st) ?_ (decide_eq_false h1) x_skip) ?_
    · (repeat' first | with_reducible assumption | ((with_reducible apply x_var); rfl) | with_reducible exact x_c | with_reducible exact x_nil | with_reducible exact x_skip | with_reducible apply x_setE | exact SetTo.mk rfl | with_reducible apply x_exprE | exact EnvEq.mk rfl | with_reducible apply x_ret | with_reducible apply x_cons | with_reducible apply x_2 | with_reducible apply x_1 | with_reducible apply x_call | with_reducible apply x_fn | with_reducible apply x_tof | with_reducible apply x_tnot | with_reducible apply x_sl | with_reducible apply x_os | with_reducible apply x_tup | with_reducible apply x_lst | with_reducible apply x_sub | with_reducible exact x_on | with_reducible exact l_add | with_reducible exact l_sub | with_reducible exact l_neg | with_reducible exact l_lt | with_reducible exact l_le | with_reducible exact l_gt | with_reducible exact l_ge | with_reducible exact l_lent | with_reducible exact l_inti | with_reducible exact l_intb | with_reducible exact l_tup | with_reducible exact l_slt | with_reducible exact dEq_int _ _ _ | with_reducible exact dNe_int _ _ _ | with_reducible exact dEq_str _ _ _ | with_reducible exact dNe_str _ _ _ | exact Nat.le_of_ble_eq_true rfl)
    · by_cases h2 : x < y
      · rw [if_pos h2]
        refine x_seqr (x_ift (b := decide (x < y)) (st' := st) ?_ (decide_eq_true h2) ?_)
        · (repeat' first | with_reducible assumption | ((with_reducible apply x_var); rfl) | with_reducible exact x_c | with_reducible exact x_nil | with_reducible exact x_skip | with_reducible apply x_setE | exact SetTo.mk rfl | with_reducible apply x_exprE | exact EnvEq.mk rfl | with_reducible apply x_ret | with_reducible apply x_cons | with_reducible apply x_2 | with_reducible apply x_1 | with_reducible apply x_call | with_reducible apply x_fn | with_reducible apply x_tof | with_reducible apply x_tnot | with_reducible apply x_sl | with_reducible apply x_os | with_reducible apply x_tup | with_reducible apply x_lst | with_reducible apply x_sub | with_reducible exact x_on | with_reducible exact l_add | with_reducible exact l_sub | with_reducible exact l_neg | with_reducible exact l_lt | with_reducible exact l_le | with_reducible exact l_gt | with_reducible exact l_ge | with_reducible exact l_lent | with_reducible exact l_inti | with_reducible exact l_intb | with_reducible exact l_tup | with_reducible exact l_slt | with_reducible exact dEq_int _ _ _ | with_reducible exact dNe_int _ _ _ | with_reducible exact dEq_str _ _ _ | with_reducible exact dNe_str _ _ _ | exact Nat.le_of_ble_eq_true rfl)
        · (repeat' first | with_reducible assumption | ((with_reducible apply x_var); rfl) | with_reducible exact x_c | with_reducible exact x_nil | with_reducible exact x_skip | with_reducible apply x_setE | exact SetTo.mk rfl | with_reducible apply x_exprE | exact EnvEq.mk rfl | with_reducible apply x_ret | with_reducible apply x_cons | with_reducible apply x_2 | with_reducible apply x_1 | with_reducible apply x_call | with_reducible apply x_fn | with_reducible apply x_tof | with_reducible apply x_tnot | with_reducible apply x_sl | with_reducible apply x_os | with_reducible apply x_tup | with_reducible apply x_lst | with_reducible apply x_sub | with_reducible exact x_on | with_reducible exact l_add | with_reducible exact l_sub | with_reducible exact l_neg | with_reducible exact l_lt | with_reducible exact l_le | with_reducible exact l_gt | with_reducible exact l_ge | with_reducible exact l_lent | with_reducible exact l_inti | with_reducible exact l_intb | with_reducible exact l_tup | with_reducible exact l_slt | with_reducible exact dEq_int _ _ _ | with_reducible exact dNe_int _ _ _ | with_reducible exact dEq_str _ _ _ | with_reducible exact dNe_str _ _ _ | exact Nat.le_of_ble_eq_true rfl)
      · rw [if_neg h2]
        refine x_seq (ρ' := [some (.int x), some (.int y)]) (st' := st) (x_iff (b := decide (x < y)) (st' := st) ?_ (decide_eq_false h2) x_skip) ?_
        · (repeat' first | with_reducible assumption | ((with_reducible apply x_var); rfl) | with_reducible exact x_c | with_reducible exact x_nil | with_reducible exact x_skip | with_reducible apply x_setE | exact SetTo.mk rfl | with_reducible apply x_exprE | exact EnvEq.mk rfl | with_reducible apply x_ret | with_reducible apply x_cons | with_reducible apply x_2 | with_reducible apply x_1 | with_reducible apply x_call | with_reducible apply x_fn | with_reducible apply x_tof | with_reducible apply x_tnot | with_reducible apply x_sl | with_reducible apply x_os | with_reducible apply x_tup | with_reducible apply x_lst | with_reducible apply x_sub | with_reducible exact x_on | with_reducible exact l_add | with_reducible exact l_sub | with_reducible exact l_neg | with_reducible exact l_lt | with_reducible exact l_le | with_reducible exact l_gt | with_reducible exact l_ge | with_reducible exact l_lent | with_reducible exact l_inti | with_reducible exact l_intb | with_reducible exact l_tup | with_reducible exact l_slt | with_reducible exact dEq_int _ _ _ | with_reducible exact dNe_int _ _ _ | with_reducible exact dEq_str _ _ _ | with_reducible exact dNe_str _ _ _ | exact Nat.le_of_ble_eq_true rfl)
        · (repeat' first | with_reducible assumption | ((with_reducible apply x_var); rfl) | with_reducible exact x_c | with_reducible exact x_nil | with_reducible exact x_skip | with_reducible apply x_setE | exact SetTo.mk rfl | with_reducible apply x_exprE | exact EnvEq.mk rfl | with_reducible apply x_ret | with_reducible apply x_cons | with_reducible apply x_2 | with_reducible apply x_1 | with_reducible apply x_call | with_reducible apply x_fn | with_reducible apply x_tof | with_reducible apply x_tnot | with_reducible apply x_sl | with_reducible apply x_os | with_reducible apply x_tup | with_reducible apply x_lst | with_reducible apply x_sub | with_reducible exact x_on | with_reducible exact l_add | with_reducible exact l_sub | with_reducible exact l_neg | with_reducible exact l_lt | with_reducible exact l_le | with_reducible exact l_gt | with_reducible exact l_ge | with_reducible exact l_lent | with_reducible exact l_inti | with_reducible exact l_intb | with_reducible exact l_tup | with_reducible exact l_slt | with_reducible exact dEq_int _ _ _ | with_reducible exact dNe_int _ _ _ | with_reducible exact dEq_str _ _ _ | with_reducible exact dNe_str _ _ _ | exact Nat.le_of_ble_eq_true rfl)
theorem many_of {n : Int} (h1 : 1 ≤ n) (h2 : n ≤ 6) (st : S) : d_ask_many [.int n] st = .ok .non st := by
  have q1 : dIsi [.int n, .opq (.ty "int")] st = .ok (.bl true) st := rfl
  have q2 : dIsi [.int n, .opq (.ty "bool")] st = .ok (.bl false) st := rfl
  have a1 : d_is_number [.int n] st = .ok (.bl true) st := by
    refine x_body (x_ret (x_andt (b := true) (s1 := st) ?_ rfl (x_not (b := false) ?_)))
    · (repeat' first | with_reducible assumption | ((with_reducible apply x_var); rfl) | with_reducible exact x_c | with_reducible exact x_nil | with_reducible exact x_skip | with_reducible apply x_setE | exact SetTo.mk rfl | with_reducible apply x_exprE | exact EnvEq.mk rfl | with_reducible apply x_ret | with_reducible apply x_cons | with_reducible apply x_2 | with_reducible apply x_1 | with_reducible apply x_call | with_reducible apply x_fn | with_reducible apply x_tof | with_reducible apply x_tnot | with_reducible apply x_sl | with_reducible apply x_os | with_reducible apply x_tup | with_reducible apply x_lst | with_reducible apply x_sub | with_reducible exact x_on | with_reducible exact l_add | with_reducible exact l_sub | with_reducible exact l_neg | with_reducible exact l_lt | with_reducible exact l_le | with_reducible exact l_gt | with_reducible exact l_ge | with_reducible exact l_lent | with_reducible exact l_inti | with_reducible exact l_intb | with_reducible exact l_tup | with_reducible exact l_slt | with_reducible exact dEq_int _ _ _ | with_reducible exact dNe_int _ _ _ | with_reducible exact dEq_str _ _ _ | with_reducible exact dNe_str _ _ _ | exact Nat.le_of_ble_eq_true rfl)
    · (repeat' first | with_reducible assumption | ((with_reducible apply x_var); rfl) | with_reducible exact x_c | with_reducible exact x_nil | with_reducible exact x_skip | with_reducible apply x_setE | exact SetTo.mk rfl | with_reducible apply x_exprE | exact EnvEq.mk rfl | with_reducible apply x_ret | with_reducible apply x_cons | with_reducible apply x_2 | with_reducible apply x_1 | with_reducible apply x_call | with_reducible apply x_fn | with_reducible apply x_tof | with_reducible apply x_tnot | with_reducible apply x_sl | with_reducible apply x_os | with_reducible apply x_tup | with_reducible apply x_lst | with_reducible apply x_sub | with_reducible exact x_on | with_reducible exact l_add | with_reducible exact l_sub | with_reducible exact l_neg | with_reducible exact l_lt | with_reducible exact l_le | with_reducible exact l_gt | with_reducible exact l_ge | with_reducible exact l_lent | with_reducible exact l_inti | with_reducible exact l_intb | with_reducible exact l_tup | with_reducible exact l_slt | with_reducible exact dEq_int _ _ _ | with_reducible exact dNe_int _ _ _ | with_reducible exact dEq_str _ _ _ | with_reducible exact dNe_str _ _ _ | exact Nat.le_of_ble_eq_true rfl)
  have a2 : d_is_many [.int n] st = .ok (.bl true) st := by
    refine x_body (x_ret (x_andt (b := true) (s1 := st) ?_ rfl ?_))
    · (repeat' first | with_reducible assumption | ((with_reducible apply x_var); rfl) | with_reducible exact x_c | with_reducible exact x_nil | with_reducible exact x_skip | with_reducible apply x_setE | exact SetTo.mk rfl | with_reducible apply x_exprE | exact EnvEq.mk rfl | with_reducible apply x_ret | with_reducible apply x_cons | with_reducible apply x_2 | with_reducible apply x_1 | with_reducible apply x_call | with_reducible apply x_fn | with_reducible apply x_tof | with_reducible apply x_tnot | with_reducible apply x_sl | with_reducible apply x_os | with_reducible apply x_tup | with_reducible apply x_lst | with_reducible apply x_sub | with_reducible exact x_on | with_reducible exact l_add | with_reducible exact l_sub | with_reducible exact l_neg | with_reducible exact l_lt | with_reducible exact l_le | with_reducible exact l_gt | with_reducible exact l_ge | with_reducible exact l_lent | with_reducible exact l_inti | with_reducible exact l_intb | with_reducible exact l_tup | with_reducible exact l_slt | with_reducible exact dEq_int _ _ _ | with_reducible exact dNe_int _ _ _ | with_reducible exact dEq_str _ _ _ | with_reducible exact dNe_str _ _ _ | exact Nat.le_of_ble_eq_true rfl)
    · simp [eChain, eC, eVar, dLe, i2, asB, h1, h2]
  refine x_bodyn (x_iff (b := !true) (st' := st) ?_ rfl x_skip)
  (repeat' first | with_reducible assumption | ((with_reducible apply x_var); rfl) | with_reducible exact x_c | with_reducible exact x_nil | with_reducible exact x_skip | with_reducible apply x_setE | exact SetTo.mk rfl | with_reducible apply x_exprE | exact EnvEq.mk rfl | with_reducible apply x_ret | with_reducible apply x_cons | with_reducible apply x_2 | with_reducible apply x_1 | with_reducible apply x_call | with_reducible apply x_fn | with_reducible apply x_tof | with_reducible apply x_tnot | with_reducible apply x_sl | with_reducible apply x_os | with_reducible apply x_tup | with_reducible apply x_lst | with_reducible apply x_sub | with_reducible exact x_on | with_reducible exact l_add | with_reducible exact l_sub | with_reducible exact l_neg | with_reducible exact l_lt | with_reducible exact l_le | with_reducible exact l_gt | with_reducible exact l_ge | with_reducible exact l_lent | with_reducible exact l_inti | with_reducible exact l_intb | with_reducible exact l_tup | with_reducible exact l_slt | with_reducible exact dEq_int _ _ _ | with_reducible exact dNe_int _ _ _ | with_reducible exact dEq_str _ _ _ | with_reducible exact dNe_str _ _ _ | exact Nat.le_of_ble_eq_true rfl)
theorem rep_zero {n : Int} (h1 : 1 ≤ n) (h2 : n ≤ 6) (st : S) : dMul (.tup [.int 0]) (.int n) st = .ok (rw' (zero n.toNat)) st := by
  have : n = 1 ∨ n = 2 ∨ n = 3 ∨ n = 4 ∨ n = 5 ∨ n = 6 := by omega
  rcases this with rfl | rfl | rfl | rfl | rfl | rfl <;> rfl
theorem level_of {n : Int} (h1 : 1 ≤ n) (h2 : n ≤ 6) (st : S) : d_level [.int n] st = .ok (rw' (zero n.toNat)) st := by
  have a1 := many_of h1 h2 st
  have a2 := rep_zero h1 h2 st
  refine x_body (x_seq (ρ' := [some (.int n)]) (st' := st) ?_ ?_)
  · (repeat' first | with_reducible assumption | ((with_reducible apply x_var); rfl) | with_reducible exact x_c | with_reducible exact x_nil | with_reducible exact x_skip | with_reducible apply x_setE | exact SetTo.mk rfl | with_reducible apply x_exprE | exact EnvEq.mk rfl | with_reducible apply x_ret | with_reducible apply x_cons | with_reducible apply x_2 | with_reducible apply x_1 | with_reducible apply x_call | with_reducible apply x_fn | with_reducible apply x_tof | with_reducible apply x_tnot | with_reducible apply x_sl | with_reducible apply x_os | with_reducible apply x_tup | with_reducible apply x_lst | with_reducible apply x_sub | with_reducible exact x_on | with_reducible exact l_add | with_reducible exact l_sub | with_reducible exact l_neg | with_reducible exact l_lt | with_reducible exact l_le | with_reducible exact l_gt | with_reducible exact l_ge | with_reducible exact l_lent | with_reducible exact l_inti | with_reducible exact l_intb | with_reducible exact l_tup | with_reducible exact l_slt | with_reducible exact dEq_int _ _ _ | with_reducible exact dNe_int _ _ _ | with_reducible exact dEq_str _ _ _ | with_reducible exact dNe_str _ _ _ | exact Nat.le_of_ble_eq_true rfl)
  · (repeat' first | with_reducible assumption | ((with_reducible apply x_var); rfl) | with_reducible exact x_c | with_reducible exact x_nil | with_reducible exact x_skip | with_reducible apply x_setE | exact SetTo.mk rfl | with_reducible apply x_exprE | exact EnvEq.mk rfl | with_reducible apply x_ret | with_reducible apply x_cons | with_reducible apply x_2 | with_reducible apply x_1 | with_reducible apply x_call | with_reducible apply x_fn | with_reducible apply x_tof | with_reducible apply x_tnot | with_reducible apply x_sl | with_reducible apply x_os | with_reducible apply x_tup | with_reducible apply x_lst | with_reducible apply x_sub | with_reducible exact x_on | with_reducible exact l_add | with_reducible exact l_sub | with_reducible exact l_neg | with_reducible exact l_lt | with_reducible exact l_le | with_reducible exact l_gt | with_reducible exact l_ge | with_reducible exact l_lent | with_reducible exact l_inti | with_reducible exact l_intb | with_reducible exact l_tup | with_reducible exact l_slt | with_reducible exact dEq_int _ _ _ | with_reducible exact dNe_int _ _ _ | with_reducible exact dEq_str _ _ _ | with_reducible exact dNe_str _ _ _ | exact Nat.le_of_ble_eq_true rfl)
theorem llevel_of {n : Int} (h1 : 1 ≤ n) (h2 : n ≤ 6) (st : S) : d__law_level [.int n] st = .ok (rw' (zero n.toNat)) st := by
  have a2 := rep_zero h1 h2 st
  refine x_body (x_ret ?_)
  (repeat' first | with_reducible assumption | ((with_reducible apply x_var); rfl) | with_reducible exact x_c | with_reducible exact x_nil | with_reducible exact x_skip | with_reducible apply x_setE | exact SetTo.mk rfl | with_reducible apply x_exprE | exact EnvEq.mk rfl | with_reducible apply x_ret | with_reducible apply x_cons | with_reducible apply x_2 | with_reducible apply x_1 | with_reducible apply x_call | with_reducible apply x_fn | with_reducible apply x_tof | with_reducible apply x_tnot | with_reducible apply x_sl | with_reducible apply x_os | with_reducible apply x_tup | with_reducible apply x_lst | with_reducible apply x_sub | with_reducible exact x_on | with_reducible exact l_add | with_reducible exact l_sub | with_reducible exact l_neg | with_reducible exact l_lt | with_reducible exact l_le | with_reducible exact l_gt | with_reducible exact l_ge | with_reducible exact l_lent | with_reducible exact l_inti | with_reducible exact l_intb | with_reducible exact l_tup | with_reducible exact l_slt | with_reducible exact dEq_int _ _ _ | with_reducible exact dNe_int _ _ _ | with_reducible exact dEq_str _ _ _ | with_reducible exact dNe_str _ _ _ | exact Nat.le_of_ble_eq_true rfl)
def nD : D → D
  | .int i => .int (-i)
  | d => d
theorem map_nD (r : List Int) : (r.map D.int).map nD = (neg r).map D.int := by
  unfold neg
  rw [List.map_map, List.map_map]
  rfl
theorem turned_of {r : List Int} (hl : r.length ≤ 1000) (st : S) : ∃ st', d_turned [rw' r] st = .ok (rw' (neg r)) st' ∧ Gr st st' := by
  have hi : iSeq (eVar 0) [some (rw' r), none] st = .ok (r.map D.int, none) st := x_iseq (x_var rfl)
  obtain ⟨st', e, g⟩ := tupComp_gr (p := .nm 1) (vs := [1]) (elt := e1 dNeg (eVar 1)) nD hi (Gr.refl st) trivial (by rw [List.length_map]; exact Nat.le_trans hl (by decide)) (fun x hx s _ => by
    obtain ⟨i, _, rfl⟩ := List.mem_map.mp hx
    refine ⟨[some (rw' r), some (.int i)], s, rfl, ?_, Gr.refl s⟩
    show _ = Res.ok (D.int (-i)) s
    (repeat' first | with_reducible assumption | ((with_reducible apply x_var); rfl) | with_reducible exact x_c | with_reducible exact x_nil | with_reducible exact x_skip | with_reducible apply x_setE | exact SetTo.mk rfl | with_reducible apply x_exprE | exact EnvEq.mk rfl | with_reducible apply x_ret | with_reducible apply x_cons | with_reducible apply x_2 | with_reducible apply x_1 | with_reducible apply x_call | with_reducible apply x_fn | with_reducible apply x_tof | with_reducible apply x_tnot | with_reducible apply x_sl | with_reducible apply x_os | with_reducible apply x_tup | with_reducible apply x_lst | with_reducible apply x_sub | with_reducible exact x_on | with_reducible exact l_add | with_reducible exact l_sub | with_reducible exact l_neg | with_reducible exact l_lt | with_reducible exact l_le | with_reducible exact l_gt | with_reducible exact l_ge | with_reducible exact l_lent | with_reducible exact l_inti | with_reducible exact l_intb | with_reducible exact l_tup | with_reducible exact l_slt | with_reducible exact dEq_int _ _ _ | with_reducible exact dNe_int _ _ _ | with_reducible exact dEq_str _ _ _ | with_reducible exact dNe_str _ _ _ | exact Nat.le_of_ble_eq_true rfl))
  rw [map_nD] at e
  exact ⟨st', x_body (x_ret e), g⟩
theorem lturned_of {r : List Int} (hl : r.length ≤ 1000) (st : S) : ∃ st', d__law_turned [rw' r] st = .ok (rw' (neg r)) st' ∧ Gr st st' := by
  have hi : iSeq (eVar 0) [some (rw' r), none] st = .ok (r.map D.int, none) st := x_iseq (x_var rfl)
  obtain ⟨st', e, g⟩ := tupComp_gr (p := .nm 1) (vs := [1]) (elt := e1 dNeg (eVar 1)) nD hi (Gr.refl st) trivial (by rw [List.length_map]; exact Nat.le_trans hl (by decide)) (fun x hx s _ => by
    obtain ⟨i, _, rfl⟩ := List.mem_map.mp hx
    refine ⟨[some (rw' r), some (.int i)], s, rfl, ?_, Gr.refl s⟩
    show _ = Res.ok (D.int (-i)) s
    (repeat' first | with_reducible assumption | ((with_reducible apply x_var); rfl) | with_reducible exact x_c | with_reducible exact x_nil | with_reducible exact x_skip | with_reducible apply x_setE | exact SetTo.mk rfl | with_reducible apply x_exprE | exact EnvEq.mk rfl | with_reducible apply x_ret | with_reducible apply x_cons | with_reducible apply x_2 | with_reducible apply x_1 | with_reducible apply x_call | with_reducible apply x_fn | with_reducible apply x_tof | with_reducible apply x_tnot | with_reducible apply x_sl | with_reducible apply x_os | with_reducible apply x_tup | with_reducible apply x_lst | with_reducible apply x_sub | with_reducible exact x_on | with_reducible exact l_add | with_reducible exact l_sub | with_reducible exact l_neg | with_reducible exact l_lt | with_reducible exact l_le | with_reducible exact l_gt | with_reducible exact l_ge | with_reducible exact l_lent | with_reducible exact l_inti | with_reducible exact l_intb | with_reducible exact l_tup | with_reducible exact l_slt | with_reducible exact dEq_int _ _ _ | with_reducible exact dNe_int _ _ _ | with_reducible exact dEq_str _ _ _ | with_reducible exact dNe_str _ _ _ | exact Nat.le_of_ble_eq_true rfl))
  rw [map_nD] at e
  exact ⟨st', x_body (x_ret e), g⟩
/-- what a function of two numbers makes of two rows, number by number -/
def pD (f : Int → Int → D) : D → D
  | .tup [.int a, .int b] => f a b
  | d => d
theorem map_pD (f : Int → Int → D) : ∀ a b : List Int, (List.zipWith (fun x y => D.tup [x, y]) (a.map D.int) (b.map D.int)).map (pD f) = List.zipWith f a b
  | [], _ => by simp
  | _ :: _, [] => by simp
  | x :: a, y :: b => by
    have := map_pD f a b
    simp only [List.map_cons, List.zipWith_cons_cons, this]
    rfl
theorem mem_zip : ∀ {a b : List Int} {x : D}, x ∈ List.zipWith (fun x y => D.tup [x, y]) (a.map D.int) (b.map D.int) → ∃ i j, x = .tup [.int i, .int j]
  | [], _, _, h => by simp at h
  | _ :: _, [], _, h => by simp at h
  | i :: a, j :: b, x, h => by
    simp only [List.map_cons, List.zipWith_cons_cons, List.mem_cons] at h
    rcases h with h | h
    · exact ⟨i, j, h⟩
    · exact mem_zip h
theorem zipWith_int (f : Int → Int → Int) : ∀ a b : List Int, List.zipWith (fun x y => D.int (f x y)) a b = (List.zipWith f a b).map D.int
  | [], _ => by simp
  | _ :: _, [] => by simp
  | x :: a, y :: b => by
    have := zipWith_int f a b
    simp only [List.zipWith_cons_cons, List.map_cons, this]
theorem row_of {a b : List Int} (hl : a.length ≤ 1000) (st : S) : ∃ st', d_row_of [rw' a, rw' b] st = .ok (rw' (List.zipWith sg a b)) st' ∧ Gr st st' := by
  have hi : iZipT (aCons (eVar 0) (aCons (eVar 1) aNil)) [some (rw' a), some (rw' b), none, none] st = .ok (List.zipWith (fun x y => .tup [x, y]) (a.map D.int) (b.map D.int), none) st := x_izip (x_cons (x_var rfl) (x_cons (x_var rfl) x_nil))
  obtain ⟨st', e, g⟩ := tupComp_gr (p := .tp [.nm 2, .nm 3]) (vs := [2, 3]) (elt := eFn d_sign_between (aCons (eVar 2) (aCons (eVar 3) aNil))) (pD fun x y => D.int (sg x y)) hi (Gr.refl st) trivial (by
      rw [List.length_zipWith, List.length_map, List.length_map]
      exact Nat.le_trans (Nat.min_le_left _ _) (Nat.le_trans hl (by decide))) (fun x hx s _ => by
    obtain ⟨i, j, rfl⟩ := mem_zip hx
    have q := sg_of i j s
    refine ⟨[some (rw' a), some (rw' b), some (.int i), some (.int j)], s, rfl, ?_, Gr.refl s⟩
    show _ = Res.ok (D.int (sg i j)) s
    (repeat' first | with_reducible assumption | ((with_reducible apply x_var); rfl) | with_reducible exact x_c | with_reducible exact x_nil | with_reducible exact x_skip | with_reducible apply x_setE | exact SetTo.mk rfl | with_reducible apply x_exprE | exact EnvEq.mk rfl | with_reducible apply x_ret | with_reducible apply x_cons | with_reducible apply x_2 | with_reducible apply x_1 | with_reducible apply x_call | with_reducible apply x_fn | with_reducible apply x_tof | with_reducible apply x_tnot | with_reducible apply x_sl | with_reducible apply x_os | with_reducible apply x_tup | with_reducible apply x_lst | with_reducible apply x_sub | with_reducible exact x_on | with_reducible exact l_add | with_reducible exact l_sub | with_reducible exact l_neg | with_reducible exact l_lt | with_reducible exact l_le | with_reducible exact l_gt | with_reducible exact l_ge | with_reducible exact l_lent | with_reducible exact l_inti | with_reducible exact l_intb | with_reducible exact l_tup | with_reducible exact l_slt | with_reducible exact dEq_int _ _ _ | with_reducible exact dNe_int _ _ _ | with_reducible exact dEq_str _ _ _ | with_reducible exact dNe_str _ _ _ | exact Nat.le_of_ble_eq_true rfl))
  rw [map_pD, zipWith_int] at e
  exact ⟨st', x_body (x_ret e), g⟩
theorem zipWith_rw (f : Int → Int → List Int) : ∀ a b : List Int, List.zipWith (fun x y => rw' (f x y)) a b = (List.zipWith f a b).map rw'
  | [], _ => by simp
  | _ :: _, [] => by simp
  | x :: a, y :: b => by
    have := zipWith_rw f a b
    simp only [List.zipWith_cons_cons, List.map_cons, this]
end Rol.G

namespace Rol.G
open PySem L2 PySem.Spec Rol
open PyProof.Rows hiding St

def addD : D → D → D
  | .tup xs, y => .tup (xs ++ [y])
  | d, _ => d
def inT : D → List D
  | .tup xs => xs
  | _ => []
theorem flat_rw (rs : List (List Int)) (c : List Int) : ((rs.map rw').flatMap fun x => (c.map D.int).map (addD x)) = (rs.flatMap fun r => c.map fun z => r ++ [z]).map rw' := by
  rw [List.flatMap_map, List.map_flatMap]
  congr 1
  funext r
  rw [List.map_map, List.map_map]
  congr 1
  funext z
  simp [addD]
theorem sz_pow {n : Nat} (h : n ≤ 6) : (3 : Nat) ^ n ≤ 729 := by
  have : n = 0 ∨ n = 1 ∨ n = 2 ∨ n = 3 ∨ n = 4 ∨ n = 5 ∨ n = 6 := by omega
  rcases this with rfl | rfl | rfl | rfl | rfl | rfl | rfl <;> decide
theorem prod_sz {cs : List (List Int)} (h3 : ∀ c ∈ cs, c.length ≤ 3) (hn : cs.length ≤ 6) (k : Nat) : (prod (cs.take k)).length ≤ 729 :=
  Nat.le_trans (prod_len _ fun c hc => h3 c (List.mem_of_mem_take hc)) (sz_pow (Nat.le_trans (by rw [List.length_take]; exact Nat.min_le_right _ _) hn))
theorem prod_wide : ∀ (cs : List (List Int)) (r : List Int), r ∈ prod cs → r.length = cs.length := fun cs r h => ((mem_prod cs r).mp h).length.symm
theorem all_of {cs : List (List Int)} {k : Nat} {st : S} (e : st[k]? = some (.lst (cs.map rw'))) (h3 : ∀ c ∈ cs, c.length ≤ 3) (hn : cs.length ≤ 6) : ∃ st', d_all_of [.loc k] st = .ok (rows' (prod cs)) st' ∧ Gr st st' := by
  have hi : iSeq (eVar 0) [some (.loc k), some (.loc st.length), none, none, none] (st ++ [.lst [rw' []]]) = .ok (cs.map rw', some k) (st ++ [.lst [rw' []]]) := x_iseql (x_var rfl) ((Gr.app st _).items (items_of e))
  obtain ⟨ρ', st', e1, ⟨q, v, rfl, g, ee⟩⟩ := sFor_of (p := .nm 2) (bd := sSet 1 (eComp2 (iSeq (eVar 1)) (.nm 3) [3, 4] tYesD (iSeq (eVar 2)) (.nm 4) [4] tYesD (e2 dAdd (eVar 3) (eTup (aCons (eVar 4) aNil)))))
    (fun done ρ s => ∃ q v, ρ = [some (.loc k), some (.loc q), v, none, none] ∧ Gr st s ∧ s[q]? = some (.lst ((prod (cs.take done.length)).map rw')))
    hi (fun done ρ s ⟨q, v, _, g, _⟩ => g.items (items_of e)) ⟨_, none, rfl, Gr.app _ _, by simp [prod]⟩ (fun done x rest ρ s ha ⟨q, v, hρ, g, ee⟩ => by
      subst hρ
      obtain ⟨c, rfl, hc, hcd, ht⟩ := split_at ha
      refine ⟨[some (.loc k), some (.loc q), some (rw' c), none, none], rfl, ?_⟩
      have hsz := prod_sz h3 hn (done.length + 1)
      rw [ht, prod_snoc] at hsz
      obtain ⟨s', c1, g1, c2⟩ := eComp2_gr (mi := iSeq (eVar 1)) (p := .nm 3) (p1 := .nm 4) (vs := [3, 4]) (vs1 := [4]) (mi1 := iSeq (eVar 2)) (elt := e2 dAdd (eVar 3) (eTup (aCons (eVar 4) aNil))) (ρ := [some (.loc k), some (.loc q), some (rw' c), none, none]) (st := s) (fun _ => c.map D.int) addD (x_iseql (x_var rfl) (items_of ee)) (items_of ee) (by
          rw [flat_rw, List.length_map]
          exact Nat.le_trans hsz (by decide)) (fun x hx => by
          obtain ⟨r, hr, rfl⟩ := List.mem_map.mp hx
          refine ⟨[some (.loc k), some (.loc q), some (rw' c), some (rw' r), none], rfl, fun s1 hs1 => ⟨none, x_iseq (x_var rfl), fun _ _ => trivial, fun y hy s2 hs2 => ?_⟩⟩
          obtain ⟨z, _, rfl⟩ := List.mem_map.mp hy
          refine ⟨[some (.loc k), some (.loc q), some (rw' c), some (rw' r), some (.int z)], s2, rfl, ?_, Gr.refl _⟩
          have hrl : r.length ≤ 6 := by
            rw [prod_wide _ _ hr, List.length_take]
            omega
          have q1 : dAdd (rw' r) (.tup [.int z]) s2 = .ok (addD (rw' r) (.int z)) s2 := l_addt (by
            rw [List.length_map]
            exact Nat.le_trans (Nat.add_le_add_right hrl 1) (by decide))
          (repeat' first | with_reducible assumption | ((with_reducible apply x_var); rfl) | with_reducible exact x_c | with_reducible exact x_nil | with_reducible exact x_skip | with_reducible apply x_setE | exact SetTo.mk rfl | with_reducible apply x_exprE | exact EnvEq.mk rfl | with_reducible apply x_ret | with_reducible apply x_cons | with_reducible apply x_2 | with_reducible apply x_1 | with_reducible apply x_call | with_reducible apply x_fn | with_reducible apply x_tof | with_reducible apply x_tnot | with_reducible apply x_sl | with_reducible apply x_os | with_reducible apply x_tup | with_reducible apply x_lst | with_reducible apply x_sub | with_reducible exact x_on | with_reducible exact l_add | with_reducible exact l_sub | with_reducible exact l_neg | with_reducible exact l_lt | with_reducible exact l_le | with_reducible exact l_gt | with_reducible exact l_ge | with_reducible exact l_lent | with_reducible exact l_inti | with_reducible exact l_intb | with_reducible exact l_tup | with_reducible exact l_slt | with_reducible exact dEq_int _ _ _ | with_reducible exact dNe_int _ _ _ | with_reducible exact dEq_str _ _ _ | with_reducible exact dNe_str _ _ _ | exact Nat.le_of_ble_eq_true rfl))
      rw [flat_rw, ← prod_snoc, ← ht] at c2
      exact ⟨_, s', x_set c1, s.length, _, rfl, g.trans g1, by rw [List.length_append]; exact c2⟩)
  rw [List.length_map, List.take_length] at ee
  refine ⟨st', ?_, g⟩
  refine x_body (x_seq (ρ' := [some (.loc k), some (.loc st.length), none, none, none]) (st' := st ++ [.lst [rw' []]]) ?_ (x_seq e1 (x_ret (x_call (x_cons (x_var rfl) x_nil) (l_tupl (items_of ee))))))
  refine x_set (x_lst (x_cons (x_tup x_nil (by decide)) x_nil) (by decide))
theorem sums_of {a b : List Int} (hl : a.length ≤ 6) (st : S) : ∃ st', d_sums [rw' a, rw' b] st = .ok (rows' (prod (List.zipWith ss a b))) st' ∧ Gr st st' := by
  have hi : iZipT (aCons (eVar 0) (aCons (eVar 1) aNil)) [some (rw' a), some (rw' b), none, none] st = .ok (List.zipWith (fun x y => .tup [x, y]) (a.map D.int) (b.map D.int), none) st := x_izip (x_cons (x_var rfl) (x_cons (x_var rfl) x_nil))
  have hz : (List.zipWith ss a b).length ≤ 6 := by rw [List.length_zipWith]; omega
  obtain ⟨s1, e1, g1, c1⟩ := eComp_gr (p := .tp [.nm 2, .nm 3]) (vs := [2, 3]) (elt := eFn d_signs_summed (aCons (eVar 2) (aCons (eVar 3) aNil))) (pD fun x y => rw' (ss x y)) hi trivial (by
      rw [List.length_zipWith, List.length_map, List.length_map]
      exact Nat.le_trans (Nat.min_le_left _ _) (Nat.le_trans hl (by decide))) (fun x hx s _ => by
    obtain ⟨i, j, rfl⟩ := mem_zip hx
    have q := ss_of i j s
    refine ⟨[some (rw' a), some (rw' b), some (.int i), some (.int j)], s, rfl, ?_, Gr.refl s⟩
    show _ = Res.ok (rw' (ss i j)) s
    (repeat' first | with_reducible assumption | ((with_reducible apply x_var); rfl) | with_reducible exact x_c | with_reducible exact x_nil | with_reducible exact x_skip | with_reducible apply x_setE | exact SetTo.mk rfl | with_reducible apply x_exprE | exact EnvEq.mk rfl | with_reducible apply x_ret | with_reducible apply x_cons | with_reducible apply x_2 | with_reducible apply x_1 | with_reducible apply x_call | with_reducible apply x_fn | with_reducible apply x_tof | with_reducible apply x_tnot | with_reducible apply x_sl | with_reducible apply x_os | with_reducible apply x_tup | with_reducible apply x_lst | with_reducible apply x_sub | with_reducible exact x_on | with_reducible exact l_add | with_reducible exact l_sub | with_reducible exact l_neg | with_reducible exact l_lt | with_reducible exact l_le | with_reducible exact l_gt | with_reducible exact l_ge | with_reducible exact l_lent | with_reducible exact l_inti | with_reducible exact l_intb | with_reducible exact l_tup | with_reducible exact l_slt | with_reducible exact dEq_int _ _ _ | with_reducible exact dNe_int _ _ _ | with_reducible exact dEq_str _ _ _ | with_reducible exact dNe_str _ _ _ | exact Nat.le_of_ble_eq_true rfl))
  rw [map_pD, zipWith_rw] at c1
  obtain ⟨s2, e2, g2⟩ := all_of c1 (fun c hc => (zip_len3 a b c hc).1) hz
  exact ⟨s2, x_body (x_ret (x_fn (x_cons e1 x_nil) e2)), g1.trans g2⟩

/-! ### the law's functions -/
theorem irange_nat (n : Nat) : irange 0 n = (List.range n).map fun (i : Nat) => D.int (i : Int) := by
  unfold irange
  congr 1
  funext i
  rw [Int.zero_add]
def rD (a b : List Int) : D → D
  | .int i => .int (sg (a.getD i.toNat 0) (b.getD i.toNat 0))
  | d => d
theorem map_rD {a b : List Int} (h : a.length = b.length) : (irange 0 b.length).map (rD a b) = (List.zipWith sg a b).map D.int := by
  apply List.ext_getElem
  · simp [irange, h]
  · intro i h1 h2
    simp only [irange, List.length_map, List.length_range] at h1
    simp [irange, rD, List.getD_eq_getElem?_getD, h1, show i < a.length by omega]
theorem sg_int (x y : Int) : (if decide (y < x) = true then (1 : Int) else 0) - (if decide (x < y) = true then 1 else 0) = sg x y := by
  unfold sg
  by_cases h1 : y < x <;> by_cases h2 : x < y <;> simp [h1, h2] <;> omega
theorem lrow_of {a b : List Int} (h : a.length = b.length) (hl : a.length ≤ 1000) (st : S) : ∃ st', d__law_row_of [rw' a, rw' b] st = .ok (rw' (List.zipWith sg a b)) st' ∧ Gr st st' := by
  have hi : iRg1 (aCons (eCall dLen (aCons (eVar 1) aNil)) aNil) [some (rw' a), some (rw' b), none] st = .ok (irange 0 ((b.map D.int).length : Int).toNat, none) st := x_irg1 (x_cons (x_call (x_cons (x_var rfl) x_nil) l_lent) x_nil) (by omega) (by rw [List.length_map]; omega)
  rw [List.length_map, Int.toNat_natCast] at hi
  obtain ⟨st', e, g⟩ := tupComp_gr (p := .nm 2) (vs := [2]) (elt := e2 dSub (eCall dIntS (aCons (e2 dGt (e2 dIx (eVar 0) (eVar 2)) (e2 dIx (eVar 1) (eVar 2))) aNil)) (eCall dIntS (aCons (e2 dLt (e2 dIx (eVar 0) (eVar 2)) (e2 dIx (eVar 1) (eVar 2))) aNil))) (rD a b) hi (Gr.refl st) trivial (by
      rw [irange_nat, List.length_map, List.length_range]
      exact Nat.le_trans (by omega : b.length ≤ 1000) (by decide)) (fun x hx s _ => by
    rw [irange_nat] at hx
    obtain ⟨i, hi, rfl⟩ := List.mem_map.mp hx
    rw [List.mem_range] at hi
    have ha : i < a.length := by omega
    have q1 : dIx (rw' a) (.int (i : Int)) s = .ok (.int a[i]) s := l_ixt (by rw [atI_nat _ _ (by rw [List.length_map]; exact ha)]; simp [ha])
    have q2 : dIx (rw' b) (.int (i : Int)) s = .ok (.int b[i]) s := l_ixt (by rw [atI_nat _ _ (by rw [List.length_map]; exact hi)]; simp [hi])
    refine ⟨[some (rw' a), some (rw' b), some (.int i)], s, rfl, ?_, Gr.refl s⟩
    have e : rD a b (.int i) = .int ((if decide (b[i] < a[i]) = true then (1 : Int) else 0) - (if decide (a[i] < b[i]) = true then 1 else 0)) := by
      rw [sg_int]
      simp [rD, List.getD_eq_getElem?_getD, hi, ha]
    rw [e]
    (repeat' first | with_reducible assumption | ((with_reducible apply x_var); rfl) | with_reducible exact x_c | with_reducible exact x_nil | with_reducible exact x_skip | with_reducible apply x_setE | exact SetTo.mk rfl | with_reducible apply x_exprE | exact EnvEq.mk rfl | with_reducible apply x_ret | with_reducible apply x_cons | with_reducible apply x_2 | with_reducible apply x_1 | with_reducible apply x_call | with_reducible apply x_fn | with_reducible apply x_tof | with_reducible apply x_tnot | with_reducible apply x_sl | with_reducible apply x_os | with_reducible apply x_tup | with_reducible apply x_lst | with_reducible apply x_sub | with_reducible exact x_on | with_reducible exact l_add | with_reducible exact l_sub | with_reducible exact l_neg | with_reducible exact l_lt | with_reducible exact l_le | with_reducible exact l_gt | with_reducible exact l_ge | with_reducible exact l_lent | with_reducible exact l_inti | with_reducible exact l_intb | with_reducible exact l_tup | with_reducible exact l_slt | with_reducible exact dEq_int _ _ _ | with_reducible exact dNe_int _ _ _ | with_reducible exact dEq_str _ _ _ | with_reducible exact dNe_str _ _ _ | exact Nat.le_of_ble_eq_true rfl))
  rw [map_rD h] at e
  exact ⟨st', x_body (x_ret e), g⟩
theorem any_row {j : Nat} {st : S} (hj : Jar j st) {n : Int} (h1 : 1 ≤ n) (h2 : n ≤ 6) : ∃ r st', d__law_any_row [.loc j, .int n] st = .ok (rw' r) st' ∧ Sr r ∧ r.length = n.toNat ∧ Ev j st st' := by
  have hi : iRg1 (aCons (eVar 1) aNil) [some (.loc j), some (.int n), none] st = .ok (irange 0 n.toNat, none) st := x_irg1 (x_cons (x_var rfl) x_nil) (by omega) (by omega)
  obtain ⟨ys, st', e, ev, hpd⟩ := tupComp_ev (j := j) (p := .nm 2) (vs := [2]) (elt := e2 dSub (eFn d__law_take (aCons (eVar 0) (aCons (eC (.int 3)) aNil))) (eC (.int 1))) (fun _ y => ∃ z, y = D.int z ∧ Sgn z) hj hi (Gr.refl st) trivial (by simp) (by
      rw [irange_nat, List.length_map, List.length_range]
      exact Nat.le_trans (by omega : n.toNat ≤ 6) (by decide)) (fun x hx s hs => by
    obtain ⟨d, s', e1, d0, d1, ev⟩ := take_of hs.jar (top := 3) (by decide) (by decide)
    refine ⟨[some (.loc j), some (.int n), some x], .int (d - 1), s', rfl, ?_, ⟨d - 1, rfl, ?_⟩, ev⟩
    · (repeat' first | with_reducible assumption | ((with_reducible apply x_var); rfl) | with_reducible exact x_c | with_reducible exact x_nil | with_reducible exact x_skip | with_reducible apply x_setE | exact SetTo.mk rfl | with_reducible apply x_exprE | exact EnvEq.mk rfl | with_reducible apply x_ret | with_reducible apply x_cons | with_reducible apply x_2 | with_reducible apply x_1 | with_reducible apply x_call | with_reducible apply x_fn | with_reducible apply x_tof | with_reducible apply x_tnot | with_reducible apply x_sl | with_reducible apply x_os | with_reducible apply x_tup | with_reducible apply x_lst | with_reducible apply x_sub | with_reducible exact x_on | with_reducible exact l_add | with_reducible exact l_sub | with_reducible exact l_neg | with_reducible exact l_lt | with_reducible exact l_le | with_reducible exact l_gt | with_reducible exact l_ge | with_reducible exact l_lent | with_reducible exact l_inti | with_reducible exact l_intb | with_reducible exact l_tup | with_reducible exact l_slt | with_reducible exact dEq_int _ _ _ | with_reducible exact dNe_int _ _ _ | with_reducible exact dEq_str _ _ _ | with_reducible exact dNe_str _ _ _ | exact Nat.le_of_ble_eq_true rfl)
    · unfold Sgn
      omega)
  obtain ⟨r, rfl, hr, hlen⟩ := ints_of hpd
  exact ⟨r, st', x_body (x_ret e), hr, by rw [hlen, irange_nat]; simp, ev⟩
end Rol.G

namespace Rol.G
open PySem L2 PySem.Spec Rol
open PyProof.Rows hiding St
theorem pow12 (st : S) : dPow (.int 10) (.int 12) st = .ok (.int 1000000000000) st := rfl
theorem pow18 (st : S) : dPow (.int 10) (.int 18) st = .ok (.int 1000000000000000000) st := rfl
theorem log_ok {t : Int} (h0 : 0 < t) (h1 : t ≤ 1000000000000) : t.natAbs.log2 < 9000 := by
  have := (Nat.log2_lt (n := t.natAbs) (k := 64) (by omega)).mpr (by omega)
  omega
theorem at_new (st : S) (o : O) : (st ++ [o])[st.length]? = some o := by simp
theorem neg_sr {r : List Int} (h : Sr r) : Sr (neg r) := fun z hz => by
  obtain ⟨y, hy, rfl⟩ := List.mem_map.mp hz
  have := h y hy
  unfold Sgn at *
  omega
theorem cut_to (xs : List D) (i : Nat) : cutD xs none (some (i : Int)) = xs.take i := by
  unfold cutD HT.sIx
  simp only [show ¬ ((i : Int) < 0) by omega, if_false, Int.toNat_natCast, List.drop_zero, Nat.sub_zero]
  rw [List.take_eq_take_iff]
  simp
theorem cut_from (xs : List D) (i : Nat) : cutD xs (some (i : Int)) none = xs.drop i := by
  unfold cutD HT.sIx
  simp only [show ¬ ((i : Int) < 0) by omega, if_false, Int.toNat_natCast]
  rw [List.take_of_length_le (by simp)]
  by_cases h : i ≤ xs.length
  · rw [Nat.min_eq_left h]
  · rw [Nat.min_eq_right (by omega), List.drop_length, List.drop_of_length_le (by omega)]
theorem other_row {j : Nat} {st : S} (hj : Jar j st) {n : Int} (h1 : 1 ≤ n) (h2 : n ≤ 6) {r : List Int} (hr : Sr r) (hl : r.length = n.toNat) : ∃ r' st', d__law_other_row [.loc j, .int n, rw' r] st = .ok (rw' r') st' ∧ Sr r' ∧ r'.length = n.toNat ∧ Ev j st st' := by
  obtain ⟨w, s1, e1, w0, w1, v1⟩ := take_of hj (top := 7) (by decide) (by decide)
  obtain ⟨i, s2, e2', i0, i1, v2⟩ := take_of v1.jar (top := n) (by omega) (log_ok (by omega) (by omega))
  obtain ⟨k, rfl⟩ : ∃ k : Nat, i = (k : Int) := ⟨Int.toNat i, by omega⟩
  have v := v1.trans v2
  have hpar : sPar [3, 4] (aCons (eFn d__law_take (aCons (eVar 0) (aCons (eC (.int 7)) aNil))) (aCons (eFn d__law_take (aCons (eVar 0) (aCons (eVar 1) aNil))) aNil)) [some (.loc j), some (.int n), some (rw' r), none, none, none] st =
      .nx [some (.loc j), some (.int n), some (rw' r), some (.int w), some (.int (k : Int)), none] s2 := by
    refine x_par2 ?_
    (repeat' first | with_reducible assumption | ((with_reducible apply x_var); rfl) | with_reducible exact x_c | with_reducible exact x_nil | with_reducible exact x_skip | with_reducible apply x_setE | exact SetTo.mk rfl | with_reducible apply x_exprE | exact EnvEq.mk rfl | with_reducible apply x_ret | with_reducible apply x_cons | with_reducible apply x_2 | with_reducible apply x_1 | with_reducible apply x_call | with_reducible apply x_fn | with_reducible apply x_tof | with_reducible apply x_tnot | with_reducible apply x_sl | with_reducible apply x_os | with_reducible apply x_tup | with_reducible apply x_lst | with_reducible apply x_sub | with_reducible exact x_on | with_reducible exact l_add | with_reducible exact l_sub | with_reducible exact l_neg | with_reducible exact l_lt | with_reducible exact l_le | with_reducible exact l_gt | with_reducible exact l_ge | with_reducible exact l_lent | with_reducible exact l_inti | with_reducible exact l_intb | with_reducible exact l_tup | with_reducible exact l_slt | with_reducible exact dEq_int _ _ _ | with_reducible exact dNe_int _ _ _ | with_reducible exact dEq_str _ _ _ | with_reducible exact dNe_str _ _ _ | exact Nat.le_of_ble_eq_true rfl)
  by_cases c1 : w < 2
  · obtain ⟨r', s3, e3, k1, k2, v3⟩ := any_row v.jar h1 h2
    refine ⟨r', s3, x_body (x_seq hpar (x_seqr (x_ift (b := decide (w < 2)) (st' := s2) ?_ (decide_eq_true c1) (x_ret ?_)))), k1, k2, v.trans v3⟩
    · (repeat' first | with_reducible assumption | ((with_reducible apply x_var); rfl) | with_reducible exact x_c | with_reducible exact x_nil | with_reducible exact x_skip | with_reducible apply x_setE | exact SetTo.mk rfl | with_reducible apply x_exprE | exact EnvEq.mk rfl | with_reducible apply x_ret | with_reducible apply x_cons | with_reducible apply x_2 | with_reducible apply x_1 | with_reducible apply x_call | with_reducible apply x_fn | with_reducible apply x_tof | with_reducible apply x_tnot | with_reducible apply x_sl | with_reducible apply x_os | with_reducible apply x_tup | with_reducible apply x_lst | with_reducible apply x_sub | with_reducible exact x_on | with_reducible exact l_add | with_reducible exact l_sub | with_reducible exact l_neg | with_reducible exact l_lt | with_reducible exact l_le | with_reducible exact l_gt | with_reducible exact l_ge | with_reducible exact l_lent | with_reducible exact l_inti | with_reducible exact l_intb | with_reducible exact l_tup | with_reducible exact l_slt | with_reducible exact dEq_int _ _ _ | with_reducible exact dNe_int _ _ _ | with_reducible exact dEq_str _ _ _ | with_reducible exact dNe_str _ _ _ | exact Nat.le_of_ble_eq_true rfl)
    · (repeat' first | with_reducible assumption | ((with_reducible apply x_var); rfl) | with_reducible exact x_c | with_reducible exact x_nil | with_reducible exact x_skip | with_reducible apply x_setE | exact SetTo.mk rfl | with_reducible apply x_exprE | exact EnvEq.mk rfl | with_reducible apply x_ret | with_reducible apply x_cons | with_reducible apply x_2 | with_reducible apply x_1 | with_reducible apply x_call | with_reducible apply x_fn | with_reducible apply x_tof | with_reducible apply x_tnot | with_reducible apply x_sl | with_reducible apply x_os | with_reducible apply x_tup | with_reducible apply x_lst | with_reducible apply x_sub | with_reducible exact x_on | with_reducible exact l_add | with_reducible exact l_sub | with_reducible exact l_neg | with_reducible exact l_lt | with_reducible exact l_le | with_reducible exact l_gt | with_reducible exact l_ge | with_reducible exact l_lent | with_reducible exact l_inti | with_reducible exact l_intb | with_reducible exact l_tup | with_reducible exact l_slt | with_reducible exact dEq_int _ _ _ | with_reducible exact dNe_int _ _ _ | with_reducible exact dEq_str _ _ _ | with_reducible exact dNe_str _ _ _ | exact Nat.le_of_ble_eq_true rfl)
  · have z1 : sIf (tOf (e2 dLt (eVar 3) (eC (.int 2)))) (sRet (eFn d__law_any_row (aCons (eVar 0) (aCons (eVar 1) aNil)))) sSkip [some (.loc j), some (.int n), some (rw' r), some (.int w), some (.int (k : Int)), none] s2 = .nx [some (.loc j), some (.int n), some (rw' r), some (.int w), some (.int (k : Int)), none] s2 := by
      refine x_iff (b := decide (w < 2)) (st' := s2) ?_ (decide_eq_false c1) x_skip
      (repeat' first | with_reducible assumption | ((with_reducible apply x_var); rfl) | with_reducible exact x_c | with_reducible exact x_nil | with_reducible exact x_skip | with_reducible apply x_setE | exact SetTo.mk rfl | with_reducible apply x_exprE | exact EnvEq.mk rfl | with_reducible apply x_ret | with_reducible apply x_cons | with_reducible apply x_2 | with_reducible apply x_1 | with_reducible apply x_call | with_reducible apply x_fn | with_reducible apply x_tof | with_reducible apply x_tnot | with_reducible apply x_sl | with_reducible apply x_os | with_reducible apply x_tup | with_reducible apply x_lst | with_reducible apply x_sub | with_reducible exact x_on | with_reducible exact l_add | with_reducible exact l_sub | with_reducible exact l_neg | with_reducible exact l_lt | with_reducible exact l_le | with_reducible exact l_gt | with_reducible exact l_ge | with_reducible exact l_lent | with_reducible exact l_inti | with_reducible exact l_intb | with_reducible exact l_tup | with_reducible exact l_slt | with_reducible exact dEq_int _ _ _ | with_reducible exact dNe_int _ _ _ | with_reducible exact dEq_str _ _ _ | with_reducible exact dNe_str _ _ _ | exact Nat.le_of_ble_eq_true rfl)
    by_cases c2 : w = 2
    · have e3 := llevel_of h1 h2 s2
      refine ⟨zero n.toNat, s2, x_body (x_seq hpar (x_seq z1 (x_seqr (x_ift (b := decide (w = 2)) (st' := s2) ?_ (decide_eq_true c2) (x_ret ?_))))), fun z hz => ?_, by simp [zero], v⟩
      · (repeat' first | with_reducible assumption | ((with_reducible apply x_var); rfl) | with_reducible exact x_c | with_reducible exact x_nil | with_reducible exact x_skip | with_reducible apply x_setE | exact SetTo.mk rfl | with_reducible apply x_exprE | exact EnvEq.mk rfl | with_reducible apply x_ret | with_reducible apply x_cons | with_reducible apply x_2 | with_reducible apply x_1 | with_reducible apply x_call | with_reducible apply x_fn | with_reducible apply x_tof | with_reducible apply x_tnot | with_reducible apply x_sl | with_reducible apply x_os | with_reducible apply x_tup | with_reducible apply x_lst | with_reducible apply x_sub | with_reducible exact x_on | with_reducible exact l_add | with_reducible exact l_sub | with_reducible exact l_neg | with_reducible exact l_lt | with_reducible exact l_le | with_reducible exact l_gt | with_reducible exact l_ge | with_reducible exact l_lent | with_reducible exact l_inti | with_reducible exact l_intb | with_reducible exact l_tup | with_reducible exact l_slt | with_reducible exact dEq_int _ _ _ | with_reducible exact dNe_int _ _ _ | with_reducible exact dEq_str _ _ _ | with_reducible exact dNe_str _ _ _ | exact Nat.le_of_ble_eq_true rfl)
      · (repeat' first | with_reducible assumption | ((with_reducible apply x_var); rfl) | with_reducible exact x_c | with_reducible exact x_nil | with_reducible exact x_skip | with_reducible apply x_setE | exact SetTo.mk rfl | with_reducible apply x_exprE | exact EnvEq.mk rfl | with_reducible apply x_ret | with_reducible apply x_cons | with_reducible apply x_2 | with_reducible apply x_1 | with_reducible apply x_call | with_reducible apply x_fn | with_reducible apply x_tof | with_reducible apply x_tnot | with_reducible apply x_sl | with_reducible apply x_os | with_reducible apply x_tup | with_reducible apply x_lst | with_reducible apply x_sub | with_reducible exact x_on | with_reducible exact l_add | with_reducible exact l_sub | with_reducible exact l_neg | with_reducible exact l_lt | with_reducible exact l_le | with_reducible exact l_gt | with_reducible exact l_ge | with_reducible exact l_lent | with_reducible exact l_inti | with_reducible exact l_intb | with_reducible exact l_tup | with_reducible exact l_slt | with_reducible exact dEq_int _ _ _ | with_reducible exact dNe_int _ _ _ | with_reducible exact dEq_str _ _ _ | with_reducible exact dNe_str _ _ _ | exact Nat.le_of_ble_eq_true rfl)
      · exact .inr (.inl (List.eq_of_mem_replicate hz))
    · have z2 : sIf (tOf (e2 dEq (eVar 3) (eC (.int 2)))) (sRet (eFn d__law_level (aCons (eVar 1) aNil))) sSkip [some (.loc j), some (.int n), some (rw' r), some (.int w), some (.int (k : Int)), none] s2 = .nx [some (.loc j), some (.int n), some (rw' r), some (.int w), some (.int (k : Int)), none] s2 := by
        refine x_iff (b := decide (w = 2)) (st' := s2) ?_ (decide_eq_false c2) x_skip
        (repeat' first | with_reducible assumption | ((with_reducible apply x_var); rfl) | with_reducible exact x_c | with_reducible exact x_nil | with_reducible exact x_skip | with_reducible apply x_setE | exact SetTo.mk rfl | with_reducible apply x_exprE | exact EnvEq.mk rfl | with_reducible apply x_ret | with_reducible apply x_cons | with_reducible apply x_2 | with_reducible apply x_1 | with_reducible apply x_call | with_reducible apply x_fn | with_reducible apply x_tof | with_reducible apply x_tnot | with_reducible apply x_sl | with_reducible apply x_os | with_reducible apply x_tup | with_reducible apply x_lst | with_reducible apply x_sub | with_reducible exact x_on | with_reducible exact l_add | with_reducible exact l_sub | with_reducible exact l_neg | with_reducible exact l_lt | with_reducible exact l_le | with_reducible exact l_gt | with_reducible exact l_ge | with_reducible exact l_lent | with_reducible exact l_inti | with_reducible exact l_intb | with_reducible exact l_tup | with_reducible exact l_slt | with_reducible exact dEq_int _ _ _ | with_reducible exact dNe_int _ _ _ | with_reducible exact dEq_str _ _ _ | with_reducible exact dNe_str _ _ _ | exact Nat.le_of_ble_eq_true rfl)
      by_cases c3 : w = 3
      · refine ⟨r, s2, x_body (x_seq hpar (x_seq z1 (x_seq z2 (x_seqr (x_ift (b := decide (w = 3)) (st' := s2) ?_ (decide_eq_true c3) (x_ret ?_)))))), hr, hl, v⟩
        · (repeat' first | with_reducible assumption | ((with_reducible apply x_var); rfl) | with_reducible exact x_c | with_reducible exact x_nil | with_reducible exact x_skip | with_reducible apply x_setE | exact SetTo.mk rfl | with_reducible apply x_exprE | exact EnvEq.mk rfl | with_reducible apply x_ret | with_reducible apply x_cons | with_reducible apply x_2 | with_reducible apply x_1 | with_reducible apply x_call | with_reducible apply x_fn | with_reducible apply x_tof | with_reducible apply x_tnot | with_reducible apply x_sl | with_reducible apply x_os | with_reducible apply x_tup | with_reducible apply x_lst | with_reducible apply x_sub | with_reducible exact x_on | with_reducible exact l_add | with_reducible exact l_sub | with_reducible exact l_neg | with_reducible exact l_lt | with_reducible exact l_le | with_reducible exact l_gt | with_reducible exact l_ge | with_reducible exact l_lent | with_reducible exact l_inti | with_reducible exact l_intb | with_reducible exact l_tup | with_reducible exact l_slt | with_reducible exact dEq_int _ _ _ | with_reducible exact dNe_int _ _ _ | with_reducible exact dEq_str _ _ _ | with_reducible exact dNe_str _ _ _ | exact Nat.le_of_ble_eq_true rfl)
        · (repeat' first | with_reducible assumption | ((with_reducible apply x_var); rfl) | with_reducible exact x_c | with_reducible exact x_nil | with_reducible exact x_skip | with_reducible apply x_setE | exact SetTo.mk rfl | with_reducible apply x_exprE | exact EnvEq.mk rfl | with_reducible apply x_ret | with_reducible apply x_cons | with_reducible apply x_2 | with_reducible apply x_1 | with_reducible apply x_call | with_reducible apply x_fn | with_reducible apply x_tof | with_reducible apply x_tnot | with_reducible apply x_sl | with_reducible apply x_os | with_reducible apply x_tup | with_reducible apply x_lst | with_reducible apply x_sub | with_reducible exact x_on | with_reducible exact l_add | with_reducible exact l_sub | with_reducible exact l_neg | with_reducible exact l_lt | with_reducible exact l_le | with_reducible exact l_gt | with_reducible exact l_ge | with_reducible exact l_lent | with_reducible exact l_inti | with_reducible exact l_intb | with_reducible exact l_tup | with_reducible exact l_slt | with_reducible exact dEq_int _ _ _ | with_reducible exact dNe_int _ _ _ | with_reducible exact dEq_str _ _ _ | with_reducible exact dNe_str _ _ _ | exact Nat.le_of_ble_eq_true rfl)
      · have z3 : sIf (tOf (e2 dEq (eVar 3) (eC (.int 3)))) (sRet (eVar 2)) sSkip [some (.loc j), some (.int n), some (rw' r), some (.int w), some (.int (k : Int)), none] s2 = .nx [some (.loc j), some (.int n), some (rw' r), some (.int w), some (.int (k : Int)), none] s2 := by
          refine x_iff (b := decide (w = 3)) (st' := s2) ?_ (decide_eq_false c3) x_skip
          (repeat' first | with_reducible assumption | ((with_reducible apply x_var); rfl) | with_reducible exact x_c | with_reducible exact x_nil | with_reducible exact x_skip | with_reducible apply x_setE | exact SetTo.mk rfl | with_reducible apply x_exprE | exact EnvEq.mk rfl | with_reducible apply x_ret | with_reducible apply x_cons | with_reducible apply x_2 | with_reducible apply x_1 | with_reducible apply x_call | with_reducible apply x_fn | with_reducible apply x_tof | with_reducible apply x_tnot | with_reducible apply x_sl | with_reducible apply x_os | with_reducible apply x_tup | with_reducible apply x_lst | with_reducible apply x_sub | with_reducible exact x_on | with_reducible exact l_add | with_reducible exact l_sub | with_reducible exact l_neg | with_reducible exact l_lt | with_reducible exact l_le | with_reducible exact l_gt | with_reducible exact l_ge | with_reducible exact l_lent | with_reducible exact l_inti | with_reducible exact l_intb | with_reducible exact l_tup | with_reducible exact l_slt | with_reducible exact dEq_int _ _ _ | with_reducible exact dNe_int _ _ _ | with_reducible exact dEq_str _ _ _ | with_reducible exact dNe_str _ _ _ | exact Nat.le_of_ble_eq_true rfl)
        obtain ⟨r2, s3, e3, k1, k2, g3⟩ : ∃ r2 s3, eIf (tOf (e2 dLt (eVar 3) (eC (.int 6)))) (eFn d__law_turned (aCons (eVar 2) aNil)) (eVar 2) [some (.loc j), some (.int n), some (rw' r), some (.int w), some (.int (k : Int)), none] s2 = .ok (rw' r2) s3 ∧ Sr r2 ∧ r2.length = n.toNat ∧ Gr s2 s3 := by
          by_cases c4 : w < 6
          · obtain ⟨s3, e3, g3⟩ := lturned_of (r := r) (by omega) s2
            refine ⟨neg r, s3, x_it (b := decide (w < 6)) (s1 := s2) ?_ (decide_eq_true c4) ?_, neg_sr hr, by rw [neg, List.length_map]; exact hl, g3⟩
            · (repeat' first | with_reducible assumption | ((with_reducible apply x_var); rfl) | with_reducible exact x_c | with_reducible exact x_nil | with_reducible exact x_skip | with_reducible apply x_setE | exact SetTo.mk rfl | with_reducible apply x_exprE | exact EnvEq.mk rfl | with_reducible apply x_ret | with_reducible apply x_cons | with_reducible apply x_2 | with_reducible apply x_1 | with_reducible apply x_call | with_reducible apply x_fn | with_reducible apply x_tof | with_reducible apply x_tnot | with_reducible apply x_sl | with_reducible apply x_os | with_reducible apply x_tup | with_reducible apply x_lst | with_reducible apply x_sub | with_reducible exact x_on | with_reducible exact l_add | with_reducible exact l_sub | with_reducible exact l_neg | with_reducible exact l_lt | with_reducible exact l_le | with_reducible exact l_gt | with_reducible exact l_ge | with_reducible exact l_lent | with_reducible exact l_inti | with_reducible exact l_intb | with_reducible exact l_tup | with_reducible exact l_slt | with_reducible exact dEq_int _ _ _ | with_reducible exact dNe_int _ _ _ | with_reducible exact dEq_str _ _ _ | with_reducible exact dNe_str _ _ _ | exact Nat.le_of_ble_eq_true rfl)
            · (repeat' first | with_reducible assumption | ((with_reducible apply x_var); rfl) | with_reducible exact x_c | with_reducible exact x_nil | with_reducible exact x_skip | with_reducible apply x_setE | exact SetTo.mk rfl | with_reducible apply x_exprE | exact EnvEq.mk rfl | with_reducible apply x_ret | with_reducible apply x_cons | with_reducible apply x_2 | with_reducible apply x_1 | with_reducible apply x_call | with_reducible apply x_fn | with_reducible apply x_tof | with_reducible apply x_tnot | with_reducible apply x_sl | with_reducible apply x_os | with_reducible apply x_tup | with_reducible apply x_lst | with_reducible apply x_sub | with_reducible exact x_on | with_reducible exact l_add | with_reducible exact l_sub | with_reducible exact l_neg | with_reducible exact l_lt | with_reducible exact l_le | with_reducible exact l_gt | with_reducible exact l_ge | with_reducible exact l_lent | with_reducible exact l_inti | with_reducible exact l_intb | with_reducible exact l_tup | with_reducible exact l_slt | with_reducible exact dEq_int _ _ _ | with_reducible exact dNe_int _ _ _ | with_reducible exact dEq_str _ _ _ | with_reducible exact dNe_str _ _ _ | exact Nat.le_of_ble_eq_true rfl)
          · refine ⟨r, s2, x_if (b := decide (w < 6)) (s1 := s2) ?_ (decide_eq_false c4) ?_, hr, hl, Gr.refl _⟩
            · (repeat' first | with_reducible assumption | ((with_reducible apply x_var); rfl) | with_reducible exact x_c | with_reducible exact x_nil | with_reducible exact x_skip | with_reducible apply x_setE | exact SetTo.mk rfl | with_reducible apply x_exprE | exact EnvEq.mk rfl | with_reducible apply x_ret | with_reducible apply x_cons | with_reducible apply x_2 | with_reducible apply x_1 | with_reducible apply x_call | with_reducible apply x_fn | with_reducible apply x_tof | with_reducible apply x_tnot | with_reducible apply x_sl | with_reducible apply x_os | with_reducible apply x_tup | with_reducible apply x_lst | with_reducible apply x_sub | with_reducible exact x_on | with_reducible exact l_add | with_reducible exact l_sub | with_reducible exact l_neg | with_reducible exact l_lt | with_reducible exact l_le | with_reducible exact l_gt | with_reducible exact l_ge | with_reducible exact l_lent | with_reducible exact l_inti | with_reducible exact l_intb | with_reducible exact l_tup | with_reducible exact l_slt | with_reducible exact dEq_int _ _ _ | with_reducible exact dNe_int _ _ _ | with_reducible exact dEq_str _ _ _ | with_reducible exact dNe_str _ _ _ | exact Nat.le_of_ble_eq_true rfl)
            · (repeat' first | with_reducible assumption | ((with_reducible apply x_var); rfl) | with_reducible exact x_c | with_reducible exact x_nil | with_reducible exact x_skip | with_reducible apply x_setE | exact SetTo.mk rfl | with_reducible apply x_exprE | exact EnvEq.mk rfl | with_reducible apply x_ret | with_reducible apply x_cons | with_reducible apply x_2 | with_reducible apply x_1 | with_reducible apply x_call | with_reducible apply x_fn | with_reducible apply x_tof | with_reducible apply x_tnot | with_reducible apply x_sl | with_reducible apply x_os | with_reducible apply x_tup | with_reducible apply x_lst | with_reducible apply x_sub | with_reducible exact x_on | with_reducible exact l_add | with_reducible exact l_sub | with_reducible exact l_neg | with_reducible exact l_lt | with_reducible exact l_le | with_reducible exact l_gt | with_reducible exact l_ge | with_reducible exact l_lent | with_reducible exact l_inti | with_reducible exact l_intb | with_reducible exact l_tup | with_reducible exact l_slt | with_reducible exact dEq_int _ _ _ | with_reducible exact dNe_int _ _ _ | with_reducible exact dEq_str _ _ _ | with_reducible exact dNe_str _ _ _ | exact Nat.le_of_ble_eq_true rfl)
        have v3 := v.gr g3
        have z4 := x_set (i := 5) e3
        by_cases c5 : w = 4
        · refine ⟨r2, s3, x_body (x_seq hpar (x_seq z1 (x_seq z2 (x_seq z3 (x_seq z4 (x_ret (x_it (b := decide (w = 4)) (s1 := s3) ?_ (decide_eq_true c5) ?_))))))), k1, k2, v3⟩
          · (repeat' first | with_reducible assumption | ((with_reducible apply x_var); rfl) | with_reducible exact x_c | with_reducible exact x_nil | with_reducible exact x_skip | with_reducible apply x_setE | exact SetTo.mk rfl | with_reducible apply x_exprE | exact EnvEq.mk rfl | with_reducible apply x_ret | with_reducible apply x_cons | with_reducible apply x_2 | with_reducible apply x_1 | with_reducible apply x_call | with_reducible apply x_fn | with_reducible apply x_tof | with_reducible apply x_tnot | with_reducible apply x_sl | with_reducible apply x_os | with_reducible apply x_tup | with_reducible apply x_lst | with_reducible apply x_sub | with_reducible exact x_on | with_reducible exact l_add | with_reducible exact l_sub | with_reducible exact l_neg | with_reducible exact l_lt | with_reducible exact l_le | with_reducible exact l_gt | with_reducible exact l_ge | with_reducible exact l_lent | with_reducible exact l_inti | with_reducible exact l_intb | with_reducible exact l_tup | with_reducible exact l_slt | with_reducible exact dEq_int _ _ _ | with_reducible exact dNe_int _ _ _ | with_reducible exact dEq_str _ _ _ | with_reducible exact dNe_str _ _ _ | exact Nat.le_of_ble_eq_true rfl)
          · (repeat' first | with_reducible assumption | ((with_reducible apply x_var); rfl) | with_reducible exact x_c | with_reducible exact x_nil | with_reducible exact x_skip | with_reducible apply x_setE | exact SetTo.mk rfl | with_reducible apply x_exprE | exact EnvEq.mk rfl | with_reducible apply x_ret | with_reducible apply x_cons | with_reducible apply x_2 | with_reducible apply x_1 | with_reducible apply x_call | with_reducible apply x_fn | with_reducible apply x_tof | with_reducible apply x_tnot | with_reducible apply x_sl | with_reducible apply x_os | with_reducible apply x_tup | with_reducible apply x_lst | with_reducible apply x_sub | with_reducible exact x_on | with_reducible exact l_add | with_reducible exact l_sub | with_reducible exact l_neg | with_reducible exact l_lt | with_reducible exact l_le | with_reducible exact l_gt | with_reducible exact l_ge | with_reducible exact l_lent | with_reducible exact l_inti | with_reducible exact l_intb | with_reducible exact l_tup | with_reducible exact l_slt | with_reducible exact dEq_int _ _ _ | with_reducible exact dNe_int _ _ _ | with_reducible exact dEq_str _ _ _ | with_reducible exact dNe_str _ _ _ | exact Nat.le_of_ble_eq_true rfl)
        · obtain ⟨d, s4, e4, d0, d1, v4⟩ := take_of v3.jar (top := 3) (by decide) (by decide)
          have hi : k < r2.length := by omega
          have q1 : dAdd (.tup (cutD (r2.map D.int) none (some (k : Int)))) (.tup [.int (d - 1)]) s4 = .ok (.tup (cutD (r2.map D.int) none (some (k : Int)) ++ [.int (d - 1)])) s4 := l_addt (by
            rw [cut_to]
            simp
            exact Nat.le_trans (by omega : min k r2.length + 1 ≤ 7) (by decide))
          have q2 : dAdd (.tup (cutD (r2.map D.int) none (some (k : Int)) ++ [.int (d - 1)])) (.tup (cutD (r2.map D.int) (some ((k : Int) + 1)) none)) s4 = .ok (.tup ((cutD (r2.map D.int) none (some (k : Int)) ++ [.int (d - 1)]) ++ cutD (r2.map D.int) (some ((k : Int) + 1)) none)) s4 := l_addt (by
            rw [cut_to, show (k : Int) + 1 = ((k + 1 : Nat) : Int) by omega, cut_from]
            simp
            exact Nat.le_trans (by omega : min k r2.length + 1 + (r2.length - (k + 1)) ≤ 20) (by decide))
          have er : (cutD (r2.map D.int) none (some (k : Int)) ++ [.int (d - 1)]) ++ cutD (r2.map D.int) (some ((k : Int) + 1)) none = (r2.take k ++ [d - 1] ++ r2.drop (k + 1)).map D.int := by
            rw [cut_to, show (k : Int) + 1 = ((k + 1 : Nat) : Int) by omega, cut_from]
            simp
          rw [er] at q2
          refine ⟨r2.take k ++ [d - 1] ++ r2.drop (k + 1), s4, x_body (x_seq hpar (x_seq z1 (x_seq z2 (x_seq z3 (x_seq z4 (x_ret (x_if (b := decide (w = 4)) (s1 := s3) ?_ (decide_eq_false c5) ?_))))))), fun z hz => ?_, ?_, v3.trans v4⟩
          · (repeat' first | with_reducible assumption | ((with_reducible apply x_var); rfl) | with_reducible exact x_c | with_reducible exact x_nil | with_reducible exact x_skip | with_reducible apply x_setE | exact SetTo.mk rfl | with_reducible apply x_exprE | exact EnvEq.mk rfl | with_reducible apply x_ret | with_reducible apply x_cons | with_reducible apply x_2 | with_reducible apply x_1 | with_reducible apply x_call | with_reducible apply x_fn | with_reducible apply x_tof | with_reducible apply x_tnot | with_reducible apply x_sl | with_reducible apply x_os | with_reducible apply x_tup | with_reducible apply x_lst | with_reducible apply x_sub | with_reducible exact x_on | with_reducible exact l_add | with_reducible exact l_sub | with_reducible exact l_neg | with_reducible exact l_lt | with_reducible exact l_le | with_reducible exact l_gt | with_reducible exact l_ge | with_reducible exact l_lent | with_reducible exact l_inti | with_reducible exact l_intb | with_reducible exact l_tup | with_reducible exact l_slt | with_reducible exact dEq_int _ _ _ | with_reducible exact dNe_int _ _ _ | with_reducible exact dEq_str _ _ _ | with_reducible exact dNe_str _ _ _ | exact Nat.le_of_ble_eq_true rfl)
          · (repeat' first | with_reducible assumption | ((with_reducible apply x_var); rfl) | with_reducible exact x_c | with_reducible exact x_nil | with_reducible exact x_skip | with_reducible apply x_setE | exact SetTo.mk rfl | with_reducible apply x_exprE | exact EnvEq.mk rfl | with_reducible apply x_ret | with_reducible apply x_cons | with_reducible apply x_2 | with_reducible apply x_1 | with_reducible apply x_call | with_reducible apply x_fn | with_reducible apply x_tof | with_reducible apply x_tnot | with_reducible apply x_sl | with_reducible apply x_os | with_reducible apply x_tup | with_reducible apply x_lst | with_reducible apply x_sub | with_reducible exact x_on | with_reducible exact l_add | with_reducible exact l_sub | with_reducible exact l_neg | with_reducible exact l_lt | with_reducible exact l_le | with_reducible exact l_gt | with_reducible exact l_ge | with_reducible exact l_lent | with_reducible exact l_inti | with_reducible exact l_intb | with_reducible exact l_tup | with_reducible exact l_slt | with_reducible exact dEq_int _ _ _ | with_reducible exact dNe_int _ _ _ | with_reducible exact dEq_str _ _ _ | with_reducible exact dNe_str _ _ _ | exact Nat.le_of_ble_eq_true rfl)
          · simp only [List.mem_append, List.mem_singleton] at hz
            rcases hz with (hz | hz) | hz
            · exact k1 z (List.mem_of_mem_take hz)
            · unfold Sgn
              omega
            · exact k1 z (List.mem_of_mem_drop hz)
          · simp
            omega
/-- heights no more than B either way -/
abbrev Hb (B : Int) (r : List Int) : Prop := ∀ z ∈ r, -B ≤ z ∧ z ≤ B
theorem any_motion {j : Nat} {st : S} (hj : Jar j st) {n : Int} (h1 : 1 ≤ n) (h2 : n ≤ 6) : ∃ r st', d__law_any_motion [.loc j, .int n] st = .ok (rw' r) st' ∧ Hb 1000000000000 r ∧ r.length = n.toNat ∧ Ev j st st' := by
  have hlt := hj.lt
  have q0 := pow12 st
  obtain ⟨wd, s1, e1, hw, v1⟩ := one_of (hj.gr (Gr.app st [.lst [.int 2, .int 3, .int 3, .int 5, .int 1000000000000]])) (k := st.length) (by omega) (at_new _ _) (by simp) (by simp)
  obtain ⟨w, rfl, w0, w1⟩ : ∃ w, wd = .int w ∧ 2 ≤ w ∧ w ≤ 1000000000000 := by
    simp only [List.mem_cons, List.mem_nil_iff, or_false] at hw
    rcases hw with rfl | rfl | rfl | rfl | rfl <;> exact ⟨_, rfl, by decide, by decide⟩
  have v := ((Gr.app st [.lst [.int 2, .int 3, .int 3, .int 5, .int 1000000000000]]).ev hj).trans v1
  have z1 : sSet 2 (eFn d__law_one (aCons (eVar 0) (aCons (eLst (aCons (eC (.int 2)) (aCons (eC (.int 3)) (aCons (eC (.int 3)) (aCons (eC (.int 5)) (aCons (e2 dPow (eC (.int 10)) (eC (.int 12))) aNil)))))) aNil))) [some (.loc j), some (.int n), none, none] st = .nx [some (.loc j), some (.int n), some (.int w), none] s1 := by
    refine x_set ?_
    (repeat' first | with_reducible assumption | ((with_reducible apply x_var); rfl) | with_reducible exact x_c | with_reducible exact x_nil | with_reducible exact x_skip | with_reducible apply x_setE | exact SetTo.mk rfl | with_reducible apply x_exprE | exact EnvEq.mk rfl | with_reducible apply x_ret | with_reducible apply x_cons | with_reducible apply x_2 | with_reducible apply x_1 | with_reducible apply x_call | with_reducible apply x_fn | with_reducible apply x_tof | with_reducible apply x_tnot | with_reducible apply x_sl | with_reducible apply x_os | with_reducible apply x_tup | with_reducible apply x_lst | with_reducible apply x_sub | with_reducible exact x_on | with_reducible exact l_add | with_reducible exact l_sub | with_reducible exact l_neg | with_reducible exact l_lt | with_reducible exact l_le | with_reducible exact l_gt | with_reducible exact l_ge | with_reducible exact l_lent | with_reducible exact l_inti | with_reducible exact l_intb | with_reducible exact l_tup | with_reducible exact l_slt | with_reducible exact dEq_int _ _ _ | with_reducible exact dNe_int _ _ _ | with_reducible exact dEq_str _ _ _ | with_reducible exact dNe_str _ _ _ | exact Nat.le_of_ble_eq_true rfl)
  have hi : iRg1 (aCons (eVar 1) aNil) [some (.loc j), some (.int n), some (.int w), none] s1 = .ok (irange 0 n.toNat, none) s1 := x_irg1 (x_cons (x_var rfl) x_nil) (by omega) (by omega)
  obtain ⟨ys, st', e, ev, hpd⟩ := tupComp_ev (j := j) (p := .nm 3) (vs := [3]) (elt := e2 dSub (eFn d__law_take (aCons (eVar 0) (aCons (eVar 2) aNil))) (e2 dFdiv (eVar 2) (eC (.int 2)))) (fun _ y => ∃ z, y = D.int z ∧ (-1000000000000 ≤ z ∧ z ≤ 1000000000000)) v.jar hi (Gr.refl s1) trivial (by simp) (by
      rw [irange_nat, List.length_map, List.length_range]
      exact Nat.le_trans (by omega : n.toNat ≤ 6) (by decide)) (fun x hx s hs => by
    obtain ⟨d, s', e1, d0, d1, ev⟩ := take_of hs.jar (top := w) (by omega) (log_ok (by omega) (by omega))
    have q1 := @l_fdiv w 2 s' (by decide) (by decide)
    refine ⟨[some (.loc j), some (.int n), some (.int w), some x], .int (d - w / 2), s', rfl, ?_, ⟨d - w / 2, rfl, ?_⟩, ev⟩
    · (repeat' first | with_reducible assumption | ((with_reducible apply x_var); rfl) | with_reducible exact x_c | with_reducible exact x_nil | with_reducible exact x_skip | with_reducible apply x_setE | exact SetTo.mk rfl | with_reducible apply x_exprE | exact EnvEq.mk rfl | with_reducible apply x_ret | with_reducible apply x_cons | with_reducible apply x_2 | with_reducible apply x_1 | with_reducible apply x_call | with_reducible apply x_fn | with_reducible apply x_tof | with_reducible apply x_tnot | with_reducible apply x_sl | with_reducible apply x_os | with_reducible apply x_tup | with_reducible apply x_lst | with_reducible apply x_sub | with_reducible exact x_on | with_reducible exact l_add | with_reducible exact l_sub | with_reducible exact l_neg | with_reducible exact l_lt | with_reducible exact l_le | with_reducible exact l_gt | with_reducible exact l_ge | with_reducible exact l_lent | with_reducible exact l_inti | with_reducible exact l_intb | with_reducible exact l_tup | with_reducible exact l_slt | with_reducible exact dEq_int _ _ _ | with_reducible exact dNe_int _ _ _ | with_reducible exact dEq_str _ _ _ | with_reducible exact dNe_str _ _ _ | exact Nat.le_of_ble_eq_true rfl)
    · omega)
  obtain ⟨r, rfl, hr, hlen⟩ := ints_of hpd
  exact ⟨r, st', x_body (x_seq z1 (x_ret e)), hr, by rw [hlen, irange_nat]; simp, v.trans ev⟩
theorem near_motion {j : Nat} {st : S} (hj : Jar j st) {n : Int} (h1 : 1 ≤ n) (h2 : n ≤ 6) {B : Int} {r : List Int} (hr : Hb B r) (hl : r.length = n.toNat) : ∃ r' st', d__law_near_motion [.loc j, rw' r] st = .ok (rw' r') st' ∧ Hb (B + 4) r' ∧ r'.length = n.toNat ∧ Ev j st st' := by
  have hlt := hj.lt
  have z1 : sSet 2 (eCall dList (aCons (eVar 1) aNil)) [some (.loc j), some (rw' r), none, none, none] st = .nx [some (.loc j), some (rw' r), some (.loc st.length), none, none] (st ++ [.lst (r.map D.int)]) := by
    refine x_set (x_call (x_cons (x_var rfl) x_nil) ?_)
    exact l_listt
  obtain ⟨d, s1, f0, d0, d1, v1⟩ := take_of (hj.gr (Gr.app st [.lst (r.map D.int)])) (top := 2) (by decide) (by decide)
  have v := ((Gr.app st [.lst (r.map D.int)]).ev hj).trans v1
  have hi : iRg1 (aCons (e2 dAdd (eC (.int 1)) (eFn d__law_take (aCons (eVar 0) (aCons (eC (.int 2)) aNil)))) aNil) [some (.loc j), some (rw' r), some (.loc st.length), none, none] (st ++ [.lst (r.map D.int)]) = .ok (irange 0 (1 + d).toNat, none) s1 := by
    refine x_irg1 ?_ (by omega) (by omega)
    (repeat' first | with_reducible assumption | ((with_reducible apply x_var); rfl) | with_reducible exact x_c | with_reducible exact x_nil | with_reducible exact x_skip | with_reducible apply x_setE | exact SetTo.mk rfl | with_reducible apply x_exprE | exact EnvEq.mk rfl | with_reducible apply x_ret | with_reducible apply x_cons | with_reducible apply x_2 | with_reducible apply x_1 | with_reducible apply x_call | with_reducible apply x_fn | with_reducible apply x_tof | with_reducible apply x_tnot | with_reducible apply x_sl | with_reducible apply x_os | with_reducible apply x_tup | with_reducible apply x_lst | with_reducible apply x_sub | with_reducible exact x_on | with_reducible exact l_add | with_reducible exact l_sub | with_reducible exact l_neg | with_reducible exact l_lt | with_reducible exact l_le | with_reducible exact l_gt | with_reducible exact l_ge | with_reducible exact l_lent | with_reducible exact l_inti | with_reducible exact l_intb | with_reducible exact l_tup | with_reducible exact l_slt | with_reducible exact dEq_int _ _ _ | with_reducible exact dNe_int _ _ _ | with_reducible exact dEq_str _ _ _ | with_reducible exact dNe_str _ _ _ | exact Nat.le_of_ble_eq_true rfl)
  obtain ⟨ρ', st', e3, ⟨m, a, b, rfl, hm, hml, hb, v3⟩⟩ := sFor_of (p := .nm 3) (bd := sSeq (sSet 4 (eFn d__law_take (aCons (eVar 0) (aCons (eCall dLen (aCons (eVar 1) aNil)) aNil)))) (sSub dSetIx (eVar 2) (eVar 4) (e2 dAdd (e2 dIx (eVar 2) (eVar 4)) (eFn d__law_one (aCons (eVar 0) (aCons (eLst (aCons (e1 dNeg (eC (.int 2))) (aCons (e1 dNeg (eC (.int 1))) (aCons (eC (.int 1)) (aCons (eC (.int 2)) aNil))))) aNil))))))
    (fun done ρ s => ∃ (m : List Int) (a b : Option D), ρ = [some (.loc j), some (rw' r), some (.loc st.length), a, b] ∧ s[st.length]? = some (.lst (m.map D.int)) ∧ m.length = r.length ∧ Hb (B + 2 * (done.length : Int)) m ∧ Ev j st s)
    hi (fun _ _ _ _ => trivial) ⟨r, none, none, rfl, v1.at (by omega) (at_new _ _), rfl, by simpa using hr, v⟩ (fun done x rest ρ s ha ⟨m, a, b, hρ, hm, hml, hb, ev⟩ => by
      subst hρ
      obtain ⟨i, t1, f1, i0, i1, u1⟩ := take_of ev.jar (top := ((r.map D.int).length : Int)) (by rw [List.length_map]; omega) (log_ok (by rw [List.length_map]; omega) (by rw [List.length_map]; omega))
      rw [List.length_map] at i1
      have ei : ((i.toNat : Nat) : Int) = i := by omega
      have him : i.toNat < m.length := by omega
      have hm1 := u1.at (by omega) hm
      obtain ⟨dv, t2, f2, hd, u2⟩ := one_of (u1.jar.gr (Gr.app t1 [.lst [.int (-2), .int (-1), .int 1, .int 2]])) (k := t1.length) (by have := u1.jar.lt; omega) (at_new _ _) (by simp) (by simp)
      obtain ⟨c, rfl, c0, c1⟩ : ∃ c, dv = .int c ∧ -2 ≤ c ∧ c ≤ 2 := by
        simp only [List.mem_cons, List.mem_nil_iff, or_false] at hd
        rcases hd with rfl | rfl | rfl | rfl <;> exact ⟨_, rfl, by decide, by decide⟩
      have u := (ev.trans u1).gr (Gr.app t1 [.lst [.int (-2), .int (-1), .int 1, .int 2]])
      have u' := u.trans u2
      have hm2 := u2.at (by omega) ((Gr.app t1 [.lst [.int (-2), .int (-1), .int 1, .int 2]]).at hm1)
      have hat : atI (m.map D.int) i = some (.int m[i.toNat]) := by
        have h := atI_nat (m.map D.int) i.toNat (by rw [List.length_map]; exact him)
        rw [ei] at h
        rw [h]
        simp [him]
      have q1 : dIx (.loc st.length) (.int i) t1 = .ok (.int m[i.toNat]) t1 := l_ixl hm1 hat
      have q2 : dSetIx (.loc st.length) (.int i) (.int (m[i.toNat] + c)) t2 = some (t2.set st.length (.lst ((m.map D.int).set i.toNat (.int (m[i.toNat] + c))))) := l_set hm2 (by
        have h := ixN_nat (n := (m.map D.int).length) (q := i.toNat) (by rw [List.length_map]; exact him)
        rw [ei] at h
        exact h)
      refine ⟨[some (.loc j), some (rw' r), some (.loc st.length), some x, b], rfl, [some (.loc j), some (rw' r), some (.loc st.length), some x, some (.int i)], t2.set st.length (.lst ((m.map D.int).set i.toNat (.int (m[i.toNat] + c)))), x_seq (ρ' := [some (.loc j), some (rw' r), some (.loc st.length), some x, some (.int i)]) (st' := t1) ?_ ?_, m.set i.toNat (m[i.toNat] + c), _, _, rfl, ?_, ?_, ?_, ?_⟩
      · (repeat' first | with_reducible assumption | ((with_reducible apply x_var); rfl) | with_reducible exact x_c | with_reducible exact x_nil | with_reducible exact x_skip | with_reducible apply x_setE | exact SetTo.mk rfl | with_reducible apply x_exprE | exact EnvEq.mk rfl | with_reducible apply x_ret | with_reducible apply x_cons | with_reducible apply x_2 | with_reducible apply x_1 | with_reducible apply x_call | with_reducible apply x_fn | with_reducible apply x_tof | with_reducible apply x_tnot | with_reducible apply x_sl | with_reducible apply x_os | with_reducible apply x_tup | with_reducible apply x_lst | with_reducible apply x_sub | with_reducible exact x_on | with_reducible exact l_add | with_reducible exact l_sub | with_reducible exact l_neg | with_reducible exact l_lt | with_reducible exact l_le | with_reducible exact l_gt | with_reducible exact l_ge | with_reducible exact l_lent | with_reducible exact l_inti | with_reducible exact l_intb | with_reducible exact l_tup | with_reducible exact l_slt | with_reducible exact dEq_int _ _ _ | with_reducible exact dNe_int _ _ _ | with_reducible exact dEq_str _ _ _ | with_reducible exact dNe_str _ _ _ | exact Nat.le_of_ble_eq_true rfl)
      · (repeat' first | with_reducible assumption | ((with_reducible apply x_var); rfl) | with_reducible exact x_c | with_reducible exact x_nil | with_reducible exact x_skip | with_reducible apply x_setE | exact SetTo.mk rfl | with_reducible apply x_exprE | exact EnvEq.mk rfl | with_reducible apply x_ret | with_reducible apply x_cons | with_reducible apply x_2 | with_reducible apply x_1 | with_reducible apply x_call | with_reducible apply x_fn | with_reducible apply x_tof | with_reducible apply x_tnot | with_reducible apply x_sl | with_reducible apply x_os | with_reducible apply x_tup | with_reducible apply x_lst | with_reducible apply x_sub | with_reducible exact x_on | with_reducible exact l_add | with_reducible exact l_sub | with_reducible exact l_neg | with_reducible exact l_lt | with_reducible exact l_le | with_reducible exact l_gt | with_reducible exact l_ge | with_reducible exact l_lent | with_reducible exact l_inti | with_reducible exact l_intb | with_reducible exact l_tup | with_reducible exact l_slt | with_reducible exact dEq_int _ _ _ | with_reducible exact dNe_int _ _ _ | with_reducible exact dEq_str _ _ _ | with_reducible exact dNe_str _ _ _ | exact Nat.le_of_ble_eq_true rfl)
      · rw [List.getElem?_set_self (List.getElem?_eq_some_iff.mp hm2).1, List.map_set]
      · rw [List.length_set]; exact hml
      · intro z hz
        have hle : ((done ++ [x]).length : Int) = (done.length : Int) + 1 := by simp
        rw [hle]
        rcases List.mem_or_eq_of_mem_set hz with hz | rfl
        · have := hb z hz
          omega
        · have := hb m[i.toNat] (List.getElem_mem him)
          omega
      · exact u'.set (Nat.le_refl _) (by omega))
  refine ⟨m, st', x_body (x_seq z1 (x_seq e3 (x_ret (x_call (x_cons (x_var rfl) x_nil) (l_tupl (items_of hm)))))), fun z hz => ?_, by omega, v3⟩
  have := hb z hz
  have hle : ((irange 0 (1 + d).toNat).length : Int) ≤ 2 := by
    rw [irange_nat, List.length_map, List.length_range]
    omega
  omega
end Rol.G

namespace Rol.G
open PySem L2 PySem.Spec Rol
open PyProof.Rows hiding St

theorem lrow1 (x y : Int) (st : S) : ∃ st', d__law_row_of [.tup [.int x], .tup [.int y]] st = .ok (.tup [.int (sg x y)]) st' ∧ Gr st st' := lrow_of (a := [x]) (b := [y]) rfl (by simp) st
def stp (a b m : Int) (acc : List Int) (t : Int) : List Int := if sg m 0 = a ∧ sg t m = b ∧ sg t 0 ∉ acc then acc ++ [sg t 0] else acc
def rg : List Int := [-2, -1, 0, 1, 2]
def inn (a b : Int) (acc : List Int) (m : Int) : List Int := rg.foldl (stp a b m) acc
theorem stp_len (a b m : Int) (acc : List Int) (t : Int) : (stp a b m acc t).length ≤ acc.length + 1 := by
  unfold stp
  split
  · simp
  · omega
theorem dEq1 (x y : Int) (st : S) : dEq (.tup [.int x]) (.tup [.int y]) st = .ok (.bl (decide (x = y))) st := by
  have h := dEq_rw [x] [y] st
  rw [show decide ([x] = [y]) = decide (x = y) from decide_eq_decide.mpr (by simp)] at h
  exact h
noncomputable abbrev bodyT : DS := sSeq (sSet 5 (e2 dIx (eFn d__law_row_of (aCons (eTup (aCons (eVar 4) aNil)) (aCons (eTup (aCons (eC (.int 0)) aNil)) aNil))) (eC (.int 0)))) (sIf (tAndD (tOf (e2 dEq (eFn d__law_row_of (aCons (eTup (aCons (eVar 3) aNil)) (aCons (eTup (aCons (eC (.int 0)) aNil)) aNil))) (eTup (aCons (eVar 0) aNil)))) (tAndD (tOf (e2 dEq (eFn d__law_row_of (aCons (eTup (aCons (eVar 4) aNil)) (aCons (eTup (aCons (eVar 3) aNil)) aNil))) (eTup (aCons (eVar 1) aNil)))) (tOf (e2 (dIn true) (eVar 5) (eVar 2))))) (sExpr (eMt dAppend (eVar 2) (aCons (eVar 5) aNil))) sSkip)
/-- one try -/
theorem try1 {a b m t : Int} {q : Nat} {s0 s : S} {acc : List Int} {v5 : Option D} (hq : s0.length ≤ q) (g : Gr s0 s) (e : s[q]? = some (.lst (acc.map D.int))) (hl : acc.length < 1000) :
    ∃ v s', bodyT [some (.int a), some (.int b), some (.loc q), some (.int m), some (.int t), v5] s = .nx [some (.int a), some (.int b), some (.loc q), some (.int m), some (.int t), v] s' ∧ Gr s0 s' ∧ s'[q]? = some (.lst ((stp a b m acc t).map D.int)) := by
  obtain ⟨s1, e1', g1⟩ := lrow1 t 0 s
  have q1 : dIx (.tup [.int (sg t 0)]) (.int 0) s1 = .ok (.int (sg t 0)) s1 := l_ixt rfl
  obtain ⟨s2, e2', g2⟩ := lrow1 m 0 s1
  have z1 : sSet 5 (e2 dIx (eFn d__law_row_of (aCons (eTup (aCons (eVar 4) aNil)) (aCons (eTup (aCons (eC (.int 0)) aNil)) aNil))) (eC (.int 0))) [some (.int a), some (.int b), some (.loc q), some (.int m), some (.int t), v5] s = .nx [some (.int a), some (.int b), some (.loc q), some (.int m), some (.int t), some (.int (sg t 0))] s1 := by
    refine x_set ?_
    (repeat' first | with_reducible assumption | ((with_reducible apply x_var); rfl) | with_reducible exact x_c | with_reducible exact x_nil | with_reducible exact x_skip | with_reducible apply x_setE | exact SetTo.mk rfl | with_reducible apply x_exprE | exact EnvEq.mk rfl | with_reducible apply x_ret | with_reducible apply x_cons | with_reducible apply x_2 | with_reducible apply x_1 | with_reducible apply x_call | with_reducible apply x_fn | with_reducible apply x_tof | with_reducible apply x_tnot | with_reducible apply x_sl | with_reducible apply x_os | with_reducible apply x_tup | with_reducible apply x_lst | with_reducible apply x_sub | with_reducible exact x_on | with_reducible exact l_add | with_reducible exact l_sub | with_reducible exact l_neg | with_reducible exact l_lt | with_reducible exact l_le | with_reducible exact l_gt | with_reducible exact l_ge | with_reducible exact l_lent | with_reducible exact l_inti | with_reducible exact l_intb | with_reducible exact l_tup | with_reducible exact l_slt | with_reducible exact dEq_int _ _ _ | with_reducible exact dNe_int _ _ _ | with_reducible exact dEq_str _ _ _ | with_reducible exact dNe_str _ _ _ | exact Nat.le_of_ble_eq_true rfl)
  have q2 := dEq1 (sg m 0) a s2
  have c1 : tOf (e2 dEq (eFn d__law_row_of (aCons (eTup (aCons (eVar 3) aNil)) (aCons (eTup (aCons (eC (.int 0)) aNil)) aNil))) (eTup (aCons (eVar 0) aNil))) [some (.int a), some (.int b), some (.loc q), some (.int m), some (.int t), some (.int (sg t 0))] s1 = .ok (decide (sg m 0 = a)) s2 := by
    (repeat' first | with_reducible assumption | ((with_reducible apply x_var); rfl) | with_reducible exact x_c | with_reducible exact x_nil | with_reducible exact x_skip | with_reducible apply x_setE | exact SetTo.mk rfl | with_reducible apply x_exprE | exact EnvEq.mk rfl | with_reducible apply x_ret | with_reducible apply x_cons | with_reducible apply x_2 | with_reducible apply x_1 | with_reducible apply x_call | with_reducible apply x_fn | with_reducible apply x_tof | with_reducible apply x_tnot | with_reducible apply x_sl | with_reducible apply x_os | with_reducible apply x_tup | with_reducible apply x_lst | with_reducible apply x_sub | with_reducible exact x_on | with_reducible exact l_add | with_reducible exact l_sub | with_reducible exact l_neg | with_reducible exact l_lt | with_reducible exact l_le | with_reducible exact l_gt | with_reducible exact l_ge | with_reducible exact l_lent | with_reducible exact l_inti | with_reducible exact l_intb | with_reducible exact l_tup | with_reducible exact l_slt | with_reducible exact dEq_int _ _ _ | with_reducible exact dNe_int _ _ _ | with_reducible exact dEq_str _ _ _ | with_reducible exact dNe_str _ _ _ | exact Nat.le_of_ble_eq_true rfl)
  have g12 := g1.trans g2
  by_cases h1 : sg m 0 = a
  · obtain ⟨s3, e3', g3⟩ := lrow1 t m s2
    have g13 := g12.trans g3
    have q3 := dEq1 (sg t m) b s3
    have c2 : tOf (e2 dEq (eFn d__law_row_of (aCons (eTup (aCons (eVar 4) aNil)) (aCons (eTup (aCons (eVar 3) aNil)) aNil))) (eTup (aCons (eVar 1) aNil))) [some (.int a), some (.int b), some (.loc q), some (.int m), some (.int t), some (.int (sg t 0))] s2 = .ok (decide (sg t m = b)) s3 := by
      (repeat' first | with_reducible assumption | ((with_reducible apply x_var); rfl) | with_reducible exact x_c | with_reducible exact x_nil | with_reducible exact x_skip | with_reducible apply x_setE | exact SetTo.mk rfl | with_reducible apply x_exprE | exact EnvEq.mk rfl | with_reducible apply x_ret | with_reducible apply x_cons | with_reducible apply x_2 | with_reducible apply x_1 | with_reducible apply x_call | with_reducible apply x_fn | with_reducible apply x_tof | with_reducible apply x_tnot | with_reducible apply x_sl | with_reducible apply x_os | with_reducible apply x_tup | with_reducible apply x_lst | with_reducible apply x_sub | with_reducible exact x_on | with_reducible exact l_add | with_reducible exact l_sub | with_reducible exact l_neg | with_reducible exact l_lt | with_reducible exact l_le | with_reducible exact l_gt | with_reducible exact l_ge | with_reducible exact l_lent | with_reducible exact l_inti | with_reducible exact l_intb | with_reducible exact l_tup | with_reducible exact l_slt | with_reducible exact dEq_int _ _ _ | with_reducible exact dNe_int _ _ _ | with_reducible exact dEq_str _ _ _ | with_reducible exact dNe_str _ _ _ | exact Nat.le_of_ble_eq_true rfl)
    have e3 := g13.at e
    by_cases h2 : sg t m = b
    · have q4 := dIn_lint true (sg t 0) q acc s3 (items_of e3)
      have c3 : tOf (e2 (dIn true) (eVar 5) (eVar 2)) [some (.int a), some (.int b), some (.loc q), some (.int m), some (.int t), some (.int (sg t 0))] s3 = .ok (if true = true then !decide (sg t 0 ∈ acc) else decide (sg t 0 ∈ acc)) s3 := by
        (repeat' first | with_reducible assumption | ((with_reducible apply x_var); rfl) | with_reducible exact x_c | with_reducible exact x_nil | with_reducible exact x_skip | with_reducible apply x_setE | exact SetTo.mk rfl | with_reducible apply x_exprE | exact EnvEq.mk rfl | with_reducible apply x_ret | with_reducible apply x_cons | with_reducible apply x_2 | with_reducible apply x_1 | with_reducible apply x_call | with_reducible apply x_fn | with_reducible apply x_tof | with_reducible apply x_tnot | with_reducible apply x_sl | with_reducible apply x_os | with_reducible apply x_tup | with_reducible apply x_lst | with_reducible apply x_sub | with_reducible exact x_on | with_reducible exact l_add | with_reducible exact l_sub | with_reducible exact l_neg | with_reducible exact l_lt | with_reducible exact l_le | with_reducible exact l_gt | with_reducible exact l_ge | with_reducible exact l_lent | with_reducible exact l_inti | with_reducible exact l_intb | with_reducible exact l_tup | with_reducible exact l_slt | with_reducible exact dEq_int _ _ _ | with_reducible exact dNe_int _ _ _ | with_reducible exact dEq_str _ _ _ | with_reducible exact dNe_str _ _ _ | exact Nat.le_of_ble_eq_true rfl)
      have c := x_tandt c1 (decide_eq_true h1) (x_tandt c2 (decide_eq_true h2) c3)
      by_cases h3 : sg t 0 ∈ acc
      · refine ⟨_, s3, x_seq z1 (x_iff c (by simp [h3]) x_skip), g.trans g13, ?_⟩
        have es : stp a b m acc t = acc := by
          unfold stp
          rw [if_neg (fun h => h.2.2 h3)]
        rw [es]
        exact e3
      · have q5 : dAppend (.loc q) [.int (sg t 0)] s3 = .ok .non (s3.set q (.lst (acc.map D.int ++ [.int (sg t 0)]))) := l_app e3 (by rw [List.length_map]; exact Nat.lt_of_lt_of_le hl (by decide))
        refine ⟨_, s3.set q (.lst (acc.map D.int ++ [.int (sg t 0)])), x_seq z1 (x_ift c (by simp [h3]) (x_expr (x_mt (x_var rfl) (isLst_at e3) (x_cons (x_var rfl) x_nil) q5))), (g.trans g13).set hq, ?_⟩
        have es : stp a b m acc t = acc ++ [sg t 0] := by
          unfold stp
          rw [if_pos ⟨h1, h2, h3⟩]
        rw [es, List.getElem?_set_self (List.getElem?_eq_some_iff.mp e3).1]
        simp
    · refine ⟨_, s3, x_seq z1 (x_iff (x_tandt c1 (decide_eq_true h1) (x_tandf c2 (decide_eq_false h2))) rfl x_skip), g.trans g13, ?_⟩
      have es : stp a b m acc t = acc := by
        unfold stp
        rw [if_neg (fun h => h2 h.2.1)]
      rw [es]
      exact e3
  · refine ⟨_, s2, x_seq z1 (x_iff (x_tandf c1 (decide_eq_false h1)) rfl x_skip), g.trans g12, ?_⟩
    have es : stp a b m acc t = acc := by
      unfold stp
      rw [if_neg (fun h => h1 h.1)]
    rw [es]
    exact g12.at e
theorem fold_len {α : Type} (f : List Int → α → List Int) (c : Nat) (h : ∀ acc x, (f acc x).length ≤ acc.length + c) : ∀ (xs : List α) (acc : List Int), (xs.foldl f acc).length ≤ acc.length + c * xs.length
  | [], acc => by simp
  | x :: xs, acc => by
    have h1 := fold_len f c h xs (f acc x)
    have h2 := h acc x
    rw [List.foldl_cons, List.length_cons, Nat.mul_succ]
    omega
theorem inn_len (a b : Int) (acc : List Int) (m : Int) : (inn a b acc m).length ≤ acc.length + 5 := by
  have := fold_len (stp a b m) 1 (stp_len a b m) rg acc
  rw [show 1 * rg.length = 5 from rfl] at this
  exact this
theorem fold_take {α β : Type} (f : β → α → β) (b : β) (xs : List α) (n : Nat) (c : α) (h : xs.take (n + 1) = xs.take n ++ [c]) : (xs.take (n + 1)).foldl f b = f ((xs.take n).foldl f b) c := by
  rw [h, List.foldl_append]
  rfl
theorem walkT {a b m : Int} {q : Nat} {s0 s : S} {acc : List Int} {v4 v5 : Option D} (hq : s0.length ≤ q) (g : Gr s0 s) (e : s[q]? = some (.lst (acc.map D.int))) (hl : acc.length < 900) :
    ∃ w4 w5 s', sFor (iRg2 (aCons (e1 dNeg (eC (.int 2))) (aCons (eC (.int 3)) aNil))) (.nm 4) bodyT [some (.int a), some (.int b), some (.loc q), some (.int m), v4, v5] s = .nx [some (.int a), some (.int b), some (.loc q), some (.int m), w4, w5] s' ∧ Gr s0 s' ∧ s'[q]? = some (.lst ((inn a b acc m).map D.int)) := by
  have hi : iRg2 (aCons (e1 dNeg (eC (.int 2))) (aCons (eC (.int 3)) aNil)) [some (.int a), some (.int b), some (.loc q), some (.int m), v4, v5] s = .ok (rg.map D.int, none) s := by
    refine x_irg2 (i := -2) (j := 3) ?_ (by decide)
    (repeat' first | with_reducible assumption | ((with_reducible apply x_var); rfl) | with_reducible exact x_c | with_reducible exact x_nil | with_reducible exact x_skip | with_reducible apply x_setE | exact SetTo.mk rfl | with_reducible apply x_exprE | exact EnvEq.mk rfl | with_reducible apply x_ret | with_reducible apply x_cons | with_reducible apply x_2 | with_reducible apply x_1 | with_reducible apply x_call | with_reducible apply x_fn | with_reducible apply x_tof | with_reducible apply x_tnot | with_reducible apply x_sl | with_reducible apply x_os | with_reducible apply x_tup | with_reducible apply x_lst | with_reducible apply x_sub | with_reducible exact x_on | with_reducible exact l_add | with_reducible exact l_sub | with_reducible exact l_neg | with_reducible exact l_lt | with_reducible exact l_le | with_reducible exact l_gt | with_reducible exact l_ge | with_reducible exact l_lent | with_reducible exact l_inti | with_reducible exact l_intb | with_reducible exact l_tup | with_reducible exact l_slt | with_reducible exact dEq_int _ _ _ | with_reducible exact dNe_int _ _ _ | with_reducible exact dEq_str _ _ _ | with_reducible exact dNe_str _ _ _ | exact Nat.le_of_ble_eq_true rfl)
  obtain ⟨ρ', s', h1, ⟨w4, w5, rfl, h2, h3⟩⟩ := sFor_of (p := .nm 4) (bd := bodyT) (fun done ρ s => ∃ w4 w5, ρ = [some (.int a), some (.int b), some (.loc q), some (.int m), w4, w5] ∧ Gr s0 s ∧ s[q]? = some (.lst (((rg.take done.length).foldl (stp a b m) acc).map D.int)))
    hi (fun _ _ _ _ => trivial) ⟨v4, v5, rfl, g, e⟩ (fun done x rest ρ s ha ⟨w4, w5, hρ, h2, h3⟩ => by
      subst hρ
      obtain ⟨t, rfl, _, _, ht⟩ := split_at ha
      have hlen := fold_len (stp a b m) 1 (stp_len a b m) (rg.take done.length) acc
      have hlr : (rg.take done.length).length ≤ 5 := by rw [List.length_take]; exact Nat.min_le_right _ _
      obtain ⟨v, s', k1, k2, k3⟩ := try1 (a := a) (b := b) (m := m) (t := t) (v5 := w5) hq h2 h3 (by omega)
      exact ⟨_, rfl, _, s', k1, _, _, rfl, k2, by rw [List.length_append, List.length_singleton, fold_take _ _ _ _ _ ht]; exact k3⟩)
  exact ⟨w4, w5, s', h1, h2, h3⟩
theorem tried_all {a b : Int} (ha : Sgn a) (hb : Sgn b) : (ss a b).Perm (rg.foldl (inn a b) []) := by
  rcases ha with rfl | rfl | rfl <;> rcases hb with rfl | rfl | rfl <;> decide
theorem tried_of {a b : Int} (ha : Sgn a) (hb : Sgn b) (st : S) : ∃ k st', d__law_tried [.int a, .int b] st = .ok (.loc k) st' ∧ Gr st st' ∧ st.length ≤ k ∧ st'[k]? = some (.lst ((ss a b).map D.int)) := by
  have hi : iRg2 (aCons (e1 dNeg (eC (.int 2))) (aCons (eC (.int 3)) aNil)) [some (.int a), some (.int b), some (.loc st.length), none, none, none] (st ++ [.lst []]) = .ok (rg.map D.int, none) (st ++ [.lst []]) := by
    refine x_irg2 (i := -2) (j := 3) ?_ (by decide)
    (repeat' first | with_reducible assumption | ((with_reducible apply x_var); rfl) | with_reducible exact x_c | with_reducible exact x_nil | with_reducible exact x_skip | with_reducible apply x_setE | exact SetTo.mk rfl | with_reducible apply x_exprE | exact EnvEq.mk rfl | with_reducible apply x_ret | with_reducible apply x_cons | with_reducible apply x_2 | with_reducible apply x_1 | with_reducible apply x_call | with_reducible apply x_fn | with_reducible apply x_tof | with_reducible apply x_tnot | with_reducible apply x_sl | with_reducible apply x_os | with_reducible apply x_tup | with_reducible apply x_lst | with_reducible apply x_sub | with_reducible exact x_on | with_reducible exact l_add | with_reducible exact l_sub | with_reducible exact l_neg | with_reducible exact l_lt | with_reducible exact l_le | with_reducible exact l_gt | with_reducible exact l_ge | with_reducible exact l_lent | with_reducible exact l_inti | with_reducible exact l_intb | with_reducible exact l_tup | with_reducible exact l_slt | with_reducible exact dEq_int _ _ _ | with_reducible exact dNe_int _ _ _ | with_reducible exact dEq_str _ _ _ | with_reducible exact dNe_str _ _ _ | exact Nat.le_of_ble_eq_true rfl)
  obtain ⟨ρ', s', h1, ⟨w3, w4, w5, rfl, h2, h3⟩⟩ := sFor_of (p := .nm 3) (bd := sFor (iRg2 (aCons (e1 dNeg (eC (.int 2))) (aCons (eC (.int 3)) aNil))) (.nm 4) bodyT) (fun done ρ s => ∃ w3 w4 w5, ρ = [some (.int a), some (.int b), some (.loc st.length), w3, w4, w5] ∧ Gr st s ∧ s[st.length]? = some (.lst (((rg.take done.length).foldl (inn a b) []).map D.int)))
    hi (fun _ _ _ _ => trivial) ⟨none, none, none, rfl, Gr.app _ _, at_new _ _⟩ (fun done x rest ρ s hd ⟨w3, w4, w5, hρ, h2, h3⟩ => by
      subst hρ
      obtain ⟨t, rfl, _, _, ht⟩ := split_at hd
      have hlen := fold_len (inn a b) 5 (inn_len a b) (rg.take done.length) []
      have hlr : (rg.take done.length).length ≤ 5 := by rw [List.length_take]; exact Nat.min_le_right _ _
      obtain ⟨v4, v5, s', k1, k2, k3⟩ := walkT (a := a) (b := b) (m := t) (v4 := w4) (v5 := w5) (Nat.le_refl _) h2 h3 (by rw [List.length_nil] at hlen; omega)
      exact ⟨_, rfl, _, s', k1, _, _, _, rfl, k2, by rw [List.length_append, List.length_singleton, fold_take _ _ _ _ _ ht]; exact k3⟩)
  have hf : (rg.map D.int).length = 5 := rfl
  rw [hf, show rg.take 5 = rg from rfl] at h3
  have hs : sortP s' ((rg.foldl (inn a b) []).map D.int) = some ((ss a b).map D.int) := sortP_ints (by
      have := fold_len (inn a b) 5 (inn_len a b) rg []
      exact Nat.le_trans this (by decide)) (tried_all ha hb) ((ss_sorted a b).imp fun h => Int.le_of_lt h)
  have q1 : dSorted [.loc st.length] s' = .ok (.loc s'.length) (s' ++ [.lst ((ss a b).map D.int)]) := by
    unfold dSorted
    simp only [items_of h3, hs]
  refine ⟨s'.length, s' ++ [.lst ((ss a b).map D.int)], x_body ?_, h2.trans (Gr.app _ _), h2.le, at_new _ _⟩
  show m__law_tried [some (.int a), some (.int b), none, none, none, none] st = _
  unfold m__law_tried
  refine x_seq (ρ' := [some (.int a), some (.int b), some (.loc st.length), none, none, none]) (st' := st ++ [.lst []]) (x_set (ρ := [some (.int a), some (.int b), none, none, none, none]) (x_lst x_nil (by decide))) ?_
  refine x_seq h1 ?_
  exact x_ret (x_call (x_cons (x_var rfl) x_nil) q1)
end Rol.G

namespace Rol.G
open PySem L2 PySem.Spec Rol
open PyProof.Rows hiding St

theorem flat_len {α β : Type} (f : α → List β) (c : Nat) : ∀ xs : List α, (∀ x ∈ xs, (f x).length ≤ c) → (xs.flatMap f).length ≤ c * xs.length
  | [], _ => by simp
  | x :: xs, h => by
    have h1 := h x (List.mem_cons_self ..)
    have h2 := flat_len f c xs fun y hy => h y (List.mem_cons_of_mem _ hy)
    rw [List.flatMap_cons, List.length_append, List.length_cons, Nat.mul_succ]
    omega
theorem flat_take {α β : Type} (f : α → List β) (xs : List α) (n : Nat) (c : α) (h : xs.take (n + 1) = xs.take n ++ [c]) : (xs.take (n + 1)).flatMap f = (xs.take n).flatMap f ++ f c := by
  rw [h, List.flatMap_append, List.flatMap_cons, List.flatMap_nil, List.append_nil]
theorem map_add (r c : List Int) : (c.map D.int).map (addD (rw' r)) = (c.map fun z => r ++ [z]).map rw' := by
  rw [List.map_map, List.map_map]
  congr 1
  funext z
  simp [addD]
noncomputable abbrev bodyS : DS := sExpr (eMt dExtend (eVar 4) (aCons (eComp (iSeq (eVar 5)) (.nm 7) [7] tYesD (e2 dAdd (eVar 6) (eTup (aCons (eVar 7) aNil)))) aNil))
theorem inner_ts {A B I v6 : Option D} {q q2 k5 : Nat} {s0 s : S} {rs : List (List Int)} {c : List Int} (hq : s0.length ≤ q2) (n1 : q ≠ q2) (n2 : k5 ≠ q2) (g : Gr s0 s) (eq : s[q]? = some (.lst (rs.map rw'))) (e5 : s[k5]? = some (.lst (c.map D.int))) (eq2 : s[q2]? = some (.lst []))
    (hrl : ∀ r ∈ rs, r.length ≤ 6) (hc : c.length ≤ 3) (hrs : rs.length ≤ 729) :
    ∃ v s', sFor (iSeq (eVar 2)) (.nm 6) bodyS [A, B, some (.loc q), I, some (.loc q2), some (.loc k5), v6, none] s = .nx [A, B, some (.loc q), I, some (.loc q2), some (.loc k5), v, none] s' ∧ Gr s0 s' ∧ s'[q2]? = some (.lst ((rs.flatMap fun r => c.map fun z => r ++ [z]).map rw')) := by
  have hi : iSeq (eVar 2) [A, B, some (.loc q), I, some (.loc q2), some (.loc k5), v6, none] s = .ok (rs.map rw', some q) s := x_iseql (x_var rfl) (items_of eq)
  obtain ⟨ρ', s', h1, ⟨v, rfl, h2, h3, h4, h5⟩⟩ := sFor_of (p := .nm 6) (bd := bodyS) (fun done ρ s => ∃ v, ρ = [A, B, some (.loc q), I, some (.loc q2), some (.loc k5), v, none] ∧ Gr s0 s ∧ s[q]? = some (.lst (rs.map rw')) ∧ s[k5]? = some (.lst (c.map D.int)) ∧ s[q2]? = some (.lst (((rs.take done.length).flatMap fun r => c.map fun z => r ++ [z]).map rw')))
    hi (fun done ρ s ⟨_, _, _, h, _⟩ => items_of h) ⟨v6, rfl, g, eq, e5, by rw [eq2]; rfl⟩ (fun done x rest ρ s hd ⟨v, hρ, h2, h3, h4, h5⟩ => by
      subst hρ
      obtain ⟨r, rfl, hr, _, ht⟩ := split_at hd
      have hr6 := hrl r hr
      obtain ⟨s1, c1, g1, d1⟩ := eComp_gr (mi := iSeq (eVar 5)) (p := .nm 7) (vs := [7]) (elt := e2 dAdd (eVar 6) (eTup (aCons (eVar 7) aNil))) (ρ := [A, B, some (.loc q), I, some (.loc q2), some (.loc k5), some (rw' r), none]) (st := s) (addD (rw' r)) (x_iseql (x_var rfl) (items_of h4)) (items_of h4) (by
          rw [List.length_map]
          exact Nat.le_trans hc (by decide)) (fun y hy s1 hs1 => by
          obtain ⟨z, _, rfl⟩ := List.mem_map.mp hy
          have q1 : dAdd (rw' r) (.tup [.int z]) s1 = .ok (addD (rw' r) (.int z)) s1 := l_addt (by
            rw [List.length_map]
            exact Nat.le_trans (Nat.add_le_add_right hr6 1) (by decide))
          refine ⟨[A, B, some (.loc q), I, some (.loc q2), some (.loc k5), some (rw' r), some (.int z)], s1, rfl, ?_, Gr.refl _⟩
          (repeat' first | with_reducible assumption | ((with_reducible apply x_var); rfl) | with_reducible exact x_c | with_reducible exact x_nil | with_reducible exact x_skip | with_reducible apply x_setE | exact SetTo.mk rfl | with_reducible apply x_exprE | exact EnvEq.mk rfl | with_reducible apply x_ret | with_reducible apply x_cons | with_reducible apply x_2 | with_reducible apply x_1 | with_reducible apply x_call | with_reducible apply x_fn | with_reducible apply x_tof | with_reducible apply x_tnot | with_reducible apply x_sl | with_reducible apply x_os | with_reducible apply x_tup | with_reducible apply x_lst | with_reducible apply x_sub | with_reducible exact x_on | with_reducible exact l_add | with_reducible exact l_sub | with_reducible exact l_neg | with_reducible exact l_lt | with_reducible exact l_le | with_reducible exact l_gt | with_reducible exact l_ge | with_reducible exact l_lent | with_reducible exact l_inti | with_reducible exact l_intb | with_reducible exact l_tup | with_reducible exact l_slt | with_reducible exact dEq_int _ _ _ | with_reducible exact dNe_int _ _ _ | with_reducible exact dEq_str _ _ _ | with_reducible exact dNe_str _ _ _ | exact Nat.le_of_ble_eq_true rfl))
      rw [map_add] at d1
      have l1 := flat_len (fun r => c.map fun z => r ++ [z]) 3 (rs.take done.length) (fun x _ => by rw [List.length_map]; exact hc)
      have l2 : (rs.take done.length).length ≤ 729 := Nat.le_trans (by rw [List.length_take]; exact Nat.min_le_right _ _) hrs
      have e3 := l_extl (g1.at h5) d1 (by
        rw [List.length_map, List.length_map, List.length_map]
        exact Nat.le_trans (by omega : _ ≤ 3000) (by decide))
      have hlt : q2 < s1.length := (List.getElem?_eq_some_iff.mp (g1.at h5)).1
      refine ⟨[A, B, some (.loc q), I, some (.loc q2), some (.loc k5), some (rw' r), none], rfl, _, _, x_expr (x_mt (x_var rfl) (isLst_at h5) (x_cons c1 x_nil) e3), _, rfl, (h2.trans g1).set hq, ?_, ?_, ?_⟩
      · rw [List.getElem?_set_ne (Ne.symm n1)]
        exact g1.at h3
      · rw [List.getElem?_set_ne (Ne.symm n2)]
        exact g1.at h4
      · rw [List.getElem?_set_self hlt, List.length_append, List.length_singleton, flat_take _ _ _ _ ht, List.map_append])
  rw [List.length_map, List.take_length] at h5
  exact ⟨v, s', h1, h2, h5⟩
theorem tried_sums {a b : List Int} (ha : Sr a) (hb : Sr b) (hab : a.length = b.length) (hl : a.length ≤ 6) (st : S) : ∃ st', d__law_tried_sums [rw' a, rw' b] st = .ok (rows' (prod (List.zipWith ss a b))) st' ∧ Gr st st' := by
  have hz : (List.zipWith ss a b).length = a.length := by rw [List.length_zipWith]; omega
  have h3 : ∀ c ∈ List.zipWith ss a b, c.length ≤ 3 := fun c hc => (zip_len3 a b c hc).1
  have hi : iRg1 (aCons (eCall dLen (aCons (eVar 0) aNil)) aNil) [some (rw' a), some (rw' b), some (.loc st.length), none, none, none, none, none] (st ++ [.lst [rw' []]]) = .ok ((List.range a.length).map fun (i : Nat) => D.int (i : Int), none) (st ++ [.lst [rw' []]]) := by
    have h := x_irg1 (l := aCons (eCall dLen (aCons (eVar 0) aNil)) aNil) (ρ := [some (rw' a), some (rw' b), some (.loc st.length), none, none, none, none, none]) (st := st ++ [.lst [rw' []]]) (s1 := st ++ [.lst [rw' []]]) (j := ((a.map D.int).length : Int)) (x_cons (x_call (x_cons (x_var rfl) x_nil) l_lent) x_nil) (by omega) (by rw [List.length_map]; omega)
    rw [List.length_map, Int.toNat_natCast, irange_nat] at h
    exact h
  obtain ⟨ρ', s', h1, ⟨q, v3, v4, v5, v6, rfl, h2, h4⟩⟩ := sFor_of (p := .nm 3) (bd := sSeq (sPar [4, 5] (aCons (eLst aNil) (aCons (eFn d__law_tried (aCons (e2 dIx (eVar 0) (eVar 3)) (aCons (e2 dIx (eVar 1) (eVar 3)) aNil))) aNil))) (sSeq (sFor (iSeq (eVar 2)) (.nm 6) bodyS) (sSet 2 (eVar 4))))
    (fun done ρ s => ∃ q v3 v4 v5 v6, ρ = [some (rw' a), some (rw' b), some (.loc q), v3, v4, v5, v6, none] ∧ Gr st s ∧ s[q]? = some (.lst ((prod ((List.zipWith ss a b).take done.length)).map rw')))
    hi (fun _ _ _ _ => trivial) ⟨_, none, none, none, none, rfl, Gr.app _ _, by simp [prod]⟩ (fun done x rest ρ s hd ⟨q, v3, v4, v5, v6, hρ, h2, h4⟩ => by
      subst hρ
      obtain ⟨i, rfl, hi, hdi, _⟩ := split_at hd
      rw [List.mem_range] at hi
      have hid : done.length = i := by
        have hh := (List.getElem?_eq_some_iff.mp hdi)
        obtain ⟨hh1, hh2⟩ := hh
        rw [List.getElem_range] at hh2
        exact hh2
      have hib : i < b.length := by omega
      have q1 : dIx (rw' a) (.int (i : Int)) (s ++ [.lst []]) = .ok (.int a[i]) (s ++ [.lst []]) := l_ixt (by rw [atI_nat _ _ (by rw [List.length_map]; exact hi)]; simp [hi])
      have q2 : dIx (rw' b) (.int (i : Int)) (s ++ [.lst []]) = .ok (.int b[i]) (s ++ [.lst []]) := l_ixt (by rw [atI_nat _ _ (by rw [List.length_map]; exact hib)]; simp [hib])
      obtain ⟨k5, s1, f1, g1, hk5, f2⟩ := tried_of (ha a[i] (List.getElem_mem hi)) (hb b[i] (List.getElem_mem hib)) (s ++ [.lst []])
      have g01 := (Gr.app s [.lst []]).trans g1
      rw [List.length_append, List.length_singleton] at hk5
      have hqs : q < s.length := (List.getElem?_eq_some_iff.mp h4).1
      have hsz := prod_sz h3 (by omega) done.length
      have hw : ∀ r ∈ prod ((List.zipWith ss a b).take done.length), r.length ≤ 6 := fun r hr => by
        rw [prod_wide _ _ hr, List.length_take]
        omega
      obtain ⟨v, s2, f3, g2, f4⟩ := inner_ts (A := some (rw' a)) (B := some (rw' b)) (I := some (.int (i : Int))) (v6 := v6) (q := q) (q2 := s.length) (k5 := k5) (s0 := s) (Nat.le_refl _) (by omega) (by omega) g01 (g01.at h4) f2 (g1.at (at_new _ _)) hw (ss_len _ _) hsz
      have hci : (List.zipWith ss a b)[i]? = some (ss a[i] b[i]) := by
        rw [List.getElem?_eq_getElem (by rw [List.length_zipWith]; omega), List.getElem_zipWith]
      have ht : (List.zipWith ss a b).take (i + 1) = (List.zipWith ss a b).take i ++ [ss a[i] b[i]] := by
        rw [List.take_succ, hci]
        rfl
      refine ⟨[some (rw' a), some (rw' b), some (.loc q), some (.int (i : Int)), v4, v5, v6, none], rfl, [some (rw' a), some (rw' b), some (.loc s.length), some (.int (i : Int)), some (.loc s.length), some (.loc k5), v, none], s2, x_seq (ρ' := [some (rw' a), some (rw' b), some (.loc q), some (.int (i : Int)), some (.loc s.length), some (.loc k5), v6, none]) (st' := s1) (x_par2 (i := 4) (j := 5) (ρ := [some (rw' a), some (rw' b), some (.loc q), some (.int (i : Int)), v4, v5, v6, none]) (x := .loc s.length) (y := .loc k5) ?_) (x_seq f3 (x_set (x_var rfl))), s.length, _, _, _, _, rfl, h2.trans g2, ?_⟩
      · (repeat' first | with_reducible assumption | ((with_reducible apply x_var); rfl) | with_reducible exact x_c | with_reducible exact x_nil | with_reducible exact x_skip | with_reducible apply x_setE | exact SetTo.mk rfl | with_reducible apply x_exprE | exact EnvEq.mk rfl | with_reducible apply x_ret | with_reducible apply x_cons | with_reducible apply x_2 | with_reducible apply x_1 | with_reducible apply x_call | with_reducible apply x_fn | with_reducible apply x_tof | with_reducible apply x_tnot | with_reducible apply x_sl | with_reducible apply x_os | with_reducible apply x_tup | with_reducible apply x_lst | with_reducible apply x_sub | with_reducible exact x_on | with_reducible exact l_add | with_reducible exact l_sub | with_reducible exact l_neg | with_reducible exact l_lt | with_reducible exact l_le | with_reducible exact l_gt | with_reducible exact l_ge | with_reducible exact l_lent | with_reducible exact l_inti | with_reducible exact l_intb | with_reducible exact l_tup | with_reducible exact l_slt | with_reducible exact dEq_int _ _ _ | with_reducible exact dNe_int _ _ _ | with_reducible exact dEq_str _ _ _ | with_reducible exact dNe_str _ _ _ | exact Nat.le_of_ble_eq_true rfl)
      · rw [f4, List.length_append, List.length_singleton, hid, ht, prod_snoc])
  rw [List.length_map, List.length_range, ← hz, List.take_length] at h4
  refine ⟨s', x_body ?_, h2⟩
  show m__law_tried_sums [some (rw' a), some (rw' b), none, none, none, none, none, none] st = _
  unfold m__law_tried_sums
  refine x_seq (ρ' := [some (rw' a), some (rw' b), some (.loc st.length), none, none, none, none, none]) (st' := st ++ [.lst [rw' []]]) (x_set (ρ := [some (rw' a), some (rw' b), none, none, none, none, none, none]) (x_lst (x_cons (x_tup x_nil (by decide)) x_nil) (by decide))) ?_
  refine x_seq h1 ?_
  exact x_ret (x_call (x_cons (x_var rfl) x_nil) (l_tupl (items_of h4)))

/-! ### rows each once, rising -/
def ddR (acc : List (List Int)) (r : List Int) : List (List Int) := if r ∈ acc then acc else acc ++ [r]
def dedR (rs : List (List Int)) : List (List Int) := rs.foldl ddR []
theorem dedR_props : ∀ (rs acc : List (List Int)), acc.Nodup → (rs.foldl ddR acc).Nodup ∧ (∀ x, x ∈ rs.foldl ddR acc ↔ x ∈ acc ∨ x ∈ rs) ∧ (rs.foldl ddR acc).length ≤ acc.length + rs.length
  | [], acc, h => ⟨h, fun x => by simp, by simp⟩
  | r :: rs, acc, h => by
    rw [List.foldl_cons]
    by_cases hr : r ∈ acc
    · have e : ddR acc r = acc := if_pos hr
      rw [e]
      obtain ⟨h1, h2, h3⟩ := dedR_props rs acc h
      refine ⟨h1, fun x => ?_, by rw [List.length_cons]; omega⟩
      rw [h2, List.mem_cons]
      constructor
      · rintro (k | k)
        · exact .inl k
        · exact .inr (.inr k)
      · rintro (k | k | k)
        · exact .inl k
        · exact .inl (k ▸ hr)
        · exact .inr k
    · have e : ddR acc r = acc ++ [r] := if_neg hr
      rw [e]
      obtain ⟨h1, h2, h3⟩ := dedR_props rs (acc ++ [r]) (by
        rw [List.nodup_append]
        exact ⟨h, by simp, fun a ha b hb => by
          rw [List.mem_singleton] at hb
          intro q
          exact hr (hb ▸ q ▸ ha)⟩)
      refine ⟨h1, fun x => ?_, by rw [List.length_append, List.length_singleton] at h3; rw [List.length_cons]; omega⟩
      rw [h2, List.mem_cons, List.mem_append, List.mem_singleton]
      constructor
      · rintro ((k | k) | k)
        · exact .inl k
        · exact .inr (.inl k)
        · exact .inr (.inr k)
      · rintro (k | k | k)
        · exact .inl (.inl k)
        · exact .inl (.inr k)
        · exact .inr k
noncomputable def srt (rs : List (List Int)) : List (List Int) := (dedR rs).mergeSort rle
theorem srt_eq {rs qs : List (List Int)} (h : ∀ x, x ∈ rs ↔ x ∈ qs) : srt rs = srt qs := by
  obtain ⟨a1, a2, _⟩ := dedR_props rs [] (by simp)
  obtain ⟨b1, b2, _⟩ := dedR_props qs [] (by simp)
  have hp : (dedR rs).Perm (dedR qs) := (List.perm_ext_iff_of_nodup a1 b1).mpr fun x => by
    rw [a2, b2]
    simp [h]
  exact sort_rows ((List.mergeSort_perm _ _).trans hp.symm) (PySem.W.sort_pairwise rle_total _)
def kF (r : List Int) : List Key × D := (r.map Sum.inl, rw' r)
theorem keys_rows : ∀ rs : List (List Int), pairKeys (rs.map fun r => .tup [rw' r, .bl true]) = some (rs.map kF)
  | [] => rfl
  | r :: rs => by
    have e : keyD (rw' r) = some (r.map Sum.inl) := optAll_map r fun x _ => rfl
    rw [List.map_cons, pairKeys, e, keys_rows rs]
    rfl
theorem inl_inj : ∀ a b : List Int, a.map (Sum.inl : Int → Key) = b.map Sum.inl → a = b
  | [], [], _ => rfl
  | [], _ :: _, h => by simp at h
  | _ :: _, [], h => by simp at h
  | x :: a, y :: b, h => by
    rw [List.map_cons, List.map_cons, List.cons.injEq] at h
    rw [Sum.inl.inj h.1, inl_inj a b h.2]
theorem dd_rows (acc : List (List Int)) (r : List Int) : dd (acc.map kF) (kF r) = (ddR acc r).map kF := by
  have e : ((acc.map kF).any fun q => decide (q.1 = (kF r).1)) = decide (r ∈ acc) := by
    rw [Bool.eq_iff_iff, List.any_eq_true, decide_eq_true_eq]
    constructor
    · rintro ⟨q, hq, hd⟩
      obtain ⟨p, hp, rfl⟩ := List.mem_map.mp hq
      have := inl_inj _ _ (of_decide_eq_true hd)
      exact this ▸ hp
    · intro h
      exact ⟨kF r, List.mem_map.mpr ⟨r, h, rfl⟩, by simp⟩
  unfold dd ddR
  rw [e]
  by_cases h : r ∈ acc
  · rw [if_pos (decide_eq_true h), if_pos h]
  · rw [if_neg (by simp [h]), if_neg h, List.map_append]
    rfl
theorem dedup_rows : ∀ (rs acc : List (List Int)), (rs.map kF).foldl dd (acc.map kF) = (rs.foldl ddR acc).map kF
  | [], _ => rfl
  | r :: rs, acc => by rw [List.map_cons, List.foldl_cons, List.foldl_cons, dd_rows, dedup_rows rs]
def prD : D → D
  | d => .tup [d, .bl true]
theorem in_rows {rs : List (List Int)} {k : Nat} {st : S} (e : st[k]? = some (.lst (rs.map rw'))) (hne : ∀ r ∈ rs, r ≠ []) (hl : rs.length ≤ 1000) : ∃ st', d__law_in_rows [.loc k] st = .ok (rows' (srt rs)) st' ∧ Gr st st' := by
  obtain ⟨s1, c1, g1, d1⟩ := eComp_gr (mi := iSeq (eVar 0)) (p := .nm 1) (vs := [1]) (elt := eTup (aCons (eVar 1) (aCons (eC (.bl true)) aNil))) (ρ := [some (.loc k), none]) (st := st) prD (x_iseql (x_var rfl) (items_of e)) (items_of e) (by
    rw [List.length_map]
    exact Nat.le_trans hl (by decide)) (fun y hy s1 hs1 => by
    refine ⟨[some (.loc k), some y], s1, rfl, ?_, Gr.refl _⟩
    show _ = Res.ok (D.tup [y, .bl true]) s1
    (repeat' first | with_reducible assumption | ((with_reducible apply x_var); rfl) | with_reducible exact x_c | with_reducible exact x_nil | with_reducible exact x_skip | with_reducible apply x_setE | exact SetTo.mk rfl | with_reducible apply x_exprE | exact EnvEq.mk rfl | with_reducible apply x_ret | with_reducible apply x_cons | with_reducible apply x_2 | with_reducible apply x_1 | with_reducible apply x_call | with_reducible apply x_fn | with_reducible apply x_tof | with_reducible apply x_tnot | with_reducible apply x_sl | with_reducible apply x_os | with_reducible apply x_tup | with_reducible apply x_lst | with_reducible apply x_sub | with_reducible exact x_on | with_reducible exact l_add | with_reducible exact l_sub | with_reducible exact l_neg | with_reducible exact l_lt | with_reducible exact l_le | with_reducible exact l_gt | with_reducible exact l_ge | with_reducible exact l_lent | with_reducible exact l_inti | with_reducible exact l_intb | with_reducible exact l_tup | with_reducible exact l_slt | with_reducible exact dEq_int _ _ _ | with_reducible exact dNe_int _ _ _ | with_reducible exact dEq_str _ _ _ | with_reducible exact dNe_str _ _ _ | exact Nat.le_of_ble_eq_true rfl))
  have em : (rs.map rw').map prD = rs.map fun r => D.tup [rw' r, .bl true] := by
    rw [List.map_map]
    rfl
  rw [em] at d1
  obtain ⟨a1, a2, a3⟩ := dedR_props rs [] (by simp)
  have hs : sortP s1 ((dedup (rs.map kF)).map (·.2)) = some ((srt rs).map rw') := by
    have hd : dedup (rs.map kF) = (dedR rs).map kF := dedup_rows rs []
    rw [hd, List.map_map]
    refine sortP_rows (fun r hr => hne r ?_) (Nat.le_trans a3 (by rw [List.length_nil]; exact Nat.le_trans (by omega : 0 + rs.length ≤ 1000) (by decide))) (List.mergeSort_perm _ _) (PySem.W.sort_pairwise rle_total _)
    have := (a2 r).mp hr
    simpa using this
  have hsd : dSortDict [.loc st.length] s1 = .ok (.loc s1.length) (s1 ++ [.lst ((srt rs).map rw')]) := by
    unfold dSortDict
    simp only [items_of d1, keys_rows, hs]
  refine ⟨s1 ++ [.lst ((srt rs).map rw')], x_body (x_ret (x_call (x_cons (s1 := s1 ++ [.lst ((srt rs).map rw')]) (x := .loc s1.length) ?_ x_nil) (l_tupl (items_of (at_new _ _))))), g1.trans (Gr.app _ _)⟩
  unfold eSortDict
  exact (congrArg (fun r : Res D => r.bind fun x st => dSortDict [x] st) c1).trans hsd
theorem behind_of {rs : List (List Int)} {c : List Int} (hr : ∀ r ∈ rs, r.length ≤ 3) (hrs : rs.length ≤ 27) (hne : ∀ r ∈ rs, ∀ x ∈ prod (List.zipWith ss r c), x ≠ []) (st : S) : ∃ st', d__law_behind [rows' rs, rw' c] st = .ok (rows' (srt (rs.flatMap fun r => prod (List.zipWith ss r c)))) st' ∧ Gr st st' := by
  have hp : ∀ r ∈ rs, (prod (List.zipWith ss r c)).length ≤ 27 := fun r h => by
    refine Nat.le_trans (prod_len _ fun d hd => (zip_len3 r c d hd).1) (Nat.pow_le_pow_right (by decide) (?_ : _ ≤ 3))
    rw [List.length_zipWith]
    have := hr r h
    omega
  have hi : iSeq (eVar 0) [some (rows' rs), some (rw' c), some (.loc st.length), none] (st ++ [.lst []]) = .ok (rs.map rw', none) (st ++ [.lst []]) := x_iseq (x_var rfl)
  obtain ⟨ρ', s', h1, ⟨v, rfl, h2, h3⟩⟩ := sFor_of (p := .nm 3) (bd := sExpr (eMt dExtend (eVar 2) (aCons (eFn d_sums (aCons (eVar 3) (aCons (eVar 1) aNil))) aNil)))
    (fun done ρ s => ∃ v, ρ = [some (rows' rs), some (rw' c), some (.loc st.length), v] ∧ Gr st s ∧ s[st.length]? = some (.lst (((rs.take done.length).flatMap fun r => prod (List.zipWith ss r c)).map rw')))
    hi (fun _ _ _ _ => trivial) ⟨none, rfl, Gr.app _ _, by simp⟩ (fun done x rest ρ s hd ⟨v, hρ, h2, h3⟩ => by
      subst hρ
      obtain ⟨r, rfl, hrm, _, ht⟩ := split_at hd
      obtain ⟨s1, f1, g1⟩ := sums_of (a := r) (b := c) (Nat.le_trans (hr r hrm) (by decide)) s
      have l1 := flat_len (fun r => prod (List.zipWith ss r c)) 27 (rs.take done.length) (fun x hx => hp x (List.mem_of_mem_take hx))
      have l2 : (rs.take done.length).length ≤ 27 := Nat.le_trans (by rw [List.length_take]; exact Nat.min_le_right _ _) hrs
      have l3 := hp r hrm
      have e3 := l_extt (ys := (prod (List.zipWith ss r c)).map rw') (g1.at h3) (by
        rw [List.length_map, List.length_map]
        exact Nat.le_trans (by omega : _ ≤ 1000) (by decide))
      have hlt : st.length < s1.length := (List.getElem?_eq_some_iff.mp (g1.at h3)).1
      refine ⟨[some (rows' rs), some (rw' c), some (.loc st.length), some (rw' r)], rfl, _, _, x_expr (x_mt (x_var rfl) (isLst_at h3) (x_cons (x_fn (x_cons (x_var rfl) (x_cons (x_var rfl) x_nil)) f1) x_nil) e3), _, rfl, (h2.trans g1).set (Nat.le_refl _), ?_⟩
      rw [List.getElem?_set_self hlt, List.length_append, List.length_singleton, flat_take _ _ _ _ ht, List.map_append])
  rw [List.length_map, List.take_length] at h3
  obtain ⟨s2, f2, g2⟩ := in_rows h3 (fun x hx => by
    obtain ⟨r, hr, hx⟩ := List.mem_flatMap.mp hx
    exact hne r hr x hx) (Nat.le_trans (flat_len _ 27 rs hp) (by omega))
  exact ⟨s2, x_body (x_seq (ρ' := [some (rows' rs), some (rw' c), some (.loc st.length), none]) (st' := st ++ [.lst []]) (x_set (x_lst x_nil (by decide))) (x_seq h1 (x_ret (x_fn (x_cons (x_var rfl) x_nil) f2)))), h2.trans g2⟩
theorem ahead_of {rs : List (List Int)} {c : List Int} (hc : c.length ≤ 3) (hrs : rs.length ≤ 27) (hne : ∀ r ∈ rs, ∀ x ∈ prod (List.zipWith ss c r), x ≠ []) (st : S) : ∃ st', d__law_ahead [rw' c, rows' rs] st = .ok (rows' (srt (rs.flatMap fun r => prod (List.zipWith ss c r)))) st' ∧ Gr st st' := by
  have hp : ∀ r ∈ rs, (prod (List.zipWith ss c r)).length ≤ 27 := fun r h => by
    refine Nat.le_trans (prod_len _ fun d hd => (zip_len3 c r d hd).1) (Nat.pow_le_pow_right (by decide) (?_ : _ ≤ 3))
    rw [List.length_zipWith]
    omega
  have hi : iSeq (eVar 1) [some (rw' c), some (rows' rs), some (.loc st.length), none] (st ++ [.lst []]) = .ok (rs.map rw', none) (st ++ [.lst []]) := x_iseq (x_var rfl)
  obtain ⟨ρ', s', h1, ⟨v, rfl, h2, h3⟩⟩ := sFor_of (p := .nm 3) (bd := sExpr (eMt dExtend (eVar 2) (aCons (eFn d_sums (aCons (eVar 0) (aCons (eVar 3) aNil))) aNil)))
    (fun done ρ s => ∃ v, ρ = [some (rw' c), some (rows' rs), some (.loc st.length), v] ∧ Gr st s ∧ s[st.length]? = some (.lst (((rs.take done.length).flatMap fun r => prod (List.zipWith ss c r)).map rw')))
    hi (fun _ _ _ _ => trivial) ⟨none, rfl, Gr.app _ _, by simp⟩ (fun done x rest ρ s hd ⟨v, hρ, h2, h3⟩ => by
      subst hρ
      obtain ⟨r, rfl, hrm, _, ht⟩ := split_at hd
      obtain ⟨s1, f1, g1⟩ := sums_of (a := c) (b := r) (Nat.le_trans hc (by decide)) s
      have l1 := flat_len (fun r => prod (List.zipWith ss c r)) 27 (rs.take done.length) (fun x hx => hp x (List.mem_of_mem_take hx))
      have l2 : (rs.take done.length).length ≤ 27 := Nat.le_trans (by rw [List.length_take]; exact Nat.min_le_right _ _) hrs
      have l3 := hp r hrm
      have e3 := l_extt (ys := (prod (List.zipWith ss c r)).map rw') (g1.at h3) (by
        rw [List.length_map, List.length_map]
        exact Nat.le_trans (by omega : _ ≤ 1000) (by decide))
      have hlt : st.length < s1.length := (List.getElem?_eq_some_iff.mp (g1.at h3)).1
      refine ⟨[some (rw' c), some (rows' rs), some (.loc st.length), some (rw' r)], rfl, _, _, x_expr (x_mt (x_var rfl) (isLst_at h3) (x_cons (x_fn (x_cons (x_var rfl) (x_cons (x_var rfl) x_nil)) f1) x_nil) e3), _, rfl, (h2.trans g1).set (Nat.le_refl _), ?_⟩
      rw [List.getElem?_set_self hlt, List.length_append, List.length_singleton, flat_take _ _ _ _ ht, List.map_append])
  rw [List.length_map, List.take_length] at h3
  obtain ⟨s2, f2, g2⟩ := in_rows h3 (fun x hx => by
    obtain ⟨r, hr, hx⟩ := List.mem_flatMap.mp hx
    exact hne r hr x hx) (Nat.le_trans (flat_len _ 27 rs hp) (by omega))
  exact ⟨s2, x_body (x_seq (ρ' := [some (rw' c), some (rows' rs), some (.loc st.length), none]) (st' := st ++ [.lst []]) (x_set (x_lst x_nil (by decide))) (x_seq h1 (x_ret (x_fn (x_cons (x_var rfl) x_nil) f2)))), h2.trans g2⟩
theorem three_right {a b c : List Int} (ha : Sr a) (hb : Sr b) (hc : Sr c) (h1 : a.length = b.length) (h2 : b.length = c.length) (h0 : 0 < a.length) (h3 : a.length ≤ 3) (st : S) : ∃ st', d__law_three_right [rw' a, rw' b, rw' c] st = .ok (.bl true) st' ∧ Gr st st' := by
  have pz : ∀ p q : List Int, p.length ≤ 3 → (prod (List.zipWith ss p q)).length ≤ 27 := fun p q hp => by
    refine Nat.le_trans (prod_len _ fun d hd => (zip_len3 p q d hd).1) (Nat.pow_le_pow_right (by decide) (?_ : _ ≤ 3))
    rw [List.length_zipWith]
    omega
  have ne : ∀ p q x : List Int, 0 < p.length → 0 < q.length → x ∈ prod (List.zipWith ss p q) → x ≠ [] := fun p q x hp hq hx e => by
    have := prod_wide _ _ hx
    rw [e, List.length_zipWith] at this
    simp at this
    omega
  have wid : ∀ p q x : List Int, x ∈ prod (List.zipWith ss p q) → x.length = min p.length q.length := fun p q x hx => by
    rw [prod_wide _ _ hx, List.length_zipWith]
  obtain ⟨s1, f1, g1⟩ := sums_of (a := a) (b := b) (by omega) st
  obtain ⟨s2, f2, g2⟩ := behind_of (rs := prod (List.zipWith ss a b)) (c := c) (fun r hr => by rw [wid _ _ _ hr]; omega) (pz a b h3) (fun r hr x hx => ne r c x (by rw [wid _ _ _ hr]; omega) (by omega) hx) s1
  obtain ⟨s3, f3, g3⟩ := sums_of (a := b) (b := c) (by omega) s2
  obtain ⟨s4, f4, g4⟩ := ahead_of (rs := prod (List.zipWith ss b c)) (c := a) h3 (pz b c (by omega)) (fun r hr x hx => ne a r x h0 (by rw [wid _ _ _ hr]; omega) hx) s3
  have e := srt_eq (rs := (prod (List.zipWith ss a b)).flatMap fun r => prod (List.zipWith ss r c)) (qs := (prod (List.zipWith ss b c)).flatMap fun r => prod (List.zipWith ss a r)) fun x => by
    rw [List.mem_flatMap, List.mem_flatMap]
    exact assoc1 a b c ha hb hc h1 h2 x
  have q := dEq_rows (srt ((prod (List.zipWith ss a b)).flatMap fun r => prod (List.zipWith ss r c))) (srt ((prod (List.zipWith ss b c)).flatMap fun r => prod (List.zipWith ss a r))) s4
  rw [decide_eq_true e] at q
  refine ⟨s4, x_body (x_ret ?_), ((g1.trans g2).trans g3).trans g4⟩
  (repeat' first | with_reducible assumption | ((with_reducible apply x_var); rfl) | with_reducible exact x_c | with_reducible exact x_nil | with_reducible exact x_skip | with_reducible apply x_setE | exact SetTo.mk rfl | with_reducible apply x_exprE | exact EnvEq.mk rfl | with_reducible apply x_ret | with_reducible apply x_cons | with_reducible apply x_2 | with_reducible apply x_1 | with_reducible apply x_call | with_reducible apply x_fn | with_reducible apply x_tof | with_reducible apply x_tnot | with_reducible apply x_sl | with_reducible apply x_os | with_reducible apply x_tup | with_reducible apply x_lst | with_reducible apply x_sub | with_reducible exact x_on | with_reducible exact l_add | with_reducible exact l_sub | with_reducible exact l_neg | with_reducible exact l_lt | with_reducible exact l_le | with_reducible exact l_gt | with_reducible exact l_ge | with_reducible exact l_lent | with_reducible exact l_inti | with_reducible exact l_intb | with_reducible exact l_tup | with_reducible exact l_slt | with_reducible exact dEq_int _ _ _ | with_reducible exact dNe_int _ _ _ | with_reducible exact dEq_str _ _ _ | with_reducible exact dNe_str _ _ _ | exact Nat.le_of_ble_eq_true rfl)
end Rol.G

namespace Rol.G
open PySem L2 PySem.Spec Rol
open PyProof.Rows hiding St
theorem fold_rep (l : List Nat) : ∀ (n : Nat) (acc : Array Nat), ((List.replicate n l.toArray).foldl (· ++ ·) acc).toList = acc.toList ++ (List.replicate n l).flatten
  | 0, acc => by simp
  | n + 1, acc => by
    rw [List.replicate_succ, List.foldl_cons, fold_rep l n, Array.toList_append, List.replicate_succ, List.flatten_cons]
    simp
@[irreducible] def zs : Str := ⟨(List.replicate (300 : Int).toNat ("0" : Str).cps).foldl (· ++ ·) #[]⟩
theorem zs_cps : zs.cps.toList = List.replicate 300 48 := by
  have e : ("0" : Str).cps = [48].toArray := by decide +kernel
  unfold zs
  rw [e, fold_rep]
  decide +kernel
@[irreducible] def farStr : Str := ("1" : Str) ++ zs
theorem far_cps : farStr.cps.toList = 49 :: List.replicate 300 48 := by
  have e : ("1" : Str).cps = [49].toArray := by decide +kernel
  unfold farStr
  show (("1" : Str).cps ++ zs.cps).toList = _
  rw [Array.toList_append, e, zs_cps]
  rfl
theorem far_len : farStr.length ≤ 640 := by
  show farStr.cps.size ≤ 640
  rw [← Array.length_toList, far_cps]
  decide +kernel
@[irreducible] def farN : Nat := PySem.NumText.digitsVal (49 :: List.replicate 300 48)
theorem far_pos : 0 < farN := by
  unfold farN
  decide +kernel
theorem far_int : PySem.intText? farStr = some (farN : Int) := by
  have h := PySem.intText_digits (x := farStr) (by
    rw [far_cps]
    intro c hc
    rcases List.mem_cons.mp hc with rfl | hc
    · decide
    · rw [List.eq_of_mem_replicate hc]
      decide) (by rw [far_cps]; simp) (Nat.le_trans far_len (by decide))
  rw [far_cps] at h
  unfold farN
  exact h
theorem str_mul (x : Str) (k : Int) (st : S) (h : 2 ≤ k ∧ 1 ≤ x.length ∧ x.length * k.toNat ≤ 1000000) : dMul (.str x) (.int k) st = .ok (.str ⟨(List.replicate k.toNat x.cps).foldl (· ++ ·) #[]⟩) st := by
  rw [dMul]
  exact if_pos h
theorem far0 (st : S) : dMul (.str "0") (.int 300) st = .ok (.str zs) st := by
  unfold zs
  exact str_mul _ _ st (by decide +kernel)
theorem str_add (x y : Str) (st : S) (h : x.length + y.length ≤ sizeLine) : dAdd (.str x) (.str y) st = .ok (.str (x ++ y)) st := by
  rw [dAdd]
  exact if_pos h
theorem far1 (st : S) : dAdd (.str "1") (.str zs) st = .ok (.str farStr) st := by
  have h : ("1" : Str).length + zs.length ≤ sizeLine := by
    have e : zs.length = 300 := by
      show zs.cps.size = 300
      rw [← Array.length_toList, zs_cps]
      decide +kernel
    have e1 : ("1" : Str).length = 1 := by decide +kernel
    rw [e, e1]
    decide
  unfold farStr
  exact str_add _ _ st h
theorem str_int (x : Str) (n : Int) (st : S) (h : x.length ≤ 640) (e : PySem.intText? x = some n) : dIntS [.str x] st = .ok (.int n) st := by
  rw [dIntS, if_pos h, e]
theorem far2 (st : S) : dIntS [.str farStr] st = .ok (.int (farN : Int)) st := str_int _ _ st far_len far_int
end Rol.G

namespace Rol.G
open PySem L2 PySem.Spec Rol
open PyProof.Rows hiding St
theorem dNe_bl (a b : Bool) (st : S) : dNe (.bl a) (.bl b) st = .ok (.bl (!decide (a = b))) st := by
  cases a <;> cases b <;> rfl

theorem small_sr {r : List Int} (h : Sr r) : Small r := fun z hz => by
  have := h z hz
  unfold Sgn at this
  omega
theorem two_right {n : Int} (h1 : 1 ≤ n) (h2 : n ≤ 6) {a b : List Int} (ha : Sr a) (hb : Sr b) (hla : a.length = n.toNat) (hlb : b.length = n.toNat) (st : S) : ∃ st', d__law_two_right [.int n, rw' a, rw' b] st = .ok (.bl true) st' ∧ Gr st st' := by
  have hab : a.length = b.length := by omega
  have rep : ∀ (p q : List Int), Sr p → Sr q → p.length = n.toNat → q.length = n.toNat → ∀ s : S, dRepr [rows' (prod (List.zipWith ss p q))] s = .ok (.str (PyData.tuple ((prod (List.zipWith ss p q)).map pr)).shown) s := fun p q hp hq hpl hql s =>
    dRepr_rows (n := 6) (fun r hr => by
      obtain ⟨k1, k2⟩ := prod_rows p q r hp hq hr
      exact ⟨small_sr k1, by rw [k2]; omega⟩) (by
      have k1 := prod_len (List.zipWith ss p q) fun c hc => (zip_len3 p q c hc).1
      have k2 := sz_pow (n := (List.zipWith ss p q).length) (by rw [List.length_zipWith]; omega)
      omega) s
  obtain ⟨s1, f1, g1⟩ := tried_sums ha hb hab (by omega) st
  obtain ⟨s2, f2, g2⟩ := sums_of (a := a) (b := b) (by omega) s1
  obtain ⟨s3, f3, g3⟩ := sums_of (a := b) (b := a) (by omega) s2
  rw [zip_comm a b] at f3
  have r1 := rep a b ha hb hla hlb s2
  have r2 := rep a b ha hb hla hlb s3
  have z1 : sSet 3 (eFn d__law_tried_sums (aCons (eVar 1) (aCons (eVar 2) aNil))) [some (.int n), some (rw' a), some (rw' b), none, none] st = .nx [some (.int n), some (rw' a), some (rw' b), some (rows' (prod (List.zipWith ss a b))), none] s1 := by
    refine x_set ?_
    (repeat' first | with_reducible assumption | ((with_reducible apply x_var); rfl) | with_reducible exact x_c | with_reducible exact x_nil | with_reducible exact x_skip | with_reducible apply x_setE | exact SetTo.mk rfl | with_reducible apply x_exprE | exact EnvEq.mk rfl | with_reducible apply x_ret | with_reducible apply x_cons | with_reducible apply x_2 | with_reducible apply x_1 | with_reducible apply x_call | with_reducible apply x_fn | with_reducible apply x_tof | with_reducible apply x_tnot | with_reducible apply x_sl | with_reducible apply x_os | with_reducible apply x_tup | with_reducible apply x_lst | with_reducible apply x_sub | with_reducible exact x_on | with_reducible exact l_add | with_reducible exact l_sub | with_reducible exact l_neg | with_reducible exact l_lt | with_reducible exact l_le | with_reducible exact l_gt | with_reducible exact l_ge | with_reducible exact l_lent | with_reducible exact l_inti | with_reducible exact l_intb | with_reducible exact l_tup | with_reducible exact l_slt | with_reducible exact dEq_int _ _ _ | with_reducible exact dNe_int _ _ _ | with_reducible exact dEq_str _ _ _ | with_reducible exact dNe_str _ _ _ | exact Nat.le_of_ble_eq_true rfl)
  have z2 : sIf (tOrD (tOf (e2 dNe (eCall dRepr (aCons (eFn d_sums (aCons (eVar 1) (aCons (eVar 2) aNil))) aNil)) (eCall dRepr (aCons (eVar 3) aNil)))) (tOf (e2 dNe (eCall dRepr (aCons (eFn d_sums (aCons (eVar 2) (aCons (eVar 1) aNil))) aNil)) (eCall dRepr (aCons (eVar 3) aNil))))) (sRet (eC (.bl false))) sSkip [some (.int n), some (rw' a), some (rw' b), some (rows' (prod (List.zipWith ss a b))), none] s1 = .nx [some (.int n), some (rw' a), some (rw' b), some (rows' (prod (List.zipWith ss a b))), none] s3 := by
    refine x_iff (b := !decide ((PyData.tuple ((prod (List.zipWith ss a b)).map pr)).shown = (PyData.tuple ((prod (List.zipWith ss a b)).map pr)).shown)) (st' := s3) (x_torf (b := !decide ((PyData.tuple ((prod (List.zipWith ss a b)).map pr)).shown = (PyData.tuple ((prod (List.zipWith ss a b)).map pr)).shown)) (s1 := s2) ?_ (by simp) ?_) (by simp) x_skip
    · (repeat' first | with_reducible assumption | ((with_reducible apply x_var); rfl) | with_reducible exact x_c | with_reducible exact x_nil | with_reducible exact x_skip | with_reducible apply x_setE | exact SetTo.mk rfl | with_reducible apply x_exprE | exact EnvEq.mk rfl | with_reducible apply x_ret | with_reducible apply x_cons | with_reducible apply x_2 | with_reducible apply x_1 | with_reducible apply x_call | with_reducible apply x_fn | with_reducible apply x_tof | with_reducible apply x_tnot | with_reducible apply x_sl | with_reducible apply x_os | with_reducible apply x_tup | with_reducible apply x_lst | with_reducible apply x_sub | with_reducible exact x_on | with_reducible exact l_add | with_reducible exact l_sub | with_reducible exact l_neg | with_reducible exact l_lt | with_reducible exact l_le | with_reducible exact l_gt | with_reducible exact l_ge | with_reducible exact l_lent | with_reducible exact l_inti | with_reducible exact l_intb | with_reducible exact l_tup | with_reducible exact l_slt | with_reducible exact dEq_int _ _ _ | with_reducible exact dNe_int _ _ _ | with_reducible exact dEq_str _ _ _ | with_reducible exact dNe_str _ _ _ | exact Nat.le_of_ble_eq_true rfl)
    · (repeat' first | with_reducible assumption | ((with_reducible apply x_var); rfl) | with_reducible exact x_c | with_reducible exact x_nil | with_reducible exact x_skip | with_reducible apply x_setE | exact SetTo.mk rfl | with_reducible apply x_exprE | exact EnvEq.mk rfl | with_reducible apply x_ret | with_reducible apply x_cons | with_reducible apply x_2 | with_reducible apply x_1 | with_reducible apply x_call | with_reducible apply x_fn | with_reducible apply x_tof | with_reducible apply x_tnot | with_reducible apply x_sl | with_reducible apply x_os | with_reducible apply x_tup | with_reducible apply x_lst | with_reducible apply x_sub | with_reducible exact x_on | with_reducible exact l_add | with_reducible exact l_sub | with_reducible exact l_neg | with_reducible exact l_lt | with_reducible exact l_le | with_reducible exact l_gt | with_reducible exact l_ge | with_reducible exact l_lent | with_reducible exact l_inti | with_reducible exact l_intb | with_reducible exact l_tup | with_reducible exact l_slt | with_reducible exact dEq_int _ _ _ | with_reducible exact dNe_int _ _ _ | with_reducible exact dEq_str _ _ _ | with_reducible exact dNe_str _ _ _ | exact Nat.le_of_ble_eq_true rfl)
  obtain ⟨s4, f4, g4⟩ := turned_of (r := b) (by omega) s3
  obtain ⟨s5, f5, g5⟩ := turned_of (r := a) (by omega) s4
  obtain ⟨s6, f6, g6⟩ := sums_of (a := neg b) (b := neg a) (by rw [neg, List.length_map]; omega) s5
  have hneg : prod (List.zipWith ss (neg b) (neg a)) = ((prod (List.zipWith ss a b)).map neg).reverse := by rw [zip_neg, prod_neg]
  have r3 := rep (neg b) (neg a) (neg_sr hb) (neg_sr ha) (by rw [neg, List.length_map]; omega) (by rw [neg, List.length_map]; omega) s6
  have hp729 : (prod (List.zipWith ss a b)).length ≤ 729 := Nat.le_trans (prod_len _ fun c hc => (zip_len3 a b c hc).1) (sz_pow (by rw [List.length_zipWith]; omega))
  have hw : ∀ r ∈ prod (List.zipWith ss a b), r.length = n.toNat := fun r hr => by
    obtain ⟨_, k2⟩ := prod_rows a b r ha hb hr
    omega
  have hi : iSeq (eVar 3) [some (.int n), some (rw' a), some (rw' b), some (rows' (prod (List.zipWith ss a b))), none] s6 = .ok ((prod (List.zipWith ss a b)).map rw', none) s6 := x_iseq (x_var rfl)
  obtain ⟨s7, f7, g7, d7⟩ := eComp_gr (mi := iSeq (eVar 3)) (p := .nm 4) (vs := [4]) (elt := eFn d__law_turned (aCons (eVar 4) aNil)) (ρ := [some (.int n), some (rw' a), some (rw' b), some (rows' (prod (List.zipWith ss a b))), none]) (st := s6) (fun x => .tup ((inT x).map nD)) hi trivial (by
    rw [List.length_map]
    exact Nat.le_trans hp729 (by decide)) (fun x hx s hs => by
    obtain ⟨r, hr, rfl⟩ := List.mem_map.mp hx
    obtain ⟨s', f, g⟩ := lturned_of (r := r) (by have := hw r hr; omega) s
    refine ⟨[some (.int n), some (rw' a), some (rw' b), some (rows' (prod (List.zipWith ss a b))), some (rw' r)], s', rfl, ?_, g⟩
    have e : D.tup ((inT (rw' r)).map nD) = rw' (neg r) := by
      show D.tup ((r.map D.int).map nD) = _
      rw [map_nD]
    show _ = Res.ok (D.tup ((inT (rw' r)).map nD)) s'
    rw [e]
    (repeat' first | with_reducible assumption | ((with_reducible apply x_var); rfl) | with_reducible exact x_c | with_reducible exact x_nil | with_reducible exact x_skip | with_reducible apply x_setE | exact SetTo.mk rfl | with_reducible apply x_exprE | exact EnvEq.mk rfl | with_reducible apply x_ret | with_reducible apply x_cons | with_reducible apply x_2 | with_reducible apply x_1 | with_reducible apply x_call | with_reducible apply x_fn | with_reducible apply x_tof | with_reducible apply x_tnot | with_reducible apply x_sl | with_reducible apply x_os | with_reducible apply x_tup | with_reducible apply x_lst | with_reducible apply x_sub | with_reducible exact x_on | with_reducible exact l_add | with_reducible exact l_sub | with_reducible exact l_neg | with_reducible exact l_lt | with_reducible exact l_le | with_reducible exact l_gt | with_reducible exact l_ge | with_reducible exact l_lent | with_reducible exact l_inti | with_reducible exact l_intb | with_reducible exact l_tup | with_reducible exact l_slt | with_reducible exact dEq_int _ _ _ | with_reducible exact dNe_int _ _ _ | with_reducible exact dEq_str _ _ _ | with_reducible exact dNe_str _ _ _ | exact Nat.le_of_ble_eq_true rfl))
  have hmm : ((prod (List.zipWith ss a b)).map rw').map (fun x => D.tup ((inT x).map nD)) = ((prod (List.zipWith ss a b)).map neg).map rw' := by
    rw [List.map_map, List.map_map]
    exact List.map_congr_left fun r _ => by
      show D.tup ((r.map D.int).map nD) = rw' (neg r)
      rw [map_nD]
  rw [hmm] at d7
  have hso : sortP s7 (((prod (List.zipWith ss a b)).map neg).map rw') = some ((prod (List.zipWith ss (neg b) (neg a))).map rw') := sortP_rows (fun r hr e => by
      obtain ⟨q, hq, rfl⟩ := List.mem_map.mp hr
      have := hw q hq
      have h0 : (neg q).length = 0 := by rw [e]; rfl
      rw [neg, List.length_map] at h0
      omega) (by rw [List.length_map]; exact Nat.le_trans hp729 (by decide)) (by rw [hneg]; exact List.reverse_perm _) (prod_rle _ fun c hc => (zip_len3 _ _ c hc).2)
  have f8 : dSorted [.loc s6.length] s7 = .ok (.loc s7.length) (s7 ++ [.lst ((prod (List.zipWith ss (neg b) (neg a))).map rw')]) := by
    unfold dSorted
    simp only [items_of d7, hso]
  have f9 : dTuple [.loc s7.length] (s7 ++ [.lst ((prod (List.zipWith ss (neg b) (neg a))).map rw')]) = .ok (rows' (prod (List.zipWith ss (neg b) (neg a)))) (s7 ++ [.lst ((prod (List.zipWith ss (neg b) (neg a))).map rw')]) := l_tupl (items_of (at_new _ _))
  have r4 := rep (neg b) (neg a) (neg_sr hb) (neg_sr ha) (by rw [neg, List.length_map]; omega) (by rw [neg, List.length_map]; omega) (s7 ++ [.lst ((prod (List.zipWith ss (neg b) (neg a))).map rw')])
  have g8 := (((((g1.trans g2).trans g3).trans g4).trans g5).trans g6).trans (g7.trans (Gr.app s7 [.lst ((prod (List.zipWith ss (neg b) (neg a))).map rw')]))
  generalize hs8 : s7 ++ [.lst ((prod (List.zipWith ss (neg b) (neg a))).map rw')] = s8 at f8 f9 r4 g8
  have z3 : sIf (tOf (e2 dNe (eCall dRepr (aCons (eFn d_sums (aCons (eFn d_turned (aCons (eVar 2) aNil)) (aCons (eFn d_turned (aCons (eVar 1) aNil)) aNil))) aNil)) (eCall dRepr (aCons (eCall dTuple (aCons (eCall dSorted (aCons (eComp (iSeq (eVar 3)) (.nm 4) [4] tYesD (eFn d__law_turned (aCons (eVar 4) aNil))) aNil)) aNil)) aNil)))) (sRet (eC (.bl false))) sSkip [some (.int n), some (rw' a), some (rw' b), some (rows' (prod (List.zipWith ss a b))), none] s3 = .nx [some (.int n), some (rw' a), some (rw' b), some (rows' (prod (List.zipWith ss a b))), none] s8 := by
    refine x_iff (b := !decide ((PyData.tuple ((prod (List.zipWith ss (neg b) (neg a))).map pr)).shown = (PyData.tuple ((prod (List.zipWith ss (neg b) (neg a))).map pr)).shown)) (st' := s8) ?_ (by simp) x_skip
    (repeat' first | with_reducible assumption | ((with_reducible apply x_var); rfl) | with_reducible exact x_c | with_reducible exact x_nil | with_reducible exact x_skip | with_reducible apply x_setE | exact SetTo.mk rfl | with_reducible apply x_exprE | exact EnvEq.mk rfl | with_reducible apply x_ret | with_reducible apply x_cons | with_reducible apply x_2 | with_reducible apply x_1 | with_reducible apply x_call | with_reducible apply x_fn | with_reducible apply x_tof | with_reducible apply x_tnot | with_reducible apply x_sl | with_reducible apply x_os | with_reducible apply x_tup | with_reducible apply x_lst | with_reducible apply x_sub | with_reducible exact x_on | with_reducible exact l_add | with_reducible exact l_sub | with_reducible exact l_neg | with_reducible exact l_lt | with_reducible exact l_le | with_reducible exact l_gt | with_reducible exact l_ge | with_reducible exact l_lent | with_reducible exact l_inti | with_reducible exact l_intb | with_reducible exact l_tup | with_reducible exact l_slt | with_reducible exact dEq_int _ _ _ | with_reducible exact dNe_int _ _ _ | with_reducible exact dEq_str _ _ _ | with_reducible exact dNe_str _ _ _ | exact Nat.le_of_ble_eq_true rfl)
  have f10 := level_of h1 h2 s8
  obtain ⟨s9, f11, g9⟩ := sums_of (a := a) (b := b) (by omega) s8
  have f12 := dIn_rows false (zero n.toNat) (prod (List.zipWith ss a b)) s9
  obtain ⟨s10, f13, g10⟩ := lturned_of (r := a) (by omega) s9
  have f14 := dEq_rw b (neg a) s10
  have hz := zero_in a b ha hb hab
  rw [hla] at hz
  have f15 := dNe_bl (if false = true then !decide (zero n.toNat ∈ prod (List.zipWith ss a b)) else decide (zero n.toNat ∈ prod (List.zipWith ss a b))) (decide (b = neg a)) s10
  have z4 : sIf (tOf (e2 dNe (e2 (dIn false) (eFn d_level (aCons (eVar 0) aNil)) (eFn d_sums (aCons (eVar 1) (aCons (eVar 2) aNil)))) (e2 dEq (eVar 2) (eFn d__law_turned (aCons (eVar 1) aNil))))) (sRet (eC (.bl false))) sSkip [some (.int n), some (rw' a), some (rw' b), some (rows' (prod (List.zipWith ss a b))), none] s8 = .nx [some (.int n), some (rw' a), some (rw' b), some (rows' (prod (List.zipWith ss a b))), none] s10 := by
    refine x_iff (b := !decide ((if false = true then !decide (zero n.toNat ∈ prod (List.zipWith ss a b)) else decide (zero n.toNat ∈ prod (List.zipWith ss a b))) = decide (b = neg a))) (st' := s10) ?_ (by simp [hz]) x_skip
    (repeat' first | with_reducible assumption | ((with_reducible apply x_var); rfl) | with_reducible exact x_c | with_reducible exact x_nil | with_reducible exact x_skip | with_reducible apply x_setE | exact SetTo.mk rfl | with_reducible apply x_exprE | exact EnvEq.mk rfl | with_reducible apply x_ret | with_reducible apply x_cons | with_reducible apply x_2 | with_reducible apply x_1 | with_reducible apply x_call | with_reducible apply x_fn | with_reducible apply x_tof | with_reducible apply x_tnot | with_reducible apply x_sl | with_reducible apply x_os | with_reducible apply x_tup | with_reducible apply x_lst | with_reducible apply x_sub | with_reducible exact x_on | with_reducible exact l_add | with_reducible exact l_sub | with_reducible exact l_neg | with_reducible exact l_lt | with_reducible exact l_le | with_reducible exact l_gt | with_reducible exact l_ge | with_reducible exact l_lent | with_reducible exact l_inti | with_reducible exact l_intb | with_reducible exact l_tup | with_reducible exact l_slt | with_reducible exact dEq_int _ _ _ | with_reducible exact dNe_int _ _ _ | with_reducible exact dEq_str _ _ _ | with_reducible exact dNe_str _ _ _ | exact Nat.le_of_ble_eq_true rfl)
  obtain ⟨s11, f16, g11⟩ := sums_of (a := a) (b := a) (by omega) s10
  have r5 := rep a a ha ha hla hla s11
  rw [prod_self] at f16 r5
  have f17 := level_of h1 h2 s11
  obtain ⟨s12, f18, g12⟩ := sums_of (a := b) (b := zero n.toNat) (by omega) s11
  have hzs : Sr (zero n.toNat) := fun z hz => .inr (.inl (List.eq_of_mem_replicate hz))
  have r6 := rep b (zero n.toNat) hb hzs hlb (by simp [zero]) s12
  have hpz := prod_zero b
  rw [hlb] at hpz
  rw [hpz] at f18 r6
  have r5' : dRepr [.tup [rw' a]] s11 = .ok (.str (PyData.tuple ([a].map pr)).shown) s11 := r5
  have r6' : dRepr [.tup [rw' b]] s12 = .ok (.str (PyData.tuple ([b].map pr)).shown) s12 := r6
  refine ⟨s12, x_body (x_seq z1 (x_seq z2 (x_seq z3 (x_seq z4 (x_ret (x_andt (b := decide ((PyData.tuple ([a].map pr)).shown = (PyData.tuple ([a].map pr)).shown)) (s1 := s11) ?_ (by simp) ?_)))))), (((g8.trans g9).trans g10).trans g11).trans g12⟩
  · (repeat' first | with_reducible assumption | ((with_reducible apply x_var); rfl) | with_reducible exact x_c | with_reducible exact x_nil | with_reducible exact x_skip | with_reducible apply x_setE | exact SetTo.mk rfl | with_reducible apply x_exprE | exact EnvEq.mk rfl | with_reducible apply x_ret | with_reducible apply x_cons | with_reducible apply x_2 | with_reducible apply x_1 | with_reducible apply x_call | with_reducible apply x_fn | with_reducible apply x_tof | with_reducible apply x_tnot | with_reducible apply x_sl | with_reducible apply x_os | with_reducible apply x_tup | with_reducible apply x_lst | with_reducible apply x_sub | with_reducible exact x_on | with_reducible exact l_add | with_reducible exact l_sub | with_reducible exact l_neg | with_reducible exact l_lt | with_reducible exact l_le | with_reducible exact l_gt | with_reducible exact l_ge | with_reducible exact l_lent | with_reducible exact l_inti | with_reducible exact l_intb | with_reducible exact l_tup | with_reducible exact l_slt | with_reducible exact dEq_int _ _ _ | with_reducible exact dNe_int _ _ _ | with_reducible exact dEq_str _ _ _ | with_reducible exact dNe_str _ _ _ | exact Nat.le_of_ble_eq_true rfl)
  · have e : (D.bl true) = .bl (decide ((PyData.tuple ([b].map pr)).shown = (PyData.tuple ([b].map pr)).shown)) := by simp
    rw [e]
    (repeat' first | with_reducible assumption | ((with_reducible apply x_var); rfl) | with_reducible exact x_c | with_reducible exact x_nil | with_reducible exact x_skip | with_reducible apply x_setE | exact SetTo.mk rfl | with_reducible apply x_exprE | exact EnvEq.mk rfl | with_reducible apply x_ret | with_reducible apply x_cons | with_reducible apply x_2 | with_reducible apply x_1 | with_reducible apply x_call | with_reducible apply x_fn | with_reducible apply x_tof | with_reducible apply x_tnot | with_reducible apply x_sl | with_reducible apply x_os | with_reducible apply x_tup | with_reducible apply x_lst | with_reducible apply x_sub | with_reducible exact x_on | with_reducible exact l_add | with_reducible exact l_sub | with_reducible exact l_neg | with_reducible exact l_lt | with_reducible exact l_le | with_reducible exact l_gt | with_reducible exact l_ge | with_reducible exact l_lent | with_reducible exact l_inti | with_reducible exact l_intb | with_reducible exact l_tup | with_reducible exact l_slt | with_reducible exact dEq_int _ _ _ | with_reducible exact dNe_int _ _ _ | with_reducible exact dEq_str _ _ _ | with_reducible exact dNe_str _ _ _ | exact Nat.le_of_ble_eq_true rfl)
end Rol.G

namespace Rol.G
open PySem L2 PySem.Spec Rol
open PyProof.Rows hiding St
def mD : D → D
  | .int i => .int ((farN : Int) * i)
  | d => d
theorem map_mD (r : List Int) : (r.map D.int).map mD = (r.map ((farN : Int) * ·)).map D.int := by
  rw [List.map_map, List.map_map]
  rfl
theorem rep_sg {a b : List Int} (hl : a.length ≤ 6) (s : S) : dRepr [rw' (List.zipWith sg a b)] s = .ok (.str (pr (List.zipWith sg a b)).shown) s := by
  refine dRepr_rw (fun z hz => ?_) (by rw [List.length_zipWith]; omega) s
  have : ∀ (a b : List Int), z ∈ List.zipWith sg a b → Sgn z := by
    intro a
    induction a with
    | nil => intro b h; simp at h
    | cons x a ih =>
      intro b h
      cases b with
      | nil => simp at h
      | cons y b =>
        rw [List.zipWith_cons_cons, List.mem_cons] at h
        rcases h with rfl | h
        · exact sg_sgn _ _
        · exact ih b h
  have := this a b hz
  unfold Sgn at this
  omega
theorem tale_right {a b c : List Int} {B : Int} (hB : B < 2 ^ 60) (ha : Hb B a) (hc : Hb B c) (h1 : a.length = b.length) (h2 : b.length = c.length) (hl : a.length ≤ 6) (st : S) : ∃ st', d__law_tale_right [rw' a, rw' b, rw' c] st = .ok (.bl true) st' ∧ Gr st st' := by
  obtain ⟨s1, f1, g1⟩ := row_of (a := b) (b := a) (by omega) st
  obtain ⟨s2, f2, g2⟩ := row_of (a := c) (b := b) (by omega) s1
  obtain ⟨s3, f3, g3⟩ := lrow_of (a := c) (b := a) (by omega) (by omega) s2
  have z1 : sPar [3, 4, 5] (aCons (eFn d_row_of (aCons (eVar 1) (aCons (eVar 0) aNil))) (aCons (eFn d_row_of (aCons (eVar 2) (aCons (eVar 1) aNil))) (aCons (eFn d__law_row_of (aCons (eVar 2) (aCons (eVar 0) aNil))) aNil))) [some (rw' a), some (rw' b), some (rw' c), none, none, none, none, none, none, none] st =
      .nx [some (rw' a), some (rw' b), some (rw' c), some (rw' (List.zipWith sg b a)), some (rw' (List.zipWith sg c b)), some (rw' (List.zipWith sg c a)), none, none, none, none] s3 := by
    refine x_par3 (i := 3) (j := 4) (k := 5) (ρ := [some (rw' a), some (rw' b), some (rw' c), none, none, none, none, none, none, none]) ?_
    (repeat' first | with_reducible assumption | ((with_reducible apply x_var); rfl) | with_reducible exact x_c | with_reducible exact x_nil | with_reducible exact x_skip | with_reducible apply x_setE | exact SetTo.mk rfl | with_reducible apply x_exprE | exact EnvEq.mk rfl | with_reducible apply x_ret | with_reducible apply x_cons | with_reducible apply x_2 | with_reducible apply x_1 | with_reducible apply x_call | with_reducible apply x_fn | with_reducible apply x_tof | with_reducible apply x_tnot | with_reducible apply x_sl | with_reducible apply x_os | with_reducible apply x_tup | with_reducible apply x_lst | with_reducible apply x_sub | with_reducible exact x_on | with_reducible exact l_add | with_reducible exact l_sub | with_reducible exact l_neg | with_reducible exact l_lt | with_reducible exact l_le | with_reducible exact l_gt | with_reducible exact l_ge | with_reducible exact l_lent | with_reducible exact l_inti | with_reducible exact l_intb | with_reducible exact l_tup | with_reducible exact l_slt | with_reducible exact dEq_int _ _ _ | with_reducible exact dNe_int _ _ _ | with_reducible exact dEq_str _ _ _ | with_reducible exact dNe_str _ _ _ | exact Nat.le_of_ble_eq_true rfl)
  have q0 := far0 s3
  have q1 := far1 s3
  have q2 := far2 s3
  have z2 : sSet 6 (eCall dIntS (aCons (e2 dAdd (eC (.str "1")) (e2 dMul (eC (.str "0")) (eC (.int 300)))) aNil)) [some (rw' a), some (rw' b), some (rw' c), some (rw' (List.zipWith sg b a)), some (rw' (List.zipWith sg c b)), some (rw' (List.zipWith sg c a)), none, none, none, none] s3 =
      .nx [some (rw' a), some (rw' b), some (rw' c), some (rw' (List.zipWith sg b a)), some (rw' (List.zipWith sg c b)), some (rw' (List.zipWith sg c a)), some (.int farN), none, none, none] s3 := by
    refine x_set ?_
    (repeat' first | with_reducible assumption | ((with_reducible apply x_var); rfl) | with_reducible exact x_c | with_reducible exact x_nil | with_reducible exact x_skip | with_reducible apply x_setE | exact SetTo.mk rfl | with_reducible apply x_exprE | exact EnvEq.mk rfl | with_reducible apply x_ret | with_reducible apply x_cons | with_reducible apply x_2 | with_reducible apply x_1 | with_reducible apply x_call | with_reducible apply x_fn | with_reducible apply x_tof | with_reducible apply x_tnot | with_reducible apply x_sl | with_reducible apply x_os | with_reducible apply x_tup | with_reducible apply x_lst | with_reducible apply x_sub | with_reducible exact x_on | with_reducible exact l_add | with_reducible exact l_sub | with_reducible exact l_neg | with_reducible exact l_lt | with_reducible exact l_le | with_reducible exact l_gt | with_reducible exact l_ge | with_reducible exact l_lent | with_reducible exact l_inti | with_reducible exact l_intb | with_reducible exact l_tup | with_reducible exact l_slt | with_reducible exact dEq_int _ _ _ | with_reducible exact dNe_int _ _ _ | with_reducible exact dEq_str _ _ _ | with_reducible exact dNe_str _ _ _ | exact Nat.le_of_ble_eq_true rfl)
  have hi : iSeq (eLst (aCons (eVar 2) (aCons (eVar 0) aNil))) [some (rw' a), some (rw' b), some (rw' c), some (rw' (List.zipWith sg b a)), some (rw' (List.zipWith sg c b)), some (rw' (List.zipWith sg c a)), some (.int farN), none, none, none] s3 = .ok ([rw' c, rw' a], some s3.length) (s3 ++ [.lst [rw' c, rw' a]]) := x_iseql (x_lst (x_cons (x_var rfl) (x_cons (x_var rfl) x_nil)) (by simp only [List.length_cons, List.length_nil]; decide)) (items_of (at_new _ _))
  have hg : Gd (some s3.length) [rw' c, rw' a] (s3 ++ [.lst [rw' c, rw' a]]) := items_of (at_new _ _)
  obtain ⟨s4, f4, g4, d4⟩ := eComp_gr (p := .nm 8) (vs := [8]) (elt := eCall dTuple (aCons (eComp (iSeq (eVar 8)) (.nm 9) [9] tYesD (e2 dMul (eVar 6) (eVar 9))) aNil)) (fun x => .tup ((inT x).map mD)) hi hg (by simp only [List.length_cons, List.length_nil]; decide) (fun x hx s hs => by
    obtain ⟨r, rfl, hr, hrl⟩ : ∃ r, x = rw' r ∧ Hb B r ∧ r.length ≤ 6 := by
      simp only [List.mem_cons, List.mem_nil_iff, or_false] at hx
      rcases hx with rfl | rfl
      · exact ⟨c, rfl, hc, by omega⟩
      · exact ⟨a, rfl, ha, hl⟩
    have hj : iSeq (eVar 8) [some (rw' a), some (rw' b), some (rw' c), some (rw' (List.zipWith sg b a)), some (rw' (List.zipWith sg c b)), some (rw' (List.zipWith sg c a)), some (.int farN), none, some (rw' r), none] s = .ok (r.map D.int, none) s := x_iseq (x_var rfl)
    obtain ⟨s', f, g⟩ := tupComp_gr (p := .nm 9) (vs := [9]) (elt := e2 dMul (eVar 6) (eVar 9)) mD hj (Gr.refl s) trivial (by rw [List.length_map]; exact Nat.le_trans hrl (by decide)) (fun y hy t _ => by
      obtain ⟨z, hz, rfl⟩ := List.mem_map.mp hy
      have hzb := hr z hz
      have q3 := @l_mul (farN : Int) z t (cMul_r (by omega) (by omega))
      refine ⟨[some (rw' a), some (rw' b), some (rw' c), some (rw' (List.zipWith sg b a)), some (rw' (List.zipWith sg c b)), some (rw' (List.zipWith sg c a)), some (.int farN), none, some (rw' r), some (.int z)], t, rfl, ?_, Gr.refl t⟩
      show _ = Res.ok (D.int ((farN : Int) * z)) t
      (repeat' first | with_reducible assumption | ((with_reducible apply x_var); rfl) | with_reducible exact x_c | with_reducible exact x_nil | with_reducible exact x_skip | with_reducible apply x_setE | exact SetTo.mk rfl | with_reducible apply x_exprE | exact EnvEq.mk rfl | with_reducible apply x_ret | with_reducible apply x_cons | with_reducible apply x_2 | with_reducible apply x_1 | with_reducible apply x_call | with_reducible apply x_fn | with_reducible apply x_tof | with_reducible apply x_tnot | with_reducible apply x_sl | with_reducible apply x_os | with_reducible apply x_tup | with_reducible apply x_lst | with_reducible apply x_sub | with_reducible exact x_on | with_reducible exact l_add | with_reducible exact l_sub | with_reducible exact l_neg | with_reducible exact l_lt | with_reducible exact l_le | with_reducible exact l_gt | with_reducible exact l_ge | with_reducible exact l_lent | with_reducible exact l_inti | with_reducible exact l_intb | with_reducible exact l_tup | with_reducible exact l_slt | with_reducible exact dEq_int _ _ _ | with_reducible exact dNe_int _ _ _ | with_reducible exact dEq_str _ _ _ | with_reducible exact dNe_str _ _ _ | exact Nat.le_of_ble_eq_true rfl))
    exact ⟨_, s', rfl, f, g⟩)
  have hmm : [rw' c, rw' a].map (fun x => D.tup ((inT x).map mD)) = [rw' (c.map ((farN : Int) * ·)), rw' (a.map ((farN : Int) * ·))] := by
    show [D.tup ((c.map D.int).map mD), D.tup ((a.map D.int).map mD)] = _
    rw [map_mD, map_mD]
  rw [hmm] at d4
  have g04 := ((g1.trans g2).trans g3).trans ((Gr.app s3 [.lst [rw' c, rw' a]]).trans g4)
  generalize List.length (s3 ++ [O.lst [rw' c, rw' a]]) = kk at f4 d4
  have q5 : dIx (.loc kk) (.int 1) s4 = .ok (rw' (a.map ((farN : Int) * ·))) s4 := l_ixl d4 rfl
  have q6 : dIx (.loc kk) (.int 0) s4 = .ok (rw' (c.map ((farN : Int) * ·))) s4 := l_ixl d4 rfl
  obtain ⟨s5, f5, g5⟩ := row_of (a := c.map ((farN : Int) * ·)) (b := a.map ((farN : Int) * ·)) (by rw [List.length_map]; omega) s4
  rw [row_mul (by have := far_pos; omega)] at f5
  have r5 := rep_sg (a := c) (b := a) (by omega) s5
  obtain ⟨s6, f6, g6⟩ := row_of (a := c) (b := a) (by omega) s5
  have r6 := rep_sg (a := c) (b := a) (by omega) s6
  have p1 : permL [1, 0] [rw' (a.map ((farN : Int) * ·)), rw' (c.map ((farN : Int) * ·))] = [rw' (c.map ((farN : Int) * ·)), rw' (a.map ((farN : Int) * ·))] := rfl
  have p2 : permL [1, 0] [rw' (List.zipWith sg c b), rw' (List.zipWith sg b a)] = [rw' (List.zipWith sg b a), rw' (List.zipWith sg c b)] := rfl
  have e5 : eFnK0 d_row_of [1, 0] (aCons (e2 dIx (eVar 7) (eC (.int 1))) (aCons (e2 dIx (eVar 7) (eC (.int 0))) aNil)) [some (rw' a), some (rw' b), some (rw' c), some (rw' (List.zipWith sg b a)), some (rw' (List.zipWith sg c b)), some (rw' (List.zipWith sg c a)), some (.int farN), some (.loc kk), none, none] s4 = .ok (rw' (List.zipWith sg c a)) s5 := by
    refine x_fnk (xs := [rw' (a.map ((farN : Int) * ·)), rw' (c.map ((farN : Int) * ·))]) (s1 := s4) ?_ ?_
    · (repeat' first | with_reducible assumption | ((with_reducible apply x_var); rfl) | with_reducible exact x_c | with_reducible exact x_nil | with_reducible exact x_skip | with_reducible apply x_setE | exact SetTo.mk rfl | with_reducible apply x_exprE | exact EnvEq.mk rfl | with_reducible apply x_ret | with_reducible apply x_cons | with_reducible apply x_2 | with_reducible apply x_1 | with_reducible apply x_call | with_reducible apply x_fn | with_reducible apply x_tof | with_reducible apply x_tnot | with_reducible apply x_sl | with_reducible apply x_os | with_reducible apply x_tup | with_reducible apply x_lst | with_reducible apply x_sub | with_reducible exact x_on | with_reducible exact l_add | with_reducible exact l_sub | with_reducible exact l_neg | with_reducible exact l_lt | with_reducible exact l_le | with_reducible exact l_gt | with_reducible exact l_ge | with_reducible exact l_lent | with_reducible exact l_inti | with_reducible exact l_intb | with_reducible exact l_tup | with_reducible exact l_slt | with_reducible exact dEq_int _ _ _ | with_reducible exact dNe_int _ _ _ | with_reducible exact dEq_str _ _ _ | with_reducible exact dNe_str _ _ _ | exact Nat.le_of_ble_eq_true rfl)
    · rw [p1]
      exact f5
  have z4 : sIf (tOrD (tOf (e2 dNe (eCall dRepr (aCons (eFnK0 d_row_of [1, 0] (aCons (e2 dIx (eVar 7) (eC (.int 1))) (aCons (e2 dIx (eVar 7) (eC (.int 0))) aNil))) aNil)) (eCall dRepr (aCons (eVar 5) aNil)))) (tOf (e2 dNe (eCall dRepr (aCons (eFn d_row_of (aCons (eVar 2) (aCons (eVar 0) aNil))) aNil)) (eCall dRepr (aCons (eVar 5) aNil))))) (sRet (eC (.bl false))) sSkip [some (rw' a), some (rw' b), some (rw' c), some (rw' (List.zipWith sg b a)), some (rw' (List.zipWith sg c b)), some (rw' (List.zipWith sg c a)), some (.int farN), some (.loc kk), none, none] s4 =
      .nx [some (rw' a), some (rw' b), some (rw' c), some (rw' (List.zipWith sg b a)), some (rw' (List.zipWith sg c b)), some (rw' (List.zipWith sg c a)), some (.int farN), some (.loc kk), none, none] s6 := by
    refine x_iff (b := !decide ((pr (List.zipWith sg c a)).shown = (pr (List.zipWith sg c a)).shown)) (st' := s6) (x_torf (b := !decide ((pr (List.zipWith sg c a)).shown = (pr (List.zipWith sg c a)).shown)) (s1 := s5) ?_ (by simp) ?_) (by simp) x_skip
    · (repeat' first | with_reducible assumption | ((with_reducible apply x_var); rfl) | with_reducible exact x_c | with_reducible exact x_nil | with_reducible exact x_skip | with_reducible apply x_setE | exact SetTo.mk rfl | with_reducible apply x_exprE | exact EnvEq.mk rfl | with_reducible apply x_ret | with_reducible apply x_cons | with_reducible apply x_2 | with_reducible apply x_1 | with_reducible apply x_call | with_reducible apply x_fn | with_reducible apply x_tof | with_reducible apply x_tnot | with_reducible apply x_sl | with_reducible apply x_os | with_reducible apply x_tup | with_reducible apply x_lst | with_reducible apply x_sub | with_reducible exact x_on | with_reducible exact l_add | with_reducible exact l_sub | with_reducible exact l_neg | with_reducible exact l_lt | with_reducible exact l_le | with_reducible exact l_gt | with_reducible exact l_ge | with_reducible exact l_lent | with_reducible exact l_inti | with_reducible exact l_intb | with_reducible exact l_tup | with_reducible exact l_slt | with_reducible exact dEq_int _ _ _ | with_reducible exact dNe_int _ _ _ | with_reducible exact dEq_str _ _ _ | with_reducible exact dNe_str _ _ _ | exact Nat.le_of_ble_eq_true rfl)
    · (repeat' first | with_reducible assumption | ((with_reducible apply x_var); rfl) | with_reducible exact x_c | with_reducible exact x_nil | with_reducible exact x_skip | with_reducible apply x_setE | exact SetTo.mk rfl | with_reducible apply x_exprE | exact EnvEq.mk rfl | with_reducible apply x_ret | with_reducible apply x_cons | with_reducible apply x_2 | with_reducible apply x_1 | with_reducible apply x_call | with_reducible apply x_fn | with_reducible apply x_tof | with_reducible apply x_tnot | with_reducible apply x_sl | with_reducible apply x_os | with_reducible apply x_tup | with_reducible apply x_lst | with_reducible apply x_sub | with_reducible exact x_on | with_reducible exact l_add | with_reducible exact l_sub | with_reducible exact l_neg | with_reducible exact l_lt | with_reducible exact l_le | with_reducible exact l_gt | with_reducible exact l_ge | with_reducible exact l_lent | with_reducible exact l_inti | with_reducible exact l_intb | with_reducible exact l_tup | with_reducible exact l_slt | with_reducible exact dEq_int _ _ _ | with_reducible exact dNe_int _ _ _ | with_reducible exact dEq_str _ _ _ | with_reducible exact dNe_str _ _ _ | exact Nat.le_of_ble_eq_true rfl)
  obtain ⟨s7, f7, g7⟩ := sums_of (a := List.zipWith sg b a) (b := List.zipWith sg c b) (by rw [List.length_zipWith]; omega) s6
  have e7 : eFnK0 d_sums [1, 0] (aCons (eVar 4) (aCons (eVar 3) aNil)) [some (rw' a), some (rw' b), some (rw' c), some (rw' (List.zipWith sg b a)), some (rw' (List.zipWith sg c b)), some (rw' (List.zipWith sg c a)), some (.int farN), some (.loc kk), none, none] s6 = .ok (rows' (prod (List.zipWith ss (List.zipWith sg b a) (List.zipWith sg c b)))) s7 := by
    refine x_fnk (xs := [rw' (List.zipWith sg c b), rw' (List.zipWith sg b a)]) (s1 := s6) ?_ ?_
    · (repeat' first | with_reducible assumption | ((with_reducible apply x_var); rfl) | with_reducible exact x_c | with_reducible exact x_nil | with_reducible exact x_skip | with_reducible apply x_setE | exact SetTo.mk rfl | with_reducible apply x_exprE | exact EnvEq.mk rfl | with_reducible apply x_ret | with_reducible apply x_cons | with_reducible apply x_2 | with_reducible apply x_1 | with_reducible apply x_call | with_reducible apply x_fn | with_reducible apply x_tof | with_reducible apply x_tnot | with_reducible apply x_sl | with_reducible apply x_os | with_reducible apply x_tup | with_reducible apply x_lst | with_reducible apply x_sub | with_reducible exact x_on | with_reducible exact l_add | with_reducible exact l_sub | with_reducible exact l_neg | with_reducible exact l_lt | with_reducible exact l_le | with_reducible exact l_gt | with_reducible exact l_ge | with_reducible exact l_lent | with_reducible exact l_inti | with_reducible exact l_intb | with_reducible exact l_tup | with_reducible exact l_slt | with_reducible exact dEq_int _ _ _ | with_reducible exact dNe_int _ _ _ | with_reducible exact dEq_str _ _ _ | with_reducible exact dNe_str _ _ _ | exact Nat.le_of_ble_eq_true rfl)
    · rw [p2]
      exact f7
  have q8 := dIn_rows false (List.zipWith sg c a) (prod (List.zipWith ss (List.zipWith sg b a) (List.zipWith sg c b))) s7
  have q9 : (if false = true then !decide (List.zipWith sg c a ∈ prod (List.zipWith ss (List.zipWith sg b a) (List.zipWith sg c b))) else decide (List.zipWith sg c a ∈ prod (List.zipWith ss (List.zipWith sg b a) (List.zipWith sg c b)))) = true := by
    rw [if_neg (by decide)]
    exact decide_eq_true (row_sum a b c h1 h2)
  rw [q9] at q8
  refine ⟨s7, x_body (x_seq z1 (x_seq z2 (x_seq (x_set f4) (x_seq z4 (x_ret ?_))))), ((g04.trans g5).trans g6).trans g7⟩
  (repeat' first | with_reducible assumption | ((with_reducible apply x_var); rfl) | with_reducible exact x_c | with_reducible exact x_nil | with_reducible exact x_skip | with_reducible apply x_setE | exact SetTo.mk rfl | with_reducible apply x_exprE | exact EnvEq.mk rfl | with_reducible apply x_ret | with_reducible apply x_cons | with_reducible apply x_2 | with_reducible apply x_1 | with_reducible apply x_call | with_reducible apply x_fn | with_reducible apply x_tof | with_reducible apply x_tnot | with_reducible apply x_sl | with_reducible apply x_os | with_reducible apply x_tup | with_reducible apply x_lst | with_reducible apply x_sub | with_reducible exact x_on | with_reducible exact l_add | with_reducible exact l_sub | with_reducible exact l_neg | with_reducible exact l_lt | with_reducible exact l_le | with_reducible exact l_gt | with_reducible exact l_ge | with_reducible exact l_lent | with_reducible exact l_inti | with_reducible exact l_intb | with_reducible exact l_tup | with_reducible exact l_slt | with_reducible exact dEq_int _ _ _ | with_reducible exact dNe_int _ _ _ | with_reducible exact dEq_str _ _ _ | with_reducible exact dNe_str _ _ _ | exact Nat.le_of_ble_eq_true rfl)
end Rol.G

namespace Rol.G
open PySem L2 PySem.Spec Rol
open PyProof.Rows hiding St
theorem l_max (i j : Int) (st : S) : dMax [.int i, .int j] st = .ok (.int (if j > i then j else i)) st := rfl
theorem ne_src (ns : List Int) (st : S) (k l : Nat) (h : itemsAt st k = some (ns.map D.int)) (h2 : itemsAt st l = some []) : dNe (.loc k) (.loc l) st = .ok (.bl (!decide (ns = []))) st := by
  have e1 : toP st 64 (.loc k) = some (.list (ns.map .int)) := by
    rw [toP, h]
    simp only [optAll_map (h := PyData.int) ns fun x _ => toP_int st 63 x, Option.map_some]
  have e2 : toP st 64 (.loc l) = some (.list []) := by
    rw [toP, h2]
    rfl
  show dNeD (.loc k) (.loc l) st = _
  unfold dNeD
  rw [e1, e2]
  have s2 : SeqAt.shaped (.list []) = true := by decide
  have e3 : PyData.eqv (.list (ns.map .int)) (.list []) = decide (ns = []) := by
    have := eqvAll_ints ns []
    rw [PyData.eqv]
    exact this
  simp only [shaped_lints, s2, and_self, if_true, e3]
theorem pool_of (ns : List Int) : ∃ j st', d__law_pool [.loc 0, .int 0] [.src (ns.map D.int)] = .ok (.loc j) st' ∧ Jar j st' := by
  let st0 : S := [.src (ns.map D.int)]
  have h0 : itemsAt st0 0 = some (ns.map D.int) := rfl
  -- the cell
  obtain ⟨c, st1, g1, z1⟩ : ∃ c st1, Gr st0 st1 ∧ sIf (tOf (e2 dLt (eVar 1) (eCall dLen (aCons (eVar 0) aNil)))) (sSet 2 (e2 dIx (eVar 0) (eVar 1))) (sIf (tOf (e2 dNe (eVar 0) (eLst aNil))) (sSet 2 (e2 dIx (eVar 0) (eC (.int 0)))) sSkip) [some (.loc 0), some (.int 0), some (.int 0), none, none] st0 = .nx [some (.loc 0), some (.int 0), some (.int c), none, none] st1 := by
    have q1 : dLen [.loc 0] st0 = .ok (.int (ns.map D.int).length) st0 := l_lenl h0
    cases ns with
    | nil =>
      have q2 := ne_src [] (st0 ++ [.lst []]) 0 1 rfl rfl
      refine ⟨0, st0 ++ [.lst []], Gr.app _ _, x_iff (b := decide ((0 : Int) < (([] : List Int).map D.int).length)) (st' := st0) ?_ (by simp) (x_iff (b := !decide (([] : List Int) = [])) (st' := st0 ++ [.lst []]) ?_ (by simp) x_skip)⟩
      · (repeat' first | with_reducible assumption | ((with_reducible apply x_var); rfl) | with_reducible exact x_c | with_reducible exact x_nil | with_reducible exact x_skip | with_reducible apply x_setE | exact SetTo.mk rfl | with_reducible apply x_exprE | exact EnvEq.mk rfl | with_reducible apply x_ret | with_reducible apply x_cons | with_reducible apply x_2 | with_reducible apply x_1 | with_reducible apply x_call | with_reducible apply x_fn | with_reducible apply x_tof | with_reducible apply x_tnot | with_reducible apply x_sl | with_reducible apply x_os | with_reducible apply x_tup | with_reducible apply x_lst | with_reducible apply x_sub | with_reducible exact x_on | with_reducible exact l_add | with_reducible exact l_sub | with_reducible exact l_neg | with_reducible exact l_lt | with_reducible exact l_le | with_reducible exact l_gt | with_reducible exact l_ge | with_reducible exact l_lent | with_reducible exact l_inti | with_reducible exact l_intb | with_reducible exact l_tup | with_reducible exact l_slt | with_reducible exact dEq_int _ _ _ | with_reducible exact dNe_int _ _ _ | with_reducible exact dEq_str _ _ _ | with_reducible exact dNe_str _ _ _ | exact Nat.le_of_ble_eq_true rfl)
      · refine x_tof (x_2 (x_var rfl) (x_lst x_nil (by decide)) ?_)
        exact q2
    | cons z ns =>
      have q2 : dIx (.loc 0) (.int 0) st0 = .ok (.int z) st0 := by
        have hh : atI ((z :: ns).map D.int) 0 = some (.int z) := by
          have h := atI_nat ((z :: ns).map D.int) 0 (by simp)
          simpa using h
        unfold dIx
        simp only [h0, hh]
      refine ⟨z, st0, Gr.refl _, x_ift (b := decide ((0 : Int) < ((z :: ns).map D.int).length)) (st' := st0) ?_ (by simp) (x_set (ρ := [some (.loc 0), some (.int 0), some (.int 0), none, none]) ?_)⟩
      · (repeat' first | with_reducible assumption | ((with_reducible apply x_var); rfl) | with_reducible exact x_c | with_reducible exact x_nil | with_reducible exact x_skip | with_reducible apply x_setE | exact SetTo.mk rfl | with_reducible apply x_exprE | exact EnvEq.mk rfl | with_reducible apply x_ret | with_reducible apply x_cons | with_reducible apply x_2 | with_reducible apply x_1 | with_reducible apply x_call | with_reducible apply x_fn | with_reducible apply x_tof | with_reducible apply x_tnot | with_reducible apply x_sl | with_reducible apply x_os | with_reducible apply x_tup | with_reducible apply x_lst | with_reducible apply x_sub | with_reducible exact x_on | with_reducible exact l_add | with_reducible exact l_sub | with_reducible exact l_neg | with_reducible exact l_lt | with_reducible exact l_le | with_reducible exact l_gt | with_reducible exact l_ge | with_reducible exact l_lent | with_reducible exact l_inti | with_reducible exact l_intb | with_reducible exact l_tup | with_reducible exact l_slt | with_reducible exact dEq_int _ _ _ | with_reducible exact dNe_int _ _ _ | with_reducible exact dEq_str _ _ _ | with_reducible exact dNe_str _ _ _ | exact Nat.le_of_ble_eq_true rfl)
      · (repeat' first | with_reducible assumption | ((with_reducible apply x_var); rfl) | with_reducible exact x_c | with_reducible exact x_nil | with_reducible exact x_skip | with_reducible apply x_setE | exact SetTo.mk rfl | with_reducible apply x_exprE | exact EnvEq.mk rfl | with_reducible apply x_ret | with_reducible apply x_cons | with_reducible apply x_2 | with_reducible apply x_1 | with_reducible apply x_call | with_reducible apply x_fn | with_reducible apply x_tof | with_reducible apply x_tnot | with_reducible apply x_sl | with_reducible apply x_os | with_reducible apply x_tup | with_reducible apply x_lst | with_reducible apply x_sub | with_reducible exact x_on | with_reducible exact l_add | with_reducible exact l_sub | with_reducible exact l_neg | with_reducible exact l_lt | with_reducible exact l_le | with_reducible exact l_gt | with_reducible exact l_ge | with_reducible exact l_lent | with_reducible exact l_inti | with_reducible exact l_intb | with_reducible exact l_tup | with_reducible exact l_slt | with_reducible exact dEq_int _ _ _ | with_reducible exact dNe_int _ _ _ | with_reducible exact dEq_str _ _ _ | with_reducible exact dNe_str _ _ _ | exact Nat.le_of_ble_eq_true rfl)
  have h1 := g1.items h0
  let big : Int := if -1 - c > c then -1 - c else c
  have hb : 0 ≤ big := by
    show 0 ≤ (if -1 - c > c then -1 - c else c)
    split <;> omega
  have q1 := l_max c (-1 - c) st1
  have q1' : dMax [.int c, .int (-1 - c)] st1 = .ok (.int big) st1 := q1
  have z2 : sSet 3 (eCall dMax (aCons (eCall dIntS (aCons (eVar 2) aNil)) (aCons (eCall dIntS (aCons (e2 dSub (e1 dNeg (eC (.int 1))) (eVar 2)) aNil)) aNil))) [some (.loc 0), some (.int 0), some (.int c), none, none] st1 = .nx [some (.loc 0), some (.int 0), some (.int c), some (.int big), none] st1 := by
    refine x_set ?_
    (repeat' first | with_reducible assumption | ((with_reducible apply x_var); rfl) | with_reducible exact x_c | with_reducible exact x_nil | with_reducible exact x_skip | with_reducible apply x_setE | exact SetTo.mk rfl | with_reducible apply x_exprE | exact EnvEq.mk rfl | with_reducible apply x_ret | with_reducible apply x_cons | with_reducible apply x_2 | with_reducible apply x_1 | with_reducible apply x_call | with_reducible apply x_fn | with_reducible apply x_tof | with_reducible apply x_tnot | with_reducible apply x_sl | with_reducible apply x_os | with_reducible apply x_tup | with_reducible apply x_lst | with_reducible apply x_sub | with_reducible exact x_on | with_reducible exact l_add | with_reducible exact l_sub | with_reducible exact l_neg | with_reducible exact l_lt | with_reducible exact l_le | with_reducible exact l_gt | with_reducible exact l_ge | with_reducible exact l_lent | with_reducible exact l_inti | with_reducible exact l_intb | with_reducible exact l_tup | with_reducible exact l_slt | with_reducible exact dEq_int _ _ _ | with_reducible exact dNe_int _ _ _ | with_reducible exact dEq_str _ _ _ | with_reducible exact dNe_str _ _ _ | exact Nat.le_of_ble_eq_true rfl)
  let mx : Int := (big % 2147483629 + 7919 * 0 * 0 + 31 * 0 + 17) * 48271 % 2147483647
  have q2 := @l_mod big 2147483629 st1 (by decide)
  have q3 := @l_mul 7919 0 st1 (cMul_r (by decide) (by decide))
  have q4 := @l_mul (7919 * 0) 0 st1 (cMul_r (by decide) (by decide))
  have q5 := @l_mul 31 0 st1 (cMul_r (by decide) (by decide))
  have q6 := @l_mul (big % 2147483629 + 7919 * 0 * 0 + 31 * 0 + 17) 48271 st1 (cMul_r (by decide) (by decide))
  have q7 : dMod (.int ((big % 2147483629 + 7919 * 0 * 0 + 31 * 0 + 17) * 48271)) (.int 2147483647) st1 = .ok (.int mx) st1 := l_mod (by decide)
  have z3 : sSet 4 (e2 dMod (eCall dIntS (aCons (e2 dMul (e2 dAdd (e2 dAdd (e2 dAdd (e2 dMod (eCall dIntS (aCons (eVar 3) aNil)) (eC (.int 2147483629))) (e2 dMul (e2 dMul (eC (.int 7919)) (eVar 1)) (eVar 1))) (e2 dMul (eC (.int 31)) (eVar 1))) (eC (.int 17))) (eC (.int 48271))) aNil)) (eC (.int 2147483647))) [some (.loc 0), some (.int 0), some (.int c), some (.int big), none] st1 = .nx [some (.loc 0), some (.int 0), some (.int c), some (.int big), some (.int mx)] st1 := by
    refine x_set ?_
    (repeat' first | with_reducible assumption | ((with_reducible apply x_var); rfl) | with_reducible exact x_c | with_reducible exact x_nil | with_reducible exact x_skip | with_reducible apply x_setE | exact SetTo.mk rfl | with_reducible apply x_exprE | exact EnvEq.mk rfl | with_reducible apply x_ret | with_reducible apply x_cons | with_reducible apply x_2 | with_reducible apply x_1 | with_reducible apply x_call | with_reducible apply x_fn | with_reducible apply x_tof | with_reducible apply x_tnot | with_reducible apply x_sl | with_reducible apply x_os | with_reducible apply x_tup | with_reducible apply x_lst | with_reducible apply x_sub | with_reducible exact x_on | with_reducible exact l_add | with_reducible exact l_sub | with_reducible exact l_neg | with_reducible exact l_lt | with_reducible exact l_le | with_reducible exact l_gt | with_reducible exact l_ge | with_reducible exact l_lent | with_reducible exact l_inti | with_reducible exact l_intb | with_reducible exact l_tup | with_reducible exact l_slt | with_reducible exact dEq_int _ _ _ | with_reducible exact dNe_int _ _ _ | with_reducible exact dEq_str _ _ _ | with_reducible exact dNe_str _ _ _ | exact Nat.le_of_ble_eq_true rfl)
  have q8 := pow18 st1
  have q9 : dLen [.loc 0] st1 = .ok (.int (ns.map D.int).length) st1 := l_lenl h1
  obtain ⟨bb, e9⟩ : ∃ bb, eAnd (e2 dGe (eVar 3) (e2 dPow (eC (.int 10)) (eC (.int 18)))) (e2 dLt (eVar 1) (eCall dLen (aCons (eVar 0) aNil))) [some (.loc 0), some (.int 0), some (.int c), some (.int big), some (.int mx)] st1 = .ok (.bl bb) st1 := by
    refine ⟨decide ((1000000000000000000 : Int) ≤ big) && decide ((0 : Int) < (ns.map D.int).length), x_and2 ?_ ?_⟩
    · (repeat' first | with_reducible assumption | ((with_reducible apply x_var); rfl) | with_reducible exact x_c | with_reducible exact x_nil | with_reducible exact x_skip | with_reducible apply x_setE | exact SetTo.mk rfl | with_reducible apply x_exprE | exact EnvEq.mk rfl | with_reducible apply x_ret | with_reducible apply x_cons | with_reducible apply x_2 | with_reducible apply x_1 | with_reducible apply x_call | with_reducible apply x_fn | with_reducible apply x_tof | with_reducible apply x_tnot | with_reducible apply x_sl | with_reducible apply x_os | with_reducible apply x_tup | with_reducible apply x_lst | with_reducible apply x_sub | with_reducible exact x_on | with_reducible exact l_add | with_reducible exact l_sub | with_reducible exact l_neg | with_reducible exact l_lt | with_reducible exact l_le | with_reducible exact l_gt | with_reducible exact l_ge | with_reducible exact l_lent | with_reducible exact l_inti | with_reducible exact l_intb | with_reducible exact l_tup | with_reducible exact l_slt | with_reducible exact dEq_int _ _ _ | with_reducible exact dNe_int _ _ _ | with_reducible exact dEq_str _ _ _ | with_reducible exact dNe_str _ _ _ | exact Nat.le_of_ble_eq_true rfl)
    · (repeat' first | with_reducible assumption | ((with_reducible apply x_var); rfl) | with_reducible exact x_c | with_reducible exact x_nil | with_reducible exact x_skip | with_reducible apply x_setE | exact SetTo.mk rfl | with_reducible apply x_exprE | exact EnvEq.mk rfl | with_reducible apply x_ret | with_reducible apply x_cons | with_reducible apply x_2 | with_reducible apply x_1 | with_reducible apply x_call | with_reducible apply x_fn | with_reducible apply x_tof | with_reducible apply x_tnot | with_reducible apply x_sl | with_reducible apply x_os | with_reducible apply x_tup | with_reducible apply x_lst | with_reducible apply x_sub | with_reducible exact x_on | with_reducible exact l_add | with_reducible exact l_sub | with_reducible exact l_neg | with_reducible exact l_lt | with_reducible exact l_le | with_reducible exact l_gt | with_reducible exact l_ge | with_reducible exact l_lent | with_reducible exact l_inti | with_reducible exact l_intb | with_reducible exact l_tup | with_reducible exact l_slt | with_reducible exact dEq_int _ _ _ | with_reducible exact dNe_int _ _ _ | with_reducible exact dEq_str _ _ _ | with_reducible exact dNe_str _ _ _ | exact Nat.le_of_ble_eq_true rfl)
  have q10 := @l_mul big (if bb = true then 1 else 0) st1 (cMul_r (by split <;> decide) (by split <;> decide))
  refine ⟨st1.length, st1 ++ [.lst [.int (big * (if bb = true then 1 else 0)), .int mx]], x_body (x_seq (ρ' := [some (.loc 0), some (.int 0), some (.int 0), none, none]) (st' := st0) (x_set x_c) (x_seq z1 (x_seq z2 (x_seq z3 (x_ret (x_lst ?_ (by simp only [List.length_cons, List.length_nil]; decide))))))), ⟨_, _, ?_, at_new _ _⟩⟩
  · (repeat' first | with_reducible assumption | ((with_reducible apply x_var); rfl) | with_reducible exact x_c | with_reducible exact x_nil | with_reducible exact x_skip | with_reducible apply x_setE | exact SetTo.mk rfl | with_reducible apply x_exprE | exact EnvEq.mk rfl | with_reducible apply x_ret | with_reducible apply x_cons | with_reducible apply x_2 | with_reducible apply x_1 | with_reducible apply x_call | with_reducible apply x_fn | with_reducible apply x_tof | with_reducible apply x_tnot | with_reducible apply x_sl | with_reducible apply x_os | with_reducible apply x_tup | with_reducible apply x_lst | with_reducible apply x_sub | with_reducible exact x_on | with_reducible exact l_add | with_reducible exact l_sub | with_reducible exact l_neg | with_reducible exact l_lt | with_reducible exact l_le | with_reducible exact l_gt | with_reducible exact l_ge | with_reducible exact l_lent | with_reducible exact l_inti | with_reducible exact l_intb | with_reducible exact l_tup | with_reducible exact l_slt | with_reducible exact dEq_int _ _ _ | with_reducible exact dNe_int _ _ _ | with_reducible exact dEq_str _ _ _ | with_reducible exact dNe_str _ _ _ | exact Nat.le_of_ble_eq_true rfl)
  · split
    · omega
    · omega
theorem law_pure : ∀ ns : List Int, ns.length ≤ 63 → (∀ z ∈ ns, PySem.Builtin.Int.intBits z ≤ 1048576) → ∃ st', d_law [.loc 0] [.src (ns.map D.int)] = .ok (.bl true) st' := by
  intro ns _ _
  obtain ⟨j, s1, f1, hj⟩ := pool_of ns
  have z1 : sSet 1 (eFn d__law_pool (aCons (eVar 0) (aCons (eC (.int 0)) aNil))) [some (.loc 0), none, none, none, none, none, none, none, none, none] [.src (ns.map D.int)] = .nx [some (.loc 0), some (.loc j), none, none, none, none, none, none, none, none] s1 := by
    refine x_set ?_
    (repeat' first | with_reducible assumption | ((with_reducible apply x_var); rfl) | with_reducible exact x_c | with_reducible exact x_nil | with_reducible exact x_skip | with_reducible apply x_setE | exact SetTo.mk rfl | with_reducible apply x_exprE | exact EnvEq.mk rfl | with_reducible apply x_ret | with_reducible apply x_cons | with_reducible apply x_2 | with_reducible apply x_1 | with_reducible apply x_call | with_reducible apply x_fn | with_reducible apply x_tof | with_reducible apply x_tnot | with_reducible apply x_sl | with_reducible apply x_os | with_reducible apply x_tup | with_reducible apply x_lst | with_reducible apply x_sub | with_reducible exact x_on | with_reducible exact l_add | with_reducible exact l_sub | with_reducible exact l_neg | with_reducible exact l_lt | with_reducible exact l_le | with_reducible exact l_gt | with_reducible exact l_ge | with_reducible exact l_lent | with_reducible exact l_inti | with_reducible exact l_intb | with_reducible exact l_tup | with_reducible exact l_slt | with_reducible exact dEq_int _ _ _ | with_reducible exact dNe_int _ _ _ | with_reducible exact dEq_str _ _ _ | with_reducible exact dNe_str _ _ _ | exact Nat.le_of_ble_eq_true rfl)
  obtain ⟨nv, s2, f2, hn, v2⟩ := one_of (hj.gr (Gr.app s1 [.lst [.int 1, .int 2, .int 2, .int 3, .int 3, .int 4, .int 4, .int 5, .int 6]])) (k := s1.length) (by have := hj.lt; omega) (at_new _ _) (by simp) (by simp)
  obtain ⟨n, rfl, n1, n6⟩ : ∃ n, nv = .int n ∧ 1 ≤ n ∧ n ≤ 6 := by
    simp only [List.mem_cons, List.mem_nil_iff, or_false] at hn
    rcases hn with rfl | rfl | rfl | rfl | rfl | rfl | rfl | rfl | rfl <;> exact ⟨_, rfl, by decide, by decide⟩
  have z2 : sSet 2 (eFn d__law_one (aCons (eVar 1) (aCons (eLst (aCons (eC (.int 1)) (aCons (eC (.int 2)) (aCons (eC (.int 2)) (aCons (eC (.int 3)) (aCons (eC (.int 3)) (aCons (eC (.int 4)) (aCons (eC (.int 4)) (aCons (eC (.int 5)) (aCons (eC (.int 6)) aNil)))))))))) aNil))) [some (.loc 0), some (.loc j), none, none, none, none, none, none, none, none] s1 = .nx [some (.loc 0), some (.loc j), some (.int n), none, none, none, none, none, none, none] s2 := by
    refine x_set ?_
    (repeat' first | with_reducible assumption | ((with_reducible apply x_var); rfl) | with_reducible exact x_c | with_reducible exact x_nil | with_reducible exact x_skip | with_reducible apply x_setE | exact SetTo.mk rfl | with_reducible apply x_exprE | exact EnvEq.mk rfl | with_reducible apply x_ret | with_reducible apply x_cons | with_reducible apply x_2 | with_reducible apply x_1 | with_reducible apply x_call | with_reducible apply x_fn | with_reducible apply x_tof | with_reducible apply x_tnot | with_reducible apply x_sl | with_reducible apply x_os | with_reducible apply x_tup | with_reducible apply x_lst | with_reducible apply x_sub | with_reducible exact x_on | with_reducible exact l_add | with_reducible exact l_sub | with_reducible exact l_neg | with_reducible exact l_lt | with_reducible exact l_le | with_reducible exact l_gt | with_reducible exact l_ge | with_reducible exact l_lent | with_reducible exact l_inti | with_reducible exact l_intb | with_reducible exact l_tup | with_reducible exact l_slt | with_reducible exact dEq_int _ _ _ | with_reducible exact dNe_int _ _ _ | with_reducible exact dEq_str _ _ _ | with_reducible exact dNe_str _ _ _ | exact Nat.le_of_ble_eq_true rfl)
  have hi : iRg1 (aCons (eC (.int 3)) aNil) [some (.loc 0), some (.loc j), some (.int n), none, none, none, none, none, none, none] s2 = .ok (irange 0 3, none) s2 := x_irg1 (j := 3) (x_cons x_c x_nil) (by decide) (by decide)
  obtain ⟨ρ', s', h1, ⟨v3, v4, v5, v6, v7, v8, v9, rfl, hj'⟩⟩ := sFor_of (p := .nm 3) (fun _ ρ s => ∃ v3 v4 v5 v6 v7 v8 v9, ρ = [some (.loc 0), some (.loc j), some (.int n), v3, v4, v5, v6, v7, v8, v9] ∧ Jar j s)
    hi (fun _ _ _ _ => trivial) ⟨none, none, none, none, none, none, none, rfl, v2.jar⟩ (bd := sSeq (sSet 4 (eFn d__law_any_row (aCons (eVar 1) (aCons (eVar 2) aNil)))) (sSeq (sSet 5 (eFn d__law_other_row (aCons (eVar 1) (aCons (eVar 2) (aCons (eVar 4) aNil))))) (sSeq (sSet 6 (eFn d__law_other_row (aCons (eVar 1) (aCons (eVar 2) (aCons (eVar 4) aNil))))) (sSeq (sIf (tOrD (tNotD (tOf (eFn d__law_two_right (aCons (eVar 2) (aCons (eVar 4) (aCons (eVar 5) aNil)))))) (tNotD (tOf (eFn d__law_two_right (aCons (eVar 2) (aCons (eVar 5) (aCons (eVar 6) aNil))))))) (sRet (eC (.bl false))) sSkip) (sSeq (sIf (tNotD (tOf (eFn d__law_three_right (aCons (eSl (eVar 4) oNone (oSome (eC (.int 3)))) (aCons (eSl (eVar 5) oNone (oSome (eC (.int 3)))) (aCons (eSl (eVar 6) oNone (oSome (eC (.int 3)))) aNil)))))) (sRet (eC (.bl false))) sSkip) (sSeq (sSet 7 (eFn d__law_any_motion (aCons (eVar 1) (aCons (eVar 2) aNil)))) (sSeq (sSet 8 (eFn d__law_near_motion (aCons (eVar 1) (aCons (eVar 7) aNil)))) (sSeq (sSet 9 (eIf (tOf (e2 dEq (eFn d__law_take (aCons (eVar 1) (aCons (eC (.int 2)) aNil))) (eC (.int 0)))) (eFn d__law_any_motion (aCons (eVar 1) (aCons (eVar 2) aNil))) (eFn d__law_near_motion (aCons (eVar 1) (aCons (eVar 8) aNil))))) (sIf (tOrD (tNotD (tOf (eFn d__law_tale_right (aCons (eVar 7) (aCons (eVar 8) (aCons (eVar 9) aNil)))))) (tNotD (tOf (eFn d__law_tale_right (aCons (eVar 9) (aCons (eVar 7) (aCons (eVar 8) aNil))))))) (sRet (eC (.bl false))) sSkip))))))))) (fun done x rest ρ s hd ⟨v3, v4, v5, v6, v7, v8, v9, hρ, hj⟩ => by
      subst hρ
      obtain ⟨a, t1, e1', a1, a2, u1⟩ := any_row hj n1 n6
      obtain ⟨b, t2, e2', b1, b2, u2⟩ := other_row u1.jar n1 n6 a1 a2
      obtain ⟨c, t3, e3', c1, c2, u3⟩ := other_row u2.jar n1 n6 a1 a2
      obtain ⟨t4, e4, g4⟩ := two_right n1 n6 a1 b1 a2 b2 t3
      obtain ⟨t5, e5, g5⟩ := two_right n1 n6 b1 c1 b2 c2 t4
      have tk : ∀ r : List Int, Sr r → Sr (r.take 3) := fun r h z hz => h z (List.mem_of_mem_take hz)
      obtain ⟨t6, e6, g6⟩ := three_right (a := a.take 3) (b := b.take 3) (c := c.take 3) (tk a a1) (tk b b1) (tk c c1) (by simp; omega) (by simp; omega) (by simp; omega) (by simp; omega) t5
      have k6 := ((u3.jar.gr g4).gr g5).gr g6
      obtain ⟨m, t7, e7, m1, m2, u7⟩ := any_motion k6 n1 n6
      obtain ⟨p, t8, e8, p1, p2, u8⟩ := near_motion u7.jar n1 n6 m1 m2
      obtain ⟨d, t9, e9, d0, d1, u9⟩ := take_of u8.jar (top := 2) (by decide) (by decide)
      have cutr : ∀ r : List Int, ∀ t : S, dSl (rw' r) none (some 3) t = .ok (rw' (r.take 3)) t := fun r t => by
        have h := l_slt (xs := r.map D.int) (p := none) (q := some 3) (st := t)
        rw [show cutD (r.map D.int) none (some 3) = (r.map D.int).take 3 from cut_to _ 3, ← List.map_take] at h
        exact h
      have q1 := cutr a t5
      have q2 := cutr b t5
      have q3 := cutr c t5
      obtain ⟨o, t10, e10, o1, o2, u10⟩ : ∃ o t10, eIf (tOf (e2 dEq (eFn d__law_take (aCons (eVar 1) (aCons (eC (.int 2)) aNil))) (eC (.int 0)))) (eFn d__law_any_motion (aCons (eVar 1) (aCons (eVar 2) aNil))) (eFn d__law_near_motion (aCons (eVar 1) (aCons (eVar 8) aNil))) [some (.loc 0), some (.loc j), some (.int n), some x, some (rw' a), some (rw' b), some (rw' c), some (rw' m), some (rw' p), v9] t8 = .ok (rw' o) t10 ∧ Hb 1000000000008 o ∧ o.length = n.toNat ∧ Jar j t10 := by
        by_cases hd : d = 0
        · obtain ⟨o, t10, e10, o1, o2, u10⟩ := any_motion u9.jar n1 n6
          refine ⟨o, t10, x_it (b := decide (d = 0)) (s1 := t9) ?_ (decide_eq_true hd) ?_, fun z hz => by have := o1 z hz; omega, o2, u10.jar⟩
          · (repeat' first | with_reducible assumption | ((with_reducible apply x_var); rfl) | with_reducible exact x_c | with_reducible exact x_nil | with_reducible exact x_skip | with_reducible apply x_setE | exact SetTo.mk rfl | with_reducible apply x_exprE | exact EnvEq.mk rfl | with_reducible apply x_ret | with_reducible apply x_cons | with_reducible apply x_2 | with_reducible apply x_1 | with_reducible apply x_call | with_reducible apply x_fn | with_reducible apply x_tof | with_reducible apply x_tnot | with_reducible apply x_sl | with_reducible apply x_os | with_reducible apply x_tup | with_reducible apply x_lst | with_reducible apply x_sub | with_reducible exact x_on | with_reducible exact l_add | with_reducible exact l_sub | with_reducible exact l_neg | with_reducible exact l_lt | with_reducible exact l_le | with_reducible exact l_gt | with_reducible exact l_ge | with_reducible exact l_lent | with_reducible exact l_inti | with_reducible exact l_intb | with_reducible exact l_tup | with_reducible exact l_slt | with_reducible exact dEq_int _ _ _ | with_reducible exact dNe_int _ _ _ | with_reducible exact dEq_str _ _ _ | with_reducible exact dNe_str _ _ _ | exact Nat.le_of_ble_eq_true rfl)
          · (repeat' first | with_reducible assumption | ((with_reducible apply x_var); rfl) | with_reducible exact x_c | with_reducible exact x_nil | with_reducible exact x_skip | with_reducible apply x_setE | exact SetTo.mk rfl | with_reducible apply x_exprE | exact EnvEq.mk rfl | with_reducible apply x_ret | with_reducible apply x_cons | with_reducible apply x_2 | with_reducible apply x_1 | with_reducible apply x_call | with_reducible apply x_fn | with_reducible apply x_tof | with_reducible apply x_tnot | with_reducible apply x_sl | with_reducible apply x_os | with_reducible apply x_tup | with_reducible apply x_lst | with_reducible apply x_sub | with_reducible exact x_on | with_reducible exact l_add | with_reducible exact l_sub | with_reducible exact l_neg | with_reducible exact l_lt | with_reducible exact l_le | with_reducible exact l_gt | with_reducible exact l_ge | with_reducible exact l_lent | with_reducible exact l_inti | with_reducible exact l_intb | with_reducible exact l_tup | with_reducible exact l_slt | with_reducible exact dEq_int _ _ _ | with_reducible exact dNe_int _ _ _ | with_reducible exact dEq_str _ _ _ | with_reducible exact dNe_str _ _ _ | exact Nat.le_of_ble_eq_true rfl)
        · obtain ⟨o, t10, e10, o1, o2, u10⟩ := near_motion u9.jar n1 n6 p1 p2
          refine ⟨o, t10, x_if (b := decide (d = 0)) (s1 := t9) ?_ (decide_eq_false hd) ?_, fun z hz => by have := o1 z hz; omega, o2, u10.jar⟩
          · (repeat' first | with_reducible assumption | ((with_reducible apply x_var); rfl) | with_reducible exact x_c | with_reducible exact x_nil | with_reducible exact x_skip | with_reducible apply x_setE | exact SetTo.mk rfl | with_reducible apply x_exprE | exact EnvEq.mk rfl | with_reducible apply x_ret | with_reducible apply x_cons | with_reducible apply x_2 | with_reducible apply x_1 | with_reducible apply x_call | with_reducible apply x_fn | with_reducible apply x_tof | with_reducible apply x_tnot | with_reducible apply x_sl | with_reducible apply x_os | with_reducible apply x_tup | with_reducible apply x_lst | with_reducible apply x_sub | with_reducible exact x_on | with_reducible exact l_add | with_reducible exact l_sub | with_reducible exact l_neg | with_reducible exact l_lt | with_reducible exact l_le | with_reducible exact l_gt | with_reducible exact l_ge | with_reducible exact l_lent | with_reducible exact l_inti | with_reducible exact l_intb | with_reducible exact l_tup | with_reducible exact l_slt | with_reducible exact dEq_int _ _ _ | with_reducible exact dNe_int _ _ _ | with_reducible exact dEq_str _ _ _ | with_reducible exact dNe_str _ _ _ | exact Nat.le_of_ble_eq_true rfl)
          · (repeat' first | with_reducible assumption | ((with_reducible apply x_var); rfl) | with_reducible exact x_c | with_reducible exact x_nil | with_reducible exact x_skip | with_reducible apply x_setE | exact SetTo.mk rfl | with_reducible apply x_exprE | exact EnvEq.mk rfl | with_reducible apply x_ret | with_reducible apply x_cons | with_reducible apply x_2 | with_reducible apply x_1 | with_reducible apply x_call | with_reducible apply x_fn | with_reducible apply x_tof | with_reducible apply x_tnot | with_reducible apply x_sl | with_reducible apply x_os | with_reducible apply x_tup | with_reducible apply x_lst | with_reducible apply x_sub | with_reducible exact x_on | with_reducible exact l_add | with_reducible exact l_sub | with_reducible exact l_neg | with_reducible exact l_lt | with_reducible exact l_le | with_reducible exact l_gt | with_reducible exact l_ge | with_reducible exact l_lent | with_reducible exact l_inti | with_reducible exact l_intb | with_reducible exact l_tup | with_reducible exact l_slt | with_reducible exact dEq_int _ _ _ | with_reducible exact dNe_int _ _ _ | with_reducible exact dEq_str _ _ _ | with_reducible exact dNe_str _ _ _ | exact Nat.le_of_ble_eq_true rfl)
      have m3 : Hb 1000000000008 m := fun z hz => by have := m1 z hz; omega
      have p3 : Hb 1000000000008 p := fun z hz => by have := p1 z hz; omega
      obtain ⟨t11, e11, g11⟩ := tale_right (a := m) (b := p) (c := o) (by decide) m3 o1 (by omega) (by omega) (by omega) t10
      obtain ⟨t12, e12, g12⟩ := tale_right (a := o) (b := m) (c := p) (by decide) o1 p3 (by omega) (by omega) (by omega) t11
      refine ⟨[some (.loc 0), some (.loc j), some (.int n), some x, v4, v5, v6, v7, v8, v9], rfl, [some (.loc 0), some (.loc j), some (.int n), some x, some (rw' a), some (rw' b), some (rw' c), some (rw' m), some (rw' p), some (rw' o)], t12, ?_, _, _, _, _, _, _, _, rfl, (u10.gr g11).gr g12⟩
      refine x_seq (ρ' := [some (.loc 0), some (.loc j), some (.int n), some x, some (rw' a), v5, v6, v7, v8, v9]) (st' := t1) (x_set (ρ := [some (.loc 0), some (.loc j), some (.int n), some x, v4, v5, v6, v7, v8, v9]) ?_) ?_
      · (repeat' first | with_reducible assumption | ((with_reducible apply x_var); rfl) | with_reducible exact x_c | with_reducible exact x_nil | with_reducible exact x_skip | with_reducible apply x_setE | exact SetTo.mk rfl | with_reducible apply x_exprE | exact EnvEq.mk rfl | with_reducible apply x_ret | with_reducible apply x_cons | with_reducible apply x_2 | with_reducible apply x_1 | with_reducible apply x_call | with_reducible apply x_fn | with_reducible apply x_tof | with_reducible apply x_tnot | with_reducible apply x_sl | with_reducible apply x_os | with_reducible apply x_tup | with_reducible apply x_lst | with_reducible apply x_sub | with_reducible exact x_on | with_reducible exact l_add | with_reducible exact l_sub | with_reducible exact l_neg | with_reducible exact l_lt | with_reducible exact l_le | with_reducible exact l_gt | with_reducible exact l_ge | with_reducible exact l_lent | with_reducible exact l_inti | with_reducible exact l_intb | with_reducible exact l_tup | with_reducible exact l_slt | with_reducible exact dEq_int _ _ _ | with_reducible exact dNe_int _ _ _ | with_reducible exact dEq_str _ _ _ | with_reducible exact dNe_str _ _ _ | exact Nat.le_of_ble_eq_true rfl)
      refine x_seq (ρ' := [some (.loc 0), some (.loc j), some (.int n), some x, some (rw' a), some (rw' b), v6, v7, v8, v9]) (st' := t2) (x_set (ρ := [some (.loc 0), some (.loc j), some (.int n), some x, some (rw' a), v5, v6, v7, v8, v9]) ?_) ?_
      · (repeat' first | with_reducible assumption | ((with_reducible apply x_var); rfl) | with_reducible exact x_c | with_reducible exact x_nil | with_reducible exact x_skip | with_reducible apply x_setE | exact SetTo.mk rfl | with_reducible apply x_exprE | exact EnvEq.mk rfl | with_reducible apply x_ret | with_reducible apply x_cons | with_reducible apply x_2 | with_reducible apply x_1 | with_reducible apply x_call | with_reducible apply x_fn | with_reducible apply x_tof | with_reducible apply x_tnot | with_reducible apply x_sl | with_reducible apply x_os | with_reducible apply x_tup | with_reducible apply x_lst | with_reducible apply x_sub | with_reducible exact x_on | with_reducible exact l_add | with_reducible exact l_sub | with_reducible exact l_neg | with_reducible exact l_lt | with_reducible exact l_le | with_reducible exact l_gt | with_reducible exact l_ge | with_reducible exact l_lent | with_reducible exact l_inti | with_reducible exact l_intb | with_reducible exact l_tup | with_reducible exact l_slt | with_reducible exact dEq_int _ _ _ | with_reducible exact dNe_int _ _ _ | with_reducible exact dEq_str _ _ _ | with_reducible exact dNe_str _ _ _ | exact Nat.le_of_ble_eq_true rfl)
      refine x_seq (ρ' := [some (.loc 0), some (.loc j), some (.int n), some x, some (rw' a), some (rw' b), some (rw' c), v7, v8, v9]) (st' := t3) (x_set (ρ := [some (.loc 0), some (.loc j), some (.int n), some x, some (rw' a), some (rw' b), v6, v7, v8, v9]) ?_) ?_
      · (repeat' first | with_reducible assumption | ((with_reducible apply x_var); rfl) | with_reducible exact x_c | with_reducible exact x_nil | with_reducible exact x_skip | with_reducible apply x_setE | exact SetTo.mk rfl | with_reducible apply x_exprE | exact EnvEq.mk rfl | with_reducible apply x_ret | with_reducible apply x_cons | with_reducible apply x_2 | with_reducible apply x_1 | with_reducible apply x_call | with_reducible apply x_fn | with_reducible apply x_tof | with_reducible apply x_tnot | with_reducible apply x_sl | with_reducible apply x_os | with_reducible apply x_tup | with_reducible apply x_lst | with_reducible apply x_sub | with_reducible exact x_on | with_reducible exact l_add | with_reducible exact l_sub | with_reducible exact l_neg | with_reducible exact l_lt | with_reducible exact l_le | with_reducible exact l_gt | with_reducible exact l_ge | with_reducible exact l_lent | with_reducible exact l_inti | with_reducible exact l_intb | with_reducible exact l_tup | with_reducible exact l_slt | with_reducible exact dEq_int _ _ _ | with_reducible exact dNe_int _ _ _ | with_reducible exact dEq_str _ _ _ | with_reducible exact dNe_str _ _ _ | exact Nat.le_of_ble_eq_true rfl)
      refine x_seq (ρ' := [some (.loc 0), some (.loc j), some (.int n), some x, some (rw' a), some (rw' b), some (rw' c), v7, v8, v9]) (st' := t5) (x_iff (b := !true) (st' := t5) (x_torf (b := !true) (s1 := t4) ?_ rfl ?_) rfl x_skip) ?_
      · (repeat' first | with_reducible assumption | ((with_reducible apply x_var); rfl) | with_reducible exact x_c | with_reducible exact x_nil | with_reducible exact x_skip | with_reducible apply x_setE | exact SetTo.mk rfl | with_reducible apply x_exprE | exact EnvEq.mk rfl | with_reducible apply x_ret | with_reducible apply x_cons | with_reducible apply x_2 | with_reducible apply x_1 | with_reducible apply x_call | with_reducible apply x_fn | with_reducible apply x_tof | with_reducible apply x_tnot | with_reducible apply x_sl | with_reducible apply x_os | with_reducible apply x_tup | with_reducible apply x_lst | with_reducible apply x_sub | with_reducible exact x_on | with_reducible exact l_add | with_reducible exact l_sub | with_reducible exact l_neg | with_reducible exact l_lt | with_reducible exact l_le | with_reducible exact l_gt | with_reducible exact l_ge | with_reducible exact l_lent | with_reducible exact l_inti | with_reducible exact l_intb | with_reducible exact l_tup | with_reducible exact l_slt | with_reducible exact dEq_int _ _ _ | with_reducible exact dNe_int _ _ _ | with_reducible exact dEq_str _ _ _ | with_reducible exact dNe_str _ _ _ | exact Nat.le_of_ble_eq_true rfl)
      · (repeat' first | with_reducible assumption | ((with_reducible apply x_var); rfl) | with_reducible exact x_c | with_reducible exact x_nil | with_reducible exact x_skip | with_reducible apply x_setE | exact SetTo.mk rfl | with_reducible apply x_exprE | exact EnvEq.mk rfl | with_reducible apply x_ret | with_reducible apply x_cons | with_reducible apply x_2 | with_reducible apply x_1 | with_reducible apply x_call | with_reducible apply x_fn | with_reducible apply x_tof | with_reducible apply x_tnot | with_reducible apply x_sl | with_reducible apply x_os | with_reducible apply x_tup | with_reducible apply x_lst | with_reducible apply x_sub | with_reducible exact x_on | with_reducible exact l_add | with_reducible exact l_sub | with_reducible exact l_neg | with_reducible exact l_lt | with_reducible exact l_le | with_reducible exact l_gt | with_reducible exact l_ge | with_reducible exact l_lent | with_reducible exact l_inti | with_reducible exact l_intb | with_reducible exact l_tup | with_reducible exact l_slt | with_reducible exact dEq_int _ _ _ | with_reducible exact dNe_int _ _ _ | with_reducible exact dEq_str _ _ _ | with_reducible exact dNe_str _ _ _ | exact Nat.le_of_ble_eq_true rfl)
      refine x_seq (ρ' := [some (.loc 0), some (.loc j), some (.int n), some x, some (rw' a), some (rw' b), some (rw' c), v7, v8, v9]) (st' := t6) (x_iff (b := !true) (st' := t6) ?_ rfl x_skip) ?_
      · (repeat' first | with_reducible assumption | ((with_reducible apply x_var); rfl) | with_reducible exact x_c | with_reducible exact x_nil | with_reducible exact x_skip | with_reducible apply x_setE | exact SetTo.mk rfl | with_reducible apply x_exprE | exact EnvEq.mk rfl | with_reducible apply x_ret | with_reducible apply x_cons | with_reducible apply x_2 | with_reducible apply x_1 | with_reducible apply x_call | with_reducible apply x_fn | with_reducible apply x_tof | with_reducible apply x_tnot | with_reducible apply x_sl | with_reducible apply x_os | with_reducible apply x_tup | with_reducible apply x_lst | with_reducible apply x_sub | with_reducible exact x_on | with_reducible exact l_add | with_reducible exact l_sub | with_reducible exact l_neg | with_reducible exact l_lt | with_reducible exact l_le | with_reducible exact l_gt | with_reducible exact l_ge | with_reducible exact l_lent | with_reducible exact l_inti | with_reducible exact l_intb | with_reducible exact l_tup | with_reducible exact l_slt | with_reducible exact dEq_int _ _ _ | with_reducible exact dNe_int _ _ _ | with_reducible exact dEq_str _ _ _ | with_reducible exact dNe_str _ _ _ | exact Nat.le_of_ble_eq_true rfl)
      refine x_seq (ρ' := [some (.loc 0), some (.loc j), some (.int n), some x, some (rw' a), some (rw' b), some (rw' c), some (rw' m), v8, v9]) (st' := t7) (x_set (ρ := [some (.loc 0), some (.loc j), some (.int n), some x, some (rw' a), some (rw' b), some (rw' c), v7, v8, v9]) ?_) ?_
      · (repeat' first | with_reducible assumption | ((with_reducible apply x_var); rfl) | with_reducible exact x_c | with_reducible exact x_nil | with_reducible exact x_skip | with_reducible apply x_setE | exact SetTo.mk rfl | with_reducible apply x_exprE | exact EnvEq.mk rfl | with_reducible apply x_ret | with_reducible apply x_cons | with_reducible apply x_2 | with_reducible apply x_1 | with_reducible apply x_call | with_reducible apply x_fn | with_reducible apply x_tof | with_reducible apply x_tnot | with_reducible apply x_sl | with_reducible apply x_os | with_reducible apply x_tup | with_reducible apply x_lst | with_reducible apply x_sub | with_reducible exact x_on | with_reducible exact l_add | with_reducible exact l_sub | with_reducible exact l_neg | with_reducible exact l_lt | with_reducible exact l_le | with_reducible exact l_gt | with_reducible exact l_ge | with_reducible exact l_lent | with_reducible exact l_inti | with_reducible exact l_intb | with_reducible exact l_tup | with_reducible exact l_slt | with_reducible exact dEq_int _ _ _ | with_reducible exact dNe_int _ _ _ | with_reducible exact dEq_str _ _ _ | with_reducible exact dNe_str _ _ _ | exact Nat.le_of_ble_eq_true rfl)
      refine x_seq (ρ' := [some (.loc 0), some (.loc j), some (.int n), some x, some (rw' a), some (rw' b), some (rw' c), some (rw' m), some (rw' p), v9]) (st' := t8) (x_set (ρ := [some (.loc 0), some (.loc j), some (.int n), some x, some (rw' a), some (rw' b), some (rw' c), some (rw' m), v8, v9]) ?_) ?_
      · (repeat' first | with_reducible assumption | ((with_reducible apply x_var); rfl) | with_reducible exact x_c | with_reducible exact x_nil | with_reducible exact x_skip | with_reducible apply x_setE | exact SetTo.mk rfl | with_reducible apply x_exprE | exact EnvEq.mk rfl | with_reducible apply x_ret | with_reducible apply x_cons | with_reducible apply x_2 | with_reducible apply x_1 | with_reducible apply x_call | with_reducible apply x_fn | with_reducible apply x_tof | with_reducible apply x_tnot | with_reducible apply x_sl | with_reducible apply x_os | with_reducible apply x_tup | with_reducible apply x_lst | with_reducible apply x_sub | with_reducible exact x_on | with_reducible exact l_add | with_reducible exact l_sub | with_reducible exact l_neg | with_reducible exact l_lt | with_reducible exact l_le | with_reducible exact l_gt | with_reducible exact l_ge | with_reducible exact l_lent | with_reducible exact l_inti | with_reducible exact l_intb | with_reducible exact l_tup | with_reducible exact l_slt | with_reducible exact dEq_int _ _ _ | with_reducible exact dNe_int _ _ _ | with_reducible exact dEq_str _ _ _ | with_reducible exact dNe_str _ _ _ | exact Nat.le_of_ble_eq_true rfl)
      refine x_seq (ρ' := [some (.loc 0), some (.loc j), some (.int n), some x, some (rw' a), some (rw' b), some (rw' c), some (rw' m), some (rw' p), some (rw' o)]) (st' := t10) (x_set (ρ := [some (.loc 0), some (.loc j), some (.int n), some x, some (rw' a), some (rw' b), some (rw' c), some (rw' m), some (rw' p), v9]) e10) ?_
      refine x_iff (b := !true) (st' := t12) (x_torf (b := !true) (s1 := t11) ?_ rfl ?_) rfl x_skip
      · (repeat' first | with_reducible assumption | ((with_reducible apply x_var); rfl) | with_reducible exact x_c | with_reducible exact x_nil | with_reducible exact x_skip | with_reducible apply x_setE | exact SetTo.mk rfl | with_reducible apply x_exprE | exact EnvEq.mk rfl | with_reducible apply x_ret | with_reducible apply x_cons | with_reducible apply x_2 | with_reducible apply x_1 | with_reducible apply x_call | with_reducible apply x_fn | with_reducible apply x_tof | with_reducible apply x_tnot | with_reducible apply x_sl | with_reducible apply x_os | with_reducible apply x_tup | with_reducible apply x_lst | with_reducible apply x_sub | with_reducible exact x_on | with_reducible exact l_add | with_reducible exact l_sub | with_reducible exact l_neg | with_reducible exact l_lt | with_reducible exact l_le | with_reducible exact l_gt | with_reducible exact l_ge | with_reducible exact l_lent | with_reducible exact l_inti | with_reducible exact l_intb | with_reducible exact l_tup | with_reducible exact l_slt | with_reducible exact dEq_int _ _ _ | with_reducible exact dNe_int _ _ _ | with_reducible exact dEq_str _ _ _ | with_reducible exact dNe_str _ _ _ | exact Nat.le_of_ble_eq_true rfl)
      · (repeat' first | with_reducible assumption | ((with_reducible apply x_var); rfl) | with_reducible exact x_c | with_reducible exact x_nil | with_reducible exact x_skip | with_reducible apply x_setE | exact SetTo.mk rfl | with_reducible apply x_exprE | exact EnvEq.mk rfl | with_reducible apply x_ret | with_reducible apply x_cons | with_reducible apply x_2 | with_reducible apply x_1 | with_reducible apply x_call | with_reducible apply x_fn | with_reducible apply x_tof | with_reducible apply x_tnot | with_reducible apply x_sl | with_reducible apply x_os | with_reducible apply x_tup | with_reducible apply x_lst | with_reducible apply x_sub | with_reducible exact x_on | with_reducible exact l_add | with_reducible exact l_sub | with_reducible exact l_neg | with_reducible exact l_lt | with_reducible exact l_le | with_reducible exact l_gt | with_reducible exact l_ge | with_reducible exact l_lent | with_reducible exact l_inti | with_reducible exact l_intb | with_reducible exact l_tup | with_reducible exact l_slt | with_reducible exact dEq_int _ _ _ | with_reducible exact dNe_int _ _ _ | with_reducible exact dEq_str _ _ _ | with_reducible exact dNe_str _ _ _ | exact Nat.le_of_ble_eq_true rfl))
  refine ⟨s', x_body (x_seq z1 (x_seq z2 (x_seq h1 (x_ret x_c))))⟩
end Rol.G

namespace Rol.G
open PySem L2 PySem.Spec Rol
open PyProof.Rows hiding St
def adOf (A6 A7 A8 A9 A10 A11 A13 A12 A15 A16 A18 A19 A20 A21 A22 A23 A24 A25 A26 A27 A28 A29 A30 A31 A32 A33 A34 A35 A36 : Addr) : Nat → Addr := fun i => if i = 6 then A6 else if i = 7 then A7 else if i = 8 then A8 else if i = 9 then A9 else if i = 10 then A10 else if i = 11 then A11 else if i = 13 then A13 else if i = 12 then A12 else if i = 15 then A15 else if i = 16 then A16 else if i = 18 then A18 else if i = 19 then A19 else if i = 20 then A20 else if i = 21 then A21 else if i = 22 then A22 else if i = 23 then A23 else if i = 24 then A24 else if i = 25 then A25 else if i = 26 then A26 else if i = 27 then A27 else if i = 28 then A28 else if i = 29 then A29 else if i = 30 then A30 else if i = 31 then A31 else if i = 32 then A32 else if i = 33 then A33 else if i = 34 then A34 else if i = 35 then A35 else A36
def fdOf (A6 A7 A8 A9 A10 A11 A13 A12 A15 A16 A18 A19 A20 A21 A22 A23 A24 A25 A26 A27 A28 A29 A30 A31 A32 A33 A34 A35 A36 : FuncData) : Nat → FuncData := fun i => if i = 6 then A6 else if i = 7 then A7 else if i = 8 then A8 else if i = 9 then A9 else if i = 10 then A10 else if i = 11 then A11 else if i = 13 then A13 else if i = 12 then A12 else if i = 15 then A15 else if i = 16 then A16 else if i = 18 then A18 else if i = 19 then A19 else if i = 20 then A20 else if i = 21 then A21 else if i = 22 then A22 else if i = 23 then A23 else if i = 24 then A24 else if i = 25 then A25 else if i = 26 then A26 else if i = 27 then A27 else if i = 28 then A28 else if i = 29 then A29 else if i = 30 then A30 else if i = 31 then A31 else if i = 32 then A32 else if i = 33 then A33 else if i = 34 then A34 else if i = 35 then A35 else A36
theorem all_mk {l : PySem.W.OpenLaw} {w : World} {K : PySem.W.Frag} {h : Heap} {mg : Str → Option Value} {fa : Addr} (X : K.In h) (G : h.Ns mainGlobals mg) (hfa : mg "law" = some (.ref fa))
    {A6 : Addr} {od6 an6 : Option Addr} {sl6 : Array (Option Value)} {oc6 kV6 dc6 pm6 cd6 ct6 : Value}
    {A7 : Addr} {od7 an7 : Option Addr} {sl7 : Array (Option Value)} {oc7 kV7 dc7 pm7 cd7 ct7 : Value}
    {A8 : Addr} {od8 an8 : Option Addr} {sl8 : Array (Option Value)} {oc8 kV8 dc8 pm8 cd8 ct8 : Value}
    {A9 : Addr} {od9 an9 : Option Addr} {sl9 : Array (Option Value)} {oc9 kV9 dc9 pm9 cd9 ct9 : Value}
    {A10 : Addr} {od10 an10 : Option Addr} {sl10 : Array (Option Value)} {oc10 kV10 dc10 pm10 cd10 ct10 : Value}
    {A11 : Addr} {od11 an11 : Option Addr} {sl11 : Array (Option Value)} {oc11 kV11 dc11 pm11 cd11 ct11 : Value}
    {A13 : Addr} {od13 an13 : Option Addr} {sl13 : Array (Option Value)} {oc13 kV13 dc13 pm13 cd13 ct13 : Value}
    {A12 : Addr} {od12 an12 : Option Addr} {sl12 : Array (Option Value)} {oc12 kV12 dc12 pm12 cd12 ct12 : Value}
    {A15 : Addr} {od15 an15 : Option Addr} {sl15 : Array (Option Value)} {oc15 kV15 dc15 pm15 cd15 ct15 : Value}
    {A16 : Addr} {od16 an16 : Option Addr} {sl16 : Array (Option Value)} {oc16 kV16 dc16 pm16 cd16 ct16 : Value}
    {A18 : Addr} {od18 an18 : Option Addr} {sl18 : Array (Option Value)} {oc18 kV18 dc18 pm18 cd18 ct18 : Value}
    {A19 : Addr} {od19 an19 : Option Addr} {sl19 : Array (Option Value)} {oc19 kV19 dc19 pm19 cd19 ct19 : Value}
    {A20 : Addr} {od20 an20 : Option Addr} {sl20 : Array (Option Value)} {oc20 kV20 dc20 pm20 cd20 ct20 : Value}
    {A21 : Addr} {od21 an21 : Option Addr} {sl21 : Array (Option Value)} {oc21 kV21 dc21 pm21 cd21 ct21 : Value}
    {A22 : Addr} {od22 an22 : Option Addr} {sl22 : Array (Option Value)} {oc22 kV22 dc22 pm22 cd22 ct22 : Value}
    {A23 : Addr} {od23 an23 : Option Addr} {sl23 : Array (Option Value)} {oc23 kV23 dc23 pm23 cd23 ct23 : Value}
    {A24 : Addr} {od24 an24 : Option Addr} {sl24 : Array (Option Value)} {oc24 kV24 dc24 pm24 cd24 ct24 : Value}
    {A25 : Addr} {od25 an25 : Option Addr} {sl25 : Array (Option Value)} {oc25 kV25 dc25 pm25 cd25 ct25 : Value}
    {A26 : Addr} {od26 an26 : Option Addr} {sl26 : Array (Option Value)} {oc26 kV26 dc26 pm26 cd26 ct26 : Value}
    {A27 : Addr} {od27 an27 : Option Addr} {sl27 : Array (Option Value)} {oc27 kV27 dc27 pm27 cd27 ct27 : Value}
    {A28 : Addr} {od28 an28 : Option Addr} {sl28 : Array (Option Value)} {oc28 kV28 dc28 pm28 cd28 ct28 : Value}
    {A29 : Addr} {od29 an29 : Option Addr} {sl29 : Array (Option Value)} {oc29 kV29 dc29 pm29 cd29 ct29 : Value}
    {A30 : Addr} {od30 an30 : Option Addr} {sl30 : Array (Option Value)} {oc30 kV30 dc30 pm30 cd30 ct30 : Value}
    {A31 : Addr} {od31 an31 : Option Addr} {sl31 : Array (Option Value)} {oc31 kV31 dc31 pm31 cd31 ct31 : Value}
    {A32 : Addr} {od32 an32 : Option Addr} {sl32 : Array (Option Value)} {oc32 kV32 dc32 pm32 cd32 ct32 : Value}
    {A33 : Addr} {od33 an33 : Option Addr} {sl33 : Array (Option Value)} {oc33 kV33 dc33 pm33 cd33 ct33 : Value}
    {A34 : Addr} {od34 an34 : Option Addr} {sl34 : Array (Option Value)} {oc34 kV34 dc34 pm34 cd34 ct34 : Value}
    {A35 : Addr} {od35 an35 : Option Addr} {sl35 : Array (Option Value)} {oc35 kV35 dc35 pm35 cd35 ct35 : Value}
    {A36 : Addr} {od36 an36 : Option Addr} {sl36 : Array (Option Value)} {oc36 kV36 dc36 pm36 cd36 ct36 : Value}
    {t_MOST_MEMBERS : Tok}
    {S_SIGNS : Addr} {od_SIGNS : Option Addr} {nn_SIGNS : Nat} {sl_SIGNS : Array (Option Value)} {t0_SIGNS t1_SIGNS t2_SIGNS : Tok}
    (a6 : PySem.W.nsIn K mainGlobals "is_number" = some (some (.ref A6))) (l6 : K.lookup A6 = some ⟨oc6, od6, .func (PySem.W.fnOf "is_number" "is_number" (defArgs (top 6)) (defBody (top 6)) (defScope (top 6)) .none kV6 dc6 pm6 an6 cd6 ct6), sl6⟩) (c6 : PySem.W.codeIn K cd6 "is_number" = true) (k6 : PySem.W.keepIn K (.ref A6) = true)
    (a7 : PySem.W.nsIn K mainGlobals "is_many" = some (some (.ref A7))) (l7 : K.lookup A7 = some ⟨oc7, od7, .func (PySem.W.fnOf "is_many" "is_many" (defArgs (top 7)) (defBody (top 7)) (defScope (top 7)) .none kV7 dc7 pm7 an7 cd7 ct7), sl7⟩) (c7 : PySem.W.codeIn K cd7 "is_many" = true) (k7 : PySem.W.keepIn K (.ref A7) = true)
    (a8 : PySem.W.nsIn K mainGlobals "ask_many" = some (some (.ref A8))) (l8 : K.lookup A8 = some ⟨oc8, od8, .func (PySem.W.fnOf "ask_many" "ask_many" (defArgs (top 8)) (defBody (top 8)) (defScope (top 8)) .none kV8 dc8 pm8 an8 cd8 ct8), sl8⟩) (c8 : PySem.W.codeIn K cd8 "ask_many" = true) (k8 : PySem.W.keepIn K (.ref A8) = true)
    (a9 : PySem.W.nsIn K mainGlobals "level" = some (some (.ref A9))) (l9 : K.lookup A9 = some ⟨oc9, od9, .func (PySem.W.fnOf "level" "level" (defArgs (top 9)) (defBody (top 9)) (defScope (top 9)) .none kV9 dc9 pm9 an9 cd9 ct9), sl9⟩) (c9 : PySem.W.codeIn K cd9 "level" = true) (k9 : PySem.W.keepIn K (.ref A9) = true)
    (a10 : PySem.W.nsIn K mainGlobals "all_of" = some (some (.ref A10))) (l10 : K.lookup A10 = some ⟨oc10, od10, .func (PySem.W.fnOf "all_of" "all_of" (defArgs (top 10)) (defBody (top 10)) (defScope (top 10)) .none kV10 dc10 pm10 an10 cd10 ct10), sl10⟩) (c10 : PySem.W.codeIn K cd10 "all_of" = true) (k10 : PySem.W.keepIn K (.ref A10) = true)
    (a11 : PySem.W.nsIn K mainGlobals "turned" = some (some (.ref A11))) (l11 : K.lookup A11 = some ⟨oc11, od11, .func (PySem.W.fnOf "turned" "turned" (defArgs (top 11)) (defBody (top 11)) (defScope (top 11)) .none kV11 dc11 pm11 an11 cd11 ct11), sl11⟩) (c11 : PySem.W.codeIn K cd11 "turned" = true) (k11 : PySem.W.keepIn K (.ref A11) = true)
    (a13 : PySem.W.nsIn K mainGlobals "signs_summed" = some (some (.ref A13))) (l13 : K.lookup A13 = some ⟨oc13, od13, .func (PySem.W.fnOf "signs_summed" "signs_summed" (defArgs (top 13)) (defBody (top 13)) (defScope (top 13)) .none kV13 dc13 pm13 an13 cd13 ct13), sl13⟩) (c13 : PySem.W.codeIn K cd13 "signs_summed" = true) (k13 : PySem.W.keepIn K (.ref A13) = true)
    (a12 : PySem.W.nsIn K mainGlobals "sums" = some (some (.ref A12))) (l12 : K.lookup A12 = some ⟨oc12, od12, .func (PySem.W.fnOf "sums" "sums" (defArgs (top 12)) (defBody (top 12)) (defScope (top 12)) .none kV12 dc12 pm12 an12 cd12 ct12), sl12⟩) (c12 : PySem.W.codeIn K cd12 "sums" = true) (k12 : PySem.W.keepIn K (.ref A12) = true)
    (a15 : PySem.W.nsIn K mainGlobals "sign_between" = some (some (.ref A15))) (l15 : K.lookup A15 = some ⟨oc15, od15, .func (PySem.W.fnOf "sign_between" "sign_between" (defArgs (top 15)) (defBody (top 15)) (defScope (top 15)) .none kV15 dc15 pm15 an15 cd15 ct15), sl15⟩) (c15 : PySem.W.codeIn K cd15 "sign_between" = true) (k15 : PySem.W.keepIn K (.ref A15) = true)
    (a16 : PySem.W.nsIn K mainGlobals "row_of" = some (some (.ref A16))) (l16 : K.lookup A16 = some ⟨oc16, od16, .func (PySem.W.fnOf "row_of" "row_of" (defArgs (top 16)) (defBody (top 16)) (defScope (top 16)) .none kV16 dc16 pm16 an16 cd16 ct16), sl16⟩) (c16 : PySem.W.codeIn K cd16 "row_of" = true) (k16 : PySem.W.keepIn K (.ref A16) = true)
    (a18 : PySem.W.nsIn K mainGlobals "_law_pool" = some (some (.ref A18))) (l18 : K.lookup A18 = some ⟨oc18, od18, .func (PySem.W.fnOf "_law_pool" "_law_pool" (defArgs (top 18)) (defBody (top 18)) (defScope (top 18)) .none kV18 dc18 pm18 an18 cd18 ct18), sl18⟩) (c18 : PySem.W.codeIn K cd18 "_law_pool" = true) (k18 : PySem.W.keepIn K (.ref A18) = true)
    (a19 : PySem.W.nsIn K mainGlobals "_law_take" = some (some (.ref A19))) (l19 : K.lookup A19 = some ⟨oc19, od19, .func (PySem.W.fnOf "_law_take" "_law_take" (defArgs (top 19)) (defBody (top 19)) (defScope (top 19)) .none kV19 dc19 pm19 an19 cd19 ct19), sl19⟩) (c19 : PySem.W.codeIn K cd19 "_law_take" = true) (k19 : PySem.W.keepIn K (.ref A19) = true)
    (a20 : PySem.W.nsIn K mainGlobals "_law_one" = some (some (.ref A20))) (l20 : K.lookup A20 = some ⟨oc20, od20, .func (PySem.W.fnOf "_law_one" "_law_one" (defArgs (top 20)) (defBody (top 20)) (defScope (top 20)) .none kV20 dc20 pm20 an20 cd20 ct20), sl20⟩) (c20 : PySem.W.codeIn K cd20 "_law_one" = true) (k20 : PySem.W.keepIn K (.ref A20) = true)
    (a21 : PySem.W.nsIn K mainGlobals "_law_level" = some (some (.ref A21))) (l21 : K.lookup A21 = some ⟨oc21, od21, .func (PySem.W.fnOf "_law_level" "_law_level" (defArgs (top 21)) (defBody (top 21)) (defScope (top 21)) .none kV21 dc21 pm21 an21 cd21 ct21), sl21⟩) (c21 : PySem.W.codeIn K cd21 "_law_level" = true) (k21 : PySem.W.keepIn K (.ref A21) = true)
    (a22 : PySem.W.nsIn K mainGlobals "_law_turned" = some (some (.ref A22))) (l22 : K.lookup A22 = some ⟨oc22, od22, .func (PySem.W.fnOf "_law_turned" "_law_turned" (defArgs (top 22)) (defBody (top 22)) (defScope (top 22)) .none kV22 dc22 pm22 an22 cd22 ct22), sl22⟩) (c22 : PySem.W.codeIn K cd22 "_law_turned" = true) (k22 : PySem.W.keepIn K (.ref A22) = true)
    (a23 : PySem.W.nsIn K mainGlobals "_law_in_rows" = some (some (.ref A23))) (l23 : K.lookup A23 = some ⟨oc23, od23, .func (PySem.W.fnOf "_law_in_rows" "_law_in_rows" (defArgs (top 23)) (defBody (top 23)) (defScope (top 23)) .none kV23 dc23 pm23 an23 cd23 ct23), sl23⟩) (c23 : PySem.W.codeIn K cd23 "_law_in_rows" = true) (k23 : PySem.W.keepIn K (.ref A23) = true)
    (a24 : PySem.W.nsIn K mainGlobals "_law_any_row" = some (some (.ref A24))) (l24 : K.lookup A24 = some ⟨oc24, od24, .func (PySem.W.fnOf "_law_any_row" "_law_any_row" (defArgs (top 24)) (defBody (top 24)) (defScope (top 24)) .none kV24 dc24 pm24 an24 cd24 ct24), sl24⟩) (c24 : PySem.W.codeIn K cd24 "_law_any_row" = true) (k24 : PySem.W.keepIn K (.ref A24) = true)
    (a25 : PySem.W.nsIn K mainGlobals "_law_row_of" = some (some (.ref A25))) (l25 : K.lookup A25 = some ⟨oc25, od25, .func (PySem.W.fnOf "_law_row_of" "_law_row_of" (defArgs (top 25)) (defBody (top 25)) (defScope (top 25)) .none kV25 dc25 pm25 an25 cd25 ct25), sl25⟩) (c25 : PySem.W.codeIn K cd25 "_law_row_of" = true) (k25 : PySem.W.keepIn K (.ref A25) = true)
    (a26 : PySem.W.nsIn K mainGlobals "_law_any_motion" = some (some (.ref A26))) (l26 : K.lookup A26 = some ⟨oc26, od26, .func (PySem.W.fnOf "_law_any_motion" "_law_any_motion" (defArgs (top 26)) (defBody (top 26)) (defScope (top 26)) .none kV26 dc26 pm26 an26 cd26 ct26), sl26⟩) (c26 : PySem.W.codeIn K cd26 "_law_any_motion" = true) (k26 : PySem.W.keepIn K (.ref A26) = true)
    (a27 : PySem.W.nsIn K mainGlobals "_law_near_motion" = some (some (.ref A27))) (l27 : K.lookup A27 = some ⟨oc27, od27, .func (PySem.W.fnOf "_law_near_motion" "_law_near_motion" (defArgs (top 27)) (defBody (top 27)) (defScope (top 27)) .none kV27 dc27 pm27 an27 cd27 ct27), sl27⟩) (c27 : PySem.W.codeIn K cd27 "_law_near_motion" = true) (k27 : PySem.W.keepIn K (.ref A27) = true)
    (a28 : PySem.W.nsIn K mainGlobals "_law_tried" = some (some (.ref A28))) (l28 : K.lookup A28 = some ⟨oc28, od28, .func (PySem.W.fnOf "_law_tried" "_law_tried" (defArgs (top 28)) (defBody (top 28)) (defScope (top 28)) .none kV28 dc28 pm28 an28 cd28 ct28), sl28⟩) (c28 : PySem.W.codeIn K cd28 "_law_tried" = true) (k28 : PySem.W.keepIn K (.ref A28) = true)
    (a29 : PySem.W.nsIn K mainGlobals "_law_tried_sums" = some (some (.ref A29))) (l29 : K.lookup A29 = some ⟨oc29, od29, .func (PySem.W.fnOf "_law_tried_sums" "_law_tried_sums" (defArgs (top 29)) (defBody (top 29)) (defScope (top 29)) .none kV29 dc29 pm29 an29 cd29 ct29), sl29⟩) (c29 : PySem.W.codeIn K cd29 "_law_tried_sums" = true) (k29 : PySem.W.keepIn K (.ref A29) = true)
    (a30 : PySem.W.nsIn K mainGlobals "_law_other_row" = some (some (.ref A30))) (l30 : K.lookup A30 = some ⟨oc30, od30, .func (PySem.W.fnOf "_law_other_row" "_law_other_row" (defArgs (top 30)) (defBody (top 30)) (defScope (top 30)) .none kV30 dc30 pm30 an30 cd30 ct30), sl30⟩) (c30 : PySem.W.codeIn K cd30 "_law_other_row" = true) (k30 : PySem.W.keepIn K (.ref A30) = true)
    (a31 : PySem.W.nsIn K mainGlobals "_law_two_right" = some (some (.ref A31))) (l31 : K.lookup A31 = some ⟨oc31, od31, .func (PySem.W.fnOf "_law_two_right" "_law_two_right" (defArgs (top 31)) (defBody (top 31)) (defScope (top 31)) .none kV31 dc31 pm31 an31 cd31 ct31), sl31⟩) (c31 : PySem.W.codeIn K cd31 "_law_two_right" = true) (k31 : PySem.W.keepIn K (.ref A31) = true)
    (a32 : PySem.W.nsIn K mainGlobals "_law_behind" = some (some (.ref A32))) (l32 : K.lookup A32 = some ⟨oc32, od32, .func (PySem.W.fnOf "_law_behind" "_law_behind" (defArgs (top 32)) (defBody (top 32)) (defScope (top 32)) .none kV32 dc32 pm32 an32 cd32 ct32), sl32⟩) (c32 : PySem.W.codeIn K cd32 "_law_behind" = true) (k32 : PySem.W.keepIn K (.ref A32) = true)
    (a33 : PySem.W.nsIn K mainGlobals "_law_ahead" = some (some (.ref A33))) (l33 : K.lookup A33 = some ⟨oc33, od33, .func (PySem.W.fnOf "_law_ahead" "_law_ahead" (defArgs (top 33)) (defBody (top 33)) (defScope (top 33)) .none kV33 dc33 pm33 an33 cd33 ct33), sl33⟩) (c33 : PySem.W.codeIn K cd33 "_law_ahead" = true) (k33 : PySem.W.keepIn K (.ref A33) = true)
    (a34 : PySem.W.nsIn K mainGlobals "_law_three_right" = some (some (.ref A34))) (l34 : K.lookup A34 = some ⟨oc34, od34, .func (PySem.W.fnOf "_law_three_right" "_law_three_right" (defArgs (top 34)) (defBody (top 34)) (defScope (top 34)) .none kV34 dc34 pm34 an34 cd34 ct34), sl34⟩) (c34 : PySem.W.codeIn K cd34 "_law_three_right" = true) (k34 : PySem.W.keepIn K (.ref A34) = true)
    (a35 : PySem.W.nsIn K mainGlobals "_law_tale_right" = some (some (.ref A35))) (l35 : K.lookup A35 = some ⟨oc35, od35, .func (PySem.W.fnOf "_law_tale_right" "_law_tale_right" (defArgs (top 35)) (defBody (top 35)) (defScope (top 35)) .none kV35 dc35 pm35 an35 cd35 ct35), sl35⟩) (c35 : PySem.W.codeIn K cd35 "_law_tale_right" = true) (k35 : PySem.W.keepIn K (.ref A35) = true)
    (a36 : PySem.W.nsIn K mainGlobals "law" = some (some (.ref A36))) (l36 : K.lookup A36 = some ⟨oc36, od36, .func (PySem.W.fnOf "law" "law" (defArgs (top 36)) (defBody (top 36)) (defScope (top 36)) .none kV36 dc36 pm36 an36 cd36 ct36), sl36⟩) (c36 : PySem.W.codeIn K cd36 "law" = true) (k36 : PySem.W.keepIn K (.ref A36) = true)
    (z_bool : PySem.W.nsIn K mainGlobals "bool" = some none)
    (z_dict : PySem.W.nsIn K mainGlobals "dict" = some none)
    (z_int : PySem.W.nsIn K mainGlobals "int" = some none)
    (z_isinstance : PySem.W.nsIn K mainGlobals "isinstance" = some none)
    (z_len : PySem.W.nsIn K mainGlobals "len" = some none)
    (z_list : PySem.W.nsIn K mainGlobals "list" = some none)
    (z_max : PySem.W.nsIn K mainGlobals "max" = some none)
    (z_range : PySem.W.nsIn K mainGlobals "range" = some none)
    (z_repr : PySem.W.nsIn K mainGlobals "repr" = some none)
    (z_sorted : PySem.W.nsIn K mainGlobals "sorted" = some none)
    (z_tuple : PySem.W.nsIn K mainGlobals "tuple" = some none)
    (z_zip : PySem.W.nsIn K mainGlobals "zip" = some none)
    (z_MOST_MEMBERS : PySem.W.nsIn K mainGlobals "MOST_MEMBERS" = some (some (.int 6 t_MOST_MEMBERS)))
    (z_SIGNS : PySem.W.nsIn K mainGlobals "SIGNS" = some (some (.ref S_SIGNS))) (y_SIGNS : K.lookup S_SIGNS = some ⟨.type "tuple", od_SIGNS, .seq #[.int  (-1) t0_SIGNS, .int  0 t1_SIGNS, .int  1 t2_SIGNS] nn_SIGNS, sl_SIGNS⟩) :
    ∃ (fd : FuncData) (cm : Str → Addr), (∀ (s : Shared) (u : Value), BindsTo s fd ⟨[u], []⟩ [("script", u)]) ∧ ∀ base : Heap, K.In base → base.Ns mainGlobals mg → FnG l.prog w K mg base 6 fa fd ["script"] (spD K cm 1 d_law) := by
  have e := hfa.symm.trans (PySem.W.mg_of X G a36)
  cases e
  have F6 := fun_mk (st := top 6) l6 c6 k6
  have b6 := F6.binds (ps := ["thing"]) fun _ _ _ _ _ _ us hl => match us, hl with | [_], _ => rfl
  have F7 := fun_mk (st := top 7) l7 c7 k7
  have b7 := F7.binds (ps := ["n"]) fun _ _ _ _ _ _ us hl => match us, hl with | [_], _ => rfl
  have F8 := fun_mk (st := top 8) l8 c8 k8
  have b8 := F8.binds (ps := ["n"]) fun _ _ _ _ _ _ us hl => match us, hl with | [_], _ => rfl
  have F9 := fun_mk (st := top 9) l9 c9 k9
  have b9 := F9.binds (ps := ["n"]) fun _ _ _ _ _ _ us hl => match us, hl with | [_], _ => rfl
  have F10 := fun_mk (st := top 10) l10 c10 k10
  have b10 := F10.binds (ps := ["choices"]) fun _ _ _ _ _ _ us hl => match us, hl with | [_], _ => rfl
  have F11 := fun_mk (st := top 11) l11 c11 k11
  have b11 := F11.binds (ps := ["row"]) fun _ _ _ _ _ _ us hl => match us, hl with | [_], _ => rfl
  have F13 := fun_mk (st := top 13) l13 c13 k13
  have b13 := F13.binds (ps := ["here", "there"]) fun _ _ _ _ _ _ us hl => match us, hl with | [_, _], _ => rfl
  have F12 := fun_mk (st := top 12) l12 c12 k12
  have b12 := F12.binds (ps := ["one", "two"]) fun _ _ _ _ _ _ us hl => match us, hl with | [_, _], _ => rfl
  have F15 := fun_mk (st := top 15) l15 c15 k15
  have b15 := F15.binds (ps := ["new", "old"]) fun _ _ _ _ _ _ us hl => match us, hl with | [_, _], _ => rfl
  have F16 := fun_mk (st := top 16) l16 c16 k16
  have b16 := F16.binds (ps := ["new", "old"]) fun _ _ _ _ _ _ us hl => match us, hl with | [_, _], _ => rfl
  have F18 := fun_mk (st := top 18) l18 c18 k18
  have b18 := F18.binds (ps := ["script", "k"]) fun _ _ _ _ _ _ us hl => match us, hl with | [_, _], _ => rfl
  have F19 := fun_mk (st := top 19) l19 c19 k19
  have b19 := F19.binds (ps := ["jar", "top"]) fun _ _ _ _ _ _ us hl => match us, hl with | [_, _], _ => rfl
  have F20 := fun_mk (st := top 20) l20 c20 k20
  have b20 := F20.binds (ps := ["jar", "things"]) fun _ _ _ _ _ _ us hl => match us, hl with | [_, _], _ => rfl
  have F21 := fun_mk (st := top 21) l21 c21 k21
  have b21 := F21.binds (ps := ["n"]) fun _ _ _ _ _ _ us hl => match us, hl with | [_], _ => rfl
  have F22 := fun_mk (st := top 22) l22 c22 k22
  have b22 := F22.binds (ps := ["row"]) fun _ _ _ _ _ _ us hl => match us, hl with | [_], _ => rfl
  have F23 := fun_mk (st := top 23) l23 c23 k23
  have b23 := F23.binds (ps := ["rows"]) fun _ _ _ _ _ _ us hl => match us, hl with | [_], _ => rfl
  have F24 := fun_mk (st := top 24) l24 c24 k24
  have b24 := F24.binds (ps := ["jar", "n"]) fun _ _ _ _ _ _ us hl => match us, hl with | [_, _], _ => rfl
  have F25 := fun_mk (st := top 25) l25 c25 k25
  have b25 := F25.binds (ps := ["new", "old"]) fun _ _ _ _ _ _ us hl => match us, hl with | [_, _], _ => rfl
  have F26 := fun_mk (st := top 26) l26 c26 k26
  have b26 := F26.binds (ps := ["jar", "n"]) fun _ _ _ _ _ _ us hl => match us, hl with | [_, _], _ => rfl
  have F27 := fun_mk (st := top 27) l27 c27 k27
  have b27 := F27.binds (ps := ["jar", "motion"]) fun _ _ _ _ _ _ us hl => match us, hl with | [_, _], _ => rfl
  have F28 := fun_mk (st := top 28) l28 c28 k28
  have b28 := F28.binds (ps := ["a", "b"]) fun _ _ _ _ _ _ us hl => match us, hl with | [_, _], _ => rfl
  have F29 := fun_mk (st := top 29) l29 c29 k29
  have b29 := F29.binds (ps := ["one", "two"]) fun _ _ _ _ _ _ us hl => match us, hl with | [_, _], _ => rfl
  have F30 := fun_mk (st := top 30) l30 c30 k30
  have b30 := F30.binds (ps := ["jar", "n", "one"]) fun _ _ _ _ _ _ us hl => match us, hl with | [_, _, _], _ => rfl
  have F31 := fun_mk (st := top 31) l31 c31 k31
  have b31 := F31.binds (ps := ["n", "one", "two"]) fun _ _ _ _ _ _ us hl => match us, hl with | [_, _, _], _ => rfl
  have F32 := fun_mk (st := top 32) l32 c32 k32
  have b32 := F32.binds (ps := ["rows", "last"]) fun _ _ _ _ _ _ us hl => match us, hl with | [_, _], _ => rfl
  have F33 := fun_mk (st := top 33) l33 c33 k33
  have b33 := F33.binds (ps := ["one", "rows"]) fun _ _ _ _ _ _ us hl => match us, hl with | [_, _], _ => rfl
  have F34 := fun_mk (st := top 34) l34 c34 k34
  have b34 := F34.binds (ps := ["one", "two", "last"]) fun _ _ _ _ _ _ us hl => match us, hl with | [_, _, _], _ => rfl
  have F35 := fun_mk (st := top 35) l35 c35 k35
  have b35 := F35.binds (ps := ["first", "middle", "last"]) fun _ _ _ _ _ _ us hl => match us, hl with | [_, _, _], _ => rfl
  have F36 := fun_mk (st := top 36) l36 c36 k36
  have b36 := F36.binds (ps := ["script"]) fun _ _ _ _ _ _ us hl => match us, hl with | [_], _ => rfl
  have T : Tx K mg (adOf A6 A7 A8 A9 A10 A11 A13 A12 A15 A16 A18 A19 A20 A21 A22 A23 A24 A25 A26 A27 A28 A29 A30 A31 A32 A33 A34 A35 fa) (fdOf (PySem.W.fnOf "is_number" "is_number" (defArgs (top 6)) (defBody (top 6)) (defScope (top 6)) .none kV6 dc6 pm6 an6 cd6 ct6) (PySem.W.fnOf "is_many" "is_many" (defArgs (top 7)) (defBody (top 7)) (defScope (top 7)) .none kV7 dc7 pm7 an7 cd7 ct7) (PySem.W.fnOf "ask_many" "ask_many" (defArgs (top 8)) (defBody (top 8)) (defScope (top 8)) .none kV8 dc8 pm8 an8 cd8 ct8) (PySem.W.fnOf "level" "level" (defArgs (top 9)) (defBody (top 9)) (defScope (top 9)) .none kV9 dc9 pm9 an9 cd9 ct9) (PySem.W.fnOf "all_of" "all_of" (defArgs (top 10)) (defBody (top 10)) (defScope (top 10)) .none kV10 dc10 pm10 an10 cd10 ct10) (PySem.W.fnOf "turned" "turned" (defArgs (top 11)) (defBody (top 11)) (defScope (top 11)) .none kV11 dc11 pm11 an11 cd11 ct11) (PySem.W.fnOf "signs_summed" "signs_summed" (defArgs (top 13)) (defBody (top 13)) (defScope (top 13)) .none kV13 dc13 pm13 an13 cd13 ct13) (PySem.W.fnOf "sums" "sums" (defArgs (top 12)) (defBody (top 12)) (defScope (top 12)) .none kV12 dc12 pm12 an12 cd12 ct12) (PySem.W.fnOf "sign_between" "sign_between" (defArgs (top 15)) (defBody (top 15)) (defScope (top 15)) .none kV15 dc15 pm15 an15 cd15 ct15) (PySem.W.fnOf "row_of" "row_of" (defArgs (top 16)) (defBody (top 16)) (defScope (top 16)) .none kV16 dc16 pm16 an16 cd16 ct16) (PySem.W.fnOf "_law_pool" "_law_pool" (defArgs (top 18)) (defBody (top 18)) (defScope (top 18)) .none kV18 dc18 pm18 an18 cd18 ct18) (PySem.W.fnOf "_law_take" "_law_take" (defArgs (top 19)) (defBody (top 19)) (defScope (top 19)) .none kV19 dc19 pm19 an19 cd19 ct19) (PySem.W.fnOf "_law_one" "_law_one" (defArgs (top 20)) (defBody (top 20)) (defScope (top 20)) .none kV20 dc20 pm20 an20 cd20 ct20) (PySem.W.fnOf "_law_level" "_law_level" (defArgs (top 21)) (defBody (top 21)) (defScope (top 21)) .none kV21 dc21 pm21 an21 cd21 ct21) (PySem.W.fnOf "_law_turned" "_law_turned" (defArgs (top 22)) (defBody (top 22)) (defScope (top 22)) .none kV22 dc22 pm22 an22 cd22 ct22) (PySem.W.fnOf "_law_in_rows" "_law_in_rows" (defArgs (top 23)) (defBody (top 23)) (defScope (top 23)) .none kV23 dc23 pm23 an23 cd23 ct23) (PySem.W.fnOf "_law_any_row" "_law_any_row" (defArgs (top 24)) (defBody (top 24)) (defScope (top 24)) .none kV24 dc24 pm24 an24 cd24 ct24) (PySem.W.fnOf "_law_row_of" "_law_row_of" (defArgs (top 25)) (defBody (top 25)) (defScope (top 25)) .none kV25 dc25 pm25 an25 cd25 ct25) (PySem.W.fnOf "_law_any_motion" "_law_any_motion" (defArgs (top 26)) (defBody (top 26)) (defScope (top 26)) .none kV26 dc26 pm26 an26 cd26 ct26) (PySem.W.fnOf "_law_near_motion" "_law_near_motion" (defArgs (top 27)) (defBody (top 27)) (defScope (top 27)) .none kV27 dc27 pm27 an27 cd27 ct27) (PySem.W.fnOf "_law_tried" "_law_tried" (defArgs (top 28)) (defBody (top 28)) (defScope (top 28)) .none kV28 dc28 pm28 an28 cd28 ct28) (PySem.W.fnOf "_law_tried_sums" "_law_tried_sums" (defArgs (top 29)) (defBody (top 29)) (defScope (top 29)) .none kV29 dc29 pm29 an29 cd29 ct29) (PySem.W.fnOf "_law_other_row" "_law_other_row" (defArgs (top 30)) (defBody (top 30)) (defScope (top 30)) .none kV30 dc30 pm30 an30 cd30 ct30) (PySem.W.fnOf "_law_two_right" "_law_two_right" (defArgs (top 31)) (defBody (top 31)) (defScope (top 31)) .none kV31 dc31 pm31 an31 cd31 ct31) (PySem.W.fnOf "_law_behind" "_law_behind" (defArgs (top 32)) (defBody (top 32)) (defScope (top 32)) .none kV32 dc32 pm32 an32 cd32 ct32) (PySem.W.fnOf "_law_ahead" "_law_ahead" (defArgs (top 33)) (defBody (top 33)) (defScope (top 33)) .none kV33 dc33 pm33 an33 cd33 ct33) (PySem.W.fnOf "_law_three_right" "_law_three_right" (defArgs (top 34)) (defBody (top 34)) (defScope (top 34)) .none kV34 dc34 pm34 an34 cd34 ct34) (PySem.W.fnOf "_law_tale_right" "_law_tale_right" (defArgs (top 35)) (defBody (top 35)) (defScope (top 35)) .none kV35 dc35 pm35 an35 cd35 ct35) (PySem.W.fnOf "law" "law" (defArgs (top 36)) (defBody (top 36)) (defScope (top 36)) .none kV36 dc36 pm36 an36 cd36 ct36)) := ⟨PySem.W.mg_of X G a6,
    F6,
    b6,
    PySem.W.mg_of X G a7,
    F7,
    b7,
    PySem.W.mg_of X G a8,
    F8,
    b8,
    PySem.W.mg_of X G a9,
    F9,
    b9,
    PySem.W.mg_of X G a10,
    F10,
    b10,
    PySem.W.mg_of X G a11,
    F11,
    b11,
    PySem.W.mg_of X G a13,
    F13,
    b13,
    PySem.W.mg_of X G a12,
    F12,
    b12,
    PySem.W.mg_of X G a15,
    F15,
    b15,
    PySem.W.mg_of X G a16,
    F16,
    b16,
    PySem.W.mg_of X G a18,
    F18,
    b18,
    PySem.W.mg_of X G a19,
    F19,
    b19,
    PySem.W.mg_of X G a20,
    F20,
    b20,
    PySem.W.mg_of X G a21,
    F21,
    b21,
    PySem.W.mg_of X G a22,
    F22,
    b22,
    PySem.W.mg_of X G a23,
    F23,
    b23,
    PySem.W.mg_of X G a24,
    F24,
    b24,
    PySem.W.mg_of X G a25,
    F25,
    b25,
    PySem.W.mg_of X G a26,
    F26,
    b26,
    PySem.W.mg_of X G a27,
    F27,
    b27,
    PySem.W.mg_of X G a28,
    F28,
    b28,
    PySem.W.mg_of X G a29,
    F29,
    b29,
    PySem.W.mg_of X G a30,
    F30,
    b30,
    PySem.W.mg_of X G a31,
    F31,
    b31,
    PySem.W.mg_of X G a32,
    F32,
    b32,
    PySem.W.mg_of X G a33,
    F33,
    b33,
    PySem.W.mg_of X G a34,
    F34,
    b34,
    PySem.W.mg_of X G a35,
    F35,
    b35,
    PySem.W.mg_of X G a36,
    F36,
    b36,
    (fun ws hl => match ws, hl with | [_, _], _ => rfl),
    (fun ws hl => match ws, hl with | [_, _], _ => rfl),
    PySem.W.mg_none_of X G z_bool,
    PySem.W.mg_none_of X G z_dict,
    PySem.W.mg_none_of X G z_int,
    PySem.W.mg_none_of X G z_isinstance,
    PySem.W.mg_none_of X G z_len,
    PySem.W.mg_none_of X G z_list,
    PySem.W.mg_none_of X G z_max,
    PySem.W.mg_none_of X G z_range,
    PySem.W.mg_none_of X G z_repr,
    PySem.W.mg_none_of X G z_sorted,
    PySem.W.mg_none_of X G z_tuple,
    PySem.W.mg_none_of X G z_zip,
    ⟨_, PySem.W.mg_of X G z_MOST_MEMBERS⟩,
    ⟨S_SIGNS, PySem.W.mg_of X G z_SIGNS, fun φ H => .tup (vs := [V.int  (-1), V.int  0, V.int  1]) (.inr ⟨_, _, _, y_SIGNS, rfl, rfl, (by show 3 ≤ sizeLine; decide), (.cons ⟨_, rfl⟩ (.cons ⟨_, rfl⟩ (.cons ⟨_, rfl⟩ .nil)))⟩) (.cons (.int _) (.cons (.int _) (.cons (.int _) .nil)))⟩⟩
  exact ⟨(PySem.W.fnOf "law" "law" (defArgs (top 36)) (defBody (top 36)) (defScope (top 36)) .none kV36 dc36 pm36 an36 cd36 ct36), fun _ => 0, fun s v => .of_eq rfl, fun base _ _ => ok_law T⟩
end Rol.G
open PySem PySem.W PyProof.Rows in
set_option maxRecDepth 100000 in
set_option maxHeartbeats 0 in
theorem PySem.Challenge.cw_roundorlist_k01_sums_of_rows_beside_trie_holds : PySem.Challenge.rw_roundorlist_k01_sums_of_rows_beside_trie.Holds := by
  w_on; o_law; k_head; (case hw => w_witness2)
  k_fill
  refine Rol.walk_G (l := PySem.Challenge.rw_roundorlist_k01_sums_of_rows_beside_trie) (n := 63) (k := 6) (x := "script") (m := Rol.G.d_law) rfl (by decide) rfl ⟨rfl, by decide, by decide⟩ (fun w h Y => PySem.W.kIn_of Y) ?F Rol.G.law_pure
  case F =>
    intro w mg fa h KX G hmg
    refine' Rol.G.all_mk KX G hmg ?a6 ?l6 ?c6 ?k6 ?a7 ?l7 ?c7 ?k7 ?a8 ?l8 ?c8 ?k8 ?a9 ?l9 ?c9 ?k9 ?a10 ?l10 ?c10 ?k10 ?a11 ?l11 ?c11 ?k11 ?a13 ?l13 ?c13 ?k13 ?a12 ?l12 ?c12 ?k12 ?a15 ?l15 ?c15 ?k15 ?a16 ?l16 ?c16 ?k16 ?a18 ?l18 ?c18 ?k18 ?a19 ?l19 ?c19 ?k19 ?a20 ?l20 ?c20 ?k20 ?a21 ?l21 ?c21 ?k21 ?a22 ?l22 ?c22 ?k22 ?a23 ?l23 ?c23 ?k23 ?a24 ?l24 ?c24 ?k24 ?a25 ?l25 ?c25 ?k25 ?a26 ?l26 ?c26 ?k26 ?a27 ?l27 ?c27 ?k27 ?a28 ?l28 ?c28 ?k28 ?a29 ?l29 ?c29 ?k29 ?a30 ?l30 ?c30 ?k30 ?a31 ?l31 ?c31 ?k31 ?a32 ?l32 ?c32 ?k32 ?a33 ?l33 ?c33 ?k33 ?a34 ?l34 ?c34 ?k34 ?a35 ?l35 ?c35 ?k35 ?a36 ?l36 ?c36 ?k36 ?z_bool ?z_dict ?z_int ?z_isinstance ?z_len ?z_list ?z_max ?z_range ?z_repr ?z_sorted ?z_tuple ?z_zip ?z_MOST_MEMBERS ?z_SIGNS ?y_SIGNS
    (case a6 => k_is)
    (case l6 => k_is)
    (case c6 => k_is)
    (case k6 => k_is)
    (case a7 => k_is)
    (case l7 => k_is)
    (case c7 => k_is)
    (case k7 => k_is)
    (case a8 => k_is)
    (case l8 => k_is)
    (case c8 => k_is)
    (case k8 => k_is)
    (case a9 => k_is)
    (case l9 => k_is)
    (case c9 => k_is)
    (case k9 => k_is)
    (case a10 => k_is)
    (case l10 => k_is)
    (case c10 => k_is)
    (case k10 => k_is)
    (case a11 => k_is)
    (case l11 => k_is)
    (case c11 => k_is)
    (case k11 => k_is)
    (case a13 => k_is)
    (case l13 => k_is)
    (case c13 => k_is)
    (case k13 => k_is)
    (case a12 => k_is)
    (case l12 => k_is)
    (case c12 => k_is)
    (case k12 => k_is)
    (case a15 => k_is)
    (case l15 => k_is)
    (case c15 => k_is)
    (case k15 => k_is)
    (case a16 => k_is)
    (case l16 => k_is)
    (case c16 => k_is)
    (case k16 => k_is)
    (case a18 => k_is)
    (case l18 => k_is)
    (case c18 => k_is)
    (case k18 => k_is)
    (case a19 => k_is)
    (case l19 => k_is)
    (case c19 => k_is)
    (case k19 => k_is)
    (case a20 => k_is)
    (case l20 => k_is)
    (case c20 => k_is)
    (case k20 => k_is)
    (case a21 => k_is)
    (case l21 => k_is)
    (case c21 => k_is)
    (case k21 => k_is)
    (case a22 => k_is)
    (case l22 => k_is)
    (case c22 => k_is)
    (case k22 => k_is)
    (case a23 => k_is)
    (case l23 => k_is)
    (case c23 => k_is)
    (case k23 => k_is)
    (case a24 => k_is)
    (case l24 => k_is)
    (case c24 => k_is)
    (case k24 => k_is)
    (case a25 => k_is)
    (case l25 => k_is)
    (case c25 => k_is)
    (case k25 => k_is)
    (case a26 => k_is)
    (case l26 => k_is)
    (case c26 => k_is)
    (case k26 => k_is)
    (case a27 => k_is)
    (case l27 => k_is)
    (case c27 => k_is)
    (case k27 => k_is)
    (case a28 => k_is)
    (case l28 => k_is)
    (case c28 => k_is)
    (case k28 => k_is)
    (case a29 => k_is)
    (case l29 => k_is)
    (case c29 => k_is)
    (case k29 => k_is)
    (case a30 => k_is)
    (case l30 => k_is)
    (case c30 => k_is)
    (case k30 => k_is)
    (case a31 => k_is)
    (case l31 => k_is)
    (case c31 => k_is)
    (case k31 => k_is)
    (case a32 => k_is)
    (case l32 => k_is)
    (case c32 => k_is)
    (case k32 => k_is)
    (case a33 => k_is)
    (case l33 => k_is)
    (case c33 => k_is)
    (case k33 => k_is)
    (case a34 => k_is)
    (case l34 => k_is)
    (case c34 => k_is)
    (case k34 => k_is)
    (case a35 => k_is)
    (case l35 => k_is)
    (case c35 => k_is)
    (case k35 => k_is)
    (case a36 => k_is)
    (case l36 => k_is)
    (case c36 => k_is)
    (case k36 => k_is)
    (case z_bool => k_is)
    (case z_dict => k_is)
    (case z_int => k_is)
    (case z_isinstance => k_is)
    (case z_len => k_is)
    (case z_list => k_is)
    (case z_max => k_is)
    (case z_range => k_is)
    (case z_repr => k_is)
    (case z_sorted => k_is)
    (case z_tuple => k_is)
    (case z_zip => k_is)
    (case z_MOST_MEMBERS => k_is)
    (case z_SIGNS => k_is)
    (case y_SIGNS => k_is)
