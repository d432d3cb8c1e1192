import PyProof.Rows.All
import Wide.All
import OpenK.AllK
import Wide.FinOn
import HandS.ForMost
import HandS.Wide
import KE.KDictKeyed
import KE.KeyNested
import HandS.ForExc
import HandS.IsInst
import HandS.TupMul
import HandS.Deep
import HandS.Zip
import HandS.Lambda
import HandS.EndBits
import HandS.TupAny
import HandS.TupLe
import HandS.RaiseMore
import HandS.Sort
import KE.SortData
import HandS.Style
import KE.KDictCopyH
import KE.KDictPairs
import KE.KDictSum
import PyProof.Rows.RegFStrParts
import KE.GoesMore
import KE.GoesEnum
import HandS.ForSpec
import HandS.ExcInit
import KE.KExcIs
import KE.KTypeName
import PyProof.EqAt
import PyProof.EqKinds
import PyProof.TupleCall
import Open.SpecLaws
import KE.OsGo
import HandS.ExcIs
import HandS.EndTab
import KE.KNestM
import HandS.Conv
import PyProof.ZipIter
import PyProof.TupleOfSeq
import PyProof.TupleOfGen
import HandS.Star
import PyProof.WalkInts
import KE.KDictList
import KE.KDictWalk
import HandS.Iter
import KE.KDictDisplayH
import PySem.Challenge.RW_roundorlist_k07_rows_that_lead_to_a_row
set_option Elab.async false
set_option linter.all false
set_option maxRecDepth 100000
set_option maxHeartbeats 4000000

namespace Rol
open PySem L2 PySem.Spec
open PyProof.Rows hiding St
def kOp : Str := "("
def kCl : Str := ")"
/-- no sign among the texts -/
def plainK : Key → Bool
  | .inl _ => true
  | .inr x => decide (x ≠ kOp ∧ x ≠ kCl)
abbrev K2 := List (Key ⊕ List Key)
def okE : Key ⊕ List Key → Bool
  | .inl k => plainK k
  | .inr ks => ks.all plainK
def encE : Key ⊕ List Key → List Key
  | .inl k => [k]
  | .inr ks => .inr kOp :: (ks ++ [.inr kCl])
def ok2 (t : K2) : Bool := t.all okE
def enc2 (t : K2) : List Key := t.flatMap encE
theorem plain_cl : plainK (.inr kCl) = false := by simp [plainK]
theorem cut_cl : ∀ {a b : List Key} {r s : List Key}, a.all plainK = true → b.all plainK = true → a ++ .inr kCl :: r = b ++ .inr kCl :: s → a = b ∧ r = s
  | [], [], r, s, _, _, e => ⟨rfl, by simpa using e⟩
  | [], y :: b, r, s, _, h, e => by
    rw [List.nil_append, List.cons_append] at e
    injection e with e1 _
    subst e1
    rw [List.all_cons, plain_cl] at h
    cases h
  | x :: a, [], r, s, h, _, e => by
    rw [List.nil_append, List.cons_append] at e
    injection e with e1 _
    subst e1
    rw [List.all_cons, plain_cl] at h
    cases h
  | x :: a, y :: b, r, s, h, g, e => by
    rw [List.all_cons, Bool.and_eq_true] at h g
    rw [List.cons_append, List.cons_append] at e
    injection e with e1 e2
    obtain ⟨i1, i2⟩ := cut_cl h.2 g.2 e2
    exact ⟨by rw [e1, i1], i2⟩
theorem enc_inj : ∀ {t u : K2}, ok2 t = true → ok2 u = true → enc2 t = enc2 u → t = u
  | [], [], _, _, _ => rfl
  | [], y :: u, _, _, e => by
    cases y <;> simp [enc2, encE] at e
  | x :: t, [], _, _, e => by
    cases x <;> simp [enc2, encE] at e
  | x :: t, y :: u, h, g, e => by
    unfold ok2 at h g
    rw [List.all_cons, Bool.and_eq_true] at h g
    unfold enc2 at e
    rw [List.flatMap_cons, List.flatMap_cons] at e
    cases x with
    | inl k =>
      cases y with
      | inl k' =>
        simp only [encE, List.cons_append, List.nil_append] at e
        injection e with e1 e2
        rw [e1, enc_inj h.2 g.2 e2]
      | inr ks =>
        simp only [encE, List.cons_append, List.nil_append] at e
        injection e with e1 _
        have := h.1
        rw [e1] at this
        simp [okE, plainK] at this
    | inr ks =>
      cases y with
      | inl k' =>
        simp only [encE, List.cons_append, List.nil_append] at e
        injection e with e1 _
        have := g.1
        rw [← e1] at this
        simp [okE, plainK] at this
      | inr ks' =>
        simp only [encE, List.cons_append, List.append_assoc, List.nil_append] at e
        injection e with _ e2
        obtain ⟨i1, i2⟩ := cut_cl (show ks.all plainK = true from h.1) (show ks'.all plainK = true from g.1) e2
        rw [i1, enc_inj h.2 g.2 i2]
/-- as the library's keys -/
def embK : Key → NestedKey
  | .inl i => .num i
  | .inr x => .text x
def embE : Key ⊕ List Key → NestedKey
  | .inl k => embK k
  | .inr ks => .tup (ks.map embK)
def emb (t : K2) : NestedKey := .tup (t.map embE)
theorem embK_inj : ∀ {a b : Key}, embK a = embK b → a = b
  | .inl _, .inl _, e => by
    injection e with e
    rw [e]
  | .inr _, .inr _, e => by
    injection e with e
    rw [e]
  | .inl _, .inr _, e => by cases e
  | .inr _, .inl _, e => by cases e
theorem embKs_inj : ∀ {a b : List Key}, a.map embK = b.map embK → a = b
  | [], [], _ => rfl
  | [], _ :: _, e => by cases e
  | _ :: _, [], e => by cases e
  | x :: a, y :: b, e => by
    rw [List.map_cons, List.map_cons] at e
    injection e with e1 e2
    rw [embK_inj e1, embKs_inj e2]
theorem embE_inj {a b : Key ⊕ List Key} (e : embE a = embE b) : a = b := by
  cases a with
  | inl k =>
    cases b with
    | inl k' => rw [embK_inj (show embK k = embK k' from e)]
    | inr ks => cases k <;> cases e
  | inr ks =>
    cases b with
    | inl k' => cases k' <;> cases e
    | inr ks' =>
      injection e with e
      rw [embKs_inj e]
theorem embs_inj : ∀ {a b : K2}, a.map embE = b.map embE → a = b
  | [], [], _ => rfl
  | [], _ :: _, e => by cases e
  | _ :: _, [], e => by cases e
  | x :: a, y :: b, e => by
    rw [List.map_cons, List.map_cons] at e
    injection e with e1 e2
    rw [embE_inj e1, embs_inj e2]
theorem emb_inj {a b : K2} (e : emb a = emb b) : a = b := by
  injection e with e
  exact embs_inj e
theorem depthK (k : Key) : (embK k).depth = 0 := by cases k <;> rfl
theorem depthKs : ∀ ks : List Key, NestedKey.depthAll (ks.map embK) = 0
  | [] => rfl
  | k :: ks => by rw [List.map_cons, NestedKey.depthAll, depthK, depthKs]; rfl
theorem depthE (x : Key ⊕ List Key) : (embE x).depth ≤ 1 := by
  cases x with
  | inl k => rw [embE, depthK]; omega
  | inr ks =>
    rw [embE, NestedKey.depth, depthKs]
    exact Nat.le_refl _
theorem depthEs : ∀ t : K2, NestedKey.depthAll (t.map embE) ≤ 1
  | [] => by simp [NestedKey.depthAll]
  | x :: t => by
    rw [List.map_cons, NestedKey.depthAll]
    have := depthE x
    have := depthEs t
    omega
theorem depth_emb (t : K2) : (emb t).depth ≤ 8 := by
  rw [emb, NestedKey.depth]
  have := depthEs t
  omega
/-- the tuple at a is the key k -/
def EncIs (P : Program) (w : World) (h : Heap) (k : List Key) (a : Addr) : Prop := ∃ t, ok2 t = true ∧ enc2 t = k ∧ (nestedKind P w).is h (emb t) a
open Classical in
noncomputable def decK (k : List Key) : K2 := if h : ∃ t, ok2 t = true ∧ enc2 t = k then h.choose else []
theorem decK_enc {t : K2} (h : ok2 t = true) : decK (enc2 t) = t := by
  unfold decK
  have hx : ∃ u, ok2 u = true ∧ enc2 u = enc2 t := ⟨t, h, rfl⟩
  rw [dif_pos hx]
  exact enc_inj hx.choose_spec.1 h hx.choose_spec.2
noncomputable def encKind (P : Program) (w : World) : HeapKind P w (List Key) where
  is := EncIs P w
  hash := fun k => (nestedKind P w).hash (emb (decK k))
  draws := fun k => (nestedKind P w).draws (emb (decK k))
  room := (nestedKind P w).room
  inj := fun {h a x y} hx hy => by
    obtain ⟨t, t1, t2, t3⟩ := hx
    obtain ⟨u, u1, u2, u3⟩ := hy
    have := emb_inj ((nestedKind P w).inj t3 u3)
    rw [← t2, ← u2, this]
  keeps := fun {h h' k a d o es ep} x ho hd hs => by
    obtain ⟨t, t1, t2, t3⟩ := x
    exact ⟨t, t1, t2, (nestedKind P w).keeps t3 ho hd hs⟩
  pyHash := fun {A E s k a Q} hu hk h => by
    obtain ⟨t, t1, t2, t3⟩ := hk
    subst t2
    rw [decK_enc t1] at h
    exact (nestedKind P w).pyHash hu t3 h
  eqBool := fun {A E s x y a b Q} hu hx hy h => by
    obtain ⟨t, t1, t2, t3⟩ := hx
    obtain ⟨u, u1, u2, u3⟩ := hy
    refine (nestedKind P w).eqBool hu t3 u3 ?_
    have e : decide (emb t = emb u) = decide (x = y) := by
      rw [decide_eq_decide, ← t2, ← u2]
      exact ⟨fun e => by rw [emb_inj e], fun e => by rw [enc_inj t1 u1 e]⟩
    rw [e]
    exact h
  quiet := fun {A E s k a Q} hk h => by
    obtain ⟨t, t1, t2, t3⟩ := hk
    exact (nestedKind P w).quiet t3 h
theorem encKind_room {P : Program} {w : World} {A : Around} (hu : A.units + 9 < cLine) : (encKind P w).room A.in1 := by
  show A.in1.units + 8 < cLine
  have : A.in1.units = A.units + 1 := rfl
  omega
end Rol

namespace L2
open PySem
/-- the dict of an own error of the class c -/
def xdl (c : Str) (w : V) : List (Str × V) := [(("what" : Str), w), (("kind" : Str), .str c)]
end L2
namespace Rol
open PySem L2 PySem.Spec

/-- data: what never changes by itself, and places of the store -/
inductive D where
  | non | bl (b : Bool) | int (i : Int) | str (x : Str) | tup (xs : List D) | loc (i : Nat) | opq (v : V)
/-- what stands at a place of the store -/
inductive O where
  | lst (xs : List D) | src (xs : List D) | dk (kvs : List (Key × D)) | dx (kvs : List (List Key × D)) | fx (kvs : List (List Key × D))
abbrev S := List O
abbrev Nv := List (Option D)
def O.mut : O → Bool
  | .src _ => false
  | _ => true

mutual
inductive RepV (K : PySem.W.Frag) (φ : List Addr) (H : Hp) : D → V → Prop
  | non : RepV K φ H .non .non
  | bl (b : Bool) : RepV K φ H (.bl b) (.bl b)
  | int (i : Int) : RepV K φ H (.int i) (.int i)
  | str (x : Str) : RepV K φ H (.str x) (.str x)
  | tup {a : Addr} {xs : List D} {vs : List V} : SqT K H a vs → RepL K φ H xs vs → RepV K φ H (.tup xs) (.ref a)
  | loc {i : Nat} {a : Addr} : φ[i]? = some a → RepV K φ H (.loc i) (.ref a)
  | opq (v : V) : RepV K φ H (.opq v) v
inductive RepL (K : PySem.W.Frag) (φ : List Addr) (H : Hp) : List D → List V → Prop
  | nil : RepL K φ H [] []
  | cons {x : D} {xs : List D} {v : V} {vs : List V} : RepV K φ H x v → RepL K φ H xs vs → RepL K φ H (x :: xs) (v :: vs)
end

def Ext (φ φ' : List Addr) : Prop := ∃ l, φ' = φ ++ l
theorem Ext.refl (φ : List Addr) : Ext φ φ := ⟨[], by simp⟩
theorem Ext.trans {a b c : List Addr} (h : Ext a b) (h' : Ext b c) : Ext a c := by
  obtain ⟨l, rfl⟩ := h
  obtain ⟨m, rfl⟩ := h'
  exact ⟨l ++ m, by simp⟩
theorem Ext.get {φ φ' : List Addr} (h : Ext φ φ') {i : Nat} {a : Addr} (e : φ[i]? = some a) : φ'[i]? = some a := by
  obtain ⟨l, rfl⟩ := h
  have hl : i < φ.length := (List.getElem?_eq_some_iff.mp e).1
  rw [List.getElem?_append_left hl]
  exact e
theorem Ext.one (φ : List Addr) (a : Addr) : Ext φ (φ ++ [a]) := ⟨[a], rfl⟩

/-- the makers' tables of code objects; the program and the world -/
structure Tb where
  l : List (Addr × Str)
  P : Program
  w : World
/-- where classes stand, and the makers' tables -/
structure CM where
  f : Str → Addr
  T : Tb
instance : CoeFun CM (fun _ => Str → Addr) := ⟨CM.f⟩
/-- what may change: what may be written, and tables -/
def Mu : Option HO → Prop
  | some (.tbl _) => True
  | o => Mut o
theorem Mu.of : ∀ {o : Option HO}, Mut o → Mu o
  | none, h => h
  | some (.tbl _), _ => trivial
  | some (.lst _), h => h
  | some (.tup _), h => h
  | some (.dK _), h => h
  | some (.dT _), h => h
  | some (.set _ _), h => h
  | some (.ins _ _ _), h => h
  | some (.own _), h => h
  | some (.xd _), h => h
  | some (.met _ _), h => h
  | some (.rng _ _), h => h
  | some (.frz _ _), h => h
  | some (.ext _), h => h
/-- what never changes is kept -/
def Kp (H H' : Hp) : Prop := ∀ a o, H a = some o → ¬ Mu (some o) → H' a = some o
theorem Kp.refl (H : Hp) : Kp H H := fun _ _ h _ => h
theorem Kp.trans {H H1 H2 : Hp} (a : Kp H H1) (b : Kp H1 H2) : Kp H H2 := fun c o h n => b c o (a c o h n) n
theorem Kp.new {H : Hp} {p : Addr} {o : HO} (hp : H p = none) : Kp H (upd H p o) := fun a u h _ => by
  rw [upd_ne (ne_of_none h hp)]
  exact h
theorem Kp.write {H : Hp} {p : Addr} {o : HO} (hp : Mu (H p)) : Kp H (upd H p o) := fun a u h n => by
  by_cases e : a = p
  · subst e
    rw [h] at hp
    exact absurd hp n
  · rw [upd_ne e]
    exact h
theorem Kp.sqT {K : PySem.W.Frag} {H H' : Hp} (k : Kp H H') {a : Addr} {vs : List V} (h : SqT K H a vs) : SqT K H' a vs := by
  rcases h with h | h
  · rcases h with h | ⟨o, h⟩
    · exact .inl (.inl (k _ _ h (fun z => z)))
    · exact .inl (.inr ⟨o, k _ _ h (fun z => z)⟩)
  · exact .inr h

section
variable {K : PySem.W.Frag} {φ φ' : List Addr} {H H' : Hp}
mutual
theorem RepV.mono (e : Ext φ φ') (k : Kp H H') : ∀ {x : D} {v : V}, RepV K φ H x v → RepV K φ' H' x v
  | _, _, .non => .non
  | _, _, .bl b => .bl b
  | _, _, .int i => .int i
  | _, _, .str x => .str x
  | _, _, .tup s r => .tup (k.sqT s) (RepL.mono e k r)
  | _, _, .loc h => .loc (e.get h)
  | _, _, .opq v => .opq v
theorem RepL.mono (e : Ext φ φ') (k : Kp H H') : ∀ {xs : List D} {vs : List V}, RepL K φ H xs vs → RepL K φ' H' xs vs
  | _, _, .nil => .nil
  | _, _, .cons r t => .cons (RepV.mono e k r) (RepL.mono e k t)
end
theorem RepL.length : ∀ {xs : List D} {vs : List V}, RepL K φ H xs vs → xs.length = vs.length
  | _, _, .nil => rfl
  | _, _, .cons _ t => by rw [List.length_cons, List.length_cons, RepL.length t]
theorem RepL.get : ∀ {xs : List D} {vs : List V} {i : Nat} {x : D}, RepL K φ H xs vs → xs[i]? = some x → ∃ v, vs[i]? = some v ∧ RepV K φ H x v
  | _, _, _, _, .nil, e => by simp at e
  | _, _, 0, _, .cons r _, e => by simp at e; subst e; exact ⟨_, rfl, r⟩
  | _, _, i + 1, x, .cons _ t, e => by
    obtain ⟨u, h1, h2⟩ := RepL.get (i := i) (x := x) t (by simpa using e)
    exact ⟨u, by simpa using h1, h2⟩
theorem RepL.set {x : D} {v : V} (r : RepV K φ H x v) : ∀ {xs : List D} {vs : List V} (i : Nat), RepL K φ H xs vs → RepL K φ H (xs.set i x) (vs.set i v)
  | _, _, _, .nil => .nil
  | _, _, 0, .cons _ t => .cons r t
  | _, _, i + 1, .cons q t => .cons q (RepL.set r i t)
theorem RepL.append : ∀ {xs ys : List D} {vs ws : List V}, RepL K φ H xs vs → RepL K φ H ys ws → RepL K φ H (xs ++ ys) (vs ++ ws)
  | _, _, _, _, .nil, s => s
  | _, _, _, _, .cons r t, s => .cons r (RepL.append t s)
theorem RepL.take : ∀ {xs : List D} {vs : List V} (n : Nat), RepL K φ H xs vs → RepL K φ H (xs.take n) (vs.take n)
  | _, _, 0, _ => .nil
  | _, _, _ + 1, .nil => .nil
  | _, _, n + 1, .cons r t => .cons r (RepL.take n t)
theorem RepL.drop : ∀ {xs : List D} {vs : List V} (n : Nat), RepL K φ H xs vs → RepL K φ H (xs.drop n) (vs.drop n)
  | _, _, 0, r => r
  | _, _, _ + 1, .nil => .nil
  | _, _, n + 1, .cons _ t => RepL.drop n t
theorem RepL.erase : ∀ {xs : List D} {vs : List V} (i : Nat), RepL K φ H xs vs → RepL K φ H (xs.eraseIdx i) (vs.eraseIdx i)
  | _, _, _, .nil => .nil
  | _, _, 0, .cons _ t => t
  | _, _, i + 1, .cons q t => .cons q (RepL.erase i t)
theorem RepL.rep {xs : List D} {vs : List V} (h : RepL K φ H xs vs) : ∀ k : Nat, RepL K φ H (List.replicate k xs).flatten (List.replicate k vs).flatten
  | 0 => .nil
  | k + 1 => by
    rw [List.replicate_succ, List.replicate_succ, List.flatten_cons, List.flatten_cons]
    exact h.append (RepL.rep h k)
end

inductive RepK (K : PySem.W.Frag) (φ : List Addr) (H : Hp) : List (Key × D) → List (Key × V) → Prop
  | nil : RepK K φ H [] []
  | cons {k : Key} {x : D} {v : V} {xs : List (Key × D)} {vs : List (Key × V)} : RepV K φ H x v → RepK K φ H xs vs → RepK K φ H ((k, x) :: xs) ((k, v) :: vs)
/-- the value v is the part x of a key -/
def KeyV (K : PySem.W.Frag) (H : Hp) : Key ⊕ List Key → V → Prop
  | .inl k, v => v = kV k
  | .inr ks, v => ∃ c, v = .ref c ∧ SqT K H c (ks.map kV)
inductive KeyVs (K : PySem.W.Frag) (H : Hp) : K2 → List V → Prop
  | nil : KeyVs K H [] []
  | cons {x : Key ⊕ List Key} {v : V} {t : K2} {vs : List V} : KeyV K H x v → KeyVs K H t vs → KeyVs K H (x :: t) (v :: vs)
/-- the tuple at b is the key k -/
def KAt (K : PySem.W.Frag) (H : Hp) (b : Addr) (k : List Key) : Prop := ∃ (t : K2) (vs : List V), ok2 t = true ∧ enc2 t = k ∧ SqT K H b vs ∧ KeyVs K H t vs
theorem KeyVs.mono {K : PySem.W.Frag} {H H' : Hp} (k : Kp H H') {t : K2} {vs : List V} (h : KeyVs K H t vs) : KeyVs K H' t vs := by
  induction h with
  | nil => exact .nil
  | @cons x v t vs h1 _ ih =>
    refine .cons ?_ ih
    cases x with
    | inl y => exact h1
    | inr ks =>
      obtain ⟨c, e, h⟩ := h1
      exact ⟨c, e, k.sqT h⟩
theorem KAt.mono {K : PySem.W.Frag} {H H' : Hp} {b : Addr} {ks : List Key} (k : Kp H H') (h : KAt K H b ks) : KAt K H' b ks := by
  obtain ⟨t, vs, h1, h2, h3, h4⟩ := h
  exact ⟨t, vs, h1, h2, k.sqT h3, h4.mono k⟩
inductive RepX (K : PySem.W.Frag) (φ : List Addr) (H : Hp) : List (List Key × D) → List (List Key × Addr × V) → Prop
  | nil : RepX K φ H [] []
  | cons {k : List Key} {b : Addr} {x : D} {v : V} {xs : List (List Key × D)} {vs : List (List Key × Addr × V)} : KAt K H b k → RepV K φ H x v → RepX K φ H xs vs → RepX K φ H ((k, x) :: xs) ((k, b, v) :: vs)
section
variable {K : PySem.W.Frag} {φ φ' : List Addr} {H H' : Hp}
theorem RepK.mono (e : Ext φ φ') (k : Kp H H') {xs : List (Key × D)} {vs : List (Key × V)} (h : RepK K φ H xs vs) : RepK K φ' H' xs vs := by
  induction h with
  | nil => exact .nil
  | cons r _ ih => exact .cons (r.mono e k) ih
theorem RepX.mono (e : Ext φ φ') (k : Kp H H') {xs : List (List Key × D)} {vs : List (List Key × Addr × V)} (h : RepX K φ H xs vs) : RepX K φ' H' xs vs := by
  induction h with
  | nil => exact .nil
  | cons s r _ ih => exact .cons (s.mono k) (r.mono e k) ih
theorem RepK.length {xs : List (Key × D)} {vs : List (Key × V)} (h : RepK K φ H xs vs) : xs.length = vs.length := by
  induction h with
  | nil => rfl
  | cons _ _ ih => rw [List.length_cons, List.length_cons, ih]
theorem RepX.length {xs : List (List Key × D)} {vs : List (List Key × Addr × V)} (h : RepX K φ H xs vs) : xs.length = vs.length := by
  induction h with
  | nil => rfl
  | cons _ _ _ ih => rw [List.length_cons, List.length_cons, ih]
end
/-- a dict whose keys are tuples: entry by entry, the keys' addresses told -/
noncomputable def DX (P : Program) (w : World) (a : Addr) (xs : List (List Key × Addr × V)) : HO := .ext fun h => xs.length ≤ sizeLine ∧ (a == sysModules) = false ∧
  ∃ us : List (List Key × Addr × Value), Paired (fun p q => p.1 = q.1 ∧ p.2.1 = q.2.1 ∧ RelV p.2.2 q.2.2) xs us ∧
    ∃ o es ep, h.get? a = some o ∧ o.ExactDict ∧ o.data = .dict es ep ∧ es.toList = us.map (entryOfKey (encKind P w)) ∧ (us.map (·.1)).Nodup
/-- an object of the store, at its address -/
def RepO (K : PySem.W.Frag) (T : Tb) (φ : List Addr) (H : Hp) (a : Addr) : O → Prop
  | .lst xs => ∃ vs, H a = some (.lst vs) ∧ RepL K φ H xs vs
  | .src xs => ∃ vs, ((∃ o, H a = some (.frz o (.lst vs))) ∨ (∀ H0 : Hp, SqL K H0 a vs)) ∧ RepL K φ H xs vs
  | .dk kvs => ∃ vs, H a = some (.dK vs) ∧ RepK K φ H kvs vs
  | .dx kvs => ∃ vs, H a = some (DX T.P T.w a vs) ∧ RepX K φ H kvs vs
  | .fx kvs => ∃ od vs, H a = some (.frz od (DX T.P T.w a vs)) ∧ RepX K φ H kvs vs
/-- the store in the heap -/
structure RepS (K : PySem.W.Frag) (T : Tb) (φ : List Addr) (H : Hp) (st : S) : Prop where
  len : φ.length = st.length
  obj : ∀ (i : Nat) (a : Addr) (o : O), φ[i]? = some a → st[i]? = some o → RepO K T φ H a o
  inj : ∀ (i j : Nat) (a : Addr) (o u : O), φ[i]? = some a → φ[j]? = some a → st[i]? = some o → st[j]? = some u → o.mut = true → u.mut = true → i = j
  tab : LamX.Tabs T.l H
/-- the slots -/
def RepE (K : PySem.W.Frag) (φ : List Addr) (H : Hp) (ρ : Nv) (σ : St) : Prop := ρ.length = σ.length ∧ ∀ (i : Nat) (d : D), ρ[i]? = some (some d) → ∃ v, σ[i]? = some (some v) ∧ RepV K φ H d v

section
variable {K : PySem.W.Frag} {φ φ' : List Addr} {H H' : Hp} {st : S} {ρ : Nv} {σ : St}
theorem RepE.mono (e : Ext φ φ') (k : Kp H H') (h : RepE K φ H ρ σ) : RepE K φ' H' ρ σ := ⟨h.1, fun i d q => by
  obtain ⟨v, h1, h2⟩ := h.2 i d q
  exact ⟨v, h1, h2.mono e k⟩⟩
theorem RepE.set {d : D} {v : V} (h : RepE K φ H ρ σ) (r : RepV K φ H d v) (i : Nat) : RepE K φ H (ρ.set i (some d)) (σ.set i (some v)) := by
  refine ⟨by rw [List.length_set, List.length_set]; exact h.1, fun j d' q => ?_⟩
  by_cases e : i = j
  · subst e
    have hi : i < ρ.length := by
      have := (List.getElem?_eq_some_iff.mp q).1
      rw [List.length_set] at this
      exact this
    rw [List.getElem?_set_self hi] at q
    cases q
    exact ⟨v, List.getElem?_set_self (by rw [← h.1]; exact hi), r⟩
  · rw [List.getElem?_set_ne e] at q
    rw [List.getElem?_set_ne e]
    exact h.2 j d' q
theorem RepS.addr (R : RepS K T φ H st) {i : Nat} {o : O} (h : st[i]? = some o) : ∃ a, φ[i]? = some a ∧ RepO K T φ H a o := by
  have hl : i < st.length := (List.getElem?_eq_some_iff.mp h).1
  have hl' : i < φ.length := by rw [R.len]; exact hl
  exact ⟨φ[i], by simp [hl'], R.obj i _ o (by simp [hl']) h⟩
theorem RepO.mono_of {a : Addr} {o : O} (e : Ext φ φ') (k : Kp H H') (hl : o.mut = true → H' a = H a) (h : RepO K T φ H a o) : RepO K T φ' H' a o := by
  cases o with
  | lst xs =>
    obtain ⟨vs, h1, h2⟩ := h
    exact ⟨vs, by rw [hl rfl]; exact h1, h2.mono e k⟩
  | src xs =>
    obtain ⟨vs, h1, h2⟩ := h
    refine ⟨vs, ?_, h2.mono e k⟩
    rcases h1 with ⟨o, h1⟩ | h1
    · exact .inl ⟨o, k _ _ h1 (fun z => z)⟩
    · exact .inr h1
  | dk kvs =>
    obtain ⟨vs, h1, h2⟩ := h
    exact ⟨vs, by rw [hl rfl]; exact h1, h2.mono e k⟩
  | dx kvs =>
    obtain ⟨vs, h1, h2⟩ := h
    exact ⟨vs, by rw [hl rfl]; exact h1, h2.mono e k⟩
  | fx kvs =>
    obtain ⟨od, vs, h1, h2⟩ := h
    exact ⟨od, vs, by rw [hl rfl]; exact h1, h2.mono e k⟩
theorem mut_not_none {a : Addr} {o : O} (h : RepO K T φ H a o) (m : o.mut = true) : H a ≠ none := fun z => by
  cases o with
  | lst xs =>
    obtain ⟨vs, h1, _⟩ := h
    rw [h1] at z
    cases z
  | src xs => cases m
  | dk kvs =>
    obtain ⟨vs, h1, _⟩ := h
    rw [h1] at z
    cases z
  | dx kvs =>
    obtain ⟨vs, h1, _⟩ := h
    rw [h1] at z
    cases z
  | fx kvs =>
    obtain ⟨od, vs, h1, _⟩ := h
    rw [h1] at z
    cases z
theorem tabs_new {T : List (Addr × Str)} {p : Addr} {o : HO} (hp : H p = none) (t : LamX.Tabs T H) : LamX.Tabs T (upd H p o) := t.ext fun b u e => (upd_ne (ne_of_none e hp)).trans e
theorem tabs_write {T : List (Addr × Str)} {a : Addr} {ws : List V} {o : HO} (hl : H a = some (.lst ws)) (t : LamX.Tabs T H) : LamX.Tabs T (upd H a o) := fun p hp => by
  obtain ⟨ps, h1, h2, h3⟩ := t p hp
  refine ⟨ps, ?_, h2, fun pos cv hc => ?_⟩
  · rw [upd_ne fun z => by rw [z, hl] at h1; cases h1]
    exact h1
  · obtain ⟨c, e1, e2⟩ := h3 pos cv hc
    refine ⟨c, e1, ?_⟩
    rw [upd_ne fun z => by rw [z, hl] at e2; cases e2]
    exact e2
/-- something is laid beside the store -/
theorem RepS.beside {p : Addr} {o : HO} (R : RepS K T φ H st) (hp : H p = none) : RepS K T φ (upd H p o) st :=
  ⟨R.len, fun i a u h1 h2 => RepO.mono_of (Ext.refl _) (Kp.new hp) (fun m => upd_ne fun z => mut_not_none (R.obj i a u h1 h2) m (by rw [z]; exact hp)) (R.obj i a u h1 h2), R.inj, tabs_new hp R.tab⟩
/-- a new list -/
theorem RepS.alloc {p : Addr} {xs : List D} {vs : List V} (R : RepS K T φ H st) (hp : H p = none) (r : RepL K φ H xs vs) : RepS K T (φ ++ [p]) (upd H p (.lst vs)) (st ++ [.lst xs]) := by
  have R' := R.beside (o := .lst vs) hp
  have e := Ext.one φ p
  have k : Kp H (upd H p (.lst vs)) := Kp.new hp
  refine ⟨by simp [R.len], fun i a o h1 h2 => ?_, fun i j a o u h1 h2 h3 h4 m1 m2 => ?_, tabs_new hp R.tab⟩
  · by_cases hi : i < st.length
    · rw [List.getElem?_append_left hi] at h2
      rw [List.getElem?_append_left (by rw [R.len]; exact hi)] at h1
      exact RepO.mono_of e (Kp.refl _) (fun _ => rfl) (R'.obj i a o h1 h2)
    · have hi2 : i = st.length := by
        have := (List.getElem?_eq_some_iff.mp h2).1
        simp at this
        omega
      subst hi2
      rw [List.getElem?_append_right (Nat.le_refl _), Nat.sub_self] at h2
      rw [← R.len, List.getElem?_append_right (Nat.le_refl _), Nat.sub_self] at h1
      simp at h1 h2
      subst h1 h2
      exact ⟨vs, upd_same, r.mono e k⟩
  · have get : ∀ (i : Nat) (o : O), (φ ++ [p])[i]? = some a → (st ++ [.lst xs])[i]? = some o → o.mut = true → (i < st.length ∧ φ[i]? = some a ∧ st[i]? = some o ∧ a ≠ p) ∨ (i = st.length ∧ a = p) := fun i o h1 h3 m => by
      by_cases hi : i < st.length
      · rw [List.getElem?_append_left hi] at h3
        rw [List.getElem?_append_left (by rw [R.len]; exact hi)] at h1
        refine .inl ⟨hi, h1, h3, fun z => ?_⟩
        exact mut_not_none (R.obj i a o h1 h3) m (by rw [z]; exact hp)
      · have hi2 : i = st.length := by
          have := (List.getElem?_eq_some_iff.mp h3).1
          simp at this
          omega
        subst hi2
        rw [← R.len, List.getElem?_append_right (Nat.le_refl _), Nat.sub_self] at h1
        simp at h1
        exact .inr ⟨rfl, h1.symm⟩
    rcases get i o h1 h3 m1 with ⟨_, a1, a2, a3⟩ | ⟨e1, a3⟩
    · rcases get j u h2 h4 m2 with ⟨_, b1, b2, _⟩ | ⟨_, b3⟩
      · exact R.inj i j a o u a1 b1 a2 b2 m1 m2
      · exact absurd b3 a3
    · rcases get j u h2 h4 m2 with ⟨_, _, _, b3⟩ | ⟨e2, _⟩
      · exact absurd a3 b3
      · rw [e1, e2]
/-- a list is changed -/
theorem RepS.write {i : Nat} {a : Addr} {ys xs : List D} {vs : List V} (R : RepS K T φ H st) (h1 : φ[i]? = some a) (h2 : st[i]? = some (.lst ys)) (r : RepL K φ H xs vs) : RepS K T φ (upd H a (.lst vs)) (st.set i (.lst xs)) := by
  obtain ⟨ws, e0, _⟩ := R.obj i a _ h1 h2
  have hm : Mu (H a) := by
    rw [e0]
    exact trivial
  have k : Kp H (upd H a (.lst vs)) := Kp.write hm
  have hi : i < st.length := (List.getElem?_eq_some_iff.mp h2).1
  refine ⟨by simp [R.len], fun j b o g1 g2 => ?_, fun j l b o u g1 g2 g3 g4 m1 m2 => ?_, tabs_write e0 R.tab⟩
  · by_cases hj : j = i
    · subst hj
      rw [h1] at g1
      cases g1
      rw [List.getElem?_set_self hi] at g2
      cases g2
      exact ⟨vs, upd_same, r.mono (Ext.refl _) k⟩
    · rw [List.getElem?_set_ne (fun z => hj z.symm)] at g2
      have ro := R.obj j b o g1 g2
      refine RepO.mono_of (Ext.refl _) k (fun m => upd_ne fun z => ?_) ro
      subst z
      exact hj (R.inj j i b o _ g1 h1 g2 h2 m rfl)
  · have get : ∀ (j : Nat) (o : O), (st.set i (.lst xs))[j]? = some o → ∃ o', st[j]? = some o' ∧ (o.mut = true → o'.mut = true) := fun j o g => by
      by_cases hj : j = i
      · subst hj
        exact ⟨_, h2, fun _ => rfl⟩
      · rw [List.getElem?_set_ne (fun z => hj z.symm)] at g
        exact ⟨o, g, fun z => z⟩
    obtain ⟨o', q1, q2⟩ := get j o g3
    obtain ⟨u', q3, q4⟩ := get l u g4
    exact R.inj j l b o' u' g1 g2 q1 q3 (q2 m1) (q4 m2)
end
end Rol

namespace Rol
open PySem L2 PySem.Spec

inductive Res (α : Type) where
  | ok (a : α) (st : S) | exc (c : Str) (w : D) (st : S) | stuck
def Res.bind {α β : Type} (r : Res α) (k : α → S → Res β) : Res β :=
  match r with
  | .ok a st => k a st
  | .exc c w st => .exc c w st
  | .stuck => .stuck
@[simp] theorem Res.bind_ok {α β : Type} (a : α) (st : S) (k : α → S → Res β) : (Res.ok a st).bind k = k a st := rfl
@[simp] theorem Res.bind_exc {α β : Type} (c : Str) (w : D) (st : S) (k : α → S → Res β) : (Res.exc c w st : Res α).bind k = .exc c w st := rfl
@[simp] theorem Res.bind_stuck {α β : Type} (k : α → S → Res β) : (Res.stuck : Res α).bind k = .stuck := rfl

abbrev DE := Nv → S → Res D
abbrev DA := Nv → S → Res (List D)
abbrev DT := Nv → S → Res Bool

section
variable (K : PySem.W.Frag) (cm : CM) (W : WX)
/-- what is wanted behind: of a value, of an exception -/
def AtG {α β : Type} (R : List Addr → Hp → α → β → Prop) (φ : List Addr) (H : Hp) (σ : L2.St) (Q : β → Hp → Prop) : Res α → Prop
  | .ok a st => ∀ φ' H' b, Ext φ φ' → Kp H H' → RepS K cm.T φ' H' st → R φ' H' a b → Q b H'
  | .exc c w st => ∀ φ' H' d w', Ext φ φ' → Kp H H' → RepS K cm.T φ' H' st → RepV K φ' H' w w' → H' d = some (.xd (xdl c w')) → W (.ref (cm c)) (some d) σ H'
  | .stuck => False
structure Hd (T : Tb) (φ : List Addr) (H : Hp) (σ : L2.St) (ρ : Nv) (st : S) : Prop where
  s : RepS K T φ H st
  e : RepE K φ H ρ σ
def tG {α β : Type} (R : List Addr → Hp → α → β → Prop) (m : Nv → S → Res α) : L2.St → Hp → (β → Hp → Prop) → Prop := fun σ H Q =>
  ∃ φ ρ st, Hd K cm.T φ H σ ρ st ∧ AtG K cm W R φ H σ Q (m ρ st)
abbrev RV : List Addr → Hp → D → V → Prop := fun φ H => RepV K φ H
abbrev RL : List Addr → Hp → List D → List V → Prop := fun φ H => RepL K φ H
abbrev RB : List Addr → Hp → Bool → Bool → Prop := fun _ _ a b => a = b
abbrev tE (m : DE) : TE := tG K cm W (RV K) m
abbrev tA (m : DA) : TA := tG K cm W (RL K) m
abbrev tT (m : DT) : TT := tG K cm W RB m
end

section
variable {K : PySem.W.Frag} {cm : CM} {W : WX} {α β γ δ : Type} {R : List Addr → Hp → α → β → Prop} {R2 : List Addr → Hp → γ → δ → Prop}
  {φ φ' : List Addr} {H H' : Hp} {σ : L2.St} {ρ : Nv} {st : S} {Q : β → Hp → Prop} {Q2 : δ → Hp → Prop}
theorem AtG.mono {r : Res α} (e : Ext φ φ') (k : Kp H H') (h : AtG K cm W R φ H σ Q r) : AtG K cm W R φ' H' σ Q r := by
  cases r with
  | ok a st => exact fun φ2 H2 b e2 k2 => h φ2 H2 b (e.trans e2) (k.trans k2)
  | exc c w st => exact fun φ2 H2 d w' e2 k2 => h φ2 H2 d w' (e.trans e2) (k.trans k2)
  | stuck => exact h
theorem Hd.mono (hd : Hd K cm.T φ H σ ρ st) (e : Ext φ φ') (k : Kp H H') {st' : S} (s : RepS K cm.T φ' H' st') : Hd K cm.T φ' H' σ ρ st' := ⟨s, hd.e.mono e k⟩
theorem AtG.bind {r : Res α} {k : α → S → Res γ} (h : AtG K cm W R2 φ H σ Q2 (r.bind k))
    (hk : ∀ a st' φ' H' b, Ext φ φ' → Kp H H' → RepS K cm.T φ' H' st' → R φ' H' a b → AtG K cm W R2 φ' H' σ Q2 (k a st') → Q b H') : AtG K cm W R φ H σ Q r := by
  cases r with
  | ok a st => exact fun φ2 H2 b e2 k2 s2 r2 => hk a st φ2 H2 b e2 k2 s2 r2 (AtG.mono e2 k2 h)
  | exc c w st => exact h
  | stuck => exact h
theorem tG_bind {m : Nv → S → Res α} {k : α → S → Res γ} (hd : Hd K cm.T φ H σ ρ st) (h : AtG K cm W R2 φ H σ Q2 ((m ρ st).bind k))
    (hk : ∀ a st' φ' H' b, Ext φ φ' → Kp H H' → Hd K cm.T φ' H' σ ρ st' → R φ' H' a b → AtG K cm W R2 φ' H' σ Q2 (k a st') → Q b H') : tG K cm W R m σ H Q :=
  ⟨φ, ρ, st, hd, AtG.bind h fun a st' φ' H' b e k' s r h' => hk a st' φ' H' b e k' (hd.mono e k' s) r h'⟩
/-- it's there -/
theorem AtG.here {a : α} {b : β} (h : AtG K cm W R φ H σ Q (.ok a st)) (s : RepS K cm.T φ H st) (r : R φ H a b) : Q b H := h φ H b (Ext.refl _) (Kp.refl _) s r
theorem conv_E {X : Cx} {e : Expr} {t t' : TE} (h : PE X e t) (c : ∀ σ H Q, t' σ H Q → t σ H Q) : PE X e t' := ⟨fun pins s σ H Q I q => h.run pins s σ H Q I (c σ H Q q)⟩
theorem conv_T {X : Cx} {e : Expr} {t t' : TT} (h : PT X e t) (c : ∀ σ H Q, t' σ H Q → t σ H Q) : PT X e t' := ⟨fun pins s σ H Q I q => h.run pins s σ H Q I (c σ H Q q)⟩
theorem conv_A {X : Cx} {e : List Expr} {t t' : TA} (h : PA X e t) (c : ∀ σ H Q, t' σ H Q → t σ H Q) : PA X e t' := ⟨fun ps pins s σ H Q I q => h.run ps pins s σ H Q I (c σ H Q q)⟩
theorem conv_S {X : Cx} {e : Stmt} {t t' : TS} (h : PS X e t) (c : ∀ D σ H, t' D σ H → t D σ H) : PS X e t' := ⟨fun pins s σ H D I q => h.run pins s σ H D I (c D σ H q)⟩
theorem conv_Ss {X : Cx} {e : List Stmt} {t t' : TS} (h : PSs X e t) (c : ∀ D σ H, t' D σ H → t D σ H) : PSs X e t' := ⟨fun pins s σ H D I q => h.run pins s σ H D I (c D σ H q)⟩
end

def eVar (i : Nat) : DE := fun ρ st => match ρ[i]? with
  | some (some d) => .ok d st
  | _ => .stuck
def eC (d : D) : DE := fun _ st => .ok d st
def aNil : DA := fun _ st => .ok [] st
def aCons (m : DE) (l : DA) : DA := fun ρ st => (m ρ st).bind fun x st => (l ρ st).bind fun xs st => .ok (x :: xs) st
def eTup (l : DA) : DE := fun ρ st => (l ρ st).bind fun xs st => if xs.length ≤ sizeLine then .ok (.tup xs) st else .stuck
def eLst (l : DA) : DE := fun ρ st => (l ρ st).bind fun xs st => if xs.length ≤ sizeLine then .ok (.loc st.length) (st ++ [.lst xs]) else .stuck

section
variable {X : Cx} {cm : CM} {W : WX} {e a b : Expr} {es : List Expr} {ma mb m : DE} {ml : DA} {x : Str} {pos : Pos}
theorem rE_var (i : Nat) (hN : X.N[i]? = some x := by rfl) (hv : Vis X.env.scope x := by first | exact Or.inl rfl | exact Or.inr (Or.inl rfl) | exact Or.inr (Or.inr rfl)) (hd : (x == ("__debug__" : Str)) = false := by decide)
    (hcd : (x == ("__classdict__" : Str)) = false := by decide) : PE X (.Name x pos) (tE X.K cm W (eVar i)) := by
  refine conv_E (pe_var hN hv hd hcd) fun σ H Q h => ?_
  obtain ⟨φ, ρ, st, hd, h⟩ := h
  unfold eVar at h
  split at h
  · rename_i d q
    obtain ⟨v, h1, h2⟩ := hd.e.2 i d q
    exact ⟨v, h1, h.here hd.s h2⟩
  · exact h.elim
theorem rE_C {d : D} {v : V} (h : PE X e (tC v)) (r : ∀ φ H, RepV X.K φ H d v) : PE X e (tE X.K cm W (eC d)) := by
  refine conv_E h fun σ H Q h => ?_
  obtain ⟨φ, ρ, st, hd, h⟩ := h
  exact AtG.here h hd.s (r φ H)
theorem rE_int {i : Int} {j} : PE X (.Constant (.int i) j pos) (tE X.K cm W (eC (.int i))) := rE_C pe_int fun _ _ => .int i
theorem rE_bl {i : Bool} {j} : PE X (.Constant (.bool i) j pos) (tE X.K cm W (eC (.bl i))) := rE_C pe_bl fun _ _ => .bl i
theorem rE_non {j} : PE X (.Constant .none j pos) (tE X.K cm W (eC .non)) := rE_C pe_non fun _ _ => .non
theorem rE_str {i : Str} {j} : PE X (.Constant (.str i) j pos) (tE X.K cm W (eC (.str i))) := rE_C pe_str fun _ _ => .str i
/-- a module's constant, a class, a built-in class -/
theorem rE_glob {v : V} {u : Value} {d : D} (hm : X.mg x = some u) (r : RelV v u) (rd : ∀ φ H, RepV X.K φ H d v) (hg : Gl X x := by rfl) (hd : (x == ("__debug__" : Str)) = false := by decide) : PE X (.Name x pos) (tE X.K cm W (eC d)) := rE_C (pe_glob hg hm r hd) rd
theorem rE_bltn {v : V} {u : Value} {d : D} (hm : X.mg x = none) (hv : bootBuiltins x = some u) (r : RelV v u) (rd : ∀ φ H, RepV X.K φ H d v) (hg : Gl X x := by rfl) (hn : x ≠ "__name__" := by decide) (hd : (x == ("__debug__" : Str)) = false := by decide) : PE X (.Name x pos) (tE X.K cm W (eC d)) := rE_C (pe_bltn hg hm hv r hn hd) rd
theorem rA_nil : PA X [] (tA X.K cm W aNil) := by
  refine conv_A pa_nil fun σ H Q h => ?_
  obtain ⟨φ, ρ, st, hd, h⟩ := h
  exact AtG.here h hd.s .nil
theorem rA_cons (h1 : PE X e (tE X.K cm W m)) (h2 : PA X es (tA X.K cm W ml)) (hs : starEach (e :: es) X.env = (false, eval e X.env) :: starEach es X.env := by rfl) : PA X (e :: es) (tA X.K cm W (aCons m ml)) := by
  refine conv_A (pa_cons h1 h2 hs) fun σ H Q h => ?_
  obtain ⟨φ, ρ, st, hd, h⟩ := h
  refine tG_bind hd h fun x st1 φ1 H1 v e1 k1 hd1 r1 h1 => ?_
  refine tG_bind hd1 h1 fun xs st2 φ2 H2 vs e2 k2 hd2 r2 h2 => ?_
  exact AtG.here h2 hd2.s (.cons (r1.mono e2 k2) r2)
theorem rE_tup {x1} (h : PA X es (tA X.K cm W ml)) : PE X (.Tuple es x1 pos) (tE X.K cm W (eTup ml)) := by
  refine conv_E (pe_tup h) fun σ H Q h => ?_
  obtain ⟨φ, ρ, st, hd, h⟩ := h
  refine tG_bind hd h fun xs st1 φ1 H1 vs e1 k1 hd1 r1 h1 => ?_
  split at h1
  · rename_i hl
    refine ⟨by rw [← r1.length]; exact hl, fun p hp => ?_⟩
    exact h1 φ1 _ _ (Ext.refl _) (Kp.new hp) (hd1.s.beside hp) (.tup (SqT.of upd_same) (r1.mono (Ext.refl _) (Kp.new hp)))
  · exact h1.elim
theorem rE_lst (h : PA X es (tA X.K cm W ml)) : PE X (.List es pos) (tE X.K cm W (eLst ml)) := by
  refine conv_E (pe_lst h) fun σ H Q h => ?_
  obtain ⟨φ, ρ, st, hd, h⟩ := h
  refine tG_bind hd h fun xs st1 φ1 H1 vs e1 k1 hd1 r1 h1 => ?_
  split at h1
  · rename_i hl
    refine ⟨by rw [← r1.length]; exact hl, fun p hp => ?_⟩
    refine h1 (φ1 ++ [p]) _ _ (Ext.one _ _) (Kp.new hp) (hd1.s.alloc hp r1) (.loc ?_)
    rw [← hd1.s.len, List.getElem?_append_right (Nat.le_refl _), Nat.sub_self]
    rfl
  · exact h1.elim

/-- a two-place operation by data -/
def OpD (K : PySem.W.Frag) (r : L2.R2) (f : D → D → S → Res D) : Prop :=
  ∀ (cm : CM) (W : WX) (φ : List Addr) (H : Hp) (σ : L2.St) (st : S) (x y : D) (v w : V) (Q : VK), RepS K cm.T φ H st → RepV K φ H x v → RepV K φ H y w → AtG K cm W (RV K) φ H σ Q (f x y st) → r v w H Q
def e2 (f : D → D → S → Res D) (ma mb : DE) : DE := fun ρ st => (ma ρ st).bind fun x st => (mb ρ st).bind fun y st => f x y st
def e1 (f : D → S → Res D) (ma : DE) : DE := fun ρ st => (ma ρ st).bind f
theorem e2_run {f : D → D → S → Res D} {r : L2.R2} (hr : OpD X.K r f) (ta : TE) (tb : TE) (ea : ta = tE X.K cm W ma) (eb : tb = tE X.K cm W mb) (σ : L2.St) (H : Hp) (Q : VK) (h : tE X.K cm W (e2 f ma mb) σ H Q) : tOp r ta tb σ H Q := by
  subst ea eb
  obtain ⟨φ, ρ, st, hd, h⟩ := h
  refine tG_bind hd h fun x st1 φ1 H1 v e1 k1 hd1 r1 h1 => ?_
  refine tG_bind hd1 h1 fun y st2 φ2 H2 w e2 k2 hd2 r2 h2 => ?_
  exact hr cm W φ2 H2 σ st2 x y v w Q hd2.s (r1.mono e2 k2) r2 h2
theorem rE_op {op : Operator} {f : D → D → S → Res D} {r : L2.R2} (ho : OpR X (binaryOp op) r) (hr : OpD X.K r f) (ha : PE X a (tE X.K cm W ma)) (hb : PE X b (tE X.K cm W mb)) : PE X (.BinOp a op b pos) (tE X.K cm W (e2 f ma mb)) :=
  conv_E (pe_op ho ha hb) (e2_run hr _ _ rfl rfl)
theorem rE_cmp {op : CmpOp} {f : D → D → S → Res D} {r : L2.R2} (ho : OpR X (compareOp op) r) (hr : OpD X.K r f) (ha : PE X a (tE X.K cm W ma)) (hb : PE X b (tE X.K cm W mb)) (hm : behindInMarks op b = false) : PE X (.Compare a [op] [b] pos) (tE X.K cm W (e2 f ma mb)) :=
  conv_E (pe_cmpR ho ha hb hm) (e2_run hr _ _ rfl rfl)
theorem rE_ix {f : D → D → S → Res D} {r : L2.R2} (ho : IxR X r) (hr : OpD X.K r f) (ha : PE X a (tE X.K cm W ma)) (hb : PE X b (tE X.K cm W mb)) (hs : PlainIx b := by exact fun _ _ => rfl) : PE X (.Subscript a b pos) (tE X.K cm W (e2 f ma mb)) :=
  conv_E (pe_ix ho ha hb hs) (e2_run hr _ _ rfl rfl)
def UnD (K : PySem.W.Frag) (r : V → Hp → VK → Prop) (f : D → S → Res D) : Prop :=
  ∀ (cm : CM) (W : WX) (φ : List Addr) (H : Hp) (σ : L2.St) (st : S) (x : D) (v : V) (Q : VK), RepS K cm.T φ H st → RepV K φ H x v → AtG K cm W (RV K) φ H σ Q (f x st) → r v H Q
theorem rE_un {op : UnaryOp} {f : D → S → Res D} {r : V → Hp → VK → Prop} (ho : UnR X (unaryOp op) r) (hr : UnD X.K r f) (ha : PE X a (tE X.K cm W ma)) : PE X (.UnaryOp op a pos) (tE X.K cm W (e1 f ma)) := by
  refine conv_E (pe_un ho ha) fun σ H Q h => ?_
  obtain ⟨φ, ρ, st, hd, h⟩ := h
  refine tG_bind hd h fun x st1 φ1 H1 v e1 k1 hd1 r1 h1 => ?_
  exact hr cm W φ1 H1 σ st1 x v Q hd1.s r1 h1
/-- a built-in's call by data -/
def CallD (K : PySem.W.Frag) (r : List V → Hp → VK → Prop) (f : List D → S → Res D) : Prop :=
  ∀ (cm : CM) (W : WX) (φ : List Addr) (H : Hp) (σ : L2.St) (st : S) (xs : List D) (vs : List V) (Q : VK), RepS K cm.T φ H st → RepL K φ H xs vs → AtG K cm W (RV K) φ H σ Q (f xs st) → r vs H Q
def eCall (f : List D → S → Res D) (l : DA) : DE := fun ρ st => (l ρ st).bind f
theorem rE_callB {id : String} {p : Pos} {f : List D → S → Res D} {r : List V → Hp → VK → Prop} (hc : CallR X (.builtin id) r) (hr : CallD X.K r f) (hm : X.mg x = none) (hv : bootBuiltins x = some (.builtin id)) (ha : PA X (e :: es) (tA X.K cm W ml)) (hg : Gl X x := by rfl) (hn : x ≠ "__name__" := by decide) (hdb : (x == ("__debug__" : Str)) = false := by decide)
    (he : starEach (e :: es) X.env = (false, eval e X.env) :: starEach es X.env := by rfl) (hpl : (backTo pos (starEach es X.env)).any (·.1) = false := by rfl) : PE X (.Call (.Name x p) (e :: es) [] pos) (tE X.K cm W (eCall f ml)) := by
  refine conv_E (pe_callB hc hg hm hv ha hn hdb he hpl) fun σ H Q h => ?_
  obtain ⟨φ, ρ, st, hd, h⟩ := h
  refine tG_bind hd h fun xs st1 φ1 H1 vs e1 k1 hd1 r1 h1 => ?_
  exact hr cm W φ1 H1 σ st1 xs vs Q hd1.s r1 h1
theorem rE_callTy {T : String} {p : Pos} {f : List D → S → Res D} {r : List V → Hp → VK → Prop} (hc : CallR X (.type T) r) (hr : CallD X.K r f) (hm : X.mg x = none) (hv : bootBuiltins x = some (.type T)) (ha : PA X (e :: es) (tA X.K cm W ml)) (hg : Gl X x := by rfl) (hn : x ≠ "__name__" := by decide) (hdb : (x == ("__debug__" : Str)) = false := by decide)
    (he : starEach (e :: es) X.env = (false, eval e X.env) :: starEach es X.env := by rfl) (hpl : (backTo pos (starEach es X.env)).any (·.1) = false := by rfl) : PE X (.Call (.Name x p) (e :: es) [] pos) (tE X.K cm W (eCall f ml)) := by
  refine conv_E (pe_callTy hc hg hm hv ha hn hdb he hpl) fun σ H Q h => ?_
  obtain ⟨φ, ρ, st, hd, h⟩ := h
  refine tG_bind hd h fun xs st1 φ1 H1 vs e1 k1 hd1 r1 h1 => ?_
  exact hr cm W φ1 H1 σ st1 xs vs Q hd1.s r1 h1
end

/-- a value that is a truth -/
def asB (x : D) (st : S) : Res Bool := match x with
  | .bl b => .ok b st
  | _ => .stuck
def tOf (m : DE) : DT := fun ρ st => (m ρ st).bind asB
def tNotD (m : DT) : DT := fun ρ st => (m ρ st).bind fun b st => .ok (!b) st
def tAndD (m n : DT) : DT := fun ρ st => (m ρ st).bind fun b st => if b = true then n ρ st else .ok false st
def tOrD (m n : DT) : DT := fun ρ st => (m ρ st).bind fun b st => if b = true then .ok true st else n ρ st
def eAnd (m n : DE) : DE := fun ρ st => (m ρ st).bind fun x st => (asB x st).bind fun b st => if b = true then n ρ st else .ok (.bl false) st
def eNot (m : DE) : DE := fun ρ st => (m ρ st).bind fun x st => (asB x st).bind fun b st => .ok (.bl (!b)) st
def eIf (c : DT) (m n : DE) : DE := fun ρ st => (c ρ st).bind fun b st => if b = true then m ρ st else n ρ st
section
variable {X : Cx} {cm : CM} {W : WX} {e a b c : Expr} {es rest : List Expr} {ma mb m : DE} {ta tb tc : DT} {x : Str} {pos : Pos}
theorem asB_at {K : PySem.W.Frag} {φ : List Addr} {H : Hp} {σ : L2.St} {γ δ : Type} {R2 : List Addr → Hp → γ → δ → Prop} {Q2 : δ → Hp → Prop} {d : D} {v : V} {st : S} {k : Bool → S → Res γ} (r : RepV K φ H d v) (h : AtG K cm W R2 φ H σ Q2 ((asB d st).bind k)) : ∃ b, v = .bl b ∧ AtG K cm W R2 φ H σ Q2 (k b st) := by
  unfold asB at h
  split at h
  · rename_i b
    cases r
    exact ⟨b, rfl, h⟩
  · exact h.elim
theorem rT_val (h : PE X e (tE X.K cm W m)) (he : ∀ whole, isTrue e X.env whole = (do let v ← whole; standAt e.pos; holding [v] (truthy v)) := by intro _; rfl) : PT X e (tT X.K cm W (tOf m)) := by
  refine conv_T (pt_val h he) fun σ H Q h => ?_
  obtain ⟨φ, ρ, st, hd, h⟩ := h
  refine tG_bind hd h fun x st1 φ1 H1 v e1 k1 hd1 r1 h1 => ?_
  have h1' : AtG X.K cm W RB φ1 H1 σ Q ((asB x st1).bind fun b st => Res.ok b st) := by
    unfold asB at h1 ⊢
    split at h1
    · exact h1
    · exact h1
  obtain ⟨b, e, h2⟩ := asB_at r1 h1'
  exact ⟨b, e, AtG.here h2 hd1.s rfl⟩
theorem rT_cmp {op : CmpOp} {f : D → D → S → Res D} {r : L2.R2} (ho : OpR X (compareOp op) r) (hr : OpD X.K r f) (ha : PE X a (tE X.K cm W ma)) (hb : PE X b (tE X.K cm W mb)) (hm : behindInMarks op b = false) : PT X (.Compare a [op] [b] pos) (tT X.K cm W (tOf (e2 f ma mb))) := by
  refine conv_T (pt_cmpR ho ha hb hm) fun σ H Q h => ?_
  obtain ⟨φ, ρ, st, hd, h⟩ := h
  show tOp r _ _ σ H _
  refine e2_run hr _ _ rfl rfl σ H _ ⟨φ, ρ, st, hd, ?_⟩
  refine AtG.bind h fun x st1 φ1 H1 v e1 k1 s1 r1 h1 => ?_
  have h1' : AtG X.K cm W RB φ1 H1 σ Q ((asB x st1).bind fun b st => Res.ok b st) := by
    unfold asB at h1 ⊢
    split at h1
    · exact h1
    · exact h1
  obtain ⟨b, e, h2⟩ := asB_at r1 h1'
  exact ⟨b, e, AtG.here h2 s1 rfl⟩
theorem rT_not (ha : PT X a (tT X.K cm W ta)) : PT X (.UnaryOp .Not a pos) (tT X.K cm W (tNotD ta)) := by
  refine conv_T (pt_not ha) fun σ H Q h => ?_
  obtain ⟨φ, ρ, st, hd, h⟩ := h
  refine tG_bind hd h fun x st1 φ1 H1 v e1 k1 hd1 r1 h1 => ?_
  have r1' : x = v := r1
  subst r1'
  exact AtG.here h1 hd1.s rfl
theorem conv_W {t t' : TT} (h : PW X e t) (c : ∀ σ H Q, t' σ H Q → t σ H Q) : PW X e t' := ⟨fun w pins s σ H Q I q => h.run w pins s σ H Q I (c σ H Q q)⟩
theorem rW_and1 (ha : PT X a (tT X.K cm W ta)) : PW X (.BoolOp .And [a] pos) (tT X.K cm W ta) := pw_and1 ha
theorem rW_or1 (ha : PT X a (tT X.K cm W ta)) : PW X (.BoolOp .Or [a] pos) (tT X.K cm W ta) := pw_or1 ha
theorem rW_and (ha : PT X a (tT X.K cm W ta)) (hb : PW X (.BoolOp .And (b :: rest) pos) (tT X.K cm W tb)) : PW X (.BoolOp .And (a :: b :: rest) pos) (tT X.K cm W (tAndD ta tb)) := by
  refine conv_W (pw_and ha hb) fun σ H Q h => ?_
  obtain ⟨φ, ρ, st, hd, h⟩ := h
  refine tG_bind hd h fun x st1 φ1 H1 v e1 k1 hd1 r1 h1 => ?_
  have r1' : x = v := r1
  subst r1'
  cases x with
  | true => rw [if_pos rfl]; exact ⟨φ1, ρ, st1, hd1, h1⟩
  | false => rw [if_neg Bool.false_ne_true]; exact AtG.here (R := RB) h1 hd1.s rfl
theorem rW_or (ha : PT X a (tT X.K cm W ta)) (hb : PW X (.BoolOp .Or (b :: rest) pos) (tT X.K cm W tb)) : PW X (.BoolOp .Or (a :: b :: rest) pos) (tT X.K cm W (tOrD ta tb)) := by
  refine conv_W (pw_or ha hb) fun σ H Q h => ?_
  obtain ⟨φ, ρ, st, hd, h⟩ := h
  refine tG_bind hd h fun x st1 φ1 H1 v e1 k1 hd1 r1 h1 => ?_
  have r1' : x = v := r1
  subst r1'
  cases x with
  | true => rw [if_pos rfl]; exact AtG.here (R := RB) h1 hd1.s rfl
  | false => rw [if_neg Bool.false_ne_true]; exact ⟨φ1, ρ, st1, hd1, h1⟩
theorem rE_one {op} (ha : PE X a (tE X.K cm W ma)) : PE X (.BoolOp op [a] pos) (tE X.K cm W ma) := pe_one ha
theorem rE_and (ha : PE X a (tE X.K cm W ma)) (hb : PE X (.BoolOp .And (b :: rest) pos) (tE X.K cm W mb)) : PE X (.BoolOp .And (a :: b :: rest) pos) (tE X.K cm W (eAnd ma mb)) := by
  refine conv_E (pe_and ha hb) fun σ H Q h => ?_
  obtain ⟨φ, ρ, st, hd, h⟩ := h
  refine tG_bind hd h fun x st1 φ1 H1 v e1 k1 hd1 r1 h1 => ?_
  obtain ⟨k, e, h2⟩ := asB_at r1 h1
  refine ⟨k, e, ?_⟩
  cases k with
  | true => rw [if_pos rfl]; exact ⟨φ1, ρ, st1, hd1, h2⟩
  | false => rw [if_neg Bool.false_ne_true]; exact AtG.here (R := RV X.K) h2 hd1.s (.bl _)
theorem rE_not (ha : PE X a (tE X.K cm W ma)) : PE X (.UnaryOp .Not a pos) (tE X.K cm W (eNot ma)) := by
  refine conv_E (pe_not ha) fun σ H Q h => ?_
  obtain ⟨φ, ρ, st, hd, h⟩ := h
  refine tG_bind hd h fun x st1 φ1 H1 v e1 k1 hd1 r1 h1 => ?_
  obtain ⟨k, e, h2⟩ := asB_at r1 h1
  exact ⟨k, e, AtG.here (R := RV X.K) h2 hd1.s (.bl _)⟩
theorem rE_if (hc : PT X c (tT X.K cm W tc)) (ha : PE X a (tE X.K cm W ma)) (hb : PE X b (tE X.K cm W mb)) : PE X (.IfExp c a b pos) (tE X.K cm W (eIf tc ma mb)) := by
  refine conv_E (pe_ifExp hc ha hb) fun σ H Q h => ?_
  obtain ⟨φ, ρ, st, hd, h⟩ := h
  refine tG_bind hd h fun x st1 φ1 H1 v e1 k1 hd1 r1 h1 => ?_
  have r1' : x = v := r1
  subst r1'
  cases x with
  | true => rw [if_pos rfl]; exact ⟨φ1, ρ, st1, hd1, h1⟩
  | false => rw [if_neg Bool.false_ne_true]; exact ⟨φ1, ρ, st1, hd1, h1⟩
end
end Rol

namespace Rol
open PySem L2 PySem.Spec

inductive Out where
  | nx (ρ : Nv) (st : S) | rt (v : D) (st : S) | bk (ρ : Nv) (st : S) | ct (ρ : Nv) (st : S) | exc (c : Str) (w : D) (ρ : Nv) (st : S) | stuck
abbrev DS := Nv → S → Out
def Res.out {α : Type} (r : Res α) (ρ : Nv) (k : α → S → Out) : Out :=
  match r with
  | .ok a st => k a st
  | .exc c w st => .exc c w ρ st
  | .stuck => .stuck
@[simp] theorem Res.out_ok {α : Type} (a : α) (st : S) (ρ : Nv) (k : α → S → Out) : (Res.ok a st).out ρ k = k a st := rfl
@[simp] theorem Res.out_exc {α : Type} (c : Str) (w : D) (st : S) (ρ : Nv) (k : α → S → Out) : (Res.exc c w st : Res α).out ρ k = .exc c w ρ st := rfl
@[simp] theorem Res.out_stuck {α : Type} (ρ : Nv) (k : α → S → Out) : (Res.stuck : Res α).out ρ k = .stuck := rfl

section
variable (K : PySem.W.Frag) (cm : CM) (W : WX)
def AtS (E : Ends) (φ : List Addr) (H : Hp) : Out → Prop
  | .nx ρ st => ∀ φ' H' σ', Ext φ φ' → Kp H H' → Hd K cm.T φ' H' σ' ρ st → E.nx σ' H'
  | .rt v st => ∀ φ' H' v', Ext φ φ' → Kp H H' → RepS K cm.T φ' H' st → RepV K φ' H' v v' → E.rt v' H'
  | .bk ρ st => ∀ φ' H' σ', Ext φ φ' → Kp H H' → Hd K cm.T φ' H' σ' ρ st → E.bk σ' H'
  | .ct ρ st => ∀ φ' H' σ', Ext φ φ' → Kp H H' → Hd K cm.T φ' H' σ' ρ st → E.ct σ' H'
  | .exc c w ρ st => ∀ φ' H' σ' d w', Ext φ φ' → Kp H H' → Hd K cm.T φ' H' σ' ρ st → RepV K φ' H' w w' → H' d = some (.xd (xdl c w')) → W (.ref (cm c)) (some d) σ' H'
  | .stuck => False
def tS (m : DS) : TS := fun E σ H => ∃ φ ρ st, Hd K cm.T φ H σ ρ st ∧ AtS K cm W E φ H (m ρ st)
end

section
variable {K : PySem.W.Frag} {cm : CM} {W : WX} {α β : Type} {R : List Addr → Hp → α → β → Prop}
  {φ φ' : List Addr} {H H' : Hp} {σ : L2.St} {ρ : Nv} {st : S} {Q : β → Hp → Prop} {E : Ends}
theorem AtS.mono {o : Out} (e : Ext φ φ') (k : Kp H H') (h : AtS K cm W E φ H o) : AtS K cm W E φ' H' o := by
  cases o with
  | nx ρ st => exact fun φ2 H2 b e2 k2 => h φ2 H2 b (e.trans e2) (k.trans k2)
  | rt ρ st => exact fun φ2 H2 b e2 k2 => h φ2 H2 b (e.trans e2) (k.trans k2)
  | bk ρ st => exact fun φ2 H2 b e2 k2 => h φ2 H2 b (e.trans e2) (k.trans k2)
  | ct ρ st => exact fun φ2 H2 b e2 k2 => h φ2 H2 b (e.trans e2) (k.trans k2)
  | exc c w ρ st => exact fun φ2 H2 b d w' e2 k2 => h φ2 H2 b d w' (e.trans e2) (k.trans k2)
  | stuck => exact h
theorem AtS.bind {m : Nv → S → Res α} {k : α → S → Out} (hd : Hd K cm.T φ H σ ρ st) (h : AtS K cm W E φ H ((m ρ st).out ρ k))
    (hk : ∀ a st' φ' H' b, Ext φ φ' → Kp H H' → Hd K cm.T φ' H' σ ρ st' → R φ' H' a b → AtS K cm W E φ' H' (k a st') → Q b H') : tG K cm W R m σ H Q := by
  refine ⟨φ, ρ, st, hd, ?_⟩
  cases e : m ρ st with
  | ok a st' =>
    rw [e] at h
    exact fun φ2 H2 b e2 k2 s2 r2 => hk a st' φ2 H2 b e2 k2 (hd.mono e2 k2 s2) r2 (AtS.mono e2 k2 h)
  | exc c w st' =>
    rw [e] at h
    exact fun φ2 H2 d w' e2 k2 s2 r2 hx => h φ2 H2 σ d w' e2 k2 (hd.mono e2 k2 s2) r2 hx
  | stuck =>
    rw [e] at h
    exact h
theorem AtS.next {ρ' : Nv} {st' : S} {σ' : L2.St} (h : AtS K cm W E φ H (.nx ρ' st')) (hd : Hd K cm.T φ H σ' ρ' st') : E.nx σ' H := h φ H σ' (Ext.refl _) (Kp.refl _) hd
end

def sSkip : DS := fun ρ st => .nx ρ st
def sSeq (m n : DS) : DS := fun ρ st => match m ρ st with
  | .nx ρ st => n ρ st
  | o => o
def sExpr (m : DE) : DS := fun ρ st => (m ρ st).out ρ fun _ st => .nx ρ st
def sRet (m : DE) : DS := fun ρ st => (m ρ st).out ρ fun v st => .rt v st
def sIf (c : DT) (m n : DS) : DS := fun ρ st => (c ρ st).out ρ fun b st => if b = true then m ρ st else n ρ st
/-- a target: a name, or names in a tuple -/
inductive Pat where
  | nm (i : Nat) | tp (ps : List Pat)
mutual
def setP : Pat → D → Nv → Option Nv
  | .nm i, d, ρ => some (ρ.set i (some d))
  | .tp ps, .tup xs, ρ => setPs ps xs ρ
  | .tp _, _, _ => none
def setPs : List Pat → List D → Nv → Option Nv
  | [], [], ρ => some ρ
  | p :: ps, x :: xs, ρ => (setP p x ρ).bind (setPs ps xs)
  | _, _, _ => none
end
mutual
def Pat.ids : Pat → List Nat
  | .nm i => [i]
  | .tp ps => Pat.idsAll ps
def Pat.idsAll : List Pat → List Nat
  | [] => []
  | p :: ps => p.ids ++ Pat.idsAll ps
end
/-- the slots of a target alone are changed -/
def Only (is : List Nat) (σ σ' : L2.St) : Prop := σ'.length = σ.length ∧ ∀ j, j ∉ is → σ'[j]? = σ[j]?
def PatOk (K : PySem.W.Frag) (p : Pat) (g : TG) : Prop := ∀ {T : Tb} φ H σ ρ st d v ρ' (Q : L2.St → Hp → Prop), Hd K T φ H σ ρ st → RepV K φ H d v → setP p d ρ = some ρ' →
  (∀ σ', Only p.ids σ σ' → Hd K T φ H σ' ρ' st → Q σ' H) → g v σ H Q
def PatsOk (K : PySem.W.Frag) (ps : List Pat) (g : TGs) : Prop := ∀ {T : Tb} φ H σ ρ st ds vs ρ' (Q : L2.St → Hp → Prop), Hd K T φ H σ ρ st → RepL K φ H ds vs → setPs ps ds ρ = some ρ' →
  (∀ σ', Only (Pat.idsAll ps) σ σ' → Hd K T φ H σ' ρ' st → Q σ' H) → g vs σ H Q
mutual
def gOf (K : PySem.W.Frag) : Pat → TG
  | .nm i => gName i
  | .tp ps => gTup K ps.length (gsOf K ps)
def gsOf (K : PySem.W.Frag) : List Pat → TGs
  | [] => gNil
  | p :: ps => gCons (gOf K p) (gsOf K ps)
end
def JG (X : Cx) (tg : Expr) (p : Pat) : Prop := PG X tg (gOf X.K p)
def JGs (X : Cx) (tgs : List Expr) (ps : List Pat) : Prop := PGs X tgs (gsOf X.K ps)
theorem Only.refl (is : List Nat) (σ : L2.St) : L2.St → Rol.Only is σ σ := fun _ => ⟨rfl, fun _ _ => rfl⟩
theorem Only.trans {is js : List Nat} {σ σ1 σ2 : L2.St} (a : Rol.Only is σ σ1) (b : Rol.Only js σ1 σ2) : Rol.Only (is ++ js) σ σ2 :=
  ⟨b.1.trans a.1, fun j h => by
    rw [List.mem_append, not_or] at h
    exact (b.2 j h.2).trans (a.2 j h.1)⟩
theorem gName_ok {K : PySem.W.Frag} (i : Nat) : PatOk K (.nm i) (gName i) := fun φ H σ ρ st d v ρ' Q hd r e h => by
  cases e
  exact h _ ⟨by rw [List.length_set], fun j hj => List.getElem?_set_ne fun z => hj (by rw [z]; exact List.mem_singleton.mpr rfl)⟩ ⟨hd.s, hd.e.set r i⟩
theorem RepL.nil_inv {K : PySem.W.Frag} {φ : List Addr} {H : Hp} {vs : List V} (h : RepL K φ H [] vs) : vs = [] := by
  cases h
  rfl
theorem setPs_length : ∀ {ps : List Pat} {ds : List D} {ρ ρ' : Nv}, setPs ps ds ρ = some ρ' → ds.length = ps.length
  | [], [], _, _, _ => rfl
  | [], _ :: _, _, _, h => by simp [setPs] at h
  | _ :: _, [], _, _, h => by simp [setPs] at h
  | p :: ps, d :: ds, ρ, ρ', h => by
    rw [setPs] at h
    cases e : setP p d ρ with
    | none =>
      rw [e] at h
      cases h
    | some ρ1 =>
      rw [e] at h
      rw [List.length_cons, List.length_cons, setPs_length (ps := ps) (ds := ds) (ρ := ρ1) h]

mutual
theorem gOf_ok {K : PySem.W.Frag} : ∀ p : Pat, PatOk K p (gOf K p)
  | .nm i => gName_ok i
  | .tp ps => fun φ H σ ρ st d v ρ' Q hd r e h => by
    cases r with
    | tup s r2 =>
      rename_i a xs vs
      rw [setP] at e
      exact ⟨a, vs, rfl, s, by rw [← r2.length, setPs_length e], gsOf_ok ps φ H σ ρ st xs vs ρ' Q hd r2 e h⟩
    | _ => simp [setP] at e
theorem gsOf_ok {K : PySem.W.Frag} : ∀ ps : List Pat, PatsOk K ps (gsOf K ps)
  | [] => fun φ H σ ρ st ds vs ρ' Q hd r e h => by
    have hds : ds = [] := List.length_eq_zero_iff.mp (setPs_length e)
    subst hds
    cases e
    exact ⟨r.nil_inv, h σ (Rol.Only.refl _ σ σ) hd⟩
  | p :: ps => fun φ H σ ρ st ds vs ρ' Q hd r e h => by
    cases r with
    | nil => simp [setPs] at e
    | cons r1 r2 =>
      rename_i d ds v vs
      rw [setPs] at e
      cases e1 : setP p d ρ with
      | none =>
        rw [e1] at e
        cases e
      | some ρ1 =>
        rw [e1] at e
        refine ⟨v, vs, rfl, ?_⟩
        refine gOf_ok p φ H σ ρ st d v ρ1 _ hd r1 e1 fun σ1 o1 hd1 => ?_
        exact gsOf_ok ps φ H σ1 ρ1 st ds vs ρ' _ hd1 r2 e fun σ2 o2 hd2 => h σ2 (o1.trans o2) hd2
end

section
variable {X : Cx} {cm : CM} {W : WX} {e : Expr} {es : List Expr} {m mo mi : DE} {tc : DT} {ms mt : DS} {x : Str} {pos : Pos} {s : Stmt} {ss rest : List Stmt} {p : Pat} {ps : List Pat}
theorem rG_nm (i : Nat) (hN : X.N.Nodup) (hi : X.N[i]? = some x := by rfl) (hx : Loc X.env.scope x := by first | exact Or.inl rfl | exact Or.inr rfl) (hf : X.fn x = true ∨ X.env.scope.names.lookup x = some .local := by first | exact .inl rfl | exact .inr rfl | assumption) : JG X (.Name x pos) (.nm i) := pg_name hN hi hx hf
theorem rG_nil : JGs X [] [] := pgs_nil
theorem rG_cons (h1 : JG X e p) (h2 : JGs X es ps) (hs : (assignEach (e :: es) X.env).map (·.2) = assign e X.env :: (assignEach es X.env).map (·.2) := by rfl) : JGs X (e :: es) (p :: ps) := pgs_cons h1 h2 hs
theorem rG_tup {k : Nat} (hc : X.calm = true) (h : JGs X es ps) (hn : (assignEach es X.env).length = ps.length := by rfl) (hst : (assignEach es X.env).findIdx? (·.1) = none := by rfl) : JG X (.Tuple es k pos) (.tp ps) := pg_tup hc h hn hst
theorem rSs_nil : PSs X [] (tS X.K cm W sSkip) := by
  refine conv_Ss pss_nil fun E σ H h => ?_
  obtain ⟨φ, ρ, st, hd, h⟩ := h
  exact h.next hd
theorem rSs_cons (h1 : PS X s (tS X.K cm W ms)) (h2 : PSs X rest (tS X.K cm W mt)) : PSs X (s :: rest) (tS X.K cm W (sSeq ms mt)) := by
  refine conv_Ss (pss_cons h1 h2) fun E σ H h => ?_
  obtain ⟨φ, ρ, st, hd, h⟩ := h
  refine ⟨φ, ρ, st, hd, ?_⟩
  unfold sSeq at h
  cases e : ms ρ st with
  | nx ρ1 st1 =>
    rw [e] at h
    exact fun φ2 H2 σ2 e2 k2 hd2 => ⟨φ2, ρ1, st1, hd2, AtS.mono e2 k2 h⟩
  | rt v st => rw [e] at h; exact h
  | bk ρ st => rw [e] at h; exact h
  | ct ρ st => rw [e] at h; exact h
  | exc c w ρ st => rw [e] at h; exact h
  | stuck => rw [e] at h; exact h
theorem rSs_one (h1 : PS X s (tS X.K cm W ms)) : PSs X [s] (tS X.K cm W ms) := pss_one h1
theorem rS_expr (he : PE X e (tE X.K cm W m)) (hs : swapsWith e none pos.line X.env = pure false := by rfl) : PS X (.Expr e pos) (tS X.K cm W (sExpr m)) := by
  refine conv_S (ps_expr he hs) fun E σ H h => ?_
  obtain ⟨φ, ρ, st, hd, h⟩ := h
  exact AtS.bind hd h fun v st1 φ1 H1 b e1 k1 hd1 r1 h1 => h1.next hd1
theorem rS_ret (he : PE X e (tE X.K cm W m)) : PS X (.Return (some e) pos) (tS X.K cm W (sRet m)) := by
  refine conv_S (ps_ret he) fun E σ H h => ?_
  obtain ⟨φ, ρ, st, hd, h⟩ := h
  exact AtS.bind hd h fun v st1 φ1 H1 b e1 k1 hd1 r1 h1 => h1 φ1 H1 b (Ext.refl _) (Kp.refl _) hd1.s r1
theorem rS_if {c : Expr} {a b : List Stmt} (hc : PT X c (tT X.K cm W tc)) (ha : PSs X a (tS X.K cm W ms)) (hb : PSs X b (tS X.K cm W mt)) : PS X (.If c a b pos) (tS X.K cm W (sIf tc ms mt)) := by
  refine conv_S (ps_if hc ha hb) fun E σ H h => ?_
  obtain ⟨φ, ρ, st, hd, h⟩ := h
  refine AtS.bind hd h fun x st1 φ1 H1 b e1 k1 hd1 r1 h1 => ?_
  have r1' : x = b := r1
  subst r1'
  cases x with
  | true => rw [if_pos rfl]; exact ⟨φ1, ρ, st1, hd1, h1⟩
  | false => rw [if_neg Bool.false_ne_true]; exact ⟨φ1, ρ, st1, hd1, h1⟩
end

def sSet (i : Nat) (m : DE) : DS := fun ρ st => (m ρ st).out ρ fun v st => .nx (ρ.set i (some v)) st
/-- o[i] = v -/
def SetD (K : PySem.W.Frag) (r : TSet) (f : D → D → D → S → Option S) : Prop :=
  ∀ {T : Tb} (φ : List Addr) (H : Hp) (st st' : S) (o i v : D) (o' i' v' : V) (Q : Hp → Prop), RepS K T φ H st → RepV K φ H o o' → RepV K φ H i i' → RepV K φ H v v' → f o i v st = some st' →
    (∀ H', Kp H H' → RepS K T φ H' st' → Q H') → r o' i' v' H Q
def sSub (f : D → D → D → S → Option S) (mo mi m : DE) : DS := fun ρ st => (m ρ st).out ρ fun v st => (mo ρ st).out ρ fun o st => (mi ρ st).out ρ fun i st => match f o i v st with
  | some st' => .nx ρ st'
  | none => .stuck
section
variable {X : Cx} {cm : CM} {W : WX} {e o ie : Expr} {es : List Expr} {m mo mi : DE} {x : Str} {pos pos' tpos : Pos} {p : Pat}
theorem rS_set (i : Nat) (hN : X.N.Nodup) (he : PE X e (tE X.K cm W m)) (hi : X.N[i]? = some x := by rfl) (hx : Loc X.env.scope x := by first | exact Or.inl rfl | exact Or.inr rfl) (hs : swapsWith e (some (.Name x pos')) pos.line X.env = pure false := by rfl) (hf : X.fn x = true ∨ X.env.scope.names.lookup x = some .local := by first | exact .inl rfl | exact .inr rfl | assumption) :
    PS X (.Assign [.Name x pos'] e pos) (tS X.K cm W (sSet i m)) := by
  refine conv_S (ps_set hN hi hx he hs hf) fun E σ H h => ?_
  obtain ⟨φ, ρ, st, hd, h⟩ := h
  refine AtS.bind hd h fun x st1 φ1 H1 b e1 k1 hd1 r1 h1 => ?_
  exact h1.next ⟨hd1.s, hd1.e.set r1 i⟩
theorem rS_sub {r : TSet} {f : D → D → D → S → Option S} (hset : PSet X r) (hf : SetD X.K r f) (he : PE X e (tE X.K cm W m)) (ho : PE X o (tE X.K cm W mo)) (hi : PE X ie (tE X.K cm W mi))
    (ha : ∀ v, assign (.Subscript o ie tpos) X.env v = (do
      let ov ← holding [v] (eval o X.env)
      let iv ← holding [v, ov] (eval ie X.env)
      standAt tpos
      holding [v, ov, iv] (setItem ov iv v)
      release [v, ov, iv] []) := by intro _; rfl)
    (hs : swapsWithSole [.Subscript o ie tpos] e pos.line X.env = pure false := by rfl) (hw : swappedStores [.Subscript o ie tpos] e X.env = pure none := by rfl)
    (h1 : (assignEach [.Subscript o ie tpos] X.env).map (·.2) = [assign (.Subscript o ie tpos) X.env] := by rfl) : PS X (.Assign [.Subscript o ie tpos] e pos) (tS X.K cm W (sSub f mo mi m)) := by
  refine conv_S (ps_asg he (pg_sub ho hi hset ha) hs hw h1) fun E σ H h => ?_
  obtain ⟨φ, ρ, st, hd, h⟩ := h
  refine AtS.bind hd h fun d st1 φ1 H1 v e1 k1 hd1 r1 h1 => ?_
  refine AtS.bind hd1 h1 fun od st2 φ2 H2 ov e2 k2 hd2 r2 h2 => ?_
  refine AtS.bind hd2 h2 fun id st3 φ3 H3 iv e3 k3 hd3 r3 h3 => ?_
  cases e4 : f od id d st3 with
  | none =>
    rw [e4] at h3
    exact h3.elim
  | some st4 =>
    rw [e4] at h3
    exact hf φ3 H3 st3 st4 od id d ov iv v _ hd3.s (r2.mono e3 k3) r3 (r1.mono (e2.trans e3) (k2.trans k3)) e4 fun H' k' s' => h3 φ3 H' σ (Ext.refl _) k' (hd3.mono (Ext.refl _) k' s')
end

/-- the items of a list at a place -/
def itemsAt (st : S) (k : Nat) : Option (List D) := match st[k]? with
  | some (.lst xs) => some xs
  | some (.src xs) => some xs
  | _ => none
def pairI : Nat → List D → List D
  | _, [] => []
  | k, x :: xs => .tup [.int (k : Int), x] :: pairI (k + 1) xs
theorem pairI_len : ∀ (k : Nat) (xs : List D), (pairI k xs).length = xs.length
  | _, [] => rfl
  | k, _ :: xs => by rw [pairI, List.length_cons, List.length_cons, pairI_len (k + 1) xs]
theorem pairI_get : ∀ (k : Nat) (xs : List D) (i : Nat), (pairI k xs)[i]? = (xs[i]?).map fun x => .tup [.int ((k + i : Nat) : Int), x]
  | _, [], _ => by simp [pairI]
  | k, x :: xs, 0 => by simp [pairI]
  | k, x :: xs, i + 1 => by
    rw [pairI, List.getElem?_cons_succ, List.getElem?_cons_succ, pairI_get (k + 1) xs i]
    simp only [show k + 1 + i = k + (i + 1) by omega]
/-- what is told of a list: its items, or these with their places -/
def tkn : Bool → List D → List D
  | false, ys => ys
  | true, ys => pairI 0 ys
abbrev Gk := Option (Nat × Bool)
def gk (g : Gk) : Option Nat := g.map (·.1)
def Gd (g : Gk) (xs : List D) (st : S) : Prop := match g with
  | none => True
  | some (k, e) => ∃ ys, itemsAt st k = some ys ∧ xs = tkn e ys
theorem gd_lt {g : Gk} {xs : List D} {st : S} {k : Nat} (h : Gd g xs st) (e : gk g = some k) : k < st.length := by
  cases g with
  | none => cases e
  | some p =>
    obtain ⟨j, f⟩ := p
    have e : j = k := Option.some.inj e
    subst e
    obtain ⟨ys, h0, _⟩ := h
    apply Classical.byContradiction
    intro z
    unfold itemsAt at h0
    rw [List.getElem?_eq_none (by omega)] at h0
    cases h0
structure ItOk (K : PySem.W.Frag) (φ₀ : List Addr) (H₀ : Hp) (xg : List D × Gk) (J : It) : Prop where
  stop : ∀ {T : Tb} φ H st i, Ext φ₀ φ → Kp H₀ H → RepS K T φ H st → Gd xg.2 xg.1 st → xg.1.length ≤ i → J.stop i H
  go : ∀ {T : Tb} φ H st i, Ext φ₀ φ → Kp H₀ H → RepS K T φ H st → Gd xg.2 xg.1 st → i < xg.1.length → J.go i H
  yld : ∀ {T : Tb} φ H st i v H' x, Ext φ₀ φ → Kp H₀ H → RepS K T φ H st → Gd xg.2 xg.1 st → xg.1[i]? = some x → J.yld i H v H' → Kp H H' ∧ RepS K T φ H' st ∧ RepV K φ H' x v
abbrev DI := Nv → S → Res (List D × Gk)
abbrev tI (K : PySem.W.Frag) (cm : CM) (W : WX) (m : DI) : TI := tG K cm W (ItOk K) m
open Classical in
noncomputable def forL (gd : S → Prop) (p : Pat) (body : DS) : List D → DS
  | [], ρ, st => if gd st then .nx ρ st else .stuck
  | x :: xs, ρ, st => if gd st then (match setP p x ρ with
    | none => .stuck
    | some ρ' => match body ρ' st with
      | .nx ρ st => forL gd p body xs ρ st
      | .ct ρ st => forL gd p body xs ρ st
      | .bk ρ st => .nx ρ st
      | o => o) else .stuck
noncomputable def sFor (mi : DI) (p : Pat) (body : DS) : DS := fun ρ st => (mi ρ st).out ρ fun xg st => forL (Gd xg.2 xg.1) p body xg.1 ρ st
section
variable {X : Cx} {cm : CM} {W : WX} {tg it : Expr} {body : List Stmt} {mi : DI} {mb : DS} {p : Pat} {pos : Pos}
theorem rS_for (hp : PassesOwn (model X.prog X.w) X.A X.env X.xe) (hc : X.calm = true) (hi : PI X tg it (tI X.K cm W mi)) (hg : JG X tg p) (hb : PSs X body (tS X.K cm W mb)) (hs : ∀ x, foldedSetIterable it X.env x = pure x := by intro _; rfl) :
    PS X (.For tg it body [] pos) (tS X.K cm W (sFor mi p mb)) := by
  refine conv_S (ps_for hp hc hi hg hb hs) fun E σ H h => ?_
  obtain ⟨φ, ρ, st, hd, h⟩ := h
  refine AtS.bind hd h fun xg st1 φ1 H1 J e1 k1 hd1 r1 h1 => ?_
  obtain ⟨xs, gu⟩ := xg
  refine ⟨fun i m σ' H' => m = xs.length - i ∧ i ≤ xs.length ∧ ∃ φ' ρ' st', Ext φ1 φ' ∧ Kp H1 H' ∧ Hd X.K cm.T φ' H' σ' ρ' st' ∧ AtS X.K cm W E φ' H' (forL (Gd gu xs) p mb (xs.drop i) ρ' st'),
    ⟨xs.length, by simp, Nat.zero_le _, φ1, ρ, st1, Ext.refl _, Kp.refl _, hd1, h1⟩, ?_⟩
  rintro i n σ2 H2 ⟨rfl, hi, φ2, ρ2, st2, e2, k2, hd2, h2⟩
  by_cases hlt : i < xs.length
  · rw [List.drop_eq_getElem_cons hlt] at h2
    unfold forL at h2
    split at h2
    · rename_i gd
      refine .inr ⟨r1.go φ2 H2 st2 i e2 k2 hd2.s gd hlt, fun σ' H' => i + 1 ≤ xs.length ∧ ∃ φ' ρ' st', Ext φ1 φ' ∧ Kp H1 H' ∧ Hd X.K cm.T φ' H' σ' ρ' st' ∧ AtS X.K cm W E φ' H' (forL (Gd gu xs) p mb (xs.drop (i + 1)) ρ' st'),
        fun σ' H' ⟨l', q'⟩ => ⟨xs.length - (i + 1), by omega, rfl, l', q'⟩, fun v H3 y => ?_⟩
      obtain ⟨k3, s3, r3⟩ := r1.yld φ2 H2 st2 i v H3 xs[i] e2 k2 hd2.s gd (by simp [hlt]) y
      cases e4 : setP p xs[i] ρ2 with
      | none =>
        rw [e4] at h2
        exact h2.elim
      | some ρ3 =>
        rw [e4] at h2
        dsimp only at h2
        refine gOf_ok p φ2 H3 σ2 ρ2 st2 xs[i] v ρ3 _ (hd2.mono (Ext.refl _) k3 s3) r3 e4 fun σ3 _ hd3 => ?_
        refine ⟨φ2, ρ3, st2, hd3, ?_⟩
        have h3 := AtS.mono (Ext.refl _) k3 h2
        cases eo : mb ρ3 st2 with
        | nx ρ5 st5 =>
          rw [eo] at h3
          exact fun φ6 H6 σ6 e6 k6 hd6 => ⟨hlt, φ6, ρ5, st5, e2.trans e6, (k2.trans k3).trans k6, hd6, AtS.mono e6 k6 h3⟩
        | ct ρ5 st5 =>
          rw [eo] at h3
          exact fun φ6 H6 σ6 e6 k6 hd6 => ⟨hlt, φ6, ρ5, st5, e2.trans e6, (k2.trans k3).trans k6, hd6, AtS.mono e6 k6 h3⟩
        | bk ρ5 st5 => rw [eo] at h3; exact h3
        | rt v5 st5 => rw [eo] at h3; exact h3
        | exc c w ρ5 st5 => rw [eo] at h3; exact h3
        | stuck => rw [eo] at h3; exact h3
    · exact h2.elim
  · have hi' : i = xs.length := by omega
    subst hi'
    rw [List.drop_length] at h2
    unfold forL at h2
    split at h2
    · rename_i gd
      exact .inl ⟨r1.stop φ2 H2 st2 _ e2 k2 hd2.s gd (Nat.le_refl _), h2.next hd2⟩
    · exact h2.elim
end
end Rol

namespace Rol
open PySem L2 PySem.Spec
open PyProof.Rows hiding St

/-- as FnOk, called where no display of an object is under way -/
structure FnG (P : Program) (w : World) (K : PySem.W.Frag) (mg : Str → Option Value) (base : Heap) (k : Nat) (f : Addr) (fd : FuncData) (ps : List Str) (sp : Sp) : Prop where
  ar : ∀ vs H Q E, sp vs H Q E → vs.length = ps.length
  go : ∀ (A : Around) (fr : List PySem.Env) (s : Shared) (H : Hp) (ag : Args) (us : List Value) (vs : List V) (Q : VK) (E : XK), A.guards = some [] → Room k A → Env0 P w K mg base A fr s H →
    BindsTo s fd ag (ps.zip us) → Vals vs us → sp vs H Q E → codeAny (model P w) A (.call (.ref f) ag) (CR (L2.CX P w) fr P w H s Q E) s
theorem FnG.mono {P : Program} {w : World} {K : PySem.W.Frag} {mg : Str → Option Value} {base : Heap} {j k : Nat} {f : Addr} {fd : FuncData} {ps : List Str} {sp : Sp} (F : FnG P w K mg base j f fd ps sp) (h : j ≤ k) : FnG P w K mg base k f fd ps sp :=
  ⟨F.ar, fun A fr s H ag us vs Q E hg hr => F.go A fr s H ag us vs Q E hg (hr.mono h)⟩

theorem fnG_of {P : Program} {w : World} {K : PySem.W.Frag} {mg : Str → Option Value} {base : Heap} {k : Nat} {f : Addr} {x qual : Str} {st : Stmt} {fd : FuncData} {N ps : List Str} {sp : Sp} (F : Fun K x qual st f fd) (Sc : FnScope N ps (defScope st))
    (ar : ∀ vs H Q E, sp vs H Q E → vs.length = ps.length)
    (body : ∀ (cdv : Value) (A : Around) (fr : List PySem.Env) (s : Shared) (H : Hp) (vs : List V) (Q : VK) (E : XK), A.guards = some [] → Room k (A.deeper (envOfC qual (defScope st) s.heap.objs.size f cdv)) → sp vs H Q E →
      ∃ t, PSs (cxOf (L2.CX P w) P w K mg base N qual (defScope st) f cdv A fr s H E) (defBody st) t ∧ t { nx := fun _ H' => Q .non H', rt := Q } (L2.start N vs) H) : FnG P w K mg base (k + 1) f fd ps sp := by
  obtain ⟨oc, od, kV, doc, pm, an, cdv, ct, osl, rfl, lk, hcd⟩ := F.ex
  constructor
  · exact ar
  intro A fr s H ag us vs Q E hg room e0 bd rl hsp
  have n1 := ar _ _ _ _ hsp
  have inK : K.In s.heap := e0.mod.kin.keeps (fun b o q => (e0.bs b o q).1)
  have noL : s.heap.NoLimit := e0.mod.nolimit.keeps (fun b o q => (e0.bs b o q).1)
  have kinds : ∀ y ∈ ps.zip us, (defScope st).names.lookup y.1 = some .local ∨ ((defScope st).names.lookup y.1 = some .cell ∧ ((cellsFrom (s.heap.objs.size + 1) (defScope st).names []).lookup y.1).isSome = true) := by
    rintro ⟨nm, v⟩ hy
    cases Sc.par nm (List.of_mem_zip hy).1 with
    | inl q => exact Or.inl q
    | inr q => exact Or.inr ⟨q, PySem.W.cellsFrom_some _ _ _ (Or.inl q)⟩
  apply codeAny_call_function room.depth (inK _ _ lk) rfl Sc.co Sc.gen rfl (PySem.W.codeRec_of inK hcd)
  apply bd
  apply wpAny_newFunctionEnv_cells Sc.kind kinds
  intro env he s1 ic
  subst he
  constructor
  · exact noL.keeps ic.toInCall.keep
  apply codeAny_func
  obtain ⟨t, ht, hq⟩ := body cdv A fr s H vs Q E hg (room.deeper _) hsp
  have J : Inv (cxOf (L2.CX P w) P w K mg base N qual (defScope st) f cdv A fr s H E) [] (L2.start N vs) H s1 := inv_start Sc room.hd e0 n1 rl ic
  apply wpAny_mono (ht.run [] s1 (L2.start N vs) H _ J hq)
  · intro fl s' hs
    cases fl with
    | ret u =>
      obtain ⟨v, σ', H', J', rv, q⟩ := hs
      exact ⟨v, H', J'.os, J'.bare, J'.base, J'.hok, rv, q⟩
    | next =>
      obtain ⟨σ', H', J', q⟩ := hs
      exact ⟨.non, H', J'.os, J'.bare, J'.base, J'.hok, rfl, q⟩
    | brk => obtain ⟨_, _, _, q⟩ := hs; exact False.elim q
    | cont => obtain ⟨_, _, _, q⟩ := hs; exact False.elim q
  · intro e s' q
    exact q

section
variable {X : Cx} {k : Nat} {f : Addr} {fd : FuncData} {ps ks : List Str} {sp : Sp} {W : WX} {x : Str} {p pos : Pos} {e : Expr} {es : List Expr} {kws : List Keyword} {t tk : TA}
theorem FnG.at (F : FnG X.prog X.w X.K X.mg X.base k f fd ps sp) (hg : X.A.guards = some []) (hr : Room k X.A) (tk : Takes X W) {pins : List (Addr × Obj)} {σ : L2.St} {H : Hp} {s : Shared} {Q : VK} {ag : List Value} {kw : List (Str × Value)} {us : List Value} {vs : List V}
    (hb : us.length = ps.length → BindsTo s fd ⟨ag, kw⟩ (ps.zip us)) (I : Inv X pins σ H s) (rl : Vals vs us) (h : sp vs H Q (WE W σ)) : wpAny (model X.prog X.w) X.A (call (.ref f) ag kw) (EP X pins σ Q) X.xe s := by
  have n1 : us.length = ps.length := rl.length.symm.trans (F.ar _ _ _ _ h)
  apply wpAny_call
  apply codeAny_mono (F.go X.A X.stack s H ⟨ag, kw⟩ us vs Q (WE W σ) hg hr I.env0 (hb n1) rl h)
  intro r s' hq
  cases r with
  | error e => exact passAt tk σ pins H s e s' I hq
  | ok fl =>
    cases fl with
    | ret u => exact I.after hq
    | _ => exact False.elim hq
theorem pe_callG (F : FnG X.prog X.w X.K X.mg X.base k f fd ps sp) (hG : X.A.guards = some []) (hr : Room k X.A) (hm : X.mg x = some (.ref f)) (hk : PySem.W.keepIn X.K (.ref f) = true) (hb : Binds X.K fd ps []) (tk : Takes X W) (ha : PA X (e :: es) t) (hg : Gl X x) (hdb : (x == ("__debug__" : Str)) = false)
    (he : starEach (e :: es) X.env = (false, eval e X.env) :: starEach es X.env) (hpl : (backTo pos (starEach es X.env)).any (·.1) = false) : PE X (.Call (.Name x p) (e :: es) [] pos) (tCallS sp (WE W) t) := by
  constructor
  intro pins s σ H Q I h
  apply wpAny_Call_Name_kw
  apply ld_glob I hg hm _ hdb
  apply PySem.W.callWith_K (h₀ := X.base) I.ok.mod.kin hk _ he hpl
  apply thn (ha.run pos pins s σ H _ I h)
  rintro us s1 ⟨vs, H1, I1, r, q⟩
  refine ⟨I1.kIn, F.at hG hr tk (kw := []) (fun hl => ?_) I1 r q⟩
  have b := hb s1 us I1.kIn (by rw [List.append_nil]; exact hl)
  rw [List.append_nil] at b
  exact b
variable {g : List Value → List Value → List Value} {gV : List V → List V → List V}
end

abbrev Fn := List D → S → Res D
def spD (K : PySem.W.Frag) (cm : CM) (n : Nat) (m : Fn) : Sp := fun vs H Q E => vs.length = n ∧ ∃ φ xs st, RepS K cm.T φ H st ∧ RepL K φ H xs vs ∧ AtG K cm (fun c d _ H => E c d H) (RV K) φ H [] Q (m xs st)
/-- a body run at its parameters -/
def body (n : Nat) (m : DS) : Fn := fun xs st => match m (xs.map some ++ List.replicate (n - xs.length) none) st with
  | .nx _ st => .ok .non st
  | .rt v st => .ok v st
  | .exc c w _ st => .exc c w st
  | _ => .stuck
theorem RepE.start {K : PySem.W.Frag} {φ : List Addr} {H : Hp} {N : List Str} {xs : List D} {vs : List V} (r : RepL K φ H xs vs) : RepE K φ H (xs.map some ++ List.replicate (N.length - xs.length) none) (L2.start N vs) := by
  have hl := r.length
  refine ⟨by unfold L2.start; simp [hl], fun i d q => ?_⟩
  by_cases hi : i < xs.length
  · rw [List.getElem?_append_left (by simpa using hi)] at q
    rw [List.getElem?_map] at q
    cases e : xs[i]? with
    | none =>
      rw [e] at q
      cases q
    | some d' =>
      rw [e] at q
      cases q
      obtain ⟨v, h1, h2⟩ := r.get e
      refine ⟨v, ?_, h2⟩
      unfold L2.start
      rw [List.getElem?_append_left (by simp; omega), List.getElem?_map, h1]
      rfl
  · rw [List.getElem?_append_right (by simpa using hi)] at q
    rw [List.getElem?_replicate] at q
    split at q
    · cases q
    · cases q

/-- THE RULE: a def keeps the promise of its body's function -/
theorem fn_D {P : Program} {w : World} {K : PySem.W.Frag} {mg : Str → Option Value} {base : Heap} {k : Nat} {f : Addr} {x qual : Str} {st : Stmt} {fd : FuncData} {N ps : List Str} {cm : CM} {m : DS} (F : Fun K x qual st f fd) (Sc : FnScope N ps (defScope st))
    (h : ∀ (cdv : Value) (A : Around) (fr : List PySem.Env) (s : Shared) (H : Hp) (E : XK), A.guards = some [] → Room k (A.deeper (envOfC qual (defScope st) s.heap.objs.size f cdv)) →
      Takes (cxOf (L2.CX P w) P w K mg base N qual (defScope st) f cdv A fr s H E) (fun c d _ H => E c d H) →
      PassesOwn (model P w) (A.deeper (envOfC qual (defScope st) s.heap.objs.size f cdv)) (envOfC qual (defScope st) s.heap.objs.size f cdv) (cxOf (L2.CX P w) P w K mg base N qual (defScope st) f cdv A fr s H E).xe →
      PSs (cxOf (L2.CX P w) P w K mg base N qual (defScope st) f cdv A fr s H E) (defBody st) (tS K cm (fun c d _ H => E c d H) m)) : FnG P w K mg base (k + 1) f fd ps (spD K cm ps.length (body N.length m)) := by
  refine fnG_of F Sc (fun vs H Q E h => h.1) fun cdv A fr s H vs Q E hg hr hsp => ?_
  obtain ⟨hl, φ, xs, st0, rs, rl, q⟩ := hsp
  refine ⟨_, h cdv A fr s H E hg hr (takes_of rfl rfl rfl rfl) (passes_of (X := cxOf (L2.CX P w) P w K mg base N qual (defScope st) f cdv A fr s H E) (E₁ := fun e' s'' => L2.CX P w fr H s E e' s'') (K := fun e s'' => L2.CX P w fr H s E e s'') rfl), ?_⟩
  refine ⟨φ, _, st0, ⟨rs, RepE.start rl⟩, ?_⟩
  unfold body at q
  revert q
  generalize m (xs.map some ++ List.replicate (N.length - xs.length) none) st0 = o
  intro q
  cases o with
  | nx ρ st => exact fun φ' H' σ' e' k' hd' => q φ' H' .non e' k' hd'.s .non
  | rt v st => exact q
  | exc c w ρ st => exact fun φ' H' σ' d w' e' k' hd' r' hx => q φ' H' d w' e' k' hd'.s r' hx
  | bk ρ st => exact q.elim
  | ct ρ st => exact q.elim
  | stuck => exact q.elim

def eFn (m : Fn) (l : DA) : DE := fun ρ st => (l ρ st).bind m
section
variable {X : Cx} {cm : CM} {W : WX} {k : Nat} {f : Addr} {fd : FuncData} {ps ks : List Str} {x : Str} {p pos : Pos} {e : Expr} {es : List Expr} {kws : List Keyword} {ml mk : DA} {n : Nat} {m : Fn} {me : DE}
theorem spD_of {φ : List Addr} {H : Hp} {σ : L2.St} {st : S} {xs : List D} {vs : List V} {Q : VK} (s : RepS X.K cm.T φ H st) (r : RepL X.K φ H xs vs) (hn : vs.length = n) (h : AtG X.K cm W (RV X.K) φ H σ Q (m xs st)) : spD X.K cm n m vs H Q (WE W σ) := by
  refine ⟨hn, φ, xs, st, s, r, ?_⟩
  cases e : m xs st with
  | ok v st' => rw [e] at h; exact h
  | exc c w st' => rw [e] at h; exact h
  | stuck => rw [e] at h; exact h
theorem rE_fn (F : FnG X.prog X.w X.K X.mg X.base k f fd ps (spD X.K cm (es.length + 1) m)) (hG : X.A.guards = some []) (hr : Room k X.A) (hm : X.mg x = some (.ref f)) (hk : PySem.W.keepIn X.K (.ref f) = true) (hb : Binds X.K fd ps []) (tk : Takes X W) (ha : PA X (e :: es) (tA X.K cm W ml))
    (hlen : ∀ ρ st xs st', ml ρ st = .ok xs st' → xs.length = es.length + 1) (hg : Gl X x := by rfl) (hdb : (x == ("__debug__" : Str)) = false := by decide)
    (he : starEach (e :: es) X.env = (false, eval e X.env) :: starEach es X.env := by rfl) (hpl : (backTo pos (starEach es X.env)).any (·.1) = false := by rfl) : PE X (.Call (.Name x p) (e :: es) [] pos) (tE X.K cm W (eFn m ml)) := by
  refine conv_E (pe_callG F hG hr hm hk hb tk ha hg hdb he hpl) fun σ H Q h => ?_
  obtain ⟨φ, ρ, st, hd, h⟩ := h
  have h0 : ∀ r, ml ρ st = r → tG X.K cm W (RL X.K) ml σ H (fun vs H1 => spD X.K cm (es.length + 1) m vs H1 Q (WE W σ)) := fun r er => by
    refine ⟨φ, ρ, st, hd, ?_⟩
    unfold eFn at h
    rw [er] at h ⊢
    cases r with
    | ok xs st1 =>
      have n1 := hlen ρ st xs st1 er
      exact fun φ2 H2 vs e2 k2 s2 r2 => spD_of s2 r2 (by rw [← r2.length]; exact n1) (AtG.mono e2 k2 h)
    | exc c w st1 => exact h
    | stuck => exact h
  exact h0 _ rfl
theorem conv_K {X : Cx} {e : List Keyword} {t t' : TA} (h : PK X e t) (c : ∀ σ H Q, t' σ H Q → t σ H Q) : PK X e t' := ⟨fun ps pins s σ H Q I q => h.run ps pins s σ H Q I (c σ H Q q)⟩
theorem rK_nil : PK X [] (tA X.K cm W aNil) := by
  refine conv_K pk_nil fun σ H Q h => ?_
  obtain ⟨φ, ρ, st, hd, h⟩ := h
  exact AtG.here h hd.s .nil
theorem rK_cons {nm : Option Str} {kpos : Pos} (h1 : PE X e (tE X.K cm W me)) (h2 : PK X kws (tA X.K cm W mk)) : PK X (⟨nm, e, kpos⟩ :: kws) (tA X.K cm W (aCons me mk)) := by
  refine conv_K (pk_cons h1 h2) fun σ H Q h => ?_
  obtain ⟨φ, ρ, st, hd, h⟩ := h
  refine tG_bind hd h fun x st1 φ1 H1 v e1 k1 hd1 r1 h1 => ?_
  refine tG_bind hd1 h1 fun xs st2 φ2 H2 vs e2 k2 hd2 r2 h2 => ?_
  exact AtG.here h2 hd2.s (.cons (r1.mono e2 k2) r2)
end

end Rol

namespace Rol
open PySem L2 PySem.Spec

def optAll {α β : Type} (f : α → Option β) : List α → Option (List β)
  | [] => some []
  | x :: xs => match f x, optAll f xs with
    | some a, some b => some (a :: b)
    | _, _ => none
def scalP : D → Option PyData
  | .non => some .none
  | .bl b => some (.bool b)
  | .int i => some (.int i)
  | .str x => some (.str x)
  | _ => none
def toP (st : S) : Nat → D → Option PyData
  | 0, d => scalP d
  | n + 1, .tup xs => (optAll (toP st n) xs).map .tuple
  | n + 1, .loc k => match itemsAt st k with
    | some xs => (optAll (toP st n) xs).map .list
    | none => none
  | _ + 1, d => scalP d
section
variable {K : PySem.W.Frag} {φ : List Addr} {H : Hp} {st : S}
theorem scalP_dp {x : D} {v : V} {d : PyData} (r : RepV K φ H x v) (h : scalP x = some d) : Dp K H v d := by
  cases r with
  | non => cases h; exact .non
  | bl b => cases h; exact .bl b
  | int i => cases h; exact .int i
  | str x => cases h; exact .str x
  | tup _ _ => cases h
  | loc _ => cases h
  | opq _ => cases h
theorem optAll_dp {f : D → Option PyData} (ih : ∀ (x : D) (v : V) (d : PyData), RepV K φ H x v → f x = some d → Dp K H v d) : ∀ {xs : List D} {vs : List V} {ds : List PyData}, RepL K φ H xs vs → optAll f xs = some ds → DpAll K H vs ds
  | _, _, ds, .nil, h => by
    cases h
    exact .nil
  | _, _, ds, .cons r t, h => by
    rename_i x xs v vs
    unfold optAll at h
    cases e1 : f x with
    | none => rw [e1] at h; cases h
    | some a =>
      cases e2 : optAll f xs with
      | none => rw [e1, e2] at h; cases h
      | some b =>
        rw [e1, e2] at h
        cases h
        exact .cons (ih _ _ _ r e1) (optAll_dp ih t e2)
theorem RepS.seqL (R : RepS K Tq φ H st) {k : Nat} {a : Addr} {xs : List D} (h : φ[k]? = some a) (e : itemsAt st k = some xs) : ∃ vs, SqL K H a vs ∧ RepL K φ H xs vs := by
  unfold itemsAt at e
  cases q : st[k]? with
  | none => rw [q] at e; cases e
  | some o =>
    rw [q] at e
    cases o with
    | lst ys =>
      cases e
      obtain ⟨vs, h1, h2⟩ := R.obj k a _ h q
      exact ⟨vs, SqL.of h1, h2⟩
    | src ys =>
      cases e
      obtain ⟨vs, h1, h2⟩ := R.obj k a _ h q
      rcases h1 with ⟨o, h1⟩ | h1
      · exact ⟨vs, .inl (.inr ⟨o, h1⟩), h2⟩
      · exact ⟨vs, h1 H, h2⟩
    | dk _ => cases e
    | dx _ => cases e
    | fx _ => cases e
theorem toP_dp (R : RepS K Tq φ H st) : ∀ (n : Nat) (x : D) (v : V) (d : PyData), RepV K φ H x v → toP st n x = some d → Dp K H v d
  | 0, x, v, d, r, h => scalP_dp r h
  | n + 1, x, v, d, r, h => by
    cases r with
    | tup s r2 =>
      unfold toP at h
      rename_i a xs vs
      cases e : optAll (toP st n) xs with
      | none => rw [e] at h; cases h
      | some ds =>
        rw [e] at h
        cases h
        exact .tup s (optAll_dp (toP_dp R n) r2 e)
    | loc h1 =>
      unfold toP at h
      rename_i k a
      cases e : itemsAt st k with
      | none => rw [e] at h; cases h
      | some xs =>
        rw [e] at h
        dsimp only at h
        cases e2 : optAll (toP st n) xs with
        | none => rw [e2] at h; cases h
        | some ds =>
          rw [e2] at h
          cases h
          obtain ⟨vs, s, r2⟩ := R.seqL h1 e
          exact .lst s (optAll_dp (toP_dp R n) r2 e2)
    | non => exact scalP_dp (φ := φ) .non h
    | bl b => exact scalP_dp (φ := φ) (.bl b) h
    | int i => exact scalP_dp (φ := φ) (.int i) h
    | str x => exact scalP_dp (φ := φ) (.str x) h
    | opq v => exact scalP_dp (φ := φ) (.opq v) h
end

def i2 (f : Int → Int → D) : D → D → S → Res D
  | .int i, .int j, st => .ok (f i j) st
  | _, _, _ => .stuck
def i2c (c : Int → Int → Bool) (f : Int → Int → D) : D → D → S → Res D
  | .int i, .int j, st => if c i j = true then .ok (f i j) st else .stuck
  | _, _, _ => .stuck
def ofI (f : Int → Int → V) (g : Int → Int → D) : Prop := ∀ (K : PySem.W.Frag) φ H i j, RepV K φ H (g i j) (f i j)
theorem od_i2 {K : PySem.W.Frag} {f : Int → Int → V} {g : Int → Int → D} (fg : ofI f g) : OpD K (rI0 f) (i2 g) := by
  intro cm W φ H σ st x y v w Q rs rx ry h
  cases rx <;> cases ry <;> first | exact False.elim h | skip
  exact ⟨_, _, rfl, rfl, AtG.here h rs (fg K φ H _ _)⟩
theorem od_i2c {K : PySem.W.Frag} {C : Int → Int → Prop} {c : Int → Int → Bool} {f : Int → Int → V} {g : Int → Int → D} (fg : ofI f g) (hc : ∀ i j, c i j = true → C i j) : OpD K (rI C f) (i2c c g) := by
  intro cm W φ H σ st x y v w Q rs rx ry h
  cases rx <;> cases ry <;> first | exact False.elim h | skip
  dsimp only [i2c] at h
  split at h
  · rename_i hh
    exact ⟨_, _, rfl, rfl, hc _ _ hh, AtG.here h rs (fg K φ H _ _)⟩
  · exact h.elim
def dAdd : D → D → S → Res D
  | .int i, .int j, st => .ok (.int (i + j)) st
  | .tup xs, .tup ys, st => if xs.length + ys.length ≤ sizeLine then .ok (.tup (xs ++ ys)) st else .stuck
  | .str a, .str b, st => if a.length + b.length ≤ sizeLine then .ok (.str (a ++ b)) st else .stuck
  | .loc i, .loc j, st => match st[i]?, st[j]? with
    | some (.lst xs), some (.lst ys) => if xs.length + ys.length ≤ sizeLine then .ok (.loc st.length) (st ++ [.lst (xs ++ ys)]) else .stuck
    | _, _ => .stuck
  | _, _, _ => .stuck
def rAddA (K : PySem.W.Frag) : L2.R2 := fun x y H Q => rI0 (fun i j => .int (i + j)) x y H Q ∨ rCatA K x y H Q ∨ (∃ i j, x = .str i ∧ y = .str j ∧ i.length + j.length ≤ sizeLine ∧ Q (.str (i ++ j)) H) ∨ rCat x y H Q
theorem op_addA {X : Cx} : OpR X (binaryOp .Add) (rAddA X.K) := op_add.or (op_catA.or (op_add_str.or op_cat))
theorem od_add {K : PySem.W.Frag} : OpD K (rAddA K) dAdd := by
  intro cm W φ H σ st x y v w Q rs rx ry h
  cases rx <;> cases ry <;> first | exact False.elim h | skip
  · exact .inl ⟨_, _, rfl, rfl, AtG.here h rs (.int _)⟩
  · exact .inr (.inr (.inl (by
      dsimp only [dAdd] at h
      split at h
      · rename_i hl
        exact ⟨_, _, rfl, rfl, hl, AtG.here h rs (.str _)⟩
      · exact h.elim)))
  · rename_i a xs vs s1 r1 b ys ws s2 r2
    refine .inr (.inl ?_)
    dsimp only [dAdd] at h
    split at h
    · rename_i hl
      refine ⟨a, b, vs, ws, rfl, rfl, s1, s2, by rw [← r1.length, ← r2.length]; exact hl, fun e => ?_, fun _ e => ?_, fun _ _ p hp => ?_⟩
      · subst e
        cases r1
        exact AtG.here h rs (.tup s2 r2)
      · subst e
        cases r2
        rw [List.append_nil] at h
        exact AtG.here h rs (.tup s1 r1)
      · have k := Kp.new (o := .tup (vs ++ ws)) hp
        exact h φ _ _ (Ext.refl _) k (rs.beside hp) (.tup (SqT.of upd_same) ((r1.append r2).mono (Ext.refl _) k))
    · exact h.elim
  · rename_i i a h1 j b h2
    refine .inr (.inr (.inr ?_))
    dsimp only [dAdd] at h
    split at h
    · rename_i xs ys e1 e2
      split at h
      · rename_i hl
        obtain ⟨vs, g1, g2⟩ := rs.obj i a _ h1 e1
        obtain ⟨ws, g3, g4⟩ := rs.obj j b _ h2 e2
        refine ⟨a, b, vs, ws, rfl, rfl, g1, g3, by rw [← g2.length, ← g4.length]; exact hl, fun p hp => ?_⟩
        refine h (φ ++ [p]) _ _ (Ext.one _ _) (Kp.new hp) (rs.alloc hp (g2.append g4)) (.loc ?_)
        rw [← rs.len, List.getElem?_append_right (Nat.le_refl _), Nat.sub_self]
        rfl
      · exact h.elim
    · exact h.elim

def cMul (i j : Int) : Bool := (decide (-(2 ^ 64) < i) && decide (i < 2 ^ 64)) || (decide (-(2 ^ 64) < j) && decide (j < 2 ^ 64)) || decide (i.natAbs.log2 + j.natAbs.log2 < 1000000)
def dMul : D → D → S → Res D
  | .int i, .int j, st => if cMul i j = true then .ok (.int (i * j)) st else .stuck
  | .tup xs, .int k, st => if k = 1 then .ok (.tup xs) st else if xs.isEmpty = false ∧ 2 ≤ k ∧ k ≤ 1000 ∧ xs.length ≤ 1000 then .ok (.tup (List.replicate k.toNat xs).flatten) st else .stuck
  | .str x, .int k, st => if 2 ≤ k ∧ 1 ≤ x.length ∧ x.length * k.toNat ≤ 1000000 then .ok (.str ⟨(List.replicate k.toNat x.cps).foldl (· ++ ·) #[]⟩) st else .stuck
  | .loc i, .int k, st => match st[i]? with
    | some (.lst xs) => if -(2 ^ 63) ≤ k ∧ k < 2 ^ 63 ∧ xs.length * k.toNat ≤ sizeLine then .ok (.loc st.length) (st ++ [.lst (List.replicate k.toNat xs).flatten]) else .stuck
    | _ => .stuck
  | _, _, _ => .stuck
theorem tuple_mul1 (l : Addr) (items : Array Value) (n : Nat) (dd : Option Addr) (sl : Array (Option Value)) (u : Tok) :
    Meets (Builtin.«tuple.__mul__» ⟨[.ref l, .int 1 u], []⟩) (fun _ R s => s.heap.get? l = some { cls := .type "tuple", dict := dd, data := .seq items n, slots := sl } ∧ R (.ok (.ret (Value.ref l))) s) :=
  .of_wp fun prog w A R s h => by
    obtain ⟨hp, g, d, tk, os⟩ := s
    obtain ⟨hl, h⟩ := h
    have f1 := AutoSeq1.idx_int
    have c1 : (items.isEmpty || ((1 : Int) == 1)) = true := by simp
    wp_walk using wpAny_loadPart' hl
    repeat (first
      | (refine wpAny_ite_true (decide_eq_true c1) ?_; wp_walk using wpAny_loadPart' hl)
      | (refine wpAny_ite_true (by simp) ?_; wp_walk using wpAny_loadPart' hl)
      | (refine wpAny_ite_false (by simp) ?_; wp_walk using wpAny_loadPart' hl))
    all_goals first | exact ⟨_, rfl, h⟩ | exact h
end Rol

namespace Rol
open PySem L2 PySem.Spec
open PyProof.Rows hiding St

section
variable {X : Cx}
theorem op_repT1 : OpR X (binaryOp .Mult) (fun x y H Q => ∃ l xs, x = .ref l ∧ y = .int 1 ∧ SqT X.K H l xs ∧ Q (.ref l) H) := by
  intro pins s σ H x y v u Q I rx ry h
  obtain ⟨l, xs, rfl, rfl, hT, q⟩ := h
  cases rx
  obtain ⟨t, rfl⟩ := ry
  obtain ⟨its, r, ⟨⟨cls, dd, data, sl⟩, ho, hc, n, hd⟩, hs⟩ := I.tuple hT
  simp only at hc hd
  subst hc hd
  refine wpAny_binaryOp_repeat_ref (T := "tuple") (U := "int") (by decide) ⟨_, ho, rfl⟩ (fun s' => typeIs_int s' 1 t) noFill_tuple_mul PySem.F.fills_int_mul PySem.F.slot_int_rmul repeat_tuple PySem.F.slot_int_index.lookup ?_
  refine call_meets PySem.F.slot_int_rmul (typeIs_int s 1 t) PySem.F.entry_int_rmul (PySem.F.args_int_rmul_2 _ _) (int_rmul_tuple 1 t l its.toArray n dd sl) ⟨ho, rfl, ⟨_, ho, rfl⟩, ?_⟩
  exact call_meets PySem.F.slot_tuple_mul ⟨_, ho, rfl⟩ PySem.F.entry_tuple_mul (PySem.F.args_tuple_mul_2 _ _) (tuple_mul1 l its.toArray n dd sl t) ⟨ho, .ref l, H, I, rfl, q⟩
theorem op_mulS : OpR X (binaryOp .Mult) (fun x y H Q => ∃ z k, x = .str z ∧ y = .int k ∧ 2 ≤ k ∧ 1 ≤ z.length ∧ z.length * k.toNat ≤ 1000000 ∧ Q (.str ⟨(List.replicate k.toNat z.cps).foldl (· ++ ·) #[]⟩) H) := by
  intro pins s σ H x y v u Q I rx ry h
  obtain ⟨z, k, rfl, rfl, h1, h2, h3, q⟩ := h
  obtain ⟨t, rfl⟩ := rx
  obtain ⟨t', rfl⟩ := ry
  have hk : k.toNat ≤ 1000000 := Nat.le_trans (Nat.le_mul_of_pos_left _ h2) h3
  have hz : z.length ≤ 1000000 := Nat.le_trans (Nat.le_mul_of_pos_right _ (by omega)) h3
  have e1 : (decide (k < -(2 ^ 63 : Int)) || decide (k ≥ 2 ^ 63)) = false := by
    rw [decide_eq_false (by omega), decide_eq_false (by omega)]
    rfl
  have e2 : ¬ k < 1 := by omega
  have e3 : (k == 1 || z.length == 0) = false := by
    have a1 : (k == 1) = false := by
      rw [beq_eq_false_iff_ne]
      omega
    have a2 : (z.length == 0) = false := by
      rw [beq_eq_false_iff_ne]
      omega
    rw [a1, a2]
    rfl
  have hl : ((List.replicate k.toNat z.cps).foldl (· ++ ·) #[]).size = k.toNat * z.length := by
    have : ∀ (n : Nat) (acc : Array Nat), ((List.replicate n z.cps).foldl (· ++ ·) acc).size = acc.size + n * z.length := by
      intro n
      induction n with
      | zero => intro acc; simp
      | succ n ih =>
        intro acc
        rw [List.replicate_succ, List.foldl_cons, ih, Array.size_append, Nat.succ_mul]
        have : z.cps.size = z.length := rfl
        omega
    rw [this]
    simp
  have lim : (sizeLine : Nat) = 16777216 := sizeLine_eq
  refine PySem.P.mul_str e1 (fun _ _ => ?_) (fun _ _ => ?_) ?_
  · have hp : ((z.length : Nat) : Int) * k ≤ 2 ^ 63 - 1 := by
      have a1 : ((z.length * k.toNat : Nat) : Int) ≤ ((1000000 : Nat) : Int) := Int.ofNat_le.mpr h3
      have a2 : ((k.toNat : Nat) : Int) = k := Int.toNat_of_nonneg (by omega)
      rw [Int.natCast_mul, a2] at a1
      omega
    have := Int.le_ediv_of_mul_le (show (0 : Int) < k by omega) hp
    omega
  · unfold Builtin.Str.tooLong
    exact decide_eq_false (by omega)
  · rw [if_neg e2, if_neg (by rw [e3]; exact Bool.false_ne_true)]
    refine ⟨?_, ?_⟩
    · show ((List.replicate k.toNat z.cps).foldl (· ++ ·) #[]).size ≤ sizeLine
      rw [hl, lim, Nat.mul_comm]
      omega
    · exact ⟨.str _, H, I.tok _, ⟨_, rfl⟩, q⟩
end
def rMulA (K : PySem.W.Frag) : L2.R2 := fun x y H Q => rI CMul (fun i j => .int (i * j)) x y H Q ∨ rI CMulW (fun i j => .int (i * j)) x y H Q ∨ rRepT K x y H Q ∨ (∃ l xs, x = .ref l ∧ y = .int 1 ∧ SqT K H l xs ∧ Q (.ref l) H) ∨
  (∃ z k, x = .str z ∧ y = .int k ∧ 2 ≤ k ∧ 1 ≤ z.length ∧ z.length * k.toNat ≤ 1000000 ∧ Q (.str ⟨(List.replicate k.toNat z.cps).foldl (· ++ ·) #[]⟩) H) ∨ rRep x y H Q
theorem op_mulA {X : Cx} : OpR X (binaryOp .Mult) (rMulA X.K) := op_mul.or (op_mulW.or (op_repT.or (op_repT1.or (op_mulS.or op_rep))))
theorem od_mul {K : PySem.W.Frag} : OpD K (rMulA K) dMul := by
  intro cm W φ H σ st x y v w Q rs rx ry h
  cases rx <;> cases ry <;> first | exact False.elim h | skip
  · rename_i i j
    dsimp only [dMul] at h
    split at h
    · rename_i hc
      unfold cMul at hc
      rw [Bool.or_eq_true, Bool.or_eq_true] at hc
      simp only [Bool.and_eq_true, decide_eq_true_eq] at hc
      have hq := AtG.here h rs (RepV.int (i * j))
      rcases hc with (hc | hc) | hc
      · exact .inl ⟨i, j, rfl, rfl, .inl hc, hq⟩
      · exact .inl ⟨i, j, rfl, rfl, .inr hc, hq⟩
      · exact .inr (.inl ⟨i, j, rfl, rfl, hc, hq⟩)
    · exact h.elim
  · rename_i z k
    dsimp only [dMul] at h
    split at h
    · rename_i hc
      exact .inr (.inr (.inr (.inr (.inl ⟨z, k, rfl, rfl, hc.1, hc.2.1, hc.2.2, AtG.here h rs (.str _)⟩))))
    · exact h.elim
  · rename_i a xs vs s1 r1 k
    dsimp only [dMul] at h
    split at h
    · rename_i hk
      subst hk
      exact .inr (.inr (.inr (.inl ⟨a, vs, rfl, rfl, s1, AtG.here h rs (.tup s1 r1)⟩)))
    · split at h
      · rename_i hc
        obtain ⟨c1, c2, c3, c4⟩ := hc
        refine .inr (.inr (.inl ⟨a, k, vs, rfl, rfl, s1, ?_, c2, c3, by rw [← r1.length]; exact c4, fun p hp => ?_⟩))
        · intro e
          subst e
          cases r1
          cases c1
        · have kk := Kp.new (o := .tup (List.replicate k.toNat vs).flatten) hp
          exact h φ _ _ (Ext.refl _) kk (rs.beside hp) (.tup (SqT.of upd_same) ((r1.rep k.toNat).mono (Ext.refl _) kk))
      · exact h.elim
  · rename_i i a h1 k
    dsimp only [dMul] at h
    split at h
    · rename_i xs e1
      split at h
      · rename_i hc
        obtain ⟨vs, g1, g2⟩ := rs.obj i a _ h1 e1
        refine .inr (.inr (.inr (.inr (.inr ⟨a, k, vs, rfl, rfl, g1, hc.1, hc.2.1, by rw [← g2.length]; exact hc.2.2, fun p hp => ?_⟩))))
        refine h (φ ++ [p]) _ _ (Ext.one _ _) (Kp.new hp) (rs.alloc hp (g2.rep k.toNat)) (.loc ?_)
        rw [← rs.len, List.getElem?_append_right (Nat.le_refl _), Nat.sub_self]
        rfl
      · exact h.elim
    · exact h.elim

def dSub := i2 fun i j => .int (i - j)
theorem od_sub {K : PySem.W.Frag} : OpD K (rI0 fun i j => .int (i - j)) dSub := od_i2 fun _ _ _ _ _ => .int _
def dFdiv := i2c (fun _ j => decide (0 < j) && decide (j.natAbs.log2 < 9000)) fun i j => .int (i / j)
theorem od_fdiv {K : PySem.W.Frag} : OpD K (rI CDivW fun i j => .int (i / j)) dFdiv := od_i2c (fun _ _ _ _ _ => .int _) fun i j h => by
  simp only [Bool.and_eq_true, decide_eq_true_eq] at h
  exact h
def dMod := i2c (fun _ j => decide (0 < j)) fun i j => .int (i % j)
theorem od_mod {K : PySem.W.Frag} : OpD K (rI (fun _ j => 0 < j) fun i j => .int (i % j)) dMod := od_i2c (fun _ _ _ _ _ => .int _) fun i j h => of_decide_eq_true h
def dPow := i2c (fun i j => decide (0 ≤ j) && decide (j ≤ 1000000) && decide (i.natAbs < 2 ^ 64)) fun i j => .int (i ^ j.toNat)
theorem od_pow {K : PySem.W.Frag} : OpD K (rI CPow fun i j => .int (i ^ j.toNat)) dPow := od_i2c (fun _ _ _ _ _ => .int _) fun i j h => by
  simp only [Bool.and_eq_true, decide_eq_true_eq] at h
  exact ⟨h.1.1, h.1.2, h.2⟩
def dShl := i2c (fun i j => decide (0 ≤ j) && decide (j ≤ 1000000) && decide (i.natAbs < 2 ^ 64)) fun i j => .int (i * 2 ^ j.toNat)
theorem od_shl {K : PySem.W.Frag} : OpD K (rI CPow fun i j => .int (i * 2 ^ j.toNat)) dShl := od_i2c (fun _ _ _ _ _ => .int _) fun i j h => by
  simp only [Bool.and_eq_true, decide_eq_true_eq] at h
  exact ⟨h.1.1, h.1.2, h.2⟩
def dShr := i2c (fun _ j => decide (0 ≤ j)) fun i j => .int (i / 2 ^ j.toNat)
theorem od_shr {K : PySem.W.Frag} : OpD K (rI (fun _ j => 0 ≤ j) fun i j => .int (i / 2 ^ j.toNat)) dShr := od_i2c (fun _ _ _ _ _ => .int _) fun i j h => of_decide_eq_true h
def dAnd := i2 fun i j => .int (Builtin.bitAnd i j)
theorem od_and {K : PySem.W.Frag} : OpD K (rI0 fun i j => .int (Builtin.bitAnd i j)) dAnd := od_i2 fun _ _ _ _ _ => .int _
def dOr := i2 fun i j => .int (Builtin.bitOr i j)
theorem od_or {K : PySem.W.Frag} : OpD K (rI0 fun i j => .int (Builtin.bitOr i j)) dOr := od_i2 fun _ _ _ _ _ => .int _
def dNeg : D → S → Res D
  | .int i, st => .ok (.int (-i)) st
  | _, _ => .stuck
theorem ud_neg {K : PySem.W.Frag} : UnD K (rU fun i => .int (-i)) dNeg := by
  intro cm W φ H σ st x v Q rs rx h
  cases rx <;> first | exact False.elim h | skip
  exact ⟨_, rfl, AtG.here h rs (.int _)⟩

def dEqD : D → D → S → Res D := fun x y st => match toP st 64 x, toP st 64 y with
  | some d, some e => if SeqAt.shaped d = true ∧ SeqAt.shaped e = true then .ok (.bl (PyData.eqv d e)) st else .stuck
  | _, _ => .stuck
def dNeD : D → D → S → Res D := fun x y st => match toP st 64 x, toP st 64 y with
  | some d, some e => if SeqAt.shaped d = true ∧ SeqAt.shaped e = true then .ok (.bl (!PyData.eqv d e)) st else .stuck
  | _, _ => .stuck
theorem od_eqD {K : PySem.W.Frag} : OpD K (rEqD K) dEqD := by
  intro cm W φ H σ st x y v w Q rs rx ry h
  unfold dEqD at h
  split at h
  · rename_i d e h1 h2
    split at h
    · rename_i hs
      exact ⟨d, e, toP_dp rs _ _ _ _ rx h1, toP_dp rs _ _ _ _ ry h2, hs.1, hs.2, AtG.here h rs (.bl _)⟩
    · exact h.elim
  · exact h.elim
theorem od_neD {K : PySem.W.Frag} : OpD K (rNeD K) dNeD := by
  intro cm W φ H σ st x y v w Q rs rx ry h
  unfold dNeD at h
  split at h
  · rename_i d e h1 h2
    split at h
    · rename_i hs
      exact ⟨d, e, toP_dp rs _ _ _ _ rx h1, toP_dp rs _ _ _ _ ry h2, hs.1, hs.2, AtG.here h rs (.bl _)⟩
    · exact h.elim
  · exact h.elim
/-- texts may hold any signs -/
def dEq : D → D → S → Res D
  | .str a, .str b, st => .ok (.bl (decide (a = b))) st
  | x, y, st => dEqD x y st
def dNe : D → D → S → Res D
  | .str a, .str b, st => .ok (.bl (!decide (a = b))) st
  | x, y, st => dNeD x y st
def rEqA (K : PySem.W.Frag) : L2.R2 := fun x y H Q => rEqD K x y H Q ∨ (∃ a b, x = .str a ∧ y = .str b ∧ Q (.bl (decide (a = b))) H)
def rNeA (K : PySem.W.Frag) : L2.R2 := fun x y H Q => rNeD K x y H Q ∨ (∃ a b, x = .str a ∧ y = .str b ∧ Q (.bl (!decide (a = b))) H)
theorem od_eq {K : PySem.W.Frag} : OpD K (rEqA K) dEq := by
  intro cm W φ H σ st x y v w Q rs rx ry h
  unfold dEq at h
  split at h
  · cases rx; cases ry
    exact .inr ⟨_, _, rfl, rfl, AtG.here h rs (.bl _)⟩
  · exact .inl (od_eqD cm W φ H σ st _ _ v w Q rs rx ry h)
theorem od_ne {K : PySem.W.Frag} : OpD K (rNeA K) dNe := by
  intro cm W φ H σ st x y v w Q rs rx ry h
  unfold dNe at h
  split at h
  · cases rx; cases ry
    exact .inr ⟨_, _, rfl, rfl, AtG.here h rs (.bl _)⟩
  · exact .inl (od_neD cm W φ H σ st _ _ v w Q rs rx ry h)
theorem op_eqA {X : Cx} (hu : X.A.units + 64 < cLine) : OpR X (compareOp .Eq) (rEqA X.K) := by
  intro pins s σ H x y v u Q I rx ry h
  rcases h with h | ⟨a, b, rfl, rfl, q⟩
  · exact op_eqD hu pins s σ H _ _ v u Q I rx ry h
  · refine op_eq pins s σ H _ _ v u Q I rx ry ⟨rfl, ?_⟩
    have e : decide (V.str a = V.str b) = decide (a = b) := decide_eq_decide.mpr ⟨fun e => V.str.inj e, fun e => congrArg V.str e⟩
    rw [e]
    exact q
theorem op_neA {X : Cx} (hu : X.A.units + 64 < cLine) : OpR X (compareOp .NotEq) (rNeA X.K) := by
  intro pins s σ H x y v u Q I rx ry h
  rcases h with h | ⟨a, b, rfl, rfl, q⟩
  · exact op_neD hu pins s σ H _ _ v u Q I rx ry h
  · refine op_ne pins s σ H _ _ v u Q I rx ry ⟨rfl, ?_⟩
    have e : decide (V.str a = V.str b) = decide (a = b) := decide_eq_decide.mpr ⟨fun e => V.str.inj e, fun e => congrArg V.str e⟩
    rw [e]
    exact q
def dNotN : D → D → S → Res D
  | .opq _, _, _ => .stuck
  | .non, .non, st => .ok (.bl false) st
  | _, .non, st => .ok (.bl true) st
  | _, _, _ => .stuck
theorem od_notN {K : PySem.W.Frag} : OpD K (fun x y H Q => y = .non ∧ Q (.bl (!decide (x = .non))) H) dNotN := by
  intro cm W φ H σ st x y v w Q rs rx ry h
  cases rx <;> cases ry <;> first | exact False.elim h | exact ⟨rfl, AtG.here h rs (.bl _)⟩
/-- the ints of a tuple -/
def intsOf : List D → Option (List Int)
  | [] => some []
  | .int i :: xs => (intsOf xs).map (i :: ·)
  | _ :: _ => none
theorem intsOf_rep {K : PySem.W.Frag} {φ : List Addr} {H : Hp} : ∀ {xs : List D} {vs : List V} {ns : List Int}, RepL K φ H xs vs → intsOf xs = some ns → vs = ns.map V.int
  | _, _, _, .nil, h => by
    cases h
    rfl
  | _, _, ns, .cons r t, h => by
    cases r <;> first | (simp [intsOf] at h; done) | skip
    rename_i xs vs i
    simp only [intsOf] at h
    cases e : intsOf xs with
    | none => rw [e] at h; cases h
    | some ms =>
      rw [e] at h
      cases h
      rw [intsOf_rep t e]
      rfl
def cmpD (f : Int → Int → Bool) (g : List Int → List Int → Bool) : D → D → S → Res D
  | .int i, .int j, st => .ok (.bl (f i j)) st
  | .tup xs, .tup ys, st => match intsOf xs, intsOf ys with
    | some ns, some ms => .ok (.bl (g ns ms)) st
    | _, _ => .stuck
  | _, _, _ => .stuck
def dLt := cmpD (fun i j => decide (i < j)) HT.lexLt
def rLtA (K : PySem.W.Frag) : L2.R2 := fun x y H Q => rI0 (fun i j => .bl (decide (i < j))) x y H Q ∨ rLtT K x y H Q
theorem op_ltA {X : Cx} (hu : X.A.units < cLine) : OpR X (compareOp .Lt) (rLtA X.K) := op_lt.or (op_ltT hu)
theorem od_lt {K : PySem.W.Frag} : OpD K (rLtA K) dLt := by
  intro cm W φ H σ st x y v w Q rs rx ry h
  cases rx <;> cases ry <;> first | exact False.elim h | skip
  · exact .inl ⟨_, _, rfl, rfl, AtG.here h rs (.bl _)⟩
  · rename_i a xs vs s1 r1 b ys ws s2 r2
    dsimp only [dLt, cmpD] at h
    split at h
    · rename_i ns ms e1 e2
      have q1 := intsOf_rep r1 e1
      have q2 := intsOf_rep r2 e2
      subst q1 q2
      exact .inr ⟨a, b, ns, ms, rfl, rfl, s1, s2, AtG.here h rs (.bl _)⟩
    · exact h.elim
def dLe := i2 fun i j => .bl (decide (i ≤ j))
def dGt := i2 fun i j => .bl (decide (j < i))
def dGe := i2 fun i j => .bl (decide (j ≤ i))
theorem od_gt {K : PySem.W.Frag} : OpD K (rI0 fun i j => .bl (decide (j < i))) dGt := od_i2 fun _ _ _ _ _ => .bl _
theorem od_ge {K : PySem.W.Frag} : OpD K (rI0 fun i j => .bl (decide (j ≤ i))) dGe := od_i2 fun _ _ _ _ _ => .bl _

section
variable {X : Cx}
theorem op_inT (hu : X.A.units + 65 < cLine) : OpR X (compareOp .In) (fun x y H Q => ∃ d ds, Dp X.K H x d ∧ Dp X.K H y (.tuple ds) ∧ SeqAt.shaped d = true ∧ SeqAt.shaped (.tuple ds) = true ∧ Q (.bl (ds.any fun z => PyData.eqv z d)) H) := by
  intro pins s σ H x y v u Q I rx ry h
  obtain ⟨d, ds, hd, he, sd, se, q⟩ := h
  obtain ⟨as, r1⟩ := hd.reads I d x v rx
  obtain ⟨bs, r2⟩ := he.reads I (.tuple ds) y u ry
  exact SeqAt.in_tuple_reads r2 r1 (SeqAt.canLay_of_shaped se) (SeqAt.canLay_of_shaped sd) (room_in_shaped sd hu) ⟨.bl _, H, I, rfl, q⟩
end
end Rol

namespace Rol
open PySem L2 PySem.Spec
open PyProof.Rows hiding St

section
variable {X : Cx}
theorem op_notInT (hu : X.A.units + 65 < cLine) : OpR X (compareOp .NotIn) (fun x y H Q => ∃ d ds, Dp X.K H x d ∧ Dp X.K H y (.tuple ds) ∧ SeqAt.shaped d = true ∧ SeqAt.shaped (.tuple ds) = true ∧ Q (.bl (!ds.any fun z => PyData.eqv z d)) H) := by
  intro pins s σ H x y v u Q I rx ry h
  obtain ⟨d, ds, hd, he, sd, se, q⟩ := h
  obtain ⟨as, r1⟩ := hd.reads I d x v rx
  obtain ⟨bs, r2⟩ := he.reads I (.tuple ds) y u ry
  exact SeqAt.notIn_tuple_reads r2 r1 (SeqAt.canLay_of_shaped se) (SeqAt.canLay_of_shaped sd) (room_in_shaped sd hu) ⟨.bl _, H, I, rfl, q⟩
end
def dIn (neg : Bool) : D → D → S → Res D := fun x y st => match toP st 64 x, toP st 65 y with
  | some d, some (.list ds) => if SeqAt.shaped d = true ∧ SeqAt.shaped (.list ds) = true then .ok (.bl (if neg = true then !(ds.any fun z => PyData.eqv z d) else ds.any fun z => PyData.eqv z d)) st else .stuck
  | some d, some (.tuple ds) => if SeqAt.shaped d = true ∧ SeqAt.shaped (.tuple ds) = true then .ok (.bl (if neg = true then !(ds.any fun z => PyData.eqv z d) else ds.any fun z => PyData.eqv z d)) st else .stuck
  | _, _ => .stuck
def rInA (K : PySem.W.Frag) : L2.R2 := fun x y H Q => rInD K x y H Q ∨ (∃ d ds, Dp K H x d ∧ Dp K H y (.tuple ds) ∧ SeqAt.shaped d = true ∧ SeqAt.shaped (.tuple ds) = true ∧ Q (.bl (ds.any fun z => PyData.eqv z d)) H)
def rNotInA (K : PySem.W.Frag) : L2.R2 := fun x y H Q => rNotInD K x y H Q ∨ (∃ d ds, Dp K H x d ∧ Dp K H y (.tuple ds) ∧ SeqAt.shaped d = true ∧ SeqAt.shaped (.tuple ds) = true ∧ Q (.bl (!ds.any fun z => PyData.eqv z d)) H)
theorem op_inA {X : Cx} (hu : X.A.units + 65 < cLine) : OpR X (compareOp .In) (rInA X.K) := (op_inD hu).or (op_inT hu)
theorem op_notInA {X : Cx} (hu : X.A.units + 65 < cLine) : OpR X (compareOp .NotIn) (rNotInA X.K) := (op_notInD hu).or (op_notInT hu)
theorem od_in {K : PySem.W.Frag} : OpD K (rInA K) (dIn false) := by
  intro cm W φ H σ st x y v w Q rs rx ry h
  unfold dIn at h
  split at h
  · rename_i d ds h1 h2
    split at h
    · rename_i hs
      exact .inl ⟨d, ds, toP_dp rs _ _ _ _ rx h1, toP_dp rs _ _ _ _ ry h2, hs.1, hs.2, AtG.here h rs (.bl _)⟩
    · exact h.elim
  · rename_i d ds h1 h2
    split at h
    · rename_i hs
      exact .inr ⟨d, ds, toP_dp rs _ _ _ _ rx h1, toP_dp rs _ _ _ _ ry h2, hs.1, hs.2, AtG.here h rs (.bl _)⟩
    · exact h.elim
  · exact h.elim
theorem od_notIn {K : PySem.W.Frag} : OpD K (rNotInA K) (dIn true) := by
  intro cm W φ H σ st x y v w Q rs rx ry h
  unfold dIn at h
  split at h
  · rename_i d ds h1 h2
    split at h
    · rename_i hs
      exact .inl ⟨d, ds, toP_dp rs _ _ _ _ rx h1, toP_dp rs _ _ _ _ ry h2, hs.1, hs.2, AtG.here h rs (.bl _)⟩
    · exact h.elim
  · rename_i d ds h1 h2
    split at h
    · rename_i hs
      exact .inr ⟨d, ds, toP_dp rs _ _ _ _ rx h1, toP_dp rs _ _ _ _ ry h2, hs.1, hs.2, AtG.here h rs (.bl _)⟩
    · exact h.elim
  · exact h.elim

def dIx : D → D → S → Res D
  | .tup xs, .int i, st => match atI xs i with
    | some x => .ok x st
    | none => .stuck
  | .loc k, .int i, st => match itemsAt st k with
    | some xs => (match atI xs i with
      | some x => .ok x st
      | none => .stuck)
    | none => .stuck
  | _, _, _ => .stuck
theorem atI_rep {K : PySem.W.Frag} {φ : List Addr} {H : Hp} {xs : List D} {vs : List V} {i : Int} {x : D} (r : RepL K φ H xs vs) (h : atI xs i = some x) : ∃ v, atI vs i = some v ∧ RepV K φ H x v := by
  unfold L2.atI at h ⊢
  rw [← r.length]
  cases e : ixN xs.length i with
  | none => rw [e] at h; cases h
  | some j =>
    rw [e] at h
    exact r.get h
theorem od_ix {K : PySem.W.Frag} : OpD K (rIx K) dIx := by
  intro cm W φ H σ st x y v w Q rs rx ry h
  cases rx <;> cases ry <;> first | exact False.elim h | skip
  · rename_i a xs vs s1 r1 i
    dsimp only [dIx] at h
    split at h
    · rename_i x e
      obtain ⟨v, e1, r2⟩ := atI_rep r1 e
      exact .inr (.inl ⟨a, vs, i, v, rfl, rfl, s1, e1, AtG.here h rs r2⟩)
    · exact h.elim
  · rename_i k a h1 i
    dsimp only [dIx] at h
    split at h
    · rename_i xs e
      obtain ⟨vs, s1, r1⟩ := rs.seqL h1 e
      split at h
      · rename_i x e2
        obtain ⟨v, e1, r2⟩ := atI_rep r1 e2
        exact .inl ⟨a, vs, i, v, rfl, rfl, s1, e1, AtG.here h rs r2⟩
      · exact h.elim
    · exact h.elim
/-- xs[i] = v -/
def dSetIx : D → D → D → S → Option S
  | .loc k, .int i, v, st => match st[k]? with
    | some (.lst xs) => (match ixN xs.length i with
      | some j => some (st.set k (.lst (xs.set j v)))
      | none => none)
    | _ => none
  | _, _, _, _ => none
theorem sd_ix {K : PySem.W.Frag} : SetD K rSetL dSetIx := by
  intro _ φ H st st' o i v o' i' v' Q rs ro ri rv e h
  cases ro <;> cases ri <;> first | (cases e; done) | skip
  rename_i k a h1 i
  dsimp only [dSetIx] at e
  split at e
  · rename_i xs e1
    split at e
    · rename_i j e2
      cases e
      obtain ⟨vs, g1, g2⟩ := rs.obj k a _ h1 e1
      refine ⟨a, vs, i, j, rfl, rfl, g1, by rw [← g2.length]; exact e2, ?_⟩
      exact h _ (Kp.write (by rw [g1]; exact trivial)) (rs.write h1 e1 (g2.set rv j))
    · cases e
  · cases e

abbrev DO := Nv → S → Res (Option Int)
abbrev RO : List Addr → Hp → Option Int → Option Int → Prop := fun _ _ a b => a = b
abbrev tO (K : PySem.W.Frag) (cm : CM) (W : WX) (m : DO) : TO := tG K cm W RO m
def oNone : DO := fun _ st => .ok none st
def asI (x : D) (st : S) : Res (Option Int) := match x with
  | .int i => .ok (some i) st
  | _ => .stuck
def oSome (m : DE) : DO := fun ρ st => (m ρ st).bind asI
def cutD (xs : List D) (lo hi : Option Int) : List D := (xs.drop (HT.sIx xs.length 0 lo)).take (HT.sIx xs.length xs.length hi - HT.sIx xs.length 0 lo)
def dSl (x : D) (lo hi : Option Int) (st : S) : Res D := match x with
  | .tup xs => .ok (.tup (cutD xs lo hi)) st
  | .loc k => match itemsAt st k with
    | some xs => .ok (.loc st.length) (st ++ [.lst (cutD xs lo hi)])
    | none => .stuck
  | _ => .stuck
def eSl (m : DE) (lo hi : DO) : DE := fun ρ st => (m ρ st).bind fun x st => (lo ρ st).bind fun a st => (hi ρ st).bind fun b st => dSl x a b st
theorem cut_rep {K : PySem.W.Frag} {φ : List Addr} {H : Hp} {xs : List D} {vs : List V} (r : RepL K φ H xs vs) (lo hi : Option Int) : RepL K φ H (cutD xs lo hi) (cutV vs lo hi) := by
  unfold cutD L2.cutV
  rw [r.length]
  exact (r.drop _).take _
theorem cut_whole {xs : List D} {lo hi : Option Int} (h : HT.sIx xs.length 0 lo = 0 ∧ HT.sIx xs.length xs.length hi = xs.length) : cutD xs lo hi = xs := by
  unfold cutD
  rw [h.1, h.2, List.drop_zero, Nat.sub_zero, List.take_length]
section
variable {X : Cx} {cm : CM} {W : WX} {e a b : Expr} {es : List Expr} {m : DE} {pos : Pos} {lo hi : Option Expr} {ml mh : DO}
theorem conv_O {e : Option Expr} {t t' : TO} (h : PO X e t) (c : ∀ σ H Q, t' σ H Q → t σ H Q) : PO X e t' := ⟨fun pins s σ H Q I q => h.run pins s σ H Q I (c σ H Q q)⟩
theorem rO_none : PO X none (tO X.K cm W oNone) := by
  refine conv_O po_none fun σ H Q h => ?_
  obtain ⟨φ, ρ, st, hd, h⟩ := h
  exact AtG.here (R := RO) h hd.s rfl
theorem rO_some (h : PE X e (tE X.K cm W m)) : PO X (some e) (tO X.K cm W (oSome m)) := by
  refine conv_O (po_some h) fun σ H Q h => ?_
  obtain ⟨φ, ρ, st, hd, h⟩ := h
  refine tG_bind hd h fun x st1 φ1 H1 v e1 k1 hd1 r1 h1 => ?_
  unfold asI at h1
  split at h1
  · cases r1
    exact ⟨_, rfl, AtG.here (R := RO) h1 hd1.s rfl⟩
  · exact h1.elim
theorem rE_sl {p2 : Pos} (he : PE X e (tE X.K cm W m)) (hl : PO X lo (tO X.K cm W ml)) (hu : PO X hi (tO X.K cm W mh)) : PE X (.Subscript e (.Slice lo hi none p2) pos) (tE X.K cm W (eSl m ml mh)) := by
  refine conv_E (pe_slice (sl_tupA.or sl_list) he hl hu) fun σ H Q h => ?_
  obtain ⟨φ, ρ, st, hd, h⟩ := h
  refine tG_bind hd h fun x st1 φ1 H1 v e1 k1 hd1 r1 h1 => ?_
  refine tG_bind hd1 h1 fun lo st2 φ2 H2 lo' e2 k2 hd2 r2 h2 => ?_
  refine tG_bind hd2 h2 fun hi st3 φ3 H3 hi' e3 k3 hd3 r3 h3 => ?_
  have r2' : lo = lo' := r2
  have r3' : hi = hi' := r3
  subst r2' r3'
  have r1' := r1.mono (e2.trans e3) (k2.trans k3)
  revert h3
  cases r1' with
  | tup s1 r4 =>
    rename_i a xs vs
    intro h3
    refine .inl ⟨a, vs, rfl, s1, fun hw => ?_, fun hw p hp => ?_⟩
    · rw [← r4.length] at hw
      unfold dSl at h3
      dsimp only at h3
      rw [cut_whole hw] at h3
      exact AtG.here h3 hd3.s (.tup s1 r4)
    · have k := Kp.new (o := .tup (cutV vs lo hi)) hp
      exact h3 φ3 _ _ (Ext.refl _) k (hd3.s.beside hp) (.tup (SqT.of upd_same) ((cut_rep r4 lo hi).mono (Ext.refl _) k))
  | loc g =>
    rename_i k a
    intro h3
    unfold dSl at h3
    dsimp only at h3
    split at h3
    · rename_i xs e4
      obtain ⟨vs, s1, r4⟩ := hd3.s.seqL g e4
      refine .inr ⟨a, vs, rfl, s1, fun p hp => ?_⟩
      refine h3 (φ3 ++ [p]) _ _ (Ext.one _ _) (Kp.new hp) (hd3.s.alloc hp (cut_rep r4 lo hi)) (.loc ?_)
      rw [← hd3.s.len, List.getElem?_append_right (Nat.le_refl _), Nat.sub_self]
      rfl
    · exact h3.elim
  | _ => intro h3; exact h3.elim
end

def dMax : List D → S → Res D
  | [.int i, .int j], st => .ok (.int (if j > i then j else i)) st
  | _, _ => .stuck
def dMin : List D → S → Res D
  | [.int i, .int j], st => .ok (.int (if j < i then j else i)) st
  | _, _ => .stuck
def dInt : List D → S → Res D
  | [.int i], st => .ok (.int i) st
  | [.bl k], st => .ok (.int (if k then 1 else 0)) st
  | _, _ => .stuck
def dLen : List D → S → Res D
  | [.tup xs], st => .ok (.int xs.length) st
  | [.str x], st => if x.length ≤ sizeLine then .ok (.int x.length) st else .stuck
  | [.loc k], st => match itemsAt st k with
    | some xs => .ok (.int xs.length) st
    | none => .stuck
  | _, _ => .stuck
def dTuple : List D → S → Res D
  | [.tup xs], st => .ok (.tup xs) st
  | [.loc k], st => match itemsAt st k with
    | some xs => .ok (.tup xs) st
    | none => .stuck
  | _, _ => .stuck
def dList : List D → S → Res D
  | [.tup xs], st => .ok (.loc st.length) (st ++ [.lst xs])
  | [.loc k], st => match itemsAt st k with
    | some xs => .ok (.loc st.length) (st ++ [.lst xs])
    | none => .stuck
  | _, _ => .stuck
section
variable {K : PySem.W.Frag}
theorem RepL.one {φ : List Addr} {H : Hp} {x : D} {vs : List V} (r : RepL K φ H [x] vs) : ∃ v, vs = [v] ∧ RepV K φ H x v := by
  cases r with
  | cons r t => cases t; exact ⟨_, rfl, r⟩
theorem RepL.two {φ : List Addr} {H : Hp} {x y : D} {vs : List V} (r : RepL K φ H [x, y] vs) : ∃ v w, vs = [v, w] ∧ RepV K φ H x v ∧ RepV K φ H y w := by
  cases r with
  | cons r t =>
    obtain ⟨w, rfl, t2⟩ := t.one
    exact ⟨_, _, rfl, r, t2⟩
theorem cd_max : CallD K (fun xs H Q => ∃ i j, xs = [.int i, .int j] ∧ Q (.int (if j > i then j else i)) H) dMax := by
  intro cm W φ H σ st xs vs Q rs r h
  unfold dMax at h
  split at h
  · obtain ⟨v, w, rfl, r1, r2⟩ := r.two
    cases r1
    cases r2
    exact ⟨_, _, rfl, AtG.here h rs (.int _)⟩
  · exact h.elim
theorem cd_min : CallD K (fun xs H Q => ∃ i j, xs = [.int i, .int j] ∧ Q (.int (if j < i then j else i)) H) dMin := by
  intro cm W φ H σ st xs vs Q rs r h
  unfold dMin at h
  split at h
  · obtain ⟨v, w, rfl, r1, r2⟩ := r.two
    cases r1
    cases r2
    exact ⟨_, _, rfl, AtG.here h rs (.int _)⟩
  · exact h.elim
theorem cd_int : CallD K (fun xs H Q => (∃ i, xs = [.int i] ∧ Q (.int i) H) ∨ ∃ k, xs = [.bl k] ∧ Q (.int (if k then 1 else 0)) H) dInt := by
  intro cm W φ H σ st xs vs Q rs r h
  unfold dInt at h
  split at h
  · obtain ⟨v, rfl, r1⟩ := r.one
    cases r1
    exact .inl ⟨_, rfl, AtG.here h rs (.int _)⟩
  · obtain ⟨v, rfl, r1⟩ := r.one
    cases r1
    exact .inr ⟨_, rfl, AtG.here h rs (.int _)⟩
  · exact h.elim
theorem cd_len : CallD K (fun xs H Q => ∃ x n, xs = [x] ∧ LenV K x H n ∧ Q (.int n) H) dLen := by
  intro cm W φ H σ st xs vs Q rs r h
  unfold dLen at h
  split at h
  · obtain ⟨v, rfl, r1⟩ := r.one
    cases r1 with
    | tup s1 r2 =>
      refine ⟨_, _, rfl, .inr ⟨_, s1, rfl⟩, ?_⟩
      rw [← r2.length]
      exact AtG.here h rs (.int _)
  · obtain ⟨v, rfl, r1⟩ := r.one
    cases r1
    split at h
    · rename_i hl
      exact ⟨_, _, rfl, ⟨hl, rfl⟩, AtG.here h rs (.int _)⟩
    · exact h.elim
  · obtain ⟨v, rfl, r1⟩ := r.one
    cases r1 with
    | loc g =>
      split at h
      · rename_i xs e
        obtain ⟨vs, s1, r2⟩ := rs.seqL g e
        refine ⟨_, _, rfl, .inl ⟨_, s1, rfl⟩, ?_⟩
        rw [← r2.length]
        exact AtG.here h rs (.int _)
      · exact h.elim
  · exact h.elim
theorem cd_tuple : CallD K (fun xs H Q => ∃ p ys, xs = [.ref p] ∧ ((SqL K H p ys ∧ ∀ l, H l = none → Q (.ref l) (upd H l (.tup ys))) ∨ (SqT K H p ys ∧ Q (.ref p) H))) dTuple := by
  intro cm W φ H σ st xs vs Q rs r h
  unfold dTuple at h
  split at h
  · obtain ⟨v, rfl, r1⟩ := r.one
    cases r1 with
    | tup s1 r2 => exact ⟨_, _, rfl, .inr ⟨s1, AtG.here h rs (.tup s1 r2)⟩⟩
  · obtain ⟨v, rfl, r1⟩ := r.one
    cases r1 with
    | loc g =>
      split at h
      · rename_i xs e
        obtain ⟨vs, s1, r2⟩ := rs.seqL g e
        refine ⟨_, vs, rfl, .inl ⟨s1, fun l hl => ?_⟩⟩
        have k := Kp.new (o := .tup vs) hl
        exact h φ _ _ (Ext.refl _) k (rs.beside hl) (.tup (SqT.of upd_same) (r2.mono (Ext.refl _) k))
      · exact h.elim
  · exact h.elim
theorem alloc_at {cm : CM} {W : WX} {φ : List Addr} {H : Hp} {σ : L2.St} {st : S} {xs : List D} {vs : List V} {Q : VK} (rs : RepS K cm.T φ H st) (r : RepL K φ H xs vs) (h : AtG K cm W (RV K) φ H σ Q (.ok (.loc st.length) (st ++ [.lst xs]))) : ∀ p, H p = none → Q (.ref p) (upd H p (.lst vs)) := by
  intro p hp
  refine h (φ ++ [p]) _ _ (Ext.one _ _) (Kp.new hp) (rs.alloc hp r) (.loc ?_)
  rw [← rs.len, List.getElem?_append_right (Nat.le_refl _), Nat.sub_self]
  rfl
theorem cd_list : CallD K (fun xs H Q => ∃ p ys, xs = [.ref p] ∧ (SqL K H p ys ∨ SqT K H p ys) ∧ ∀ l, H l = none → Q (.ref l) (upd H l (.lst ys))) dList := by
  intro cm W φ H σ st xs vs Q rs r h
  unfold dList at h
  split at h
  · obtain ⟨v, rfl, r1⟩ := r.one
    cases r1 with
    | tup s1 r2 => exact ⟨_, _, rfl, .inr s1, alloc_at rs r2 h⟩
  · obtain ⟨v, rfl, r1⟩ := r.one
    cases r1 with
    | loc g =>
      split at h
      · rename_i xs e
        obtain ⟨vs, s1, r2⟩ := rs.seqL g e
        exact ⟨_, _, rfl, .inl s1, alloc_at rs r2 h⟩
      · exact h.elim
  · exact h.elim
end

def dRepr : List D → S → Res D
  | [x], st => match toP st 64 x with
    | some d => if d.showable = true ∧ d.hasDict = false ∧ d.depth ≤ 70 ∧ d.shown.length ≤ sizeLine then .ok (.str d.shown) st else .stuck
    | none => .stuck
  | _, _ => .stuck
theorem call_reprD {X : Cx} (hG : X.A.guards = some []) (hu : X.A.units + 100 < cLine) : CallR X (.builtin "repr") (fun xs H Q => ∃ x d, xs = [x] ∧ Dp X.K H x d ∧ d.showable = true ∧ d.hasDict = false ∧ d.depth ≤ 70 ∧ d.shown.length ≤ sizeLine ∧ Q (.str d.shown) H) := by
  intro pins s σ H xs us Q I r h
  obtain ⟨x, d, rfl, hd, h1, h2, h3, h4, q⟩ := h
  obtain ⟨u, rfl, ru⟩ := vals1 r
  obtain ⟨as, rd⟩ := hd.reads I d x u ru
  have disp : ∀ a, u = .ref a → wpAny (model X.prog X.w) X.A (call (.builtin "repr") [u]) (EP X pins σ Q) X.xe s := by
    intro a e
    subst e
    exact repr_of_reads' rd h1 (PySem.PyData.noDict_hsm h2) hG (by omega) (fun b o e => e) (fun h' u tk hk => ⟨.str d.shown, H, I.kept hk, ⟨_, rfl⟩, q⟩) h4
  cases hd with
  | non =>
    cases ru
    exact PySem.P.repr_of_none ⟨.str _, H, I.tok _, ⟨_, rfl⟩, q⟩
  | bl b =>
    cases ru
    exact PySem.P.repr_of_bool ⟨.str _, H, I.tok _, ⟨_, rfl⟩, q⟩
  | int i =>
    obtain ⟨t, rfl⟩ := ru
    exact PySem.P.repr_of_int (of_decide_eq_true h1) ⟨.str _, H, I.tok _, ⟨_, rfl⟩, q⟩
  | str z =>
    obtain ⟨t, rfl⟩ := ru
    exact PySem.P.repr_of_str ⟨.str _, H, I.tok _, ⟨_, rfl⟩, q⟩ (hsz := h4)
  | lst _ _ => cases ru; exact disp _ rfl
  | tup _ _ => cases ru; exact disp _ rfl
theorem cd_repr {K : PySem.W.Frag} : CallD K (fun xs H Q => ∃ x d, xs = [x] ∧ Dp K H x d ∧ d.showable = true ∧ d.hasDict = false ∧ d.depth ≤ 70 ∧ d.shown.length ≤ sizeLine ∧ Q (.str d.shown) H) dRepr := by
  intro cm W φ H σ st xs vs Q rs r h
  unfold dRepr at h
  split at h
  · obtain ⟨v, rfl, r1⟩ := r.one
    split at h
    · rename_i d e
      split at h
      · rename_i hc
        exact ⟨v, d, rfl, toP_dp rs _ _ _ _ r1 e, hc.1, hc.2.1, hc.2.2.1, hc.2.2.2, AtG.here h rs (.str _)⟩
      · exact h.elim
    · exact h.elim
  · exact h.elim
end Rol

namespace Rol
open PySem L2 PySem.Spec
open PyProof.Rows hiding St

def MtD (K : PySem.W.Frag) (r : V → List V → Hp → VK → Prop) (f : D → List D → S → Res D) : Prop :=
  ∀ (cm : CM) (W : WX) (φ : List Addr) (H : Hp) (σ : L2.St) (st : S) (x : D) (v : V) (xs : List D) (vs : List V) (Q : VK), RepS K cm.T φ H st → RepV K φ H x v → RepL K φ H xs vs → AtG K cm W (RV K) φ H σ Q (f x xs st) → r v vs H Q
def isLst (x : D) (st : S) : Bool := match x with
  | .loc k => (itemsAt st k).isSome
  | _ => false
def eMt (f : D → List D → S → Res D) (mo : DE) (l : DA) : DE := fun ρ st => (mo ρ st).bind fun x st => if isLst x st = true then (l ρ st).bind fun xs st => f x xs st else .stuck
theorem isLst_ty {K : PySem.W.Frag} {φ : List Addr} {H : Hp} {st : S} {x : D} {v : V} (rs : RepS K Tq φ H st) (r : RepV K φ H x v) (h : isLst x st = true) : tyV K "list" v H := by
  cases r with
  | loc g =>
    rename_i k a
    unfold isLst at h
    dsimp only at h
    cases e : itemsAt st k with
    | none => rw [e] at h; cases h
    | some xs =>
      obtain ⟨vs, s1, _⟩ := rs.seqL g e
      exact .inl ⟨rfl, vs, s1⟩
  | _ => cases h
section
variable {X : Cx} {cm : CM} {W : WX} {o e : Expr} {es : List Expr} {mo : DE} {ml : DA} {name : Str} {apos cpos : Pos} {id : String} {r : V → List V → Hp → VK → Prop} {f : D → List D → S → Res D}
theorem rE_mt (pa : PlainAttrs "list") (slot : Slot "list" name id) (hty : typeOf (.builtin id) = pure (.type "method_descriptor")) (hm : MtR X id r) (hr : MtD X.K r f) (ho : PE X o (tE X.K cm W mo)) (ha : PA X (e :: es) (tA X.K cm W ml)) (hbase : attributeBase o name X.env (eval o X.env) = eval o X.env := by rfl)
    (hfew : ((backTo cpos (starEach (e :: es) X.env)).all (fun x => !x.1) && (backToKw cpos (keywordEach [] X.env)).all (fun x => x.1.isSome) && decide ((e :: es).length + ([] : List Keyword).length + (if ([] : List Keyword).isEmpty then 0 else 1) < 30)) = true := by rfl)
    (hline : (apos.endLine == cpos.line) = true := by rfl) (hs : starEach (e :: es) X.env = (false, eval e X.env) :: starEach es X.env := by rfl) (hplain : (backTo cpos (starEach es X.env)).any (·.1) = false := by rfl) :
    PE X (.Call (.Attribute o name apos) (e :: es) [] cpos) (tE X.K cm W (eMt f mo ml)) := by
  refine conv_E (pe_bm pa slot hty hm ho ha hbase hfew hline hs hplain) fun σ H Q h => ?_
  obtain ⟨φ, ρ, st, hd, h⟩ := h
  refine tG_bind hd h fun x st1 φ1 H1 v e1 k1 hd1 r1 h1 => ?_
  split at h1
  · rename_i hl
    refine ⟨isLst_ty hd1.s r1 hl, ?_⟩
    refine tG_bind hd1 h1 fun xs st2 φ2 H2 vs e2 k2 hd2 r2 h2 => ?_
    exact hr cm W φ2 H2 σ st2 x v xs vs Q hd2.s (r1.mono e2 k2) r2 h2
  · exact h1.elim
theorem list_extend_tupW (l : Addr) (items : Array Value) (n : Nat) (b : Addr) (items2 : Array Value) (n2 : Nat) (dd : Option Addr) (sl : Array (Option Value)) (door : ¬(!items.isEmpty && Builtin.List.listTooLong (items.size + items2.size)) = true) (z1 : items.size ≤ sizeLine) (z2 : items.size + items2.size ≤ sizeLine + 1) :
    Meets (Builtin.«list.extend» ⟨[.ref l, .ref b], []⟩) (fun _ R s => s.heap.get? l = some { cls := .type "list", dict := none, data := .seq items n, slots := #[] } ∧ s.heap.get? b = some { cls := .type "tuple", dict := dd, data := .seq items2 n2, slots := sl } ∧ R (.ok (.ret Value.none)) { s with heap := s.heap.update l (Obj.mapSeq fun x => x ++ items2), toks := s.toks }) :=
  .of_wp fun prog w A R s h => by
    obtain ⟨hp, g, d, tk, os⟩ := s
    obtain ⟨hl, hb, h⟩ := h
    have f1 := AutoSeq1.idx_int
    have f2 := AutoSeq1.sub_tuple_tuple
    have f3 := AutoSeq1.sub_list_list
    have f4 := AutoSeq1.sub_tuple_list
    have f5 := AutoSeq1.sub_list_tuple
    have zz : (items ++ items2).size ≤ sizeLine + 1 := by simp; exact z2
    wp_walk using (wpAny_updateSeq hl rfl (hz := z1) (_hz' := zz)), wpAny_loadPart' hl, wpAny_loadPart' hb
    exact ⟨_, rfl, h⟩
theorem mt_extendT : MtM X "list.extend" (fun x vs H Q => ∃ l b xs zs, x = .ref l ∧ vs = [.ref b] ∧ H l = some (.lst xs) ∧ SqT X.K H b zs ∧ xs.length + zs.length ≤ sizeLine ∧ Q .non (upd H l (.lst (xs ++ zs)))) := by
  intro pins s σ H x vs v us Q I rx rv h
  obtain ⟨l, b, xs, zs, rfl, rfl, hH, hB, hz, q⟩ := h
  cases rx
  obtain ⟨u, rfl, ru⟩ := rv.one
  cases ru
  obtain ⟨z, its, n, r, hl, e⟩ := I.lstM hH
  obtain ⟨its2, r2, ⟨⟨cls, dd, data, sl⟩, ho, hc, n2, hd⟩, hs2⟩ := I.tuple hB
  simp only at hc hd
  subst hc hd
  have l2 := r2.length
  have big : its.toArray.size + its2.toArray.size ≤ sizeLine := by simp; omega
  have door : ¬ (!its.toArray.isEmpty && Builtin.List.listTooLong (its.toArray.size + its2.toArray.size)) = true := by
    rw [notLongL big, Bool.and_false]
    decide
  refine call_meets PySem.F.slot_list_extend ⟨_, e, rfl⟩ PySem.F.entry_list_extend (PySem.F.args_list_extend_2 _ _) (list_extend_tupW l its.toArray n b its2.toArray n2 dd sl door (by simp; omega) (by omega)) ⟨e, ho, .non, _, I.lset (its' := its ++ its2) hH e (by simp) (r.append r2) ?_, rfl, q⟩
  rw [List.length_append]
  omega
end
end Rol

namespace Rol
open PySem L2 PySem.Spec
open PyProof.Rows hiding St

def dAppend : D → List D → S → Res D
  | .loc k, [y], st => match st[k]? with
    | some (.lst xs) => if xs.length < sizeLine then .ok .non (st.set k (.lst (xs ++ [y]))) else .stuck
    | _ => .stuck
  | _, _, _ => .stuck
def dExtend : D → List D → S → Res D
  | .loc k, [.loc j], st => match st[k]?, st[j]? with
    | some (.lst xs), some (.lst ys) => if xs.length + ys.length ≤ sizeLine then .ok .non (st.set k (.lst (xs ++ ys))) else .stuck
    | _, _ => .stuck
  | .loc k, [.tup ys], st => match st[k]? with
    | some (.lst xs) => if xs.length + ys.length ≤ sizeLine then .ok .non (st.set k (.lst (xs ++ ys))) else .stuck
    | _ => .stuck
  | _, _, _ => .stuck
def dPop : D → List D → S → Res D
  | .loc k, [], st => match st[k]? with
    | some (.lst xs) => (match xs[xs.length - 1]? with
      | some y => .ok y (st.set k (.lst (xs.eraseIdx (xs.length - 1))))
      | none => .stuck)
    | _ => .stuck
  | .loc k, [.int i], st => match st[k]? with
    | some (.lst xs) => if -(2 ^ 63) ≤ i ∧ i < 2 ^ 63 then (match seqIndex? i xs.length with
      | some j => (match xs[j]? with
        | some y => .ok y (st.set k (.lst (xs.eraseIdx j)))
        | none => .stuck)
      | none => .stuck) else .stuck
    | _ => .stuck
  | _, _, _ => .stuck
theorem AtG.put {K : PySem.W.Frag} {cm : CM} {W : WX} {φ : List Addr} {H : Hp} {σ : L2.St} {st : S} {k : Nat} {a : Addr} {d : D} {v : V} {ys xs : List D} {vs : List V} {Q : VK} (h : AtG K cm W (RV K) φ H σ Q (.ok d (st.set k (.lst xs)))) (rs : RepS K cm.T φ H st) (h1 : φ[k]? = some a) (h2 : st[k]? = some (.lst ys)) (r : RepL K φ H xs vs) (rd : RepV K φ H d v) : Q v (upd H a (.lst vs)) := by
  obtain ⟨ws, g1, _⟩ := rs.obj k a _ h1 h2
  have kp : Kp H (upd H a (.lst vs)) := Kp.write (by rw [g1]; exact trivial)
  exact h φ _ v (Ext.refl _) kp (rs.write h1 h2 r) (rd.mono (Ext.refl _) kp)
section
variable {K : PySem.W.Frag}
theorem md_append : MtD K rAppend dAppend := by
  intro cm W φ H σ st x v xs vs Q rs rx r h
  unfold dAppend at h
  split at h
  · rename_i k y
    obtain ⟨w, rfl, ry⟩ := r.one
    cases rx with
    | loc g =>
      rename_i a
      split at h
      · rename_i ys e
        split at h
        · rename_i hl
          obtain ⟨ws, g1, g2⟩ := rs.obj k a _ g e
          exact ⟨a, ws, w, rfl, rfl, g1, by rw [← g2.length]; exact hl, h.put rs g e (g2.append (.cons ry .nil)) .non⟩
        · exact h.elim
      · exact h.elim
  · exact h.elim
def rExtendA (K : PySem.W.Frag) : V → List V → Hp → VK → Prop := fun x vs H Q => rExtend x vs H Q ∨ ∃ l b xs zs, x = .ref l ∧ vs = [.ref b] ∧ H l = some (.lst xs) ∧ SqT K H b zs ∧ xs.length + zs.length ≤ sizeLine ∧ Q .non (upd H l (.lst (xs ++ zs)))
theorem mt_extendA {X : Cx} : MtM X "list.extend" (rExtendA X.K) := MtR.or mt_extend mt_extendT
theorem md_extend : MtD K (rExtendA K) dExtend := by
  intro cm W φ H σ st x v xs vs Q rs rx r h
  unfold dExtend at h
  split at h
  · rename_i k j
    obtain ⟨w, rfl, ry⟩ := r.one
    cases rx with
    | loc g =>
      rename_i a
      cases ry with
      | loc g' =>
        rename_i b
        split at h
        · rename_i ys zs e e'
          split at h
          · rename_i hl
            obtain ⟨ws, g1, g2⟩ := rs.obj k a _ g e
            obtain ⟨us, g3, g4⟩ := rs.obj j b _ g' e'
            exact .inl ⟨a, b, ws, us, rfl, rfl, g1, g3, by rw [← g2.length, ← g4.length]; exact hl, h.put rs g e (g2.append g4) .non⟩
          · exact h.elim
        · exact h.elim
  · rename_i k zs
    obtain ⟨w, rfl, ry⟩ := r.one
    cases rx with
    | loc g =>
      rename_i a
      cases ry with
      | tup s1 r1 =>
        rename_i b us
        split at h
        · rename_i ys e
          split at h
          · rename_i hl
            obtain ⟨ws, g1, g2⟩ := rs.obj k a _ g e
            exact .inr ⟨a, b, ws, us, rfl, rfl, g1, s1, by rw [← g2.length, ← r1.length]; exact hl, h.put rs g e (g2.append r1) .non⟩
          · exact h.elim
        · exact h.elim
  · exact h.elim
theorem dropLast_erase {α : Type} (xs : List α) : xs.dropLast = xs.eraseIdx (xs.length - 1) := by
  induction xs with
  | nil => rfl
  | cons x xs ih =>
    cases xs with
    | nil => rfl
    | cons y ys =>
      show x :: (y :: ys).dropLast = _
      rw [ih]
      simp [List.eraseIdx]
theorem mt_popA {X : Cx} : MtM X "list.pop" (fun x vs H Q => rPop x vs H Q ∨ rPopAt x vs H Q) := MtR.or mt_pop mt_popAt
theorem md_pop : MtD K (fun x vs H Q => rPop x vs H Q ∨ rPopAt x vs H Q) dPop := by
  intro cm W φ H σ st x v xs vs Q rs rx r h
  unfold dPop at h
  split at h
  · rename_i k
    cases r
    cases rx with
    | loc g =>
      rename_i a
      split at h
      · rename_i ys e
        split at h
        · rename_i y ey
          obtain ⟨ws, g1, g2⟩ := rs.obj k a _ g e
          obtain ⟨w, g3, g4⟩ := g2.get ey
          refine .inl ⟨a, ws, w, rfl, rfl, g1, by rw [← g2.length]; exact g3, ?_⟩
          rw [dropLast_erase, ← g2.length]
          exact h.put rs g e (g2.erase _) g4
        · exact h.elim
      · exact h.elim
  · rename_i k i
    obtain ⟨w, rfl, ry⟩ := r.one
    cases ry
    cases rx with
    | loc g =>
      rename_i a
      split at h
      · rename_i ys e
        split at h
        · rename_i hb
          split at h
          · rename_i j ej
            split at h
            · rename_i y ey
              obtain ⟨ws, g1, g2⟩ := rs.obj k a _ g e
              obtain ⟨w, g3, g4⟩ := g2.get ey
              exact .inr ⟨a, ws, i, j, w, rfl, rfl, g1, hb.1, hb.2, by rw [← g2.length]; exact ej, g3, h.put rs g e (g2.erase _) g4⟩
            · exact h.elim
          · exact h.elim
        · exact h.elim
      · exact h.elim
  · exact h.elim
end

def iSeq (m : DE) : DI := fun ρ st => (m ρ st).bind fun x st => match x with
  | .tup xs => .ok (xs, none) st
  | .loc k => match itemsAt st k with
    | some xs => .ok (xs, some (k, false)) st
    | none => .stuck
  | _ => .stuck
def irange (lo : Int) (n : Nat) : List D := (List.range n).map fun (i : Nat) => D.int (lo + (i : Int))
def iRg1 (l : DA) : DI := fun ρ st => (l ρ st).bind fun xs st => match xs with
  | [.int j] => if -(2 ^ 62) ≤ j ∧ j < 2 ^ 62 then .ok (irange 0 j.toNat, none) st else .stuck
  | _ => .stuck
section
variable {K : PySem.W.Frag} {φ : List Addr} {H : Hp}
theorem it_tup {a : Addr} {xs : List D} {vs : List V} (s : SqT K H a vs) (r : RepL K φ H xs vs) : ItOk K φ H (xs, none) (Itt K a) where
  stop := fun φ' H' st i e k rs g hl => ⟨vs, k.sqT s, by rw [← r.length]; exact hl⟩
  go := fun φ' H' st i e k rs g hl => ⟨vs, vs[i]'(by rw [← r.length]; exact hl), k.sqT s, by simp⟩
  yld := fun φ' H' st i v H2 x e k rs g hx y => by
    obtain ⟨e1, e2⟩ := y
    subst e1
    obtain ⟨w, h1, h2⟩ := r.get hx
    have h3 := e2 vs (k.sqT s)
    rw [h1] at h3
    cases h3
    exact ⟨Kp.refl _, rs, h2.mono e k⟩
theorem it_lst {k : Nat} {a : Addr} {xs : List D} (h : φ[k]? = some a) : ItOk K φ H (xs, some (k, false)) (Itl K a) where
  stop := fun φ' H' st i e kp rs g hl => by
    obtain ⟨ys, g, ey⟩ := g
    have ey : xs = ys := ey
    subst ey
    obtain ⟨vs, s1, r1⟩ := rs.seqL (e.get h) g
    exact ⟨vs, s1, by rw [← r1.length]; exact hl⟩
  go := fun φ' H' st i e kp rs g hl => by
    obtain ⟨ys, g, ey⟩ := g
    have ey : xs = ys := ey
    subst ey
    obtain ⟨vs, s1, r1⟩ := rs.seqL (e.get h) g
    exact ⟨vs, vs[i]'(by rw [← r1.length]; exact hl), s1, by simp⟩
  yld := fun φ' H' st i v H2 x e kp rs g hx y => by
    obtain ⟨e1, e2⟩ := y
    subst e1
    obtain ⟨ys, g, ey⟩ := g
    have ey : xs = ys := ey
    subst ey
    obtain ⟨vs, s1, r1⟩ := rs.seqL (e.get h) g
    obtain ⟨w, h1, h2⟩ := r1.get hx
    have h3 := e2 vs s1
    rw [h1] at h3
    cases h3
    exact ⟨Kp.refl _, rs, h2⟩
theorem irange_get {lo : Int} {n i : Nat} {x : D} (h : (irange lo n)[i]? = some x) : x = .int (lo + (i : Int)) := by
  unfold irange at h
  rw [List.getElem?_map] at h
  cases e : (List.range n)[i]? with
  | none => rw [e] at h; cases h
  | some j =>
    rw [e] at h
    obtain ⟨_, hj⟩ := List.getElem?_eq_some_iff.mp e
    simp at hj
    subst hj
    exact (Option.some.inj h).symm
theorem irange_len (lo : Int) (n : Nat) : (irange lo n).length = n := by
  unfold irange
  simp
theorem it_range (lo : Int) (n : Nat) : ItOk K φ H (irange lo n, none) (Itr lo n) where
  stop := fun φ' H' st i e kp rs g hl => by rwa [irange_len] at hl
  go := fun φ' H' st i e kp rs g hl => by rwa [irange_len] at hl
  yld := fun φ' H' st i v H2 x e kp rs g hx y => by
    obtain ⟨e1, e2⟩ := y
    subst e1 e2
    have := irange_get (n := n) hx
    subst this
    exact ⟨Kp.refl _, rs, .int _⟩
end
section
variable {X : Cx} {cm : CM} {W : WX} {tg e e2 a b : Expr} {m : DE} {ml : DA} {p pos : Pos}
theorem rI_seq (he : PE X e (tE X.K cm W m)) : PI X tg e (tI X.K cm W (iSeq m)) := by
  constructor
  intro pins s σ H R I h
  obtain ⟨φ, ρ, st, hd, h⟩ := h
  unfold iSeq at h
  cases em : m ρ st with
  | stuck =>
    rw [em] at h
    exact h.elim
  | exc c w st1 =>
    rw [em] at h
    refine (pi_tup he).run pins s σ H R I ⟨φ, ρ, st, hd, ?_⟩
    rw [em]
    exact h
  | ok x st1 =>
    rw [em, Res.bind_ok] at h
    cases x with
    | tup xs =>
      refine (pi_tup he).run pins s σ H R I ⟨φ, ρ, st, hd, ?_⟩
      rw [em]
      intro φ1 H1 v e1 k1 s1 r1
      cases r1 with
      | tup q r2 => exact ⟨_, rfl, ⟨_, q⟩, h φ1 H1 _ e1 k1 s1 (it_tup q r2)⟩
    | loc k =>
      dsimp only at h
      cases ei : itemsAt st1 k with
      | none =>
        rw [ei] at h
        exact h.elim
      | some xs =>
        rw [ei] at h
        refine (pi_list he).run pins s σ H R I ⟨φ, ρ, st, hd, ?_⟩
        rw [em]
        intro φ1 H1 v e1 k1 s1 r1
        cases r1 with
        | loc q =>
          obtain ⟨vs, g1, g2⟩ := s1.seqL q ei
          exact ⟨_, rfl, ⟨_, g1⟩, h φ1 H1 _ e1 k1 s1 (it_lst q)⟩
    | _ => exact h.elim
theorem conv_I {tg e : Expr} {t t' : TI} (h : PI X tg e t) (c : ∀ σ H Q, t' σ H Q → t σ H Q) : PI X tg e t' := ⟨fun pins s σ H Q I q => h.run pins s σ H Q I (c σ H Q q)⟩
theorem rI_range1 (hm : X.mg "range" = none) (ha : PA X [a] (tA X.K cm W ml)) (hg : Gl X "range" := by rfl) (hs : starEach [a] X.env = [(false, eval a X.env)] := by rfl) : PI X tg (.Call (.Name "range" p) [a] [] pos) (tI X.K cm W (iRg1 ml)) := by
  refine conv_I (pi_range1 hg hm ha hs) fun σ H Q h => ?_
  obtain ⟨φ, ρ, st, hd, h⟩ := h
  refine tG_bind hd h fun xs st1 φ1 H1 vs e1 k1 hd1 r1 h1 => ?_
  split at h1
  · split at h1
    · rename_i j hb
      obtain ⟨v, rfl, r2⟩ := r1.one
      cases r2
      exact ⟨j, rfl, hb.1, hb.2, h1 φ1 H1 _ (Ext.refl _) (Kp.refl _) hd1.s (it_range 0 j.toNat)⟩
    · exact h1.elim
  · exact h1.elim
end
end Rol

namespace Rol
open PySem L2 PySem.Spec
open PyProof.Rows hiding St

def wipeD (ρ : Nv) : List Nat → Nv
  | [] => ρ
  | v :: vs => (wipeD ρ vs).set v none
theorem wipeD_length (ρ : Nv) : ∀ vs : List Nat, (wipeD ρ vs).length = ρ.length
  | [] => rfl
  | v :: vs => by unfold wipeD; rw [List.length_set, wipeD_length ρ vs]
theorem wipeD_some {ρ : Nv} {i : Nat} {x : D} : ∀ {vs : List Nat}, (wipeD ρ vs)[i]? = some (some x) → ρ[i]? = some (some x) ∧ i ∉ vs
  | [], h => ⟨h, by simp⟩
  | v :: vs, h => by
    unfold wipeD at h
    by_cases hi : v = i
    · subst hi
      by_cases hv : v < (wipeD ρ vs).length
      · rw [List.getElem?_set_self hv] at h
        cases h
      · rw [List.getElem?_eq_none (by simpa using hv)] at h
        cases h
    · rw [List.getElem?_set_ne hi] at h
      obtain ⟨h1, h2⟩ := wipeD_some h
      exact ⟨h1, by simp only [List.mem_cons, not_or]; exact ⟨fun e => hi e.symm, h2⟩⟩
theorem wipe_in {σ : L2.St} {i : Nat} : ∀ {vs : List Nat}, i ∈ vs → i < σ.length → (wipe σ vs)[i]? = some none
  | v :: vs, h, hl => by
    unfold L2.wipe
    by_cases e : v = i
    · subst e
      exact List.getElem?_set_self (by rw [wipe_length]; exact hl)
    · rw [List.getElem?_set_ne e]
      rcases List.mem_cons.mp h with z | z
      · exact absurd z.symm e
      · exact wipe_in z hl
theorem wipe_same {σ σ' : L2.St} {is vs : List Nat} (o : Rol.Only is (wipe σ vs) σ') (h : ∀ i ∈ is, i ∈ vs) : wipe σ' vs = wipe σ vs := by
  have hl : σ'.length = σ.length := by rw [o.1, wipe_length]
  apply List.ext_getElem?
  intro i
  by_cases hi : i ∈ vs
  · by_cases hb : i < σ.length
    · rw [wipe_in hi hb, wipe_in hi (by rw [hl]; exact hb)]
    · rw [List.getElem?_eq_none (by rw [wipe_length]; omega), List.getElem?_eq_none (by rw [wipe_length]; omega)]
  · rw [wipe_out hi, o.2 i (fun z => hi (h i z)), wipe_out hi]
theorem RepE.wipe {K : PySem.W.Frag} {φ : List Addr} {H : Hp} {ρ : Nv} {σ : L2.St} (h : RepE K φ H ρ σ) (vs : List Nat) : RepE K φ H (wipeD ρ vs) (L2.wipe σ vs) := by
  refine ⟨by rw [wipeD_length, wipe_length]; exact h.1, fun i d q => ?_⟩
  obtain ⟨q1, q2⟩ := wipeD_some q
  obtain ⟨v, h1, h2⟩ := h.2 i d q1
  exact ⟨v, by rw [wipe_out q2]; exact h1, h2⟩

/-- nothing is raised within -/
abbrev W0 : WX := fun _ _ _ _ => False
def Res.calm {α : Type} (r : Res α) : Res α := match r with
  | .ok a st => .ok a st
  | _ => .stuck
@[simp] theorem Res.calm_ok {α : Type} (a : α) (st : S) : (Res.ok a st).calm = .ok a st := rfl
open Classical in
noncomputable def compL (gd : S → Prop) (p : Pat) (test : DT) (elt : DE) (n : Nat) : List D → Nv → S → Res Unit
  | [], _, st => if gd st then .ok () st else .stuck
  | x :: xs, ρ, st => if gd st then (match setP p x ρ with
    | none => .stuck
    | some ρ' => (test ρ' st).bind fun b st => if b = true then (elt ρ' st).bind fun y st => (match st[n]? with
        | some (.lst acc) => if acc.length < sizeLine then compL gd p test elt n xs ρ (st.set n (.lst (acc ++ [y]))) else .stuck
        | _ => .stuck) else compL gd p test elt n xs ρ st) else .stuck
noncomputable def eComp (mi : DI) (p : Pat) (vs : List Nat) (test : DT) (elt : DE) : DE := fun ρ st => (mi ρ st).bind fun xg st => ((compL (Gd xg.2 xg.1) p test elt st.length xg.1 (wipeD ρ vs) (st ++ [.lst []])).calm).bind fun _ st' => .ok (.loc st.length) st'
abbrev RU : List Addr → Hp → Unit → Unit → Prop := fun _ _ _ _ => True
section
variable {K : PySem.W.Frag} {cm : CM} {J : It} {p : Pat} {vs : List Nat} {test : DT} {elt : DE} {n : Nat} {σ : L2.St} {D₀ : Addr}
/-- the loop of a comprehension, from an invariant by data -/
theorem comp_run {φ₁ : List Addr} {H₁ : Hp} {xs : List D} {gu : Gk} {φ : List Addr} {H : Hp} {ρ : Nv} {st : S} {Fin : Hp → Prop} (it : ItOk K φ₁ H₁ (xs, gu) J) (e₁ : Ext φ₁ φ) (k₁ : Kp H₁ H) (hD : φ[n]? = some D₀) (hd : Hd K cm.T φ H (wipe σ vs) ρ st) (hp : ∀ i ∈ p.ids, i ∈ vs)
    (h : AtG K cm W0 RU φ H (wipe σ vs) (fun _ H => Fin H) (compL (Gd gu xs) p test elt n xs ρ st)) :
    ∃ W : Nat → Nat → Hp → Prop, (∃ m, W 0 m H) ∧ ∀ i m H, W i m H → (J.stop i H ∧ Fin H) ∨ (J.go i H ∧ ∃ Nx : Hp → Prop, (∀ H', Nx H' → ∃ m', m' < m ∧ W (i + 1) m' H') ∧ ∀ x H', J.yld i H x H' →
      gOf K p x (wipe σ vs) H' fun σ2 H2 => wipe σ2 vs = wipe σ vs ∧ tT K cm W0 test σ2 H2 fun b H3 => if b = true then tE K cm W0 elt σ2 H3 fun y H4 => ∃ acc, H4 D₀ = some (.lst acc) ∧ acc.length < sizeLine ∧ Nx (upd H4 D₀ (.lst (acc ++ [y]))) else Nx H3) := by
  refine ⟨fun i m H' => m = xs.length - i ∧ i ≤ xs.length ∧ ∃ φ' st', Ext φ φ' ∧ Kp H H' ∧ Hd K cm.T φ' H' (wipe σ vs) ρ st' ∧ AtG K cm W0 RU φ' H' (wipe σ vs) (fun _ H => Fin H) (compL (Gd gu xs) p test elt n (xs.drop i) ρ st'),
    ⟨xs.length, by simp, Nat.zero_le _, φ, st, Ext.refl _, Kp.refl _, hd, h⟩, ?_⟩
  rintro i m H2 ⟨rfl, hi, φ2, st2, e2, k2, hd2, h2⟩
  by_cases hlt : i < xs.length
  · rw [List.drop_eq_getElem_cons hlt] at h2
    unfold compL at h2
    split at h2
    · rename_i gd
      refine .inr ⟨it.go φ2 H2 st2 i (e₁.trans e2) (k₁.trans k2) hd2.s gd hlt, fun H' => i + 1 ≤ xs.length ∧ ∃ φ' st', Ext φ φ' ∧ Kp H H' ∧ Hd K cm.T φ' H' (wipe σ vs) ρ st' ∧ AtG K cm W0 RU φ' H' (wipe σ vs) (fun _ H => Fin H) (compL (Gd gu xs) p test elt n (xs.drop (i + 1)) ρ st'),
        fun H' ⟨l', q'⟩ => ⟨xs.length - (i + 1), by omega, rfl, l', q'⟩, fun v H3 y => ?_⟩
      obtain ⟨k3, s3, r3⟩ := it.yld φ2 H2 st2 i v H3 xs[i] (e₁.trans e2) (k₁.trans k2) hd2.s gd (by simp [hlt]) y
      cases e4 : setP p xs[i] ρ with
      | none =>
        rw [e4] at h2
        exact h2.elim
      | some ρ3 =>
        rw [e4] at h2
        dsimp only at h2
        refine gOf_ok p φ2 H3 (wipe σ vs) ρ st2 xs[i] v ρ3 _ (hd2.mono (Ext.refl _) k3 s3) r3 e4 fun σ3 o3 hd3 => ⟨wipe_same o3 hp, ?_⟩
        have h3 := AtG.mono (Ext.refl _) k3 h2
        have h3' : AtG K cm W0 RU φ2 H3 σ3 (fun _ H => Fin H) _ := h3
        refine tG_bind hd3 h3' fun b st4 φ4 H4 b' e4 k4 hd4 r4 h4 => ?_
        have r4' : b = b' := r4
        subst r4'
        have dn : ∀ {φ' : List Addr} {H' : Hp} {st' : S}, Ext φ2 φ' → Kp H2 H' → RepS K cm.T φ' H' st' → Hd K cm.T φ' H' (wipe σ vs) ρ st' := fun e k s => ⟨s, hd2.e.mono e k⟩
        cases b with
        | true =>
          rw [if_pos rfl] at h4 ⊢
          refine tG_bind hd4 h4 fun y st5 φ5 H5 y' e5 k5 hd5 r5 h5 => ?_
          split at h5
          · rename_i acc ea
            split at h5
            · rename_i hl
              have hn : φ5[n]? = some D₀ := (e4.trans e5).get (e2.get hD)
              obtain ⟨ws, g1, g2⟩ := hd5.s.obj n D₀ _ hn ea
              have kp : Kp H5 (upd H5 D₀ (.lst (ws ++ [y']))) := Kp.write (by rw [g1]; exact trivial)
              refine ⟨ws, g1, by rw [← g2.length]; exact hl, hlt, φ5, _, e2.trans (e4.trans e5), (((k2.trans k3).trans k4).trans k5).trans kp, dn (e4.trans e5) (((k3.trans k4).trans k5).trans kp) (hd5.s.write hn ea (g2.append (.cons r5 .nil))), ?_⟩
              exact AtG.mono (Ext.refl _) kp h5
            · exact h5.elim
          · exact h5.elim
        | false =>
          rw [if_neg Bool.false_ne_true] at h4 ⊢
          exact ⟨hlt, φ4, st4, e2.trans e4, (k2.trans k3).trans k4, dn e4 (k3.trans k4) hd4.s, h4⟩
    · exact h2.elim
  · have hi' : i = xs.length := by omega
    subst hi'
    rw [List.drop_length] at h2
    unfold compL at h2
    split at h2
    · rename_i gd
      exact .inl ⟨it.stop φ2 H2 st2 _ (e₁.trans e2) (k₁.trans k2) hd2.s gd (Nat.le_refl _), AtG.here (R := RU) (b := ()) h2 hd2.s trivial⟩
    · exact h2.elim
/-- what is wanted behind the comprehension, as what is wanted behind its loop -/
theorem comp_want {W : WX} {φ : List Addr} {H : Hp} {σ' : L2.St} {Q : VK} {r : Res Unit} (hD : φ[n]? = some D₀) (h : AtG K cm W (RV K) φ H σ Q ((r.calm).bind fun _ st' => .ok (.loc n) st')) : AtG K cm W0 RU φ H σ' (fun _ H => Q (.ref D₀) H) r := by
  cases r with
  | ok a st => exact fun φ' H' b e k s _ => h φ' H' _ e k s (.loc (e.get hD))
  | exc c w st => exact h.elim
  | stuck => exact h.elim
end
section
variable {X : Cx} {cm : CM} {W : WX} {elt tg iter tg1 iter1 : Expr} {ifs ifs1 : List Expr} {scope : Scope} {own : List (Str × Nat)} {pos spos py : Pos} {mi mi1 : DI} {p p1 : Pat} {mt mt1 : DT} {me : DE} {y : Str}
def tYesD : DT := fun _ st => .ok true st
theorem conv_Ts {X : Cx} {e : List Expr} {t t' : TT} (h : PTs X e t) (c : ∀ σ H Q, t' σ H Q → t σ H Q) : PTs X e t' := ⟨fun pins s σ H Q I q => h.run pins s σ H Q I (c σ H Q q)⟩
theorem rTs_nil : PTs X [] (tT X.K cm W tYesD) := by
  refine conv_Ts pts_nil fun σ H Q h => ?_
  obtain ⟨φ, ρ, st, hd, h⟩ := h
  exact AtG.here (R := RB) h hd.s rfl
theorem lc_read (hp : ∀ i ∈ p.ids, i ∈ own.map (·.2)) (σ : L2.St) (H : Hp) (Q : VK) (h : tE X.K cm W (eComp mi p (own.map (·.2)) mt me) σ H Q) :
    tLc (tI X.K cm W mi) (gOf X.K p) (tT X.K cm W0 mt) (tE X.K cm W0 me) (own.map (·.2)) σ H Q := by
  obtain ⟨φ, ρ, st, hd, h⟩ := h
  refine tG_bind hd h fun xg st1 φ1 H1 J e1 k1 hd1 r1 h1 => ?_
  intro D₀ hD
  have hn : (φ1 ++ [D₀])[st1.length]? = some D₀ := by
    rw [← hd1.s.len, List.getElem?_append_right (Nat.le_refl _), Nat.sub_self]
    rfl
  have k2 : Kp H1 (upd H1 D₀ (.lst [])) := Kp.new hD
  have s2 := hd1.s.alloc (xs := []) (vs := []) hD .nil
  exact comp_run r1 (Ext.one _ _) k2 hn ⟨s2, ((hd1.e.mono (Ext.one _ _) k2)).wipe _⟩ hp (comp_want hn (AtG.mono (Ext.one _ _) k2 h1))
theorem rE_comp (own : List (Str × Nat)) (hc : X.calm = true) (hN : X.N.Nodup) (hi : PI X tg iter (tI X.K cm W mi)) (ok : BlkOk X.N X.env.scope scope own)
    (hg : ∀ (s : Shared) (H : Hp) (C : Addr) (cl : List (Str × Addr)) (fp : List Addr), JG (X.blk s H scope (compEnvC scope cl C X.env) fp) tg p) (ht : ∀ (s : Shared) (H : Hp) (C : Addr) (cl : List (Str × Addr)) (fp : List Addr), PTs (X.blk s H scope (compEnvC scope cl C X.env) fp) ifs (tT X.K cm W0 mt))
    (he : ∀ (s : Shared) (H : Hp) (C : Addr) (cl : List (Str × Addr)) (fp : List Addr), PE (X.blk s H scope (compEnvC scope cl C X.env) fp) elt (tE X.K cm W0 me)) (hp : ∀ i ∈ p.ids, i ∈ own.map (·.2) := by decide) (hs : ∀ x, foldedSetIterable iter X.env x = pure x := by intro _; rfl) :
    PE X (.ListComp elt [⟨tg, iter, ifs, 0⟩] scope pos) (tE X.K cm W (eComp mi p (own.map (·.2)) mt me)) := conv_E (pe_lc (g := gOf X.K p) hc hN hi ok hg ht he hs) (lc_read hp)
theorem rS_setComp (i : Nat) (own : List (Str × Nat)) (hc : X.calm = true) (hN : X.N.Nodup) (hyl : X.env.scope.names.lookup y = some .local) (hsw : swapsWith (.ListComp elt [⟨tg, iter, ifs, 0⟩] scope pos) (some (.Name y py)) spos.line X.env = pure true) (hi : PI X tg iter (tI X.K cm W mi)) (ok : BlkOk X.N X.env.scope scope own)
    (hg : ∀ (s : Shared) (H : Hp) (C : Addr) (cl : List (Str × Addr)) (fp : List Addr), JG (X.blk s H scope (compEnvC scope cl C X.env) fp) tg p) (ht : ∀ (s : Shared) (H : Hp) (C : Addr) (cl : List (Str × Addr)) (fp : List Addr), PTs (X.blk s H scope (compEnvC scope cl C X.env) fp) ifs (tT X.K cm W0 mt))
    (he : ∀ (s : Shared) (H : Hp) (C : Addr) (cl : List (Str × Addr)) (fp : List Addr), PE (X.blk s H scope (compEnvC scope cl C X.env) fp) elt (tE X.K cm W0 me)) (hy : X.N[i]? = some y := by rfl) (hp : ∀ i ∈ p.ids, i ∈ own.map (·.2) := by decide) (hs : ∀ x, foldedSetIterable iter X.env x = pure x := by intro _; rfl) :
    PS X (.Assign [.Name y py] (.ListComp elt [⟨tg, iter, ifs, 0⟩] scope pos) spos) (tS X.K cm W (sSet i (eComp mi p (own.map (·.2)) mt me))) := by
  refine conv_S (ps_setLc (g := gOf X.K p) hc hN hy hyl hsw hi ok hg ht he hs) fun E σ H h => ?_
  obtain ⟨φ, ρ, st, hd, h⟩ := h
  refine lc_read hp σ H _ ?_
  refine AtS.bind hd h fun x st1 φ1 H1 b e1 k1 hd1 r1 h1 => ?_
  exact h1.next ⟨hd1.s, hd1.e.set r1 i⟩
end
end Rol

namespace Rol
open PySem L2 PySem.Spec
open PyProof.Rows hiding St

theorem u65 {k : Nat} {A : Around} (r : Room k A) : A.units + 65 < cLine := by have := r.un; omega
theorem u100 {k : Nat} {A : Around} (r : Room k A) : A.units + 100 < cLine := by have := r.un; omega
/-- as many arguments -/
def AL (m : DA) (n : Nat) : Prop := ∀ ρ st xs st', m ρ st = .ok xs st' → xs.length = n
theorem al_nil : AL aNil 0 := fun ρ st xs st' h => by
  cases h
  rfl
theorem al_cons {m : DE} {l : DA} {n : Nat} (h : AL l n) : AL (aCons m l) (n + 1) := fun ρ st xs st' e => by
  unfold aCons at e
  cases e1 : m ρ st with
  | ok x st1 =>
    rw [e1, Res.bind_ok] at e
    cases e2 : l ρ st1 with
    | ok ys st2 =>
      rw [e2] at e
      cases e
      rw [List.length_cons, h _ _ _ _ e2]
    | exc c w st2 => rw [e2] at e; cases e
    | stuck => rw [e2] at e; cases e
  | exc c w st1 => rw [e1] at e; cases e
  | stuck => rw [e1] at e; cases e

def eChain (f g : D → D → S → Res D) (ma mb mc : DE) : DE := fun ρ st => (ma ρ st).bind fun x st => (mb ρ st).bind fun y st => (f x y st).bind fun z st => (asB z st).bind fun b st => if b = true then (mc ρ st).bind fun w st => g y w st else .ok (.bl false) st
section
variable {X : Cx} {cm : CM} {W : WX} {a b c : Expr} {ma mb mc m : DE} {op op' : CmpOp} {r r' : L2.R2} {f g : D → D → S → Res D} {pos : Pos}
theorem chain_read (hr : OpD X.K r f) (hr' : OpD X.K r' g) (σ : L2.St) (H : Hp) (Q : VK) (h : tE X.K cm W (eChain f g ma mb mc) σ H Q) : tChain r r' (tE X.K cm W ma) (tE X.K cm W mb) (tE X.K cm W mc) σ H Q := by
  obtain ⟨φ, ρ, st, hd, h⟩ := h
  refine tG_bind hd h fun x st1 φ1 H1 v e1 k1 hd1 r1 h1 => ?_
  refine tG_bind hd1 h1 fun y st2 φ2 H2 w e2 k2 hd2 r2 h2 => ?_
  refine hr cm W φ2 H2 σ st2 x y v w _ hd2.s (r1.mono e2 k2) r2 ?_
  refine AtG.bind h2 fun z st3 φ3 H3 z' e3 k3 s3 r3 h3 => ?_
  obtain ⟨k, e, h4⟩ := asB_at r3 h3
  refine ⟨k, e, ?_⟩
  have hd3 := hd2.mono e3 k3 s3
  cases k with
  | true =>
    rw [if_pos rfl] at h4 ⊢
    refine tG_bind hd3 h4 fun u st5 φ5 H5 u' e5 k5 hd5 r5 h5 => ?_
    exact hr' cm W φ5 H5 σ st5 y u w u' Q hd5.s ((r2.mono e3 k3).mono e5 k5) r5 h5
  | false =>
    rw [if_neg Bool.false_ne_true] at h4 ⊢
    exact AtG.here (R := RV X.K) h4 s3 (.bl _)
theorem rE_chain (ho : OpR X (compareOp op) r) (hr : OpD X.K r f) (ho' : OpR X (compareOp op') r') (hr' : OpD X.K r' g) (ha : PE X a (tE X.K cm W ma)) (hb : PE X b (tE X.K cm W mb)) (hc : PE X c (tE X.K cm W mc)) (hm : lastMarks [op, op'] [b, c] = false := by with_unfolding_all rfl) :
    PE X (.Compare a [op, op'] [b, c] pos) (tE X.K cm W (eChain f g ma mb mc)) := conv_E (pe_chain ho ho' ha hb hc hm) (chain_read hr hr')
theorem rT_chain (ho : OpR X (compareOp op) r) (hr : OpD X.K r f) (ho' : OpR X (compareOp op') r') (hr' : OpD X.K r' g) (ha : PE X a (tE X.K cm W ma)) (hb : PE X b (tE X.K cm W mb)) (hc : PE X c (tE X.K cm W mc)) (hm : lastMarks [op, op'] [b, c] = false := by with_unfolding_all rfl) :
    PT X (.Compare a [op, op'] [b, c] pos) (tT X.K cm W (tOf (eChain f g ma mb mc))) := by
  refine conv_T (pt_chain ho ho' ha hb hc hm) fun σ H Q h => ?_
  obtain ⟨φ, ρ, st, hd, h⟩ := h
  show tChain r r' _ _ _ σ H _
  refine chain_read hr hr' σ H _ ⟨φ, ρ, st, hd, ?_⟩
  refine AtG.bind h fun x st1 φ1 H1 v e1 k1 s1 r1 h1 => ?_
  have h1' : AtG X.K cm W RB φ1 H1 σ Q ((asB x st1).bind fun b st => Res.ok b st) := by
    unfold asB at h1 ⊢
    split at h1
    · exact h1
    · exact h1
  obtain ⟨b, e, h2⟩ := asB_at r1 h1'
  exact ⟨b, e, AtG.here h2 s1 rfl⟩
end

def tyName (x : D) (st : S) : Option String := match x with
  | .non => some "NoneType"
  | .bl _ => some "bool"
  | .int _ => some "int"
  | .str _ => some "str"
  | .tup _ => some "tuple"
  | .loc k => (itemsAt st k).map fun _ => "list"
  | .opq _ => none
def dIsi : List D → S → Res D
  | [x, .opq (.ty T)], st => match tyName x st with
    | some n => (match kitB n T with
      | some b => .ok (.bl b) st
      | none => .stuck)
    | none => .stuck
  | _, _ => .stuck
theorem tyName_ty {K : PySem.W.Frag} {φ : List Addr} {H : Hp} {st : S} {x : D} {v : V} {n : String} (rs : RepS K Tq φ H st) (r : RepV K φ H x v) (h : tyName x st = some n) : TyX K H v (.type n) := by
  cases r with
  | non => cases h; exact .base .non
  | bl b => cases h; exact .base (.bl b)
  | int i => cases h; exact .base (.int i)
  | str z => cases h; exact .base (.str z)
  | tup s _ =>
    cases h
    rcases s with (s | ⟨o, s⟩) | ⟨o, its, n, s, c, _⟩
    · exact .base (.tup s)
    · exact .fTuple s
    · exact .kTuple s c
  | loc g =>
    rename_i k a
    unfold tyName at h
    dsimp only at h
    cases e : itemsAt st k with
    | none => rw [e] at h; cases h
    | some xs =>
      rw [e] at h
      cases h
      obtain ⟨vs, s, _⟩ := rs.seqL g e
      rcases s with (s | ⟨o, s⟩) | ⟨o, its, n, s, c, _⟩
      · exact .base (.lst s)
      · exact .base (.frz s)
      · exact .kList s c
  | opq _ => cases h
theorem cd_isi {K : PySem.W.Frag} : CallD K (rIsi K) dIsi := by
  intro cm W φ H σ st xs vs Q rs r h
  unfold dIsi at h
  split at h
  · rename_i x T
    obtain ⟨v, w, rfl, r1, r2⟩ := r.two
    cases r2
    split at h
    · rename_i n en
      split at h
      · rename_i b eb
        exact ⟨v, .ty T, .type n, .type T, b, rfl, .ty T, tyName_ty rs r1 en, kit_ty eb, AtG.here h rs (.bl b)⟩
      · exact h.elim
    · exact h.elim
  · exact h.elim

def dIntS : List D → S → Res D
  | [.str x], st => if x.length ≤ 640 then (match PySem.intText? x with
    | some n => .ok (.int n) st
    | none => .stuck) else .stuck
  | xs, st => dInt xs st
def rIntA : List V → Hp → VK → Prop := fun xs H Q => ((∃ i, xs = [.int i] ∧ Q (.int i) H) ∨ ∃ k, xs = [.bl k] ∧ Q (.int (if k then 1 else 0)) H) ∨ (∃ a n, xs = [.str a] ∧ PySem.intText? a = some n ∧ a.length ≤ 640 ∧ Q (.int n) H)
theorem call_intA {X : Cx} : CallR X (.type "int") rIntA := call_int1.or call_int_str
theorem cd_intA {K : PySem.W.Frag} : CallD K rIntA dIntS := by
  intro cm W φ H σ st xs vs Q rs r h
  unfold dIntS at h
  split at h
  · rename_i x
    obtain ⟨v, rfl, r1⟩ := r.one
    cases r1
    split at h
    · rename_i hl
      split at h
      · rename_i n en
        exact .inr ⟨x, n, rfl, en, hl, AtG.here h rs (.int _)⟩
      · exact h.elim
    · exact h.elim
  · exact .inl (cd_int cm W φ H σ st _ vs Q rs r h)

def sPar (is : List Nat) (l : DA) : DS := fun ρ st => (l ρ st).out ρ fun xs st => if xs.length = is.length then .nx ((is.zip xs).foldl (fun ρ p => ρ.set p.1 (some p.2)) ρ) st else .stuck
section
variable {X : Cx} {cm : CM} {W : WX} {i j l : Nat} {x y z : Str} {a b c : Expr} {ml : DA} {px py pz pt pos : Pos} {kt k2 : Nat} {pt2 : Pos}
theorem rS_par (i j : Nat) {kt k2 pt2} (hc : X.calm = true) (hN : X.N.Nodup) (hx : X.env.scope.names.lookup x = some .local) (hy : X.env.scope.names.lookup y = some .local) (ha : PA X [a, b] (tA X.K cm W ml)) (hi : X.N[i]? = some x := by rfl) (hj : X.N[j]? = some y := by rfl) (hij : i ≠ j := by decide)
    (hw : swappedStores [.Tuple [.Name x px, .Name y py] kt pt] (.Tuple [a, b] k2 pt2) X.env = pure (some [x, y]) := by rfl) (hs : swapsWithSole [.Tuple [.Name x px, .Name y py] kt pt] (.Tuple [a, b] k2 pt2) pos.line X.env = pure false := by rfl) :
    PS X (.Assign [.Tuple [.Name x px, .Name y py] kt pt] (.Tuple [a, b] k2 pt2) pos) (tS X.K cm W (sPar [i, j] ml)) := by
  refine conv_S (ps_par hc hN hi hj hij hx hy ha hw hs) fun E σ H h => ?_
  obtain ⟨φ, ρ, st, hd, h⟩ := h
  refine AtS.bind hd h fun xs st1 φ1 H1 vs e1 k1 hd1 r1 h1 => ?_
  split at h1
  · rename_i hl
    cases r1 with
    | nil => cases hl
    | cons q1 t1 =>
      cases t1 with
      | nil => cases hl
      | cons q2 t2 =>
        cases t2 with
        | nil => exact ⟨_, _, rfl, h1.next ⟨hd1.s, (hd1.e.set q1 i).set q2 j⟩⟩
        | cons q3 t3 => simp at hl
  · exact h1.elim
end

open Classical in
noncomputable def sortP (st : S) (xs : List D) : Option (List D) := match optAll (toP st 64) xs with
  | some ds => if PySem.W.AllAlike ds ∧ PySem.W.Sortable ds ∧ xs.length ≤ sizeLine ∧ (∀ d ∈ ds, d.depth ≤ 70) then some ((xs.zip ds).mergeSort (PySem.W.dataLe false fun p => p.2) |>.map (·.1)) else none
  | none => none
theorem dpAll_length {K : PySem.W.Frag} {H : Hp} : ∀ {vs : List V} {ds : List PyData}, DpAll K H vs ds → vs.length = ds.length
  | _, _, .nil => rfl
  | _, _, .cons _ t => by rw [List.length_cons, List.length_cons, dpAll_length t]
theorem each_of {X : Cx} {pins : List (Addr × Obj)} {σ : L2.St} {H : Hp} {s : Shared} (I : Inv X pins σ H s) : ∀ {vs : List V} {ds : List PyData} {us : List Value}, DpAll X.K H vs ds → Vals vs us → PySem.W.EachIs (fun (v : Value) (b : V × PyData) => RelV b.1 v) us (vs.zip ds) ∧ PySem.W.EachIs (fun (v : Value) (b : V × PyData) => ∃ as, Reads s.heap v b.2 as) us (vs.zip ds)
  | _, _, _, .nil, .nil => ⟨.nil, .nil⟩
  | _, _, _, .cons d t, .cons r tr => by
    obtain ⟨h1, h2⟩ := each_of I t tr
    exact ⟨.cons r h1, .cons (d.reads I _ _ _ r) h2⟩
theorem vals_each : ∀ {us : List Value} {bs : List (V × PyData)}, PySem.W.EachIs (fun (v : Value) (b : V × PyData) => RelV b.1 v) us bs → Vals (bs.map (·.1)) us
  | _, _, .nil => .nil
  | _, _, .cons r t => .cons r (vals_each t)
theorem zip_snd {α β : Type} : ∀ {xs : List α} {ys : List β}, xs.length = ys.length → (xs.zip ys).map (·.2) = ys
  | [], [], _ => rfl
  | x :: xs, y :: ys, h => by
    rw [List.zip_cons_cons, List.map_cons, zip_snd (by simpa using h)]
theorem repL_of {K : PySem.W.Frag} {φ : List Addr} {H : Hp} : ∀ {l : List ((D × V) × PyData)}, (∀ t ∈ l, RepV K φ H t.1.1 t.1.2) → RepL K φ H (l.map (·.1.1)) (l.map (·.1.2))
  | [], _ => .nil
  | t :: l, h => .cons (h t List.mem_cons_self) (repL_of fun u hu => h u (List.mem_cons_of_mem _ hu))
theorem repL_zip {K : PySem.W.Frag} {φ : List Addr} {H : Hp} : ∀ {xs : List D} {vs : List V} (ds : List PyData), RepL K φ H xs vs → ∀ t ∈ (xs.zip vs).zip ds, RepV K φ H t.1.1 t.1.2
  | _, _, ds, .nil, t, h => by simp at h
  | _, _, [], .cons _ _, t, h => by simp at h
  | _, _, d :: ds, .cons r rs, t, h => by
    rw [List.zip_cons_cons, List.zip_cons_cons] at h
    rcases List.mem_cons.mp h with e | h
    · subst e
      exact r
    · exact repL_zip ds rs t h
theorem zip_fst3 {α β γ : Type} : ∀ {xs : List α} {vs : List β} {ds : List γ}, xs.length = vs.length → ((xs.zip vs).zip ds).map (fun t => (t.1.1, t.2)) = xs.zip ds ∧ ((xs.zip vs).zip ds).map (fun t => (t.1.2, t.2)) = vs.zip ds
  | [], [], ds, _ => by simp
  | x :: xs, v :: vs, [], _ => by simp
  | x :: xs, v :: vs, d :: ds, h => by
    obtain ⟨h1, h2⟩ := zip_fst3 (xs := xs) (vs := vs) (ds := ds) (by simpa using h)
    simp only [List.zip_cons_cons, List.map_cons, h1, h2, and_self]
theorem sort_rep {K : PySem.W.Frag} {φ : List Addr} {H : Hp} {xs : List D} {vs : List V} (ds : List PyData) (r : RepL K φ H xs vs) :
    RepL K φ H (((xs.zip ds).mergeSort (PySem.W.dataLe false fun p => p.2)).map (·.1)) (((vs.zip ds).mergeSort (PySem.W.dataLe false fun p => p.2)).map (·.1)) := by
  obtain ⟨h1, h2⟩ := zip_fst3 (ds := ds) r.length
  have m1 := PySem.W.sort_maps (r := PySem.W.dataLe false fun t : (D × V) × PyData => t.2) (s := PySem.W.dataLe false fun p : D × PyData => p.2) (fun t : (D × V) × PyData => (t.1.1, t.2)) (l := (xs.zip vs).zip ds) (fun _ _ _ _ => rfl)
  have m2 := PySem.W.sort_maps (r := PySem.W.dataLe false fun t : (D × V) × PyData => t.2) (s := PySem.W.dataLe false fun p : V × PyData => p.2) (fun t : (D × V) × PyData => (t.1.2, t.2)) (l := (xs.zip vs).zip ds) (fun _ _ _ _ => rfl)
  rw [← h1, ← h2, ← m1, ← m2, List.map_map, List.map_map]
  exact repL_of fun t ht => repL_zip ds r t (List.mem_mergeSort.mp ht)
end Rol

namespace Rol
open PySem L2 PySem.Spec
open PyProof.Rows hiding St
section
variable {X : Cx} {cm : CM} {W : WX} {x : Str} {pos : Pos}
theorem rE_gint {i : Int} (h : ∃ t, X.mg x = some (.int i t)) (hg : Gl X x := by rfl) (hd : (x == ("__debug__" : Str)) = false := by decide) : PE X (.Name x pos) (tE X.K cm W (eC (.int i))) := by
  obtain ⟨t, h⟩ := h
  exact rE_glob (v := .int i) h ⟨t, rfl⟩ (fun _ _ => .int i) hg hd
theorem rE_gtup {xs : List D} (h : ∃ a, X.mg x = some (.ref a) ∧ ∀ φ H, RepV X.K φ H (.tup xs) (.ref a)) (hg : Gl X x := by rfl) (hd : (x == ("__debug__" : Str)) = false := by decide) : PE X (.Name x pos) (tE X.K cm W (eC (.tup xs))) := by
  obtain ⟨a, h, r⟩ := h
  exact rE_glob (v := .ref a) h rfl r hg hd
theorem rE_ty (T : String) (hm : X.mg x = none) (hv : bootBuiltins x = some (.type T)) (hg : Gl X x := by rfl) (hn : x ≠ "__name__" := by decide) (hd : (x == ("__debug__" : Str)) = false := by decide) : PE X (.Name x pos) (tE X.K cm W (eC (.opq (.ty T)))) :=
  rE_bltn (v := .ty T) (u := .type T) hm hv rfl (fun _ _ => .opq _) hg hn hd
theorem blk_of {N : List Str} {sc scope : Scope} {own : List (Str × Nat)} (h : blkC N sc scope own = true) (hN : X.N = N := by rfl) (hs : X.env.scope = sc := by rfl) : BlkOk X.N X.env.scope scope own := by
  rw [hN, hs]
  exact blkOk_by h
end

def permL {α : Type} (perm : List Nat) (ws : List α) : List α := perm.filterMap (ws[·]?)
theorem permL_length {α : Type} : ∀ (perm : List Nat) (ws : List α), (∀ j ∈ perm, j < ws.length) → (permL perm ws).length = perm.length
  | [], _, _ => rfl
  | j :: perm, ws, h => by
    have hj : j < ws.length := h j List.mem_cons_self
    unfold permL
    rw [List.filterMap_cons, List.getElem?_eq_getElem hj]
    show ((permL perm ws).length + 1) = _
    rw [permL_length perm ws fun i hi => h i (List.mem_cons_of_mem _ hi), List.length_cons]
theorem permL_rep {K : PySem.W.Frag} {φ : List Addr} {H : Hp} {ws : List D} {vs : List V} (r : RepL K φ H ws vs) : ∀ perm : List Nat, RepL K φ H (permL perm ws) (permL perm vs)
  | [] => .nil
  | j :: perm => by
    unfold permL
    rw [List.filterMap_cons, List.filterMap_cons]
    cases e : ws[j]? with
    | none =>
      have : vs[j]? = none := List.getElem?_eq_none (by rw [← r.length]; exact List.getElem?_eq_none_iff.mp e)
      rw [this]
      exact permL_rep r perm
    | some x =>
      obtain ⟨v, h1, h2⟩ := r.get e
      rw [h1]
      exact .cons h2 (permL_rep r perm)
theorem permL_vals {vs : List V} {us : List Value} (r : Vals vs us) : ∀ perm : List Nat, Vals (permL perm vs) (permL perm us)
  | [] => .nil
  | j :: perm => by
    unfold permL
    rw [List.filterMap_cons, List.filterMap_cons]
    cases e : vs[j]? with
    | none =>
      rw [r.none_of e]
      exact permL_vals r perm
    | some x =>
      obtain ⟨u, h1, h2⟩ := r.get e
      rw [h1]
      exact .cons h2 (permL_vals r perm)
/-- how keywords alone bind -/
def KwB (fd : FuncData) (ps ks : List Str) (perm : List Nat) : Prop := ∀ ws : List Value, ws.length = ks.length → bindArgs fd ⟨[], ks.zip ws⟩ = pure (ps.zip (permL perm ws))
def eFnK0 (m : Fn) (perm : List Nat) (l : DA) : DE := fun ρ st => (l ρ st).bind fun ys st => m (permL perm ys) st
section
variable {X : Cx} {cm : CM} {W : WX} {k : Nat} {f : Addr} {fd : FuncData} {ps : List Str} {x : Str} {p pos : Pos} {kws : List Keyword} {t : TA} {sp : Sp}
theorem pe_callK0 (ks : List Str) (perm : List Nat) (F : FnG X.prog X.w X.K X.mg X.base k f fd ps sp) (hG : X.A.guards = some []) (hr : Room k X.A) (hm : X.mg x = some (.ref f)) (hk : PySem.W.keepIn X.K (.ref f) = true) (hb : KwB fd ps ks perm) (tk : Takes X W) (hkw : PK X kws t) (hg : Gl X x)
    (hall : (backToKw pos (keywordEach kws X.env)).all (·.1.isSome) = true) (hks : (backToKw pos (keywordEach kws X.env)).filterMap (·.1) = ks) (hdb : (x == ("__debug__" : Str)) = false) (hpl : ((backTo pos (starEach [] X.env)).any (·.1) || (backToKw pos (keywordEach kws X.env)).any (·.1.isNone)) = false) :
    PE X (.Call (.Name x p) [] kws pos) (fun σ H Q => t σ H fun vs H1 => vs.length = ks.length ∧ sp (permL perm vs) H1 Q (WE W σ)) := by
  constructor
  intro pins s σ H Q I h
  apply wpAny_Call_Name_kw
  apply ld_glob I hg hm _ hdb
  refine PySem.W.callWith_KW0 (h₀ := X.base) I.ok.mod.kin hk hall ?_ hpl
  apply thn (hkw.run pos pins s σ H _ I h)
  rintro ws s1 ⟨vs, H1, I1, r, n1, q⟩
  refine ⟨I1.kIn, ?_⟩
  rw [hks]
  exact F.at hG hr tk (us := permL perm ws) (fun _ => .of_eq (hb ws (r.length.symm.trans n1))) I1 (permL_vals r perm) q
theorem rE_fnK0 (ks : List Str) (perm : List Nat) {m : Fn} {n : Nat} {mk : DA} (F : FnG X.prog X.w X.K X.mg X.base k f fd ps (spD X.K cm n m)) (hG : X.A.guards = some []) (hr : Room k X.A) (hm : X.mg x = some (.ref f)) (hk : PySem.W.keepIn X.K (.ref f) = true) (hb : KwB fd ps ks perm) (tk : Takes X W) (hkw : PK X kws (tA X.K cm W mk)) (al : AL mk n)
    (hn : perm.length = n := by rfl) (hn2 : ks.length = n := by rfl) (hj : ∀ j ∈ perm, j < n := by decide) (hg : Gl X x := by rfl) (hall : (backToKw pos (keywordEach kws X.env)).all (·.1.isSome) = true := by rfl) (hks : (backToKw pos (keywordEach kws X.env)).filterMap (·.1) = ks := by rfl) (hdb : (x == ("__debug__" : Str)) = false := by decide)
    (hpl : ((backTo pos (starEach [] X.env)).any (·.1) || (backToKw pos (keywordEach kws X.env)).any (·.1.isNone)) = false := by rfl) : PE X (.Call (.Name x p) [] kws pos) (tE X.K cm W (eFnK0 m perm mk)) := by
  refine conv_E (pe_callK0 ks perm F hG hr hm hk hb tk hkw hg hall hks hdb hpl) fun σ H Q h => ?_
  obtain ⟨φ, ρ, st, hd, h⟩ := h
  refine ⟨φ, ρ, st, hd, ?_⟩
  unfold eFnK0 at h
  cases er : mk ρ st with
  | ok xs st1 =>
    rw [er] at h
    have n1 := al ρ st xs st1 er
    exact fun φ2 H2 vs e2 k2 s2 r2 => ⟨by rw [← r2.length, n1, hn2], spD_of s2 (permL_rep r2 perm) (by rw [permL_length _ _ (fun j h' => by rw [← r2.length, n1]; exact hj j h'), hn]) (AtG.mono e2 k2 h)⟩
  | exc c w st1 => rw [er] at h; exact h
  | stuck => rw [er] at h; exact h
end
end Rol

namespace Rol
open PySem L2 PySem.Spec
open PyProof.Rows hiding St

def dd {α : Type} (acc : List (List Key × α)) (p : List Key × α) : List (List Key × α) := if acc.any (fun q => decide (q.1 = p.1)) = true then acc else acc ++ [p]
def dedup {α : Type} (ps : List (List Key × α)) : List (List Key × α) := ps.foldl dd []
section
variable {X : Cx} {pins : List (Addr × Obj)} {σ : L2.St} {H : Hp} {s : Shared}
end
section
variable {X : Cx} {cm : CM} {W : WX} {e : Expr} {m : DE} {p p2 pos pos2 : Pos}
end
end Rol

namespace Rol
open PySem L2 PySem.Spec
open PyProof.Rows hiding St

abbrev rw' (r : List Int) : D := .tup (r.map D.int)
def rows' (rs : List (List Int)) : D := .tup (rs.map rw')
def pr (r : List Int) : PyData := .tuple (r.map .int)
theorem optAll_map {α β γ : Type} {f : α → Option β} {g : γ → α} {h : γ → β} : ∀ (l : List γ), (∀ x ∈ l, f (g x) = some (h x)) → optAll f (l.map g) = some (l.map h)
  | [], _ => rfl
  | x :: l, e => by
    rw [List.map_cons, optAll, e x (List.mem_cons_self ..), optAll_map l fun y hy => e y (List.mem_cons_of_mem _ hy)]
    rfl
@[simp] theorem toP_int (st : S) (n : Nat) (i : Int) : toP st n (.int i) = some (.int i) := by cases n <;> rfl
@[simp] theorem toP_bl (st : S) (n : Nat) (b : Bool) : toP st n (.bl b) = some (.bool b) := by cases n <;> rfl
@[simp] theorem toP_str (st : S) (n : Nat) (b : Str) : toP st n (.str b) = some (.str b) := by cases n <;> rfl
@[simp] theorem toP_non (st : S) (n : Nat) : toP st n .non = some .none := by cases n <;> rfl
theorem toP_rw (st : S) (n : Nat) (r : List Int) : toP st (n + 1) (rw' r) = some (pr r) := by
  rw [toP, optAll_map (h := PyData.int) r fun x _ => toP_int st n x]
  rfl
theorem toP_rows (st : S) (n : Nat) (rs : List (List Int)) : toP st (n + 2) (rows' rs) = some (.tuple (rs.map pr)) := by
  unfold rows'
  rw [toP, optAll_map (h := pr) rs fun x _ => toP_rw st n x]
  rfl
theorem beq_dec (a b : Int) : (a == b) = decide (a = b) := by rw [Bool.eq_iff_iff, beq_iff_eq, decide_eq_true_eq]
theorem eqvAll_ints : ∀ (xs ys : List Int), PyData.eqvAll (xs.map .int) (ys.map .int) = decide (xs = ys)
  | [], [] => by simp [PyData.eqvAll]
  | [], _ :: _ => by simp [PyData.eqvAll]
  | _ :: _, [] => by simp [PyData.eqvAll]
  | x :: xs, y :: ys => by
    rw [List.map_cons, List.map_cons, PyData.eqvAll, PyData.eqv, beq_dec, eqvAll_ints xs ys, ← Bool.decide_and]
    exact decide_eq_decide.mpr (by rw [List.cons.injEq])
theorem eqv_pr (a b : List Int) : PyData.eqv (pr a) (pr b) = decide (a = b) := by
  unfold pr
  rw [PyData.eqv, eqvAll_ints]
theorem eqvAll_prs : ∀ (xs ys : List (List Int)), PyData.eqvAll (xs.map pr) (ys.map pr) = decide (xs = ys)
  | [], [] => by simp [PyData.eqvAll]
  | [], _ :: _ => by simp [PyData.eqvAll]
  | _ :: _, [] => by simp [PyData.eqvAll]
  | x :: xs, y :: ys => by
    rw [List.map_cons, List.map_cons, PyData.eqvAll, eqv_pr, eqvAll_prs xs ys, ← Bool.decide_and]
    exact decide_eq_decide.mpr (by rw [List.cons.injEq])
theorem canLay_ints : ∀ r : List Int, PyData.canLayAll0 (r.map .int) = true
  | [] => by simp [PyData.canLayAll0]
  | x :: r => by simp [PyData.canLayAll0, PyData.canLay0, canLay_ints r]
theorem canLay_pr (r : List Int) : PyData.canLay0 (pr r) = true := by simp [pr, PyData.canLay0, canLay_ints]
theorem canLay_prs : ∀ rs : List (List Int), PyData.canLayAll0 (rs.map pr) = true
  | [] => by simp [PyData.canLayAll0]
  | x :: r => by simp [PyData.canLayAll0, canLay_pr, canLay_prs r]
theorem depth_ints : ∀ r : List Int, PyData.depthAll (r.map .int) = 0
  | [] => by simp [PyData.depthAll]
  | x :: r => by simp [PyData.depthAll, PyData.depth, depth_ints r]
theorem depth_pr (r : List Int) : PyData.depth (pr r) = 1 := by simp [pr, PyData.depth, depth_ints]
theorem depth_prs : ∀ rs : List (List Int), PyData.depthAll (rs.map pr) ≤ 1
  | [] => by simp [PyData.depthAll]
  | x :: r => by
    rw [List.map_cons, PyData.depthAll, depth_pr]
    exact Nat.max_le.mpr ⟨Nat.le_refl _, depth_prs r⟩
theorem shaped_int (i : Int) : SeqAt.shaped (.int i) = true := by simp [SeqAt.shaped, PyData.canLay0, PyData.depth]
theorem shaped_pr (r : List Int) : SeqAt.shaped (pr r) = true := by simp [SeqAt.shaped, canLay_pr, depth_pr]
theorem shaped_tprs (rs : List (List Int)) : SeqAt.shaped (.tuple (rs.map pr)) = true := by
  have := depth_prs rs
  have h1 : PyData.depth (.tuple (rs.map pr)) ≤ 64 := by rw [PyData.depth]; omega
  have h2 : PyData.canLay0 (.tuple (rs.map pr)) = true := by rw [PyData.canLay0]; exact canLay_prs rs
  unfold SeqAt.shaped
  rw [h2, decide_eq_true h1]
  rfl
theorem shaped_lints (r : List Int) : SeqAt.shaped (.list (r.map .int)) = true := by
  simp [SeqAt.shaped, PyData.canLay0, canLay_ints, PyData.depth, depth_ints]

@[simp] theorem dEq_int (i j : Int) (st : S) : dEq (.int i) (.int j) st = .ok (.bl (decide (i = j))) st := by
  simp [dEq, dEqD, shaped_int, PyData.eqv, beq_dec]
@[simp] theorem dNe_int (i j : Int) (st : S) : dNe (.int i) (.int j) st = .ok (.bl (!decide (i = j))) st := by
  simp [dNe, dNeD, shaped_int, PyData.eqv, beq_dec]
@[simp] theorem dEq_str (a b : Str) (st : S) : dEq (.str a) (.str b) st = .ok (.bl (decide (a = b))) st := rfl
@[simp] theorem dNe_str (a b : Str) (st : S) : dNe (.str a) (.str b) st = .ok (.bl (!decide (a = b))) st := rfl
@[simp] theorem dEq_rw (a b : List Int) (st : S) : dEq (rw' a) (rw' b) st = .ok (.bl (decide (a = b))) st := by
  show dEqD (rw' a) (rw' b) st = _
  unfold dEqD
  rw [toP_rw, toP_rw]
  simp [shaped_pr, eqv_pr]
@[simp] theorem dNe_rw (a b : List Int) (st : S) : dNe (rw' a) (rw' b) st = .ok (.bl (!decide (a = b))) st := by
  show dNeD (rw' a) (rw' b) st = _
  unfold dNeD
  rw [toP_rw, toP_rw]
  simp [shaped_pr, eqv_pr]
@[simp] theorem dEq_rows (a b : List (List Int)) (st : S) : dEq (rows' a) (rows' b) st = .ok (.bl (decide (a = b))) st := by
  show dEqD (rows' a) (rows' b) st = _
  unfold dEqD
  rw [toP_rows, toP_rows]
  simp [shaped_tprs, PyData.eqv, eqvAll_prs]
theorem any_pr (rs : List (List Int)) (r : List Int) : ((rs.map pr).any fun z => PyData.eqv z (pr r)) = decide (r ∈ rs) := by
  rw [Bool.eq_iff_iff, List.any_eq_true, decide_eq_true_eq]
  constructor
  · rintro ⟨z, hz, e⟩
    obtain ⟨y, hy, rfl⟩ := List.mem_map.mp hz
    rw [eqv_pr, decide_eq_true_eq] at e
    exact e ▸ hy
  · intro h
    exact ⟨pr r, List.mem_map.mpr ⟨r, h, rfl⟩, by rw [eqv_pr]; simp⟩
theorem any_int (rs : List Int) (r : Int) : ((rs.map PyData.int).any fun z => PyData.eqv z (.int r)) = decide (r ∈ rs) := by
  rw [Bool.eq_iff_iff, List.any_eq_true, decide_eq_true_eq]
  constructor
  · rintro ⟨z, hz, e⟩
    obtain ⟨y, hy, rfl⟩ := List.mem_map.mp hz
    simp [PyData.eqv] at e
    exact e ▸ hy
  · intro h
    exact ⟨.int r, List.mem_map.mpr ⟨r, h, rfl⟩, by simp [PyData.eqv]⟩
@[simp] theorem dIn_rows (neg : Bool) (r : List Int) (rs : List (List Int)) (st : S) : dIn neg (rw' r) (rows' rs) st = .ok (.bl (if neg = true then !decide (r ∈ rs) else decide (r ∈ rs))) st := by
  unfold dIn
  rw [toP_rw, toP_rows]
  simp only [shaped_pr, shaped_tprs, and_self, if_true, any_pr]
theorem short_shown {i : Int} (h : -1000 < i ∧ i < 1000) : (PyData.shown (.int i)).length ≤ 13 := by
  have key : ∀ n : Fin 2001, (PyData.shown (.int ((n.val : Int) - 1000))).length ≤ 13 := by decide +kernel
  have := key ⟨(i + 1000).toNat, by omega⟩
  have e : (((i + 1000).toNat : Nat) : Int) - 1000 = i := by omega
  simp only [e] at this
  exact this
theorem log_small {i : Int} (h : -1000 < i ∧ i < 1000) : i.natAbs.log2 < 10 := by
  by_cases z : i.natAbs = 0
  · rw [z]; decide
  · rw [Nat.log2_lt z]; omega
theorem alikeAll_ints : ∀ a b : List Int, PySem.W.alikeAll (a.map .int) (b.map .int) = true
  | [], _ => by simp [PySem.W.alikeAll]
  | _ :: _, [] => by simp [PySem.W.alikeAll]
  | x :: a, y :: b => by simp [PySem.W.alikeAll, PySem.W.alike, alikeAll_ints a b]
theorem alike_pr (a b : List Int) : PySem.W.alike (pr a) (pr b) = true := by simp [pr, PySem.W.alike, alikeAll_ints]
theorem lt_ints : ∀ a b : List Int, PyProof.Rows.lexLt itemOrd (PySem.W.keyToksAll (a.map .int)) (PySem.W.keyToksAll (b.map .int)) = HT.lexLt a b
  | [], [] => by simp [PySem.W.keyToksAll, HT.lexLt, lex_irrefl]
  | [], y :: b => by
    simp only [List.map_nil, List.map_cons, PySem.W.keyToksAll]
    rw [lex_diff (O := itemOrd) (by simp)]
    simp [HT.lexLt, itemLt]
  | x :: a, [] => by
    simp only [List.map_nil, List.map_cons, PySem.W.keyToksAll]
    rw [lex_diff (O := itemOrd) (by simp)]
    simp [HT.lexLt, itemLt]
  | x :: a, y :: b => by
    rw [List.map_cons, List.map_cons, HT.lexLt]
    by_cases e : x = y
    · rw [PySem.W.dataLt_all_yes (by simp [PySem.W.alike]) (by simp [PyData.eqv, e]), if_pos e, lt_ints a b]
    · rw [PySem.W.dataLt_all_no (by simp [PySem.W.alike]) (by simp [PyData.eqv, e]), if_neg e]
      unfold PySem.W.dataLt
      simp only [PySem.W.keyToks]
      rw [lex_diff (O := itemOrd) (by simp [e])]
      simp [itemLt]
/-- a ≤ b of rows -/
def rle (a b : List Int) : Bool := !HT.lexLt b a
theorem dataLe_pr (a b : List Int) : PySem.W.dataLe false pr a b = rle a b := by
  show (!PyProof.Rows.lexLt itemOrd (PySem.W.keyToks (pr b)) (PySem.W.keyToks (pr a))) = _
  have e : ∀ r : List Int, PySem.W.keyToks (pr r) = PySem.W.keyToksAll (r.map .int) := fun r => by simp [pr, PySem.W.keyToks]
  rw [e, e, lt_ints]
  rfl
end Rol

namespace Rol
open PySem L2 PySem.Spec
open PyProof.Rows hiding St

theorem rle_total : PySem.W.TotalLe rle := by
  have h := PySem.W.sortLe_total (listOrd itemOrd) false (fun r => PySem.W.keyToks (pr r))
  have e : PySem.W.sortLe (listOrd itemOrd) false (fun r => PySem.W.keyToks (pr r)) = rle := by
    funext a b
    exact dataLe_pr a b
  rw [e] at h
  exact h
theorem lexLt_anti : ∀ a b : List Int, HT.lexLt a b = false → HT.lexLt b a = false → a = b
  | [], [], _, _ => rfl
  | [], _ :: _, h, _ => by simp [HT.lexLt] at h
  | _ :: _, [], _, h => by simp [HT.lexLt] at h
  | x :: a, y :: b, h1, h2 => by
    rw [HT.lexLt] at h1 h2
    by_cases e : x = y
    · subst e
      rw [if_pos rfl] at h1 h2
      rw [lexLt_anti a b h1 h2]
    · rw [if_neg e] at h1
      rw [if_neg (Ne.symm e)] at h2
      simp only [decide_eq_false_iff_not] at h1 h2
      omega
structure Gr (st st' : S) : Prop where
  le : st.length ≤ st'.length
  get : ∀ i, i < st.length → st'[i]? = st[i]?
theorem Gr.refl (st : S) : Gr st st := ⟨Nat.le_refl _, fun _ _ => rfl⟩
theorem Gr.trans {a b c : S} (h : Gr a b) (k : Gr b c) : Gr a c := ⟨Nat.le_trans h.le k.le, fun i hi => (k.get i (Nat.lt_of_lt_of_le hi h.le)).trans (h.get i hi)⟩
theorem Gr.app (st l : S) : Gr st (st ++ l) := ⟨by simp, fun i hi => List.getElem?_append_left hi⟩
theorem Gr.set {st s : S} (h : Gr st s) {n : Nat} {o : O} (hn : st.length ≤ n) : Gr st (s.set n o) := ⟨by rw [List.length_set]; exact h.le, fun i hi => by
  rw [List.getElem?_set_ne (by omega)]
  exact h.get i hi⟩
theorem itemsAt_lt {st : S} {k : Nat} {xs : List D} (h : itemsAt st k = some xs) : k < st.length := by
  unfold itemsAt at h
  cases e : st[k]? with
  | none =>
    rw [e] at h
    cases h
  | some o => exact (List.getElem?_eq_some_iff.mp e).1
theorem Gr.items {st st' : S} (h : Gr st st') {k : Nat} {xs : List D} (e : itemsAt st k = some xs) : itemsAt st' k = some xs := by
  unfold itemsAt at e ⊢
  rw [h.get k (itemsAt_lt e)]
  exact e
theorem Gr.at {st st' : S} (h : Gr st st') {k : Nat} {o : O} (e : st[k]? = some o) : st'[k]? = some o := (h.get k (List.getElem?_eq_some_iff.mp e).1).trans e
theorem items_of {st : S} {k : Nat} {xs : List D} (e : st[k]? = some (.lst xs)) : itemsAt st k = some xs := by
  unfold itemsAt
  rw [e]

/-- the jar at j: two numbers, the first no less than 0 -/
def Jar (j : Nat) (st : S) : Prop := ∃ a b : Int, 0 ≤ a ∧ st[j]? = some (.lst [.int a, .int b])
structure Ev (j : Nat) (st st' : S) : Prop where
  le : st.length ≤ st'.length
  get : ∀ i, i < st.length → i ≠ j → st'[i]? = st[i]?
  jar : Jar j st'
theorem Jar.lt {j : Nat} {st : S} (h : Jar j st) : j < st.length := by
  obtain ⟨a, b, _, e⟩ := h
  exact (List.getElem?_eq_some_iff.mp e).1
theorem Jar.gr {j : Nat} {st st' : S} (h : Jar j st) (g : Gr st st') : Jar j st' := by
  obtain ⟨a, b, h0, e⟩ := h
  exact ⟨a, b, h0, g.at e⟩
theorem Ev.refl {j : Nat} {st : S} (h : Jar j st) : Ev j st st := ⟨Nat.le_refl _, fun _ _ _ => rfl, h⟩
theorem Ev.trans {j : Nat} {a b c : S} (h : Ev j a b) (k : Ev j b c) : Ev j a c := ⟨Nat.le_trans h.le k.le, fun i hi ne => (k.get i (Nat.lt_of_lt_of_le hi h.le) ne).trans (h.get i hi ne), k.jar⟩
theorem Ev.gr {j : Nat} {a b c : S} (h : Ev j a b) (k : Gr b c) : Ev j a c := ⟨Nat.le_trans h.le k.le, fun i hi ne => (k.get i (Nat.lt_of_lt_of_le hi h.le)).trans (h.get i hi ne), h.jar.gr k⟩
theorem Gr.ev {j : Nat} {a b : S} (k : Gr a b) (h : Jar j a) : Ev j a b := (Ev.refl h).gr k
theorem Ev.set {j : Nat} {st s : S} (h : Ev j st s) {n : Nat} {o : O} (hn : st.length ≤ n) (hj : n ≠ j) : Ev j st (s.set n o) := by
  refine ⟨by rw [List.length_set]; exact h.le, fun i hi ne => ?_, ?_⟩
  · rw [List.getElem?_set_ne (by omega)]
    exact h.get i hi ne
  · obtain ⟨a, b, h0, e⟩ := h.jar
    exact ⟨a, b, h0, by rw [List.getElem?_set_ne hj]; exact e⟩
theorem Ev.at {j : Nat} {st st' : S} (h : Ev j st st') {k : Nat} {o : O} (hk : k ≠ j) (e : st[k]? = some o) : st'[k]? = some o := (h.get k (List.getElem?_eq_some_iff.mp e).1 hk).trans e
theorem Ev.items {j : Nat} {st st' : S} (h : Ev j st st') {k : Nat} {xs : List D} (hk : k ≠ j) (e : itemsAt st k = some xs) : itemsAt st' k = some xs := by
  unfold itemsAt at e ⊢
  rw [h.get k (itemsAt_lt e) hk]
  exact e

inductive Pd {α β : Type} (R : α → β → Prop) : List α → List β → Prop
  | nil : Pd R [] []
  | cons {a : α} {b : β} {as : List α} {bs : List β} : R a b → Pd R as bs → Pd R (a :: as) (b :: bs)
theorem Pd.length {α β : Type} {R : α → β → Prop} : ∀ {as : List α} {bs : List β}, Pd R as bs → bs.length = as.length
  | _, _, .nil => rfl
  | _, _, .cons _ t => by rw [List.length_cons, List.length_cons, t.length]
theorem Pd.all {α β : Type} {P : β → Prop} : ∀ {as : List α} {bs : List β}, Pd (fun _ b => P b) as bs → ∀ b ∈ bs, P b
  | _, _, .nil, _, h => by cases h
  | _, _, .cons h t, _, m => by
    cases m with
    | head => exact h
    | tail _ m => exact t.all _ m
theorem Gd.gr {g : Gk} {xs : List D} {st st' : S} (h : Gd g xs st) (k : Gr st st') : Gd g xs st' := by
  cases g with
  | none => trivial
  | some i =>
    obtain ⟨ys, h1, h2⟩ := h
    exact ⟨ys, k.items h1, h2⟩
theorem Gd.ev {j : Nat} {g : Gk} {xs : List D} {st st' : S} (h : Gd g xs st) (k : Ev j st st') (hj : gk g ≠ some j) : Gd g xs st' := by
  cases g with
  | none => trivial
  | some i =>
    obtain ⟨ys, h1, h2⟩ := h
    exact ⟨ys, k.items (fun e => hj (by rw [← e]; rfl)) h1, h2⟩
end Rol

namespace Rol
open PySem L2 PySem.Spec
open PyProof.Rows hiding St

section
variable {m n mo mi ma mb mc : DE} {c c' : DT} {l l' : DA} {s1 s2 s3 s4 st st' : S} {ρ ρ' : Nv} {o : Out} {sm sn : DS} {i j k : Nat} {x y z v w d : D} {xs ys : List D} {b b' : Bool} {f g : D → D → S → Res D}
theorem x_seq (h : sm ρ st = .nx ρ' st') (h2 : sn ρ' st' = o) : sSeq sm sn ρ st = o := by unfold sSeq; rw [h]; exact h2
theorem x_seqr (h : sm ρ st = .rt v st') : sSeq sm sn ρ st = .rt v st' := by unfold sSeq; rw [h]
theorem x_set (h : m ρ st = .ok v st') : sSet i m ρ st = .nx (ρ.set i (some v)) st' := by unfold sSet; rw [h]; rfl
inductive SetTo (ρ : Nv) (i : Nat) (v : D) (ρ' : Nv) : Prop
  | mk (h : ρ.set i (some v) = ρ') : SetTo ρ i v ρ'
inductive EnvEq (ρ ρ' : Nv) : Prop
  | mk (h : ρ = ρ') : EnvEq ρ ρ'
theorem x_setE (h : m ρ st = .ok v st') (h2 : SetTo ρ i v ρ') : sSet i m ρ st = .nx ρ' st' := by
  obtain ⟨h2⟩ := h2
  subst h2
  exact x_set h
theorem x_exprE (h : m ρ st = .ok v st') (h2 : EnvEq ρ ρ') : sExpr m ρ st = .nx ρ' st' := by
  obtain ⟨h2⟩ := h2
  subst h2
  unfold sExpr
  rw [h]
  rfl
theorem x_ret (h : m ρ st = .ok v st') : sRet m ρ st = .rt v st' := by unfold sRet; rw [h]; rfl
theorem x_ift (h : c ρ st = .ok b st') (hb : b = true) (h2 : sm ρ st' = o) : sIf c sm sn ρ st = o := by unfold sIf; rw [h]; simp only [Res.out_ok, if_pos hb]; exact h2
theorem x_iff (h : c ρ st = .ok b st') (hb : b = false) (h2 : sn ρ st' = o) : sIf c sm sn ρ st = o := by subst hb; unfold sIf; rw [h]; exact h2
theorem x_skip : sSkip ρ st = .nx ρ st := rfl
theorem x_sub {sf : D → D → D → S → Option S} (h : m ρ st = .ok v s1) (h2 : mo ρ s1 = .ok x s2) (h3 : mi ρ s2 = .ok y s3) (h4 : sf x y v s3 = some s4) : sSub sf mo mi m ρ st = .nx ρ s4 := by
  unfold sSub
  rw [h]
  simp only [Res.out_ok]
  rw [h2]
  simp only [Res.out_ok]
  rw [h3]
  simp only [Res.out_ok]
  rw [h4]
theorem x_var (h : ρ[i]? = some (some d)) : eVar i ρ st = .ok d st := by unfold eVar; rw [h]
theorem x_c : eC d ρ st = .ok d st := rfl
theorem x_nil : aNil ρ st = .ok [] st := rfl
theorem x_cons (h : m ρ st = .ok x s1) (h2 : l ρ s1 = .ok xs s2) : aCons m l ρ st = .ok (x :: xs) s2 := by unfold aCons; rw [h, Res.bind_ok, h2]; rfl
theorem x_tup (h : l ρ st = .ok xs st') (hl : xs.length ≤ sizeLine) : eTup l ρ st = .ok (.tup xs) st' := by unfold eTup; rw [h, Res.bind_ok, if_pos hl]
theorem x_lst (h : l ρ st = .ok xs st') (hl : xs.length ≤ sizeLine) : eLst l ρ st = .ok (.loc st'.length) (st' ++ [.lst xs]) := by unfold eLst; rw [h, Res.bind_ok, if_pos hl]
theorem x_2 (h : ma ρ st = .ok x s1) (h2 : mb ρ s1 = .ok y s2) (h3 : f x y s2 = .ok v s3) : e2 f ma mb ρ st = .ok v s3 := by unfold e2; rw [h, Res.bind_ok, h2, Res.bind_ok, h3]
theorem x_1 {f : D → S → Res D} (h : ma ρ st = .ok x s1) (h3 : f x s1 = .ok v s3) : e1 f ma ρ st = .ok v s3 := by unfold e1; rw [h, Res.bind_ok, h3]
theorem x_call {f : List D → S → Res D} (h : l ρ st = .ok xs s1) (h3 : f xs s1 = .ok v s3) : eCall f l ρ st = .ok v s3 := by unfold eCall; rw [h, Res.bind_ok, h3]
theorem x_fn {f : Fn} (h : l ρ st = .ok xs s1) (h3 : f xs s1 = .ok v s3) : eFn f l ρ st = .ok v s3 := by unfold eFn; rw [h, Res.bind_ok, h3]
theorem x_tof (h : m ρ st = .ok (.bl b) s1) : tOf m ρ st = .ok b s1 := by unfold tOf; rw [h]; rfl
theorem x_tnot (h : c ρ st = .ok b s1) : tNotD c ρ st = .ok (!b) s1 := by unfold tNotD; rw [h]; rfl
theorem x_and2 (h : m ρ st = .ok (.bl b) s1) (h2 : n ρ s1 = .ok (.bl b') s1) : eAnd m n ρ st = .ok (.bl (b && b')) s1 := by
  unfold eAnd
  rw [h]
  cases b with
  | true => exact h2
  | false => rfl
theorem x_sl {lo hi : DO} {p q : Option Int} (h : m ρ st = .ok x s1) (h2 : lo ρ s1 = .ok p s2) (h3 : hi ρ s2 = .ok q s3) (h4 : dSl x p q s3 = .ok v s4) : eSl m lo hi ρ st = .ok v s4 := by unfold eSl; rw [h, Res.bind_ok, h2, Res.bind_ok, h3, Res.bind_ok, h4]
theorem x_on : oNone ρ st = .ok none st := rfl
theorem x_os {i : Int} (h : m ρ st = .ok (.int i) s1) : oSome m ρ st = .ok (some i) s1 := by unfold oSome; rw [h]; rfl
theorem x_body {q : Nat} (h : sm (xs.map some ++ List.replicate (q - xs.length) none) st = .rt v st') : body q sm xs st = .ok v st' := by unfold body; rw [h]
end
section
variable {i j : Int} {st st' : S} {xs ys : List D} {k : Nat} {x : D}
theorem atI_nat {α : Type} (xs : List α) (i : Nat) (h : i < xs.length) : atI xs (i : Int) = xs[i]? := by
  unfold atI ixN
  rw [if_pos (by omega), if_pos (by omega)]
  simp
theorem l_ixl (e : st[k]? = some (.lst xs)) (hx : atI xs i = some x) : dIx (.loc k) (.int i) st = .ok x st := by
  unfold dIx
  simp only [items_of e, hx]
theorem cMul_r (h1 : -(2 ^ 64) < j) (h2 : j < 2 ^ 64) : cMul i j = true := by
  unfold cMul
  rw [decide_eq_true h1, decide_eq_true h2]
  simp
theorem l_mul (h : cMul i j = true) : dMul (.int i) (.int j) st = .ok (.int (i * j)) st := by
  show (if cMul i j = true then Res.ok (D.int (i * j)) st else .stuck) = _
  rw [if_pos h]
theorem l_mod (h : 0 < j) : dMod (.int i) (.int j) st = .ok (.int (i % j)) st := by simp [dMod, i2c, h]
theorem l_fdiv (h : 0 < j) (h2 : j.natAbs.log2 < 9000) : dFdiv (.int i) (.int j) st = .ok (.int (i / j)) st := by simp [dFdiv, i2c, h, h2]
theorem l_add : dAdd (.int i) (.int j) st = .ok (.int (i + j)) st := rfl
theorem l_sub : dSub (.int i) (.int j) st = .ok (.int (i - j)) st := rfl
theorem l_neg : dNeg (.int i) st = .ok (.int (-i)) st := rfl
theorem l_lt : dLt (.int i) (.int j) st = .ok (.bl (decide (i < j))) st := rfl
theorem l_le : dLe (.int i) (.int j) st = .ok (.bl (decide (i ≤ j))) st := rfl
theorem l_gt : dGt (.int i) (.int j) st = .ok (.bl (decide (j < i))) st := rfl
theorem l_ge : dGe (.int i) (.int j) st = .ok (.bl (decide (j ≤ i))) st := rfl
theorem l_lent : dLen [.tup xs] st = .ok (.int xs.length) st := rfl
theorem l_lenl (h : itemsAt st k = some xs) : dLen [.loc k] st = .ok (.int xs.length) st := by unfold dLen; simp only [h]
theorem l_inti : dIntS [.int i] st = .ok (.int i) st := rfl
theorem l_intb {b : Bool} : dIntS [.bl b] st = .ok (.int (if b then 1 else 0)) st := rfl
theorem l_tup : dTuple [.tup xs] st = .ok (.tup xs) st := rfl
theorem l_slt {p q : Option Int} : dSl (.tup xs) p q st = .ok (.tup (cutD xs p q)) st := rfl
theorem l_set {v : D} {q : Nat} (e : st[k]? = some (.lst xs)) (h : ixN xs.length i = some q) : dSetIx (.loc k) (.int i) v st = some (st.set k (.lst (xs.set q v))) := by
  unfold dSetIx
  simp only [e, h]
theorem jar_set {j : Nat} {st : S} (h : Jar j st) {a b : Int} (h0 : 0 ≤ a) : Ev j st (st.set j (.lst [.int a, .int b])) :=
  ⟨by simp, fun i hi ne => by rw [List.getElem?_set_ne (Ne.symm ne)], a, b, h0, by rw [List.getElem?_set_self h.lt]⟩
end
end Rol

namespace Rol
open PySem L2 PySem.Spec
open PyProof.Rows hiding St
end Rol

namespace Rol
open PySem L2 PySem.Spec
open PyProof.Rows hiding St
theorem enumNew {v : Value} {ob : Obj} {G : Heap → Prop} (B : PySem.Begins v ob G) : Meets (Builtin.«enumerate.__new__» ⟨[.type "enumerate", v], []⟩) (fun _ R s => G s.heap ∧ R (.ok (.ret (.ref (s.heap.push ob).objs.size))) { s with heap := (s.heap.push ob).push { cls := .type "enumerate", data := .fields #[.none, .bool false, .ref s.heap.objs.size, rawInt 0, .none, .none] } }) := by
  refine .of_wp fun prog w A R s h => ?_
  obtain ⟨hp, g, d, tk, os⟩ := s; obtain ⟨h1, h⟩ := h; have hsub := sub_enumerate
  have q1 : ∀ {A' : Around} {E Q : Value → Shared → Prop}, Q (.ref hp.objs.size) ⟨hp.push ob, g, d, tk, os⟩ → wpAny (model prog w) A' (pyIter v) Q E ⟨hp, g, d, tk, os⟩ := fun q => B.iter prog w _ _ ⟨hp, g, d, tk, os⟩ _ h1 q
  wp_walk using q1
  refine wpAny_stack_any fun _ => wpAny_pure ?_
  split
  · rename_i c _ _ _ _ _; cases (c == Value.type "enumerate") <;> (wp_walk using q1; exact ⟨_, rfl, h⟩)
  · (wp_walk using q1); exact ⟨_, rfl, h⟩
theorem call_enum1 {prog : Program} {w : World} {A : Around} {E Q : Value → Shared → Prop} {s : Shared} {v : Value} {ob : Obj} {G : Heap → Prop} (B : PySem.Begins v ob G) (h1 : G s.heap)
    (h : ∀ h', IsEnum h' (s.heap.objs.size + 1) s.heap.objs.size 0 .none → h'.get? s.heap.objs.size = some ob → (∀ b o, s.heap.get? b = some o → h'.get? b = some o) → Q (.ref (s.heap.objs.size + 1)) { s with heap := h' }) : wpAny (model prog w) A (call (.type "enumerate") [v]) Q E s := by
  refine callType_new F.called_enumerate (by decide) (F.typeCall_enumerate_1 _) (F.newCall_enumerate_1 _) (fun o => F.args_object_init_2 o _) F.entry_enumerate_new (enumNew B) ⟨h1, ?_⟩
  have hz : (s.heap.push ob).objs.size = s.heap.objs.size + 1 := Heap.size_push ..
  show _ ∧ _; rw [hz]
  have he := Heap.get?_push_size (s.heap.push ob) (o := { cls := .type "enumerate", data := .fields #[.none, .bool false, .ref s.heap.objs.size, rawInt 0, .none, .none] }) rfl
  rw [hz] at he
  exact ⟨⟨_, he, rfl⟩, h _ he (Heap.get?_push_of_some _ (Heap.get?_push_size _ B.free)) fun b o x => Heap.get?_push_of_some _ (Heap.get?_push_of_some _ x)⟩
/-- the tuple at a as it stands at each turn, each item in a new pair -/
def IteT (K : PySem.W.Frag) (a : Addr) : It where
  go := fun i H => ∃ (xs : List V) (x : V), SqT K H a xs ∧ xs[i]? = some x
  yld := fun i H v H' => ∃ T x, v = .ref T ∧ H T = none ∧ H' = upd H T (.tup [.int (i : Nat), x]) ∧ ∀ xs, SqT K H a xs → xs[i]? = some x
  stop := fun i H => ∃ xs : List V, SqT K H a xs ∧ xs.length ≤ i
theorem turn_enumT {P : Program} {w : World} {K : PySem.W.Frag} {elts : List Expr} {kk : Nat} {tpos : Pos} (a e it : Addr) (n1 : e ≠ it) (n2 : e ≠ a) (n3 : a ≠ it) :
    Turn P w K (.Tuple elts kk tpos) (IteT K a) [e, it] e (fun i h => (∃ old, IsEnum h e it ((i : Nat) : Int) old) ∧ h.IsTupleIter it a i) where
  mem := by simp
  obj := fun i h st b hb => by
    obtain ⟨⟨old, he⟩, ⟨o, ho, hc, hd⟩⟩ := st
    rcases (by simpa using hb : b = e ∨ b = it) with z | z
    · rw [z]; exact ⟨_, he, fun v q => nomatch q⟩
    · rw [z]; exact ⟨o, ho, fun v q => by rw [hd] at q; cases q⟩
  keep := fun i h h' ⟨⟨old, he⟩, hi⟩ k => ⟨⟨old, k e (by simp) _ he⟩, hi.at fun o q => k it (by simp) o q⟩
  item := by
    intro X hP hw hK hc i pins s σ H E I hf st hg
    subst hP hw hK
    obtain ⟨⟨old, he⟩, hit⟩ := st
    obtain ⟨xs, x, hq, hx⟩ := hg
    obtain ⟨its, rv, p, hz⟩ := I.tuple hq
    obtain ⟨u, hu, ru⟩ := rv.get hx
    have hel : e < s.heap.objs.size := Heap.lt_size he
    have hil : it < s.heap.objs.size := by obtain ⟨_, q, _⟩ := hit; exact Heap.lt_size q
    have hi : i < its.toArray.size := by
      have := (List.getElem?_eq_some_iff.mp hu).1
      simpa using this
    refine wpAny_pyNext_enum_itemD (Draws.tuple (A := X.A.in1) (I.ok.hd hc) it a n3 its.toArray) he ⟨hit, p⟩ hi n1 (by simp [n1, n2]) fun y h' tk hy ho hs' hT hsz hk => ?_
    have ey : y = u := by
      rw [List.getElem?_toArray, hu] at hy
      exact (Option.some.inj hy).symm
    subst ey
    refine ⟨_, rfl, wpAny_letOwnedTupleGo_enum (s := { s with heap := h', toks := tk + 1 }) ho fun h'' he' sb => ?_⟩
    have hT2 : h''.get? s.heap.objs.size = some { cls := .type "tuple", data := .seq #[.int i tk, y] } := (sb.2 _ (Nat.ne_of_gt hel)).trans hT
    have new : ObjOk X.prog X.w (upd H s.heap.objs.size (.tup [.int (i : Nat), x])) h'' s.heap.objs.size (.tup [.int (i : Nat), x]) := ⟨(by show 2 ≤ sizeLine; decide), [.int i tk, y], .cons ⟨_, rfl⟩ (.cons ru .nil), ⟨_, hT2, rfl, _, rfl⟩⟩
    have I1 : Inv X pins σ (upd H s.heap.objs.size (.tup [.int (i : Nat), x])) { s with heap := h'', toks := tk + 1 } := I.turnedNew (ch := [e, it]) (fun b ob hb q => (sb.2 b (fun z => hb (by simp [z]))).trans (hk b ob (fun z => hb (by simp [z])) (fun z => hb (by simp [z])) q)) hf (Nat.le_refl _) new
    refine ⟨.ref s.heap.objs.size, _, I1, rfl, ⟨_, x, rfl, I.hok.fresh (Nat.le_refl _), rfl, fun ys hy => by rw [I.tuple_inj hy hq]; exact hx⟩, ⟨⟨y, ?_⟩, hs'.1.at fun o q => (sb.2 it (Ne.symm n1)).trans q⟩, fun b hb => ?_⟩
    · have e1 : ((i + 1 : Nat) : Int) = (i : Int) + 1 := by omega
      rw [e1]; exact he'
    · have hb' : b < s.heap.objs.size := by rcases (by simpa using hb : b = e ∨ b = it) with z | z <;> (rw [z]; assumption)
      rw [upd_ne (Nat.ne_of_lt hb')]
      exact (hf b hb).1
  done := by
    intro X hP hw hK hc i pins s σ H E I hf st hg
    subst hP hw hK
    obtain ⟨⟨old, he⟩, hit⟩ := st
    obtain ⟨xs, hq, hx⟩ := hg
    obtain ⟨its, rv, p, hz⟩ := I.tuple hq
    obtain ⟨f0, f1, f2, f3, f4, f5⟩ := hf it (by simp)
    have hl := rv.length
    have hT : s.TypeIs (.ref e) "enumerate" := ⟨_, he, rfl⟩
    unfold pyNext
    refine wpAny_bind (wpAny_attempt (wpAny_callSpecial?_slot (name := Str.ofString "__next__") hT F.slot_enumerate_next (wpAny_call_entry F.slot_enumerate_next hT F.entry_enumerate_next ?_ (F.args_enumerate_next_1 _))))
    show wpAny _ _ (field (.ref e) 2 >>= _) _ _ _; refine wpAny_bind (wpAny_field he rfl (x := .ref it) rfl ?_)
    refine wpAny_bind (wpAny_nextOf_tuple_end (I.ok.hd hc) hit p (by simp; omega) fun h' x eb hx' => ?_)
    obtain ⟨o, ho, hcl⟩ := hx'; refine wpAny_bind (wpAny_isInstance (T := "StopIteration") (b := true) ⟨o, ho, hcl⟩ isSubtype_stop ?_)
    exact wpAny_pure ⟨rfl, I.turned (t' := s.toks) (fun b o hb q => eb b o hb q) f0 f1 f3 f4 f5⟩
  self := fun A i s Q E ⟨⟨_, he⟩, _⟩ h => wpAny_pyIter_enum he h
def iEnumT (l : DA) : DI := fun ρ st => (l ρ st).bind fun xs st => match xs with
  | [.tup a] => .ok (pairI 0 a, none) st
  | [.loc k] => (match itemsAt st k with
    | some ys => .ok (pairI 0 ys, some (k, true)) st
    | none => .stuck)
  | _ => .stuck
section
variable {K : PySem.W.Frag} {φ : List Addr} {H : Hp}
theorem it_enumT {a : Addr} {xs : List D} {vs : List V} (s1 : SqT K H a vs) (r1 : RepL K φ H xs vs) : ItOk K φ H (pairI 0 xs, none) (IteT K a) where
  stop := fun φ' H' st i e k rs g hl => by
    rw [pairI_len] at hl
    exact ⟨vs, k.sqT s1, by rw [← r1.length]; exact hl⟩
  go := fun φ' H' st i e k rs g hl => by
    rw [pairI_len] at hl
    exact ⟨vs, vs[i]'(by rw [← r1.length]; exact hl), k.sqT s1, by simp⟩
  yld := fun φ' H' st i v H2 x e k rs g hx y => by
    obtain ⟨T, u, rfl, hT, rfl, y1⟩ := y
    rw [pairI_get] at hx
    cases ex : xs[i]? with
    | none => rw [ex] at hx; cases hx
    | some x1 =>
      rw [ex] at hx
      cases hx
      obtain ⟨v1, a1, a2⟩ := r1.get ex
      have c1 := y1 vs (k.sqT s1)
      rw [a1] at c1
      cases c1
      rw [Nat.zero_add]
      exact ⟨Kp.new hT, rs.beside hT, .tup (SqT.of upd_same) (.cons (.int _) (.cons (a2.mono e (k.trans (Kp.new hT))) .nil))⟩
end
theorem pairI_inj : ∀ {k : Nat} {xs ys : List D}, pairI k xs = pairI k ys → xs = ys
  | _, [], [], _ => rfl
  | _, [], _ :: _, h => by cases h
  | _, _ :: _, [], h => by cases h
  | _, x :: xs, y :: ys, h => by
    rw [pairI, pairI] at h
    injection h with h1 h2
    injection h1 with h1
    injection h1 with _ h1
    injection h1 with h1 _
    rw [h1, pairI_inj h2]
section
variable {K : PySem.W.Frag} {φ : List Addr} {H : Hp}
theorem it_enumL {k : Nat} {a : Addr} {xs : List D} (h : φ[k]? = some a) : ItOk K φ H (pairI 0 xs, some (k, true)) (Ite K a) where
  stop := fun φ' H' st i e kp rs g hl => by
    obtain ⟨ys, g, e1⟩ := g
    have e1 : xs = ys := pairI_inj e1
    subst e1
    rw [pairI_len] at hl
    obtain ⟨vs, s1, r1⟩ := rs.seqL (e.get h) g
    exact ⟨vs, s1, by rw [← r1.length]; exact hl⟩
  go := fun φ' H' st i e kp rs g hl => by
    obtain ⟨ys, g, e1⟩ := g
    have e1 : xs = ys := pairI_inj e1
    subst e1
    rw [pairI_len] at hl
    obtain ⟨vs, s1, r1⟩ := rs.seqL (e.get h) g
    exact ⟨vs, vs[i]'(by rw [← r1.length]; exact hl), s1, by simp⟩
  yld := fun φ' H' st i v H2 x e kp rs g hx y => by
    obtain ⟨ys, g, e1⟩ := g
    have e1 : xs = ys := pairI_inj e1
    subst e1
    obtain ⟨T, u, rfl, hT, rfl, y1⟩ := y
    obtain ⟨vs, s1, r1⟩ := rs.seqL (e.get h) g
    rw [pairI_get] at hx
    cases ex : xs[i]? with
    | none => rw [ex] at hx; cases hx
    | some x1 =>
      rw [ex] at hx
      cases hx
      obtain ⟨v1, a1, a2⟩ := r1.get ex
      have c1 := y1 vs s1
      rw [a1] at c1
      cases c1
      rw [Nat.zero_add]
      exact ⟨Kp.new hT, rs.beside hT, .tup (SqT.of upd_same) (.cons (.int _) (.cons (a2.mono (Ext.refl _) (Kp.new hT)) .nil))⟩
end
def iEnumB (K : PySem.W.Frag) (ta : TA) : TI := fun σ H R => ta σ H fun vs H1 => ∃ a xs, vs = [.ref a] ∧ ((SqT K H1 a xs ∧ R (IteT K a) H1) ∨ (SqL K H1 a xs ∧ R (Ite K a) H1))
theorem pi_enumB {X : Cx} {e : Expr} {ta : TA} {p pos tpos : Pos} {elts : List Expr} {kk : Nat} (hg : Gl X "enumerate") (hm : X.mg "enumerate" = none) (ha : PA X [e] ta) (hs : starEach [e] X.env = [(false, eval e X.env)] := by rfl) : PI X (.Tuple elts kk tpos) (.Call (.Name "enumerate" p) [e] [] pos) (iEnumB X.K ta) := by
  refine ⟨fun pins s σ H R I h => Call_ (ld_blt I hg hm boot_enumerate (PyProof.Rows.callWith_type1 (thn (ha.run pos pins s σ H _ I h) fun us s1 ⟨vs, H1, I1, r1, q1⟩ => ?_) hs rfl))⟩
  obtain ⟨a, xs, rfl, q1⟩ := q1
  cases r1 with
  | cons r rr =>
    cases rr; cases r
    rcases q1 with ⟨hq, q⟩ | ⟨hq, q⟩
    · obtain ⟨its, rv, p', hz⟩ := I1.tuple hq
      have hal : a < s1.heap.objs.size := by obtain ⟨_, q', _⟩ := p'; exact Heap.lt_size q'
      refine call_enum1 (PySem.begins_tuple a its.toArray) p' fun h' he hit hk => wpAny_pyIter_enum he ?_
      have I2 : Inv X pins σ H1 { s1 with heap := h' } := I1.kept (t' := s1.toks) hk
      refine ⟨s1.heap.objs.size + 1, [s1.heap.objs.size + 1, s1.heap.objs.size], _, _, H1, rfl, I2, turn_enumT a (s1.heap.objs.size + 1) s1.heap.objs.size (Nat.succ_ne_self _) (Nat.ne_of_gt (Nat.lt_succ_of_lt hal)) (Nat.ne_of_lt hal), ⟨⟨.none, he⟩, ⟨_, hit, rfl, rfl⟩⟩, fun b hb => ?_, q⟩
      have hle : s1.heap.objs.size ≤ b := by rcases (by simpa using hb : b = s1.heap.objs.size + 1 ∨ b = s1.heap.objs.size) with z | z <;> rw [z] <;> first | exact Nat.le_refl _ | exact Nat.le_add_right _ _
      exact I1.fpOk hle (I1.hok.fresh hle)
    · obtain ⟨its, rv, p', hz⟩ := I1.list hq
      refine call_enumerate_list p'.isList fun h' he hit hsz hk => wpAny_pyIter_enum he ?_
      have I2 : Inv X pins σ H1 { s1 with heap := h' } := I1.kept (t' := s1.toks) hk
      refine ⟨s1.heap.objs.size + 1, [s1.heap.objs.size + 1, s1.heap.objs.size], _, _, H1, rfl, I2, turn_enum a (s1.heap.objs.size + 1) s1.heap.objs.size, ⟨⟨.none, he⟩, hit, Nat.succ_ne_self _⟩, fun b hb => ?_, q⟩
      have hle : s1.heap.objs.size ≤ b := by rcases (by simpa using hb : b = s1.heap.objs.size + 1 ∨ b = s1.heap.objs.size) with z | z <;> rw [z] <;> first | exact Nat.le_refl _ | exact Nat.le_add_right _ _
      exact I1.fpOk hle (I1.hok.fresh hle)
theorem rI_enumT {X : Cx} {cm : CM} {W : WX} {e : Expr} {ml : DA} {p pos tpos : Pos} {elts : List Expr} {kk : Nat} (hm : X.mg "enumerate" = none) (ha : PA X [e] (tA X.K cm W ml)) (hg : Gl X "enumerate" := by rfl) (hs : starEach [e] X.env = [(false, eval e X.env)] := by rfl) :
    PI X (.Tuple elts kk tpos) (.Call (.Name "enumerate" p) [e] [] pos) (tI X.K cm W (iEnumT ml)) := by
  refine conv_I (pi_enumB hg hm ha hs) fun σ H Q h => ?_
  obtain ⟨φ, ρ, st, hd, h⟩ := h
  refine tG_bind hd h fun xs st1 φ1 H1 vs e1 k1 hd1 r1 h1 => ?_
  split at h1
  · cases r1 with
    | cons q1 q2 =>
      cases q2
      cases q1 with
      | tup s2 g2 => exact ⟨_, _, rfl, .inl ⟨s2, h1 φ1 H1 _ (Ext.refl _) (Kp.refl _) hd1.s (it_enumT s2 g2)⟩⟩
  · rename_i k
    cases r1 with
    | cons q1 q2 =>
      cases q2
      cases q1 with
      | loc ha =>
        split at h1
        · rename_i ys hy
          obtain ⟨vs, s1, r1⟩ := hd1.s.seqL ha hy
          exact ⟨_, vs, rfl, .inr ⟨s1, h1 φ1 H1 _ (Ext.refl _) (Kp.refl _) hd1.s (it_enumL ha)⟩⟩
        · exact h1.elim
  · exact h1.elim
end Rol

namespace PySem
namespace RolX
open PySem.W PySem.Calls PyProof.Rows PySem.HandSPX
def iA (p1 p2 : Pos) : Arguments := { posonlyargs := [], args := [{ arg := "self", annotation := none, pos := p1 }, { arg := "what", annotation := none, pos := p2 }], vararg := none, kwonlyargs := [], kw_defaults := [], kwarg := none, defaults := [] }
def iB (q1 q2 q3 q4 r1 r2 r3 r4 r5 r6 : Pos) : List Stmt := [.Assign [.Attribute (.Name "self" q1) "what" q2] (.Name "what" q3) q4, .Assign [.Attribute (.Name "self" r1) "kind" r2] (.Attribute (.Attribute (.Name "self" r3) "__class__" r4) "__name__" r5) r6]
def iS : Scope := { kind := .function, names := [(PySem.Str.ofString "self", .local), (PySem.Str.ofString "what", .local)], isGenerator := false, isCoroutine := false, more := [] }
/-- what the written part says of Low, at C, and of its __init__, at fI -/
structure LowTxt (cn : Str) (K : Frag) (mg : Str → Option Value) (C fI : Addr) : Prop where
  gC : mg cn = some (.ref C)
  cls : ∃ nm q N bs bm sn sub ab col dd k0 k1 tk k3 k5, K.lookup C = some (excClassObj nm q C N bs bm true sn sub ab col dd k0 k1 (some (.str cn tk)) k3 k5 "ValueError.__new__") ∧ refsVE bm = true
  sa : findIn K (.ref C) "__setattr__" = some (some (.builtin "object.__setattr__"))
  ga : findIn K (.ref C) "__getattribute__" = some (some (.builtin "BaseException.__getattribute__"))
  gg : findIn K (.ref C) "__getattr__" = some none
  noN : findIn K (.ref C) "what" = some none
  noK : findIn K (.ref C) "kind" = some none
  rdC : readsIn K C (.type "type") = true
  fcN : findCls K (.ref C) (.type "type") "__name__" = some (.get (.builtin "getset_descriptor.__get__") (.builtin "type.__name__") (.ref C) (.type "type"))
  haC : findIn K (.ref C) "__class__" = some (some (.builtin "object.__class__"))
  hnC : specialIn K (.builtin "object.__class__") "__get__" = some (some (.builtin "getset_descriptor.__get__"))
  htC : takesIn K (.builtin "object.__class__") = some true
  hmC : mroIn K C (.type "object") = some true
  iC : findIn K (.ref C) "__init__" = some (some (.ref fI))
  tC : typeIn K (.ref fI) = some (.type "function")
  kC : keepIn K (.ref C) = true
  exC : subIn K (.ref C) (.type "BaseException") = some true
  tyC : typeIn K (.ref C) = some (.type "type")
  hdC : hasDictIn K C = true
  te : exmOne K (.ref C) (.ref C) = some true
  fn : ∃ (oc : Value) (od : Option Addr) (doc pm : Value) (an : Option Addr) (cdv ct : Value) (osl : Array (Option Value)) (p1 p2 q1 q2 q3 q4 r1 r2 r3 r4 r5 r6 : Pos),
    K.lookup fI = some ⟨oc, od, .func (fnOf "__init__" "Refused.__init__" (iA p1 p2) (iB q1 q2 q3 q4 r1 r2 r3 r4 r5 r6) iS .none .none doc pm an cdv ct), osl⟩ ∧ codeIn K cdv "Refused.__init__" = true
theorem one_size (v : Value) : [v].length ≤ sizeLine := by
  rw [sizeLine_eq]
  exact (by decide : 1 ≤ 16777216)
theorem kept_but {K : Frag} {h h' : Heap} {x : Addr} (X : K.In h) (hx : K.lookup x = none) (k : ∀ b o, b ≠ x → h.get? b = some o → h'.get? b = some o) : K.In h' := fun a o e =>
  k a o (fun z => by rw [z, hx] at e; cases e) (X a o e)
theorem ldC {M : Model} {s : Shared} {name : Str} {scope : Scope} {L a : Addr} {cd : Value} {m : Str → Option Value} {x : Str} {pos : Pos} {v : Value} {Q : Value → Shared → Prop} {A : Around} {E : Value → Shared → Prop} (hn : s.heap.Ns L m) (hv : m x = some v) (h : Q v s)
    (hk : scope.kind = .function := by rfl) (hl : (envOfC name scope L a cd).kindOf x = some .local := by rfl) (hd : (x == ("__debug__" : Str)) = false := by decide) :
    wpAny M A (eval (.Name x pos) (envOfC name scope L a cd)) Q E s := wpAny_Name (wpAny_loadName_local hk hl hn hv h) hd
/-- what __init__ leaves of a fresh exception at x -/
structure InitEnd (h h' : Heap) (x C dx t1 : Addr) (v u : Value) : Prop where
  keep : ∀ b o, b ≠ x → h.get? b = some o → h'.get? b = some o
  obj : h'.get? x = some { cls := .ref C, dict := some dx, data := .fields #[.ref t1, .none, .none, .none, .bool false, .none] }
  dbig : h.objs.size ≤ dx
  dne : dx ≠ x
  ns : h'.Ns1 dx (fun y => if y = "kind" then some u else if y = "what" then some v else none)
/-- a made Low -/
structure OwnMade (h h' : Heap) (e C d : Addr) (v u : Value) : Prop where
  keep : ∀ b o, h.get? b = some o → h'.get? b = some o
  new : h.objs.size ≤ e
  obj : ∃ oe vs, h'.get? e = some oe ∧ oe.cls = .ref C ∧ oe.dict = some d ∧ oe.data = .fields vs ∧ vs[1]? = some .none
  dbig : h.objs.size ≤ d
  dne : d ≠ e
  ns : h'.Ns1 d (fun y => if y = "kind" then some u else if y = "what" then some v else none)
section
variable {prog : Program} {w : World} {A : Around} {E : Value → Shared → Prop} {R : Result → Shared → Prop} {s : Shared} {K : Frag} {mg : Str → Option Value} {cn : Str} {C fI : Addr}
/-- x.__class__ -/
theorem exc_class {x : Addr} {ox : Obj} {od : Option Obj} {expr : Bool} {Q : Value → Shared → Prop} {gt : Option Value} (X : K.In s.heap) (I : InstAt s.heap x ox C od) (hga : findIn K (.ref C) "__getattribute__" = some (some (.builtin "BaseException.__getattribute__"))) (hgt : findIn K (.ref C) "__getattr__" = some gt)
    (hsub : subIn K (.ref C) (.type "BaseException") = some true) (hf : findObj K C od "__class__" = some (.bind (.builtin "getset_descriptor.__get__") (.builtin "object.__class__"))) (hm : mroIn K C (.type "object") = some true)
    (h : Q (.ref C) { s with toks := s.toks + 1 }) : wpAny (model prog w) A (getAttr (.ref x) "__class__" expr) Q E s := by
  obtain ⟨hp, g, d, t, os⟩ := s
  have L0 := I.type (M := model prog w)
  have L1 := looks_findIn (M := model prog w) X hga
  have L2 := looks_findIn (M := model prog w) X hgt
  have L3 := looks_find (M := model prog w) X I hf
  have sub : Looks (model prog w) hp (isInstance (.ref x) (.type "BaseException")) true := L0.andThen (looks_subIn X hsub)
  have hx0 : (expr && onTheHeap (Value.builtin "BaseException.__getattribute__")) = false := by cases expr <;> rfl
  have hx2 : (Value.builtin "BaseException.__getattribute__" == Value.builtin "object.__getattribute__") = false := by decide +kernel
  have hx1 : (onTheHeap (Value.ref C) && Value.builtin "BaseException.__getattribute__" == Value.builtin "object.__getattribute__") = false := by rw [hx2]; rfl
  unfold getAttr getAttrBy
  refine wpAny_bind (wpAny_mkText (wpAny_holding (wpAny_bind (L0.at (wpAny_bind (L1.at ?_))))))
  show wpAny _ _ (if (onTheHeap (Value.ref C) && Value.builtin "BaseException.__getattribute__" == Value.builtin "object.__getattribute__") = true then _ else _) _ _ _
  rw [hx1, if_neg Bool.false_ne_true]
  unfold getAttrByItsOwn hookBefore
  refine wpAny_bind ?_
  rw [if_pos (show onTheHeap (Value.ref C) = true from rfl)]
  refine L2.at ?_
  refine wpAny_bind (wpAny_attempt (wpAny_holding ?_))
  unfold callGetattribute
  rw [hx0, if_neg Bool.false_ne_true]
  unfold boundAndCalled
  rw [PySem.F.excAttr_ValueError.ga.bind (.ref x)]
  refine wpAny_bind (wpAny_pure ?_)
  show wpAny _ _ (call (.builtin "BaseException.__getattribute__") [.ref x, .str "__class__" t]) _ _ _
  refine wpAny_call (codeAny_call_builtin PySem.F.excAttr_ValueError.ga.plain PySem.F.entry_bexc_ga ?_)
  refine @PySem.W.check_slot (model prog w) _ _ ⟨hp, g, d, t + 1, os⟩ "BaseException.__getattribute__" "BaseException" "__getattribute__" (.ref x) [.str "__class__" t] [] _ (by decide +kernel) (by decide +kernel) sub (PySem.F.args_bexc_ga (.ref x) (.str "__class__" t)) ?_
  unfold Builtin.«object.__getattribute__»
  refine wpAny_bind (wpAny_of_eq (a := ((Value.ref x : Value), [Value.str "__class__" t])) (by first | rfl | (simp only [slotArgs]; rfl)) ?_)
  refine wpAny_bind (wpAny_pure (wpAny_bind (L0.at (wpAny_bind (L3.at ?_)))))
  refine wpAny_bind (wpAny_holding (wpAny_call (class_get (s := ⟨hp, g, d, t + 1, os⟩) (ox := ox) (od := od) X I hm ?_)))
  refine wpAny_pure ?_
  show wpAny _ _ (handedOut (.ref C)) _ _ _
  rw [handedOut_of (show handedIn (.ref C) = true from rfl)]
  first | exact wpAny_pure h | exact wpAny_pure (wpAny_pure h)
/-- the class's name: the text that the class was made with -/
theorem name_dga (d tp : Value) (C : Addr) : Builtin.Getset_descriptor.descrGetArgs ⟨[d, .ref C, tp], []⟩ = pure (d, some (.ref C), if tp == .none then none else some tp) := by kernel_rfl
theorem name_get {tp : Value} {o : Obj} {q : Str} {tk : Tok} (X : K.In s.heap) (ht : typeIn K (.ref C) = some (.type "type")) (ho : s.heap.get? C = some o) (hs : (o.slots[2]?).join = some (.str q tk)) (h : R (.ok (.ret (.str q tk))) s) :
    codeAny (model prog w) A (.call (.builtin "getset_descriptor.__get__") ⟨[.builtin "type.__name__", .ref C, tp], []⟩) R s := by
  obtain ⟨hh, g, dr, t, os⟩ := s
  have L0 : Looks (model prog w) hh (typeOf (.ref C)) (.type "type") := looks_typeIn X ht
  have L1 : Looks (model prog w) hh (isSubtype (.type "type") (.type "type")) true := Looks.of_pure (by rw [isSubtype_type]; kernel_rfl)
  refine codeAny_call_builtin KF.slot_gs.plain KF.entry_gs (KF.slot_gs.check _ _ _ _ _ _ _ _ ktyn_type (KF.args_gs _ _ _) ?_)
  unfold Builtin.«getset_descriptor.__get__» Builtin.Getset_descriptor.descrGet
  rw [name_dga]
  refine wpAny_bind (wpAny_pure ?_)
  unfold Builtin.Getset_descriptor.descrGetter Builtin.Getset_descriptor.descrCheckInstance Builtin.Getset_descriptor.descrNameAndClass isInstance
  simp only [ktyn_owner]
  repeat lk
  refine ⟨Code.quiet_builtin _ (by decide +kernel), codeAny_builtin ktyn_entry ?_⟩
  unfold Builtin.«type.__name__»
  dsimp only
  unfold Builtin.keptObject slotAt
  refine wpAny_bind (wpAny_bind (wpAny_loadPart ho ?_))
  refine wpAny_pure ?_
  rw [hs]
  exact wpAny_pure h
theorem low_init (T : LowTxt cn K mg C fI) {x t0 : Addr} {v : Value} (X : K.In s.heap) (hlim : s.heap.NoLimit) (hx : s.heap.get? x = some (excO C t0)) (hnx : K.lookup x = none) (hroom : A.depth < recursionLimit)
    (hq : ∀ h' tk dx tn, InitEnd s.heap h' x C dx t0 v (.str cn tn) → R (.ok (.ret .none)) { s with heap := h', toks := tk }) :
    codeAny (model prog w) A (.call (.ref fI) ⟨[.ref x, v], []⟩) R s := by
  obtain ⟨oc, od, doc, pm, an, cdv, ct, osl, p1, p2, q1, q2, q3, q4, r1, r2, r3, r4, r5, r6, ho, hcd⟩ := T.fn
  obtain ⟨nm, q, N, bs, bm, sn, sub, ab, col, dd, k0, k1, tn, k3, k5, hC, hbm⟩ := T.cls
  have hcl : clsIn K C = some { name := nm, bases := bs, mro := .ref C :: bm, ns := N, qualname := q, hasDict := true, slotNames := sn, subclasses := sub, abstract := ab, collection := col, hasDel := false } := by unfold clsIn; rw [hC] <;> rfl
  refine Att.call_fn (binds := [("self", .ref x), ("what", v)]) X hlim ho hcd hroom (BindsTo.of_eq (by first | rfl | with_unfolding_all rfl)) (by first | rfl | decide | with_unfolding_all rfl) (fun s₁ IC => ?_) rfl rfl rfl
  obtain ⟨h₁, tk₁, rfl⟩ := IC.toInCall.same
  have k : ∀ b o, s.heap.get? b = some o → h₁.get? b = some o := IC.toInCall.keep
  have hn := IC.toInCall.ns
  have hxL : s.heap.objs.size ≠ x := Nat.ne_of_gt (Heap.lt_size hx)
  have X₁ : K.In h₁ := X.keeps k
  have hx₁ := k _ _ hx
  -- self.what = what
  show wpAny _ _ (execs _ _) _ _ _
  refine wpAny_execs_cons (plainObj_wpAny_Assign_Attribute ?_)
  refine ldC (v := v) hn (by first | rfl | with_unfolding_all rfl | kernel_rfl) (ldC (v := .ref x) hn (by first | rfl | with_unfolding_all rfl | kernel_rfl) ?_)
  refine set_plain X₁ (ox := excO C t0) (od := none) ⟨hx₁, rfl, rfl, trivial⟩ T.sa ?_
  refine exc_osa X₁ hx₁ hcl (show refsVE (.ref C :: bm) = true from hbm) rfl T.noN (fun h₃ tk₃ dx k₃ dn dne hx₃ hn₃ => ?_)
  -- self.kind = self.__class__.__name__
  have z : s.heap.objs.size < h₁.objs.size := hn.lt
  have X₃ : K.In h₃ := kept_but X₁ hnx k₃
  have hL₃ : h₃.Ns s.heap.objs.size _ := let ⟨o, es, ep, e, d, r⟩ := hn; ⟨o, es, ep, k₃ _ _ hxL e, d, r⟩
  have hw : Within (fun y => if y = ("what" : Str) then some v else none) ["what"] := Within.cons "what" v (fun y hy => absurd rfl hy)
  obtain ⟨oD, esD, epD, hoD, hdD, _⟩ := hn₃.count hw
  have I₃ : InstAt h₃ x { cls := .ref C, dict := some dx, data := .fields #[.ref t0, .none, .none, .none, .bool false, .none] } C (some oD) := ⟨hx₃, rfl, rfl, hoD⟩
  show wpAny _ _ (execs _ _) _ _ _
  refine wpAny_execs_cons (plainObj_wpAny_Assign_Attribute ?_)
  refine L2.attr_of (by rfl) (L2.attr_of (by rfl) (ldC (v := .ref x) hL₃ (by first | rfl | with_unfolding_all rfl | kernel_rfl) ?_))
  have hcs : (clsIn K C).isSome = true := by rw [hcl]; rfl
  refine exc_class X₃ I₃ T.ga T.gg T.exC (findObj_dataE hcs T.haC T.hnC T.htC) T.hmC ?_
  refine cls_bind X₃ T.rdC T.fcN (wpAny_call (name_get (q := cn) (tk := tn) X₃ T.tyC (X₃ _ _ hC) (by rfl) (handed_on rfl ?_)))
  refine ldC (v := .ref x) hL₃ (by first | rfl | with_unfolding_all rfl | kernel_rfl) ?_
  refine set_plain X₃ I₃ T.sa ?_
  refine OEX.osa_old X₃ hx₃ hn₃ hw (by decide) hcl (show refsVE (.ref C :: bm) = true from hbm) rfl T.noK (fun h₄ tk₄ k₄ hn₄ => ?_)
  show wpAny _ _ (execs _ _) _ _ _
  exact wpAny_execs_nil (hq h₄ tk₄ dx tn ⟨fun b o hb e => k₄ b o (Nat.ne_of_lt (Nat.lt_of_lt_of_le (Nat.lt_trans (Heap.lt_size e) z) dn)) (k₃ b o hb (k b o e)), k₄ x _ (Ne.symm dne) hx₃, Nat.le_of_lt (Nat.lt_of_lt_of_le z dn), dne, hn₄⟩)
theorem low_made (T : LowTxt cn K mg C fI) {v : Value} (X : K.In s.heap) (hlim : s.heap.NoLimit) (hroom : A.depth + 1 < recursionLimit)
    (hq : ∀ h' tk e d tn, OwnMade s.heap h' e C d v (.str cn tn) → R (.ok (.ret (.ref e))) { s with heap := h', toks := tk }) :
    codeAny (model prog w) A (.call (.ref C) ⟨[v], []⟩) R s := by
  obtain ⟨nm, q, N, bs, bm, sn, sub, ab, col, dd, k0, k1, tn0, k3, k5, hC, hbm⟩ := T.cls
  obtain ⟨hp, g, dr, tk, os⟩ := s
  have k : ∀ b o, hp.get? b = some o → ((hp.push (kdv_tup [v])).push (excO C hp.objs.size)).get? b = some o := fun b o e => Heap.get?_push_of_some _ (Heap.get?_push_of_some _ e)
  have hget : ((hp.push (kdv_tup [v])).push (excO C hp.objs.size)).get? (hp.objs.size + 1) = some (excO C hp.objs.size) := by heap_get
  have hnx : K.lookup (hp.objs.size + 1) = none := by
    cases e : K.lookup (hp.objs.size + 1) with
    | none => rfl
    | some o =>
      have z : hp.get? (hp.objs.size + 1) = some o := X _ _ e
      exact absurd (Nat.lt_of_succ_lt (Heap.lt_size z)) (Nat.lt_irrefl _)
  refine call_own F.excBase_ValueError (fun X => refsVE_contains X bm hbm) (X _ _ hC) (looks_findIn X T.iC) (fun self => bind_fn X self T.tC) (one_size v) ?_
  refine low_init (s := ⟨(hp.push (kdv_tup [v])).push (excO C hp.objs.size), g, dr, tk, os⟩) T (X.keeps k) (hlim.keeps k) hget hnx ?_ fun h' tk' dx tn ⟨k', hx, dn, dne, hns⟩ => ?_
  · show A.depth + 1 < recursionLimit
    exact hroom
  · have old : ∀ b o, hp.get? b = some o → h'.get? b = some o := fun b o e => k' b o (Nat.ne_of_lt (Nat.lt_succ_of_lt (Heap.lt_size e))) (k b o e)
    have z : hp.objs.size + 1 + 1 ≤ dx := by
      first
        | (simpa only [Heap.size_push] using dn)
        | exact dn
        | (have q := dn; rw [Heap.size_push, Heap.size_push] at q; exact q)
    exact ⟨rfl, hq h' tk' (hp.objs.size + 1) dx tn ⟨old, Nat.le_succ _, ⟨_, _, hx, rfl, rfl, rfl, rfl⟩, Nat.le_trans (Nat.le_trans (Nat.le_succ _) (Nat.le_succ _)) z, dne, hns⟩⟩
end
end RolX
end PySem
namespace L2
open PySem PySem.Spec PyProof.Rows
theorem relO_low {c : Str} {v : V} {v' : Value} {tn : Tok} (r : RelV v v') (f : Str) : RelO (List.lookup f (xdl c v)) (if f = "kind" then some (.str c tn) else if f = "what" then some v' else none) := by
  unfold xdl
  by_cases hw : f = "what"
  · subst hw
    rw [if_neg (by decide), if_pos rfl]
    have q : List.lookup ("what" : Str) [(("what" : Str), v), (("kind" : Str), V.str c)] = some v := by simp [List.lookup]
    rw [q]
    exact r
  · have qw : (f == ("what" : Str)) = false := by simpa using hw
    by_cases hk : f = "kind"
    · subst hk
      rw [if_pos rfl]
      have q : List.lookup ("kind" : Str) [(("what" : Str), v), (("kind" : Str), V.str c)] = some (.str c) := by simp [List.lookup, qw]
      rw [q]
      exact ⟨tn, rfl⟩
    · rw [if_neg hk, if_neg hw]
      have qk : (f == ("kind" : Str)) = false := by simpa using hk
      have q2 : List.lookup f [(("what" : Str), v), (("kind" : Str), V.str c)] = none := by simp [List.lookup, qw, qk]
      rw [q2]
      trivial
section
variable {X : Cx} {cn : Str} {C fI : Addr}
/-- Low(e) -/
def tMkLow (cn : Str) (C : Addr) (ta : TA) : St → Hp → XK → Prop := fun σ H Q => ta σ H fun vs H1 => ∃ v, vs = [v] ∧ ∀ d, H1 d = none → Q (.ref C) (some d) (upd H1 d (.xd (xdl cn v)))
theorem pmk_low {a : Expr} {ta : TA} {p pos : Pos} {k : Nat} (T : PySem.RolX.LowTxt cn X.K X.mg C fI) (hr : Room k X.A) (ha : PA X [a] ta) (hdb : (cn == ("__debug__" : Str)) = false) (hg : Gl X cn := by rfl)
    (he : starEach (a :: []) X.env = (false, eval a X.env) :: starEach [] X.env := by rfl) (hpl : (backTo pos (starEach [] X.env)).any (·.1) = false := by rfl) :
    PMk X (.Call (.Name cn p) [a] [] pos) (tMkLow cn C ta) := by
  intro pins s σ H Q I h
  refine wpAny_Call_Name_kw (ld_glob I hg T.gC ?_ hdb)
  refine PySem.W.callWith_K (h₀ := X.base) I.ok.mod.kin T.kC (thn (ha.run pos pins s σ H _ I h) fun us s1 hh => ?_) he hpl
  obtain ⟨vs, H1, I1, r1, v, ev, q1⟩ := hh
  subst ev
  refine ⟨I1.kIn, ?_⟩
  cases r1 with
  | cons rv rn =>
    rename_i v' us'
    cases rn
    show wpAny _ _ (call (.ref C) [v']) _ _ _
    have hlim := I1.nolimit
    obtain ⟨hp, g, dr, tk, os⟩ := s1
    refine wpAny_call (PySem.RolX.low_made T I1.kIn hlim (by have := hr.dp; omega) fun h' tk' e d tn M => ?_)
    show MkP X pins σ Q (.ref e) ⟨h', g, dr, tk', os⟩
    obtain ⟨oe, fv, hoe, hc, hd, hdat, h1⟩ := M.obj
    have hns := M.ns
    obtain ⟨G', g1, g2⟩ := restrict h' fun b => decide (b ≠ e)
    have gk : ∀ b, b ≠ e → G'.get? b = h'.get? b := fun b hb => g1 b (decide_eq_true hb)
    have ge : G'.get? e = none := g2 e (by simp)
    have old : ∀ b o, hp.get? b = some o → G'.get? b = some o := fun b o q => (gk b (Nat.ne_of_lt (Nat.lt_of_lt_of_le (Heap.lt_size q) M.new))).trans (M.keep b o q)
    have ob : ObjOk X.prog X.w (upd H1 d (.xd (xdl cn v))) G' d (.xd (xdl cn v)) :=
      ⟨_, hns.at (fun o q => (gk d M.dne).trans q), fun f => relO_low rv f⟩
    have J : Inv X pins σ (upd H1 d (.xd (xdl cn v))) ⟨G', g, dr, tk', os⟩ := I1.laid (t' := tk') old M.dbig ob
    refine ⟨e, oe, fv, ⟨G', g, dr, tk', os⟩, _, .ref C, some d, rfl, J, fun b o q => ?_, ge, hoe, ⟨hc, hd⟩, hdat, h1, ?_, rfl, I1.bare, raises_own T.exC T.tyC, q1 d (I1.hok.fresh M.dbig)⟩
    · by_cases hb : b = e
      · have q' : G'.get? b = some o := q
        rw [hb, ge] at q'; cases q'
      · exact (gk b hb).symm.trans q
    · rw [upd_ne (Ne.symm M.dne)]
      exact I1.hok.fresh M.new
/-- raise Low(e) -/
def tRaiseLow (cn : Str) (C : Addr) (W : WX) (ta : TA) : TS := fun _ σ H => tMkLow cn C ta σ H fun cls d H' => W cls d σ H'
theorem ps_raiseLow {a : Expr} {ta : TA} {W : WX} {p pos pos2 : Pos} {k : Nat} (hc : X.calm = true) (T : PySem.RolX.LowTxt cn X.K X.mg C fI) (hr : Room k X.A) (tk : Takes X W) (ha : PA X [a] ta) (hdb : (cn == ("__debug__" : Str)) = false) (hg : Gl X cn := by rfl)
    (he : starEach (a :: []) X.env = (false, eval a X.env) :: starEach [] X.env := by rfl) (hpl : (backTo pos (starEach [] X.env)).any (·.1) = false := by rfl) :
    PS X (.Raise (some (.Call (.Name cn p) [a] [] pos)) none pos2) (tRaiseLow cn C W ta) := ps_raise hc tk (pmk_low T hr ha hdb hg he hpl)
/-- low.by, low the exception that the suite holds (at a; its class cls, its dict d) -/
def tByLow (cn : Str) (C : Addr) (a : Addr) (cls : Value) (d : Option Addr) (te : TE) : TE := fun σ H Q => te σ H fun x H1 => x = .ref a ∧ cls = .ref C ∧ ∃ (dd : Addr) (v : V), d = some dd ∧ H1 dd = some (.xd (xdl cn v)) ∧ Q v H1
theorem pe_byLow {a : Addr} {oe : Obj} {cls : Value} {d : Option Addr} {pn : List (Addr × Obj)} {e : Expr} {te : TE} {pos : Pos} (T : PySem.RolX.LowTxt cn X.K X.mg C fI) (hz : Zc cls d oe) (hf : ∃ vs, oe.data = .fields vs) (he : PE (X.suite a ((a, oe) :: pn)) e te)
    (hb : attributeBase e "what" X.env (eval e X.env) = eval e X.env := by rfl) :
    PE (X.suite a ((a, oe) :: pn)) (.Attribute e "what" pos) (tByLow cn C a cls d te) := by
  refine ⟨fun pins s σ H Q I h => ?_⟩
  refine attr_of hb (thn (he.run pins s σ H _ I h) fun u s1 hh => ?_)
  obtain ⟨x, H1, I1, rx, ex, ec, dd, v, ed, ea, q⟩ := hh
  subst ex
  obtain rfl : u = Value.ref a := rx
  subst ec
  subst ed
  obtain ⟨ha, _⟩ := I1.pin (a, oe) (List.mem_append_left _ List.mem_cons_self)
  obtain ⟨vs, hd⟩ := hf
  have hx : ObjOk X.prog X.w H1 s1.heap dd (.xd (xdl cn v)) := I1.hok dd _ ea
  obtain ⟨mA, hns, hr⟩ := hx
  obtain ⟨od, ho, hl⟩ := lookIn_ns hns
  have l : List.lookup ("what" : Str) (xdl cn v) = some v := by simp [xdl, List.lookup]
  obtain ⟨u, hu, ru⟩ := RelO.some_of (v := v) (o := mA "what") (by rw [← l]; exact hr "what")
  have J : PySem.W.InstAt s1.heap a oe C (some od) := ⟨ha, hz.1, by unfold PySem.W.notCls; rw [hd] <;> rfl, by rw [hz.2]; exact ho⟩
  exact HandSPX.exc_get I1.kIn J T.ga T.gg T.exC (PySem.W.findObj_own T.hdC T.noN rfl (by rw [hl, hu])) (handed_of ru) ⟨v, H1, I1.tok _, ru, q⟩
end
end L2

namespace Rol
open PySem L2 PySem.Spec
open PyProof.Rows hiding St
def sRaise (c : Str) (m : DE) : DS := fun ρ st => (m ρ st).out ρ fun v st => .exc c v ρ st
theorem rS_raise {X : Cx} {cm : CM} {W : WX} {cn : Str} {fI : Addr} {a : Expr} {m : DE} {p pos pos2 : Pos} {k : Nat} (T : PySem.RolX.LowTxt cn X.K X.mg (cm cn) fI) (hr : Room k X.A) (tk : Takes X W) (ha : PE X a (tE X.K cm W m)) (hc : X.calm = true := by rfl) (hdb : (cn == ("__debug__" : Str)) = false := by decide) (hg : Gl X cn := by rfl)
    (he : starEach (a :: []) X.env = (false, eval a X.env) :: starEach [] X.env := by rfl) (hpl : (backTo pos (starEach [] X.env)).any (·.1) = false := by rfl) :
    PS X (.Raise (some (.Call (.Name cn p) [a] [] pos)) none pos2) (tS X.K cm W (sRaise cn m)) := by
  refine conv_S (ps_raiseLow hc T hr tk (pa_cons ha pa_nil he) hdb hg he hpl) fun E σ H h => ?_
  obtain ⟨φ, ρ, st, hd, h⟩ := h
  refine AtS.bind hd h fun x st1 φ1 H1 v e1 k1 hd1 r1 h1 => ?_
  refine ⟨v, rfl, fun d hd' => ?_⟩
  exact h1 φ1 _ σ d v (Ext.refl _) (Kp.new hd') (hd1.mono (Ext.refl _) (Kp.new hd') (hd1.s.beside hd')) (r1.mono (Ext.refl _) (Kp.new hd')) upd_same
end Rol
namespace Rol
theorem exm_self {K : PySem.W.Frag} {S : PySem.Addr} (h1 : PySem.W.subIn K (.ref S) (.type "BaseException") = some true) (h2 : PySem.W.isClsIn K S = true) (h3 : PySem.W.typeIn K (.ref S) = some (.type "type")) (h4 : PySem.W.subIn K (.ref S) (.ref S) = some true) : PySem.W.exmOne K (.ref S) (.ref S) = some true := by
  have e1 : (PySem.W.subIn K (.ref S) (.type "BaseException") == some true) = true := by rw [h1] <;> rfl
  have e2 : ((PySem.W.clsIn K S).isSome && PySem.W.typeIn K (.ref S) == some (.type "type")) = true := by
    have h2' : (PySem.W.clsIn K S).isSome = true := h2
    rw [h2', h3] <;> rfl
  show (if (PySem.W.subIn K (.ref S) (.type "BaseException") == some true) = true then (if ((PySem.W.clsIn K S).isSome && PySem.W.typeIn K (.ref S) == some (.type "type")) = true then PySem.W.subIn K (.ref S) (.ref S) else none) else none) = some true
  rw [if_pos e1, if_pos e2]
  exact h4
end Rol

namespace Rol
open PySem L2 PySem.Spec
open PyProof.Rows hiding St

theorem lexAt_le : ∀ (k i : Nat) (ns ms : List Int), k = min ns.length ms.length - i → i ≤ min ns.length ms.length →
    Ob.lexAt (fun j => decide (ns.getD j 0 = ms.getD j 0)) (fun j => decide (ns.getD j 0 ≤ ms.getD j 0)) (decide (ns.length ≤ ms.length)) i k = !HT.lexLt (ms.drop i) (ns.drop i)
  | 0, i, ns, ms, hk, hi => by
    rw [Ob.lexAt_zero]
    by_cases h : ns.length ≤ ms.length
    · have : i = ns.length := by omega
      subst this
      rw [List.drop_length, decide_eq_true h]
      cases ms.drop ns.length <;> rfl
    · have : i = ms.length := by omega
      subst this
      rw [List.drop_length, decide_eq_false h]
      cases e : ns.drop ms.length with
      | nil =>
        have := congrArg List.length e
        simp at this
        omega
      | cons a l => rfl
  | k + 1, i, ns, ms, hk, hi => by
    have h1 : i < ns.length := by omega
    have h2 : i < ms.length := by omega
    rw [Ob.lexAt_succ, List.drop_eq_getElem_cons h1, List.drop_eq_getElem_cons h2, HT.lexLt]
    have g1 : ns.getD i 0 = ns[i] := by simp [List.getD_eq_getElem?_getD, h1]
    have g2 : ms.getD i 0 = ms[i] := by simp [List.getD_eq_getElem?_getD, h2]
    rw [g1, g2]
    by_cases e : ns[i] = ms[i]
    · rw [if_pos (decide_eq_true e), if_pos e.symm]
      exact lexAt_le k (i + 1) ns ms (by omega) (by omega)
    · rw [if_neg (by simpa using e), if_neg (fun z => e z.symm)]
      by_cases l : ns[i] ≤ ms[i]
      · rw [decide_eq_true l, decide_eq_false (by omega)]
        rfl
      · rw [decide_eq_false l, decide_eq_true (by omega)]
        rfl
def dLeA := cmpD (fun i j => decide (i ≤ j)) fun a b => !HT.lexLt b a
def rLeA (K : PySem.W.Frag) : L2.R2 := fun x y H Q => rI0 (fun i j => .bl (decide (i ≤ j))) x y H Q ∨ rLeT K x y H Q
theorem op_leA {X : Cx} (hu : X.A.units < cLine) : OpR X (compareOp .LtE) (rLeA X.K) := op_le.or (op_leT hu)
theorem od_leA {K : PySem.W.Frag} : OpD K (rLeA K) dLeA := by
  intro cm W φ H σ st x y v w Q rs rx ry h
  cases rx <;> cases ry <;> first | exact False.elim h | skip
  · exact .inl ⟨_, _, rfl, rfl, AtG.here h rs (.bl _)⟩
  · rename_i a xs vs s1 r1 b ys ws s2 r2
    dsimp only [dLeA, cmpD] at h
    split at h
    · rename_i ns ms e1 e2
      have q1 := intsOf_rep r1 e1
      have q2 := intsOf_rep r2 e2
      subst q1 q2
      refine .inr ⟨a, b, ns, ms, rfl, rfl, s1, s2, ?_⟩
      rw [lexAt_le _ 0 ns ms (by omega) (Nat.zero_le _)]
      exact AtG.here h rs (.bl _)
    · exact h.elim

theorem tuple_mulE (l : Addr) (items : Array Value) (n : Nat) (dd : Option Addr) (sl : Array (Option Value)) (x : Int) (u : Tok) (c0 : (decide (x < -(2 ^ 63)) || decide (x ≥ 2 ^ 63)) = false) (c1 : (items.isEmpty || x == 1) = true) :
    Meets (Builtin.«tuple.__mul__» ⟨[.ref l, .int x u], []⟩) (fun _ R s => s.heap.get? l = some { cls := .type "tuple", dict := dd, data := .seq items n, slots := sl } ∧ R (.ok (.ret (Value.ref l))) s) :=
  .of_wp fun prog w A R s h => by
    obtain ⟨hp, g, d, tk, os⟩ := s
    obtain ⟨hl, h⟩ := h
    have f1 := AutoSeq1.idx_int
    wp_walk using wpAny_loadPart' hl
    repeat (first
      | (refine wpAny_ite_false (decide_eq_false (by rw [c0]; exact Bool.false_ne_true)) ?_; wp_walk using wpAny_loadPart' hl)
      | (refine wpAny_ite_true (decide_eq_true c1) ?_; wp_walk using wpAny_loadPart' hl)
      | (refine wpAny_ite_true (by simp) ?_; wp_walk using wpAny_loadPart' hl))
    all_goals first | exact ⟨_, rfl, h⟩ | exact h
theorem tuple_mul0 (l : Addr) (items : Array Value) (n : Nat) (dd : Option Addr) (sl : Array (Option Value)) (x : Int) (u : Tok) (c0 : (decide (x < -(2 ^ 63)) || decide (x ≥ 2 ^ 63)) = false) (c1 : (items.isEmpty || x == 1) = false) (c2 : (decide (x ≤ 0) || items.isEmpty) = true) :
    Meets (Builtin.«tuple.__mul__» ⟨[.ref l, .int x u], []⟩) (fun _ R s => s.heap.get? l = some { cls := .type "tuple", dict := dd, data := .seq items n, slots := sl } ∧
      R (.ok (.ret (Value.ref s.heap.objs.size))) { s with heap := s.heap.push { cls := Value.type "tuple", data := Data.seq #[] }, toks := s.toks }) :=
  .of_wp fun prog w A R s h => by
    obtain ⟨hp, g, d, tk, os⟩ := s
    obtain ⟨hl, h⟩ := h
    have f1 := AutoSeq1.idx_int
    wp_walk using wpAny_loadPart' hl
    repeat (first
      | (refine wpAny_ite_false (decide_eq_false (by rw [c0]; exact Bool.false_ne_true)) ?_; wp_walk using wpAny_loadPart' hl)
      | (refine wpAny_ite_false (decide_eq_false (by rw [c1]; exact Bool.false_ne_true)) ?_; wp_walk using wpAny_loadPart' hl)
      | (refine wpAny_ite_true (decide_eq_true c2) ?_; wp_walk using wpAny_loadPart' hl)
      | (refine wpAny_ite_false (by simp) ?_; wp_walk using wpAny_loadPart' hl))
    all_goals first | exact ⟨_, rfl, h⟩ | exact h
/-- a tuple repeated: any number of times, up to a million items -/
def rRepW (K : PySem.W.Frag) : L2.R2 := fun x y H Q => ∃ l k xs, x = .ref l ∧ y = .int k ∧ SqT K H l xs ∧ -(2 ^ 63) ≤ k ∧ k ≤ 1000000 ∧ xs.length * k.toNat ≤ 1000000 ∧
  (xs = [] ∨ k = 1 → Q (.ref l) H) ∧ (xs ≠ [] → k ≠ 1 → ∀ p, H p = none → Q (.ref p) (upd H p (.tup (List.replicate k.toNat xs).flatten)))
theorem op_repW {X : Cx} : OpR X (binaryOp .Mult) (rRepW X.K) := by
  intro pins s σ H x y v u Q I rx ry h
  obtain ⟨l, k, xs, rfl, rfl, hT, h0, h1, h2, q1, q2⟩ := h
  cases rx
  obtain ⟨t, rfl⟩ := ry
  obtain ⟨its, r, ⟨⟨cls, dd, data, sl⟩, ho, hc, n, hd⟩, hs⟩ := I.tuple hT
  simp only at hc hd
  subst hc hd
  have hle : its.length = xs.length := r.length.symm
  have emp : its.toArray.isEmpty = true ↔ xs = [] := by
    constructor
    · intro e
      have : its.length = 0 := by
        have e' := Array.isEmpty_iff_size_eq_zero.mp e
        rw [List.size_toArray] at e'
        exact e'
      exact List.eq_nil_of_length_eq_zero (by omega)
    · rintro rfl
      have : its = [] := List.eq_nil_of_length_eq_zero (by simpa using hle)
      subst this
      rfl
  have cc0 : (decide (k < -(2 ^ 63)) || decide (k ≥ 2 ^ 63)) = false := by
    rw [decide_eq_false (by omega), decide_eq_false (by omega), Bool.or_false]
  refine wpAny_binaryOp_repeat_ref (T := "tuple") (U := "int") (by decide) ⟨_, ho, rfl⟩ (fun s' => typeIs_int s' k t) noFill_tuple_mul PySem.F.fills_int_mul PySem.F.slot_int_rmul repeat_tuple PySem.F.slot_int_index.lookup ?_
  refine call_meets PySem.F.slot_int_rmul (typeIs_int s k t) PySem.F.entry_int_rmul (PySem.F.args_int_rmul_2 _ _) (int_rmul_tuple k t l its.toArray n dd sl) ⟨ho, rfl, ⟨_, ho, rfl⟩, ?_⟩
  by_cases hsame : xs = [] ∨ k = 1
  · have cc1 : (its.toArray.isEmpty || k == 1) = true := by
      rcases hsame with e | e
      · rw [emp.mpr e, Bool.true_or]
      · rw [beq_iff_eq.mpr e, Bool.or_true]
    exact call_meets PySem.F.slot_tuple_mul ⟨_, ho, rfl⟩ PySem.F.entry_tuple_mul (PySem.F.args_tuple_mul_2 _ _) (tuple_mulE l its.toArray n dd sl k t cc0 cc1) ⟨ho, .ref l, H, I, rfl, q1 hsame⟩
  · have hx : xs ≠ [] := fun e => hsame (.inl e)
    have hk : k ≠ 1 := fun e => hsame (.inr e)
    have hi : its.toArray.isEmpty = false := by
      cases e : its.toArray.isEmpty with
      | false => rfl
      | true => exact absurd (emp.mp e) hx
    have cc1 : (its.toArray.isEmpty || k == 1) = false := by
      rw [hi, Bool.false_or]
      exact beq_eq_false_iff_ne.mpr hk
    have flen : (List.replicate k.toNat its).flatten.length ≤ sizeLine := by
      rw [PyProof.Rows.lm_len_rep_flat, hle, sizeLine_eq, Nat.mul_comm]
      omega
    by_cases hz : k ≤ 0
    · have cc2 : (decide (k ≤ 0) || its.toArray.isEmpty) = true := by rw [decide_eq_true hz, Bool.true_or]
      have e0 : (List.replicate k.toNat xs).flatten = [] := by
        rw [show k.toNat = 0 by omega]
        rfl
      have qq := q2 hx hk _ (I.hok.fresh (Nat.le_refl _))
      rw [e0] at qq
      exact call_meets PySem.F.slot_tuple_mul ⟨_, ho, rfl⟩ PySem.F.entry_tuple_mul (PySem.F.args_tuple_mul_2 _ _) (tuple_mul0 l its.toArray n dd sl k t cc0 cc1 cc2) ⟨ho, .ref s.heap.objs.size, _, I.laid (t' := s.toks) (o := .tup []) (fun b ob q => Heap.get?_push_of_some _ q) (Nat.le_refl _) ⟨by rw [sizeLine_eq]; exact Nat.zero_le _, [], .nil, IsTup.new _ _⟩, rfl, qq⟩
    · have cc2 : (decide (k ≤ 0) || its.toArray.isEmpty) = false := by
        rw [hi, Bool.or_false]
        exact decide_eq_false hz
      have ek : ((k.toNat : Nat) : Int) = k := Int.toNat_of_nonneg (by omega)
      have hm : ((its.toArray.size : Nat) : Int) * k ≤ 1000000 := by
        rw [List.size_toArray, hle, ← ek, ← Int.natCast_mul]
        show ((xs.length * k.toNat : Nat) : Int) ≤ ((1000000 : Nat) : Int)
        exact Int.ofNat_le.mpr h2
      have cc4 : Builtin.Tuple.tupleTooMany (((its.toArray.size : Nat) : Int) * k) = false := by
        unfold Builtin.Tuple.tupleTooMany
        rw [sizeLine_eq]
        exact decide_eq_false (by omega)
      refine call_meets PySem.F.slot_tuple_mul ⟨_, ho, rfl⟩ PySem.F.entry_tuple_mul (PySem.F.args_tuple_mul_2 _ _) (tuple_mulW l its.toArray n dd sl k t cc0 cc1 cc2 (by omega) cc4 (by rw [size_rep, List.size_toArray]; exact flen)) ⟨ho, ?_⟩
      rw [size_rep]
      exact ⟨.ref s.heap.objs.size, _, I.laid (t' := s.toks) (o := .tup (List.replicate k.toNat xs).flatten) (fun b ob q => Heap.get?_push_of_some _ q) (Nat.le_refl _) ⟨by rw [PyProof.Rows.lm_len_rep_flat, sizeLine_eq, Nat.mul_comm]; omega, _, r.rep k.toNat, IsTup.new _ _⟩, rfl, q2 hx hk _ (I.hok.fresh (Nat.le_refl _))⟩
def dMulW : D → D → S → Res D
  | .tup xs, .int k, st => if -(2 ^ 63) ≤ k ∧ k ≤ 1000000 ∧ xs.length * k.toNat ≤ 1000000 then .ok (.tup (List.replicate k.toNat xs).flatten) st else .stuck
  | x, y, st => dMul x y st
def rMulW (K : PySem.W.Frag) : L2.R2 := fun x y H Q => rMulA K x y H Q ∨ rRepW K x y H Q
theorem op_mulWW {X : Cx} : OpR X (binaryOp .Mult) (rMulW X.K) := op_mulA.or op_repW
theorem flat_nil {α : Type} (k : Nat) : (List.replicate k ([] : List α)).flatten = [] := by
  induction k with
  | zero => rfl
  | succ k ih => rw [List.replicate_succ, List.flatten_cons, ih]; rfl
theorem od_mulW {K : PySem.W.Frag} : OpD K (rMulW K) dMulW := by
  intro cm W φ H σ st x y v w Q rs rx ry h
  by_cases hc : ∃ xs k, x = .tup xs ∧ y = .int k
  · obtain ⟨xs, k, rfl, rfl⟩ := hc
    dsimp only [dMulW] at h
    split at h
    · rename_i c
      cases rx with
      | tup s1 r1 =>
        cases ry
        rename_i a vs
        have hl := r1.length
        refine .inr ⟨a, k, vs, rfl, rfl, s1, c.1, c.2.1, by rw [← hl]; exact c.2.2, fun z => ?_, fun _ _ p hp => ?_⟩
        · have e : (List.replicate k.toNat xs).flatten = xs := by
            rcases z with z | z
            · subst z
              have : xs = [] := List.eq_nil_of_length_eq_zero (by simpa using hl)
              subst this
              exact flat_nil _
            · subst z
              simp
          rw [e] at h
          exact AtG.here h rs (.tup s1 r1)
        · refine h φ _ _ (Ext.refl _) (Kp.new hp) (rs.beside hp) (.tup (.inl (.inl ?_)) ((r1.mono (Ext.refl _) (Kp.new hp)).rep _))
          exact upd_same
    · exact h.elim
  · have e : dMulW x y st = dMul x y st := by
      cases x <;> cases y <;> first | rfl | exact (hc ⟨_, _, rfl, rfl⟩).elim
    rw [e] at h
    exact .inl (od_mul cm W φ H σ st x y v w Q rs rx ry h)
end Rol

namespace L2
open PySem PySem.Spec PyProof.Rows

/-- a clause: the class, the slot of its name, what its suite wishes -/
structure Cl where
  c : Value
  n : Option Nat
  ts : Addr → Value → Option Addr → TS
def Cl.ends (k : Cl) (D : Ends) : Ends := match k.n with
  | none => D
  | some i => ⟨fun a b => D.nx (a.set i none) b, D.rt, fun a b => D.bk (a.set i none) b, fun a b => D.ct (a.set i none) b⟩
def Cl.slots (k : Cl) (σ : St) (a : Addr) : St := match k.n with
  | none => σ
  | some i => σ.set i (some (.ref a))
/-- what the clauses wish of an exception -/
def wCls (K : PySem.W.Frag) (Wo : WX) (D : Ends) : List Cl → WX
  | [] => Wo
  | k :: ks => fun cls d σ H => ∃ b, PySem.W.exmOne K cls k.c = some b ∧ (b = true → ∀ a, H a = none → k.ts a cls d (k.ends D) (k.slots σ a) H) ∧ (b = false → wCls K Wo D ks cls d σ H)
/-- a clause's name is a local of the def -/
def NmOk (X : Cx) : Option Str → Option Nat → Prop
  | none, none => True
  | some n, some i => X.N[i]? = some n ∧ X.env.kindOf n = some .local
  | _, _ => False
inductive ClsOk (X : Cx) : List ExceptHandler → List Cl → Prop
  | nil : ClsOk X [] []
  | cons {x : Str} {k : Cl} {o : Option Str} {b : Stmt} {bs : List Stmt} {p q : Pos} {hs : List ExceptHandler} {ks : List Cl} : Names X x k.c → NmOk X o k.n →
      (∀ a oe cls d pn, Zc cls d oe → (∃ vs, oe.data = .fields vs) → PSs (X.suite a ((a, oe) :: pn)) (b :: bs) (k.ts a cls d)) → ClsOk X hs ks → ClsOk X (.ExceptHandler (some (.Name x p)) o (b :: bs) q :: hs) (k :: ks)

section
variable {X : Cx} {pins : List (Addr × Obj)} {σ : St} {H : Hp} {Wo : WX} {D : Ends}
/-- an exception of a body that is back on the ground -/
structure Down (X : Cx) (pins : List (Addr × Obj)) (σ : St) (H : Hp) (a : Addr) (B : Heap) (cls : Value) (d : Option Addr) (sI s' : Shared) : Prop where
  inv : Inv X pins σ H sI
  nb : ∀ b o, sI.heap.get? b = some o → b ∉ frs X.stack → B.get? b = some o
  up : sI.heap.UpToSlots s'.heap
  fly : HandSPX.FlyingZ B (X.env :: X.outer) a (Zc cls d) s'.heap
  na : H a = none
  os : s'.os = sI.os
  ag : AllBare s'.gens
theorem Down.heap {a : Addr} {B : Heap} {cls : Value} {d : Option Addr} {sI s' : Shared} (x : Down X pins σ H a B cls d sI s') {h : Heap} (f : HandSPX.FlyingZ B (X.env :: X.outer) a (Zc cls d) h) (u : s'.heap.UpToSlots h) : Down X pins σ H a B cls d sI { s' with heap := h } :=
  ⟨x.inv, x.nb, x.up.trans u, f, x.na, x.os, x.ag⟩
theorem Down.state {a : Addr} {B : Heap} {cls : Value} {d : Option Addr} {sI s' : Shared} (x : Down X pins σ H a B cls d sI s') : Inv X pins σ H s' := x.inv.landed x.nb x.fly.1 x.up x.os x.ag
theorem Down.suite {a : Addr} {B : Heap} {cls : Value} {d : Option Addr} {sI s' : Shared} (x : Down X pins σ H a B cls d sI s') (hf : X.env.frame = some X.env.locals) :
    ∃ oe vs, s'.heap.get? a = some oe ∧ Zc cls d oe ∧ oe.data = .fields vs ∧ Inv (X.suite a ((a, oe) :: (X.pn ++ pins))) [] σ H s' := by
  obtain ⟨oe, vs, he, hz, hd⟩ := x.fly.there
  have away : ∀ L ∈ frs (X.env :: X.outer), a ≠ L := by
    rintro L hL rfl
    obtain ⟨_, o', e', bad⟩ := x.fly.2.2.1.mem hL
    exact bad vs (by rw [he] at e'; injection e' with e'; rw [← e']; exact hd)
  refine ⟨oe, vs, he, hz, hd, x.state.suite he hd x.na (away _ (List.mem_filterMap.mpr ⟨_, .head _, hf⟩)) fun m => ?_⟩
  obtain ⟨e, me, fe⟩ := List.mem_filterMap.mp m
  exact away a (List.mem_filterMap.mpr ⟨e, .tail _ me, fe⟩) rfl
/-- the clauses, one after the other -/
theorem Down.clauses {a : Addr} {B : Heap} {cls : Value} {d : Option Addr} {sI : Shared} (hs : X.stack = X.env :: X.outer) (hf : X.env.frame = some X.env.locals) (hN : X.N.Nodup) (tk : Takes X Wo) :
    ∀ {l : List ExceptHandler} {ks : List Cl} {s' : Shared}, ClsOk X l ks → Down X pins σ H a B cls d sI s' → wCls X.K Wo D ks cls d σ H → wpAny (model X.prog X.w) X.A (handleBy (.ref a) X.env l) (SP X pins D) X.xe s' := by
  intro l ks s' hl x w
  induction hl with
  | nil =>
    refine wpAny_handleBy_nil ?_
    obtain ⟨_, _, _, oe, vs, tb, _, _, he, _, hd, h1, _⟩ := id x.fly
    have last : wpAny (model X.prog X.w) X.A (setFlight (.ref a) X.env.frame) (fun _ s4 => wpAny (model X.prog X.w) X.A (throw (.ref a) : Sem Flow) (SP X pins D) X.xe s4) X.xe s' := by
      rw [hf]
      refine HandSPX.setFlight_upZ x.fly fun h4 held u4 => wpAny_throw (tk (.ref a) _ ⟨a, B, sI, pins, σ, H, cls, d, rfl, x.inv, x.nb, x.up.trans u4, .inr (.inr ?_), x.na, x.os, x.ag, w⟩)
      rw [hs]
      exact held
    unfold PySem.passOn
    refine wpAny_bind (wpAny_field he hd h1 ?_)
    have some_tb : ¬ ((Value.ref tb == Value.none) = true) := by simp
    rw [if_neg some_tb]
    first
      | exact wpAny_bind (wpAny_pure (wpAny_bind last))
      | exact wpAny_bind last
  | @cons n k o b bs p q hs' ks' hn ho hsu _ ih =>
    obtain ⟨yes, e1, w1, w2⟩ := w
    obtain ⟨oe, vs, he, hz, hd, S0⟩ := x.suite hf
    refine wpAny_handleBy_cons (codeAny_handlers_test ?_) (fun z => by cases z)
    have own : PySem.W.Looks (model X.prog X.w) s'.heap (typeOf (.ref a)) cls := fun _ _ _ _ keep q => wpAny_typeOf_ref (keep a oe he) (by rw [hz.1]; exact q)
    have told := PySem.W.exm_one (M := model X.prog X.w) S0.kIn own e1
    have look : ∀ {Q E : Value → Shared → Prop}, Q k.c s' → wpAny (model X.prog X.w) (X.A.mark (some (.ref a))) (eval (.Name n p) X.env) Q E s' := by
      intro Q E z
      obtain ⟨g, nd, m | ⟨m, v, nn⟩⟩ := hn
      · exact ld_glob (X := X.suite a ((a, oe) :: (X.pn ++ pins))) S0 g m z nd
      · exact ld_blt (X := X.suite a ((a, oe) :: (X.pn ++ pins))) S0 g m v z nn nd
    refine look (told.here ?_)
    cases yes with
    | false => exact ih (w2 rfl)
    | true =>
      have run := w1 rfl a x.na
      clear w1 w2
      unfold Cl.ends Cl.slots at run
      cases o with
      | none =>
        cases en : k.n with
        | some i => rw [en] at ho; exact ho.elim
        | none =>
          rw [en] at run
          refine codeAny_handlers_suite (HandSPX.lands_againZ x.fly fun h4 f4 u4 => ?_)
          obtain ⟨oe4, vs4, _, hz4, hd4, S4⟩ := (x.heap f4 u4).suite hf
          refine wpAny_mono ((hsu a oe4 cls d (X.pn ++ pins) hz4 ⟨vs4, hd4⟩).run [] _ σ H D S4 run) (fun fl s6 z => ?_) fun _ _ z => z.elim
          cases fl with
          | ret u =>
            obtain ⟨v6, σ6, H6, S6, r6, q6⟩ := z
            exact ⟨v6, σ6, H6, S6.unsuite x.inv.ok, r6, q6⟩
          | next => obtain ⟨σ6, H6, S6, q6⟩ := z; exact ⟨σ6, H6, S6.unsuite x.inv.ok, q6⟩
          | brk => obtain ⟨σ6, H6, S6, q6⟩ := z; exact ⟨σ6, H6, S6.unsuite x.inv.ok, q6⟩
          | cont => obtain ⟨σ6, H6, S6, q6⟩ := z; exact ⟨σ6, H6, S6.unsuite x.inv.ok, q6⟩
      | some nm =>
        cases en : k.n with
        | none => rw [en] at ho; exact ho.elim
        | some i =>
          rw [en] at ho run
          obtain ⟨hi, hl⟩ := ho
          refine codeAny_handlers_suite_as (HandSPX.lands_againZ x.fly fun h4 f4 u4 => ?_)
          obtain ⟨oe4, vs4, _, hz4, hd4, S4⟩ := (x.heap f4 u4).suite hf
          refine store_ok (X := X.suite a ((a, oe4) :: (X.pn ++ pins))) (v := .ref a) S4 hN hi (.inl hl) rfl (fun s5 S5 => ?_) (.inr hl)
          refine wpAny_mono ((hsu a oe4 cls d (X.pn ++ pins) hz4 ⟨vs4, hd4⟩).run [] s5 _ H _ S5 run) (fun fl s6 z => ?_) fun _ _ z => z.elim
          have behind : ∀ {τ : St} {G : Hp} {Q : Shared → Prop}, Inv (X.suite a ((a, oe4) :: (X.pn ++ pins))) [] τ G s6 → (∀ t, Inv X pins (τ.set i none) G t → Q t) →
              wpAny (model X.prog X.w) X.A (do bindName X.env nm .none; unbindBehindTheSuite X.env nm q) (fun _ t => Q t) X.xe s6 := fun J k => gone_ok (J.unsuite x.inv.ok) hN hi hl k
          cases fl with
          | ret u =>
            obtain ⟨v6, σ6, H6, S6, r6, q6⟩ := z
            exact behind S6 fun t J => ⟨v6, _, H6, J, r6, q6⟩
          | next => obtain ⟨σ6, H6, S6, q6⟩ := z; exact behind S6 fun t J => ⟨_, H6, J, q6⟩
          | brk => obtain ⟨σ6, H6, S6, q6⟩ := z; exact behind S6 fun t J => ⟨_, H6, J, q6⟩
          | cont => obtain ⟨σ6, H6, S6, q6⟩ := z; exact behind S6 fun t J => ⟨_, H6, J, q6⟩
end
theorem ps_try_cls {X : Cx} {Wo : WX} {body : List Stmt} {h₀ : ExceptHandler} {hds : List ExceptHandler} {ks : List Cl} {pos : Pos} {tb : WX → TS} (hs : X.stack = X.env :: X.outer) (hf : X.env.frame = some X.env.locals) (hN : X.N.Nodup) (tk : Takes X Wo)
    (hb : ∀ W pn xe, Takes (X.tr pn xe) W → PassesOwn (model X.prog X.w) X.A X.env xe → PSs (X.tr pn xe) body (tb W)) (hh : ClsOk X (h₀ :: hds) ks) : PS X (.Try body (h₀ :: hds) [] [] pos) (fun D σ H => tb (wCls X.K Wo D ks) D σ H) := by
  constructor
  intro pins s σ H D I h
  have fr : X.A.frames = some (X.env :: X.outer) := by rw [I.ok.frames, hs]
  let xe' : Value → Shared → Prop := fun e s1 => wpAny (model X.prog X.w) X.A (noteFrame e X.env) (fun _ s2 => wpAny (model X.prog X.w) X.A (setFlight e none) (fun _ s3 => wpAny (model X.prog X.w) X.A (handleBy e X.env (h₀ :: hds)) (SP X pins D) X.xe s3) X.xe s2) X.xe s1
  have tk' : Takes (X.tr (X.pn ++ pins) xe') (wCls X.K Wo D ks) := by
    rintro u s' ⟨a, B, sI, pins', σ', H', cls, d, rfl, J', nb, up, sky, na, os, ag, w⟩
    refine Sky.land Zc.steady fr hf (by rw [← hs]; exact sky) fun h3 f3 u3 => ?_
    exact Down.clauses hs hf hN tk hh ⟨J'.ofTry I.ok, nb, up.trans u3, f3, na, os, ag⟩ w
  refine wpAny_Try_except (wpAny_mono ((hb _ (X.pn ++ pins) xe' tk' PassesOwn.looking).run [] s σ H D (I.toTry xe') h) (fun fl s1 z => ?_) fun _ _ z => z)
  cases fl with
  | ret u =>
    obtain ⟨v, σ', H', J, r, q⟩ := z
    exact ⟨v, σ', H', J.ofTry I.ok, r, q⟩
  | next => obtain ⟨σ', H', J, q⟩ := z; exact wpAny_execs_nil ⟨σ', H', J.ofTry I.ok, q⟩
  | brk => obtain ⟨σ', H', J, q⟩ := z; exact ⟨σ', H', J.ofTry I.ok, q⟩
  | cont => obtain ⟨σ', H', J, q⟩ := z; exact ⟨σ', H', J.ofTry I.ok, q⟩
end L2

namespace Rol
open PySem L2 PySem.Spec
open PyProof.Rows hiding St

/-- what a clause answers: made of what is told -/
inductive An where
  | non | bl (b : Bool) | int (i : Int) | str (x : Str) | what | tup (xs : List An)
mutual
def An.d : An → D → D
  | .non, _ => .non
  | .bl b, _ => .bl b
  | .int i, _ => .int i
  | .str x, _ => .str x
  | .what, w => w
  | .tup xs, w => .tup (An.dL xs w)
def An.dL : List An → D → List D
  | [], _ => []
  | x :: xs, w => x.d w :: An.dL xs w
end
/-- a clause: its class, what it answers to an error of a class -/
structure HC where
  cls : Str
  f : Str → Option An
/-- what is known in a clause's suite: the error's slot, its dict, what it was told, the store -/
structure InCl (K : PySem.W.Frag) (T : Tb) (φ : List Addr) (st : S) (i : Option Nat) (a dd : Addr) (c : Str) (w : D) (lv : Option (Nat × D)) (σ : L2.St) (H : Hp) : Prop where
  slot : ∀ k, i = some k → ∃ τ : L2.St, σ = τ.set k (some (.ref a))
  what : ∃ w', H dd = some (.xd (xdl c w')) ∧ RepV K φ H w w'
  s : RepS K T φ H st
  loc : ∀ k u, lv = some (k, u) → ∃ v', σ[k]? = some (some v') ∧ RepV K φ H u v'
/-- an expression of the suite has the value v -/
def tCl (K : PySem.W.Frag) (T : Tb) (φ : List Addr) (st : S) (i : Option Nat) (a dd : Addr) (c : Str) (w : D) (lv : Option (Nat × D)) (v : D) : TE := fun σ H Q => InCl K T φ st i a dd c w lv σ H ∧ ∀ H' v', Kp H H' → RepS K T φ H' st → RepV K φ H' v v' → Q v' H'
def tClA (K : PySem.W.Frag) (T : Tb) (φ : List Addr) (st : S) (i : Option Nat) (a dd : Addr) (c : Str) (w : D) (lv : Option (Nat × D)) (vs : List D) : TA := fun σ H Q => InCl K T φ st i a dd c w lv σ H ∧ ∀ H' vs', Kp H H' → RepS K T φ H' st → RepL K φ H' vs vs' → Q vs' H'
theorem InCl.mono {K : PySem.W.Frag} {T : Tb} {φ : List Addr} {st : S} {i : Option Nat} {a dd : Addr} {c : Str} {w : D} {lv : Option (Nat × D)} {σ : L2.St} {H H' : Hp} (h : InCl K T φ st i a dd c w lv σ H) (k : Kp H H') (s : RepS K T φ H' st) : InCl K T φ st i a dd c w lv σ H' := by
  obtain ⟨w', e, r⟩ := h.what
  refine ⟨h.slot, ⟨w', k _ _ e (fun z => z), r.mono (Ext.refl _) k⟩, s, fun j u e => ?_⟩
  obtain ⟨v', e2, r2⟩ := h.loc j u e
  exact ⟨v', e2, r2.mono (Ext.refl _) k⟩
/-- an expression in the suite -/
def JE (X : Cx) (i : Option Nat) (a dd : Addr) (c : Str) (w : D) (lv : Option (Nat × D)) (e : Expr) (v : D) : Prop := ∀ T φ st, PE X e (tCl X.K T φ st i a dd c w lv v)
def JA (X : Cx) (i : Option Nat) (a dd : Addr) (c : Str) (w : D) (lv : Option (Nat × D)) (es : List Expr) (vs : List D) : Prop := ∀ T φ st, PA X es (tClA X.K T φ st i a dd c w lv vs)

section
variable {X : Cx} {i : Option Nat} {a dd : Addr} {c : Str} {lv : Option (Nat × D)} {w v : D} {vs : List D} {e : Expr} {es : List Expr} {pos : Pos}
theorem JE.cst {u : V} (h : PE X e (tC u)) (r : ∀ φ H, RepV X.K φ H v u) : JE X i a dd c w lv e v := fun T φ st => conv_E h fun σ H Q q => q.2 H u (Kp.refl _) q.1.s (r φ H)
theorem JE.str {x : Str} {j} : JE X i a dd c w lv (.Constant (.str x) j pos) (.str x) := JE.cst pe_str fun _ _ => .str x
theorem JE.non {j} : JE X i a dd c w lv (.Constant .none j pos) .non := JE.cst pe_non fun _ _ => .non
theorem JE.int {z : Int} {j} : JE X i a dd c w lv (.Constant (.int z) j pos) (.int z) := JE.cst pe_int fun _ _ => .int z
theorem JE.bl {z : Bool} {j} : JE X i a dd c w lv (.Constant (.bool z) j pos) (.bl z) := JE.cst pe_bl fun _ _ => .bl z
theorem JA.nil : JA X i a dd c w lv [] [] := fun T φ st => conv_A pa_nil fun σ H Q q => q.2 H [] (Kp.refl _) q.1.s .nil
theorem JA.cons (h1 : JE X i a dd c w lv e v) (h2 : JA X i a dd c w lv es vs) (hs : starEach (e :: es) X.env = (false, eval e X.env) :: starEach es X.env := by rfl) : JA X i a dd c w lv (e :: es) (v :: vs) := fun T φ st => by
  refine conv_A (pa_cons (h1 T φ st) (h2 T φ st) hs) fun σ H Q q => ⟨q.1, fun H1 v1 k1 s1 r1 => ⟨q.1.mono k1 s1, fun H2 vs2 k2 s2 r2 => ?_⟩⟩
  exact q.2 H2 _ (k1.trans k2) s2 (.cons (r1.mono (Ext.refl _) k2) r2)
theorem JE.tup {x1} (h : JA X i a dd c w lv es vs) (hl : vs.length ≤ 4096 := by first | decide | simp [An.dL]) : JE X i a dd c w lv (.Tuple es x1 pos) (.tup vs) := fun T φ st => by
  refine conv_E (pe_tup (h T φ st)) fun σ H Q q => ⟨q.1, fun H1 vs1 k1 s1 r1 => ⟨by rw [← r1.length]; exact Nat.le_trans hl (by rw [sizeLine_eq]; decide), fun p hp => ?_⟩⟩
  exact q.2 _ _ (k1.trans (Kp.new hp)) (s1.beside hp) (.tup (SqT.of upd_same) (r1.mono (Ext.refl _) (Kp.new hp)))
end

/-- the suite's context: the error at a, of the class c -/
structure Held (X : Cx) (cm : CM) (c : Str) (a dd : Addr) (oe : Obj) : Prop where
  z : Zc (.ref (cm c)) (some dd) oe
  f : ∃ vs, oe.data = .fields vs
  T : ∃ fI, PySem.RolX.LowTxt c X.K X.mg (cm c) fI
section
variable {X : Cx} {cm : CM} {c n : Str} {a dd : Addr} {oe : Obj} {pn : List (Addr × Obj)} {lv : Option (Nat × D)} {w : D} {k : Nat} {p pos : Pos}
/-- error.what -/
theorem JE.what (h : Held X cm c a dd oe) (hN : X.N[k]? = some n) (hl : X.env.kindOf n = some .local) (hd : (n == ("__debug__" : Str)) = false := by decide) (hcd : (n == ("__classdict__" : Str)) = false := by decide)
    (hb : attributeBase (.Name n p) "what" X.env (eval (.Name n p) X.env) = eval (.Name n p) X.env := by rfl) : JE (X.suite a ((a, oe) :: pn)) (some k) a dd c w lv (.Attribute (.Name n p) "what" pos) w := fun T φ st => by
  obtain ⟨fI, T⟩ := h.T
  have h1 : PE (X.suite a ((a, oe) :: pn)) (.Name n p) (tVar k) := pe_var (X := X.suite a ((a, oe) :: pn)) hN (.inl hl) hd hcd
  refine ⟨fun pins s σ H Q I q => (pe_byLow T h.z h.f h1 hb).run pins s σ H Q I ?_⟩
  obtain ⟨τ, et⟩ := q.1.slot k rfl
  obtain ⟨w', e, r⟩ := q.1.what
  have hk : k < τ.length := by
    have z : k < X.N.length := (List.getElem?_eq_some_iff.mp hN).1
    have l : σ.length = X.N.length := I.len
    rw [et, List.length_set] at l
    omega
  refine ⟨.ref a, by rw [et]; exact List.getElem?_set_self hk, rfl, rfl, dd, w', rfl, e, ?_⟩
  exact q.2 H w' (Kp.refl _) q.1.s r
end

/-- a clause's suite: it gives v -/
def JB (X : Cx) (i : Option Nat) (a dd : Addr) (c : Str) (w : D) (body : List Stmt) (v : D) : Prop := ∀ T φ st, PSs X body (fun D σ H => tCl X.K T φ st i a dd c w none v σ H D.rt)
theorem JB.ret {X : Cx} {i : Option Nat} {a dd : Addr} {c : Str} {w v : D} {e : Expr} {r : Pos} (h : JE X i a dd c w none e v) : JB X i a dd c w [.Return (some e) r] v := fun T φ st => pss_one (ps_ret (h T φ st))
theorem JB.set {X : Cx} {i : Option Nat} {a dd : Addr} {c x : Str} {w u v : D} {e1 e2 : Expr} {k : Nat} {p1 r1 r2 : Pos} (hN : X.N.Nodup) (hi : X.N[k]? = some x) (hx : Loc X.env.scope x) (hk : i ≠ some k) (h1 : JE X i a dd c w none e1 u) (h2 : JE X i a dd c w (some (k, u)) e2 v)
    (hf : X.fn x = true ∨ X.env.scope.names.lookup x = some .local) (hs : swapsWith e1 (some (.Name x p1)) r1.line X.env = pure false := by rfl) : JB X i a dd c w [.Assign [.Name x p1] e1 r1, .Return (some e2) r2] v := fun T φ st => by
  have hp := pss_cons (ps_set (pos' := p1) (pos := r1) hN hi hx (h1 T φ st) hs hf) (pss_one (ps_ret (pos := r2) (h2 T φ st)))
  refine ⟨fun pins s σ H D I g => hp.run pins s σ H D I ?_⟩
  obtain ⟨g1, g2⟩ := g
  have hkl : k < σ.length := by
    have z : k < X.N.length := (List.getElem?_eq_some_iff.mp hi).1
    have l : σ.length = X.N.length := I.len
    omega
  refine ⟨g1, fun H1 v1 k1 s1 r1 => ?_⟩
  refine ⟨⟨fun j ej => ?_, ?_, s1, fun j z ej => ?_⟩, fun H2 v2 k2 s2 r2 => g2 H2 v2 (k1.trans k2) s2 r2⟩
  · obtain ⟨τ, et⟩ := g1.slot j ej
    refine ⟨τ.set k (some v1), ?_⟩
    rw [et, List.set_comm _ _ (fun e => hk (by rw [ej, e]))]
  · obtain ⟨w', e, r⟩ := g1.what
    exact ⟨w', k1 _ _ e (fun z => z), r.mono (Ext.refl _) k1⟩
  · cases ej
    exact ⟨v1, List.getElem?_set_self hkl, r1⟩
/-- a clause of the program and its answer -/
inductive HcsOk (X : Cx) (cm : CM) (em : Str → Str → Option Bool) : List ExceptHandler → List HC → Prop
  | nil : HcsOk X cm em [] []
  | cons {x : Str} {h : HC} {o : Option Str} {i : Option Nat} {s0 : Stmt} {ss : List Stmt} {p q : Pos} {hs : List ExceptHandler} {l : List HC} : Names X x (.ref (cm h.cls)) → NmOk X o i →
      (∀ c w v a dd oe pn, em c h.cls = some true → h.f c = some v → Held X cm c a dd oe → JB (X.suite a ((a, oe) :: pn)) i a dd c w (s0 :: ss) (v.d w)) → HcsOk X cm em hs l →
      HcsOk X cm em (.ExceptHandler (some (.Name x p)) o (s0 :: ss) q :: hs) (h :: l)
theorem Cl.ends_rt (k : Cl) (D : Ends) : (k.ends D).rt = D.rt := by
  unfold Cl.ends
  split <;> rfl
/-- what a clause wishes -/
def tsCl (K : PySem.W.Frag) (cm : CM) (em : Str → Str → Option Bool) (h : HC) (i : Option Nat) (a : Addr) (cls : Value) (d : Option Addr) : TS := fun D σ H =>
  ∃ c w v dd φ st, cls = .ref (cm c) ∧ d = some dd ∧ em c h.cls = some true ∧ h.f c = some v ∧ tCl K cm.T φ st i a dd c w none (v.d w) σ H D.rt
end Rol

namespace Rol
open PySem L2 PySem.Spec
open PyProof.Rows hiding St
theorem extN_kp {H H' : Hp} (h : LamX.ExtN H H') : Kp H H' := fun a o e n => h a o e fun ps z => n (by rw [z]; exact trivial)
theorem RepS.extN {K : PySem.W.Frag} {T : Tb} {φ : List Addr} {H H' : Hp} {st : S} (R : RepS K T φ H st) (h : LamX.ExtN H H') (t : LamX.Tabs T.l H') : RepS K T φ H' st := by
  refine ⟨R.len, fun i a o h1 h2 => ?_, R.inj, t⟩
  have ro := R.obj i a o h1 h2
  refine RepO.mono_of (Ext.refl _) (extN_kp h) (fun m => ?_) ro
  cases o with
  | lst xs =>
    obtain ⟨vs, e, _⟩ := ro
    rw [e]
    exact h a _ e fun ps z => by cases z
  | src xs => cases m
  | dk kvs =>
    obtain ⟨vs, e, _⟩ := ro
    rw [e]
    exact h a _ e fun ps z => by cases z
  | dx kvs =>
    obtain ⟨vs, e, _⟩ := ro
    rw [e]
    exact h a _ e fun ps z => by cases z
  | fx kvs =>
    obtain ⟨od, vs, e, _⟩ := ro
    rw [e]
    exact h a _ e fun ps z => by cases z
theorem Hd.extN {K : PySem.W.Frag} {T : Tb} {φ : List Addr} {H H' : Hp} {σ : L2.St} {ρ : Nv} {st : S} (hd : Hd K T φ H σ ρ st) (h : LamX.ExtN H H') (t : LamX.Tabs T.l H') : Hd K T φ H' σ ρ st := ⟨hd.s.extN h t, hd.e.mono (Ext.refl _) (extN_kp h)⟩
end Rol

namespace Rol
open PySem L2 PySem.Spec LamX
open PyProof.Rows hiding St

/-- what the clauses answer to an error of the class c -/
def catchA (em : Str → Str → Option Bool) : List HC → Str → Option An
  | [], _ => none
  | h :: r, c => match em c h.cls with
    | some true => h.f c
    | some false => catchA em r c
    | none => none
/-- what is told of a run: the value, or what the clauses answer -/
def eHeard (em : Str → Str → Option Bool) (m : DE) (l : List HC) : DE := fun ρ st => match m ρ st with
  | .ok v st' => .ok (.tup [.str "told", v]) st'
  | .exc c w st' => (match catchA em l c with
    | some a => .ok (a.d w) st'
    | none => .stuck)
  | .stuck => .stuck

/-- the clauses as wishes, each answer told by the class -/
theorem heard_cls {X : Cx} {cm : CM} {em : Str → Str → Option Bool} (hT : ∀ c x, em c x = some true → ∃ fI, PySem.RolX.LowTxt c X.K X.mg (cm c) fI) (hE : ∀ c x b, em c x = some b → PySem.W.exmOne X.K (.ref (cm c)) (.ref (cm x)) = some b) :
    ∀ {hs : List ExceptHandler} {l : List HC}, HcsOk X cm em hs l → ∃ ks, ClsOk X hs ks ∧ ∀ (D : Ends) c w v st φ H σ d w', catchA em l c = some v → RepS X.K cm.T φ H st → RepV X.K φ H w w' → H d = some (.xd (xdl c w')) →
      (∀ H2 v2, Kp H H2 → RepS X.K cm.T φ H2 st → RepV X.K φ H2 (v.d w) v2 → D.rt v2 H2) → wCls X.K (fun _ _ _ _ => False) D ks (.ref (cm c)) (some d) σ H := by
  intro hs l hl
  induction hl with
  | nil => exact ⟨[], .nil, fun D c w v st φ H σ d w' q => nomatch q⟩
  | @cons x h o i s0 ss p q hs' l' hn ho hj _ ih =>
    obtain ⟨ks, k1, k2⟩ := ih
    refine ⟨⟨.ref (cm h.cls), i, tsCl X.K cm em h i⟩ :: ks, .cons hn ho (fun a oe cls d pn hz hf => ?_) k1, fun D c w v st φ H σ d w' q x3 x4 x5 x6 => ?_⟩
    · refine ⟨fun pins s σ H D I g => ?_⟩
      obtain ⟨c, w, v, dd, φ, st, e1, e2, e3, e4, g⟩ := g
      subst e1 e2
      exact (hj c w v a dd oe pn e3 e4 ⟨hz, hf, hT _ _ e3⟩ cm.T φ st).run pins s σ H D I g
    · rw [catchA] at q
      cases em' : em c h.cls with
      | none => rw [em'] at q; cases q
      | some b =>
        rw [em'] at q
        cases b with
        | false => exact ⟨false, hE _ _ _ em', (fun z => by cases z), fun _ => k2 D c w v st φ H σ d w' q x3 x4 x5 x6⟩
        | true =>
          refine ⟨true, hE _ _ _ em', fun _ a na => ?_, fun z => by cases z⟩
          refine ⟨c, w, v, d, φ, st, rfl, rfl, em', q, ⟨fun k ek => ?_, ⟨w', x5, x4⟩, x3, fun _ _ z => nomatch z⟩, fun H2 v2 y1 y2 y3 => ?_⟩
          · have ek : i = some k := ek
            subst ek
            exact ⟨σ, rfl⟩
          · rw [Cl.ends_rt]
            exact x6 H2 v2 y1 y2 y3

section
variable {X : Cx} {cm : CM} {W : WX} {pins : List (Addr × Obj)} {σ : L2.St} {H : Hp} {s : Shared}
/-- a frame entered for the def x; nothing leaves it -/
abbrev cxH (X : Cx) (Ng : List Str) (x : Str) (sg : Scope) (g : Addr) (cdg : Value) (s : Shared) (H : Hp) : Cx := cxOf C8.CX0 X.prog X.w X.K X.mg X.base Ng x sg g cdg X.A X.stack s H C8.E0
/-- the lambda that the slot 0 holds, called with nothing: its body runs in the slots of its maker -/
theorem pe_actG {Ng : List Str} {x : Str} {sg : Scope} {g f c' : Addr} {cdg pm ctv : Value} {params : Arguments} {body : Expr} {scope : Scope} {k : Nat} {a : Str} {pn : List (Addr × Obj)} {xe : Value → Shared → Prop} {WZ : WX} {E : XK} {tb : TE} {p1 p2 : Pos}
    (hG : X.A.guards = some []) (I : Inv X pins σ H s) (L : LamS X.env.scope scope) (at_f : s.heap.get? f = some (PySem.W.kla_obj "<lambda>" (X.env.qual ++ "<lambda>") params body scope (cloFrom X.env.cells scope.names []) pm c' ctv)) (free_f : H f = none) (out_f : f ∉ frs X.stack)
    (hbind : bindArgs (PySem.W.kla_fn "<lambda>" (X.env.qual ++ "<lambda>") params body scope (cloFrom X.env.cells scope.names []) pm (.ref c') ctv) ⟨[], []⟩ = pure [])
    (tk : Takes ((cxH X Ng x sg g cdg s H).tr pn xe) WZ) (hW : ∀ cls d σ' H', E cls d H' → WZ cls d σ' H') (room : Room (k + 1) (X.A.deeper (envOfC x sg s.heap.objs.size g cdg)))
    (run : ∀ (A : Around) (outer : List Env) (s : Shared) (H : Hp), A.guards = some [] → Room k (A.deeper (lamEnv X scope s.heap.objs.size f c')) → PE (lamCx X A outer s H E scope f c') body tb)
    (hN : Ng[0]? = some a) (hv : Vis sg a) (hd : (a == ("__debug__" : Str)) = false) (hcd : (a == ("__classdict__" : Str)) = false) :
    PE ((cxH X Ng x sg g cdg s H).tr pn xe) (.Call (.Name a p1) [] [] p2) (fun σZ HZ Q => σZ[0]? = some (some (.ref f)) ∧ HZ c' = some (CodeO c' (X.env.qual ++ "<lambda>")) ∧ tb σ HZ Q) := by
  constructor
  rintro pinsZ sZ σZ HZ Q IZ ⟨slot, code, told⟩
  have name := (pe_var (pos := p1) (i := 0) hN hv hd hcd).run pinsZ sZ σZ HZ (fun v H1 => v = .ref f ∧ H1 = HZ) IZ ⟨.ref f, slot, rfl, rfl⟩
  apply wpAny_Call_Name_kw
  apply thn name
  rintro u s1 ⟨v, H1, I1, rel, ev, eH⟩
  subst ev
  subst eH
  obtain rfl : u = Value.ref f := rel
  have there : s1.heap.get? f = _ := I1.base.keep f _ at_f free_f out_f (fun z => nomatch z)
  obtain ⟨⟨oc, vs, t, o1, o2, o3⟩, _, _⟩ := I1.hok c' _ code
  apply PySem.W.callWith_F0 ⟨_, _, _, _, there⟩
  have hx : Passes (L2.CX X.prog X.w) ((cxH X Ng x sg g cdg s H).tr pn xe) E := passes_call tk hW
  have ran : codeAny (model X.prog X.w) (X.A.deeper (envOfC x sg s.heap.objs.size g cdg)) (.call (.ref f) ⟨[], []⟩) (CR (L2.CX X.prog X.w) (envOfC x sg s.heap.objs.size g cdg :: X.stack) X.prog X.w H1 s1 Q E) s1 := by
    apply PySem.W.kla_callFunE room.depth there rfl L.co L.gen rfl ⟨c', oc, vs, t, rfl, o1, o2, o3⟩
    rw [hbind]
    apply wpAny_pure
    refine wpAny_newFunctionEnv (fun y hy => (L.own y hy).2) (fun y hy => absurd hy (by simp)) (fun h₁ ns_ sb_ => ⟨I1.nolimit.fresh _ sb_, ?_⟩) L.kind
    have grow : ∀ b o, s1.heap.get? b = some o → h₁.get? b = some o := fun b o e => sb_.extBut b o (Nat.ne_of_lt (Heap.lt_size e)) (Heap.get?_push_of_some _ e)
    have J := lam_start2 (E := E) (f := f) (c' := c') (tk := s1.toks + ([] : List (Str × Value)).length) I L I1.env0 room.hd I1.base ns_ grow
    refine PySem.W.kla_codeExpr (wpAny_mono ((run (X.A.deeper (envOfC x sg s.heap.objs.size g cdg)) _ s1 H1 hG (room.deeper _)).run [] _ _ H1 Q J told) ?_ fun e s' hq => hq)
    rintro v s' ⟨w', H', J', rv, q⟩
    exact ⟨w', H', J'.os, J'.bare, J'.base, J'.hok, rv, q⟩
  apply wpAny_call
  refine codeAny_mono ran fun r s' hq => ?_
  cases r with
  | error e => exact hx pinsZ σZ H1 s1 e s' I1 hq
  | ok fl =>
    cases fl with
    | ret u => exact I1.after hq
    | _ => exact False.elim hq

/-- what is wanted of an error: the clauses answer it, and the answer is wanted -/
def EH (K : PySem.W.Frag) (cm : CM) (em : Str → Str → Option Bool) (l : List HC) (Q : VK) : XK := fun cls d H =>
  ∃ c w v st φ dd w', cls = .ref (cm c) ∧ d = some dd ∧ catchA em l c = some v ∧ RepS K cm.T φ H st ∧ RepV K φ H w w' ∧ H dd = some (.xd (xdl c w')) ∧ ∀ H2 v2, Kp H H2 → RepS K cm.T φ H2 st → RepV K φ H2 (v.d w) v2 → Q v2 H2
/-- what is wanted of a value: the pair is -/
def QH (Q : VK) : VK := fun v H => [V.str "told", v].length ≤ sizeLine ∧ ∀ p, H p = none → Q (.ref p) (upd H p (.tup [.str "told", v]))
/-- the def that hears: its body -/
def HearsB (X : Cx) (cm : CM) (em : Str → Str → Option Bool) (l : List HC) (Ng : List Str) (x : Str) (sg : Scope) (g : Addr) (cdg : Value) (a : Str) (bg : List Stmt) : Prop :=
  ∀ (q : Str) (f c' : Addr) (s : Shared) (H : Hp) (Q : VK) (tl : XK → Hp → VK → Prop),
    (∀ (WZ : WX) (pn : List (Addr × Obj)) (xe : Value → Shared → Prop) (E : XK) (p1 p2 : Pos), Takes ((cxH X Ng x sg g cdg s H).tr pn xe) WZ → (∀ cls d σ' H', E cls d H' → WZ cls d σ' H') →
      PE ((cxH X Ng x sg g cdg s H).tr pn xe) (.Call (.Name a p1) [] [] p2) (fun σZ HZ Q => σZ[0]? = some (some (.ref f)) ∧ HZ c' = some (CodeO c' q) ∧ tl E HZ Q)) →
    (∀ E H Q Q', (∀ v H, Q v H → Q' v H) → tl E H Q → tl E H Q') → H c' = some (CodeO c' q) → tl (EH X.K cm em l Q) H (QH Q) →
    ∃ t, PSs (cxH X Ng x sg g cdg s H).nox bg t ∧ t { nx := fun _ H' => Q .non H', rt := Q } (L2.start Ng [.ref f]) H
theorem start0 {Ng : List Str} {a : Str} {f : Addr} (hN : Ng[0]? = some a) : (L2.start Ng [V.ref f])[0]? = some (some (V.ref f)) := by
  cases Ng with
  | nil => cases hN
  | cons n Ng => rfl
theorem EH.cls {X : Cx} {cm : CM} {em : Str → Str → Option Bool} {l : List HC} {D : Ends} {ks : List Cl}
    (k2 : ∀ (D : Ends) c w v st φ H σ d w', catchA em l c = some v → RepS X.K cm.T φ H st → RepV X.K φ H w w' → H d = some (.xd (xdl c w')) →
      (∀ H2 v2, Kp H H2 → RepS X.K cm.T φ H2 st → RepV X.K φ H2 (v.d w) v2 → D.rt v2 H2) → wCls X.K (fun _ _ _ _ => False) D ks (.ref (cm c)) (some d) σ H) :
    ∀ cls d σ H, EH X.K cm em l D.rt cls d H → wCls X.K (fun _ _ _ _ => False) D ks cls d σ H := by
  rintro cls d σ H ⟨c, w, v, st, φ, dd, w', rfl, rfl, e, s, r, x, q⟩
  exact k2 D c w v st φ H σ dd w' e s r x q
/-- try: return ('told', a()) / except .. -/
theorem hears_ret {Ng : List Str} {x a : Str} {sg : Scope} {g : Addr} {cdg : Value} {em : Str → Str → Option Bool} {h₀ : ExceptHandler} {hds : List ExceptHandler} {l : List HC} {i0 x1} {p1 p2 p3 p4 p5 p6 : Pos}
    (hT : ∀ c x, em c x = some true → ∃ fI, PySem.RolX.LowTxt c X.K X.mg (cm c) fI) (hE : ∀ c x b, em c x = some b → PySem.W.exmOne X.K (.ref (cm c)) (.ref (cm x)) = some b) (hNd : Ng.Nodup) (hN : Ng[0]? = some a)
    (hh : ∀ s H, HcsOk (cxH X Ng x sg g cdg s H).nox cm em (h₀ :: hds) l) :
    HearsB X cm em l Ng x sg g cdg a [.Try [.Return (some (.Tuple [.Constant (.str "told") i0 p1, .Call (.Name a p2) [] [] p3] x1 p4)) p5] (h₀ :: hds) [] [] p6] := by
  intro q f c' s H Q tl act mono hc h
  obtain ⟨ks, k1, k2⟩ := heard_cls (X := (cxH X Ng x sg g cdg s H).nox) hT hE (hh s H)
  refine ⟨_, pss_one (ps_try_cls (X := (cxH X Ng x sg g cdg s H).nox) (Wo := fun _ _ _ _ => False) (ks := ks)
    (tb := fun WZ D σ H => ∃ E : XK, (∀ cls d σ' H', E cls d H' → WZ cls d σ' H') ∧ σ[0]? = some (some (.ref f)) ∧ H c' = some (CodeO c' q) ∧ tl E H (QH D.rt)) rfl rfl hNd L2.takes0 (fun WZ pn xe tk _ => ?_) k1), ?_⟩
  · refine ⟨fun pins s' σ H' D I h' => ?_⟩
    obtain ⟨E, hW, z1, z2, z3⟩ := h'
    have hp := pss_one (ps_ret (pos := p5) (pe_tup (x1 := x1) (pos := p4) (pa_cons (show PE _ (.Constant (.str "told") i0 p1) (tC (.str "told")) from pe_str) (pa_cons (act WZ pn xe E p2 p3 tk hW) pa_nil))))
    exact hp.run pins s' σ H' D I ⟨z1, z2, z3⟩
  · refine ⟨EH X.K cm em l Q, fun cls d σ' H' z => EH.cls k2 cls d σ' H' z, start0 hN, hc, h⟩
/-- x(lambda: body), by data -/
theorem rE_heard {em : Str → Str → Option Bool} {l : List HC} {x a : Str} {g c P : Addr} {k : Nat} {pg : Arguments} {bg : List Stmt} {sg : Scope} {dV kV doc pm cdv ct oc : Value} {an od : Option Addr} {osl : Array (Option Value)} {Ng : List Str}
    {params : Arguments} {body : Expr} {scope : Scope} {m : DE} {p lpos pos : Pos} (hG : X.A.guards = some []) (hm : X.mg x = some (.ref g)) (hk : PySem.W.keepIn X.K (.ref g) = true)
    (lk : X.K.lookup g = some ⟨oc, od, .func (PySem.W.fnOf x x pg bg sg dV kV doc pm an cdv ct), osl⟩) (hcg : PySem.W.codeIn X.K cdv x = true) (hb : L2.Binds X.K (PySem.W.fnOf x x pg bg sg dV kV doc pm an cdv ct) [a] []) (Sg : FnScope Ng [a] sg) (hNg : Ng[0]? = some a) (hva : Vis sg a)
    (hB : HearsB X cm em l Ng x sg g cdv a bg)
    (TB : TabB X.base X.mg c P) (hcode : X.env.code = .ref c) (hmT : (P, X.env.qual ++ "<lambda>") ∈ cm.T.l) (hu : ∀ p ∈ cm.T.l, p.1 = P → p.2 = X.env.qual ++ "<lambda>") (room : Room (k + 2) X.A) (L : LamS X.env.scope scope)
    (run : ∀ (A : Around) (outer : List Env) (s : Shared) (H : Hp) (E : XK) (f c' : Addr), A.guards = some [] → Room k (A.deeper (lamEnv X scope s.heap.objs.size f c')) → Takes (lamCx X A outer s H E scope f c') (fun c d _ H => E c d H) → PE (lamCx X A outer s H E scope f c') body (tE X.K cm (fun c d _ H => E c d H) m))
    (hbind : ∀ (q : Str) (cl : List (Str × Addr)) (pm cv ctv : Value), bindArgs (PySem.W.kla_fn "<lambda>" q params body scope cl pm cv ctv) ⟨[], []⟩ = pure [] := by intros; rfl) (hdef : defaultsOf params X.env = ([], []) := by rfl) (hg : Gl X x := by rfl) (hdb : (x == ("__debug__" : Str)) = false := by decide) (hd : (a == ("__debug__" : Str)) = false := by decide) (hcd : (a == ("__classdict__" : Str)) = false := by decide) :
    PE X (.Call (.Name x p) [.Lambda params body scope lpos] [] pos) (tE X.K cm W (eHeard em m l)) := by
  constructor
  rintro pins s σ H Q I ⟨φ, ρ, st, hd0, h⟩
  apply wpAny_Call_Name_kw
  apply ld_glob I hg hm _ hdb
  refine PySem.W.callWith_K (h₀ := X.base) I.ok.mod.kin hk ?_ (by rfl) (by rfl)
  show wpAny _ _ (spliced ((false, eval (.Lambda params body scope lpos) X.env) :: backTo pos (starEach [] X.env))) _ _ s
  refine Calls.spliced_cons (lam_make2 I TB hcode hmT hu hd0.s.tab hdef (L.has I.ok) fun f c' pm' ctv H1 s' I1 eN T1 hf hfn hfr hco => Calls.spliced_nil ⟨I1.kIn, ?_⟩)
  have hd1 := hd0.extN eN T1
  have told : AtG X.K cm W (RV X.K) φ H1 σ Q (eHeard em m l ρ st) := h.mono (Ext.refl _) (extN_kp eN)
  have tl : tE X.K cm (fun c d _ H => EH X.K cm em l Q c d H) m σ H1 (QH Q) := by
    refine ⟨φ, ρ, st, hd1, ?_⟩
    unfold eHeard at told
    cases e : m ρ st with
    | ok v st' =>
      rw [e] at told
      refine fun φ' H' b e' k' s' r' => ⟨by rw [sizeLine_eq]; simp, fun p hp => ?_⟩
      exact told φ' _ _ e' (k'.trans (Kp.new hp)) (s'.beside hp) (.tup (SqT.of upd_same) (.cons (.str _) (.cons (r'.mono (Ext.refl _) (Kp.new hp)) .nil)))
    | exc c w st' =>
      rw [e] at told
      dsimp only at told
      cases ec : catchA em l c with
      | none => rw [ec] at told; exact told.elim
      | some v =>
        rw [ec] at told
        exact fun φ' H' d w' e' k' s' r' x' => ⟨c, w, v, st', φ', d, w', rfl, rfl, ec, s', r', x', fun H2 v2 y1 y2 y3 => told φ' H2 v2 e' (k'.trans y1) y2 y3⟩
    | stuck => rw [e] at told; exact told.elim
  have ran : codeAny (model X.prog X.w) X.A (.call (.ref g) ⟨[.ref f], []⟩) (CR C8.CX0 X.stack X.prog X.w H1 s' Q C8.E0) s' := by
    refine run_ofS (N := Ng) (ps := [a]) (us := [.ref f]) (vs := [.ref f]) lk hcg Sg room I1.env0 (hb s' [.ref f] I1.kIn rfl) (.cons rfl .nil) rfl fun room' => ?_
    obtain ⟨t', ht', hq'⟩ := hB (X.env.qual ++ "<lambda>") f c' s' H1 Q (fun E H Q => tE X.K cm (fun c d _ H => E c d H) m σ H Q)
      (fun WZ pn xe E p1 p2 tk hW => pe_actG hG I1 L hf hfn hfr (hbind _ _ _ _ _) tk hW room' (fun A outer s H g0 r0 => run A outer s H E f c' g0 r0 (takes_of rfl rfl rfl rfl)) hNg hva hd hcd)
      (fun E H Q Q' hQ z => by
        obtain ⟨φ, ρ, st, z1, z2⟩ := z
        refine ⟨φ, ρ, st, z1, ?_⟩
        cases e : m ρ st with
        | ok v st' => rw [e] at z2; exact fun φ' H' b y1 y2 y3 y4 => hQ _ _ (z2 φ' H' b y1 y2 y3 y4)
        | exc c w st' => rw [e] at z2; exact z2
        | stuck => rw [e] at z2; exact z2) hco tl
    exact ⟨t', ht'.nox, hq'⟩
  apply wpAny_call
  refine codeAny_mono ran fun r s2 hq => ?_
  cases r with
  | error e => exact (show False from hq).elim
  | ok fl =>
    cases fl with
    | ret u => exact I1.after hq
    | _ => exact False.elim hq
end
end Rol

namespace Rol
open PySem L2 PySem.Spec LamX
open PyProof.Rows hiding St

abbrev tab0 : Obj := { cls := .none, data := .fields #[] }
/-- what is known of the makers at the head's heap: code objects and their tables -/
structure Tabs0 (K : PySem.W.Frag) (h : Heap) (cs : List (Addr × Addr)) : Prop where
  at_ : ∀ p ∈ cs, h.get? p.2 = some tab0
  out : ∀ p ∈ cs, K.lookup p.2 = none
  code : ∀ p ∈ cs, PySem.W.CodeHd h p.1 p.2
/-- the first store: the script at a, the tables -/
def H0 (a : Addr) (u : Option HO) (cs : List (Addr × Addr)) : Hp := fun b => if b = a then u else if b ∈ cs.map (·.2) then some (.tbl #[]) else none
section
variable {P : Program} {w : World} {K : PySem.W.Frag} {mg mb : Str → Option Value} {s : Shared} {a : Addr} {vs : List Value} {cs : List (Addr × Addr)} {u : Option HO}
theorem H0_some {b : Addr} (h : H0 a u cs b ≠ none) : b = a ∨ b ∈ cs.map (·.2) := by
  unfold H0 at h
  by_cases e : b = a
  · exact .inl e
  · rw [if_neg e] at h
    by_cases m : b ∈ cs.map (·.2)
    · exact .inr m
    · rw [if_neg m] at h
      exact absurd rfl h
theorem tabs_at (t : Tabs0 K s.heap cs) {b : Addr} (h : b ∈ cs.map (·.2)) : s.heap.get? b = some tab0 := by
  obtain ⟨p, hp, rfl⟩ := List.mem_map.mp h
  exact t.at_ p hp
theorem a_out (t : Tabs0 K s.heap cs) (ha : s.heap.get? a = some { cls := .type "list", data := .seq vs.toArray }) : a ∉ cs.map (·.2) := fun z => by
  have q := tabs_at t z
  rw [ha] at q
  have q' := congrArg Obj.cls (Option.some.inj q)
  cases q'
theorem H0_tab (t : Tabs0 K s.heap cs) (ha : s.heap.get? a = some { cls := .type "list", data := .seq vs.toArray }) {p : Addr × Addr} (h : p ∈ cs) : H0 a u cs p.2 = some (.tbl #[]) := by
  have m : p.2 ∈ cs.map (·.2) := List.mem_map.mpr ⟨p, h, rfl⟩
  unfold H0
  rw [if_neg fun z => a_out t ha (by rw [← z]; exact m), if_pos m]
/-- what has data of another form is not in it -/
theorem H0_none (t : Tabs0 K s.heap cs) (ha : s.heap.get? a = some { cls := .type "list", data := .seq vs.toArray }) {b : Addr} {o : Obj} (e : s.heap.get? b = some o) (h1 : o.data ≠ .seq vs.toArray) (h2 : o.data ≠ .fields #[]) : H0 a u cs b = none := by
  apply Classical.byContradiction
  intro q
  rcases H0_some q with e' | e'
  · subst e'
    rw [ha] at e
    cases e
    exact h1 rfl
  · rw [tabs_at t e'] at e
    cases e
    exact h2 rfl
theorem env_lawT (t : Tabs0 K s.heap cs) (inK : K.In s.heap) (ns : s.heap.Ns mainGlobals mg) (nb : s.heap.Ns builtinsNs mb) (bb : ∀ x : Str, x ≠ "__name__" → mb x = bootBuiltins x) (nl : s.heap.NoLimit) (hg : s.gens = #[])
    (hbm : ∃ (bm : Addr) (ob : Obj), mg "__builtins__" = some (.ref bm) ∧ bm ≠ builtinsNs ∧ s.heap.get? bm = some ob ∧ ob.cls = .type "module" ∧ ob.dict = some builtinsNs ∧ ob.data = .plain)
    (ha : s.heap.get? a = some { cls := .type "list", data := .seq vs.toArray }) (ok : HOk P w (H0 a u cs) s.heap) (hK : u ≠ none → K.lookup a = none) :
    K.In (hidT s.heap (H0 a u cs)) ∧ (hidT s.heap (H0 a u cs)).Ns mainGlobals mg ∧ Env0 P w K mg (hidT s.heap (H0 a u cs)) callerA [] s (H0 a u cs) ∧ ∀ p ∈ cs, TabB (hidT s.heap (H0 a u cs)) mg p.1 p.2 := by
  have to : ∀ {b : Addr} {o : Obj}, s.heap.get? b = some o → o.data ≠ .seq vs.toArray → o.data ≠ .fields #[] → (hidT s.heap (H0 a u cs)).get? b = some o := fun e h1 h2 => hidT_get e (H0_none t ha e h1 h2)
  have toN : ∀ {b : Addr} {m : Str → Option Value}, s.heap.Ns b m → (hidT s.heap (H0 a u cs)).Ns b m := by
    rintro b m ⟨o, es, ep, e, d, r⟩
    exact ⟨o, es, ep, to e (by rw [d]; intro z; cases z) (by rw [d]; intro z; cases z), d, r⟩
  have toK : K.In (hidT s.heap (H0 a u cs)) := by
    intro b o e
    refine hidT_get (inK b o e) (Classical.byContradiction fun q => ?_)
    rcases H0_some q with e' | e'
    · subst e'
      by_cases hu : u = none
      · unfold H0 at q
        rw [if_pos rfl] at q
        exact q hu
      · rw [hK hu] at e
        cases e
    · obtain ⟨p, hp, rfl⟩ := List.mem_map.mp e'
      rw [t.out p hp] at e
      cases e
  refine ⟨toK, toN ns, ⟨rfl, ⟨toK, toN ns, ⟨mb, toN nb, bb⟩, ?_⟩, fun b o e => of_hidT e, Nat.le_of_eq (hidT_size _ _), trivial, ?_, ok, .of_eq hg⟩, fun p hp => ⟨?_, ?_, ?_⟩⟩
  · obtain ⟨mc, h1, h2⟩ := nl
    exact ⟨mc, toN h1, h2⟩
  · intro b hb
    cases hb
  · obtain ⟨o, us, file, tf, flags, tg, inF, text, tt, e1, r1, r2, r3, r⟩ := t.code p hp
    exact ⟨o, us, file, tf, flags, tg, inF, text, tt, to e1 (by rw [r2]; intro z; cases z) (by
      rw [r2]
      intro z
      cases z
      simp at r3), r1, r2, r3, r⟩
  · obtain ⟨bm, ob, b1, b2, b3, b4, b5, b6⟩ := hbm
    have ne : ∀ {c : Addr} {o : Obj}, s.heap.get? c = some o → o.data ≠ .plain → bm ≠ c := fun e h z => by
      rw [z, e] at b3
      cases b3
      exact h b6
    obtain ⟨og, es, ep, eg, dg, _⟩ := ns
    exact ⟨bm, ob, b1, b2, ne eg (by rw [dg]; intro z; cases z), ne (t.at_ p hp) (by intro z; cases z), to b3 (by rw [b6]; intro z; cases z) (by rw [b6]; intro z; cases z), b4, b5, b6⟩
  · intro z
    obtain ⟨og, es, ep, eg, dg, _⟩ := ns
    rw [z, t.at_ p hp] at eg
    cases eg
    cases dg
/-- the law is called, from the store that holds the script and empty tables -/
theorem law_GT {cm : CM} {k : Nat} {fa : Addr} {fd : FuncData} {x : Str} {m : Fn} {ns : List Int} (t : Tabs0 K s.heap cs) (hT : ∀ p ∈ cm.T.l, ∃ c, (c, p.1) ∈ cs) (inK : K.In s.heap) (nm : s.heap.Ns mainGlobals mg) (nb : s.heap.Ns builtinsNs mb)
    (bb : ∀ x : Str, x ≠ "__name__" → mb x = bootBuiltins x) (nl : s.heap.NoLimit) (hg : s.gens = #[])
    (hbm : ∃ (bm : Addr) (ob : Obj), mg "__builtins__" = some (.ref bm) ∧ bm ≠ builtinsNs ∧ s.heap.get? bm = some ob ∧ ob.cls = .type "module" ∧ ob.dict = some builtinsNs ∧ ob.data = .plain)
    (ha : s.heap.get? a = some { cls := .type "list", data := .seq vs.toArray }) (hi : IntsAre vs ns) (hl : ns.length ≤ sizeLine) (room : Room k callerA)
    (F : ∀ base : Heap, K.In base → base.Ns mainGlobals mg → (∀ p ∈ cs, TabB base mg p.1 p.2) → FnG P w K mg base k fa fd [x] (spD K cm 1 m)) (bd : ∀ (s : Shared) (u : Value), BindsTo s fd ⟨[u], []⟩ [(x, u)]) (law : ∃ st', m [.loc 0] [.src (ns.map D.int)] = .ok (.bl true) st') :
    codeAny (model P w) callerA (.call (.ref fa) ⟨[.ref a], []⟩) (fun r s' => r = .ok (.ret (.bool true)) ∧ OldK s.heap s'.heap ∧ s'.os = s.os ∧ AllBare s'.gens) s := by
  have rv := vals_ints hi
  have nV := hi.length
  obtain ⟨st', hlaw⟩ := law
  have rint : ∀ (φ : List Addr) (H : Hp) (l : List Int), RepL K φ H (l.map D.int) (l.map V.int) := by
    intro φ H l
    induction l with
    | nil => exact .nil
    | cons i l ih => exact .cons (.int i) ih
  have core : ∀ u : Option HO, (u = none ∨ ∃ o xs, u = some (.frz o (.lst xs))) → ((∃ o, u = some (.frz o (.lst (ns.map V.int)))) ∨ (∀ H0 : Hp, SqL K H0 a (ns.map V.int))) → HOk P w (H0 a u cs) s.heap → (u ≠ none → K.lookup a = none) →
      codeAny (model P w) callerA (.call (.ref fa) ⟨[.ref a], []⟩) (fun r s' => r = .ok (.ret (.bool true)) ∧ OldK s.heap s'.heap ∧ s'.os = s.os ∧ AllBare s'.gens) s := by
    intro u hO hS ok hK
    obtain ⟨k1, k2, e0, k3⟩ := env_lawT t inK nm nb bb nl hg hbm ha ok hK
    have at_a : H0 a u cs a = u := if_pos rfl
    have pr : spD K cm 1 m [.ref a] (H0 a u cs) (fun v _ => v = .bl true) (fun _ _ _ => False) := by
      refine ⟨rfl, [a], [.loc 0], [.src (ns.map D.int)], ⟨rfl, ?_, ?_, fun p hp => ?_⟩, .cons (.loc rfl) .nil, ?_⟩
      · intro i b o h1 h2
        cases i with
        | zero =>
          simp at h1 h2
          subst h1 h2
          exact ⟨ns.map V.int, by rw [at_a]; exact hS, rint _ _ _⟩
        | succ i => simp at h1
      · intro i j b o u h1 h2 h3 h4 m1 m2
        cases i with
        | zero =>
          cases j with
          | zero => rfl
          | succ j => simp at h2
        | succ i => simp at h1
      · obtain ⟨c, hc⟩ := hT p hp
        exact TabS.nil (H0_tab t ha hc)
      · rw [hlaw]
        intro φ' H' b e' k' s' r'
        cases r'
        rfl
    apply codeAny_mono ((F _ k1 k2 k3).go callerA [] s (H0 a u cs) ⟨[.ref a], []⟩ [.ref a] [.ref a] _ _ rfl room e0 (bd s (.ref a)) (.cons rfl .nil) pr)
    intro r s' h
    cases r with
    | error e => obtain ⟨_, _, _, _, _, _, _, _, _, _, _, _, z⟩ := h; exact z.elim
    | ok fl =>
      cases fl with
      | ret u' =>
        obtain ⟨v, H', os, bare, un, ok', r', q⟩ := h
        have q' : v = .bl true := q
        subst q'
        cases r'
        have grown : ∀ b, b ∈ cs.map (·.2) → ∃ more : Array Value, s'.heap.get? b = some { cls := .none, data := .fields more } := by
          intro b hb
          obtain ⟨p, hp, rfl⟩ := List.mem_map.mp hb
          obtain ⟨more, z⟩ := un.tbls p.2 #[] (H0_tab t ha hp)
          exact ⟨_, ok' p.2 _ z⟩
        have same : ∀ b o, b ∉ cs.map (·.2) → s.heap.get? b = some o → s'.heap.get? b = some o := by
          intro b o nb e
          cases q : H0 a u cs b with
          | none => exact un.keep b o e q (fun z => nomatch z) (fun z => nomatch z)
          | some y =>
            rcases H0_some (by rw [q]; simp) with e' | e'
            · subst e'
              rw [at_a] at q
              rcases hO with z | ⟨ob, xs, z⟩
              · rw [z] at q; cases q
              · have z' : H0 b u cs b = some (.frz ob (.lst xs)) := at_a.trans z
                have e1 := (ok b _ z').1
                have e2 := (ok' b _ (un.frzs b ob _ z')).1
                rw [e] at e1
                cases e1
                exact e2
            · exact absurd e' nb
        refine ⟨rfl, ⟨fun b o e => ?_, fun b o e => ?_⟩, os, bare⟩
        · by_cases hb : b ∈ cs.map (·.2)
          · obtain ⟨more, hm⟩ := grown b hb
            have e' := tabs_at t hb
            rw [e'] at e
            cases e
            obtain ⟨p, hp, rfl⟩ := List.mem_map.mp hb
            exact .inr (.inl ⟨((t.code p hp).tab (t.at_ p hp)).isCodeTable, rfl, #[], more, rfl, by rw [Array.empty_append]; exact hm⟩)
          · exact .inl (same b o hb e)
        · by_cases hb : b ∈ cs.map (·.2)
          · obtain ⟨more, hm⟩ := grown b hb
            exact ⟨_, hm⟩
          · exact ⟨o, same b o hb e⟩
      | _ => exact False.elim h
  have okT : ∀ u : Option HO, (∀ y, u = some y → ObjOk P w (H0 a u cs) s.heap a y) → HOk P w (H0 a u cs) s.heap := by
    intro u hu b y z
    rcases H0_some (by rw [z]; simp) with e' | e'
    · subst e'
      unfold H0 at z
      rw [if_pos rfl] at z
      exact hu y z
    · obtain ⟨p, hp, rfl⟩ := List.mem_map.mp e'
      rw [H0_tab t ha hp] at z
      cases z
      exact t.at_ p hp
  cases hk : K.lookup a with
  | some o =>
    have e := inK a o hk
    rw [ha] at e
    cases e
    refine core none (.inl rfl) (.inr fun H0 => .inr ⟨_, vs.toArray, _, hk, rfl, rfl, rfl, ?_, by simpa using rv⟩) (okT none fun y z => nomatch z) (fun z => absurd rfl z)
    rw [List.size_toArray, nV]
    exact hl
  | none =>
    refine core (some (.frz { cls := .type "list", data := .seq vs.toArray } (.lst (ns.map V.int)))) (.inr ⟨_, _, rfl⟩) (.inl ⟨_, rfl⟩) (okT _ fun y z => ?_) (fun _ => hk)
    cases z
    exact ⟨ha, by rw [List.length_map]; exact hl, vs, _, rv, ha⟩
end
/-- what k_head leaves, from the law's promise, where lambdas are made -/
theorem walk_GT {l : PySem.W.OpenLaw} {n k : Nat} {q : Program} {loose : List Str} {XP : (Str → Option Value) → Heap → Prop} {YP : World → Heap → Prop} {d : DefRec} {K : Params → PySem.W.Frag} {x : Str} {m : Fn} (hn : l.most = some n) (hn2 : n ≤ sizeLine) (hdf : d.params.defaults = []) (room : Room k callerA)
    (hY : ∀ (w : World) (h : Heap), YP w h → (K w.params).In h)
    (F : ∀ (w : World) (mg : Str → Option Value) (fa : Addr) (h : Heap), YP w h → (K w.params).In h → h.Ns mainGlobals mg → mg d.name = some (.ref fa) →
      ∃ (fd : FuncData) (cm : CM) (cs : List (Addr × Addr)), Tabs0 (K w.params) h cs ∧ (∀ p ∈ cm.T.l, ∃ c, (c, p.1) ∈ cs) ∧ (∀ (s : Shared) (u : Value), BindsTo s fd ⟨[u], []⟩ [(x, u)]) ∧
        ∀ base : Heap, (K w.params).In base → base.Ns mainGlobals mg → (∀ p ∈ cs, TabB base mg p.1 p.2) → FnG l.prog w (K w.params) mg base k fa fd [x] (spD (K w.params) cm 1 m))
    (law : ∀ ns : List Int, ns.length ≤ n → (∀ z ∈ ns, Builtin.Int.intBits z ≤ 1048576) → ∃ st', m [.loc 0] [.src (ns.map D.int)] = .ok (.bl true) st') : PySem.W.WalkO q loose XP YP l.row.toRowW d [] (fun f vs => PySem.call f vs) := by
  apply Att.attach_callB hn hdf
  intro w s₀ s₁ mg mb fa o pm cd doc a vs ns G Y ho hd hcd hmg hobj hints hlen hbits hg
  have KX := hY w _ Y
  obtain ⟨fd, cm, cs, t, hT, hb, hF⟩ := F w mg fa _ Y KX G.T.g hmg
  exact law_GT t hT KX G.T.g G.T.b G.T.builtins G.T.nolimit hg G.T.bmain hobj hints (Nat.le_trans hlen hn2) room hF hb (law ns hlen hbits)

theorem fnG_ofC {P : Program} {w : World} {K : PySem.W.Frag} {mg : Str → Option Value} {base : Heap} {k : Nat} {f : Addr} {x qual : Str} {st : Stmt} {fd : FuncData} {N ps : List Str} {sp : Sp} (F : Fun K x qual st f fd) (Sc : FnScope N ps (defScope st))
    (ar : ∀ vs H Q E, sp vs H Q E → vs.length = ps.length)
    (body : ∀ (cdv : Value) (A : Around) (fr : List PySem.Env) (s : Shared) (H : Hp) (vs : List V) (Q : VK) (E : XK), fd.code = cdv → A.guards = some [] → Room k (A.deeper (envOfC qual (defScope st) s.heap.objs.size f cdv)) → sp vs H Q E →
      ∃ t, PSs (cxOf (L2.CX P w) P w K mg base N qual (defScope st) f cdv A fr s H E) (defBody st) t ∧ t { nx := fun _ H' => Q .non H', rt := Q } (L2.start N vs) H) : FnG P w K mg base (k + 1) f fd ps sp := by
  obtain ⟨oc, od, kV, doc, pm, an, cdv, ct, osl, rfl, lk, hcd⟩ := F.ex
  constructor
  · exact ar
  intro A fr s H ag us vs Q E hg room e0 bd rl hsp
  have n1 := ar _ _ _ _ hsp
  have inK : K.In s.heap := e0.mod.kin.keeps (fun b o q => (e0.bs b o q).1)
  have noL : s.heap.NoLimit := e0.mod.nolimit.keeps (fun b o q => (e0.bs b o q).1)
  have kinds : ∀ y ∈ ps.zip us, (defScope st).names.lookup y.1 = some .local ∨ ((defScope st).names.lookup y.1 = some .cell ∧ ((cellsFrom (s.heap.objs.size + 1) (defScope st).names []).lookup y.1).isSome = true) := by
    rintro ⟨nm, v⟩ hy
    cases Sc.par nm (List.of_mem_zip hy).1 with
    | inl q => exact Or.inl q
    | inr q => exact Or.inr ⟨q, PySem.W.cellsFrom_some _ _ _ (Or.inl q)⟩
  apply codeAny_call_function room.depth (inK _ _ lk) rfl Sc.co Sc.gen rfl (PySem.W.codeRec_of inK hcd)
  apply bd
  apply wpAny_newFunctionEnv_cells Sc.kind kinds
  intro env he s1 ic
  subst he
  constructor
  · exact noL.keeps ic.toInCall.keep
  apply codeAny_func
  obtain ⟨t, ht, hq⟩ := body cdv A fr s H vs Q E rfl hg (room.deeper _) hsp
  have J : Inv (cxOf (L2.CX P w) P w K mg base N qual (defScope st) f cdv A fr s H E) [] (L2.start N vs) H s1 := inv_start Sc room.hd e0 n1 rl ic
  apply wpAny_mono (ht.run [] s1 (L2.start N vs) H _ J hq)
  · intro fl s' hs
    cases fl with
    | ret u =>
      obtain ⟨v, σ', H', J', rv, q⟩ := hs
      exact ⟨v, H', J'.os, J'.bare, J'.base, J'.hok, rv, q⟩
    | next =>
      obtain ⟨σ', H', J', q⟩ := hs
      exact ⟨.non, H', J'.os, J'.bare, J'.base, J'.hok, rfl, q⟩
    | brk => obtain ⟨_, _, _, q⟩ := hs; exact False.elim q
    | cont => obtain ⟨_, _, _, q⟩ := hs; exact False.elim q
  · intro e s' q
    exact q

/-- the same where the code object is known: a def keeps the promise of its body's function -/
theorem fn_DC {P : Program} {w : World} {K : PySem.W.Frag} {mg : Str → Option Value} {base : Heap} {k : Nat} {f : Addr} {x qual : Str} {st : Stmt} {fd : FuncData} {N ps : List Str} {cm : CM} {m : DS} (F : Fun K x qual st f fd) (Sc : FnScope N ps (defScope st))
    (h : ∀ (cdv : Value) (A : Around) (fr : List PySem.Env) (s : Shared) (H : Hp) (E : XK), fd.code = cdv → A.guards = some [] → Room k (A.deeper (envOfC qual (defScope st) s.heap.objs.size f cdv)) →
      Takes (cxOf (L2.CX P w) P w K mg base N qual (defScope st) f cdv A fr s H E) (fun c d _ H => E c d H) →
      PassesOwn (model P w) (A.deeper (envOfC qual (defScope st) s.heap.objs.size f cdv)) (envOfC qual (defScope st) s.heap.objs.size f cdv) (cxOf (L2.CX P w) P w K mg base N qual (defScope st) f cdv A fr s H E).xe →
      PSs (cxOf (L2.CX P w) P w K mg base N qual (defScope st) f cdv A fr s H E) (defBody st) (tS K cm (fun c d _ H => E c d H) m)) : FnG P w K mg base (k + 1) f fd ps (spD K cm ps.length (body N.length m)) := by
  refine fnG_ofC F Sc (fun vs H Q E h => h.1) fun cdv A fr s H vs Q E hc hg hr hsp => ?_
  obtain ⟨hl, φ, xs, st0, rs, rl, q⟩ := hsp
  refine ⟨_, h cdv A fr s H E hc hg hr (takes_of rfl rfl rfl rfl) (passes_of (X := cxOf (L2.CX P w) P w K mg base N qual (defScope st) f cdv A fr s H E) (E₁ := fun e' s'' => L2.CX P w fr H s E e' s'') (K := fun e s'' => L2.CX P w fr H s E e s'') rfl), ?_⟩
  refine ⟨φ, _, st0, ⟨rs, RepE.start rl⟩, ?_⟩
  unfold body at q
  revert q
  generalize m (xs.map some ++ List.replicate (N.length - xs.length) none) st0 = o
  intro q
  cases o with
  | nx ρ st => exact fun φ' H' σ' e' k' hd' => q φ' H' .non e' k' hd'.s .non
  | rt v st => exact q
  | exc c w ρ st => exact fun φ' H' σ' d w' e' k' hd' r' hx => q φ' H' d w' e' k' hd'.s r' hx
  | bk ρ st => exact q.elim
  | ct ρ st => exact q.elim
  | stuck => exact q.elim


/-- x(lambda: body), by data; x by its def -/
theorem rE_heardF {X : Cx} {cm : CM} {W : WX} {em : Str → Str → Option Bool} {l : List HC} {x a : Str} {g c P : Addr} {k : Nat} {st : Stmt} {fd : FuncData} {Ng : List Str}
    {params : Arguments} {body : Expr} {scope : Scope} {m : DE} {p lpos pos : Pos} (hG : X.A.guards = some []) (hm : X.mg x = some (.ref g)) (F : Fun X.K x x st g fd) (hb : L2.Binds X.K fd [a] []) (Sg : FnScope Ng [a] (defScope st)) (hNg : Ng[0]? = some a) (hva : Vis (defScope st) a)
    (hB : ∀ cdg, HearsB X cm em l Ng x (defScope st) g cdg a (defBody st))
    (TB : TabB X.base X.mg c P) (hcode : X.env.code = .ref c) (hmT : (P, X.env.qual ++ "<lambda>") ∈ cm.T.l) (hu : ∀ p ∈ cm.T.l, p.1 = P → p.2 = X.env.qual ++ "<lambda>") (room : Room (k + 2) X.A) (L : LamS X.env.scope scope)
    (run : ∀ (A : Around) (outer : List Env) (s : Shared) (H : Hp) (E : XK) (f c' : Addr), A.guards = some [] → Room k (A.deeper (lamEnv X scope s.heap.objs.size f c')) → Takes (lamCx X A outer s H E scope f c') (fun c d _ H => E c d H) → PE (lamCx X A outer s H E scope f c') body (tE X.K cm (fun c d _ H => E c d H) m))
    (hbind : ∀ (q : Str) (cl : List (Str × Addr)) (pm cv ctv : Value), bindArgs (PySem.W.kla_fn "<lambda>" q params body scope cl pm cv ctv) ⟨[], []⟩ = pure [] := by intros; rfl) (hdef : defaultsOf params X.env = ([], []) := by rfl) (hg : Gl X x := by rfl) (hdb : (x == ("__debug__" : Str)) = false := by decide) (hd : (a == ("__debug__" : Str)) = false := by decide) (hcd : (a == ("__classdict__" : Str)) = false := by decide) :
    PE X (.Call (.Name x p) [.Lambda params body scope lpos] [] pos) (tE X.K cm W (eHeard em m l)) := by
  obtain ⟨oc, od, kV, doc, pm, an, cdv, ct, osl, rfl, lk, hcg⟩ := F.ex
  exact rE_heard hG hm F.kp lk hcg hb Sg hNg hva (hB cdv) TB hcode hmT hu room L run hbind hdef hg hdb hd hcd
end Rol

namespace Rol
open PySem L2 PySem.Spec LamX
open PyProof.Rows hiding St

section
variable {κ α : Type} [DecidableEq κ]
def kGet (kvs : List (κ × α)) (k : κ) : Option α := (kvs.find? fun p => decide (p.1 = k)).map (·.2)
def kPut (kvs : List (κ × α)) (k : κ) (v : α) : List (κ × α) := if (kGet kvs k).isSome then kvs.map fun p => if p.1 = k then (p.1, v) else p else kvs ++ [(k, v)]
theorem kGet_pos {p : κ × α} {r : List (κ × α)} {k : κ} (e : p.1 = k) : kGet (p :: r) k = some p.2 := by simp [kGet, List.find?_cons, e]
theorem kGet_neg {p : κ × α} {r : List (κ × α)} {k : κ} (e : ¬ p.1 = k) : kGet (p :: r) k = kGet r k := by simp [kGet, List.find?_cons, e]
theorem kPut_len (kvs : List (κ × α)) (k : κ) (v : α) : (kPut kvs k v).length ≤ kvs.length + 1 := by
  unfold kPut
  split
  · simp
  · simp
end
/-- a key -/
def keyOne : D → Option Key
  | .int i => some (.inl i)
  | .str x => some (.inr x)
  | _ => none
def keyOnes : List D → Option (List Key)
  | [] => some []
  | x :: xs => (keyOne x).bind fun k => (keyOnes xs).bind fun ks => some (k :: ks)
/-- a part of a key: an int, a text, or a tuple of these -/
def keyPart : D → Option (Key ⊕ List Key)
  | .tup ys => (keyOnes ys).map .inr
  | x => (keyOne x).map .inl
def keyParts : List D → Option K2
  | [] => some []
  | x :: xs => (keyPart x).bind fun k => (keyParts xs).bind fun ks => some (k :: ks)
def keyTup : D → Option (List Key)
  | .tup xs => (keyParts xs).bind fun t => if ok2 t = true then some (enc2 t) else none
  | _ => none

section
variable {K : PySem.W.Frag} {T : Tb} {φ : List Addr} {H : Hp} {st : S}
theorem keyOne_rep {x : D} {v : V} {k : Key} (h : keyOne x = some k) (r : RepV K φ H x v) : v = kV k := by
  cases r <;> simp [keyOne] at h
  · subst h
    rfl
  · subst h
    rfl
theorem keyOnes_rep : ∀ {xs : List D} {vs : List V} {ks : List Key}, keyOnes xs = some ks → RepL K φ H xs vs → vs = ks.map kV
  | [], _, ks, h, .nil => by
    cases h
    rfl
  | x :: xs, _, ks, h, .cons r t => by
    unfold keyOnes at h
    obtain ⟨k, e1, h⟩ := Option.bind_eq_some_iff.mp h
    obtain ⟨ks', e2, h⟩ := Option.bind_eq_some_iff.mp h
    cases h
    rw [keyOne_rep e1 r, keyOnes_rep e2 t]
    rfl
theorem keyPart_rep {x : D} {v : V} {k : Key ⊕ List Key} (h : keyPart x = some k) (r : RepV K φ H x v) : KeyV K H k v := by
  cases r with
  | tup s l =>
    obtain ⟨ks, e, rfl⟩ := Option.map_eq_some_iff.mp (show (keyOnes _).map _ = _ from h)
    rw [keyOnes_rep e l] at s
    exact ⟨_, rfl, s⟩
  | int i =>
    cases h
    rfl
  | str x =>
    cases h
    rfl
  | _ => cases h
theorem keyParts_rep : ∀ {xs : List D} {vs : List V} {t : K2}, keyParts xs = some t → RepL K φ H xs vs → KeyVs K H t vs
  | [], _, t, h, .nil => by
    cases h
    exact .nil
  | x :: xs, _, t, h, .cons r rs => by
    unfold keyParts at h
    obtain ⟨k, e1, h⟩ := Option.bind_eq_some_iff.mp h
    obtain ⟨ks, e2, h⟩ := Option.bind_eq_some_iff.mp h
    cases h
    exact .cons (keyPart_rep e1 r) (keyParts_rep e2 rs)
theorem keyTup_rep {x : D} {v : V} {ks : List Key} (h : keyTup x = some ks) (r : RepV K φ H x v) : ∃ b, v = .ref b ∧ KAt K H b ks := by
  cases r with
  | tup s l =>
    obtain ⟨t, e, g⟩ := Option.bind_eq_some_iff.mp (show (keyParts _).bind _ = _ from h)
    by_cases o : ok2 t = true
    · rw [if_pos o] at g
      cases g
      exact ⟨_, rfl, t, _, o, rfl, s, keyParts_rep e l⟩
    · rw [if_neg o] at g
      cases g
  | _ => cases h
theorem RepK.get {xs : List (Key × D)} {vs : List (Key × V)} (h : RepK K φ H xs vs) (k : Key) : (∃ d v, kGet xs k = some d ∧ valV vs k = some v ∧ RepV K φ H d v) ∨ (kGet xs k = none ∧ valV vs k = none) := by
  induction h with
  | nil => exact .inr ⟨rfl, rfl⟩
  | @cons k' x v xs vs r _ ih =>
    by_cases e : k' = k
    · exact .inl ⟨x, v, kGet_pos e, valV_pos e, r⟩
    · rcases ih with ⟨d, u, h1, h2, h3⟩ | ⟨h1, h2⟩
      · exact .inl ⟨d, u, (kGet_neg e).trans h1, (valV_neg e).trans h2, h3⟩
      · exact .inr ⟨(kGet_neg e).trans h1, (valV_neg e).trans h2⟩
theorem RepK.app {xs ys : List (Key × D)} {vs ws : List (Key × V)} (h : RepK K φ H xs vs) (g : RepK K φ H ys ws) : RepK K φ H (xs ++ ys) (vs ++ ws) := by
  induction h with
  | nil => exact g
  | cons r _ ih => exact .cons r ih
theorem RepK.put {xs : List (Key × D)} {vs : List (Key × V)} (h : RepK K φ H xs vs) (k : Key) {d : D} {v : V} (r : RepV K φ H d v) : RepK K φ H (kPut xs k d) (putK vs k v) := by
  have e : (vs.any fun kv => decide (kv.1 = k)) = (kGet xs k).isSome := by
    rw [valV_any]
    rcases h.get k with ⟨d, u, h1, h2, _⟩ | ⟨h1, h2⟩
    · rw [h1, h2]; rfl
    · rw [h1, h2]; rfl
  unfold kPut putK
  rw [e]
  split
  · rename_i hq
    clear hq e
    induction h with
    | nil => exact .nil
    | @cons k' x u xs vs r' _ ih =>
      rw [List.map_cons, List.map_cons]
      by_cases e : k' = k
      · rw [if_pos e, if_pos e]
        exact .cons r ih
      · rw [if_neg e, if_neg e]
        exact .cons r' ih
  · exact h.app (.cons r .nil)
def vX (vs : List (List Key × Addr × V)) (k : List Key) : Option V := (vs.find? fun x => decide (x.1 = k)).map (·.2.2)
theorem vX_pos {p : List Key × Addr × V} {r : List (List Key × Addr × V)} {k : List Key} (e : p.1 = k) : vX (p :: r) k = some p.2.2 := by simp [vX, List.find?_cons, e]
theorem vX_neg {p : List Key × Addr × V} {r : List (List Key × Addr × V)} {k : List Key} (e : ¬ p.1 = k) : vX (p :: r) k = vX r k := by simp [vX, List.find?_cons, e]
def pX (vs : List (List Key × Addr × V)) (k : List Key) (b : Addr) (v : V) : List (List Key × Addr × V) := if (vX vs k).isSome then vs.map fun p => if p.1 = k then (p.1, p.2.1, v) else p else vs ++ [(k, b, v)]
theorem RepX.get {xs : List (List Key × D)} {vs : List (List Key × Addr × V)} (h : RepX K φ H xs vs) (k : List Key) : (∃ d v, kGet xs k = some d ∧ vX vs k = some v ∧ RepV K φ H d v) ∨ (kGet xs k = none ∧ vX vs k = none) := by
  induction h with
  | nil => exact .inr ⟨rfl, rfl⟩
  | @cons k' b x v xs vs s r _ ih =>
    by_cases e : k' = k
    · exact .inl ⟨x, v, kGet_pos e, vX_pos e, r⟩
    · rcases ih with ⟨d, u, h1, h2, h3⟩ | ⟨h1, h2⟩
      · exact .inl ⟨d, u, (kGet_neg e).trans h1, (vX_neg e).trans h2, h3⟩
      · exact .inr ⟨(kGet_neg e).trans h1, (vX_neg e).trans h2⟩
theorem RepX.app {xs ys : List (List Key × D)} {vs ws : List (List Key × Addr × V)} (h : RepX K φ H xs vs) (g : RepX K φ H ys ws) : RepX K φ H (xs ++ ys) (vs ++ ws) := by
  induction h with
  | nil => exact g
  | cons s r _ ih => exact .cons s r ih
theorem RepX.put {xs : List (List Key × D)} {vs : List (List Key × Addr × V)} (h : RepX K φ H xs vs) (k : List Key) {b : Addr} {d : D} {v : V} (s : KAt K H b k) (r : RepV K φ H d v) : RepX K φ H (kPut xs k d) (pX vs k b v) := by
  have e : (vX vs k).isSome = (kGet xs k).isSome := by
    rcases h.get k with ⟨d, u, h1, h2, _⟩ | ⟨h1, h2⟩
    · rw [h1, h2]; rfl
    · rw [h1, h2]; rfl
  unfold kPut pX
  rw [e]
  split
  · rename_i hq
    clear hq e
    induction h with
    | nil => exact .nil
    | @cons k' b' x u xs vs s' r' _ ih =>
      rw [List.map_cons, List.map_cons]
      by_cases e : k' = k
      · rw [if_pos e, if_pos e]
        exact .cons s' r ih
      · rw [if_neg e, if_neg e]
        exact .cons s' r' ih
  · exact h.app (.cons s r .nil)

/-- a tuple of ints, texts and such tuples is a key, wherever it stands -/
theorem nk_one {k : Key} {u : Value} {h : Heap} (r : RelV (kV k) u) : NestedIs h (embK k) u := by
  cases k with
  | inl i =>
    obtain ⟨t, rfl⟩ := (show ∃ t, u = .int i t from r)
    exact .int i t
  | inr x =>
    obtain ⟨t, rfl⟩ := (show ∃ t, u = .str x t from r)
    exact .text x t
theorem nk_flat {h : Heap} : ∀ {ks : List Key} {us : List Value}, Vals (ks.map kV) us → NestedAll h (ks.map embK) us
  | [], _, .nil => .nil
  | k :: ks, _, .cons r rs => .cons (nk_one r) (nk_flat rs)
theorem nk_tup {X : Cx} {pins : List (Addr × Obj)} {σ : L2.St} {H : Hp} {s : Shared} (I : Inv X pins σ H s) {b : Addr} {ks : List Key} (h : SqT X.K H b (ks.map kV)) : NestedIs s.heap (.tup (ks.map embK)) (.ref b) := by
  obtain ⟨its, rv, ⟨o, e0, e1, n, e2⟩, _⟩ := I.tuple h
  exact .tup e0 e1 e2 (by simpa using nk_flat rv)
theorem nk_all {X : Cx} {pins : List (Addr × Obj)} {σ : L2.St} {H : Hp} {s : Shared} (I : Inv X pins σ H s) : ∀ {t : K2} {vs : List V} {us : List Value}, KeyVs X.K H t vs → Vals vs us → NestedAll s.heap (t.map embE) us
  | _, _, _, .nil, .nil => .nil
  | x :: t, _, _, .cons h hs, .cons r rs => by
    refine .cons ?_ (nk_all I hs rs)
    cases x with
    | inl k =>
      cases (show _ = kV k from h)
      exact nk_one r
    | inr ks =>
      obtain ⟨c, rfl, sq⟩ := h
      cases (show _ = Value.ref c from r)
      exact nk_tup I sq
theorem key_at {X : Cx} {pins : List (Addr × Obj)} {σ : L2.St} {H : Hp} {s : Shared} (I : Inv X pins σ H s) {b : Addr} {ks : List Key} (h : KAt X.K H b ks) : (encKind X.prog X.w).is s.heap ks b := by
  obtain ⟨t, vs, h1, h2, h3, h4⟩ := h
  obtain ⟨its, rv, ⟨o, e0, e1, n, e2⟩, _⟩ := I.tuple h3
  exact ⟨t, h1, h2, .tup e0 e1 e2 (by simpa using nk_all I h4 rv), depth_emb t⟩
theorem pairedX_get {xs : List (List Key × Addr × V)} {us : List (List Key × Addr × Value)} (h : Paired (fun p q => p.1 = q.1 ∧ p.2.1 = q.2.1 ∧ RelV p.2.2 q.2.2) xs us) (k : List Key) : RelO (vX xs k) ((atKey us k).map (·.2)) := by
  induction h with
  | nil => exact True.intro
  | @cons p q ps qs h t ih =>
    obtain ⟨h1, _, h2⟩ := h
    by_cases e : p.1 = k
    · have b : atKey (q :: qs) k = some q.2 := by simp [atKey, List.find?_cons, h1.symm.trans e]
      rw [vX_pos e, b]
      exact h2
    · have e' : ¬ q.1 = k := fun z => e (h1.trans z)
      have b : atKey (q :: qs) k = atKey qs k := by simp [atKey, List.find?_cons, e']
      rw [vX_neg e, b]
      exact ih
theorem pairedX_put {xs : List (List Key × Addr × V)} {us : List (List Key × Addr × Value)} (h : Paired (fun p q => p.1 = q.1 ∧ p.2.1 = q.2.1 ∧ RelV p.2.2 q.2.2) xs us) (k : List Key) (b : Addr) {v : V} {u : Value} (r : RelV v u) :
    Paired (fun p q => p.1 = q.1 ∧ p.2.1 = q.2.1 ∧ RelV p.2.2 q.2.2) (pX xs k b v) (storedH us k b u) := by
  have e : (vX xs k).isSome = (atKey us k).isSome := by rw [(pairedX_get h k).isSome_eq, Option.isSome_map]
  unfold pX storedH
  rw [e]
  split
  · rename_i hq
    clear hq e
    induction h with
    | nil => exact .nil
    | @cons p q ps qs h t ih =>
      rw [List.map_cons, List.map_cons]
      refine .cons ?_ ih
      unfold putAt
      by_cases e : p.1 = k
      · rw [if_pos e, if_pos (h.1.symm.trans e)]
        exact ⟨h.1, h.2.1, r⟩
      · rw [if_neg e, if_neg fun z => e (h.1.trans z)]
        exact h
  · exact Paired.snoc h ⟨rfl, rfl, r⟩
theorem pX_len (xs : List (List Key × Addr × V)) (k : List Key) (b : Addr) (v : V) : (pX xs k b v).length ≤ xs.length + 1 := by
  unfold pX
  split
  · simp
  · simp
/-- the entries' keys are keys -/
def KeysAt (K : PySem.W.Frag) (H : Hp) (xs : List (List Key × Addr × V)) : Prop := ∀ p ∈ xs, KAt K H p.2.1 p.1
theorem RepX.keys {xs : List (List Key × D)} {vs : List (List Key × Addr × V)} (h : RepX K φ H xs vs) : KeysAt K H vs := by
  induction h with
  | nil => exact fun p hp => nomatch hp
  | cons s _ _ ih =>
    intro p hp
    rcases List.mem_cons.mp hp with rfl | hp
    · exact s
    · exact ih p hp
theorem keys_is {X : Cx} {pins : List (Addr × Obj)} {σ : L2.St} {H : Hp} {s : Shared} (I : Inv X pins σ H s) {xs : List (List Key × Addr × V)} {us : List (List Key × Addr × Value)} (r : Paired (fun p q => p.1 = q.1 ∧ p.2.1 = q.2.1 ∧ RelV p.2.2 q.2.2) xs us) (hk : KeysAt X.K H xs) :
    ∀ x ∈ us, (encKind X.prog X.w).is s.heap x.1 x.2.1 := by
  induction r with
  | nil => exact fun x hx => nomatch hx
  | @cons p q ps qs h t ih =>
    intro x hx
    rcases List.mem_cons.mp hx with rfl | hx
    · have := key_at I (hk p (by simp))
      rw [h.1, h.2.1] at this
      exact this
    · exact ih (fun p' hp => hk p' (by simp [hp])) x hx
theorem dx_of {X : Cx} {pins : List (Addr × Obj)} {σ : L2.St} {H : Hp} {s : Shared} (I : Inv X pins σ H s) {a : Addr} {xs : List (List Key × Addr × V)} (h : Rd H a (DX X.prog X.w a xs)) (hk : KeysAt X.K H xs) : xs.length ≤ sizeLine ∧ (a == sysModules) = false ∧
    ∃ us, Paired (fun p q => p.1 = q.1 ∧ p.2.1 = q.2.1 ∧ RelV p.2.2 q.2.2) xs us ∧ s.heap.DictOfH (encKind X.prog X.w) a us := by
  have g : ObjOk X.prog X.w H s.heap a (DX X.prog X.w a xs) := by
    rcases h with h | ⟨od, h⟩
    · exact I.hok a _ h
    · exact (I.hok a _ h : ObjOk X.prog X.w H s.heap a (.frz od (DX X.prog X.w a xs))).2
  obtain ⟨⟨z, y, us, r, o, es, ep, h1, h2, h3, h4, h5⟩, _, _⟩ := g
  exact ⟨z, y, us, r, o, es, ep, h1, h2, h3, h4, keys_is I r hk, h5⟩
theorem dx_ok {P : Program} {w : World} {H : Hp} {h : Heap} {a : Addr} {xs : List (List Key × Addr × V)} {us : List (List Key × Addr × Value)} (hl : xs.length ≤ sizeLine) (ha : (a == sysModules) = false) (r : Paired (fun p q => p.1 = q.1 ∧ p.2.1 = q.2.1 ∧ RelV p.2.2 q.2.2) xs us)
    (dd : h.DictOfH (encKind P w) a us) : ObjOk P w H h a (DX P w a xs) := by
  obtain ⟨o, es, ep, h1, h2, h3, h4, _, h5⟩ := dd
  refine ⟨⟨hl, ha, us, r, o, es, ep, h1, h2, h3, h4, h5⟩, ⟨o, h1⟩, ?_⟩
  rintro g1 g2 ⟨y1, y2, us', y3, o', es', ep', e1, e2, e3, e4, e5⟩ hg
  exact ⟨y1, y2, us', y3, o', es', ep', hg _ e1, e2, e3, e4, e5⟩
end

def DG (K : PySem.W.Frag) (P : Program) (w : World) (H : Hp) (a : Addr) (y : V) (o : Option V) : Prop :=
  DGet H a y o ∨ ∃ xs k b, Rd H a (DX P w a xs) ∧ KeysAt K H xs ∧ y = .ref b ∧ KAt K H b k ∧ o = vX xs k
section
variable {X : Cx}
theorem hold_of {K : PySem.W.Frag} {T : Tb} {φ : List Addr} {H : Hp} {st : S} {i : Nat} {a : Addr} {kvs : List (Key × D)} {x : D} {y : V} {k : Key} (R : RepS K T φ H st) (h1 : φ[i]? = some a) (h2 : st[i]? = some (.dk kvs)) (hk : keyOne x = some k) (r : RepV K φ H x y) :
    (∃ d v, kGet kvs k = some d ∧ DGet H a y (some v) ∧ RepV K φ H d v) ∨ (kGet kvs k = none ∧ DGet H a y none) := by
  obtain ⟨vs, e, rk⟩ := R.obj i a _ h1 h2
  rw [keyOne_rep hk r]
  rcases rk.get k with ⟨d, v, g1, g2, g3⟩ | ⟨g1, g2⟩
  · exact .inl ⟨d, v, g1, by rw [← g2]; exact DGet.k e, g3⟩
  · exact .inr ⟨g1, by rw [← g2]; exact DGet.k e⟩
theorem holdX_of {K : PySem.W.Frag} {T : Tb} {φ : List Addr} {H : Hp} {st : S} {i : Nat} {a : Addr} {kvs : List (List Key × D)} {x : D} {y : V} {k : List Key} (R : RepS K T φ H st) (h1 : φ[i]? = some a) (h2 : st[i]? = some (.dx kvs) ∨ st[i]? = some (.fx kvs)) (hk : keyTup x = some k) (r : RepV K φ H x y) :
    (∃ d v, kGet kvs k = some d ∧ DG K T.P T.w H a y (some v) ∧ RepV K φ H d v) ∨ (kGet kvs k = none ∧ DG K T.P T.w H a y none) := by
  have rr : ∃ vs, Rd H a (DX T.P T.w a vs) ∧ RepX K φ H kvs vs := by
    rcases h2 with h2 | h2
    · obtain ⟨vs, e, rx⟩ := R.obj i a _ h1 h2
      exact ⟨vs, .inl e, rx⟩
    · obtain ⟨od, vs, e, rx⟩ := R.obj i a _ h1 h2
      exact ⟨vs, .inr ⟨od, e⟩, rx⟩
  obtain ⟨vs, e, rx⟩ := rr
  obtain ⟨b, rfl, sq⟩ := keyTup_rep hk r
  rcases rx.get k with ⟨d, v, g1, g2, g3⟩ | ⟨g1, g2⟩
  · exact .inl ⟨d, v, g1, .inr ⟨vs, k, b, e, rx.keys, rfl, sq, g2.symm⟩, g3⟩
  · exact .inr ⟨g1, .inr ⟨vs, k, b, e, rx.keys, rfl, sq, g2.symm⟩⟩
def rDin (K : PySem.W.Frag) (P : Program) (w : World) (neg : Bool) : L2.R2 := fun y x H Q => ∃ a o, x = .ref a ∧ DG K P w H a y o ∧ Q (.bl (if neg = true then !o.isSome else o.isSome)) H
theorem op_din (hu : X.A.units + 9 < cLine) : OpR X (compareOp .In) (rDin X.K X.prog X.w false) := by
  intro pins s σ H y x v u Q I r1 r2 h
  obtain ⟨a, o, rfl, g, q⟩ := h
  cases (show u = Value.ref a from r2)
  rcases g with g | ⟨xs, k, b, e, ks, rfl, sq, rfl⟩
  · exact d_in (by omega) I g r1 fun s' I' => ⟨.bl o.isSome, H, I', rfl, q⟩
  · cases (show v = Value.ref b from r1)
    obtain ⟨_, hd, us, rel, dd⟩ := dx_of I e ks
    refine wpAny_in_heap (encKind_room hu) (key_at I sq) hd dd ?_
    have z := (pairedX_get rel k).isSome_eq
    rw [Option.isSome_map] at z
    rw [← z]
    exact ⟨.bl (vX xs k).isSome, H, I.tok _, rfl, q⟩
/-- what an object has at a key -/
def kHas (o : Option O) (x : D) : Option Bool := match o with
  | some (.dk kvs) => (keyOne x).map fun k => (kGet kvs k).isSome
  | some (.dx kvs) => (keyTup x).map fun k => (kGet kvs k).isSome
  | some (.fx kvs) => (keyTup x).map fun k => (kGet kvs k).isSome
  | _ => none
def kStore (o : Option O) (x v : D) : Option O := match o with
  | some (.dk kvs) => if kvs.length < sizeLine then (keyOne x).map fun k => .dk (kPut kvs k v) else none
  | some (.dx kvs) => if kvs.length < sizeLine then (keyTup x).map fun k => .dx (kPut kvs k v) else none
  | _ => none
section
variable {K : PySem.W.Frag} {T : Tb} {φ : List Addr} {H : Hp} {st : S} {i : Nat} {a : Addr} {x d : D} {y : V} {b : Bool}
theorem kHas_rep (R : RepS K T φ H st) (h1 : φ[i]? = some a) (h : kHas st[i]? x = some b) (r : RepV K φ H x y) : ∃ o : Option V, DG K T.P T.w H a y o ∧ o.isSome = b := by
  cases e : st[i]? with
  | none => rw [e] at h; cases h
  | some o =>
    rw [e] at h
    cases o with
    | dk kvs =>
      obtain ⟨k, ek, rfl⟩ := Option.map_eq_some_iff.mp h
      rcases hold_of R h1 e ek r with ⟨d, v', g1, g2, _⟩ | ⟨g1, g2⟩
      · exact ⟨some v', .inl g2, by rw [g1]; rfl⟩
      · exact ⟨none, .inl g2, by rw [g1]; rfl⟩
    | dx kvs =>
      obtain ⟨k, ek, rfl⟩ := Option.map_eq_some_iff.mp h
      rcases holdX_of R h1 (.inl e) ek r with ⟨d, v', g1, g2, _⟩ | ⟨g1, g2⟩
      · exact ⟨some v', g2, by rw [g1]; rfl⟩
      · exact ⟨none, g2, by rw [g1]; rfl⟩
    | fx kvs =>
      obtain ⟨k, ek, rfl⟩ := Option.map_eq_some_iff.mp h
      rcases holdX_of R h1 (.inr e) ek r with ⟨d, v', g1, g2, _⟩ | ⟨g1, g2⟩
      · exact ⟨some v', g2, by rw [g1]; rfl⟩
      · exact ⟨none, g2, by rw [g1]; rfl⟩
    | _ => cases h
end
/-- x in d -/
def dDIn (neg : Bool) (x d : D) (st : S) : Res D := match d with
  | .loc i => (match kHas st[i]? x with
    | some b => .ok (.bl (if neg = true then !b else b)) st
    | none => .stuck)
  | _ => .stuck
/-- d[k] = v -/
def dDPut (d x v : D) (st : S) : Option S := match d with
  | .loc i => (kStore st[i]? x v).map fun o => st.set i o
  | _ => none
variable {cm : CM} {W : WX} {ke de : Expr} {mk md : DE} {pos : Pos}
theorem din_run {neg : Bool} (hP : cm.T.P = X.prog) (hw : cm.T.w = X.w) {σ : L2.St} {H : Hp} {Q : VK} (h : tE X.K cm W (e2 (dDIn neg) mk md) σ H Q) : tOp (rDin X.K X.prog X.w neg) (tE X.K cm W mk) (tE X.K cm W md) σ H Q := by
  obtain ⟨φ, ρ, st, hd, h⟩ := h
  refine tG_bind hd h fun x st1 φ1 H1 v e1 k1 hd1 r1 h1 => ?_
  refine tG_bind hd1 h1 fun d st2 φ2 H2 u e2 k2 hd2 r2 h2 => ?_
  have r1' := r1.mono e2 k2
  cases r2 with
  | @loc i a hl =>
    unfold dDIn at h2
    dsimp only at h2
    cases e : kHas st2[i]? x with
    | none => rw [e] at h2; exact h2.elim
    | some b =>
      rw [e] at h2
      obtain ⟨o, g1, rfl⟩ := kHas_rep hd2.s hl e r1'
      rw [hP, hw] at g1
      exact ⟨a, o, rfl, g1, h2.here hd2.s (.bl _)⟩
  | _ => exact h2.elim
theorem rE_din (hu : X.A.units + 9 < cLine) (hP : cm.T.P = X.prog) (hw : cm.T.w = X.w) (h1 : PE X ke (tE X.K cm W mk)) (h2 : PE X de (tE X.K cm W md)) (hm : behindInMarks .In de = false := by rfl) : PE X (.Compare ke [.In] [de] pos) (tE X.K cm W (e2 (dDIn false) mk md)) :=
  conv_E (pe_cmpR (op_din hu) h1 h2 hm) fun σ H Q h => din_run hP hw h
theorem RepS.allocG {K : PySem.W.Frag} {T : Tb} {φ : List Addr} {H : Hp} {st : S} {p : Addr} {ho : HO} {o : O} (R : RepS K T φ H st) (hp : H p = none) (ro : RepO K T (φ ++ [p]) (upd H p ho) p o) : RepS K T (φ ++ [p]) (upd H p ho) (st ++ [o]) := by
  have R' := R.beside (o := ho) hp
  refine ⟨by simp [R.len], fun i a u h1 h2 => ?_, fun i j a u v h1 h2 h3 h4 m1 m2 => ?_, R'.tab⟩
  · by_cases hi : i < st.length
    · rw [List.getElem?_append_left hi] at h2
      rw [List.getElem?_append_left (by rw [R.len]; exact hi)] at h1
      exact RepO.mono_of (Ext.one φ p) (Kp.refl _) (fun _ => rfl) (R'.obj i a u h1 h2)
    · have hi2 : i = st.length := by
        have := (List.getElem?_eq_some_iff.mp h2).1
        simp at this
        omega
      subst hi2
      rw [List.getElem?_append_right (Nat.le_refl _), Nat.sub_self] at h2
      rw [← R.len, List.getElem?_append_right (Nat.le_refl _), Nat.sub_self] at h1
      simp at h1 h2
      subst h1 h2
      exact ro
  · have get : ∀ (i : Nat) (u : O), (φ ++ [p])[i]? = some a → (st ++ [o])[i]? = some u → u.mut = true → (i < st.length ∧ φ[i]? = some a ∧ st[i]? = some u ∧ a ≠ p) ∨ (i = st.length ∧ a = p) := fun i u h1 h3 m => by
      by_cases hi : i < st.length
      · rw [List.getElem?_append_left hi] at h3
        rw [List.getElem?_append_left (by rw [R.len]; exact hi)] at h1
        refine .inl ⟨hi, h1, h3, fun z => ?_⟩
        exact mut_not_none (R.obj i a u h1 h3) m (by rw [z]; exact hp)
      · have hi2 : i = st.length := by
          have := (List.getElem?_eq_some_iff.mp h3).1
          simp at this
          omega
        subst hi2
        rw [← R.len, List.getElem?_append_right (Nat.le_refl _), Nat.sub_self] at h1
        simp at h1
        exact .inr ⟨rfl, h1.symm⟩
    rcases get i u h1 h3 m1 with ⟨_, a1, a2, a3⟩ | ⟨e1, a3⟩
    · rcases get j v h2 h4 m2 with ⟨_, b1, b2, _⟩ | ⟨_, b3⟩
      · exact R.inj i j a u v a1 b1 a2 b2 m1 m2
      · exact absurd b3 a3
    · rcases get j v h2 h4 m2 with ⟨_, _, _, b3⟩ | ⟨e2, _⟩
      · exact absurd a3 b3
      · rw [e1, e2]
def eDNewX : DE := fun _ st => .ok (.loc st.length) (st ++ [.dx []])
theorem rE_dnewX (hP : cm.T.P = X.prog) (hw : cm.T.w = X.w) : PE X (.Dict [] [] pos) (tE X.K cm W eDNewX) := by
  refine ⟨fun pins s σ H Q I h => ?_⟩
  obtain ⟨φ, ρ, st, hd, h⟩ := h
  have np := I.hok.fresh (Nat.le_refl s.heap.objs.size)
  refine wpAny_Dict_empty ⟨.ref s.heap.objs.size, upd H s.heap.objs.size (DX X.prog X.w s.heap.objs.size []), I.laid (a := s.heap.objs.size) (t' := s.toks) (fun _ _ q => Heap.get?_push_of_some _ q) (Nat.le_refl _)
    (dx_ok (us := []) (Nat.zero_le _) (beq_eq_false_iff_ne.mpr (Ne.symm (Nat.ne_of_lt I.big))) .nil ⟨_, #[], 0, Heap.get?_push_size _ rfl, ⟨rfl, rfl, rfl⟩, rfl, rfl, (fun _ z => nomatch z), List.nodup_nil⟩), rfl, ?_⟩
  refine h _ _ _ (Ext.one φ _) (Kp.new np) (hd.s.allocG np ⟨[], by rw [hP, hw]; exact upd_same, .nil⟩) (.loc ?_)
  rw [← hd.s.len]
  simp
theorem DX_code {P : Program} {w : World} {a : Addr} {xs : List (List Key × Addr × V)} {c : Addr} {q : Str} (e : a = c) : DX P w a xs ≠ CodeO c q := by
  subst e
  intro z
  have g : ({ objs := (Array.replicate a default).push { cls := .none, data := .fields #[.none, .str q 0] } } : Heap).get? a = some { cls := .none, data := .fields #[.none, .str q 0] } := by
    unfold Heap.get?
    have e : ((Array.replicate a (default : Obj)).push { cls := .none, data := .fields #[.none, .str q 0] })[a]? = some { cls := .none, data := .fields #[.none, .str q 0] } := by
      have := Array.getElem?_push_size (xs := Array.replicate a (default : Obj)) (x := { cls := .none, data := .fields #[.none, .str q 0] })
      rw [Array.size_replicate] at this
      exact this
    rw [e]
  revert g
  generalize ({ objs := (Array.replicate a default).push { cls := .none, data := .fields #[.none, .str q 0] } } : Heap) = hp
  intro g
  unfold DX CodeO at z
  have z' := congrFun (HO.ext.inj z) hp
  have y := z'.mpr ⟨_, _, 0, g, rfl, rfl⟩
  obtain ⟨_, _, us, _, o, es, ep, h1, _, h3, _⟩ := y
  rw [g] at h1
  cases h1
  cases h3
theorem DX_tbl {P : Program} {w : World} {a : Addr} {xs : List (List Key × Addr × V)} (ps : Array Value) : DX P w a xs ≠ .tbl ps := fun z => by
  unfold DX at z
  cases z
theorem tabs_writeG {T : List (Addr × Str)} {H : Hp} {a : Addr} {o0 o : HO} (hl : H a = some o0) (h1 : ∀ ps, o0 ≠ .tbl ps) (h2 : ∀ c q, a = c → o0 ≠ CodeO c q) (t : Tabs T H) : Tabs T (upd H a o) := fun p hp => by
  obtain ⟨ps, e1, e2, e3⟩ := t p hp
  refine ⟨ps, ?_, e2, fun pos cv hc => ?_⟩
  · rw [upd_ne fun z => h1 ps (by rw [z, hl] at e1; exact Option.some.inj e1)]
    exact e1
  · obtain ⟨c, g1, g2⟩ := e3 pos cv hc
    refine ⟨c, g1, ?_⟩
    rw [upd_ne fun z => h2 c p.2 z.symm (by rw [z, hl] at g2; rw [z]; exact Option.some.inj g2)]
    exact g2
theorem RepS.writeG {K : PySem.W.Frag} {T : Tb} {φ : List Addr} {H : Hp} {st : S} {i : Nat} {a : Addr} {o o' : O} {ho : HO} (R : RepS K T φ H st) (h1 : φ[i]? = some a) (h2 : st[i]? = some o) (m : o.mut = true) (m' : o'.mut = true) (hm : Mu (H a)) (ht : Tabs T.l (upd H a ho)) (ro : RepO K T φ (upd H a ho) a o') :
    RepS K T φ (upd H a ho) (st.set i o') := by
  have hi : i < st.length := (List.getElem?_eq_some_iff.mp h2).1
  have k : Kp H (upd H a ho) := Kp.write hm
  refine ⟨by simp [R.len], fun j b u g1 g2 => ?_, fun j l b u v g1 g2 g3 g4 m1 m2 => ?_, ht⟩
  · by_cases hj : j = i
    · subst hj
      rw [h1] at g1
      cases g1
      rw [List.getElem?_set_self hi] at g2
      cases g2
      exact ro
    · rw [List.getElem?_set_ne (fun z => hj z.symm)] at g2
      have ro := R.obj j b u g1 g2
      refine RepO.mono_of (Ext.refl _) k (fun m1 => upd_ne fun z => ?_) ro
      subst z
      exact hj (R.inj j i b u _ g1 h1 g2 h2 m1 m)
  · have get : ∀ (j : Nat) (u : O), (st.set i o')[j]? = some u → ∃ u', st[j]? = some u' ∧ (u.mut = true → u'.mut = true) := fun j u g => by
      by_cases hj : j = i
      · subst hj
        exact ⟨_, h2, fun _ => m⟩
      · rw [List.getElem?_set_ne (fun z => hj z.symm)] at g
        exact ⟨u, g, fun z => z⟩
    obtain ⟨u', q1, q2⟩ := get j u g3
    obtain ⟨v', q3, q4⟩ := get l v g4
    exact R.inj j l b u' v' g1 g2 q1 q3 (q2 m1) (q4 m2)
def DP (K : PySem.W.Frag) (P : Program) (w : World) (H : Hp) (a : Addr) (y v : V) (H' : Hp) : Prop :=
  DPut H a y v H' ∨ ∃ xs k b, H a = some (DX P w a xs) ∧ KeysAt K H xs ∧ y = .ref b ∧ KAt K H b k ∧ xs.length < sizeLine ∧ H' = upd H a (DX P w a (pX xs k b v))
theorem set_dict (hu : X.A.units + 9 < cLine) : PSet X (fun o i v H Q => ∃ a H', o = .ref a ∧ DP X.K X.prog X.w H a i v H' ∧ Q H') := by
  intro pins s σ H o i v ov iv u Q I ro ri rv h
  obtain ⟨a, H', rfl, g, q⟩ := h
  cases (show ov = Value.ref a from ro)
  rcases g with g | ⟨xs, k, b, e, ks, rfl, sq, hl, rfl⟩
  · exact d_setItem (by omega) I g ri rv fun s' I' => ⟨H', I', q⟩
  · cases (show iv = Value.ref b from ri)
    obtain ⟨z, hd, us, rel, dd⟩ := dx_of I (.inl e) ks
    have hz : us.length ≤ sizeLine := by rw [← Paired.length rel]; exact z
    have hl' : (pX xs k b v).length ≤ sizeLine := by have := pX_len xs k b v; omega
    refine wpAny_setItem_heap (hsz := hz) (encKind_room hu) (key_at I sq) dd fun h' dd' hs => ⟨_, d_write I (by rw [e]; exact True.intro) hs (let ⟨o, _, _, ho, _⟩ := dd'; ⟨o, ho⟩) (dx_ok hl' hd (pairedX_put rel k b rv) dd'), q⟩
theorem kStore_rep {T : Tb} {φ : List Addr} {H : Hp} {st : S} {i : Nat} {a : Addr} {x d : D} {y v : V} {o' : O} {K : PySem.W.Frag} (R : RepS K T φ H st) (h1 : φ[i]? = some a) (h : kStore st[i]? x d = some o') (r : RepV K φ H x y) (rv : RepV K φ H d v) :
    ∃ H', DP K T.P T.w H a y v H' ∧ Kp H H' ∧ RepS K T φ H' (st.set i o') := by
  cases e : st[i]? with
  | none => rw [e] at h; cases h
  | some o =>
    rw [e] at h
    cases o with
    | dk kvs =>
      unfold kStore at h
      dsimp only at h
      split at h
      · rename_i hl
        obtain ⟨k, ek, rfl⟩ := Option.map_eq_some_iff.mp h
        obtain ⟨vs, g, rk⟩ := R.obj i a _ h1 e
        have hm : Mu (H a) := by rw [g]; exact trivial
        have kp : Kp H (upd H a (.dK (putK vs k v))) := Kp.write hm
        refine ⟨upd H a (.dK (putK vs k v)), .inl ?_, kp, R.writeG h1 e rfl rfl hm (tabs_writeG g (fun ps z => nomatch z) (fun c q _ z => by unfold CodeO at z; cases z) R.tab) ⟨_, upd_same, (rk.put k rv).mono (Ext.refl _) kp⟩⟩
        rw [keyOne_rep ek r]
        exact DPut.k g (by rw [← rk.length]; exact hl)
      · cases h
    | dx kvs =>
      unfold kStore at h
      dsimp only at h
      split at h
      · rename_i hl
        obtain ⟨k, ek, rfl⟩ := Option.map_eq_some_iff.mp h
        obtain ⟨vs, g, rx⟩ := R.obj i a _ h1 e
        obtain ⟨b, rfl, sq⟩ := keyTup_rep ek r
        have hm : Mu (H a) := by rw [g]; exact trivial
        have kp : Kp H (upd H a (DX T.P T.w a (pX vs k b v))) := Kp.write hm
        exact ⟨_, .inr ⟨vs, k, b, g, rx.keys, rfl, sq, by rw [← rx.length]; exact hl, rfl⟩, kp, R.writeG h1 e rfl rfl hm (tabs_writeG g DX_tbl (fun c q ec => DX_code ec) R.tab) ⟨_, upd_same, (rx.put k sq rv).mono (Ext.refl _) kp⟩⟩
      · cases h
    | _ => cases h
theorem rS_dput {e o ie : Expr} {tpos pos : Pos} {m mo mi : DE} (hu : X.A.units + 9 < cLine) (hP : cm.T.P = X.prog) (hw' : cm.T.w = X.w) (he : PE X e (tE X.K cm W m)) (ho : PE X o (tE X.K cm W mo)) (hi : PE X ie (tE X.K cm W mi))
    (ha : ∀ v, assign (.Subscript o ie tpos) X.env v = (do
      let ov ← holding [v] (eval o X.env)
      let iv ← holding [v, ov] (eval ie X.env)
      standAt tpos
      holding [v, ov, iv] (setItem ov iv v)
      release [v, ov, iv] []) := by intro _; rfl)
    (hs : swapsWithSole [.Subscript o ie tpos] e pos.line X.env = pure false := by rfl) (hw : swappedStores [.Subscript o ie tpos] e X.env = pure none := by rfl)
    (hone : (assignEach [.Subscript o ie tpos] X.env).map (·.2) = [assign (.Subscript o ie tpos) X.env] := by rfl) : PS X (.Assign [.Subscript o ie tpos] e pos) (tS X.K cm W (sSub dDPut mo mi m)) := by
  refine conv_S (ps_asg he (pg_sub ho hi (set_dict hu) ha) hs hw hone) fun E σ H h => ?_
  obtain ⟨φ, ρ, st, hd, h⟩ := h
  refine AtS.bind hd h fun d st1 φ1 H1 v e1 k1 hd1 r1 h1 => ?_
  refine AtS.bind hd1 h1 fun od st2 φ2 H2 ov e2 k2 hd2 r2 h2 => ?_
  refine AtS.bind hd2 h2 fun xd st3 φ3 H3 xv e3 k3 hd3 r3 h3 => ?_
  have r2' := r2.mono e3 k3
  have r1' := (r1.mono e2 k2).mono e3 k3
  cases r2' with
  | @loc i a hl =>
    unfold dDPut at h3
    dsimp only at h3
    cases ek : kStore st3[i]? xd d with
    | none => rw [ek] at h3; exact h3.elim
    | some o' =>
      rw [ek] at h3
      obtain ⟨H4, g1, g2, g3⟩ := kStore_rep hd3.s hl ek r3 r1'
      rw [hP, hw'] at g1
      exact ⟨a, H4, rfl, g1, (AtS.mono (Ext.refl _) g2 h3).next (hd3.mono (Ext.refl _) g2 g3)⟩
  | _ => exact h3.elim
end
end Rol

namespace Rol
open PySem L2 PySem.Spec
open PyProof.Rows hiding St

section
variable {X : Cx} {cm : CM} {W : WX} {c : Expr} {body : List Stmt} {t : DT} {b : DS} {pos : Pos}
end
end Rol

namespace Rol
open PySem L2 PySem.Spec
open PyProof.Rows hiding St

/-- wherever the written part stands, the dict at a has these entries -/
def WD (K : PySem.W.Frag) (a : Addr) (kvs : List (Key × V)) : Prop := ∀ (P : Program) (w : World) (h : Heap), K.In h → ∃ vs, KV kvs vs ∧ h.DictOf (mixKind P w) a vs
inductive WE : List DictEntry → List (Key × V) → Prop
  | nil : WE [] []
  | cons {i : Int} {t : Tok} {v : V} {u : Value} {es : List DictEntry} {kvs : List (Key × V)} : RelV v u → WE es kvs → WE (⟨hashInt i, .int i t, u⟩ :: es) ((.inl i, v) :: kvs)
theorem wd_of {K : PySem.W.Frag} {a : Addr} {es : List DictEntry} {n : Nat} {sl : Array (Option Value)} {kvs : List (Key × V)} (e : K.lookup a = some ⟨.type "dict", none, .dict es.toArray n, sl⟩) (hs : sl = #[]) (h : WE es kvs) (hn : (kvs.map (·.1)).Nodup) : WD K a kvs := by
  intro P w hp X
  have key : ∃ vs : List (Key × Value), KV kvs vs ∧ KeysOf (mixKind P w) es.toArray ∧ Pairs (mixKind P w) es vs := by
    clear e hn
    induction h with
    | nil => exact ⟨[], .nil, (fun e he => by simp at he), .nil⟩
    | @cons i t v u es kvs r _ ih =>
      obtain ⟨vs, h1, h2, h3⟩ := ih
      refine ⟨(.inl i, u) :: vs, .cons ⟨rfl, r⟩ h1, fun e he => ?_, .cons (keyIs_int i t) rfl h3⟩
      rw [List.mem_toArray] at he
      rcases List.mem_cons.mp he with rfl | he
      · exact ⟨.inl i, keyIs_int i t, rfl⟩
      · exact h2 e (by rw [List.mem_toArray]; exact he)
  obtain ⟨vs, h1, h2, h3⟩ := key
  refine ⟨vs, h1, _, es.toArray, n, X _ _ e, ⟨rfl, rfl, by rw [hs]⟩, rfl, h2, by simpa using h3, ?_⟩
  rw [← h1.keys]
  exact hn
/-- d[k] of it -/
def dWGet (kvs : List (Key × D)) (x : D) (st : S) : Res D := match (keyOne x).bind fun k => kGet kvs k with
  | some d => .ok d st
  | none => .stuck
section
variable {X : Cx} {cm : CM} {W : WX} {e : Expr} {m : DE} {x : Str} {p pos : Pos}
theorem rE_wget {a : Addr} {kvs : List (Key × D)} {vs : List (Key × V)} (hm : X.mg x = some (.ref a)) (hw : WD X.K a vs) (hr : ∀ φ H, RepK X.K φ H kvs vs) (h : PE X e (tE X.K cm W m)) (hg : Gl X x := by rfl) (hd : (x == ("__debug__" : Str)) = false := by decide) (hs : NoSl e := by exact fun _ _ => rfl) :
    PE X (.Subscript (.Name x p) e pos) (tE X.K cm W (e1 (dWGet kvs) m)) := by
  constructor
  intro pins s σ H Q I hq
  obtain ⟨φ, ρ, st, hd', hq⟩ := hq
  have q1 : tE X.K cm W m σ H (fun y H1 => ∃ k v, y = kV k ∧ valV vs k = some v ∧ Q v H1) := by
    refine tG_bind hd' hq fun d st1 φ1 H1 y e1 k1 hd1 r1 h1 => ?_
    unfold dWGet at h1
    cases ek : keyOne d with
    | none => rw [ek] at h1; exact h1.elim
    | some k =>
      rw [ek] at h1
      simp only [Option.bind_some] at h1
      rcases (hr φ1 H1).get k with ⟨d', v, g1, g2, g3⟩ | ⟨g1, _⟩
      · rw [g1] at h1
        exact ⟨k, v, keyOne_rep ek r1, g2, h1.here hd1.s g3⟩
      · rw [g1] at h1
        exact h1.elim
  refine subD_of PySem.F.slot_dict_getitem.lookup hs (ld_glob I hg hm ?_ hd)
  refine thn (h.run pins s σ H _ I q1) fun u s1 z => ?_
  obtain ⟨y, H1, I1, ry, k, v, ey, g, q⟩ := z
  subst ey
  obtain ⟨ws, h1, dd⟩ := hw X.prog X.w s1.heap I1.kIn
  obtain ⟨w', hw', rw'⟩ := RelO.some_of (v := v) (o := valueAt ws k) (by rw [← g]; exact h1.val k)
  exact ⟨dd.typeIs, wpAny_getItem_of (kV_is ry) dd.mapOf hw' ⟨v, H1, I1.tok _, rw', q⟩⟩
end
end Rol

namespace Rol
open PySem L2 PySem.Spec
open PyProof.Rows hiding St

theorem hu_of {k : Nat} {A : Around} (r : Room k A) : A.units + 9 < cLine := by have := u65 r; omega
def WName (K : PySem.W.Frag) (mg : Str → Option Value) (x : Str) (kvs : List (Key × D)) : Prop := ∃ a, mg x = some (.ref a) ∧ ∃ vs, WD K a vs ∧ ∀ φ H, RepK K φ H kvs vs
section
variable {X : Cx} {cm : CM} {W : WX} {e : Expr} {m : DE} {x : Str} {p pos : Pos}
theorem rE_wgetN {kvs : List (Key × D)} (h0 : WName X.K X.mg x kvs) (h : PE X e (tE X.K cm W m)) (hg : Gl X x := by rfl) (hd : (x == ("__debug__" : Str)) = false := by decide) (hs : NoSl e := by exact fun _ _ => rfl) :
    PE X (.Subscript (.Name x p) e pos) (tE X.K cm W (e1 (dWGet kvs) m)) := by
  obtain ⟨a, hm, vs, hw, hr⟩ := h0
  exact rE_wget hm hw hr h hg hd hs
end
end Rol

namespace Rol
open PySem L2 PySem.Spec
open PyProof.Rows hiding St

section
variable {X : Cx} {pins : List (Addr × Obj)} {σ : L2.St} {H : Hp} {s : Shared}
end
section
variable {X : Cx} {cm : CM} {W : WX} {e : Expr} {m : DE} {p pos : Pos}
end
end Rol
namespace Rol
open PySem L2 PySem.Spec LamX
theorem tab_one : ∀ {l : List (Addr × Str)}, (l.map (·.1)).Nodup → ∀ {a : Addr} {q : Str}, (a, q) ∈ l → ∀ p ∈ l, p.1 = a → p.2 = q
  | [], _, _, _, m => nomatch m
  | x :: l, h, a, q, m0 => fun p hp e => by
    rw [List.map_cons, List.nodup_cons] at h
    rcases List.mem_cons.mp m0 with m1 | m1
    · rcases List.mem_cons.mp hp with g | g
      · rw [g, ← m1]
      · refine (h.1 (List.mem_map.mpr ⟨p, g, ?_⟩)).elim
        rw [e, ← m1]
    · rcases List.mem_cons.mp hp with g | g
      · refine (h.1 (List.mem_map.mpr ⟨(a, q), m1, ?_⟩)).elim
        rw [← g, e]
      · exact tab_one h.2 m1 p g e
theorem tabs0_nil {K : PySem.W.Frag} {h : Heap} : Tabs0 K h [] := ⟨(fun _ z => nomatch z), (fun _ z => nomatch z), (fun _ z => nomatch z)⟩
theorem tabs0_cons {K : PySem.W.Frag} {h : Heap} {c P : Addr} {cs : List (Addr × Addr)} (X : K.In h) (u : PySem.W.codeHdIn K c P = true) (v : K.lookup P = none) (g : h.get? P = some tab0) (t : Tabs0 K h cs) : Tabs0 K h ((c, P) :: cs) :=
  ⟨List.forall_mem_cons.mpr ⟨g, t.at_⟩, List.forall_mem_cons.mpr ⟨v, t.out⟩, List.forall_mem_cons.mpr ⟨PySem.W.codeHd_of_K X u, t.code⟩⟩
end Rol

namespace Rol
open PySem L2 PySem.Spec
open PyProof.Rows hiding St
section
variable {X : Cx} {cm : CM} {W : WX} {a b c : Expr} {ta tb tc : DT} {pos : Pos}
end
end Rol

namespace Rol
open PySem L2 PySem.Spec
open PyProof.Rows hiding St
section
variable {prog : Program} {w : World} {A : Around} {E : Value → Shared → Prop} {s : Shared} {β : Type} {R : Value → β → Prop} {enc : β → PyData} {vs : List Value} {bs : List β}
end
end Rol

namespace ZN
open PySem PySem.Calls
open Sem (wp)

/-- an iterator, its list, what the list holds -/
abbrev Tri := Addr × Addr × Array Value

abbrev ZObj (h : Heap) (z TI TO : Addr) (f0 : Value) (f1 : Bool) : Prop :=
  h.get? z = some { cls := .type "zip", dict := none, data := .fields #[f0, .bool f1, .bool false, .ref TI, .ref TO], slots := #[] }

/-- the cells of a zip lie apart -/
structure ZAp (z TI TO : Addr) (ts : List Tri) : Prop where
  zI : TI ≠ z
  zO : TO ≠ z
  IO : TI ≠ TO
  nd : (ts.map (·.1)).Nodup
  iz : ∀ t ∈ ts, t.1 ≠ z ∧ t.1 ≠ TI ∧ t.1 ≠ TO
  lz : ∀ t ∈ ts, t.2.1 ≠ z ∧ t.2.1 ≠ TI ∧ t.2.1 ≠ TO ∧ t.2.1 ∉ ts.map (·.1)

abbrev rfs (ts : List Tri) : List Value := ts.map fun t => .ref t.1

structure ZRest (h : Heap) (TI TO : Addr) (ts : List Tri) : Prop where
  ti : h.get? TI = some { cls := .type "tuple", data := .seq (rfs ts).toArray }
  ls : ∀ t ∈ ts, h.IsList t.2.1 t.2.2
  to : ∃ x, h.get? TO = some { cls := .type "tuple", data := .seq x } ∧ x.size = ts.length

/-- a row of a zip -/
abbrev zrow (ts : List Tri) (i : Nat) : List Value := ts.map fun t => t.2.2.getD i .none

/-- what a zip's step leaves as it is -/
abbrev ZKeep (z TO : Addr) (ts : List Tri) (h h' : Heap) : Prop := ∀ c o, c ≠ z → c ≠ TO → c ∉ ts.map (·.1) → h.get? c = some o → h'.get? c = some o

section
variable {prog : Program} {w : World} {A : Around} {E : Value → Shared → Prop} {s : Shared} {z TI TO : Addr} {ts : List Tri} {i : Nat}

theorem ZRest.keep {h h' : Heap} (r : ZRest h TI TO ts) (D : ZAp z TI TO ts) (hk : ZKeep z TO ts h h') (ho : ∃ x, h'.get? TO = some { cls := .type "tuple", data := .seq x } ∧ x.size = ts.length) : ZRest h' TI TO ts :=
  ⟨hk _ _ D.zI D.IO (fun hm => by obtain ⟨t, ht, e⟩ := List.mem_map.mp hm; exact (D.iz t ht).2.1 e) r.ti,
   fun t ht => (r.ls t ht).at fun o e => hk _ o (D.lz t ht).1 (D.lz t ht).2.2.1 (D.lz t ht).2.2.2 e, ho⟩

end
end ZN

set_option linter.unusedVariables false
namespace ZN
open PySem PySem.Calls
open Sem (wp)
section
variable {prog : Program} {w : World} {A : Around} {E : Value → Shared → Prop} {s : Shared} {z TI TO : Addr} {ts : List Tri} {i : Nat}

end
end ZN

set_option linter.unusedVariables false
namespace ZN
open PySem PySem.Calls
open Sem (wp)
section
variable {prog : Program} {w : World} {A : Around} {E : Value → Shared → Prop} {s : Shared}

/-- fresh iterators of some lists -/
structure Its (h h' : Heap) (ps : List (Addr × Array Value)) (ts : List Tri) : Prop where
  keep : ∀ b o, h.get? b = some o → h'.get? b = some o
  size : h'.objs.size = h.objs.size + ts.length
  tl : ts.map (·.2) = ps
  it : ∀ t ∈ ts, h'.IsListIter t.1 t.2.1 0
  above : ∀ t ∈ ts, h.objs.size ≤ t.1
  rise : (ts.map (·.1)).Pairwise (· < ·)

theorem Its.below {h h' : Heap} {ps : List (Addr × Array Value)} {ts : List Tri} (x : Its h h' ps ts) {t : Tri} (ht : t ∈ ts) : t.1 < h'.objs.size := by
  obtain ⟨o, ho, _⟩ := x.it t ht
  exact Heap.lt_size ho

end
end ZN

set_option linter.unusedVariables false
namespace ZN
open PySem PySem.Calls
open Sem (wp)

/-- gathered rows -/
structure ZG (ts : List Tri) (lo : Addr) (h : Heap) (as : List Addr) : Prop where
  rise : as.Pairwise (· < ·)
  above : ∀ a ∈ as, lo < a
  rows : ∀ (j : Nat) (a : Addr), as[j]? = some a → h.get? a = some { cls := .type "tuple", data := .seq (zrow ts j).toArray }

theorem ZG.there {ts : List Tri} {lo : Addr} {h : Heap} {as : List Addr} (g : ZG ts lo h as) {a : Addr} (ha : a ∈ as) : a < h.objs.size := by
  obtain ⟨j, hj⟩ := List.mem_iff_getElem?.mp ha
  exact Heap.lt_size (g.rows j a hj)

/-- S lies behind the zip's cells and is none of its lists -/
structure ZLow (S z TI TO : Addr) (ts : List Tri) : Prop where
  z : z < S
  ti : TI < S
  to : TO < S
  it : ∀ t ∈ ts, t.1 < S
  ls : ∀ t ∈ ts, t.2.1 < S

section
variable {prog : Program} {w : World} {A : Around} {E : Value → Shared → Prop} {s : Shared} {z TI TO : Addr} {ts : List Tri} {i m : Nat} {R : Result → Shared → Prop}

theorem ZLow.its {S : Addr} (L : ZLow S z TI TO ts) {a : Addr} (ha : S ≤ a) : a ∉ ts.map (·.1) := fun hm => by
  obtain ⟨t, ht, e⟩ := List.mem_map.mp hm
  exact absurd (Nat.lt_of_lt_of_le (L.it t ht) ha) (by rw [e]; exact Nat.lt_irrefl _)

/-- what a step of the walk needs of a state -/
structure ZK (h : Heap) (z TI TO : Addr) (ts : List Tri) (i : Nat) (S : Addr) : Prop where
  rest : ZRest h TI TO ts
  its : ∀ t ∈ ts, h.IsListIter t.1 t.2.1 i
  head : ∃ f0 f1, ZObj h z TI TO f0 f1 ∧ ((i = 0 ∧ f0 = .none ∧ f1 = false) ∨ ∃ (a : Addr) (o : Obj), f0 = rawInt a ∧ h.get? a = some o ∧ S < a)

theorem ZK.keep {h h' : Heap} {S : Addr} (L : ZLow S z TI TO ts) (k : ZK h z TI TO ts i S) (hk : ∀ b o, b ≠ S → h.get? b = some o → h'.get? b = some o) : ZK h' z TI TO ts i S := by
  obtain ⟨hR, hit, f0, f1, hzo, hf⟩ := k
  obtain ⟨x, hx, hxs⟩ := hR.to
  refine ⟨⟨hk _ _ (Nat.ne_of_lt L.ti) hR.ti, fun t ht => (hR.ls t ht).at fun o e => hk _ o (Nat.ne_of_lt (L.ls t ht)) e, x, hk _ _ (Nat.ne_of_lt L.to) hx, hxs⟩, fun t ht => (hit t ht).at fun o e => hk _ o (Nat.ne_of_lt (L.it t ht)) e, f0, f1, hk _ _ (Nat.ne_of_lt L.z) hzo, ?_⟩
  rcases hf with hf | ⟨a, o, rfl, ha, hS⟩
  · exact .inl hf
  · exact .inr ⟨a, o, rfl, hk a o (Nat.ne_of_gt hS) ha, hS⟩

end
end ZN

namespace Rol
open PySem L2 PySem.Spec ZN
open PyProof.Rows hiding St

section
variable {P : Program} {w : World} {H : Hp} {h h' : Heap}
end

end Rol

namespace Rol
open PySem L2 PySem.Spec
open PyProof.Rows hiding St

def colsOk {α : Type} (cols : List (List α)) : Prop := 1 ≤ cols.length ∧ cols.length ≤ 6 ∧ 1 ≤ (cols.headD []).length ∧ ∀ c ∈ cols, c.length = (cols.headD []).length
instance {α : Type} (cols : List (List α)) : Decidable (colsOk cols) := inferInstanceAs (Decidable (_ ∧ _ ∧ _ ∧ _))
section
variable {K : PySem.W.Frag} {T : Tb} {φ : List Addr} {H : Hp} {st : S}
end

section
variable {X : Cx} {cm : CM} {W : WX} {e : Expr} {m : DE} {p q pos pos2 sp : Pos}
end
end Rol

namespace Rol
open PySem L2 PySem.Spec
open PyProof.Rows hiding St

section
variable {prog : Program} {w : World} {A : Around} {E : Value → Shared → Prop} {s : Shared} {t : Addr} {its : Array Value} {ns : List Int}
end
theorem vals_ints : ∀ {ns : List Int} {its : List Value}, Vals (ns.map V.int) its → ∀ (i : Nat) (v : Value), its[i]? = some v → ∃ k, v = .int (ns.getD i 0) k
  | [], _, .nil, i, v, e => by simp at e
  | n :: ns, _, .cons r t, 0, v, e => by
    simp at e
    subst e
    obtain ⟨k, rfl⟩ := r
    exact ⟨k, rfl⟩
  | n :: ns, _, .cons r t, i + 1, v, e => by
    obtain ⟨k, h⟩ := vals_ints t i v (by simpa using e)
    exact ⟨k, by rw [h]; simp⟩
end Rol

namespace Rol
open PySem L2 PySem.Spec
open PyProof.Rows hiding St
end Rol

namespace Rol
open PySem L2 PySem.Spec
open PyProof.Rows hiding St
theorem paired_get {α β : Type} {R : α → β → Prop} : ∀ {xs : List α} {ys : List β}, Paired R xs ys → ∀ (j : Nat) x y, xs[j]? = some x → ys[j]? = some y → R x y
  | _, _, .nil, j, x, y, h, _ => by simp at h
  | _, _, .cons r t, 0, x, y, h, g => by
    cases h
    cases g
    exact r
  | _, _, .cons r t, j + 1, x, y, h, g => paired_get t j x y (by simpa using h) (by simpa using g)
def intKey : List Key → Option (List Int)
  | [] => some []
  | .inl i :: r => (intKey r).map (i :: ·)
  | .inr _ :: _ => none
def keysD : List (List Key × D) → Option (List D)
  | [] => some []
  | (k, _) :: r => (intKey k).bind fun is => (keysD r).map (.tup (is.map .int) :: ·)
theorem flat_key : ∀ {t : K2} {is : List Int}, intKey (enc2 t) = some is → t = is.map fun i => .inl (.inl i)
  | [], is, h => by
    cases h
    rfl
  | .inl (.inl i) :: t, is, h => by
    have h : (intKey (enc2 t)).map (i :: ·) = some is := h
    obtain ⟨js, e, rfl⟩ := Option.map_eq_some_iff.mp h
    rw [flat_key e]
    rfl
  | .inl (.inr _) :: t, is, h => by cases h
  | .inr ks :: t, is, h => by cases h
theorem keyVs_ints {K : PySem.W.Frag} {H : Hp} : ∀ {is : List Int} {ws : List V}, KeyVs K H (is.map fun i => .inl (.inl i)) ws → ws = is.map V.int
  | [], _, .nil => rfl
  | i :: is, _, .cons h t => by
    rw [keyVs_ints t]
    cases h
    rfl
theorem repL_ints {K : PySem.W.Frag} {φ : List Addr} {H : Hp} : ∀ is : List Int, RepL K φ H (is.map D.int) (is.map V.int)
  | [] => .nil
  | i :: is => .cons (.int i) (repL_ints is)
theorem keysD_rep {K : PySem.W.Frag} {φ : List Addr} {H : Hp} : ∀ {kvs : List (List Key × D)} {vs : List (List Key × Addr × V)} {ys : List D}, RepX K φ H kvs vs → keysD kvs = some ys → RepL K φ H ys (vs.map fun x => .ref x.2.1)
  | _, _, _, .nil, h => by
    cases h
    exact .nil
  | _, _, ys, .cons s r t, h => by
    unfold keysD at h
    obtain ⟨is, e1, h⟩ := Option.bind_eq_some_iff.mp h
    obtain ⟨zs, e2, rfl⟩ := Option.map_eq_some_iff.mp h
    obtain ⟨t2, ws, k1, k2, k3, k4⟩ := s
    subst k2
    rw [flat_key e1] at k4
    rw [keyVs_ints k4] at k3
    exact .cons (.tup k3 (repL_ints is)) (keysD_rep t e2)
section
variable {X : Cx} {cm : CM} {W : WX} {e : Expr} {m : DE} {p pos : Pos}
end
end Rol

namespace Rol
open PySem L2 PySem.Spec
open PyProof.Rows hiding St
section
variable {X : Cx} {cm : CM} {W : WX} {e : Expr} {m : DE} {k : Nat} {p1 p2 p3 pos : Pos}
end
end Rol

namespace Rol
open PySem L2 PySem.Spec
open PyProof.Rows hiding St
theorem lockedX {X : Cx} {pins : List (Addr × Obj)} {σ : L2.St} {H : Hp} {s : Shared} {d : Addr} {o : Obj} {L : List (List Key × Addr × V)} (I : Inv X pins σ H s) (h : H d = some (.frz o (DX X.prog X.w d L))) :
    (d == sysModules) = false ∧ s.heap.get? d = some o ∧ o.ExactDict ∧ ∃ (es : Array DictEntry) (ep : Nat), o.data = .dict es ep ∧ es.size = L.length ∧ ∀ (i : Nat) y, L[i]? = some y → ∃ en : DictEntry, es[i]? = some en ∧ en.key = .ref y.2.1 := by
  obtain ⟨hd, ⟨_, hs, us, rel, o', es, ep, h1, h2, h3, h4, _⟩, _, _⟩ := (I.hok d _ h : ObjOk X.prog X.w H s.heap d (.frz o (DX X.prog X.w d L)))
  rw [hd] at h1
  cases h1
  have l1 : es.size = us.length := by
    have := congrArg List.length h4
    rw [List.length_map, Array.length_toList] at this
    exact this
  have l2 : L.length = us.length := rel.length
  refine ⟨hs, hd, h2, es, ep, h3, by omega, fun i y ey => ?_⟩
  have hi : i < us.length := by
    have := (List.getElem?_eq_some_iff.mp ey).1
    omega
  have eu : us[i]? = some us[i] := List.getElem?_eq_getElem hi
  obtain ⟨_, r2, _⟩ := paired_get rel i y us[i] ey eu
  refine ⟨entryOfKey (encKind X.prog X.w) us[i], ?_, by rw [r2]; rfl⟩
  rw [← Array.getElem?_toList, h4, List.getElem?_map, eu]
  rfl
/-- the keys' own tuples -/
def Itx (P : Program) (w : World) (d : Addr) (o : Obj) (L : List (List Key × Addr × V)) : It :=
  ⟨fun i H => H d = some (.frz o (DX P w d L)) ∧ i < L.length, fun i H x H' => H' = H ∧ ∃ y, L[i]? = some y ∧ x = .ref y.2.1, fun i H => H d = some (.frz o (DX P w d L)) ∧ L.length ≤ i⟩
theorem turnX {P : Program} {w : World} {K : PySem.W.Frag} {tg : Expr} {d : Addr} {o : Obj} {es : Array DictEntry} {ep : Nat} {L : List (List Key × Addr × V)} (it : Addr) (hod : o.data = .dict es ep) : Turn P w K tg (Itx P w d o L) [it] it (fun i h => h.IsKeyIter it d i L.length ep) where
  mem := List.mem_singleton.mpr rfl
  obj := fun i h at0 b hb => by
    obtain rfl : b = it := List.mem_singleton.mp hb
    obtain ⟨oi, q1, _, q2⟩ := at0
    refine ⟨oi, q1, fun v z => ?_⟩
    rw [q2] at z
    cases z
  keep := fun i h h' at0 k => at0.at fun oi q => k it (List.mem_singleton.mpr rfl) oi q
  item := by
    intro Y y1 y2 y3 cl j ps s τ G E J own0 at0 g
    subst y1; subst y2; subst y3
    obtain ⟨hd, hj⟩ := g
    have own := own0 it (List.mem_singleton.mpr rfl)
    obtain ⟨_, q1, _, es', ep', q2, _, ent⟩ := lockedX J hd
    obtain ⟨rfl, rfl⟩ := dict_ep hod q2
    have ey : L[j]? = some L[j] := List.getElem?_eq_getElem hj
    obtain ⟨en, een, ek⟩ := ent j _ ey
    refine next_key_item at0 q1 q2 (by assumption) (by assumption) fun h' at1 sb => ?_
    have J' : Inv Y ps τ G { s with heap := h' } := J.turned (t' := s.toks) (fun b ob hb q => (sb.2 b hb).trans q) own.1 own.2.1 own.2.2.2.1 own.2.2.2.2.1 own.2.2.2.2.2
    obtain ⟨oi, z1, z2, z3⟩ := id at1
    exact ⟨en.key, rfl, go_of (s := { s with heap := h' }) z1 z2 z3 (by decide) ⟨.ref (L[j]).2.1, G, J', ek, ⟨rfl, _, ey, rfl⟩, at1, fun b hb => (own0 b hb).1⟩⟩
  done := by
    intro Y y1 y2 y3 cl j ps s τ G E J own0 at0 g
    subst y1; subst y2; subst y3
    obtain ⟨hd, hj⟩ := g
    have own := own0 it (List.mem_singleton.mpr rfl)
    obtain ⟨_, q1, _, es', ep', q2, q3, _⟩ := lockedX J hd
    obtain ⟨rfl, rfl⟩ := dict_ep hod q2
    exact next_key_end (J.ok.hd cl) at0 q1 q2 q3 hj fun h' eb => ⟨rfl, J.turned (t' := s.toks) (fun b ob hb q => eb b ob hb q) own.1 own.2.1 own.2.2.2.1 own.2.2.2.2.1 own.2.2.2.2.2⟩
  self := fun _ _ _ _ _ at0 q => wpAny_pyIter_keyiter at0 q
def iWalkX (P : Program) (w : World) (td : TE) : TI := fun σ H R => td σ H fun x H1 => ∃ d o L, x = .ref d ∧ H1 d = some (.frz o (DX P w d L)) ∧ R (Itx P w d o L) H1
theorem pi_walkX {X : Cx} {tg e : Expr} {td : TE} (he : PE X e td) : PI X tg e (iWalkX X.prog X.w td) := by
  constructor
  intro ps s σ H R J h
  refine thn (he.run ps s σ H _ J h) fun u s1 g => ?_
  obtain ⟨x, H1, J1, rx, d, o, L, ex, hd, q⟩ := g
  subst ex
  cases (show u = Value.ref d from rx)
  obtain ⟨q0, q1, q2, es, ep, q3, q4, _⟩ := lockedX J1 hd
  refine iter_keys q0 q1 q2 q3 (pi_one (tk := s1.toks) J1 _ (turnX _ q3) ⟨_, Heap.get?_push_size _ rfl, rfl, ?_⟩ q)
  rw [q4] <;> rfl
theorem itX {K : PySem.W.Frag} {φ : List Addr} {H : Hp} {P : Program} {w : World} {d : Addr} {o : Obj} {kvs : List (List Key × D)} {L : List (List Key × Addr × V)} {ys : List D} (h : H d = some (.frz o (DX P w d L))) (r : RepX K φ H kvs L) (e : keysD kvs = some ys) : ItOk K φ H (ys, none) (Itx P w d o L) := by
  have rl : RepL K φ H ys (L.map fun x => V.ref x.2.1) := keysD_rep r e
  have ll : ys.length = L.length := by
    have := rl.length
    rwa [List.length_map] at this
  refine ⟨fun φ' H' st i _ k _ _ hi => ⟨k _ _ h (fun z => z), by dsimp only at hi; omega⟩, fun φ' H' st i _ k _ _ hi => ⟨k _ _ h (fun z => z), by dsimp only at hi; omega⟩, fun φ' H' st i v H2 x ee k s _ hx y => ?_⟩
  obtain ⟨rfl, y, ey, rfl⟩ := y
  refine ⟨Kp.refl _, s, ?_⟩
  obtain ⟨u, e1, e2⟩ := rl.get hx
  rw [List.getElem?_map, ey] at e1
  cases e1
  exact e2.mono ee k
def iWalk (m : DE) : DI := fun ρ st => (m ρ st).bind fun x st => match x with
  | .loc i => (match st[i]? with
    | some (.fx kvs) => (match keysD kvs with
      | some ys => .ok (ys, none) st
      | none => .stuck)
    | _ => .stuck)
  | _ => .stuck
def Sq (K : PySem.W.Frag) (H H' : Hp) : Prop := ∀ a vs, SqT K H a vs → SqT K H' a vs
section
variable {K : PySem.W.Frag} {φ : List Addr} {H H' : Hp}
mutual
theorem RepV.via (k : Sq K H H') : ∀ {x : D} {v : V}, RepV K φ H x v → RepV K φ H' x v
  | _, _, .non => .non
  | _, _, .bl b => .bl b
  | _, _, .int i => .int i
  | _, _, .str x => .str x
  | _, _, .tup s r => .tup (k _ _ s) (RepL.via k r)
  | _, _, .loc h => .loc h
  | _, _, .opq v => .opq v
theorem RepL.via (k : Sq K H H') : ∀ {xs : List D} {vs : List V}, RepL K φ H xs vs → RepL K φ H' xs vs
  | _, _, .nil => .nil
  | _, _, .cons r t => .cons (RepV.via k r) (RepL.via k t)
end
theorem KeyVs.via (k : Sq K H H') {t : K2} {vs : List V} (h : KeyVs K H t vs) : KeyVs K H' t vs := by
  induction h with
  | nil => exact .nil
  | @cons x v t vs h1 _ ih =>
    refine .cons ?_ ih
    cases x with
    | inl y => exact h1
    | inr ks => exact let ⟨c, e, h⟩ := h1; ⟨c, e, k _ _ h⟩
theorem KAt.via (k : Sq K H H') {b : Addr} {ks : List Key} (h : KAt K H b ks) : KAt K H' b ks :=
  let ⟨t, vs, h1, h2, h3, h4⟩ := h
  ⟨t, vs, h1, h2, k _ _ h3, h4.via k⟩
theorem RepX.via (k : Sq K H H') {xs : List (List Key × D)} {vs : List (List Key × Addr × V)} (h : RepX K φ H xs vs) : RepX K φ H' xs vs := by
  induction h with
  | nil => exact .nil
  | cons s r _ ih => exact .cons (s.via k) (r.via k) ih
theorem RepK.via (k : Sq K H H') {xs : List (Key × D)} {vs : List (Key × V)} (h : RepK K φ H xs vs) : RepK K φ H' xs vs := by
  induction h with
  | nil => exact .nil
  | cons r _ ih => exact .cons (r.via k) ih
end
section
variable {K : PySem.W.Frag} {T : Tb} {φ : List Addr} {H : Hp} {st : S} {i : Nat} {a : Addr} {od : Obj} {vs : List (List Key × Addr × V)} {kvs kvs' : List (List Key × D)}
theorem dx_not_seq {P : Program} {w : World} {a : Addr} {vs : List (List Key × Addr × V)} : (∀ xs, DX P w a vs ≠ .lst xs) ∧ ∀ xs, DX P w a vs ≠ .tup xs := by
  constructor
  · intro xs z
    unfold DX at z
    cases z
  · intro xs z
    unfold DX at z
    cases z
theorem sq_unlock {P : Program} {w : World} (h : H a = some (.frz od (DX P w a vs))) : Sq K H (upd H a (DX P w a vs)) := fun b xs s => by
  have ne : ∀ o, H b = some o → (∀ u, o ≠ .frz od u ∨ ∃ ys, u = .tup ys) → b ≠ a := fun o e g z => by
    rw [z, h] at e
    cases e
    rcases g (DX P w a vs) with g | ⟨ys, g⟩
    · exact g rfl
    · exact dx_not_seq.2 ys g
  rcases s with s | s
  · rcases s with s | ⟨o, s⟩
    · refine .inl (.inl ?_)
      rw [upd_ne (ne _ s fun u => .inl fun z => by cases z)]
      exact s
    · refine .inl (.inr ⟨o, ?_⟩)
      rw [upd_ne (ne _ s fun u => ?_)]
      · exact s
      · by_cases z : ∃ ys, u = .tup ys
        · exact .inr z
        · refine .inl fun y => z ⟨xs, ?_⟩
          cases y
          rfl
  · exact .inr s
theorem frz_tab {P : Program} {w : World} (h : H a = some (.frz od (DX P w a vs))) {l : List (Addr × Str)} (t : LamX.Tabs l H) : LamX.Tabs l (upd H a (DX P w a vs)) := fun p hp => by
  obtain ⟨ps, e1, e2, e3⟩ := t p hp
  refine ⟨ps, ?_, e2, fun pos cv hc => ?_⟩
  · rw [upd_ne fun z => by rw [z, h] at e1; cases e1]
    exact e1
  · obtain ⟨c, g1, g2⟩ := e3 pos cv hc
    refine ⟨c, g1, ?_⟩
    rw [upd_ne fun z => by rw [z, h] at g2; unfold LamX.CodeO at g2; cases g2]
    exact g2
theorem RepS.unlock (R : RepS K T φ H st) (h1 : φ[i]? = some a) (h2 : st[i]? = some (.fx kvs')) (h : H a = some (.frz od (DX T.P T.w a vs))) (r : RepX K φ H kvs vs) : RepS K T φ (upd H a (DX T.P T.w a vs)) (st.set i (.dx kvs)) := by
  have hi : i < st.length := (List.getElem?_eq_some_iff.mp h2).1
  have sq : Sq K H (upd H a (DX T.P T.w a vs)) := sq_unlock h
  refine ⟨by simp [R.len], fun j b u g1 g2 => ?_, fun j l b u v g1 g2 g3 g4 m1 m2 => ?_, frz_tab h R.tab⟩
  · by_cases hj : j = i
    · subst hj
      rw [h1] at g1
      cases g1
      rw [List.getElem?_set_self hi] at g2
      cases g2
      exact ⟨vs, upd_same, r.via sq⟩
    · rw [List.getElem?_set_ne (fun z => hj z.symm)] at g2
      have ro := R.obj j b u g1 g2
      have ne : u.mut = true → b ≠ a := fun m z => by
        subst z
        exact hj (R.inj j i b u _ g1 h1 g2 h2 m rfl)
      cases u with
      | lst xs =>
        obtain ⟨ws, e, q⟩ := ro
        exact ⟨ws, by rw [upd_ne (ne rfl)]; exact e, q.via sq⟩
      | src xs =>
        obtain ⟨ws, e, q⟩ := ro
        refine ⟨ws, ?_, q.via sq⟩
        rcases e with ⟨o, e⟩ | e
        · refine .inl ⟨o, ?_⟩
          rw [upd_ne fun z => ?_]
          · exact e
          · rw [z, h] at e
            injection e with e
            injection e with _ e
            exact dx_not_seq.1 _ e
        · exact .inr e
      | dk ks =>
        obtain ⟨ws, e, q⟩ := ro
        exact ⟨ws, by rw [upd_ne (ne rfl)]; exact e, q.via sq⟩
      | dx ks =>
        obtain ⟨ws, e, q⟩ := ro
        exact ⟨ws, by rw [upd_ne (ne rfl)]; exact e, q.via sq⟩
      | fx ks =>
        obtain ⟨o, ws, e, q⟩ := ro
        exact ⟨o, ws, by rw [upd_ne (ne rfl)]; exact e, q.via sq⟩
  · have get : ∀ (j : Nat) (u : O), (st.set i (.dx kvs))[j]? = some u → ∃ u', st[j]? = some u' ∧ (u.mut = true → u'.mut = true) := fun j u g => by
      by_cases hj : j = i
      · subst hj
        exact ⟨_, h2, fun _ => rfl⟩
      · rw [List.getElem?_set_ne (fun z => hj z.symm)] at g
        exact ⟨u, g, fun z => z⟩
    obtain ⟨u', q1, q2⟩ := get j u g3
    obtain ⟨v', q3, q4⟩ := get l v g4
    exact R.inj j l b u' v' g1 g2 q1 q3 (q2 m1) (q4 m2)
end
def sLock (k : Nat) (m : DS) : DS := fun ρ st => match ρ[k]? with
  | some (some (.loc i)) => (match st[i]? with
    | some (.dx kvs) => (match m ρ (st.set i (.fx kvs)) with
      | .nx ρ' st' => (match st'[i]? with
        | some (.fx _) => .nx ρ' (st'.set i (.dx kvs))
        | _ => .stuck)
      | .rt v st' => (match st'[i]? with
        | some (.fx _) => .rt v (st'.set i (.dx kvs))
        | _ => .stuck)
      | _ => .stuck)
    | some (.fx _) => (match m ρ st with
      | .nx ρ' st' => .nx ρ' st'
      | .rt v st' => .rt v st'
      | _ => .stuck)
    | _ => .stuck)
  | _ => .stuck
section
variable {X : Cx} {cm : CM} {W : WX} {e : Expr} {m : DE} {k : Nat} {tg : Expr}
theorem rI_walk (hP : cm.T.P = X.prog) (hw : cm.T.w = X.w) (he : PE X e (tE X.K cm W m)) : PI X tg e (tI X.K cm W (iWalk m)) := by
  constructor
  intro ps s σ H R J h
  refine (pi_walkX (tg := tg) he).run ps s σ H R J ?_
  obtain ⟨φ, ρ, st, hd, h⟩ := h
  refine tG_bind hd h fun x st1 φ1 H1 v e1 k1 hd1 r1 h1 => ?_
  split at h1
  · rename_i i
    cases r1 with
    | loc g =>
      rename_i a
      split at h1
      · rename_i kvs ei
        obtain ⟨od, L, s1, r2⟩ := hd1.s.obj _ _ _ g ei
        split at h1
        · rename_i ys el
          exact ⟨a, od, L, rfl, by rw [← hP, ← hw]; exact s1, by rw [← hP, ← hw]; exact AtG.here (R := ItOk X.K) h1 hd1.s (itX s1 r2 el)⟩
        · exact h1.elim
      · exact h1.elim
  · exact h1.elim
theorem lock_in {K : PySem.W.Frag} {T : Tb} {φ : List Addr} {H : Hp} {σ : L2.St} {ρ : Nv} {st : S} {i : Nat} {a : Addr} {kvs : List (List Key × D)} {vs : List (List Key × Addr × V)} (hd : Hd K T φ H σ ρ st) (h1 : φ[i]? = some a) (h2 : st[i]? = some (.dx kvs)) (h : H a = some (DX T.P T.w a vs)) (r : RepX K φ H kvs vs) (od : Obj) :
    Hd K T φ (upd H a (.frz od (DX T.P T.w a vs))) σ ρ (st.set i (.fx kvs)) := by
  have hm : Mu (H a) := by rw [h]; exact trivial
  have kp : Kp H (upd H a (.frz od (DX T.P T.w a vs))) := Kp.write hm
  exact ⟨hd.s.writeG h1 h2 rfl rfl hm (tabs_writeG h DX_tbl (fun c q ec => DX_code ec) hd.s.tab) ⟨od, vs, upd_same, r.mono (Ext.refl _) kp⟩, hd.e.mono (Ext.refl _) kp⟩
theorem lock_kp {H H' : Hp} {a : Addr} {u v : HO} (h : H a = some v) (m : Mu (some v)) {od : Obj} (k : Kp (upd H a (.frz od u)) H') : Kp H (upd H' a u) := fun b o e n => by
  have ne : b ≠ a := fun z => by
    rw [z, h] at e
    cases e
    exact n m
  rw [upd_ne ne]
  exact k b o (by rw [upd_ne ne]; exact e) n
theorem RepE.via {K : PySem.W.Frag} {φ : List Addr} {H H' : Hp} {ρ : Nv} {σ : L2.St} (q : Sq K H H') (h : RepE K φ H ρ σ) : RepE K φ H' ρ σ := ⟨h.1, fun i d e => by
  obtain ⟨v, h1, h2⟩ := h.2 i d e
  exact ⟨v, h1, h2.via q⟩⟩
theorem rS_lock {c : Stmt} {m : DS} (he : PS X c (tS X.K cm W m)) : PS X c (tS X.K cm W (sLock k m)) := by
  constructor
  intro ps s σ H E J h
  obtain ⟨φ, ρ, st, hd, h⟩ := h
  unfold sLock at h
  split at h
  · rename_i i ek
    split at h
    · rename_i kvs ei
      obtain ⟨a, ha, vs, s1, r2⟩ := hd.s.addr ei
      refine (ps_lock he).run ps s σ H E J ⟨a, _, s1, trivial, fun od => ⟨φ, ρ, st.set i (.fx kvs), lock_in hd ha ei s1 r2 od, ?_⟩⟩
      have rx : ∀ {φ' : List Addr} {H' : Hp}, Ext φ φ' → Kp (upd H a (.frz od (DX cm.T.P cm.T.w a vs))) H' → H' a = some (.frz od (DX cm.T.P cm.T.w a vs)) ∧ RepX X.K φ' H' kvs vs := fun e' k' => ⟨k' _ _ upd_same (fun z => z), (r2.mono (Ext.refl _) (Kp.write (by rw [s1]; exact trivial))).mono e' k'⟩
      cases er : m ρ (st.set i (.fx kvs)) with
      | nx ρ' st' =>
        rw [er] at h
        dsimp only at h
        split at h
        · rename_i kvs' ef
          intro φ' H' σ' e' k' hd'
          obtain ⟨hfz, rx⟩ := rx e' k'
          exact ⟨hfz, h φ' _ _ e' (lock_kp s1 trivial k') ⟨hd'.s.unlock (e'.get ha) ef hfz rx, hd'.e.via (sq_unlock hfz)⟩⟩
        · exact h.elim
      | rt v st' =>
        rw [er] at h
        dsimp only at h
        split at h
        · rename_i kvs' ef
          intro φ' H' b e' k' s' r'
          obtain ⟨hfz, rx⟩ := rx e' k'
          exact ⟨hfz, h φ' _ _ e' (lock_kp s1 trivial k') (s'.unlock (e'.get ha) ef hfz rx) (r'.via (sq_unlock hfz))⟩
        · exact h.elim
      | exc c w ρ' st' => rw [er] at h; exact h.elim
      | bk ρ' st' => rw [er] at h; exact h.elim
      | ct ρ' st' => rw [er] at h; exact h.elim
      | stuck => rw [er] at h; exact h.elim
    · refine he.run ps s σ H E J ⟨φ, ρ, st, hd, ?_⟩
      cases er : m ρ st with
      | nx ρ' st' => rw [er] at h; exact h
      | rt v st' => rw [er] at h; exact h
      | exc c w ρ' st' => rw [er] at h; exact h.elim
      | bk ρ' st' => rw [er] at h; exact h.elim
      | ct ρ' st' => rw [er] at h; exact h.elim
      | stuck => rw [er] at h; exact h.elim
    · exact h.elim
  · exact h.elim
end
end Rol

namespace Rol
open PySem L2 PySem.Spec
open PyProof.Rows hiding St
/-- {k: v} -/
def eDOne (mk mv : DE) : DE := fun ρ st => (mk ρ (st ++ [.dx []])).bind fun k st1 => (mv ρ st1).bind fun v st2 => match st2[st.length]?, keyTup k with
  | some (.dx []), some ks => .ok (.loc st.length) (st2.set st.length (.dx [(ks, v)]))
  | _, _ => .stuck
theorem dx_nil {P : Program} {w : World} {H : Hp} {h : Heap} {d : Addr} (hd : (d == sysModules) = false) (e : h.get? d = some { cls := .type "dict", data := .dict #[] }) : ObjOk P w H h d (DX P w d []) :=
  dx_ok (us := []) (Nat.zero_le _) hd .nil ⟨_, #[], 0, e, ⟨rfl, rfl, rfl⟩, rfl, rfl, (fun _ z => nomatch z), List.nodup_nil⟩
section
variable {X : Cx} {cm : CM} {W : WX} {ke ve : Expr} {mk mv : DE} {pos : Pos}
theorem rE_done (hu : X.A.units + 9 < cLine) (hP : cm.T.P = X.prog) (hw : cm.T.w = X.w) (hk : PE X ke (tE X.K cm W mk)) (hv : PE X ve (tE X.K cm W mv))
    (hs : (evalEachOpt [some ke] X.env).zip ((evalEach [ve] X.env).map fun v => do let x ← v; standAt pos; pure x) = [(some (eval ke X.env), do let x ← eval ve X.env; standAt pos; pure x)] := by rfl) : PE X (.Dict [some ke] [ve] pos) (tE X.K cm W (eDOne mk mv)) := by
  constructor
  intro ps s σ H Q J h
  obtain ⟨φ, ρ, st, hd, h⟩ := h
  have np : H s.heap.objs.size = none := J.hok.fresh (Nat.le_refl s.heap.objs.size)
  have hbig : (s.heap.objs.size == sysModules) = false := beq_eq_false_iff_ne.mpr (Ne.symm (Nat.ne_of_lt J.big))
  have room : (encKind X.prog X.w).room X.A := by show X.A.units + 8 < cLine; omega
  have disp := dictDisplay_pairs [(eval ke X.env, (do let x ← eval ve X.env; standAt pos; pure x : Sem Value))] (by simp) (by simp)
  rw [List.map_cons, List.map_nil] at disp
  rw [arm_eval_Dict, hs, disp]
  refine wpAny_bind (wpAny_standAt (wpAny_bind (wpAny_subDictH (knd := encKind X.prog X.w) room (by simp) ?_)))
  have J1 : Inv X ps σ (upd H s.heap.objs.size (DX X.prog X.w s.heap.objs.size [])) { s with heap := s.heap.push { cls := .type "dict", data := .dict #[] } } := J.laid (a := s.heap.objs.size) (t' := s.toks) (fun _ _ q => Heap.get?_push_of_some _ q) (Nat.le_refl _) (dx_nil hbig (Heap.get?_push_size _ rfl))
  have hd1 : Hd X.K cm.T (φ ++ [s.heap.objs.size]) (upd H s.heap.objs.size (DX X.prog X.w s.heap.objs.size [])) σ ρ (st ++ [.dx []]) := ⟨hd.s.allocG np ⟨[], by rw [hP, hw]; exact upd_same, .nil⟩, hd.e.mono (Ext.one φ _) (Kp.new np)⟩
  have k1 : Kp H (upd H s.heap.objs.size (DX X.prog X.w s.heap.objs.size [])) := Kp.new np
  have h := h.mono (Ext.one φ s.heap.objs.size) k1
  have at0 : (φ ++ [s.heap.objs.size])[st.length]? = some s.heap.objs.size := by
    rw [← hd.s.len, List.getElem?_append_right (Nat.le_refl _), Nat.sub_self]
    rfl
  refine evalPairs_cons ?_
  have run : tE X.K cm W mk σ (upd H s.heap.objs.size (DX X.prog X.w s.heap.objs.size [])) fun kv H1 => tE X.K cm W mv σ H1 fun vv H2 => H2 s.heap.objs.size = some (DX X.prog X.w s.heap.objs.size []) ∧ ∃ (b : Addr) (ks : List Key), kv = .ref b ∧ KAt X.K H2 b ks ∧ Q (.ref s.heap.objs.size) (upd H2 s.heap.objs.size (DX X.prog X.w s.heap.objs.size [(ks, b, vv)])) := by
    unfold eDOne at h
    refine tG_bind hd1 h fun k st1 φ1 H1 kv e1 k1 hd1 r1 h1 => ?_
    refine tG_bind hd1 h1 fun v st2 φ2 H2 vv e2 k2 hd2 r2 h2 => ?_
    have at2 := e2.get (e1.get at0)
    split at h2
    · rename_i ks es ek
      obtain ⟨vs, g1, g2⟩ := hd2.s.obj _ _ _ at2 es
      cases g2
      rw [hP, hw] at g1
      obtain ⟨b, rfl, sk⟩ := keyTup_rep ek (r1.mono e2 k2)
      refine ⟨g1, b, ks, rfl, sk, ?_⟩
      have hm : Mu (H2 s.heap.objs.size) := by rw [g1]; exact trivial
      have kp : Kp H2 (upd H2 s.heap.objs.size (DX X.prog X.w s.heap.objs.size [(ks, b, vv)])) := Kp.write hm
      exact h2 _ _ _ (Ext.refl _) kp (hd2.s.writeG at2 es rfl rfl hm (tabs_writeG g1 DX_tbl (fun c q ec => DX_code ec) hd2.s.tab) ⟨[(ks, b, vv)], by rw [hP, hw]; exact upd_same, .cons (sk.mono kp) (r2.mono (Ext.refl _) kp) .nil⟩) (.loc at2)
    · exact h2.elim
  refine thn (hk.run ps _ σ _ _ J1 run) fun ku s1 g => ?_
  obtain ⟨kv, H1, J2, rk, g⟩ := g
  refine wpAny_bind (thn (hv.run ps _ σ _ _ J2 g) fun vu s2 g => ?_)
  obtain ⟨vv, H2, J3, rv, g1, b, ks, ekv, sk, q⟩ := g
  subst ekv
  cases (show ku = Value.ref b from rk)
  refine wpAny_bind (wpAny_standAt (wpAny_pure (evalPairs_nil ?_)))
  obtain ⟨_, _, us, rel, dd⟩ := dx_of J3 (.inl g1) (fun p hp => nomatch hp)
  cases rel
  refine ⟨[(ks, b, vu)], ⟨rfl, rfl, key_at J3 sk, trivial⟩, dd, fun h' tk hD sb => ?_⟩
  have hD : h'.DictOfH (encKind X.prog X.w) s.heap.objs.size [(ks, b, vu)] := hD
  refine wpAny_pure ⟨.ref s.heap.objs.size, _, ?_, rfl, q⟩
  exact d_write J3 (by rw [g1]; exact True.intro) sb (let ⟨o, _, _, ho, _⟩ := hD; ⟨o, ho⟩) (dx_ok (us := [(ks, b, vu)]) (by rw [sizeLine_eq]; simp) hbig (.cons ⟨rfl, rfl, rv⟩ .nil) hD)
end
/-- sorted of a dict, by its entries -/
theorem sortRaw_run {X : Cx} (hc : X.calm = true) (hu : X.A.units + 100 < cLine) {pins : List (Addr × Obj)} {s : Shared} {σ : L2.St} {H : Hp} {Q : VK} {d : Addr} {es : Array DictEntry} {ep : Nat} {ks : List V} {ds : List PyData} (I : Inv X pins σ H s) (raw : s.heap.DictRaw d es ep) (lo : (d == sysModules) = false) (hsz : es.size = ks.length) (hz : es.size ≤ sizeLine)
    (hkey : ∀ (i : Nat) (hi : i < es.size), ∃ y, ks[i]? = some y ∧ RelV y es[i].key) (hdp : DpAll X.K H ks ds) (c1 : PySem.W.AllAlike ds) (c2 : PySem.W.Sortable ds) (c3 : ∀ d ∈ ds, d.depth ≤ 70)
    (q : ∀ p, H p = none → Q (.ref p) (upd H p (.lst (((ks.zip ds).mergeSort (PySem.W.dataLe false fun p => p.2)).map (·.1))))) : wpAny (model X.prog X.w) X.A (call (.builtin "sorted") [.ref d]) (EP X pins σ Q) X.xe s := by
  refine Calls.call_function_entry kind_sorted plain_sorted entry_sorted (args_sorted1 _) ?_
  unfold Builtin.«sorted»
  refine wpAny_bind (m := checkCount "sorted" 1 1 _) (wpAny_pure ?_)
  refine wpAny_bind (PySem.W.kdu_collect (A := X.A.in1) (KdlSrc.rawDict (prog := X.prog) (w := X.w) (es := es) (ep := ep) lo) (I.ok.hd hc) raw hz fun h' tk acc hk hacc => ?_)
  have I1 : Inv X pins σ H { s with heap := h', toks := tk } := I.kept hk
  have al : acc.toList.length = ks.length := by rw [Array.length_toList, hacc.1, hsz]
  have rv : Vals ks acc.toList := by
    have go : ∀ (l : List V) (m : List Value), m.length = l.length → (∀ (j : Nat) (x : V) (u : Value), l[j]? = some x → m[j]? = some u → RelV x u) → Vals l m := by
      intro l
      induction l with
      | nil =>
        intro m hl _
        cases m with
        | nil => exact .nil
        | cons _ _ => cases hl
      | cons x l ih =>
        intro m hl hr
        cases m with
        | nil => cases hl
        | cons u m => exact .cons (hr 0 x u rfl rfl) (ih m (by simpa using hl) fun j y v h1 h2 => hr (j + 1) y v (by simpa using h1) (by simpa using h2))
    refine go ks acc.toList al fun j x v h1 h2 => ?_
    obtain ⟨hi, ev⟩ := hacc.2 j v (by rw [← Array.getElem?_toList]; exact h2)
    obtain ⟨y, y1, y2⟩ := hkey j hi
    rw [h1] at y1
    cases y1
    rw [ev]
    exact y2
  have hl := dpAll_length hdp
  have big : acc.toList.length ≤ sizeLine := by rw [al, ← hsz]; exact hz
  refine wpAny_bind (wpAny_newList ?_ big)
  have hoL : (h'.push (seqObj "list" acc.toList.toArray 0)).get? h'.objs.size = some (seqObj "list" acc.toList.toArray 0) := Heap.get?_push_size _ rfl
  show wpAny _ _ _ _ _ { s with heap := h'.push (seqObj "list" acc.toList.toArray 0), toks := tk }
  obtain ⟨e1, e2⟩ := each_of I1 hdp rv
  have mp : (ks.zip ds).map (·.2) = ds := zip_snd hl
  have er : PySem.W.EachIs (fun (v : Value) (b : V × PyData) => ∃ as, Reads (h'.push (seqObj "list" acc.toList.toArray 0)) v b.2 as ∧ h'.objs.size ∉ as) acc.toList (ks.zip ds) :=
    e2.mono fun v b ⟨as, rd⟩ => ⟨as, PyProof.Rows.Reads.keeps (fun b o e => Heap.get?_push_of_some _ e) rd, fun hm => by
      obtain ⟨oo, ho⟩ := PyProof.On.reads_mem_get rd _ hm
      exact absurd (Heap.lt_size ho) (Nat.lt_irrefl _)⟩
  refine wpAny_bind (wpAny_holding (PySem.W.list_sort_data (enc := fun b : V × PyData => b.2) (R := fun v b => RelV b.1 v) hoL e1 er (by rw [mp]; exact c1) (by rw [mp]; exact c2) (by rw [List.length_zip, ← hl, Nat.min_self, ← al]; exact big) (fun b hb => ?_) fun out hlen ho => ?_))
  · have : b.2 ∈ ds := by
      rw [← mp]
      exact List.mem_map.mpr ⟨b, hb, rfl⟩
    have := c3 _ this
    show X.A.units + 1 + 1 + b.2.depth < cLine
    omega
  · obtain ⟨e', he'⟩ := PyProof.Rows.sortedHeap_at (vs := acc.toList) (out := out.toArray) hoL
    have rv' := vals_each ho
    refine wpAny_pure ⟨_, rfl, .ref h'.objs.size, upd H h'.objs.size (.lst (((ks.zip ds).mergeSort (PySem.W.dataLe false fun b => b.2)).map (·.1))), I1.laid (t' := tk) (fun b u e => ?_) (Nat.le_refl _) ⟨?_, out, e', rv', he'⟩, rfl, q _ (I1.hok.fresh (Nat.le_refl _))⟩
    · have hb : b < h'.objs.size := Heap.lt_size e
      rw [PyProof.Rows.sortedHeap_old (Nat.ne_of_lt hb) (by rw [size_push']; exact Nat.lt_succ_of_lt hb)]
      exact Heap.get?_push_of_some _ e
    · rw [List.length_map, List.length_mergeSort, List.length_zip, ← hl, Nat.min_self, ← al]
      exact big
def rSortX (K : PySem.W.Frag) (P : Program) (w : World) : List V → Hp → VK → Prop := fun vs H Q => ∃ (a : Addr) (L : List (List Key × Addr × V)) (ds : List PyData), vs = [.ref a] ∧ Rd H a (DX P w a L) ∧ KeysAt K H L ∧ DpAll K H (L.map fun x => .ref x.2.1) ds ∧ PySem.W.AllAlike ds ∧ PySem.W.Sortable ds ∧ (∀ d ∈ ds, d.depth ≤ 70) ∧
  ∀ p, H p = none → Q (.ref p) (upd H p (.lst ((((L.map fun x => V.ref x.2.1).zip ds).mergeSort (PySem.W.dataLe false fun p => p.2)).map (·.1))))
theorem call_sortX {X : Cx} (hc : X.calm = true) (hu : X.A.units + 100 < cLine) : CallR X (.builtin "sorted") (rSortX X.K X.prog X.w) := by
  intro ps s σ H xs us Q J r h
  obtain ⟨a, L, ds, rfl, ha, hk, hdp, c1, c2, c3, q⟩ := h
  obtain ⟨u, rfl, ru⟩ := vals1 r
  cases ru
  obtain ⟨hl, hd, us2, rel, dd⟩ := dx_of J ha hk
  obtain ⟨o0, es, ep, y1, y2, y3, y4, y5, y6⟩ := id dd
  have l1 : es.size = us2.length := by
    have := congrArg List.length y4
    rw [List.length_map, Array.length_toList] at this
    exact this
  have l2 : L.length = us2.length := rel.length
  refine sortRaw_run hc hu J ⟨o0, y1, y2, y3⟩ hd (by rw [List.length_map]; omega) (by omega) (fun i hi => ?_) hdp c1 c2 c3 q
  have hi1 : i < L.length := by omega
  have hi2 : i < us2.length := by omega
  refine ⟨.ref (L[i]).2.1, by rw [List.getElem?_map, List.getElem?_eq_getElem hi1]; rfl, ?_⟩
  have e1 : es.toList[i]? = some (entryOfKey (encKind X.prog X.w) us2[i]) := by rw [y4, List.getElem?_map, List.getElem?_eq_getElem hi2]; rfl
  rw [Array.getElem?_toList, Array.getElem?_eq_getElem hi] at e1
  have e2 := Option.some.inj e1
  rw [e2]
  have e3 := (paired_get rel i _ _ (List.getElem?_eq_getElem hi1) (List.getElem?_eq_getElem hi2)).2.1
  show (Value.ref us2[i].2.1) = Value.ref L[i].2.1
  rw [e3]
theorem ints_p (st : S) (n : Nat) : ∀ is : List Int, optAll (toP st (n + 1)) (is.map D.int) = some (is.map PyData.int)
  | [] => rfl
  | i :: is => by
    rw [List.map_cons, optAll, ints_p st n is]
    have : toP st (n + 1) (.int i) = some (.int i) := by simp [toP, scalP]
    rw [this]
    rfl
theorem ints_dp {K : PySem.W.Frag} {H : Hp} : ∀ is : List Int, DpAll K H (is.map V.int) (is.map PyData.int)
  | [] => .nil
  | i :: is => .cons (.int i) (ints_dp is)
theorem repL_is {K : PySem.W.Frag} {φ : List Addr} {H : Hp} : ∀ {is : List Int} {ws : List V}, RepL K φ H (is.map D.int) ws → ws = is.map V.int
  | [], _, .nil => rfl
  | i :: is, _, .cons r t => by
    cases r
    rw [repL_is t]
    rfl
theorem keys_dp {K : PySem.W.Frag} {φ : List Addr} {H : Hp} {st : S} : ∀ {kvs : List (List Key × D)} {ys : List D} {vs : List V} {ds : List PyData}, keysD kvs = some ys → RepL K φ H ys vs → optAll (toP st 64) ys = some ds → DpAll K H vs ds
  | [], _, _, ds, e, r, d => by
    cases e
    cases r
    cases d
    exact .nil
  | (k, x) :: kvs, ys, vs, ds, e, r, d => by
    rw [keysD] at e
    obtain ⟨is, e1, e⟩ := Option.bind_eq_some_iff.mp e
    obtain ⟨zs, e2, rfl⟩ := Option.map_eq_some_iff.mp e
    cases r with
    | cons r1 r2 =>
      unfold optAll at d
      have tp : toP st 64 (.tup (is.map .int)) = some (.tuple (is.map .int)) := by
        rw [toP, ints_p st 62]
        rfl
      rw [tp] at d
      cases ed : optAll (toP st 64) zs with
      | none => rw [ed] at d; cases d
      | some ds' =>
        rw [ed] at d
        cases d
        cases r1 with
        | tup s1 rl => exact .cons (.tup s1 (by rw [repL_is rl]; exact ints_dp is)) (keys_dp e2 r2 ed)
noncomputable def dSortX : D → S → Res D
  | .loc i, st => (match st[i]? with
    | some (.dx kvs) => (match keysD kvs with
      | some ys => (match sortP st ys with
        | some zs => .ok (.loc st.length) (st ++ [.lst zs])
        | none => .stuck)
      | none => .stuck)
    | some (.fx kvs) => (match keysD kvs with
      | some ys => (match sortP st ys with
        | some zs => .ok (.loc st.length) (st ++ [.lst zs])
        | none => .stuck)
      | none => .stuck)
    | _ => .stuck)
  | _, _ => .stuck
section
variable {X : Cx} {cm : CM} {W : WX} {e : Expr} {m : DE} {p pos : Pos}
theorem rE_sortX (hc : X.calm = true) (hu : X.A.units + 100 < cLine) (hP : cm.T.P = X.prog) (hw : cm.T.w = X.w) (hm : X.mg "sorted" = none) (he : PE X e (tE X.K cm W m)) (hg : Gl X "sorted" := by rfl)
    (he1 : starEach [e] X.env = (false, eval e X.env) :: starEach [] X.env := by rfl) (hp1 : (backTo pos (starEach [] X.env)).any (·.1) = false := by rfl) :
    PE X (.Call (.Name "sorted" p) [e] [] pos) (tE X.K cm W (e1 dSortX m)) := by
  refine conv_E (pe_callB (call_sortX hc hu) hg hm PyProof.Rows.boot_sorted (pa_cons he pa_nil he1) (by decide) (by decide) he1 hp1) fun σ H Q h => ?_
  obtain ⟨φ, ρ, st, hd, h⟩ := h
  refine tG_bind hd h fun x st1 φ1 H1 v e1 k1 hd1 r1 h1 => ?_
  show rSortX X.K X.prog X.w [v] H1 Q
  unfold dSortX at h1
  split at h1
  · rename_i i
    cases r1 with
    | loc g =>
      rename_i a
      split at h1
      · rename_i kvs ei
        obtain ⟨L, s1, r2⟩ := hd1.s.obj _ _ _ g ei
        split at h1
        · rename_i ys el
          have rl : RepL X.K φ1 H1 ys (L.map fun x => V.ref x.2.1) := keysD_rep r2 el
          split at h1
          · rename_i zs ez
            unfold sortP at ez
            split at ez
            · rename_i ds ed
              split at ez
              · rename_i hcs
                cases ez
                refine ⟨a, L, ds, rfl, .inl (by rw [← hP, ← hw]; exact s1), r2.keys, keys_dp el rl ed, hcs.1, hcs.2.1, hcs.2.2.2, alloc_at hd1.s (sort_rep ds rl) h1⟩
              · cases ez
            · cases ez
          · exact h1.elim
        · exact h1.elim
      · rename_i kvs ei
        obtain ⟨od, L, s1, r2⟩ := hd1.s.obj _ _ _ g ei
        split at h1
        · rename_i ys el
          have rl : RepL X.K φ1 H1 ys (L.map fun x => V.ref x.2.1) := keysD_rep r2 el
          split at h1
          · rename_i zs ez
            unfold sortP at ez
            split at ez
            · rename_i ds ed
              split at ez
              · rename_i hcs
                cases ez
                refine ⟨a, L, ds, rfl, .inr ⟨od, by rw [← hP, ← hw]; exact s1⟩, r2.keys, keys_dp el rl ed, hcs.1, hcs.2.1, hcs.2.2.2, alloc_at hd1.s (sort_rep ds rl) h1⟩
              · cases ez
            · cases ez
          · exact h1.elim
        · exact h1.elim
      · exact h1.elim
  · exact h1.elim
end
end Rol

namespace Rol
open PySem L2 PySem.Spec

/-- values: lists are told by their items; a jar is told by nothing -/
inductive T where
  | non | bl (b : Bool) | int (i : Int) | str (x : Str) | tup (xs : List T) | lst (xs : List T) | src (xs : List T) | jar | opq (v : V) | dk (ks : List Key) (ts : List T) | dx (ks : List (List Key)) (ts : List T)
abbrev Env := List (Option T)
abbrev Nst := Nat → Prop

mutual
inductive Den (st : S) (J A : Nst) : D → T → Prop
  | non : Den st J A .non .non
  | bl (b : Bool) : Den st J A (.bl b) (.bl b)
  | int (i : Int) : Den st J A (.int i) (.int i)
  | str (x : Str) : Den st J A (.str x) (.str x)
  | opq (v : V) : Den st J A (.opq v) (.opq v)
  | tup {xs : List D} {ts : List T} : DenL st J A xs ts → Den st J A (.tup xs) (.tup ts)
  | lst {k : Nat} {xs : List D} {ts : List T} : ¬ A k → ¬ J k → st[k]? = some (.lst xs) → DenL st J A xs ts → Den st J A (.loc k) (.lst ts)
  | src {k : Nat} {xs : List D} {ts : List T} : ¬ A k → ¬ J k → st[k]? = some (.src xs) → DenL st J A xs ts → Den st J A (.loc k) (.src ts)
  | jar {k : Nat} : J k → Den st J A (.loc k) .jar
  | dk {k : Nat} {kvs : List (Key × D)} {ts : List T} : ¬ A k → ¬ J k → st[k]? = some (.dk kvs) → DenL st J A (kvs.map (·.2)) ts → Den st J A (.loc k) (.dk (kvs.map (·.1)) ts)
  | dx {k : Nat} {kvs : List (List Key × D)} {ts : List T} : ¬ A k → ¬ J k → st[k]? = some (.dx kvs) → DenL st J A (kvs.map (·.2)) ts → Den st J A (.loc k) (.dx (kvs.map (·.1)) ts)
  | fx {k : Nat} {kvs : List (List Key × D)} {ts : List T} : ¬ A k → ¬ J k → st[k]? = some (.fx kvs) → DenL st J A (kvs.map (·.2)) ts → Den st J A (.loc k) (.dx (kvs.map (·.1)) ts)
inductive DenL (st : S) (J A : Nst) : List D → List T → Prop
  | nil : DenL st J A [] []
  | cons {x : D} {xs : List D} {t : T} {ts : List T} : Den st J A x t → DenL st J A xs ts → DenL st J A (x :: xs) (t :: ts)
end

/-- what an object of the store is as a value -/
inductive DenO (st : S) (J A : Nst) : O → T → Prop
  | lst {xs : List D} {ts : List T} : DenL st J A xs ts → DenO st J A (.lst xs) (.lst ts)
  | dk {kvs : List (Key × D)} {ts : List T} : DenL st J A (kvs.map (·.2)) ts → DenO st J A (.dk kvs) (.dk (kvs.map (·.1)) ts)
  | dx {kvs : List (List Key × D)} {ts : List T} : DenL st J A (kvs.map (·.2)) ts → DenO st J A (.dx kvs) (.dx (kvs.map (·.1)) ts)
theorem DenO.den {st : S} {J A : Nst} {k : Nat} {o : O} {t : T} (h : DenO st J A o t) (h1 : ¬ A k) (h2 : ¬ J k) (h3 : st[k]? = some o) : Den st J A (.loc k) t := by
  cases h with
  | lst h => exact .lst h1 h2 h3 h
  | dk h => exact .dk h1 h2 h3 h
  | dx h => exact .dx h1 h2 h3 h

/-- a store that went on: what lies there is as it was, but for jars and for what O lets -/
structure Fr (st : S) (J : Nst) (st' : S) (J' O : Nst) : Prop where
  le : st.length ≤ st'.length
  jb : ∀ k, J k → k < st.length
  j : ∀ k, k < st.length → (J' k ↔ J k)
  g : ∀ k, k < st.length → ¬ J k → ¬ O k → st'[k]? = st[k]?
  a : ∀ k, J' k → Jar k st'
theorem Jar.lt' {k : Nat} {st : S} (h : Jar k st) : k < st.length := by
  obtain ⟨a, b, _, e⟩ := h
  exact (List.getElem?_eq_some_iff.mp e).1
theorem Fr.refl {st : S} {J O : Nst} (h : ∀ k, J k → Jar k st) : Fr st J st J O :=
  ⟨Nat.le_refl _, fun k q => (h k q).lt', fun _ _ => Iff.rfl, fun _ _ _ _ => rfl, h⟩
theorem Fr.trans {st s1 s2 : S} {J J1 J2 O1 O2 O : Nst} (f : Fr st J s1 J1 O1) (g : Fr s1 J1 s2 J2 O2) (h1 : ∀ k, k < st.length → O1 k → O k) (h2 : ∀ k, k < st.length → O2 k → O k) : Fr st J s2 J2 O where
  le := Nat.le_trans f.le g.le
  jb := f.jb
  j := fun k hk => (g.j k (Nat.lt_of_lt_of_le hk f.le)).trans (f.j k hk)
  g := fun k hk hj ho => (g.g k (Nat.lt_of_lt_of_le hk f.le) (fun z => hj ((f.j k hk).mp z)) (fun z => ho (h2 k hk z))).trans (f.g k hk hj (fun z => ho (h1 k hk z)))
  a := g.a
theorem Fr.weak {st s1 : S} {J J1 O O' : Nst} (f : Fr st J s1 J1 O) (h : ∀ k, k < st.length → O k → O' k) : Fr st J s1 J1 O' :=
  ⟨f.le, f.jb, f.j, fun k hk hj ho => f.g k hk hj (fun z => ho (h k hk z)), f.a⟩
/-- something new behind -/
theorem jar_app {k : Nat} {st : S} (h : Jar k st) (o : O) : Jar k (st ++ [o]) := by
  have hl := h.lt'
  obtain ⟨a, b, h0, e⟩ := h
  exact ⟨a, b, h0, by rw [List.getElem?_append_left hl]; exact e⟩
theorem Fr.app {st : S} {J P : Nst} (h : ∀ k, J k → Jar k st) (o : Rol.O) : Fr st J (st ++ [o]) J P :=
  ⟨by simp, fun k q => (h k q).lt', fun _ _ => Iff.rfl, fun k hk _ _ => List.getElem?_append_left hk, fun k q => jar_app (h k q) o⟩

section
variable {st st' : S} {J J' A A' O : Nst}
mutual
theorem Den.mono (f : Fr st J st' J' O) (hO : ∀ k, k < st.length → O k → A k) (hA : ∀ k, k < st.length → A' k → A k) : ∀ {d : D} {t : T}, Den st J A d t → Den st' J' A' d t
  | _, _, .non => .non
  | _, _, .bl b => .bl b
  | _, _, .int i => .int i
  | _, _, .str x => .str x
  | _, _, .opq v => .opq v
  | _, _, .tup h => .tup (DenL.mono f hO hA h)
  | _, _, .lst (k := k) h1 h2 h3 h4 =>
    have hk : k < st.length := (List.getElem?_eq_some_iff.mp h3).1
    .lst (fun z => h1 (hA k hk z)) (fun z => h2 ((f.j k hk).mp z)) ((f.g k hk h2 (fun z => h1 (hO k hk z))).trans h3) (DenL.mono f hO hA h4)
  | _, _, .src (k := k) h1 h2 h3 h4 =>
    have hk : k < st.length := (List.getElem?_eq_some_iff.mp h3).1
    .src (fun z => h1 (hA k hk z)) (fun z => h2 ((f.j k hk).mp z)) ((f.g k hk h2 (fun z => h1 (hO k hk z))).trans h3) (DenL.mono f hO hA h4)
  | _, _, .jar (k := k) h => .jar ((f.j k (f.jb k h)).mpr h)
  | _, _, .dk (k := k) h1 h2 h3 h4 =>
    have hk : k < st.length := (List.getElem?_eq_some_iff.mp h3).1
    .dk (fun z => h1 (hA k hk z)) (fun z => h2 ((f.j k hk).mp z)) ((f.g k hk h2 (fun z => h1 (hO k hk z))).trans h3) (DenL.mono f hO hA h4)
  | _, _, .dx (k := k) h1 h2 h3 h4 =>
    have hk : k < st.length := (List.getElem?_eq_some_iff.mp h3).1
    .dx (fun z => h1 (hA k hk z)) (fun z => h2 ((f.j k hk).mp z)) ((f.g k hk h2 (fun z => h1 (hO k hk z))).trans h3) (DenL.mono f hO hA h4)
  | _, _, .fx (k := k) h1 h2 h3 h4 =>
    have hk : k < st.length := (List.getElem?_eq_some_iff.mp h3).1
    .fx (fun z => h1 (hA k hk z)) (fun z => h2 ((f.j k hk).mp z)) ((f.g k hk h2 (fun z => h1 (hO k hk z))).trans h3) (DenL.mono f hO hA h4)
theorem DenL.mono (f : Fr st J st' J' O) (hO : ∀ k, k < st.length → O k → A k) (hA : ∀ k, k < st.length → A' k → A k) : ∀ {xs : List D} {ts : List T}, DenL st J A xs ts → DenL st' J' A' xs ts
  | _, _, .nil => .nil
  | _, _, .cons h1 h2 => .cons (Den.mono f hO hA h1) (DenL.mono f hO hA h2)
end
theorem DenO.mapL {o : Rol.O} {t : T} (h : DenO st J A o t) (g : ∀ xs ts, DenL st J A xs ts → DenL st' J' A' xs ts) : DenO st' J' A' o t := by
  cases h with
  | lst h => exact .lst (g _ _ h)
  | dk h => exact .dk (g _ _ h)
  | dx h => exact .dx (g _ _ h)
theorem DenO.mono (f : Fr st J st' J' O) (hO : ∀ k, k < st.length → O k → A k) (hA : ∀ k, k < st.length → A' k → A k) {o : Rol.O} {t : T} (h : DenO st J A o t) : DenO st' J' A' o t := h.mapL fun _ _ d => d.mono f hO hA
theorem DenL.length : ∀ {xs : List D} {ts : List T}, DenL st J A xs ts → xs.length = ts.length
  | _, _, .nil => rfl
  | _, _, .cons _ t => by rw [List.length_cons, List.length_cons, DenL.length t]
theorem DenL.get : ∀ {xs : List D} {ts : List T} {i : Nat} {t : T}, DenL st J A xs ts → ts[i]? = some t → ∃ x, xs[i]? = some x ∧ Den st J A x t
  | _, _, _, _, .nil, e => by simp at e
  | _, _, 0, _, .cons r _, e => by simp at e; subst e; exact ⟨_, rfl, r⟩
  | _, _, i + 1, x, .cons _ h, e => by
    obtain ⟨u, h1, h2⟩ := DenL.get (i := i) (t := x) h (by simpa using e)
    exact ⟨u, by simpa using h1, h2⟩
theorem DenL.set {x : D} {t : T} (r : Den st J A x t) : ∀ {xs : List D} {ts : List T} (i : Nat), DenL st J A xs ts → DenL st J A (xs.set i x) (ts.set i t)
  | _, _, _, .nil => .nil
  | _, _, 0, .cons _ h => .cons r h
  | _, _, i + 1, .cons q h => .cons q (DenL.set r i h)
theorem DenL.append : ∀ {xs ys : List D} {ts us : List T}, DenL st J A xs ts → DenL st J A ys us → DenL st J A (xs ++ ys) (ts ++ us)
  | _, _, _, _, .nil, s => s
  | _, _, _, _, .cons r h, s => .cons r (DenL.append h s)
theorem DenL.take : ∀ {xs : List D} {ts : List T} (n : Nat), DenL st J A xs ts → DenL st J A (xs.take n) (ts.take n)
  | _, _, 0, _ => .nil
  | _, _, _ + 1, .nil => .nil
  | _, _, n + 1, .cons r h => .cons r (DenL.take n h)
theorem DenL.drop : ∀ {xs : List D} {ts : List T} (n : Nat), DenL st J A xs ts → DenL st J A (xs.drop n) (ts.drop n)
  | _, _, 0, r => r
  | _, _, _ + 1, .nil => .nil
  | _, _, n + 1, .cons _ h => DenL.drop n h
theorem DenL.erase : ∀ {xs : List D} {ts : List T} (i : Nat), DenL st J A xs ts → DenL st J A (xs.eraseIdx i) (ts.eraseIdx i)
  | _, _, _, .nil => .nil
  | _, _, 0, .cons _ h => h
  | _, _, i + 1, .cons q h => .cons q (DenL.erase i h)
theorem DenL.rep {xs : List D} {ts : List T} (h : DenL st J A xs ts) : ∀ k : Nat, DenL st J A (List.replicate k xs).flatten (List.replicate k ts).flatten
  | 0 => .nil
  | k + 1 => by
    rw [List.replicate_succ, List.replicate_succ, List.flatten_cons, List.flatten_cons]
    exact h.append (DenL.rep h k)
theorem DenL.isEmpty {xs : List D} {ts : List T} (h : DenL st J A xs ts) : xs.isEmpty = ts.isEmpty := by cases h <;> rfl
end

mutual
def T.flat : T → Bool
  | .non => true
  | .bl _ => true
  | .int _ => true
  | .str _ => true
  | .tup xs => T.flatL xs
  | .lst _ => false
  | .src _ => false
  | .jar => false
  | .opq _ => true
  | .dk _ _ => false
  | .dx _ _ => false
def T.flatL : List T → Bool
  | [] => true
  | x :: xs => x.flat && T.flatL xs
end
section
variable {st st' : S} {J J' A A' : Nst}
mutual
theorem Den.flat : ∀ {d : D} {t : T}, t.flat = true → Den st J A d t → Den st' J' A' d t
  | _, _, _, .non => .non
  | _, _, _, .bl b => .bl b
  | _, _, _, .int i => .int i
  | _, _, _, .str x => .str x
  | _, _, _, .opq v => .opq v
  | _, _, e, .tup h => .tup (DenL.flat e h)
  | _, _, e, .lst _ _ _ _ => by simp [T.flat] at e
  | _, _, e, .src _ _ _ _ => by simp [T.flat] at e
  | _, _, e, .jar _ => by simp [T.flat] at e
  | _, _, e, .dk _ _ _ _ => by simp [T.flat] at e
  | _, _, e, .dx _ _ _ _ => by simp [T.flat] at e
  | _, _, e, .fx _ _ _ _ => by simp [T.flat] at e
theorem DenL.flat : ∀ {xs : List D} {ts : List T}, T.flatL ts = true → DenL st J A xs ts → DenL st' J' A' xs ts
  | _, _, _, .nil => .nil
  | _, _, e, .cons h1 h2 => by
    rw [T.flatL, Bool.and_eq_true] at e
    exact .cons (Den.flat e.1 h1) (DenL.flat e.2 h2)
end
end

structure Bs where
  st : S
  J : Nst
  C : Nst
  n0 : Nat
  fs : Bool
def Lv (E : Env) (i : Nat) : Prop := ∃ t, E[i]? = some (some t)
def Own (MS : List Nat) (E : Env) (ρ : Nv) (k : Nat) : Prop := ∃ x, x ∈ MS ∧ Lv E x ∧ ρ[x]? = some (some (.loc k))
/-- what a value keeps away from: in clean places (c) also from what is owned -/
def Bd (C : Nst) (MS : List Nat) (E : Env) (ρ : Nv) (c : Bool) (k : Nat) : Prop := C k ∨ (c = true ∧ Own MS E ρ k)
structure Rl (b : Bs) (MS : List Nat) (E : Env) (ρ : Nv) (st : S) (J : Nst) : Prop where
  fr : Fr b.st b.J st J (fun _ => False)
  nl : b.n0 ≤ st.length
  len : E.length = ρ.length
  cl : ∀ k, b.C k → k < st.length
  co : ∀ k, Own MS E ρ k → ¬ b.C k
  n : ∀ i t, i ∉ MS → E[i]? = some (some t) → ∃ d, ρ[i]? = some (some d) ∧ Den st J (Bd b.C MS E ρ true) d t
  m : ∀ i t, i ∈ MS → E[i]? = some (some t) → ∃ k o, ρ[i]? = some (some (.loc k)) ∧ b.st.length ≤ k ∧ ¬ J k ∧ st[k]? = some o ∧ DenO st J (Bd b.C MS E ρ true) o t
  d : ∀ x y k, x ∈ MS → y ∈ MS → Lv E x → Lv E y → ρ[x]? = some (some (.loc k)) → ρ[y]? = some (some (.loc k)) → x = y
def Al (E E' : Env) : Prop := ∀ i, Lv E' i ↔ Lv E i
theorem Al.refl (E : Env) : Al E E := fun _ => Iff.rfl
theorem Al.trans {a b c : Env} (h : Al a b) (g : Al b c) : Al a c := fun i => (g i).trans (h i)
theorem Al.own {E E' : Env} (h : Al E E') (MS : List Nat) (ρ : Nv) : Own MS E' ρ = Own MS E ρ := by
  funext k
  apply propext
  constructor
  · rintro ⟨x, h1, h2, h3⟩
    exact ⟨x, h1, (h x).mp h2, h3⟩
  · rintro ⟨x, h1, h2, h3⟩
    exact ⟨x, h1, (h x).mpr h2, h3⟩
section
variable {b : Bs} {MS : List Nat} {E : Env} {ρ : Nv} {st : S} {J : Nst}
theorem Rl.own_ge (h : Rl b MS E ρ st J) {k : Nat} (o : Own MS E ρ k) : b.st.length ≤ k := by
  obtain ⟨x, h1, ⟨t, h2⟩, h3⟩ := o
  obtain ⟨k', o, e, hk, _⟩ := h.m x t h1 h2
  rw [h3] at e
  cases e
  exact hk
theorem Rl.own_lt (h : Rl b MS E ρ st J) {k : Nat} (o : Own MS E ρ k) : k < st.length := by
  obtain ⟨x, h1, ⟨t, h2⟩, h3⟩ := o
  obtain ⟨k', o, e, _, _, hk, _⟩ := h.m x t h1 h2
  rw [h3] at e
  cases e
  exact (List.getElem?_eq_some_iff.mp hk).1
theorem Rl.own_j (h : Rl b MS E ρ st J) {k : Nat} (o : Own MS E ρ k) : ¬ J k := by
  obtain ⟨x, h1, ⟨t, h2⟩, h3⟩ := o
  obtain ⟨k', o, e, _, hk, _⟩ := h.m x t h1 h2
  rw [h3] at e
  cases e
  exact hk
theorem Rl.mL (h : Rl b MS E ρ st J) {i : Nat} {ts : List T} (h1 : i ∈ MS) (h2 : E[i]? = some (some (.lst ts))) : ∃ k xs, ρ[i]? = some (some (.loc k)) ∧ b.st.length ≤ k ∧ ¬ J k ∧ st[k]? = some (.lst xs) ∧ DenL st J (Bd b.C MS E ρ true) xs ts := by
  obtain ⟨k, o, e1, e2, e3, e4, e5⟩ := h.m i _ h1 h2
  cases e5 with
  | lst d => exact ⟨k, _, e1, e2, e3, e4, d⟩
theorem Rl.jar (hr : Rl b MS E ρ st J) : ∀ k, J k → Jar k st := hr.fr.a
theorem Rl.bd_lt (hr : Rl b MS E ρ st J) {c : Bool} {k : Nat} (h : Bd b.C MS E ρ c k) : k < st.length := by
  rcases h with h | ⟨_, h⟩
  · exact hr.cl k h
  · exact hr.own_lt h
theorem Bd.sub {C : Nst} {c : Bool} {k : Nat} (h : Bd C MS E ρ c k) : Bd C MS E ρ true k := by
  rcases h with h | ⟨_, h⟩
  · exact .inl h
  · exact .inr ⟨rfl, h⟩
/-- the state as the store goes on, nothing that is owned being changed -/
theorem Rl.next {st' : S} {J' : Nst} (hr : Rl b MS E ρ st J) (f : Fr st J st' J' (fun _ => False)) : Rl b MS E ρ st' J' := by
  have hm : ∀ k, k < st.length → (fun _ => False) k → Bd b.C MS E ρ true k := fun _ _ z => z.elim
  refine ⟨hr.fr.trans f (fun _ _ z => z) (fun _ _ z => z), Nat.le_trans hr.nl f.le, hr.len, fun k q => Nat.lt_of_lt_of_le (hr.cl k q) f.le, hr.co, fun i t h1 h2 => ?_, fun i t h1 h2 => ?_, hr.d⟩
  · obtain ⟨d, e1, e2⟩ := hr.n i t h1 h2
    exact ⟨d, e1, e2.mono f hm (fun _ _ z => z)⟩
  · obtain ⟨k, o, e1, e2, e3, e4, e5⟩ := hr.m i t h1 h2
    have hk : k < st.length := (List.getElem?_eq_some_iff.mp e4).1
    exact ⟨k, o, e1, e2, fun z => e3 ((f.j k hk).mp z), (f.g k hk e3 (fun z => z)).trans e4, e5.mono f hm (fun _ _ z => z)⟩
/-- the state keeps away from more, if this lies behind it -/
theorem Rl.more {n0 : Nat} {C' : Nst} (hr : Rl b MS E ρ st J) (hn : n0 ≤ st.length) (hc : ∀ k, b.C k → C' k) (h1 : ∀ k, C' k → k < st.length) (h2 : ∀ k, C' k → b.C k ∨ ¬ Own MS E ρ k) (s : S) (J0 : Nst) (f : Fr s J0 st J (fun _ => False))
    (hs : ∀ k, Own MS E ρ k → s.length ≤ k) (hd : ∀ d t, Den st J (Bd b.C MS E ρ true) d t → Den st J (Bd C' MS E ρ true) d t) (hdl : ∀ d t, DenL st J (Bd b.C MS E ρ true) d t → DenL st J (Bd C' MS E ρ true) d t) : Rl ⟨s, J0, C', n0, b.fs⟩ MS E ρ st J := by
  refine ⟨f, hn, hr.len, h1, fun k o z => ?_, fun i t h1 h2 => ?_, fun i t h1 h2 => ?_, hr.d⟩
  · rcases h2 k z with z | z
    · exact hr.co k o z
    · exact z o
  · obtain ⟨d, e1, e2⟩ := hr.n i t h1 h2
    exact ⟨d, e1, hd _ _ e2⟩
  · obtain ⟨k, o, e1, e2, e3, e4, e5⟩ := hr.m i t h1 h2
    exact ⟨k, o, e1, hs k ⟨i, ‹_›, ⟨t, h2⟩, e1⟩, e3, e4, e5.mapL hdl⟩
end

abbrev Xp := Str → T → Prop
abbrev VG (β : Type) := Env → (β → Env → Prop) → Xp → Prop
abbrev VE := VG T
abbrev RR (α β : Type) := Bs → S → Nst → Nst → α → β → Prop
def GRes {α β : Type} (R : RR α β) (b : Bs) (MS : List Nat) (u c : Bool) (E : Env) (ρ : Nv) (st : S) (J : Nst) (Q : β → Env → Prop) (X : Xp) : Res α → Prop
  | .ok a st' => ∃ J' E' t, Rl b MS E' ρ st' J' ∧ Al E E' ∧ Fr st J st' J' (fun k => u = true ∧ Own MS E ρ k) ∧ (u = false → E' = E) ∧ R b st' J' (Bd b.C MS E ρ c) a t ∧ Q t E'
  | .exc n w st' => ∃ J' t, Fr st J st' J' (fun k => u = true ∧ Own MS E ρ k) ∧ Den st' J' b.C w t ∧ X n t
  | .stuck => False
/-- u: what is owned may be changed; c: the value keeps away from what is owned -/
structure GSim {α β : Type} (R : RR α β) (MS : List Nat) (u c : Bool) (m : Nv → S → Res α) (v : VG β) : Prop where
  run : ∀ (b : Bs) (E : Env) (ρ : Nv) (st : S) (J : Nst) (Q : β → Env → Prop) (X : Xp), Rl b MS E ρ st J → v E Q X → GRes R b MS u c E ρ st J Q X (m ρ st)
instance {α β : Type} {R : RR α β} {MS : List Nat} {u c : Bool} {m : Nv → S → Res α} {v : VG β} : CoeFun (GSim R MS u c m v) fun _ => ∀ (b : Bs) (E : Env) (ρ : Nv) (st : S) (J : Nst) (Q : β → Env → Prop) (X : Xp), Rl b MS E ρ st J → v E Q X → GRes R b MS u c E ρ st J Q X (m ρ st) := ⟨GSim.run⟩
def RD : RR D T := fun _ st J A d t => Den st J A d t
def RLs : RR (List D) (List T) := fun _ st J A d t => DenL st J A d t
def RBo : RR Bool Bool := fun _ _ _ _ a b => a = b
def ROI : RR (Option Int) (Option Int) := fun _ _ _ _ a b => a = b
/-- a list of its own, which nothing else knows -/
def RF : RR D T := fun b st J A d t => ∃ k o, d = .loc k ∧ b.n0 ≤ k ∧ ¬ A k ∧ ¬ J k ∧ st[k]? = some o ∧ DenO st J (fun j => A j ∨ j = k) o t
abbrev ESim := GSim RD
abbrev ASim := GSim RLs
abbrev TSim := GSim RBo
abbrev OSim := GSim ROI
abbrev FSim := GSim RF

section
variable {α β γ δ : Type} {R1 : RR α β} {R2 : RR γ δ} {b : Bs} {MS : List Nat} {u c : Bool} {E : Env} {ρ : Nv} {st : S} {J : Nst} {X : Xp} {Q1 : β → Env → Prop} {Q2 : δ → Env → Prop}
theorem GRes.bind {r : Res α} {k : α → S → Res γ} (h : GRes R1 b MS u c E ρ st J Q1 X r)
    (hk : ∀ a st1 J1 E1 t, Rl b MS E1 ρ st1 J1 → (u = false → E1 = E) → Fr st J st1 J1 (fun k => u = true ∧ Own MS E ρ k) → Own MS E1 ρ = Own MS E ρ → R1 b st1 J1 (Bd b.C MS E1 ρ c) a t → Q1 t E1 → GRes R2 b MS u c E1 ρ st1 J1 Q2 X (k a st1)) : GRes R2 b MS u c E ρ st J Q2 X (r.bind k) := by
  cases r with
  | ok a st1 =>
    obtain ⟨J1, E1, t, h1, h2, h3, h4, h5, h6⟩ := h
    have ho := h2.own MS ρ
    have e : Bd b.C MS E1 ρ c = Bd b.C MS E ρ c := by unfold Bd; rw [ho]
    have g := hk a st1 J1 E1 t h1 h4 h3 ho (by rw [e]; exact h5) h6
    show GRes R2 b MS u c E ρ st J Q2 X (k a st1)
    cases hr : k a st1 with
    | ok a2 st2 =>
      rw [hr] at g
      obtain ⟨J2, E2, t2, g1, g2, g3, g4, g5, g6⟩ := g
      rw [ho] at g3
      rw [e] at g5
      exact ⟨J2, E2, t2, g1, h2.trans g2, h3.trans g3 (fun _ _ z => z) (fun _ _ z => z), fun z => (g4 z).trans (h4 z), g5, g6⟩
    | exc n w st2 =>
      rw [hr] at g
      obtain ⟨J2, t2, g1, g2, g3⟩ := g
      rw [ho] at g1
      exact ⟨J2, t2, h3.trans g1 (fun _ _ z => z) (fun _ _ z => z), g2, g3⟩
    | stuck => rw [hr] at g; exact g
  | exc n w st1 => exact h
  | stuck => exact h
/-- a result at once -/
theorem GRes.ok {a : α} {t : β} {st' : S} {J' : Nst} (hr : Rl b MS E ρ st J) (f : Fr st J st' J' (fun _ => False)) (h : R1 b st' J' (Bd b.C MS E ρ c) a t) (q : Q1 t E) : GRes R1 b MS u c E ρ st J Q1 X (.ok a st') :=
  ⟨J', E, t, hr.next f, Al.refl E, f.weak (fun _ _ z => z.elim), fun _ => rfl, h, q⟩
theorem GRes.here {a : α} {t : β} (hr : Rl b MS E ρ st J) (h : R1 b st J (Bd b.C MS E ρ c) a t) (q : Q1 t E) : GRes R1 b MS u c E ρ st J Q1 X (.ok a st) := GRes.ok hr (Fr.refl hr.jar) h q
/-- later, what was told ahead is still so -/
theorem Fr.den {st1 : S} {J1 : Nst} {E1 : Env} (f : Fr st J st1 J1 (fun k => u = true ∧ Own MS E ρ k)) (hu : (!u || c) = true) (ho : Own MS E1 ρ = Own MS E ρ) {C : Nst} {d : D} {t : T} (h : Den st J (Bd C MS E ρ c) d t) : Den st1 J1 (Bd C MS E1 ρ c) d t := by
  have e : Bd C MS E1 ρ c = Bd C MS E ρ c := by unfold Bd; rw [ho]
  rw [e]
  exact h.mono f (fun k _ z => .inr ⟨by cases u <;> simp_all, z.2⟩) (fun _ _ z => z)
theorem Fr.denL {st1 : S} {J1 : Nst} {E1 : Env} (f : Fr st J st1 J1 (fun k => u = true ∧ Own MS E ρ k)) (hu : (!u || c) = true) (ho : Own MS E1 ρ = Own MS E ρ) {C : Nst} {d : List D} {t : List T} (h : DenL st J (Bd C MS E ρ c) d t) : DenL st1 J1 (Bd C MS E1 ρ c) d t := by
  have e : Bd C MS E1 ρ c = Bd C MS E ρ c := by unfold Bd; rw [ho]
  rw [e]
  exact h.mono f (fun k _ z => .inr ⟨by cases u <;> simp_all, z.2⟩) (fun _ _ z => z)
end
end Rol

namespace Rol
open PySem L2 PySem.Spec
open PyProof.Rows hiding St

def Ok {α : Type} (o : Option α) (Q : α → Prop) : Prop := match o with
  | some a => Q a
  | none => False
@[simp] theorem Ok_some {α : Type} (a : α) (Q : α → Prop) : Ok (some a) Q = Q a := rfl
@[simp] theorem Ok_none {α : Type} (Q : α → Prop) : Ok none Q = False := rfl
theorem Ok_iff {α : Type} {o : Option α} {Q : α → Prop} : Ok o Q ↔ ∃ a, o = some a ∧ Q a := by
  cases o <;> simp [Ok]

abbrev VA := VG (List T)
abbrev VT := VG Bool
def vVar (i : Nat) : VE := fun E Q _ => match E[i]? with
  | some (some t) => Q t E
  | _ => False
def vC (t : T) : VE := fun E Q _ => Q t E
def vaNil : VA := fun E Q _ => Q [] E
def vaCons (m : VE) (l : VA) : VA := fun E Q X => m E (fun x E => l E (fun xs E => Q (x :: xs) E) X) X
def vTup (l : VA) : VE := fun E Q X => l E (fun xs E => xs.length ≤ sizeLine ∧ Q (.tup xs) E) X
def vLst (l : VA) : VE := fun E Q X => l E (fun xs E => xs.length ≤ sizeLine ∧ Q (.lst xs) E) X
def v2 (f : T → T → Option T) (a b : VE) : VE := fun E Q X => a E (fun x E => b E (fun y E => Ok (f x y) fun r => Q r E) X) X
def v1 (f : T → Option T) (a : VE) : VE := fun E Q X => a E (fun x E => Ok (f x) fun r => Q r E) X
def vCall (f : List T → Option T) (l : VA) : VE := fun E Q X => l E (fun xs E => Ok (f xs) fun r => Q r E) X
abbrev PF := List T → (T → Prop) → Xp → Prop
def vFn (p : PF) (l : VA) : VE := fun E Q X => l E (fun xs E => p xs (fun t => Q t E) X) X
def vFnK (p : PF) (perm : List Nat) (l : VA) : VE := fun E Q X => l E (fun xs E => p (permL perm xs) (fun t => Q t E) X) X
/-- a value in which no list is -/
def vFl (m : VE) : VE := fun E Q X => m E (fun t E => t.flat = true ∧ Q t E) X
def tB (x : T) : Option Bool := match x with
  | .bl b => some b
  | _ => none
def vtOf (m : VE) : VT := fun E Q X => m E (fun x E => Ok (tB x) fun b => Q b E) X
def vtNot (m : VT) : VT := fun E Q X => m E (fun b E => Q (!b) E) X
def vtAnd (m n : VT) : VT := fun E Q X => m E (fun b E => if b = true then n E Q X else Q false E) X
def vtOr (m n : VT) : VT := fun E Q X => m E (fun b E => if b = true then Q true E else n E Q X) X
def vtYes : VT := fun E Q _ => Q true E
def vAnd (m n : VE) : VE := fun E Q X => m E (fun x E => Ok (tB x) fun b => if b = true then n E Q X else Q (.bl false) E) X
def vOr (m n : VE) : VE := fun E Q X => m E (fun x E => Ok (tB x) fun b => if b = true then Q (.bl true) E else n E Q X) X
def vNot (m : VE) : VE := fun E Q X => m E (fun x E => Ok (tB x) fun b => Q (.bl (!b)) E) X
def vIf (k : VT) (m n : VE) : VE := fun E Q X => k E (fun b E => if b = true then m E Q X else n E Q X) X
def vChain (f g : T → T → Option T) (a b k : VE) : VE := fun E Q X => a E (fun x E => b E (fun y E => Ok (f x y) fun z => Ok (tB z) fun q => if q = true then k E (fun w E => Ok (g y w) fun r => Q r E) X else Q (.bl false) E) X) X
abbrev VO := VG (Option Int)
def voNone : VO := fun E Q _ => Q none E
def tI? (x : T) : Option Int := match x with
  | .int i => some i
  | _ => none
def voSome (m : VE) : VO := fun E Q X => m E (fun x E => Ok (tI? x) fun i => Q (some i) E) X
def vSl (f : T → Option Int → Option Int → Option T) (m : VE) (lo hi : VO) : VE := fun E Q X => m E (fun x E => lo E (fun a E => hi E (fun b E => Ok (f x a b) fun r => Q r E) X) X) X

/-- what an operation by values says of one by a store -/
abbrev Off : Nst := fun _ => False
def OpS (f : D → D → S → Res D) (g : T → T → Option T) : Prop :=
  ∀ (st : S) (J A : Nst) (x y : D) (tx ty t : T), (∀ k, J k → Jar k st) → (∀ k, A k → k < st.length) → Den st J A x tx → Den st J A y ty → g tx ty = some t → ∃ d st', f x y st = .ok d st' ∧ Fr st J st' J Off ∧ Den st' J A d t
def UnS (f : D → S → Res D) (g : T → Option T) : Prop :=
  ∀ (st : S) (J A : Nst) (x : D) (tx t : T), (∀ k, J k → Jar k st) → (∀ k, A k → k < st.length) → Den st J A x tx → g tx = some t → ∃ d st', f x st = .ok d st' ∧ Fr st J st' J Off ∧ Den st' J A d t
def CallS (f : List D → S → Res D) (g : List T → Option T) : Prop :=
  ∀ (st : S) (J A : Nst) (xs : List D) (ts : List T) (t : T), (∀ k, J k → Jar k st) → (∀ k, A k → k < st.length) → DenL st J A xs ts → g ts = some t → ∃ d st', f xs st = .ok d st' ∧ Fr st J st' J Off ∧ Den st' J A d t
def SlS (f : D → Option Int → Option Int → S → Res D) (g : T → Option Int → Option Int → Option T) : Prop :=
  ∀ (st : S) (J A : Nst) (x : D) (tx t : T) (lo hi : Option Int), (∀ k, J k → Jar k st) → (∀ k, A k → k < st.length) → Den st J A x tx → g tx lo hi = some t → ∃ d st', f x lo hi st = .ok d st' ∧ Fr st J st' J Off ∧ Den st' J A d t

section
variable {MS : List Nat} {u c : Bool} {ma mb m n : DE} {va vb v w : VE} {ml : DA} {vl : VA} {mt nt : DT} {vt wt : VT} {lo hi : DO} {vlo vhi : VO}
theorem s_var (i : Nat) (h : (!c || !(MS.contains i)) = true := by rfl) : ESim MS u c (eVar i) (vVar i) := by
  constructor
  intro b E ρ st J Q X hr hv
  unfold vVar at hv
  split at hv
  · rename_i t he
    by_cases hi : i ∈ MS
    · have hc : c = false := by
        have : MS.contains i = true := List.contains_iff_mem.mpr hi
        rw [this] at h
        cases c <;> simp_all
      subst hc
      obtain ⟨k, o, e1, e2, e3, e4, e5⟩ := hr.m i t hi he
      unfold eVar
      rw [e1]
      refine GRes.here hr ((e5.mono (Fr.refl hr.jar (O := Off)) (fun _ _ z => z.elim) (fun k _ z => z.sub)).den (fun z => ?_) e3 e4) hv
      rcases z with z | ⟨z, _⟩
      · exact hr.co k ⟨i, hi, ⟨_, he⟩, e1⟩ z
      · cases z
    · obtain ⟨d, e1, e2⟩ := hr.n i t hi he
      unfold eVar
      rw [e1]
      exact GRes.here hr (e2.mono (Fr.refl hr.jar (O := Off)) (fun _ _ z => z.elim) (fun k _ z => z.sub)) hv
  · exact hv.elim
mutual
inductive Cst : D → T → Prop
  | non : Cst .non .non
  | bl (b : Bool) : Cst (.bl b) (.bl b)
  | int (i : Int) : Cst (.int i) (.int i)
  | str (x : Str) : Cst (.str x) (.str x)
  | opq (v : V) : Cst (.opq v) (.opq v)
  | tup {xs : List D} {ts : List T} : CstL xs ts → Cst (.tup xs) (.tup ts)
inductive CstL : List D → List T → Prop
  | nil : CstL [] []
  | cons {x : D} {xs : List D} {t : T} {ts : List T} : Cst x t → CstL xs ts → CstL (x :: xs) (t :: ts)
end
mutual
theorem Cst.den {st : S} {J A : Nst} : ∀ {d : D} {t : T}, Cst d t → Den st J A d t
  | _, _, .non => .non
  | _, _, .bl b => .bl b
  | _, _, .int i => .int i
  | _, _, .str x => .str x
  | _, _, .opq v => .opq v
  | _, _, .tup h => .tup (CstL.den h)
theorem CstL.den {st : S} {J A : Nst} : ∀ {d : List D} {t : List T}, CstL d t → DenL st J A d t
  | _, _, .nil => .nil
  | _, _, .cons h g => .cons (Cst.den h) (CstL.den g)
end
theorem s_c {d : D} {t : T} (h : Cst d t) : ESim MS u c (eC d) (vC t) := GSim.mk fun b E ρ st J Q X hr hv => GRes.here hr h.den hv
theorem s_nil : ASim MS u c aNil vaNil := GSim.mk fun b E ρ st J Q X hr hv => GRes.here hr .nil hv
theorem s_cons (h1 : ESim MS u c m v) (h2 : ASim MS u c ml vl) (hu : (!u || c) = true := by rfl) : ASim MS u c (aCons m ml) (vaCons v vl) := by
  constructor
  intro b E ρ st J Q X hr hv
  refine GRes.bind (h1 b E ρ st J _ X hr hv) fun x st1 J1 E1 t r1 _ f1 o1 d1 q1 => ?_
  refine GRes.bind (h2 b E1 ρ st1 J1 _ X r1 q1) fun xs st2 J2 E2 ts r2 _ f2 o2 d2 q2 => ?_
  exact GRes.here r2 (.cons (f2.den hu o2 d1) d2) q2
theorem s_tup (h : ASim MS u c ml vl) : ESim MS u c (eTup ml) (vTup vl) := by
  constructor
  intro b E ρ st J Q X hr hv
  refine GRes.bind (h b E ρ st J _ X hr hv) fun xs st1 J1 E1 ts r1 _ f1 o1 d1 q1 => ?_
  rw [← d1.length] at q1
  rw [if_pos q1.1]
  exact GRes.here r1 (.tup d1) q1.2
theorem jar_ne {st : S} {J : Nst} (h : ∀ k, J k → Jar k st) : ¬ J st.length := fun z => Nat.lt_irrefl _ (h _ z).lt'
/-- a new list -/
theorem den_new {st : S} {J A : Nst} {xs : List D} {ts : List T} (hj : ∀ k, J k → Jar k st) (ha : ∀ k, A k → k < st.length) (d : DenL st J A xs ts) : Den (st ++ [.lst xs]) J A (.loc st.length) (.lst ts) :=
  .lst (fun z => Nat.lt_irrefl _ (ha _ z)) (jar_ne hj) (by simp) (d.mono (Fr.app hj _ (P := Off)) (fun _ _ z => z.elim) (fun _ _ z => z))
theorem rf_new {b : Bs} {st : S} {J A : Nst} {xs : List D} {ts : List T} (hn : b.n0 ≤ st.length) (hj : ∀ k, J k → Jar k st) (ha : ∀ k, A k → k < st.length) (d : DenL st J A xs ts) : RF b (st ++ [.lst xs]) J A (.loc st.length) (.lst ts) :=
  ⟨_, _, rfl, hn, fun z => Nat.lt_irrefl _ (ha _ z), jar_ne hj, by simp, (DenO.lst d).mono (Fr.app hj _ (P := Off)) (fun _ _ z => z.elim) (fun k hk z => by
    rcases z with z | z
    · exact z
    · omega)⟩
theorem rf_newO {b : Bs} {st : S} {J A : Nst} {o : O} {t : T} (hn : b.n0 ≤ st.length) (hj : ∀ k, J k → Jar k st) (ha : ∀ k, A k → k < st.length) (d : DenO st J A o t) : RF b (st ++ [o]) J A (.loc st.length) t :=
  ⟨_, _, rfl, hn, fun z => Nat.lt_irrefl _ (ha _ z), jar_ne hj, by simp, d.mono (Fr.app hj _ (P := Off)) (fun _ _ z => z.elim) (fun k hk z => by
    rcases z with z | z
    · exact z
    · omega)⟩
theorem rf_den {b : Bs} {st : S} {J A : Nst} (hj : ∀ k, J k → Jar k st) {d : D} {t : T} (h : RF b st J A d t) : Den st J A d t := by
  obtain ⟨k, o, rfl, _, h1, h2, h3, h4⟩ := h
  exact (h4.mono (Fr.refl hj (O := Off)) (fun _ _ z => z.elim) (fun _ _ z => .inl z)).den h1 h2 h3
theorem s_lst (h : ASim MS u c ml vl) : FSim MS u c (eLst ml) (vLst vl) := by
  constructor
  intro b E ρ st J Q X hr hv
  refine GRes.bind (h b E ρ st J _ X hr hv) fun xs st1 J1 E1 ts r1 _ f1 o1 d1 q1 => ?_
  rw [← d1.length] at q1
  rw [if_pos q1.1]
  exact GRes.ok r1 (Fr.app r1.jar _) (rf_new r1.nl r1.jar (fun k z => r1.bd_lt z) d1) q1.2
theorem s_f (h : FSim MS u c m v) : ESim MS u c m v := by
  constructor
  intro b E ρ st J Q X hr hv
  have g := h b E ρ st J Q X hr hv
  cases e : m ρ st with
  | ok a st' =>
    rw [e] at g
    obtain ⟨J', E', t, h1, h2, h3, h4, h5, h6⟩ := g
    exact ⟨J', E', t, h1, h2, h3, h4, rf_den h1.jar h5, h6⟩
  | exc n w st' => rw [e] at g; exact g
  | stuck => rw [e] at g; exact g
theorem s_2 {f : D → D → S → Res D} {g : T → T → Option T} (ho : OpS f g) (h1 : ESim MS u c ma va) (h2 : ESim MS u c mb vb) (hu : (!u || c) = true := by rfl) : ESim MS u c (e2 f ma mb) (v2 g va vb) := by
  constructor
  intro b E ρ st J Q X hr hv
  refine GRes.bind (h1 b E ρ st J _ X hr hv) fun x st1 J1 E1 t r1 _ f1 o1 d1 q1 => ?_
  refine GRes.bind (h2 b E1 ρ st1 J1 _ X r1 q1) fun y st2 J2 E2 t2 r2 _ f2 o2 d2 q2 => ?_
  obtain ⟨r, e, q⟩ := Ok_iff.mp q2
  obtain ⟨d, st', e', f', d'⟩ := ho st2 J2 _ x y t t2 r r2.jar (fun k z => r2.bd_lt z) (f2.den hu o2 d1) d2 e
  rw [e']
  exact GRes.ok r2 f' d' q
theorem s_1 {f : D → S → Res D} {g : T → Option T} (ho : UnS f g) (h1 : ESim MS u c ma va) : ESim MS u c (e1 f ma) (v1 g va) := by
  constructor
  intro b E ρ st J Q X hr hv
  refine GRes.bind (h1 b E ρ st J _ X hr hv) fun x st1 J1 E1 t r1 _ f1 o1 d1 q1 => ?_
  obtain ⟨r, e, q⟩ := Ok_iff.mp q1
  obtain ⟨d, st', e', f', d'⟩ := ho st1 J1 _ x t r r1.jar (fun k z => r1.bd_lt z) d1 e
  rw [e']
  exact GRes.ok r1 f' d' q
theorem s_call {f : List D → S → Res D} {g : List T → Option T} (ho : CallS f g) (h1 : ASim MS u c ml vl) : ESim MS u c (eCall f ml) (vCall g vl) := by
  constructor
  intro b E ρ st J Q X hr hv
  refine GRes.bind (h1 b E ρ st J _ X hr hv) fun x st1 J1 E1 t r1 _ f1 o1 d1 q1 => ?_
  obtain ⟨r, e, q⟩ := Ok_iff.mp q1
  obtain ⟨d, st', e', f', d'⟩ := ho st1 J1 _ x t r r1.jar (fun k z => r1.bd_lt z) d1 e
  rw [e']
  exact GRes.ok r1 f' d' q
theorem s_sl {f : D → Option Int → Option Int → S → Res D} {g : T → Option Int → Option Int → Option T} (ho : SlS f g) (h1 : ESim MS u c m v) (h2 : OSim MS u c lo vlo) (h3 : OSim MS u c hi vhi) (hu : (!u || c) = true := by rfl) (he : eSl m lo hi = fun ρ st => (m ρ st).bind fun x st => (lo ρ st).bind fun a st => (hi ρ st).bind fun b st => f x a b st := by rfl) : ESim MS u c (eSl m lo hi) (vSl g v vlo vhi) := by
  rw [he]
  constructor
  intro b E ρ st J Q X hr hv
  refine GRes.bind (h1 b E ρ st J _ X hr hv) fun x st1 J1 E1 t r1 _ f1 o1 d1 q1 => ?_
  refine GRes.bind (h2 b E1 ρ st1 J1 _ X r1 q1) fun y st2 J2 E2 t2 r2 _ f2 o2 d2 q2 => ?_
  refine GRes.bind (h3 b E2 ρ st2 J2 _ X r2 q2) fun z st3 J3 E3 t3 r3 _ f3 o3 d3 q3 => ?_
  cases d2
  cases d3
  obtain ⟨r, e, q⟩ := Ok_iff.mp q3
  obtain ⟨d, st', e', f', d'⟩ := ho st3 J3 _ x t r y z r3.jar (fun k z => r3.bd_lt z) (f3.den hu o3 (f2.den hu o2 d1)) e
  rw [e']
  exact GRes.ok r3 f' d' q
theorem s_on : OSim MS u c oNone voNone := GSim.mk fun b E ρ st J Q X hr hv => GRes.here hr rfl hv
theorem s_os (h1 : ESim MS u c m v) : OSim MS u c (oSome m) (voSome v) := by
  constructor
  intro b E ρ st J Q X hr hv
  refine GRes.bind (h1 b E ρ st J _ X hr hv) fun x st1 J1 E1 t r1 _ f1 o1 d1 q1 => ?_
  obtain ⟨r, e, q⟩ := Ok_iff.mp q1
  cases d1 <;> simp [tI?] at e
  subst e
  exact GRes.here r1 rfl q
theorem asB_of {b : Bs} {E : Env} {ρ : Nv} {st : S} {J A : Nst} {d : D} {t : T} {r : Bool} (h : Den st J A d t) (e : tB t = some r) : asB d st = .ok r st := by
  cases h <;> simp [tB] at e
  subst e
  rfl
theorem s_tof (h1 : ESim MS u c m v) : TSim MS u c (tOf m) (vtOf v) := by
  constructor
  intro b E ρ st J Q X hr hv
  refine GRes.bind (h1 b E ρ st J _ X hr hv) fun x st1 J1 E1 t r1 _ f1 o1 d1 q1 => ?_
  obtain ⟨r, e, q⟩ := Ok_iff.mp q1
  rw [asB_of (b := b) (E := E) (ρ := ρ) d1 e]
  exact GRes.here r1 rfl q
theorem s_tnot (h1 : TSim MS u c mt vt) : TSim MS u c (tNotD mt) (vtNot vt) := by
  constructor
  intro b E ρ st J Q X hr hv
  refine GRes.bind (h1 b E ρ st J _ X hr hv) fun x st1 J1 E1 t r1 _ f1 o1 d1 q1 => ?_
  cases d1
  exact GRes.here r1 rfl q1
theorem s_tand (h1 : TSim MS u c mt vt) (h2 : TSim MS u c nt wt) : TSim MS u c (tAndD mt nt) (vtAnd vt wt) := by
  constructor
  intro b E ρ st J Q X hr hv
  refine GRes.bind (h1 b E ρ st J _ X hr hv) fun x st1 J1 E1 t r1 _ f1 o1 d1 q1 => ?_
  cases d1
  cases x with
  | true => exact h2 b E1 ρ st1 J1 Q X r1 q1
  | false => exact GRes.here r1 rfl q1
theorem s_tor (h1 : TSim MS u c mt vt) (h2 : TSim MS u c nt wt) : TSim MS u c (tOrD mt nt) (vtOr vt wt) := by
  constructor
  intro b E ρ st J Q X hr hv
  refine GRes.bind (h1 b E ρ st J _ X hr hv) fun x st1 J1 E1 t r1 _ f1 o1 d1 q1 => ?_
  cases d1
  cases x with
  | true => exact GRes.here r1 rfl q1
  | false => exact h2 b E1 ρ st1 J1 Q X r1 q1
theorem s_tyes : TSim MS u c tYesD vtYes := GSim.mk fun b E ρ st J Q X hr hv => GRes.here hr rfl hv
theorem s_and (h1 : ESim MS u c m v) (h2 : ESim MS u c n w) : ESim MS u c (eAnd m n) (vAnd v w) := by
  constructor
  intro b E ρ st J Q X hr hv
  refine GRes.bind (h1 b E ρ st J _ X hr hv) fun x st1 J1 E1 t r1 _ f1 o1 d1 q1 => ?_
  obtain ⟨r, e, q⟩ := Ok_iff.mp q1
  rw [asB_of (b := b) (E := E) (ρ := ρ) d1 e]
  cases r with
  | true => exact h2 b E1 ρ st1 J1 Q X r1 q
  | false => exact GRes.here r1 (.bl _) q
theorem s_not (h1 : ESim MS u c m v) : ESim MS u c (eNot m) (vNot v) := by
  constructor
  intro b E ρ st J Q X hr hv
  refine GRes.bind (h1 b E ρ st J _ X hr hv) fun x st1 J1 E1 t r1 _ f1 o1 d1 q1 => ?_
  obtain ⟨r, e, q⟩ := Ok_iff.mp q1
  rw [asB_of (b := b) (E := E) (ρ := ρ) d1 e]
  exact GRes.here r1 (.bl _) q
theorem s_if (h0 : TSim MS u c mt vt) (h1 : ESim MS u c m v) (h2 : ESim MS u c n w) : ESim MS u c (eIf mt m n) (vIf vt v w) := by
  constructor
  intro b E ρ st J Q X hr hv
  refine GRes.bind (h0 b E ρ st J _ X hr hv) fun x st1 J1 E1 t r1 _ f1 o1 d1 q1 => ?_
  cases d1
  cases x with
  | true => exact h1 b E1 ρ st1 J1 Q X r1 q1
  | false => exact h2 b E1 ρ st1 J1 Q X r1 q1
theorem s_chain {f g : D → D → S → Res D} {f' g' : T → T → Option T} (ho : OpS f f') (hp : OpS g g') (h1 : ESim MS u c ma va) (h2 : ESim MS u c mb vb) (h3 : ESim MS u c m v) (hu : (!u || c) = true := by rfl) : ESim MS u c (eChain f g ma mb m) (vChain f' g' va vb v) := by
  constructor
  intro b E ρ st J Q X hr hv
  refine GRes.bind (h1 b E ρ st J _ X hr hv) fun x st1 J1 E1 t r1 _ f1 o1 d1 q1 => ?_
  refine GRes.bind (h2 b E1 ρ st1 J1 _ X r1 q1) fun y st2 J2 E2 t2 r2 _ f2 o2 d2 q2 => ?_
  obtain ⟨r, e, q⟩ := Ok_iff.mp q2
  obtain ⟨d, st3, e', g', d'⟩ := ho st2 J2 _ x y t t2 r r2.jar (fun k z => r2.bd_lt z) (f2.den hu o2 d1) d2 e
  rw [e']
  obtain ⟨r', e3, q3⟩ := Ok_iff.mp q
  refine GRes.bind (R1 := RBo) (Q1 := fun s E' => E' = E2 ∧ s = r') (r := (Res.ok d st3).bind asB) (GRes.bind (R1 := RD) (GRes.ok r2 g' d' (Q1 := fun s E' => E' = E2 ∧ s = r) (a := d) ⟨rfl, rfl⟩) fun x4 st4 J4 E4 t4 r4 _ f4 o4 d4 q4 => ?_) fun b5 st5 J5 E5 t5 r5 _ f5 o5 d5 q5 => ?_
  · obtain ⟨rfl, rfl⟩ := q4
    rw [asB_of (b := b) (E := E) (ρ := ρ) d4 e3]
    exact GRes.here r4 rfl ⟨rfl, rfl⟩
  · obtain ⟨rfl, rfl⟩ := q5
    cases d5
    cases b5 with
    | true =>
      refine GRes.bind (h3 b E5 ρ st5 J5 _ X r5 q3) fun z st6 J6 E6 t6 r6 _ f6 o6 d6 q6 => ?_
      obtain ⟨r7, e7, q7⟩ := Ok_iff.mp q6
      obtain ⟨d8, st8, e8, g8, d8⟩ := hp st6 J6 _ y z t2 t6 r7 r6.jar (fun k z => r6.bd_lt z) (f6.den hu o6 (f5.den hu o5 d2)) d6 e7
      rw [e8]
      exact GRes.ok r6 g8 d8 q7
    | false => exact GRes.here r5 (.bl _) q3
/-- a value without lists is clean -/
theorem s_fl (h : ESim MS false false m v) : ESim MS u c m (vFl v) := by
  constructor
  intro b E ρ st J Q X hr hv
  have g := h b E ρ st J _ X hr hv
  cases e : m ρ st with
  | ok a st' =>
    rw [e] at g
    obtain ⟨J', E', t, h1, h2, h3, h4, h5, h6, h7⟩ := g
    exact ⟨J', E', t, h1, h2, h3.weak (fun _ _ z => by cases z.1), fun _ => h4 rfl, Den.flat h6 h5, h7⟩
  | exc n w st' =>
    rw [e] at g
    obtain ⟨J', t, h1, h2, h3⟩ := g
    exact ⟨J', t, h1.weak (fun _ _ z => by cases z.1), h2, h3⟩
  | stuck => rw [e] at g; exact g
end

/-- what a function by values says of one by a store -/
structure FnS (fs : Bool) (f : Fn) (p : PF) : Prop where
  run : ∀ (st : S) (J C : Nst) (n0 : Nat) (xs : List D) (ts : List T) (Q : T → Prop) (X : Xp), (∀ k, J k → Jar k st) → (∀ k, C k → k < st.length) → n0 ≤ st.length → DenL st J C xs ts → p ts Q X →
    match f xs st with
    | .ok d st' => ∃ J' t, Fr st J st' J' Off ∧ Den st' J' C d t ∧ (fs = true → RF ⟨st, J, C, n0, fs⟩ st' J' C d t) ∧ Q t
    | .exc n w st' => ∃ J' t, Fr st J st' J' Off ∧ Den st' J' C w t ∧ X n t
    | .stuck => False
section
variable {MS : List Nat} {u c : Bool} {m n : DE} {v w : VE} {ml : DA} {vl : VA}
theorem fn_res {fs : Bool} {f : Fn} {p : PF} (h : FnS fs f p) {b : Bs} {E : Env} {ρ : Nv} {st : S} {J : Nst} {xs : List D} {ts : List T} {Q : T → Env → Prop} {X : Xp} (hr : Rl b MS E ρ st J) (d : DenL st J (Bd b.C MS E ρ c) xs ts) (q : p ts (fun t => Q t E) X) : GRes RD b MS u c E ρ st J Q X (f xs st) := by
  have g := h.run st J _ b.n0 xs ts _ X hr.jar (fun k z => hr.bd_lt z) hr.nl d q
  cases e : f xs st with
  | ok a st' =>
    rw [e] at g
    obtain ⟨J', t, h1, h2, _, h3⟩ := g
    exact GRes.ok hr h1 h2 h3
  | exc n w st' =>
    rw [e] at g
    obtain ⟨J', t, h1, h2, h3⟩ := g
    exact ⟨J', t, h1.weak (fun _ _ z => z.elim), h2.mono (Fr.refl h1.a (O := Off)) (fun _ _ z => z.elim) (fun _ _ z => .inl z), h3⟩
  | stuck => rw [e] at g; exact g
theorem fn_resF {f : Fn} {p : PF} (h : FnS true f p) {b : Bs} {E : Env} {ρ : Nv} {st : S} {J : Nst} {xs : List D} {ts : List T} {Q : T → Env → Prop} {X : Xp} (hr : Rl b MS E ρ st J) (d : DenL st J (Bd b.C MS E ρ c) xs ts) (q : p ts (fun t => Q t E) X) : GRes RF b MS u c E ρ st J Q X (f xs st) := by
  have g := h.run st J _ b.n0 xs ts _ X hr.jar (fun k z => hr.bd_lt z) hr.nl d q
  cases e : f xs st with
  | ok a st' =>
    rw [e] at g
    obtain ⟨J', t, h1, h2, h4, h3⟩ := g
    exact GRes.ok hr h1 (h4 rfl) h3
  | exc n w st' =>
    rw [e] at g
    obtain ⟨J', t, h1, h2, h3⟩ := g
    exact ⟨J', t, h1.weak (fun _ _ z => z.elim), h2.mono (Fr.refl h1.a (O := Off)) (fun _ _ z => z.elim) (fun _ _ z => .inl z), h3⟩
  | stuck => rw [e] at g; exact g
theorem s_fn {fs : Bool} {f : Fn} {p : PF} (h : FnS fs f p) (h1 : ASim MS u c ml vl) : ESim MS u c (eFn f ml) (vFn p vl) := GSim.mk fun b E ρ st J Q X hr hv =>
  GRes.bind (h1 b E ρ st J _ X hr hv) fun xs st1 J1 E1 t r1 _ f1 o1 d1 q1 => fn_res h r1 d1 q1
theorem s_fnF {f : Fn} {p : PF} (h : FnS true f p) (h1 : ASim MS u c ml vl) : FSim MS u c (eFn f ml) (vFn p vl) := GSim.mk fun b E ρ st J Q X hr hv =>
  GRes.bind (h1 b E ρ st J _ X hr hv) fun xs st1 J1 E1 t r1 _ f1 o1 d1 q1 => fn_resF h r1 d1 q1
theorem denL_perm {st : S} {J A : Nst} {xs : List D} {ts : List T} (d : DenL st J A xs ts) : ∀ perm : List Nat, DenL st J A (permL perm xs) (permL perm ts)
  | [] => .nil
  | i :: is => by
    have g := denL_perm d is
    unfold permL at g ⊢
    rw [List.filterMap_cons, List.filterMap_cons]
    cases h : ts[i]? with
    | none =>
      have : xs[i]? = none := by
        rw [List.getElem?_eq_none_iff] at h ⊢
        rw [d.length]
        exact h
      rw [this]
      exact g
    | some t =>
      obtain ⟨x, e, r⟩ := d.get h
      rw [e]
      exact .cons r g
theorem s_fnK {fs : Bool} {f : Fn} {p : PF} {perm : List Nat} (h : FnS fs f p) (h1 : ASim MS u c ml vl) : ESim MS u c (eFnK0 f perm ml) (vFnK p perm vl) := GSim.mk fun b E ρ st J Q X hr hv =>
  GRes.bind (h1 b E ρ st J _ X hr hv) fun xs st1 J1 E1 t r1 _ f1 o1 d1 q1 => fn_res h r1 (denL_perm d1 perm) q1
end
end Rol

namespace Rol
open PySem L2 PySem.Spec
open PyProof.Rows hiding St

structure Ke where
  nx : Env → Prop
  rt : T → Prop
  bk : Env → Prop
  ct : Env → Prop
  ex : Xp
abbrev VS := Env → Ke → Prop
/-- behind a statement -/
def Nx (b : Bs) (MS : List Nat) (E : Env) (ρ : Nv) (st : S) (J : Nst) (Q : Env → Prop) (ρ' : Nv) (st' : S) : Prop :=
  ∃ J' E', Rl b MS E' ρ' st' J' ∧ Fr st J st' J' (Own MS E ρ) ∧ (∀ k, k < st.length → Own MS E' ρ' k → Own MS E ρ k) ∧ Q E'
def SRes (b : Bs) (MS : List Nat) (E : Env) (ρ : Nv) (st : S) (J : Nst) (K : Ke) : Out → Prop
  | .nx ρ' st' => Nx b MS E ρ st J K.nx ρ' st'
  | .bk ρ' st' => Nx b MS E ρ st J K.bk ρ' st'
  | .ct ρ' st' => Nx b MS E ρ st J K.ct ρ' st'
  | .rt d st' => ∃ J' t, Fr st J st' J' (Own MS E ρ) ∧ Den st' J' b.C d t ∧ (b.fs = true → RF ⟨b.st, b.J, b.C, b.st.length, b.fs⟩ st' J' b.C d t) ∧ K.rt t
  | .exc n w ρ' st' => ∃ J' t, Fr st J st' J' (Own MS E ρ) ∧ Den st' J' b.C w t ∧ K.ex n t
  | .stuck => False
structure SSim (fs : Bool) (MS : List Nat) (m : DS) (v : VS) : Prop where
  run : ∀ (b : Bs) (E : Env) (ρ : Nv) (st : S) (J : Nst) (K : Ke), b.fs = fs → Rl b MS E ρ st J → v E K → SRes b MS E ρ st J K (m ρ st)
instance {fs : Bool} {MS : List Nat} {m : DS} {v : VS} : CoeFun (SSim fs MS m v) fun _ => ∀ (b : Bs) (E : Env) (ρ : Nv) (st : S) (J : Nst) (K : Ke), b.fs = fs → Rl b MS E ρ st J → v E K → SRes b MS E ρ st J K (m ρ st) := ⟨SSim.run⟩

def wSkip : VS := fun E K => K.nx E
def wSeq (v w : VS) : VS := fun E K => v E { K with nx := fun E => w E K }
def wExpr (v : VE) : VS := fun E K => v E (fun _ E => K.nx E) K.ex
def wRet (v : VE) : VS := fun E K => v E (fun t _ => K.rt t) K.ex
def wRetN : VS := fun _ K => K.rt .non
def wIf (k : VT) (v w : VS) : VS := fun E K => k E (fun b E => if b = true then v E K else w E K) K.ex
def wBk : VS := fun E K => K.bk E
def wCt : VS := fun E K => K.ct E
def wRaise (c : Str) (v : VE) : VS := fun E K => v E (fun t _ => K.ex c t) K.ex
def wSet (i : Nat) (v : VE) : VS := fun E K => v E (fun t E => K.nx (E.set i (some t))) K.ex
mutual
def setT : Pat → T → Env → Option Env
  | .nm i, t, E => some (E.set i (some t))
  | .tp ps, .tup xs, E => setTs ps xs E
  | .tp _, _, _ => none
def setTs : List Pat → List T → Env → Option Env
  | [], [], E => some E
  | p :: ps, x :: xs, E => (setT p x E).bind (setTs ps xs)
  | _, _, _ => none
end
def wAsg (p : Pat) (v : VE) : VS := fun E K => v E (fun t E => Ok (setT p t E) K.nx) K.ex
def wAug (i : Nat) (f : T → T → Option T) (v : VE) : VS := fun E K => match E[i]? with
  | some (some x) => v E (fun y E => Ok (f x y) fun z => K.nx (E.set i (some z))) K.ex
  | _ => False
/-- a list goes from one name to another -/
def wMove (y x : Nat) : VS := fun E K => match E[x]? with
  | some (some t) => K.nx ((E.set x none).set y (some t))
  | _ => False
def setMany (is : List Nat) (ts : List T) (E : Env) : Env := (is.zip ts).foldl (fun E p => E.set p.1 (some p.2)) E
def wPar (is : List Nat) (l : VA) : VS := fun E K => l E (fun ts E => ts.length = is.length ∧ K.nx (setMany is ts E)) K.ex

section
variable {b : Bs} {MS : List Nat} {E E' : Env} {ρ ρ' : Nv} {st st' : S} {J J' : Nst} {fs : Bool} {K : Ke}
/-- results of a statement, one behind another -/
theorem SRes.step {K : Ke} {o : Out} {st1 : S} {J1 : Nst} {E1 : Env} {ρ1 : Nv} (f : Fr st J st1 J1 (Own MS E ρ)) (ho : ∀ k, k < st.length → Own MS E1 ρ1 k → Own MS E ρ k) (h : SRes b MS E1 ρ1 st1 J1 K o) : SRes b MS E ρ st J K o := by
  have hn : ∀ {Q : Env → Prop} {ρ2 : Nv} {st2 : S}, Nx b MS E1 ρ1 st1 J1 Q ρ2 st2 → Nx b MS E ρ st J Q ρ2 st2 := by
    rintro Q ρ2 st2 ⟨J2, E2, h1, h2, h3, h4⟩
    exact ⟨J2, E2, h1, f.trans h2 (fun _ _ z => z) (fun k hk z => ho k hk z), fun k hk z => ho k hk (h3 k (Nat.lt_of_lt_of_le hk f.le) z), h4⟩
  cases o with
  | nx ρ2 st2 => exact hn h
  | bk ρ2 st2 => exact hn h
  | ct ρ2 st2 => exact hn h
  | rt d st2 =>
    obtain ⟨J2, t, h1, h2, h3, h4⟩ := h
    exact ⟨J2, t, f.trans h1 (fun _ _ z => z) (fun k hk z => ho k hk z), h2, h3, h4⟩
  | exc n w ρ2 st2 =>
    obtain ⟨J2, t, h1, h2, h3⟩ := h
    exact ⟨J2, t, f.trans h1 (fun _ _ z => z) (fun k hk z => ho k hk z), h2, h3⟩
  | stuck => exact h
/-- a result of an expression, used by a statement -/
theorem GRes.out {α β : Type} {R : RR α β} {u c : Bool} {r : Res α} {k : α → S → Out} {Q : β → Env → Prop} (h : GRes R b MS u c E ρ st J Q K.ex r)
    (hk : ∀ a st1 J1 E1 t, Rl b MS E1 ρ st1 J1 → Fr st J st1 J1 (Own MS E ρ) → Own MS E1 ρ = Own MS E ρ → R b st1 J1 (Bd b.C MS E1 ρ c) a t → Q t E1 → SRes b MS E1 ρ st1 J1 K (k a st1)) : SRes b MS E ρ st J K (r.out ρ k) := by
  cases r with
  | ok a st1 =>
    obtain ⟨J1, E1, t, h1, h2, h3, h4, h5, h6⟩ := h
    have ho := h2.own MS ρ
    have f : Fr st J st1 J1 (Own MS E ρ) := h3.weak fun _ _ z => z.2
    refine SRes.step (E1 := E1) (ρ1 := ρ) f (fun k _ z => by rw [← ho]; exact z) (hk a st1 J1 E1 t h1 f ho ?_ h6)
    have e : Bd b.C MS E1 ρ c = Bd b.C MS E ρ c := by unfold Bd; rw [ho]
    rw [e]
    exact h5
  | exc n w st1 =>
    obtain ⟨J1, t, h1, h2, h3⟩ := h
    exact ⟨J1, t, h1.weak fun _ _ z => z.2, h2, h3⟩
  | stuck => exact h
theorem Nx.here {Q : Env → Prop} (hr : Rl b MS E ρ st J) (q : Q E) : Nx b MS E ρ st J Q ρ st := ⟨J, E, hr, Fr.refl hr.jar, fun _ _ z => z, q⟩

theorem own_set {i : Nat} (hi : i ∉ MS) (a : Option T) (d : Option D) : Own MS (E.set i a) (ρ.set i d) = Own MS E ρ := by
  funext k
  apply propext
  constructor
  · rintro ⟨x, h1, ⟨t, h2⟩, h3⟩
    have hx : i ≠ x := fun z => hi (z ▸ h1)
    rw [List.getElem?_set_ne hx] at h2 h3
    exact ⟨x, h1, ⟨t, h2⟩, h3⟩
  · rintro ⟨x, h1, ⟨t, h2⟩, h3⟩
    have hx : i ≠ x := fun z => hi (z ▸ h1)
    exact ⟨x, h1, ⟨t, by rw [List.getElem?_set_ne hx]; exact h2⟩, by rw [List.getElem?_set_ne hx]; exact h3⟩
/-- a value is put into a slot that owns nothing -/
theorem Rl.set (hr : Rl b MS E ρ st J) {i : Nat} (hi : i ∉ MS) {d : D} {t : T} (h : Den st J (Bd b.C MS E ρ true) d t) : Rl b MS (E.set i (some t)) (ρ.set i (some d)) st J := by
  have ho := own_set (E := E) (ρ := ρ) hi (some t) (some d)
  have hb : Bd b.C MS (E.set i (some t)) (ρ.set i (some d)) true = Bd b.C MS E ρ true := by unfold Bd; rw [ho]
  refine ⟨hr.fr, hr.nl, by rw [List.length_set, List.length_set]; exact hr.len, hr.cl, fun k z => hr.co k (by rw [← ho]; exact z), fun j t' h1 h2 => ?_, fun j t' h1 h2 => ?_, fun x y k h1 h2 h3 h4 h5 h6 => ?_⟩
  · rw [hb]
    by_cases e : i = j
    · subst e
      have hl : i < E.length := by
        have := (List.getElem?_eq_some_iff.mp h2).1
        rw [List.length_set] at this
        exact this
      rw [List.getElem?_set_self hl] at h2
      cases h2
      exact ⟨d, List.getElem?_set_self (by rw [← hr.len]; exact hl), h⟩
    · rw [List.getElem?_set_ne e] at h2 ⊢
      exact hr.n j t' h1 h2
  · have e : i ≠ j := fun z => hi (z ▸ h1)
    rw [hb]
    rw [List.getElem?_set_ne e] at h2 ⊢
    exact hr.m j t' h1 h2
  · have e1 : i ≠ x := fun z => hi (z ▸ h1)
    have e2 : i ≠ y := fun z => hi (z ▸ h2)
    obtain ⟨tx, h3⟩ := h3
    obtain ⟨ty, h4⟩ := h4
    rw [List.getElem?_set_ne e1] at h3 h5
    rw [List.getElem?_set_ne e2] at h4 h6
    exact hr.d x y k h1 h2 ⟨tx, h3⟩ ⟨ty, h4⟩ h5 h6
/-- a slot is forgotten -/
theorem own_forget {i : Nat} {k : Nat} (h : Own MS (E.set i none) ρ k) : Own MS E ρ k ∧ ∃ x, x ∈ MS ∧ x ≠ i ∧ Lv E x ∧ ρ[x]? = some (some (.loc k)) := by
  obtain ⟨x, h1, ⟨t, h2⟩, h3⟩ := h
  have hx : i ≠ x := fun z => by
    subst z
    by_cases hl : i < E.length
    · rw [List.getElem?_set_self hl] at h2
      cases h2
    · rw [List.getElem?_eq_none (by rw [List.length_set]; omega)] at h2
      cases h2
  rw [List.getElem?_set_ne hx] at h2
  exact ⟨⟨x, h1, ⟨t, h2⟩, h3⟩, x, h1, Ne.symm hx, ⟨t, h2⟩, h3⟩
theorem get_forget {i j : Nat} {t : T} (h : (E.set i none)[j]? = some (some t)) : i ≠ j ∧ E[j]? = some (some t) := by
  by_cases hx : i = j
  · subst hx
    by_cases hl : i < E.length
    · rw [List.getElem?_set_self hl] at h
      cases h
    · rw [List.getElem?_eq_none (by rw [List.length_set]; omega)] at h
      cases h
  · rw [List.getElem?_set_ne hx] at h
    exact ⟨hx, h⟩
theorem Rl.forget (hr : Rl b MS E ρ st J) (i : Nat) : Rl b MS (E.set i none) ρ st J := by
  have hw : ∀ k, Bd b.C MS (E.set i none) ρ true k → Bd b.C MS E ρ true k := fun k z => by
    rcases z with z | ⟨_, z⟩
    · exact .inl z
    · exact .inr ⟨rfl, (own_forget z).1⟩
  refine ⟨hr.fr, hr.nl, by rw [List.length_set]; exact hr.len, hr.cl, fun k z => hr.co k (own_forget z).1, fun j t' h1 h2 => ?_, fun j t' h1 h2 => ?_, fun x y k h1 h2 h3 h4 h5 h6 => ?_⟩
  · obtain ⟨d, e1, e2⟩ := hr.n j t' h1 (get_forget h2).2
    exact ⟨d, e1, e2.mono (Fr.refl hr.jar (O := Off)) (fun _ _ z => z.elim) (fun k _ z => hw k z)⟩
  · obtain ⟨k, o, e1, e2, e3, e4, e5⟩ := hr.m j t' h1 (get_forget h2).2
    exact ⟨k, o, e1, e2, e3, e4, e5.mono (Fr.refl hr.jar (O := Off)) (fun _ _ z => z.elim) (fun k _ z => hw k z)⟩
  · obtain ⟨tx, h3⟩ := h3
    obtain ⟨ty, h4⟩ := h4
    exact hr.d x y k h1 h2 ⟨tx, (get_forget h3).2⟩ ⟨ty, (get_forget h4).2⟩ h5 h6
/-- a list that nothing else knows is put into a slot that owns -/
theorem Rl.own (hr : Rl b MS E ρ st J) {i : Nat} (hi : i ∈ MS) (hd : ¬ Lv E i) {k : Nat} {o : Rol.O} {t0 : T} (hk : b.st.length ≤ k) (hj : ¬ J k) (hc : ¬ b.C k) (he : st[k]? = some o) (h : DenO st J (fun j => Bd b.C MS E ρ true j ∨ j = k) o t0)
    (hn : ∀ j t, j ∉ MS → E[j]? = some (some t) → ∃ d, ρ[j]? = some (some d) ∧ Den st J (fun j => Bd b.C MS E ρ true j ∨ j = k) d t)
    (hm : ∀ j t, j ∈ MS → E[j]? = some (some t) → ∃ l o, ρ[j]? = some (some (.loc l)) ∧ l ≠ k ∧ b.st.length ≤ l ∧ ¬ J l ∧ st[l]? = some o ∧ DenO st J (fun j => Bd b.C MS E ρ true j ∨ j = k) o t) : Rl b MS (E.set i (some t0)) (ρ.set i (some (.loc k))) st J := by
  have up : ∀ x t, x ≠ i → (E.set i (some t0))[x]? = some (some t) → E[x]? = some (some t) := fun x t e h => by
    rw [List.getElem?_set_ne (Ne.symm e)] at h
    exact h
  have ow : ∀ j, Own MS (E.set i (some t0)) (ρ.set i (some (.loc k))) j → Own MS E ρ j ∨ j = k := fun j ⟨x, h1, ⟨t, h2⟩, h3⟩ => by
    by_cases e : x = i
    · subst e
      have hl : x < ρ.length := by
        have := (List.getElem?_eq_some_iff.mp h3).1
        rw [List.length_set] at this
        exact this
      rw [List.getElem?_set_self hl] at h3
      cases h3
      exact .inr rfl
    · rw [List.getElem?_set_ne (Ne.symm e)] at h3
      exact .inl ⟨x, h1, ⟨t, up x t e h2⟩, h3⟩
  have hw : ∀ j, Bd b.C MS (E.set i (some t0)) (ρ.set i (some (.loc k))) true j → Bd b.C MS E ρ true j ∨ j = k := fun j z => by
    rcases z with z | ⟨_, z⟩
    · exact .inl (.inl z)
    · rcases ow j z with z | z
      · exact .inl (.inr ⟨rfl, z⟩)
      · exact .inr z
  have sub : ∀ {d : D} {t : T}, Den st J (fun j => Bd b.C MS E ρ true j ∨ j = k) d t → Den st J (Bd b.C MS (E.set i (some t0)) (ρ.set i (some (.loc k))) true) d t := fun g => g.mono (Fr.refl hr.jar (O := Off)) (fun _ _ z => z.elim) (fun j _ z => hw j z)
  have subL : ∀ {d : Rol.O} {t : T}, DenO st J (fun j => Bd b.C MS E ρ true j ∨ j = k) d t → DenO st J (Bd b.C MS (E.set i (some t0)) (ρ.set i (some (.loc k))) true) d t := fun g => g.mono (Fr.refl hr.jar (O := Off)) (fun _ _ z => z.elim) (fun j _ z => hw j z)
  refine ⟨hr.fr, hr.nl, by rw [List.length_set, List.length_set]; exact hr.len, hr.cl, fun j z => ?_, fun j t' h1 h2 => ?_, fun j t' h1 h2 => ?_, fun x y l h1 h2 h3 h4 h5 h6 => ?_⟩
  · rcases ow j z with z | z
    · exact hr.co j z
    · subst z
      exact hc
  · have e : j ≠ i := fun z => h1 (z ▸ hi)
    obtain ⟨d, e1, e2⟩ := hn j t' h1 (up j t' e h2)
    exact ⟨d, by rw [List.getElem?_set_ne (Ne.symm e)]; exact e1, sub e2⟩
  · by_cases e : j = i
    · subst e
      have hl : j < E.length := by
        have := (List.getElem?_eq_some_iff.mp h2).1
        rw [List.length_set] at this
        exact this
      rw [List.getElem?_set_self hl] at h2
      cases h2
      exact ⟨k, o, List.getElem?_set_self (by rw [← hr.len]; exact hl), hk, hj, he, subL h⟩
    · obtain ⟨l, o2, e1, _, e2, e3, e4, e5⟩ := hm j t' h1 (up j t' e h2)
      exact ⟨l, o2, by rw [List.getElem?_set_ne (Ne.symm e)]; exact e1, e2, e3, e4, subL e5⟩
  · obtain ⟨tx, h3⟩ := h3
    obtain ⟨ty, h4⟩ := h4
    have other : ∀ z tz, z ≠ i → z ∈ MS → (E.set i (some t0))[z]? = some (some tz) → (ρ.set i (some (.loc k)))[z]? = some (some (.loc l)) → l ≠ k ∧ ρ[z]? = some (some (.loc l)) := fun z tz e hz g1 g2 => by
      obtain ⟨l', _, e1, e2, _⟩ := hm z tz hz (up z tz e g1)
      rw [List.getElem?_set_ne (Ne.symm e)] at g2
      rw [e1] at g2
      cases g2
      exact ⟨e2, e1⟩
    have self : ∀ z, z = i → (ρ.set i (some (.loc k)))[z]? = some (some (.loc l)) → l = k := fun z e g => by
      subst e
      have hl : z < ρ.length := by
        have := (List.getElem?_eq_some_iff.mp g).1
        rw [List.length_set] at this
        exact this
      rw [List.getElem?_set_self hl] at g
      cases g
      rfl
    by_cases ex : x = i
    · by_cases ey : y = i
      · rw [ex, ey]
      · exact absurd (self x ex h5) (other y ty ey h2 h4 h6).1
    · by_cases ey : y = i
      · exact absurd (self y ey h6) (other x tx ex h1 h3 h5).1
      · exact hr.d x y l h1 h2 ⟨tx, up x tx ex h3⟩ ⟨ty, up y ty ey h4⟩ (other x tx ex h1 h3 h5).2 (other y ty ey h2 h4 h6).2
theorem not_lv_forget (i : Nat) : ¬ Lv (E.set i none) i := fun ⟨t, h⟩ => (get_forget h).1 rfl
theorem set_set_none (E : Env) (i : Nat) (a : Option T) : (E.set i none).set i a = E.set i a := by
  apply List.ext_getElem?
  intro j
  by_cases e : i = j
  · subst e
    by_cases hl : i < E.length
    · rw [List.getElem?_set_self (by rw [List.length_set]; exact hl), List.getElem?_set_self hl]
    · rw [List.getElem?_eq_none (by simp; omega), List.getElem?_eq_none (by simp; omega)]
  · rw [List.getElem?_set_ne e, List.getElem?_set_ne e, List.getElem?_set_ne e]
/-- a new list, put into a slot that owns -/
theorem Rl.setF {E1 : Env} {st1 : S} {J1 : Nst} {u c : Bool} (hr : Rl b MS E1 ρ st1 J1) {i : Nat} (hi : i ∈ MS) {k : Nat} {o : Rol.O} {t0 : T} (hk : b.st.length ≤ k) (hc : ¬ b.C k) (hj : ¬ J1 k) (he : st1[k]? = some o) (ho : ¬ Own MS E1 ρ k) (h : DenO st1 J1 (fun j => Bd b.C MS E1 ρ true j ∨ j = k) o t0)
    (hn : ∀ j t, j ∉ MS → E1[j]? = some (some t) → ∃ d, ρ[j]? = some (some d) ∧ Den st1 J1 (fun j => Bd b.C MS E1 ρ true j ∨ j = k) d t)
    (hm : ∀ j t, j ∈ MS → E1[j]? = some (some t) → ∃ l o, ρ[j]? = some (some (.loc l)) ∧ b.st.length ≤ l ∧ ¬ J1 l ∧ st1[l]? = some o ∧ DenO st1 J1 (fun j => Bd b.C MS E1 ρ true j ∨ j = k) o t) : Rl b MS (E1.set i (some t0)) (ρ.set i (some (.loc k))) st1 J1 := by
  have hw : ∀ j, (Bd b.C MS (E1.set i none) ρ true j ∨ j = k) → (Bd b.C MS E1 ρ true j ∨ j = k) := fun j z => by
    rcases z with (z | ⟨_, z⟩) | z
    · exact .inl (.inl z)
    · exact .inl (.inr ⟨rfl, (own_forget z).1⟩)
    · exact .inr z
  have q := (hr.forget i).own (i := i) hi (not_lv_forget i) hk hj hc he (h.mono (Fr.refl hr.jar (O := Off)) (fun _ _ z => z.elim) (fun j _ z => hw j z)) (fun j t h1 h2 => by
      obtain ⟨d, e1, e2⟩ := hn j t h1 (get_forget h2).2
      exact ⟨d, e1, e2.mono (Fr.refl hr.jar (O := Off)) (fun _ _ z => z.elim) (fun j _ z => hw j z)⟩) (fun j t h1 h2 => by
      obtain ⟨l, o2, e1, e2, e3, e4, e5⟩ := hm j t h1 (get_forget h2).2
      exact ⟨l, o2, e1, fun z => ho ⟨j, h1, ⟨t, (get_forget h2).2⟩, z ▸ e1⟩, e2, e3, e4, e5.mono (Fr.refl hr.jar (O := Off)) (fun _ _ z => z.elim) (fun j _ z => hw j z)⟩)
  rw [set_set_none] at q
  exact q
end

section
variable {MS : List Nat} {fs : Bool} {m n : DS} {v w : VS} {u c : Bool} {me : DE} {ve : VE} {mt : DT} {vt : VT} {ml : DA} {vl : VA}
theorem z_skip : SSim fs MS sSkip wSkip := SSim.mk fun b E ρ st J K _ hr hv => Nx.here hr hv
theorem z_seq (h1 : SSim fs MS m v) (h2 : SSim fs MS n w) : SSim fs MS (sSeq m n) (wSeq v w) := by
  constructor
  intro b E ρ st J K hf hr hv
  have g := h1 b E ρ st J _ hf hr hv
  unfold sSeq
  cases e : m ρ st with
  | nx ρ1 st1 =>
    rw [e] at g
    obtain ⟨J1, E1, g1, g2, g3, g4⟩ := g
    exact SRes.step g2 g3 (h2 b E1 ρ1 st1 J1 K hf g1 g4)
  | bk ρ1 st1 => rw [e] at g; exact g
  | ct ρ1 st1 => rw [e] at g; exact g
  | rt d st1 => rw [e] at g; exact g
  | exc n w ρ1 st1 => rw [e] at g; exact g
  | stuck => rw [e] at g; exact g
theorem z_expr (h : ESim MS u c me ve) : SSim fs MS (sExpr me) (wExpr ve) := SSim.mk fun b E ρ st J K hf hr hv =>
  GRes.out (h b E ρ st J _ K.ex hr hv) fun a st1 J1 E1 t r1 _ _ _ q => Nx.here r1 q
theorem z_ret (h : ESim MS u c me ve) : SSim false MS (sRet me) (wRet ve) := SSim.mk fun b E ρ st J K hf hr hv =>
  GRes.out (h b E ρ st J _ K.ex hr hv) fun a st1 J1 E1 t r1 _ _ d1 q => ⟨J1, t, Fr.refl r1.jar, d1.mono (Fr.refl r1.jar (O := Off)) (fun _ _ z => z.elim) (fun _ _ z => .inl z), fun z => (by rw [hf] at z; cases z), q⟩
/-- what is owned is handed back -/
theorem z_retO {i : Nat} (hi : MS.contains i = true := by rfl) : SSim fs MS (sRet (eVar i)) (wRet (vVar i)) := by
  constructor
  intro b E ρ st J K hf hr hv
  have hv' : vVar i E (fun t _ => K.rt t) K.ex := hv
  unfold vVar at hv'
  split at hv'
  · rename_i t he
    have hi' : i ∈ MS := List.contains_iff_mem.mp hi
    obtain ⟨k, o, e1, e2, e3, e4, e5⟩ := hr.m i t hi' he
    have ok : Own MS E ρ k := ⟨i, hi', ⟨_, he⟩, e1⟩
    have d2 : RF ⟨b.st, b.J, b.C, b.st.length, b.fs⟩ st J b.C (.loc k) t := ⟨k, o, rfl, e2, hr.co k ok, e3, e4, e5.mono (Fr.refl hr.jar (O := Off)) (fun _ _ z => z.elim) (fun j _ z => by
      rcases z with z | z
      · exact .inl z
      · subst z
        exact .inr ⟨rfl, ok⟩)⟩
    unfold sRet eVar
    rw [e1]
    exact ⟨J, _, Fr.refl hr.jar, rf_den hr.jar d2, fun _ => d2, hv'⟩
  · exact hv'.elim
theorem z_if (h0 : TSim MS u c mt vt) (h1 : SSim fs MS m v) (h2 : SSim fs MS n w) : SSim fs MS (sIf mt m n) (wIf vt v w) := by
  constructor
  intro b E ρ st J K hf hr hv
  refine GRes.out (h0 b E ρ st J _ K.ex hr hv) fun x st1 J1 E1 t r1 _ _ d1 q1 => ?_
  cases d1
  cases x with
  | true => exact h1 b E1 ρ st1 J1 K hf r1 q1
  | false => exact h2 b E1 ρ st1 J1 K hf r1 q1
theorem z_raise {x : Str} (h : ESim MS u c me ve) : SSim fs MS (sRaise x me) (wRaise x ve) := SSim.mk fun b E ρ st J K hf hr hv =>
  GRes.out (h b E ρ st J _ K.ex hr hv) fun a st1 J1 E1 t r1 _ _ d1 q => ⟨J1, t, Fr.refl r1.jar, d1.mono (Fr.refl r1.jar (O := Off)) (fun _ _ z => z.elim) (fun _ _ z => .inl z), q⟩
theorem Nx.set {b : Bs} {E : Env} {ρ : Nv} {st : S} {J : Nst} {Q : Env → Prop} {i : Nat} (hr : Rl b MS E ρ st J) (hi : i ∉ MS) {d : D} {t : T} (h : Den st J (Bd b.C MS E ρ true) d t) (q : Q (E.set i (some t))) : Nx b MS E ρ st J Q (ρ.set i (some d)) st :=
  ⟨J, _, hr.set hi h, Fr.refl hr.jar, fun k _ z => by rw [own_set hi] at z; exact z, q⟩
theorem not_in {i : Nat} (hi : MS.contains i = false) : i ∉ MS := fun z => by
  rw [List.contains_iff_mem.mpr z] at hi
  cases hi
theorem z_set {i : Nat} (h : ESim MS u true me ve) (hi : MS.contains i = false := by rfl) : SSim fs MS (sSet i me) (wSet i ve) := SSim.mk fun b E ρ st J K hf hr hv =>
  GRes.out (h b E ρ st J _ K.ex hr hv) fun a st1 J1 E1 t r1 _ _ d1 q => Nx.set r1 (not_in hi) d1 q
theorem Rl.at {b : Bs} {E : Env} {ρ : Nv} {st : S} {J : Nst} (hr : Rl b MS E ρ st J) : Rl ⟨b.st, b.J, b.C, st.length, b.fs⟩ MS E ρ st J := ⟨hr.fr, Nat.le_refl _, hr.len, hr.cl, hr.co, hr.n, hr.m, hr.d⟩
/-- a new list, put into a slot that owns -/
theorem z_setF {i : Nat} (h : FSim MS false true me ve) (hi : MS.contains i = true := by rfl) : SSim fs MS (sSet i me) (wSet i ve) := by
  constructor
  intro b E ρ st J K hf hr hv
  have hi' : i ∈ MS := List.contains_iff_mem.mp hi
  have g := h ⟨b.st, b.J, b.C, st.length, b.fs⟩ E ρ st J _ K.ex hr.at hv
  show SRes b MS E ρ st J K ((me ρ st).out ρ _)
  cases e : me ρ st with
  | ok a st1 =>
    rw [e] at g
    obtain ⟨J1, E1, t, h1, h2, h3, h4, h5, h6⟩ := g
    have h4 := h4 rfl
    subst h4
    obtain ⟨k, o, rfl, hk, hA, hJ, hs, hd⟩ := h5
    replace hk : st.length ≤ k := hk
    have f0 : Fr st J st1 J1 Off := h3.weak fun _ _ z => by cases z.1
    have r1 : Rl b MS E1 ρ st1 J1 := hr.next f0
    have hA' : ∀ j, j < st.length → (Bd b.C MS E1 ρ true j ∨ j = k) → Bd b.C MS E1 ρ true j := fun j hj z => by
      rcases z with z | z
      · exact z
      · omega
    have hok : ¬ Own MS E1 ρ k := fun z => by
      have := hr.own_lt z
      omega
    refine ⟨J1, _, r1.setF (u := false) (c := true) hi' (Nat.le_trans hr.fr.le hk) (fun z => by have := hr.cl k z; omega) hJ hs hok hd (fun j t h1' h2' => ?_) (fun j t h1' h2' => ?_), f0.weak fun _ _ z => z.elim, fun j hj z => ?_, h6⟩
    · obtain ⟨d, e1, e2⟩ := hr.n j t h1' h2'
      exact ⟨d, e1, e2.mono f0 (fun _ _ z => z.elim) hA'⟩
    · obtain ⟨l, o2, e1, e2, e3, e4, e5⟩ := hr.m j t h1' h2'
      have hl : l < st.length := (List.getElem?_eq_some_iff.mp e4).1
      exact ⟨l, o2, e1, e2, fun z => e3 ((f0.j l hl).mp z), (f0.g l hl e3 (fun z => z)).trans e4, e5.mono f0 (fun _ _ z => z.elim) hA'⟩
    · obtain ⟨x, g1, ⟨tx, g2⟩, g3⟩ := z
      by_cases ex : i = x
      · subst ex
        by_cases hl : i < ρ.length
        · rw [List.getElem?_set_self hl] at g3
          cases g3
          omega
        · rw [List.getElem?_eq_none (by rw [List.length_set]; omega)] at g3
          cases g3
      · rw [List.getElem?_set_ne ex] at g2 g3
        exact ⟨x, g1, ⟨tx, g2⟩, g3⟩
  | exc n w st1 =>
    rw [e] at g
    obtain ⟨J1, t, h1, h2, h3⟩ := g
    exact ⟨J1, t, h1.weak fun _ _ z => z.2, h2, h3⟩
  | stuck => rw [e] at g; exact g
/-- a list goes from one name to another; the first one is forgotten -/
theorem z_move {y x : Nat} (hx : MS.contains x = true := by rfl) (hxy : (x == y) = false := by rfl) : SSim fs MS (sSet y (eVar x)) (wMove y x) := by
  constructor
  intro b E ρ st J K hf hr hv
  have hx' : x ∈ MS := List.contains_iff_mem.mp hx
  have hne : x ≠ y := fun z => by subst z; simp at hxy
  unfold wMove at hv
  split at hv
  · rename_i t he
    obtain ⟨k, o, e1, e2, e3, e4, e5⟩ := hr.m x t hx' he
    have ok : Own MS E ρ k := ⟨x, hx', ⟨_, he⟩, e1⟩
    have rf := hr.forget x
    have nok : ¬ Own MS (E.set x none) ρ k := fun z => by
      obtain ⟨_, z, g1, g2, g3, g4⟩ := own_forget z
      exact g2 (hr.d z x k g1 hx' g3 ⟨_, he⟩ g4 e1)
    have hc := hr.co k ok
    have av : ∀ j, (Bd b.C MS (E.set x none) ρ true j ∨ j = k) → Bd b.C MS E ρ true j := fun j z => by
      rcases z with (z | ⟨_, z⟩) | z
      · exact .inl z
      · exact .inr ⟨rfl, (own_forget z).1⟩
      · subst z
        exact .inr ⟨rfl, ok⟩
    have cont : DenO st J (fun j => Bd b.C MS (E.set x none) ρ true j ∨ j = k) o t := e5.mono (Fr.refl hr.jar (O := Off)) (fun _ _ z => z.elim) (fun j _ z => av j z)
    unfold sSet eVar
    rw [e1]
    show Nx b MS E ρ st J K.nx (ρ.set y (some (.loc k))) st
    by_cases hy : y ∈ MS
    · refine ⟨J, _, rf.setF (u := false) (c := true) hy e2 hc e3 e4 nok cont (fun j t h1 h2 => ?_) (fun j t h1 h2 => ?_), Fr.refl hr.jar, fun j _ z => ?_, hv⟩
      · obtain ⟨d, g1, g2⟩ := hr.n j t h1 (get_forget h2).2
        exact ⟨d, g1, g2.mono (Fr.refl hr.jar (O := Off)) (fun _ _ z => z.elim) (fun j _ z => av j z)⟩
      · obtain ⟨l, o2, g1, g2, g3, g4, g5⟩ := hr.m j t h1 (get_forget h2).2
        exact ⟨l, o2, g1, g2, g3, g4, g5.mono (Fr.refl hr.jar (O := Off)) (fun _ _ z => z.elim) (fun j _ z => av j z)⟩
      · obtain ⟨z, g1, ⟨tz, g2⟩, g3⟩ := z
        by_cases ez : y = z
        · subst ez
          by_cases hl : y < ρ.length
          · rw [List.getElem?_set_self hl] at g3
            cases g3
            exact ok
          · rw [List.getElem?_eq_none (by rw [List.length_set]; omega)] at g3
            cases g3
        · rw [List.getElem?_set_ne ez] at g2 g3
          exact (own_forget ⟨z, g1, ⟨tz, g2⟩, g3⟩).1
    · refine ⟨J, _, rf.set hy (d := .loc k) (t := t) ((cont.mono (Fr.refl hr.jar (O := Off)) (fun _ _ z => z.elim) (fun _ _ z => .inl z)).den (fun z => ?_) e3 e4), Fr.refl hr.jar, fun j _ z => ?_, hv⟩
      · rcases z with z | ⟨_, z⟩
        · exact hc z
        · exact nok z
      · rw [own_set hy] at z
        exact (own_forget z).1
  · exact hv.elim
mutual
theorem setT_ok {b : Bs} {st : S} {J : Nst} : ∀ {p : Pat} {d : D} {t : T} {E E' : Env} {ρ : Nv}, (∀ i ∈ p.ids, i ∉ MS) → Rl b MS E ρ st J → Den st J (Bd b.C MS E ρ true) d t → setT p t E = some E' → ∃ ρ', setP p d ρ = some ρ' ∧ Rl b MS E' ρ' st J ∧ Own MS E' ρ' = Own MS E ρ
  | .nm i, d, t, E, E', ρ, hi, hr, hd, e => by
    rw [setT] at e
    cases e
    exact ⟨_, by rw [setP], hr.set (hi i (by simp [Pat.ids])) hd, own_set (hi i (by simp [Pat.ids])) _ _⟩
  | .tp ps, _, _, E, E', ρ, hi, hr, .tup h, e => by
    rw [setT] at e
    rw [setP]
    exact setTs_ok (fun i h => hi i (by rw [Pat.ids]; exact h)) hr h e
  | .tp ps, _, _, E, E', ρ, hi, hr, .non, e => by rw [setT] at e; cases e; all_goals (intros; simp_all)
  | .tp ps, _, _, E, E', ρ, hi, hr, .bl _, e => by rw [setT] at e; cases e; all_goals (intros; simp_all)
  | .tp ps, _, _, E, E', ρ, hi, hr, .int _, e => by rw [setT] at e; cases e; all_goals (intros; simp_all)
  | .tp ps, _, _, E, E', ρ, hi, hr, .str _, e => by rw [setT] at e; cases e; all_goals (intros; simp_all)
  | .tp ps, _, _, E, E', ρ, hi, hr, .opq _, e => by rw [setT] at e; cases e; all_goals (intros; simp_all)
  | .tp ps, _, _, E, E', ρ, hi, hr, .lst _ _ _ _, e => by rw [setT] at e; cases e; all_goals (intros; simp_all)
  | .tp ps, _, _, E, E', ρ, hi, hr, .src _ _ _ _, e => by rw [setT] at e; cases e; all_goals (intros; simp_all)
  | .tp ps, _, _, E, E', ρ, hi, hr, .jar _, e => by rw [setT] at e; cases e; all_goals (intros; simp_all)
  | .tp ps, _, _, E, E', ρ, hi, hr, .dk _ _ _ _, e => by rw [setT] at e; cases e; all_goals (intros; simp_all)
  | .tp ps, _, _, E, E', ρ, hi, hr, .dx _ _ _ _, e => by rw [setT] at e; cases e; all_goals (intros; simp_all)
  | .tp ps, _, _, E, E', ρ, hi, hr, .fx _ _ _ _, e => by rw [setT] at e; cases e; all_goals (intros; simp_all)
theorem setTs_ok {b : Bs} {st : S} {J : Nst} : ∀ {ps : List Pat} {xs : List D} {ts : List T} {E E' : Env} {ρ : Nv}, (∀ i ∈ Pat.idsAll ps, i ∉ MS) → Rl b MS E ρ st J → DenL st J (Bd b.C MS E ρ true) xs ts → setTs ps ts E = some E' → ∃ ρ', setPs ps xs ρ = some ρ' ∧ Rl b MS E' ρ' st J ∧ Own MS E' ρ' = Own MS E ρ
  | [], _, _, E, E', ρ, hi, hr, .nil, e => by
    rw [setTs] at e
    cases e
    exact ⟨ρ, by rw [setPs], hr, rfl⟩
  | [], _, _, E, E', ρ, hi, hr, .cons _ _, e => by simp [setTs] at e
  | p :: ps, _, _, E, E', ρ, hi, hr, .nil, e => by simp [setTs] at e
  | p :: ps, _, _, E, E', ρ, hi, hr, .cons h1 h2, e => by
    rw [setTs] at e
    obtain ⟨E1, e1, e2⟩ := Option.bind_eq_some_iff.mp e
    obtain ⟨ρ1, a1, a2, a3⟩ := setT_ok (p := p) (fun i h => hi i (by rw [Pat.idsAll]; exact List.mem_append_left _ h)) hr h1 e1
    have hb : Bd b.C MS E1 ρ1 true = Bd b.C MS E ρ true := by unfold Bd; rw [a3]
    obtain ⟨ρ2, b1, b2, b3⟩ := setTs_ok (ps := ps) (fun i h => hi i (by rw [Pat.idsAll]; exact List.mem_append_right _ h)) a2 (by rw [hb]; exact h2) e2
    refine ⟨ρ2, ?_, b2, b3.trans a3⟩
    rw [setPs, a1]
    exact b1
end
theorem ids_ok {p : Pat} (h : (p.ids.all fun i => !MS.contains i) = true) : ∀ i ∈ p.ids, i ∉ MS := fun i hi => by
  have := List.all_eq_true.mp h i hi
  exact not_in (by simpa using this)
theorem setMany_ok {b : Bs} {st : S} {J : Nst} : ∀ {is : List Nat} {xs : List D} {ts : List T} {E : Env} {ρ : Nv}, (∀ i ∈ is, i ∉ MS) → Rl b MS E ρ st J → DenL st J (Bd b.C MS E ρ true) xs ts → Rl b MS (setMany is ts E) ((is.zip xs).foldl (fun ρ p => ρ.set p.1 (some p.2)) ρ) st J ∧ Own MS (setMany is ts E) ((is.zip xs).foldl (fun ρ p => ρ.set p.1 (some p.2)) ρ) = Own MS E ρ
  | [], _, _, E, ρ, hi, hr, h => by cases h <;> exact ⟨hr, rfl⟩
  | i :: is, _, _, E, ρ, hi, hr, .nil => ⟨hr, rfl⟩
  | i :: is, _, _, E, ρ, hi, hr, .cons (x := x) (t := t) h1 h2 => by
    have hni := hi i (by simp)
    have r1 := hr.set hni h1
    have o1 := own_set (E := E) (ρ := ρ) hni (some t) (some x)
    have hb : Bd b.C MS (E.set i (some t)) (ρ.set i (some x)) true = Bd b.C MS E ρ true := by unfold Bd; rw [o1]
    have g := setMany_ok (is := is) (fun j h => hi j (by simp [h])) r1 (by rw [hb]; exact h2)
    exact ⟨g.1, g.2.trans o1⟩
theorem z_par {is : List Nat} (h : ASim MS u true ml vl) (hi : (is.all fun i => !MS.contains i) = true := by rfl) : SSim fs MS (sPar is ml) (wPar is vl) := SSim.mk fun b E ρ st J K hf hr hv =>
  GRes.out (h b E ρ st J _ K.ex hr hv) fun a st1 J1 E1 t r1 _ _ d1 q => by
    obtain ⟨q1, q2⟩ := q
    have hl := d1.length
    rw [if_pos (by rw [hl]; exact q1)]
    have g := setMany_ok (is := is) (fun i h => not_in (by have := List.all_eq_true.mp hi i h; simpa using this)) r1 d1
    exact ⟨J1, _, g.1, Fr.refl r1.jar, fun k _ z => by rw [← g.2]; exact z, q2⟩
end

def pf (fs : Bool) (np n : Nat) (v : VS) : PF := fun ts Q X => ts.length = np ∧ v (ts.map some ++ List.replicate (n - ts.length) none) ⟨fun _ => fs = false ∧ Q .non, Q, fun _ => False, fun _ => False, X⟩
theorem fn_S {fs : Bool} {MS : List Nat} {n : Nat} {m : DS} {v : VS} {np : Nat} (h : SSim fs MS m v) (hp : ((List.range np).all fun i => !MS.contains i) = true := by rfl) : FnS fs (body n m) (pf fs np n v) := by
  constructor
  intro st J C n0 xs ts Q X hj hc hn hd ⟨hl, hv⟩
  have hlx := hd.length
  have get : ∀ i t, (ts.map some ++ List.replicate (n - ts.length) none)[i]? = some (some t) → i < ts.length ∧ ts[i]? = some t := fun i t e => by
    by_cases hi : i < ts.length
    · rw [List.getElem?_append_left (by rw [List.length_map]; exact hi), List.getElem?_map] at e
      exact ⟨hi, by simpa using e⟩
    · rw [List.getElem?_append_right (by rw [List.length_map]; omega)] at e
      rw [List.getElem?_replicate] at e
      split at e <;> cases e
  have nm : ∀ i t, i ∈ MS → (ts.map some ++ List.replicate (n - ts.length) none)[i]? = some (some t) → False := fun i t hi e => by
    have := (get i t e).1
    have := List.all_eq_true.mp hp i (List.mem_range.mpr (by omega))
    rw [List.contains_iff_mem.mpr hi] at this
    cases this
  have no : ∀ k, ¬ Own MS (ts.map some ++ List.replicate (n - ts.length) none) (xs.map some ++ List.replicate (n - xs.length) none) k := fun k ⟨x, h1, ⟨t, h2⟩, _⟩ => nm x t h1 h2
  have hr : Rl ⟨st, J, C, n0, fs⟩ MS (ts.map some ++ List.replicate (n - ts.length) none) (xs.map some ++ List.replicate (n - xs.length) none) st J := by
    refine ⟨Fr.refl hj, hn, by simp [hlx], hc, fun k z => absurd z (no k), fun i t h1 h2 => ?_, fun i t h1 h2 => (nm i t h1 h2).elim, fun x y k h1 _ ⟨t, h3⟩ => (nm x t h1 h3).elim⟩
    obtain ⟨hi, e⟩ := get i t h2
    obtain ⟨x, e1, e2⟩ := hd.get e
    refine ⟨x, ?_, e2.mono (Fr.refl hj (O := Off)) (fun _ _ z => z.elim) (fun k _ z => z.elim (fun z => z) (fun z => absurd z.2 (no k)))⟩
    rw [List.getElem?_append_left (by rw [List.length_map, hlx]; exact hi), List.getElem?_map, e1]
    rfl
  have own0 : ∀ k, k < st.length → Own MS (ts.map some ++ List.replicate (n - ts.length) none) (xs.map some ++ List.replicate (n - xs.length) none) k → Off k := fun k hk z => absurd z (no k)
  have g := h ⟨st, J, C, n0, fs⟩ _ _ st J ⟨fun _ => fs = false ∧ Q .non, Q, fun _ => False, fun _ => False, X⟩ rfl hr hv
  unfold body
  revert g
  generalize m _ st = o
  intro g
  cases o with
  | nx ρ' st' =>
    obtain ⟨J', E', h1, h2, h3, h4, h5⟩ := g
    exact ⟨J', .non, h2.weak own0, .non, (fun z => (by rw [h4] at z; cases z)), h5⟩
  | rt d st' =>
    obtain ⟨J', t, h1, h2, h3, h4⟩ := g
    exact ⟨J', t, h1.weak own0, h2, fun z => by
      obtain ⟨k, o, e1, e3, e4⟩ := h3 z
      exact ⟨k, o, e1, Nat.le_trans hn e3, e4⟩, h4⟩
  | exc a w ρ' st' =>
    obtain ⟨J', t, h1, h2, h3⟩ := g
    exact ⟨J', t, h1.weak own0, h2, h3⟩
  | bk ρ' st' => obtain ⟨_, _, _, _, _, z⟩ := g; exact z.elim
  | ct ρ' st' => obtain ⟨_, _, _, _, _, z⟩ := g; exact z.elim
  | stuck => exact g.elim
end Rol

namespace Rol
open PySem L2 PySem.Spec
open PyProof.Rows hiding St

abbrev VI := VG (List T)
/-- what is walked; its list is left alone by what keeps away from A -/
def RI : RR (List D × Gk) (List T) := fun _ st J A xg ts => DenL st J A xg.1 ts ∧ Gd xg.2 xg.1 st ∧ ∀ k, gk xg.2 = some k → ¬ A k ∧ ¬ J k
/-- the same, where nothing that is owned is changed -/
def RIc : RR (List D × Gk) (List T) := fun b st J A xg ts => DenL st J A xg.1 ts ∧ Gd xg.2 xg.1 st ∧ ∀ k, gk xg.2 = some k → ¬ J k ∧ ¬ b.C k
def itT (x : T) : Option (List T) := match x with
  | .tup xs => some xs
  | .lst xs => some xs
  | .src xs => some xs
  | _ => none
def viSeq (v : VE) : VI := fun E Q X => v E (fun x E => Ok (itT x) fun ts => Q ts E) X
def vrange (lo : Int) (n : Nat) : List T := (List.range n).map fun (i : Nat) => T.int (lo + (i : Int))
def viRg1 (l : VA) : VI := fun E Q X => l E (fun xs E => match xs with
  | [.int j] => (-(2 ^ 62) ≤ j ∧ j < 2 ^ 62) ∧ Q (vrange 0 j.toNat) E
  | _ => False) X
def viRg2 (l : VA) : VI := fun E Q X => l E (fun xs E => match xs with
  | [.int i, .int j] => (-(2 ^ 62) ≤ i ∧ i < 2 ^ 62 ∧ -(2 ^ 62) ≤ j ∧ j < 2 ^ 62) ∧ Q (vrange i (j - i).toNat) E
  | _ => False) X
def viZip (l : VA) : VI := fun E Q X => l E (fun xs E => match xs with
  | [.tup a, .tup b] => Q (List.zipWith (fun x y => .tup [x, y]) a b) E
  | _ => False) X
def vpairI : Nat → List T → List T
  | _, [] => []
  | k, x :: xs => .tup [.int (k : Int), x] :: vpairI (k + 1) xs
def viEnum (l : VA) : VI := fun E Q X => l E (fun xs E => match xs with
  | [.tup a] => Q (vpairI 0 a) E
  | [.lst a] => Q (vpairI 0 a) E
  | _ => False) X
def vForL (p : Pat) (body : VS) : List T → Env → Ke → Prop
  | [], E, K => K.nx E
  | t :: ts, E, K => Ok (setT p t E) fun E' => body E' { K with nx := fun E2 => vForL p body ts E2 K, ct := fun E2 => vForL p body ts E2 K, bk := K.nx }
def wFor (vi : VI) (p : Pat) (body : VS) : VS := fun E K => vi E (fun ts E1 => vForL p body ts E1 K) K.ex

section
variable {MS : List Nat} {fs u c : Bool} {m : DE} {v : VE} {ml : DA} {vl : VA} {mi : DI} {vi : VI}
theorem gd_of {st : S} {k : Nat} {xs : List D} (h : itemsAt st k = some xs) : Gd (some (k, false)) xs st := ⟨xs, h, rfl⟩
theorem gd_ofE {st : S} {k : Nat} {xs : List D} (h : itemsAt st k = some xs) : Gd (some (k, true)) (pairI 0 xs) st := ⟨xs, h, rfl⟩
theorem i_seq (h : ESim MS u c m v) : GSim RI MS u c (iSeq m) (viSeq v) := by
  constructor
  intro b E ρ st J Q X hr hv
  refine GRes.bind (h b E ρ st J _ X hr hv) fun x st1 J1 E1 t r1 _ f1 o1 d1 q1 => ?_
  obtain ⟨r, e, q⟩ := Ok_iff.mp q1
  cases d1 with
  | tup d => cases e; exact GRes.here r1 ⟨d, trivial, fun k z => by cases z⟩ q
  | @lst k' xs' _ h1 h2 h3 h4 =>
    cases e
    have hx : itemsAt st1 k' = some xs' := by unfold itemsAt; rw [h3]
    simp only [hx]
    exact GRes.here r1 ⟨h4, gd_of hx, fun k z => by cases z; exact ⟨h1, h2⟩⟩ q
  | @src k' xs' _ h1 h2 h3 h4 =>
    cases e
    have hx : itemsAt st1 k' = some xs' := by unfold itemsAt; rw [h3]
    simp only [hx]
    exact GRes.here r1 ⟨h4, gd_of hx, fun k z => by cases z; exact ⟨h1, h2⟩⟩ q
  | _ => cases e
theorem i_ri (h : GSim RI MS u c mi vi) : GSim RIc MS u c mi vi := by
  constructor
  intro b E ρ st J Q X hr hv
  have g := h b E ρ st J Q X hr hv
  cases e : mi ρ st with
  | ok a st' =>
    rw [e] at g
    obtain ⟨J', E', t, h1, h2, h3, h4, h5, h6⟩ := g
    exact ⟨J', E', t, h1, h2, h3, h4, ⟨h5.1, h5.2.1, fun k z => ⟨(h5.2.2 k z).2, fun y => (h5.2.2 k z).1 (.inl y)⟩⟩, h6⟩
  | exc n w st' => rw [e] at g; exact g
  | stuck => rw [e] at g; exact g
theorem den_range {st : S} {J A : Nst} (lo : Int) (n : Nat) : DenL st J A (irange lo n) (vrange lo n) := by
  unfold irange vrange
  generalize List.range n = l
  induction l with
  | nil => exact .nil
  | cons a l ih => exact .cons (.int _) ih
theorem i_rg1 (h : ASim MS u c ml vl) : GSim RI MS u c (iRg1 ml) (viRg1 vl) := by
  constructor
  intro b E ρ st J Q X hr hv
  refine GRes.bind (h b E ρ st J _ X hr hv) fun x st1 J1 E1 t r1 _ f1 o1 d1 q1 => ?_
  cases d1 with
  | nil => exact q1.elim
  | cons a1 a2 => cases a2 with
    | cons _ _ => cases a1 <;> exact q1.elim
    | nil => cases a1 with
      | int j =>
        obtain ⟨q0, q⟩ := q1
        show GRes RI b MS u c E1 ρ st1 J1 Q X (if _ then _ else _)
        rw [if_pos q0]
        exact GRes.here r1 ⟨den_range _ _, trivial, fun k z => by cases z⟩ q
      | _ => exact q1.elim
theorem den_pairI {st : S} {J A : Nst} : ∀ {k : Nat} {xs : List D} {ts : List T}, DenL st J A xs ts → DenL st J A (pairI k xs) (vpairI k ts)
  | _, _, _, .nil => .nil
  | _, _, _, .cons h g => .cons (.tup (.cons (.int _) (.cons h .nil))) (den_pairI g)
theorem i_enum (h : ASim MS u c ml vl) : GSim RI MS u c (iEnumT ml) (viEnum vl) := by
  constructor
  intro b E ρ st J Q X hr hv
  refine GRes.bind (h b E ρ st J _ X hr hv) fun x st1 J1 E1 t r1 _ f1 o1 d1 q1 => ?_
  cases d1 with
  | nil => exact q1.elim
  | cons a1 a2 => cases a2 with
    | cons _ _ => cases a1 <;> exact q1.elim
    | nil => cases a1 with
      | tup d => exact GRes.here r1 ⟨den_pairI d, trivial, fun k z => by cases z⟩ q1
      | @lst k0 ys _ h1 h2 h3 h4 =>
        have hx : itemsAt st1 k0 = some ys := by unfold itemsAt; rw [h3]
        simp only [hx]
        exact GRes.here r1 ⟨den_pairI h4, gd_ofE hx, fun k' z => by cases z; exact ⟨h1, h2⟩⟩ q1
      | _ => exact q1.elim

theorem gd_next {st st' : S} {J J' O : Nst} {g : Gk} {xs : List D} (f : Fr st J st' J' O) (h : Gd g xs st) (hk : ∀ k, gk g = some k → ¬ O k ∧ ¬ J k) : Gd g xs st' := by
  cases g with
  | none => trivial
  | some p =>
    have hl := gd_lt h (k := p.1) rfl
    obtain ⟨k, e⟩ := p
    obtain ⟨ys, h0, ey⟩ := h
    refine ⟨ys, ?_, ey⟩
    unfold itemsAt at h0 ⊢
    rw [f.g k hl (hk k rfl).2 (hk k rfl).1]
    exact h0
theorem for_run {p : Pat} {body : DS} {vb : VS} (hb : SSim fs MS body vb) (hi : ∀ i ∈ p.ids, i ∉ MS) {b : Bs} {K : Ke} (hf : b.fs = fs) {g : Gk} {xs0 : List D} : ∀ {xs : List D} {ts : List T} {E : Env} {ρ : Nv} {st : S} {J : Nst}, Rl b MS E ρ st J → DenL st J (Bd b.C MS E ρ true) xs ts → Gd g xs0 st → (∀ k, gk g = some k → ¬ Own MS E ρ k ∧ ¬ J k ∧ k < st.length) → vForL p vb ts E K → SRes b MS E ρ st J K (forL (Gd g xs0) p body xs ρ st)
  | _, _, E, ρ, st, J, hr, .nil, hg, hk, hv => by
    unfold forL
    rw [if_pos hg]
    exact Nx.here hr hv
  | _, _, E, ρ, st, J, hr, .cons (xs := xs) (ts := ts) h1 h2, hg, hk, hv => by
    unfold forL
    rw [if_pos hg]
    rw [vForL] at hv
    obtain ⟨E', e, hv⟩ := Ok_iff.mp hv
    obtain ⟨ρ', a1, a2, a3⟩ := setT_ok hi hr h1 e
    rw [a1]
    dsimp only
    have gb := hb b E' ρ' st J _ hf a2 hv
    have next : ∀ {ρ2 : Nv} {st2 : S}, Nx b MS E' ρ' st J (fun E2 => vForL p vb ts E2 K) ρ2 st2 → SRes b MS E ρ st J K (forL (Gd g xs0) p body xs ρ2 st2) := by
      rintro ρ2 st2 ⟨J2, E2, n1, n2, n3, n4⟩
      have n2' : Fr st J st2 J2 (Own MS E ρ) := by rw [← a3]; exact n2
      have n3' : ∀ k, k < st.length → Own MS E2 ρ2 k → Own MS E ρ k := fun k hk z => by rw [← a3]; exact n3 k hk z
      refine SRes.step n2' n3' (for_run hb hi hf n1 (h2.mono n2' (fun k _ z => .inr ⟨rfl, z⟩) (fun k hk z => ?_)) (gd_next n2' hg fun k z => ⟨(hk k z).1, (hk k z).2.1⟩) (fun k z => ⟨fun o => (hk k z).1 (n3' k (hk k z).2.2 o), fun o => (hk k z).2.1 ((n2'.j k (hk k z).2.2).mp o), Nat.lt_of_lt_of_le (hk k z).2.2 n2'.le⟩) n4)
      rcases z with z | ⟨_, z⟩
      · exact .inl z
      · exact .inr ⟨rfl, n3' k hk z⟩
    have here : ∀ {o : Out}, SRes b MS E' ρ' st J K o → SRes b MS E ρ st J K o := fun {o} h => SRes.step (Fr.refl hr.jar) (fun _ _ z => by rw [← a3]; exact z) h
    cases hm : body ρ' st with
    | nx ρ2 st2 => rw [hm] at gb; exact next gb
    | ct ρ2 st2 => rw [hm] at gb; exact next gb
    | bk ρ2 st2 => rw [hm] at gb; exact here (o := .nx ρ2 st2) gb
    | rt d st2 => rw [hm] at gb; exact here (o := .rt d st2) gb
    | exc n w ρ2 st2 => rw [hm] at gb; exact here (o := .exc n w ρ2 st2) gb
    | stuck => rw [hm] at gb; exact gb
theorem z_for {p : Pat} {body : DS} {vb : VS} (h : GSim RI MS u true mi vi) (hb : SSim fs MS body vb) (hi : (p.ids.all fun i => !MS.contains i) = true := by rfl) : SSim fs MS (sFor mi p body) (wFor vi p vb) := by
  constructor
  intro b E ρ st J K hf hr hv
  refine GRes.out (h b E ρ st J _ K.ex hr hv) fun x st1 J1 E1 t r1 _ _ d1 q1 => ?_
  obtain ⟨d1, d2, d3⟩ := d1
  refine for_run hb (ids_ok hi) hf r1 d1 d2 (fun k z => ⟨fun o => (d3 k z).1 (.inr ⟨rfl, o⟩), (d3 k z).2, gd_lt d2 z⟩) q1

def wipeE (E : Env) : List Nat → Env
  | [] => E
  | v :: vs => (wipeE E vs).set v none
def XF : Xp := fun _ _ => False
def compT (p : Pat) (test : VT) (elt : VE) (E : Env) : List T → List T → (List T → Prop) → Prop
  | [], acc, Q => Q acc
  | t :: ts, acc, Q => Ok (setT p t E) fun E' => test E' (fun b _ => if b = true then elt E' (fun y _ => acc.length < sizeLine ∧ compT p test elt E ts (acc ++ [y]) Q) XF else compT p test elt E ts acc Q) XF
def vComp (vi : VI) (p : Pat) (vs : List Nat) (test : VT) (elt : VE) : VE := fun E Q X => vi E (fun ts E1 => compT p test elt (wipeE E1 vs) ts [] fun out => Q (.lst out) E1) X
def compT2 (p : Pat) (test : VT) (vi1 : VI) (p1 : Pat) (vs1 : List Nat) (test1 : VT) (elt : VE) (E : Env) : List T → List T → (List T → Prop) → Prop
  | [], acc, Q => Q acc
  | t :: ts, acc, Q => Ok (setT p t E) fun E' => test E' (fun b _ => if b = true then vi1 E' (fun us _ => compT p1 test1 elt (wipeE E' vs1) us acc fun acc => compT2 p test vi1 p1 vs1 test1 elt E ts acc Q) XF else compT2 p test vi1 p1 vs1 test1 elt E ts acc Q) XF
def vComp2 (vi : VI) (p : Pat) (vs : List Nat) (test : VT) (vi1 : VI) (p1 : Pat) (vs1 : List Nat) (test1 : VT) (elt : VE) : VE := fun E Q X => vi E (fun ts E1 => compT2 p test vi1 p1 vs1 test1 elt (wipeE E1 vs) ts [] fun out => Q (.lst out) E1) X

theorem Rl.wipe1 {b : Bs} {E : Env} {ρ : Nv} {st : S} {J : Nst} (hr : Rl b MS E ρ st J) {i : Nat} (hi : i ∉ MS) : Rl b MS (E.set i none) (ρ.set i none) st J ∧ Own MS (E.set i none) (ρ.set i none) = Own MS E ρ := by
  have ho := own_set (E := E) (ρ := ρ) hi none none
  have hb : Bd b.C MS (E.set i none) (ρ.set i none) true = Bd b.C MS E ρ true := by unfold Bd; rw [ho]
  refine ⟨⟨hr.fr, hr.nl, by rw [List.length_set, List.length_set]; exact hr.len, hr.cl, fun k z => hr.co k (by rw [← ho]; exact z), fun j t' h1 h2 => ?_, fun j t' h1 h2 => ?_, fun x y k h1 h2 h3 h4 h5 h6 => ?_⟩, ho⟩
  · obtain ⟨e, h2⟩ := get_forget h2
    rw [hb, List.getElem?_set_ne e]
    exact hr.n j t' h1 h2
  · obtain ⟨e, h2⟩ := get_forget h2
    rw [hb, List.getElem?_set_ne e]
    exact hr.m j t' h1 h2
  · obtain ⟨tx, h3⟩ := h3
    obtain ⟨ty, h4⟩ := h4
    obtain ⟨e1, h3⟩ := get_forget h3
    obtain ⟨e2, h4⟩ := get_forget h4
    rw [List.getElem?_set_ne e1] at h5
    rw [List.getElem?_set_ne e2] at h6
    exact hr.d x y k h1 h2 ⟨tx, h3⟩ ⟨ty, h4⟩ h5 h6
theorem Rl.wipe {b : Bs} {E : Env} {ρ : Nv} {st : S} {J : Nst} (hr : Rl b MS E ρ st J) : ∀ {vs : List Nat}, (∀ i ∈ vs, i ∉ MS) → Rl b MS (wipeE E vs) (wipeD ρ vs) st J ∧ Own MS (wipeE E vs) (wipeD ρ vs) = Own MS E ρ
  | [], _ => ⟨hr, rfl⟩
  | i :: vs, h => by
    have g := Rl.wipe hr (vs := vs) fun j hj => h j (by simp [hj])
    have g1 := g.1.wipe1 (h i (by simp))
    exact ⟨g1.1, g1.2.trans g.2⟩
/-- the state as the store goes on, what is kept away from being changed -/
theorem Rl.nextC {b : Bs} {E : Env} {ρ : Nv} {st st' : S} {J J' O : Nst} (hr : Rl b MS E ρ st J) (f : Fr st J st' J' O) (h1 : ∀ k, O k → b.C k) (h2 : ∀ k, O k → b.st.length ≤ k) : Rl b MS E ρ st' J' := by
  have hm : ∀ k, k < st.length → O k → Bd b.C MS E ρ true k := fun k _ z => .inl (h1 k z)
  refine ⟨hr.fr.trans f (fun _ _ z => z) (fun k hk z => by have := h2 k z; exact absurd hk (by omega)), Nat.le_trans hr.nl f.le, hr.len, fun k q => Nat.lt_of_lt_of_le (hr.cl k q) f.le, hr.co, fun i t g1 g2 => ?_, fun i t g1 g2 => ?_, hr.d⟩
  · obtain ⟨d, e1, e2⟩ := hr.n i t g1 g2
    exact ⟨d, e1, e2.mono f hm (fun _ _ z => z)⟩
  · obtain ⟨k, o, e1, e2, e3, e4, e5⟩ := hr.m i t g1 g2
    have hk : k < st.length := (List.getElem?_eq_some_iff.mp e4).1
    exact ⟨k, o, e1, e2, fun z => e3 ((f.j k hk).mp z), (f.g k hk e3 (fun z => hr.co k ⟨i, g1, ⟨t, g2⟩, e1⟩ (h1 k z))).trans e4, e5.mono f hm (fun _ _ z => z)⟩
theorem Fr.put {st : S} {J : Nst} (hj : ∀ k, J k → Jar k st) {n : Nat} (hn : ¬ J n) (o : Rol.O) : Fr st J (st.set n o) J (fun k => k = n) :=
  ⟨by simp, fun k q => (hj k q).lt', fun _ _ => Iff.rfl, fun k _ _ z => List.getElem?_set_ne (Ne.symm z), fun k q => by
    obtain ⟨a, b, h0, e⟩ := hj k q
    have : n ≠ k := fun z => hn (z ▸ q)
    exact ⟨a, b, h0, by rw [List.getElem?_set_ne this]; exact e⟩⟩
/-- what a comprehension has come to -/
structure Acc (b : Bs) (MS : List Nat) (c : Bool) (E : Env) (ρ : Nv) (n : Nat) (st : S) (J : Nst) (acc : List D) (as : List T) : Prop where
  r : Rl b MS E ρ st J
  cn : b.C n
  bn : b.st.length ≤ n
  jn : ¬ J n
  at_ : st[n]? = some (.lst acc)
  den : DenL st J (Bd b.C MS E ρ c) acc as
theorem vcomp_run {p : Pat} {mt : DT} {vt : VT} {me : DE} {ve : VE} {ct : Bool} (ht : TSim MS false ct mt vt) (he : ESim MS false c me ve) (hi : ∀ i ∈ p.ids, i ∉ MS) {b : Bs} {n : Nat} {g : Gk} {xs0 : List D} {E : Env} {ρ : Nv} :
    ∀ {xs : List D} {ts : List T} {st : S} {J : Nst} {acc : List D} {as : List T} {Q : List T → Prop}, Acc b MS c E ρ n st J acc as → DenL st J (Bd b.C MS E ρ true) xs ts → Gd g xs0 st → (∀ k, gk g = some k → k ≠ n ∧ ¬ J k ∧ k < st.length) → compT p vt ve E ts as Q →
      ∃ J' acc' as' st', compL (Gd g xs0) p mt me n xs ρ st = .ok () st' ∧ Acc b MS c E ρ n st' J' acc' as' ∧ Fr st J st' J' (fun k => k = n) ∧ Q as'
  | _, _, st, J, acc, as, Q, ha, .nil, hg, hk, hv => by
    unfold compL
    rw [if_pos hg]
    exact ⟨J, acc, as, st, rfl, ha, Fr.refl ha.r.jar, hv⟩
  | _, _, st, J, acc, as, Q, ha, .cons (x := x) (t := t) (xs := xs) (ts := ts) h1 h2, hg, hk, hv => by
    unfold compL
    rw [if_pos hg]
    rw [compT] at hv
    obtain ⟨E', e, hv⟩ := Ok_iff.mp hv
    obtain ⟨ρ', a1, a2, a3⟩ := setT_ok hi ha.r h1 e
    rw [a1]
    dsimp only
    have hB : ∀ cc, Bd b.C MS E' ρ' cc = Bd b.C MS E ρ cc := fun cc => by unfold Bd; rw [a3]
    have gt := ht b E' ρ' st J _ XF a2 hv
    cases hmt : mt ρ' st with
    | exc q w s1 => rw [hmt] at gt; obtain ⟨_, _, _, _, z⟩ := gt; exact z.elim
    | stuck => rw [hmt] at gt; exact gt.elim
    | ok bb s1 =>
      rw [hmt] at gt
      obtain ⟨J1, E1, bb', r1, _, f1, eE, eb, q1⟩ := gt
      cases eb
      have f1' : Fr st J s1 J1 Off := f1.weak fun _ _ z => by cases z.1
      have ha1 : Acc b MS c E ρ n s1 J1 acc as := ⟨ha.r.next f1', ha.cn, ha.bn, fun z => ha.jn ((f1'.j n (List.getElem?_eq_some_iff.mp ha.at_).1).mp z), (f1'.g n (List.getElem?_eq_some_iff.mp ha.at_).1 ha.jn (fun z => z)).trans ha.at_, ha.den.mono f1' (fun _ _ z => z.elim) (fun _ _ z => z)⟩
      have h21 := h2.mono f1' (A' := Bd b.C MS E ρ true) (fun _ _ z => z.elim) (fun _ _ z => z)
      have hg1 := gd_next f1' hg fun k z => ⟨fun z => z, (hk k z).2.1⟩
      have hk1 : ∀ k, gk g = some k → k ≠ n ∧ ¬ J1 k ∧ k < s1.length := fun k z => ⟨(hk k z).1, fun o => (hk k z).2.1 ((f1'.j k (hk k z).2.2).mp o), Nat.lt_of_lt_of_le (hk k z).2.2 f1'.le⟩
      simp only [Res.bind_ok]
      cases bb with
      | false =>
        obtain ⟨J', acc', as', st', c1, c2, c3, c4⟩ := vcomp_run ht he hi ha1 h21 hg1 hk1 q1
        exact ⟨J', acc', as', st', c1, c2, f1'.trans c3 (fun _ _ z => z.elim) (fun _ _ z => z), c4⟩
      | true =>
        have a21 : Rl b MS E' ρ' s1 J1 := a2.next f1'
        have ge := he b E' ρ' s1 J1 _ XF a21 q1
        rw [if_pos rfl]
        cases hme : me ρ' s1 with
        | exc q w s2 => rw [hme] at ge; obtain ⟨_, _, _, _, z⟩ := ge; exact z.elim
        | stuck => rw [hme] at ge; exact ge.elim
        | ok y s2 =>
          rw [hme] at ge
          obtain ⟨J2, E2, ty, r2, _, f2, eE2, dy, hl, q2⟩ := ge
          have f2' : Fr s1 J1 s2 J2 Off := f2.weak fun _ _ z => by cases z.1
          have hn1 : n < s1.length := (List.getElem?_eq_some_iff.mp ha1.at_).1
          have at2 : s2[n]? = some (.lst acc) := (f2'.g n hn1 ha1.jn (fun z => z)).trans ha1.at_
          have jn2 : ¬ J2 n := fun z => ha1.jn ((f2'.j n hn1).mp z)
          have rr2 := ha1.r.next f2'
          simp only [Res.bind_ok, at2]
          have hlen : acc.length < sizeLine := by rw [ha.den.length]; exact hl
          rw [if_pos hlen]
          have f3 : Fr s2 J2 (s2.set n (.lst (acc ++ [y]))) J2 (fun k => k = n) := Fr.put rr2.jar jn2 _
          have r3 := rr2.nextC f3 (fun k z => by subst z; exact ha.cn) (fun k z => by subst z; exact ha.bn)
          have hn2 : n < s2.length := (List.getElem?_eq_some_iff.mp at2).1
          have hO : ∀ cc k, k < s2.length → k = n → Bd b.C MS E ρ cc k := fun cc k _ z => by subst z; exact .inl ha.cn
          have d3 : DenL (s2.set n (.lst (acc ++ [y]))) J2 (Bd b.C MS E ρ c) (acc ++ [y]) (as ++ [ty]) := (DenL.append (ha1.den.mono f2' (A' := Bd b.C MS E ρ c) (fun _ _ z => z.elim) (fun _ _ z => z)) (.cons (by rw [hB] at dy; exact dy) .nil)).mono f3 (hO c) (fun _ _ z => z)
          have ha3 : Acc b MS c E ρ n (s2.set n (.lst (acc ++ [y]))) J2 (acc ++ [y]) (as ++ [ty]) := ⟨r3, ha.cn, ha.bn, jn2, List.getElem?_set_self hn2, d3⟩
          have h23 := (h21.mono f2' (A' := Bd b.C MS E ρ true) (fun _ _ z => z.elim) (fun _ _ z => z)).mono f3 (A' := Bd b.C MS E ρ true) (hO true) (fun _ _ z => z)
          have hg2 := gd_next f2' hg1 fun k z => ⟨fun z => z, (hk1 k z).2.1⟩
          have hk2 : ∀ k, gk g = some k → k ≠ n ∧ ¬ J2 k ∧ k < s2.length := fun k z => ⟨(hk1 k z).1, fun o => (hk1 k z).2.1 ((f2'.j k (hk1 k z).2.2).mp o), Nat.lt_of_lt_of_le (hk1 k z).2.2 f2'.le⟩
          have hg3 := gd_next f3 hg2 fun k z => ⟨(hk2 k z).1, (hk2 k z).2.1⟩
          obtain ⟨J', acc', as', st', c1, c2, c3, c4⟩ := vcomp_run ht he hi ha3 h23 hg3 (fun k z => ⟨(hk2 k z).1, (hk2 k z).2.1, by rw [List.length_set]; exact (hk2 k z).2.2⟩) q2
          exact ⟨J', acc', as', st', c1, c2, f1'.trans (f2'.trans (f3.trans c3 (fun _ _ z => z) (fun _ _ z => z)) (fun _ _ z => z.elim) (fun _ _ z => z)) (fun _ _ z => z.elim) (fun _ _ z => z), c4⟩
theorem rl_c {b : Bs} {E : Env} {ρ : Nv} {st : S} {J : Nst} (hr : Rl b MS E ρ st J) : Rl ⟨b.st, b.J, fun k => b.C k ∨ k = st.length, b.n0, b.fs⟩ MS E ρ (st ++ [.lst []]) J := by
  have f : Fr st J (st ++ [.lst []]) J Off := Fr.app hr.jar _
  have r1 := hr.next f
  have hA : ∀ k, k < st.length → Bd (fun k => b.C k ∨ k = st.length) MS E ρ true k → Bd b.C MS E ρ true k := fun k hk z => by
    rcases z with (z | z) | z
    · exact .inl z
    · omega
    · exact .inr z
  refine ⟨r1.fr, r1.nl, r1.len, fun k z => ?_, fun k o z => ?_, fun i t h1 h2 => ?_, fun i t h1 h2 => ?_, r1.d⟩
  · rcases z with z | z
    · exact r1.cl k z
    · simp [z]
  · rcases z with z | z
    · exact r1.co k o z
    · have := hr.own_lt o
      omega
  · obtain ⟨d, e1, e2⟩ := hr.n i t h1 h2
    exact ⟨d, e1, e2.mono f (fun _ _ z => z.elim) hA⟩
  · obtain ⟨k, o, e1, e2, e3, e4, e5⟩ := hr.m i t h1 h2
    have hk : k < st.length := (List.getElem?_eq_some_iff.mp e4).1
    exact ⟨k, o, e1, e2, e3, (List.getElem?_append_left hk).trans e4, e5.mono f (fun _ _ z => z.elim) hA⟩
theorem s_comp {p : Pat} {vs : List Nat} {mt : DT} {vt : VT} {me : DE} {ve : VE} {ct : Bool} (h : GSim RIc MS false true mi vi) (ht : TSim MS false ct mt vt) (he : ESim MS false c me ve) (hi : (p.ids.all fun i => !MS.contains i) = true := by rfl) (hv' : (vs.all fun i => !MS.contains i) = true := by rfl) : FSim MS false c (eComp mi p vs mt me) (vComp vi p vs vt ve) := by
  constructor
  intro b E ρ st J Q X hr hv
  have g := h b E ρ st J _ X hr hv
  unfold eComp
  cases hm : mi ρ st with
  | exc n w st1 => rw [hm] at g; exact g
  | stuck => rw [hm] at g; exact g
  | ok xg st1 =>
    rw [hm] at g
    obtain ⟨J1, E1, ts, r1, _, f1, eE, ⟨d1, d2, d3⟩, q1⟩ := g
    have eE := eE rfl
    subst eE
    have f1' : Fr st J st1 J1 Off := f1.weak fun _ _ z => by cases z.1
    have hvs : ∀ i ∈ vs, i ∉ MS := fun i hi' => not_in (by have := List.all_eq_true.mp hv' i hi'; simpa using this)
    have w := r1.wipe hvs
    let b' : Bs := ⟨b.st, b.J, fun k => b.C k ∨ k = st1.length, b.n0, b.fs⟩
    have wr : Rl b' MS (wipeE E1 vs) (wipeD ρ vs) (st1 ++ [.lst []]) J1 := rl_c w.1
    have fa : Fr st1 J1 (st1 ++ [.lst []]) J1 Off := Fr.app r1.jar _
    have hB : ∀ cc k, Bd b'.C MS (wipeE E1 vs) (wipeD ρ vs) cc k ↔ (Bd b.C MS E1 ρ cc k ∨ k = st1.length) := fun cc k => by
      show ((b.C k ∨ k = st1.length) ∨ (cc = true ∧ Own MS (wipeE E1 vs) (wipeD ρ vs) k)) ↔ ((b.C k ∨ (cc = true ∧ Own MS E1 ρ k)) ∨ k = st1.length)
      rw [w.2]
      constructor
      · rintro ((z | z) | z)
        · exact .inl (.inl z)
        · exact .inr z
        · exact .inl (.inr z)
      · rintro ((z | z) | z)
        · exact .inl (.inl z)
        · exact .inr z
        · exact .inl (.inr z)
    have ha : Acc b' MS c (wipeE E1 vs) (wipeD ρ vs) st1.length (st1 ++ [.lst []]) J1 [] [] := ⟨wr, .inr rfl, r1.fr.le, jar_ne r1.jar, by simp, .nil⟩
    have hk : ∀ k, gk xg.2 = some k → k < st1.length := fun k z => gd_lt d2 z
    obtain ⟨J', acc', as', st', c1, c2, c3, c4⟩ := vcomp_run ht he (ids_ok hi) (b := b') (n := st1.length) (g := xg.2) (xs0 := xg.1) ha (d1.mono fa (A' := Bd b'.C MS (wipeE E1 vs) (wipeD ρ vs) true) (fun _ _ z => z.elim) (fun k hk z => by
        rcases (hB true k).mp z with z | z
        · exact z
        · omega)) (gd_next fa d2 fun k z => ⟨fun z => z, (d3 k z).1⟩) (fun k z => ⟨by have := hk k z; omega, (d3 k z).1, by have := hk k z; simp; omega⟩) q1
    simp only [Res.bind_ok, c1, Res.calm_ok]
    have hj' : ∀ k, J' k → Jar k st' := c2.r.jar
    have f2 : Fr st J st' J' Off := f1'.trans (fa.trans c3 (fun _ _ z => z) (O := Off) (fun k hk z => by omega)) (fun _ _ z => z) (fun _ _ z => z)
    refine GRes.ok hr f2 ⟨st1.length, _, rfl, Nat.le_trans hr.nl f1.le, fun z => Nat.lt_irrefl _ (r1.bd_lt z), c2.jn, c2.at_, (DenO.lst c2.den).mono (Fr.refl hj' (O := Off)) (fun _ _ z => z.elim) (fun k _ z => (hB c k).mpr z)⟩ c4
end
end Rol

namespace Rol
open PySem L2 PySem.Spec
open PyProof.Rows hiding St
section
variable {MS : List Nat} {fs u c : Bool} {m : DE} {v : VE} {ml : DA} {vl : VA} {mi mi1 : DI} {vi vi1 : VI}
theorem Rl.updO {b : Bs} {E : Env} {ρ : Nv} {st : S} {J : Nst} (hr : Rl b MS E ρ st J) {x : Nat} (hx : x ∈ MS) {k : Nat} {t0 : T} (e : E[x]? = some (some t0)) (e1 : ρ[x]? = some (some (.loc k))) {o : Rol.O} {t1 : T} (d : DenO st J (Bd b.C MS E ρ true) o t1) : Rl b MS (E.set x (some t1)) ρ (st.set k o) J ∧ Al E (E.set x (some t1)) ∧ Fr st J (st.set k o) J (Own MS E ρ) := by
  have ok : Own MS E ρ k := ⟨x, hx, ⟨_, e⟩, e1⟩
  have hxl : x < E.length := (List.getElem?_eq_some_iff.mp e).1
  have al : Al E (E.set x (some t1)) := fun i => by
    by_cases h : x = i
    · subst h
      exact ⟨fun _ => ⟨_, e⟩, fun _ => ⟨_, List.getElem?_set_self hxl⟩⟩
    · unfold Lv
      rw [List.getElem?_set_ne h]
  have hj := hr.own_j ok
  have hl := hr.own_lt ok
  have f : Fr st J (st.set k o) J (fun j => j = k) := Fr.put hr.jar hj _
  have hO : ∀ j, j < st.length → j = k → Bd b.C MS E ρ true j := fun j _ z => by subst z; exact .inr ⟨rfl, ok⟩
  have ho := al.own MS ρ
  have hB : Bd b.C MS (E.set x (some t1)) ρ true = Bd b.C MS E ρ true := by unfold Bd; rw [ho]
  refine ⟨⟨hr.fr.trans f (fun _ _ z => z) (fun j hj' z => by have := hr.own_ge ok; exact absurd hj' (by omega)), Nat.le_trans hr.nl f.le, by rw [List.length_set]; exact hr.len, fun j z => Nat.lt_of_lt_of_le (hr.cl j z) f.le, fun j z => hr.co j (by rw [← ho]; exact z), fun i t h1 h2 => ?_, fun i t h1 h2 => ?_, fun i j l h1 h2 h3 h4 h5 h6 => hr.d i j l h1 h2 ((al i).mp h3) ((al j).mp h4) h5 h6⟩, al, f.weak fun j _ z => by subst z; exact ok⟩
  · have hne : x ≠ i := fun z => h1 (z ▸ hx)
    rw [List.getElem?_set_ne hne] at h2
    obtain ⟨dd, g1, g2⟩ := hr.n i t h1 h2
    exact ⟨dd, g1, by rw [hB]; exact g2.mono f hO (fun _ _ z => z)⟩
  · by_cases hne : x = i
    · subst hne
      rw [List.getElem?_set_self hxl] at h2
      cases h2
      exact ⟨k, _, e1, hr.own_ge ok, hj, List.getElem?_set_self hl, by rw [hB]; exact d.mono f hO (fun _ _ z => z)⟩
    · rw [List.getElem?_set_ne hne] at h2
      obtain ⟨l, o2, g1, g2, g3, g4, g5⟩ := hr.m i t h1 h2
      have hlk : l ≠ k := fun z => hne (hr.d x i k hx h1 ⟨_, e⟩ ⟨_, h2⟩ e1 (z ▸ g1))
      exact ⟨l, o2, g1, g2, g3, (List.getElem?_set_ne (Ne.symm hlk)).trans g4, by rw [hB]; exact g5.mono f hO (fun _ _ z => z)⟩
theorem Rl.upd {b : Bs} {E : Env} {ρ : Nv} {st : S} {J : Nst} (hr : Rl b MS E ρ st J) {x : Nat} (hx : x ∈ MS) {k : Nat} {t0 : T} (e : E[x]? = some (some t0)) (e1 : ρ[x]? = some (some (.loc k))) {xs : List D} {ts : List T} (d : DenL st J (Bd b.C MS E ρ true) xs ts) : Rl b MS (E.set x (some (.lst ts))) ρ (st.set k (.lst xs)) J ∧ Al E (E.set x (some (.lst ts))) ∧ Fr st J (st.set k (.lst xs)) J (Own MS E ρ) := hr.updO hx e e1 (.lst d)
def lstAt (E : Env) (x : Nat) : Option (List T) := match E[x]? with
  | some (some (.lst ts)) => some ts
  | _ => none
theorem lstAt_some {E : Env} {x : Nat} {ts : List T} (h : lstAt E x = some ts) : E[x]? = some (some (.lst ts)) := by
  unfold lstAt at h
  split at h
  · rename_i e
    cases h
    exact e
  · cases h
/-- x.append(v) -/
def wApp (x : Nat) (v : VE) : VS := fun E K => Ok (lstAt E x) fun _ => v E (fun t E => Ok (lstAt E x) fun ts => ts.length < sizeLine ∧ K.nx (E.set x (some (.lst (ts ++ [t]))))) K.ex
theorem z_app {x : Nat} (h : ESim MS u true m v) (hx : MS.contains x = true := by rfl) : SSim fs MS (sExpr (eMt dAppend (eVar x) (aCons m aNil))) (wApp x v) := by
  constructor
  intro b E ρ st J K hf hr hv
  have hx' : x ∈ MS := List.contains_iff_mem.mp hx
  obtain ⟨ts0, e0, hv⟩ := Ok_iff.mp hv
  have e0 := lstAt_some e0
  obtain ⟨k, xs0, e1, _, _, e4, _⟩ := hr.mL hx' e0
  have hi : isLst (.loc k) st = true := by simp only [isLst, itemsAt, e4, Option.isSome_some]
  have step : sExpr (eMt dAppend (eVar x) (aCons m aNil)) ρ st = (m ρ st).out ρ (fun t s => (dAppend (.loc k) [t] s).out ρ fun _ s => .nx ρ s) := by
    unfold sExpr eMt eVar aCons aNil
    rw [e1]
    show (if isLst (.loc k) st = true then _ else _ : Res D).out ρ _ = _
    rw [if_pos hi]
    cases m ρ st <;> rfl
  rw [step]
  refine GRes.out (h b E ρ st J _ K.ex hr hv) fun t' st1 J1 E1 t r1 f1 o1 d1 q1 => ?_
  obtain ⟨ts, e, hl, q⟩ := Ok_iff.mp q1
  have e := lstAt_some e
  obtain ⟨k', xs, h1, _, _, h4, h5⟩ := r1.mL hx' e
  rw [e1] at h1
  cases h1
  have g := r1.upd hx' e e1 (h5.append (.cons d1 .nil))
  have ed : dAppend (.loc k) [t'] st1 = .ok .non (st1.set k (.lst (xs ++ [t']))) := by
    unfold dAppend
    simp only [h4]
    rw [if_pos (by rw [h5.length]; exact hl)]
  rw [ed]
  exact ⟨J1, _, g.1, g.2.2, fun j _ z => by rw [g.2.1.own] at z; exact z, q⟩
def seqT (x : T) : Option (List T) := match x with
  | .tup xs => some xs
  | .lst xs => some xs
  | _ => none
/-- x.extend(v) -/
def wExt (x : Nat) (v : VE) : VS := fun E K => Ok (lstAt E x) fun _ => v E (fun t E => Ok (lstAt E x) fun ts => Ok (seqT t) fun us => ts.length + us.length ≤ sizeLine ∧ K.nx (E.set x (some (.lst (ts ++ us))))) K.ex
theorem z_ext {x : Nat} (h : ESim MS u true m v) (hx : MS.contains x = true := by rfl) : SSim fs MS (sExpr (eMt dExtend (eVar x) (aCons m aNil))) (wExt x v) := by
  constructor
  intro b E ρ st J K hf hr hv
  have hx' : x ∈ MS := List.contains_iff_mem.mp hx
  obtain ⟨ts0, e0, hv⟩ := Ok_iff.mp hv
  have e0 := lstAt_some e0
  obtain ⟨k, xs0, e1, _, _, e4, _⟩ := hr.mL hx' e0
  have hi : isLst (.loc k) st = true := by simp only [isLst, itemsAt, e4, Option.isSome_some]
  have step : sExpr (eMt dExtend (eVar x) (aCons m aNil)) ρ st = (m ρ st).out ρ (fun t s => (dExtend (.loc k) [t] s).out ρ fun _ s => .nx ρ s) := by
    unfold sExpr eMt eVar aCons aNil
    rw [e1]
    show (if isLst (.loc k) st = true then _ else _ : Res D).out ρ _ = _
    rw [if_pos hi]
    cases m ρ st <;> rfl
  rw [step]
  refine GRes.out (h b E ρ st J _ K.ex hr hv) fun t' st1 J1 E1 t r1 f1 o1 d1 q1 => ?_
  obtain ⟨ts, e, q1⟩ := Ok_iff.mp q1
  obtain ⟨ws, ew, hl, q⟩ := Ok_iff.mp q1
  have e := lstAt_some e
  obtain ⟨k', xs, h1, _, _, h4, h5⟩ := r1.mL hx' e
  rw [e1] at h1
  cases h1
  have core : ∀ ys, DenL st1 J1 (Bd b.C MS E1 ρ true) ys ws → dExtend (.loc k) [t'] st1 = .ok .non (st1.set k (.lst (xs ++ ys))) → SRes b MS E1 ρ st1 J1 K ((dExtend (.loc k) [t'] st1).out ρ fun _ s => .nx ρ s) := fun ys dy ed => by
    rw [ed]
    have g := r1.upd hx' e e1 (h5.append dy)
    exact ⟨J1, _, g.1, g.2.2, fun j _ z => by rw [g.2.1.own] at z; exact z, q⟩
  cases d1 with
  | tup d =>
    cases ew
    refine core _ d ?_
    unfold dExtend
    simp only [h4]
    rw [if_pos (by rw [h5.length, d.length]; exact hl)]
  | lst a1 a2 a3 a4 =>
    cases ew
    refine core _ a4 ?_
    unfold dExtend
    simp only [h4, a3]
    rw [if_pos (by rw [h5.length, a4.length]; exact hl)]
  | _ => cases ew
/-- x.pop() -/
def vPop0 (x : Nat) : VE := fun E Q _ => Ok (lstAt E x) fun ts => Ok ts[ts.length - 1]? fun t => Q t (E.set x (some (.lst (ts.eraseIdx (ts.length - 1)))))
/-- x.pop(i) -/
def vPop (x : Nat) (v : VE) : VE := fun E Q X => Ok (lstAt E x) fun _ => v E (fun i E => Ok (lstAt E x) fun ts => Ok (tI? i) fun i => (-(2 ^ 63) ≤ i ∧ i < 2 ^ 63) ∧ Ok (seqIndex? i ts.length) fun j => Ok ts[j]? fun t => Q t (E.set x (some (.lst (ts.eraseIdx j))))) X
theorem pop_res {b : Bs} {E : Env} {ρ : Nv} {st : S} {J : Nst} {Q : T → Env → Prop} {X : Xp} {x k : Nat} {xs : List D} {ts : List T} {y : D} {t : T} {j : Nat} (hr : Rl b MS E ρ st J) (hx : x ∈ MS) (e : E[x]? = some (some (.lst ts))) (e1 : ρ[x]? = some (some (.loc k))) (d : DenL st J (Bd b.C MS E ρ true) xs ts) (hy : xs[j]? = some y) (ht : ts[j]? = some t) (q : Q t (E.set x (some (.lst (ts.eraseIdx j))))) : GRes RD b MS true true E ρ st J Q X (.ok y (st.set k (.lst (xs.eraseIdx j)))) := by
  have g := hr.upd hx e e1 (d.erase j)
  obtain ⟨y', a1, a2⟩ := d.get ht
  rw [hy] at a1
  cases a1
  refine ⟨J, _, t, g.1, g.2.1, g.2.2.weak fun _ _ z => ⟨rfl, z⟩, (fun z => (by cases z)), a2.mono g.2.2 (fun _ _ z => .inr ⟨rfl, z⟩) (fun _ _ z => z), q⟩
theorem s_pop {x : Nat} (h : ESim MS true true m v) (hx : MS.contains x = true := by rfl) : ESim MS true true (eMt dPop (eVar x) (aCons m aNil)) (vPop x v) := by
  constructor
  intro b E ρ st J Q X hr hv
  have hx' : x ∈ MS := List.contains_iff_mem.mp hx
  obtain ⟨ts0, e0, hv⟩ := Ok_iff.mp hv
  have e0 := lstAt_some e0
  obtain ⟨k, xs0, e1, _, _, e4, _⟩ := hr.mL hx' e0
  have hi : isLst (.loc k) st = true := by simp only [isLst, itemsAt, e4, Option.isSome_some]
  have step : eMt dPop (eVar x) (aCons m aNil) ρ st = (m ρ st).bind (fun t s => dPop (.loc k) [t] s) := by
    unfold eMt eVar aCons aNil
    rw [e1]
    show (if isLst (.loc k) st = true then _ else _ : Res D) = _
    rw [if_pos hi]
    cases m ρ st <;> rfl
  rw [step]
  refine GRes.bind (h b E ρ st J _ X hr hv) fun t' st1 J1 E1 t r1 _ f1 o1 d1 q1 => ?_
  obtain ⟨ts, e, q1⟩ := Ok_iff.mp q1
  obtain ⟨i, ei, hb, q2⟩ := Ok_iff.mp q1
  obtain ⟨j, ej, q2⟩ := Ok_iff.mp q2
  obtain ⟨t2, et, q2⟩ := Ok_iff.mp q2
  have e := lstAt_some e
  obtain ⟨k', xs, h1, _, _, h4, h5⟩ := r1.mL hx' e
  rw [e1] at h1
  cases h1
  obtain ⟨y, a1, a2⟩ := h5.get et
  cases d1 <;> cases ei
  have ed : dPop (.loc k) [.int i] st1 = .ok y (st1.set k (.lst (xs.eraseIdx j))) := by
    unfold dPop
    simp only [h4]
    rw [if_pos hb]
    simp only [h5.length, ej, a1]
  rw [ed]
  exact pop_res r1 hx' e e1 h5 a1 et q2
/-- x[i] = v -/
def wPut (x : Nat) (vi v : VE) : VS := fun E K => v E (fun t E => Ok (lstAt E x) fun _ => vi E (fun i E => Ok (lstAt E x) fun ts => Ok (tI? i) fun i => Ok (ixN ts.length i) fun j => K.nx (E.set x (some (.lst (ts.set j t))))) K.ex) K.ex
end
end Rol

namespace Rol
open PySem L2 PySem.Spec
open PyProof.Rows hiding St

def scalT : T → Option PyData
  | .non => some .none
  | .bl b => some (.bool b)
  | .int i => some (.int i)
  | .str x => some (.str x)
  | _ => none
def toPT : Nat → T → Option PyData
  | 0, t => scalT t
  | n + 1, .tup xs => (optAll (toPT n) xs).map .tuple
  | n + 1, .lst xs => (optAll (toPT n) xs).map .list
  | n + 1, .src xs => (optAll (toPT n) xs).map .list
  | _ + 1, t => scalT t
section
variable {st : S} {J A : Nst}
theorem den_optAll {f : D → Option PyData} {g : T → Option PyData} (h : ∀ {d : D} {t : T} {p : PyData}, Den st J A d t → g t = some p → f d = some p) : ∀ {xs : List D} {ts : List T} {ps : List PyData}, DenL st J A xs ts → optAll g ts = some ps → optAll f xs = some ps
  | _, _, _, .nil, e => e
  | _, _, _, .cons (t := t) (ts := ts) h1 h2, e => by
    rw [optAll] at e ⊢
    cases e1 : g t with
    | none => rw [e1] at e; cases e
    | some a => cases e2 : optAll g ts with
      | none => rw [e1, e2] at e; cases e
      | some as =>
        rw [e1, e2] at e
        rw [h h1 e1, den_optAll h h2 e2]
        exact e
theorem den_toP : ∀ {n : Nat} {d : D} {t : T} {p : PyData}, Den st J A d t → toPT n t = some p → toP st n d = some p
  | 0, d, t, p, h, e => by
    cases h <;> simp [toPT, scalT] at e <;> subst e <;> rfl
  | n + 1, d, t, p, h, e => by
    cases h with
    | non => simp [toPT, scalT] at e; subst e; rfl
    | bl b => simp [toPT, scalT] at e; subst e; rfl
    | int i => simp [toPT, scalT] at e; subst e; rfl
    | str x => simp [toPT, scalT] at e; subst e; rfl
    | opq v => simp [toPT, scalT] at e
    | jar _ => simp [toPT, scalT] at e
    | dk _ _ _ _ => simp [toPT, scalT] at e
    | dx _ _ _ _ => simp [toPT, scalT] at e
    | fx _ _ _ _ => simp [toPT, scalT] at e
    | tup hl =>
      rw [toPT] at e
      obtain ⟨ps, e1, e2⟩ := Option.map_eq_some_iff.mp e
      rw [toP, den_optAll (fun h' e' => den_toP h' e') hl e1]
      exact congrArg some e2
    | @lst k xs ts h1 h2 h3 h4 =>
      rw [toPT] at e
      obtain ⟨ps, e1, e2⟩ := Option.map_eq_some_iff.mp e
      have hx : itemsAt st k = some xs := by unfold itemsAt; rw [h3]
      rw [toP, hx]
      dsimp only
      rw [den_optAll (fun h' e' => den_toP h' e') h4 e1]
      exact congrArg some e2
    | @src k xs ts h1 h2 h3 h4 =>
      rw [toPT] at e
      obtain ⟨ps, e1, e2⟩ := Option.map_eq_some_iff.mp e
      have hx : itemsAt st k = some xs := by unfold itemsAt; rw [h3]
      rw [toP, hx]
      dsimp only
      rw [den_optAll (fun h' e' => den_toP h' e') h4 e1]
      exact congrArg some e2
theorem items_lst {k : Nat} {xs : List D} (h : st[k]? = some (.lst xs)) : itemsAt st k = some xs := by unfold itemsAt; rw [h]
theorem items_src {k : Nat} {xs : List D} (h : st[k]? = some (.src xs)) : itemsAt st k = some xs := by unfold itemsAt; rw [h]
end

def tI2 (f : Int → Int → Int) : T → T → Option T
  | .int i, .int j => some (.int (f i j))
  | _, _ => none
def tB2 (f : Int → Int → Bool) : T → T → Option T
  | .int i, .int j => some (.bl (f i j))
  | _, _ => none
def tI2c (c : Int → Int → Bool) (f : Int → Int → Int) : T → T → Option T
  | .int i, .int j => if c i j = true then some (.int (f i j)) else none
  | _, _ => none
theorem o_i2 (f : Int → Int → Int) : OpS (i2 fun i j => .int (f i j)) (tI2 f) := by
  intro st J A x y tx ty t hj ha hx hy e
  cases hx <;> cases hy <;> simp [tI2] at e
  subst e
  exact ⟨_, st, rfl, Fr.refl hj, .int _⟩
theorem o_b2 (f : Int → Int → Bool) : OpS (i2 fun i j => .bl (f i j)) (tB2 f) := by
  intro st J A x y tx ty t hj ha hx hy e
  cases hx <;> cases hy <;> simp [tB2] at e
  subst e
  exact ⟨_, st, rfl, Fr.refl hj, .bl _⟩
theorem o_i2c (c : Int → Int → Bool) (f : Int → Int → Int) : OpS (i2c c fun i j => .int (f i j)) (tI2c c f) := by
  intro st J A x y tx ty t hj ha hx hy e
  cases hx <;> cases hy <;> simp [tI2c] at e
  obtain ⟨e1, e⟩ := e
  subst e
  exact ⟨_, st, if_pos e1, Fr.refl hj, .int _⟩
def tSub := tI2 fun i j => i - j
def tShl := tI2c (fun i j => decide (0 ≤ j) && decide (j ≤ 1000000) && decide (i.natAbs < 2 ^ 64)) fun i j => i * 2 ^ j.toNat
def tShr := tI2c (fun _ j => decide (0 ≤ j)) fun i j => i / 2 ^ j.toNat
def tAnd := tI2 fun i j => Builtin.bitAnd i j
def tOr := tI2 fun i j => Builtin.bitOr i j
def tGt := tB2 fun i j => decide (j < i)
def tGe := tB2 fun i j => decide (j ≤ i)
theorem o_sub : OpS dSub tSub := o_i2 _
theorem o_shl : OpS dShl tShl := o_i2c _ _
theorem o_shr : OpS dShr tShr := o_i2c _ _
theorem o_and : OpS dAnd tAnd := o_i2 _
theorem o_or : OpS dOr tOr := o_i2 _
theorem o_gt : OpS dGt tGt := o_b2 _
def tNeg : T → Option T
  | .int i => some (.int (-i))
  | _ => none
theorem o_neg : UnS dNeg tNeg := by
  intro st J A x tx t hj ha hx e
  cases hx <;> simp [tNeg] at e
  subst e
  exact ⟨_, st, rfl, Fr.refl hj, .int _⟩
def tAdd : T → T → Option T
  | .int i, .int j => some (.int (i + j))
  | .tup xs, .tup ys => if xs.length + ys.length ≤ sizeLine then some (.tup (xs ++ ys)) else none
  | .str a, .str b => if a.length + b.length ≤ sizeLine then some (.str (a ++ b)) else none
  | .lst xs, .lst ys => if xs.length + ys.length ≤ sizeLine then some (.lst (xs ++ ys)) else none
  | _, _ => none
theorem o_add : OpS dAdd tAdd := by
  intro st J A x y tx ty t hj ha hx hy e
  cases hx <;> cases hy <;> simp only [tAdd, Option.some.injEq, reduceCtorEq] at e
  · subst e
    exact ⟨_, st, rfl, Fr.refl hj, .int _⟩
  · split at e
    · cases e
      exact ⟨_, st, if_pos ‹_›, Fr.refl hj, .str _⟩
    · cases e
  · rename_i h1 _ _ h2
    split at e
    · cases e
      refine ⟨_, st, if_pos ?_, Fr.refl hj, .tup (h1.append h2)⟩
      rw [h1.length, h2.length]
      assumption
    · cases e
  · rename_i k xs ts a1 a2 a3 a4 l ys us b1 b2 b3 b4
    split at e
    · cases e
      refine ⟨.loc st.length, st ++ [.lst (xs ++ ys)], ?_, Fr.app hj _, den_new hj ha (a4.append b4)⟩
      show (match st[k]?, st[l]? with | some (.lst xs), some (.lst ys) => _ | _, _ => _) = _
      rw [a3, b3]
      refine if_pos ?_
      rw [a4.length, b4.length]
      assumption
    · cases e
def tMul : T → T → Option T
  | .int i, .int j => if cMul i j = true then some (.int (i * j)) else none
  | .tup xs, .int k => if k = 1 then some (.tup xs) else if xs.isEmpty = false ∧ 2 ≤ k ∧ k ≤ 1000 ∧ xs.length ≤ 1000 then some (.tup (List.replicate k.toNat xs).flatten) else none
  | .str x, .int k => if 2 ≤ k ∧ 1 ≤ x.length ∧ x.length * k.toNat ≤ 1000000 then some (.str ⟨(List.replicate k.toNat x.cps).foldl (· ++ ·) #[]⟩) else none
  | .lst xs, .int k => if -(2 ^ 63) ≤ k ∧ k < 2 ^ 63 ∧ xs.length * k.toNat ≤ sizeLine then some (.lst (List.replicate k.toNat xs).flatten) else none
  | _, _ => none
theorem o_mul : OpS dMul tMul := by
  intro st J A x y tx ty t hj ha hx hy e
  cases hx <;> cases hy <;> simp only [tMul, reduceCtorEq] at e
  · split at e
    · cases e
      exact ⟨_, st, if_pos ‹_›, Fr.refl hj, .int _⟩
    · cases e
  · split at e
    · cases e
      exact ⟨_, st, if_pos ‹_›, Fr.refl hj, .str _⟩
    · cases e
  · rename_i h k
    split at e
    · cases e
      exact ⟨_, st, if_pos ‹_›, Fr.refl hj, .tup h⟩
    · split at e
      · cases e
        refine ⟨_, st, (if_neg ‹_›).trans (if_pos ?_), Fr.refl hj, .tup (h.rep _)⟩
        rw [h.isEmpty, h.length]
        assumption
      · cases e
  · rename_i k xs ts a1 a2 a3 a4 j
    split at e
    · cases e
      refine ⟨.loc st.length, st ++ [.lst (List.replicate j.toNat xs).flatten], ?_, Fr.app hj _, den_new hj ha (a4.rep _)⟩
      show (match st[k]? with | some (.lst xs) => _ | _ => _) = _
      rw [a3]
      refine if_pos ?_
      rw [a4.length]
      assumption
    · cases e
def tEqD (x y : T) : Option T := match toPT 64 x, toPT 64 y with
  | some d, some e => if SeqAt.shaped d = true ∧ SeqAt.shaped e = true then some (.bl (PyData.eqv d e)) else none
  | _, _ => none
def tEq : T → T → Option T
  | .str a, .str b => some (.bl (decide (a = b)))
  | x, y => tEqD x y
def tNeD (x y : T) : Option T := match toPT 64 x, toPT 64 y with
  | some d, some e => if SeqAt.shaped d = true ∧ SeqAt.shaped e = true then some (.bl (!PyData.eqv d e)) else none
  | _, _ => none
def tNe : T → T → Option T
  | .str a, .str b => some (.bl (!decide (a = b)))
  | x, y => tNeD x y
theorem o_eqD {st : S} {J A : Nst} {x y : D} {tx ty t : T} (hj : ∀ k, J k → Jar k st) (hx : Den st J A x tx) (hy : Den st J A y ty) (e : tEqD tx ty = some t) : ∃ d st', dEqD x y st = .ok d st' ∧ Fr st J st' J Off ∧ Den st' J A d t := by
  unfold tEqD at e
  split at e
  · rename_i d1 d2 e1 e2
    split at e
    · cases e
      refine ⟨_, st, ?_, Fr.refl hj, .bl _⟩
      unfold dEqD
      rw [den_toP hx e1, den_toP hy e2]
      exact if_pos ‹_›
    · cases e
  · cases e
theorem o_neD {st : S} {J A : Nst} {x y : D} {tx ty t : T} (hj : ∀ k, J k → Jar k st) (hx : Den st J A x tx) (hy : Den st J A y ty) (e : tNeD tx ty = some t) : ∃ d st', dNeD x y st = .ok d st' ∧ Fr st J st' J Off ∧ Den st' J A d t := by
  unfold tNeD at e
  split at e
  · rename_i d1 d2 e1 e2
    split at e
    · cases e
      refine ⟨_, st, ?_, Fr.refl hj, .bl _⟩
      unfold dNeD
      rw [den_toP hx e1, den_toP hy e2]
      exact if_pos ‹_›
    · cases e
  · cases e
theorem o_eq : OpS dEq tEq := by
  intro st J A x y tx ty t hj ha hx hy e
  by_cases h : ∃ a b, tx = .str a ∧ ty = .str b
  · obtain ⟨a, b, rfl, rfl⟩ := h
    cases hx
    cases hy
    cases e
    exact ⟨_, st, rfl, Fr.refl hj, .bl _⟩
  · have e1 : tEqD tx ty = some t := by
      rw [← e]
      cases tx <;> cases ty <;> first | rfl | exact (h ⟨_, _, rfl, rfl⟩).elim
    have e2 : dEq x y st = dEqD x y st := by
      cases hx <;> cases hy <;> first | rfl | exact (h ⟨_, _, rfl, rfl⟩).elim
    rw [e2]
    exact o_eqD hj hx hy e1
theorem o_ne : OpS dNe tNe := by
  intro st J A x y tx ty t hj ha hx hy e
  by_cases h : ∃ a b, tx = .str a ∧ ty = .str b
  · obtain ⟨a, b, rfl, rfl⟩ := h
    cases hx
    cases hy
    cases e
    exact ⟨_, st, rfl, Fr.refl hj, .bl _⟩
  · have e1 : tNeD tx ty = some t := by
      rw [← e]
      cases tx <;> cases ty <;> first | rfl | exact (h ⟨_, _, rfl, rfl⟩).elim
    have e2 : dNe x y st = dNeD x y st := by
      cases hx <;> cases hy <;> first | rfl | exact (h ⟨_, _, rfl, rfl⟩).elim
    rw [e2]
    exact o_neD hj hx hy e1
def tIsN : T → T → Option T
  | .opq _, _ => none
  | .non, .non => some (.bl true)
  | _, .non => some (.bl false)
  | _, _ => none
def tNotN : T → T → Option T
  | .opq _, _ => none
  | .non, .non => some (.bl false)
  | _, .non => some (.bl true)
  | _, _ => none
theorem o_notN : OpS dNotN tNotN := by
  intro st J A x y tx ty t hj ha hx hy e
  cases hx <;> cases hy <;> simp [tNotN] at e <;> subst e <;> exact ⟨_, st, rfl, Fr.refl hj, .bl _⟩
def intsT : List T → Option (List Int)
  | [] => some []
  | .int i :: xs => (intsT xs).map (i :: ·)
  | _ :: _ => none
theorem den_ints {st : S} {J A : Nst} : ∀ {xs : List D} {ts : List T} {ns : List Int}, DenL st J A xs ts → intsT ts = some ns → intsOf xs = some ns
  | _, _, _, .nil, e => e
  | _, _, _, .cons h1 h2, e => by
    cases h1 <;> simp [intsT] at e
    obtain ⟨ns, e1, rfl⟩ := e
    rw [intsOf, den_ints h2 e1]
    rfl
def tIn (neg : Bool) (x y : T) : Option T := match toPT 64 x, toPT 65 y with
  | some d, some (.list ds) => if SeqAt.shaped d = true ∧ SeqAt.shaped (.list ds) = true then some (.bl (if neg = true then !(ds.any fun z => PyData.eqv z d) else ds.any fun z => PyData.eqv z d)) else none
  | some d, some (.tuple ds) => if SeqAt.shaped d = true ∧ SeqAt.shaped (.tuple ds) = true then some (.bl (if neg = true then !(ds.any fun z => PyData.eqv z d) else ds.any fun z => PyData.eqv z d)) else none
  | _, _ => none
theorem o_in (neg : Bool) : OpS (dIn neg) (tIn neg) := by
  intro st J A x y tx ty t hj ha hx hy e
  unfold tIn at e
  split at e
  · rename_i e1 e2
    split at e
    · cases e
      refine ⟨_, st, ?_, Fr.refl hj, .bl _⟩
      unfold dIn
      rw [den_toP hx e1, den_toP hy e2]
      exact if_pos ‹_›
    · cases e
  · rename_i e1 e2
    split at e
    · cases e
      refine ⟨_, st, ?_, Fr.refl hj, .bl _⟩
      unfold dIn
      rw [den_toP hx e1, den_toP hy e2]
      exact if_pos ‹_›
    · cases e
  · cases e
theorem den_at {st : S} {J A : Nst} {xs : List D} {ts : List T} {i : Int} {t : T} (h : DenL st J A xs ts) (e : atI ts i = some t) : ∃ x, atI xs i = some x ∧ Den st J A x t := by
  unfold L2.atI at e ⊢
  rw [h.length]
  obtain ⟨j, e1, e2⟩ := Option.bind_eq_some_iff.mp e
  obtain ⟨x, a1, a2⟩ := h.get e2
  exact ⟨x, by rw [e1]; exact a1, a2⟩
def tIx : T → T → Option T
  | .tup xs, .int i => atI xs i
  | .lst xs, .int i => atI xs i
  | .src xs, .int i => atI xs i
  | _, _ => none
theorem o_ix : OpS dIx tIx := by
  intro st J A x y tx ty t hj ha hx hy e
  cases hx <;> cases hy <;> simp only [tIx, reduceCtorEq] at e
  · rename_i h i
    obtain ⟨x, a1, a2⟩ := den_at h e
    exact ⟨x, st, by simp only [dIx, a1], Fr.refl hj, a2⟩
  · rename_i k xs ts h1 h2 h3 h4 i
    obtain ⟨x, a1, a2⟩ := den_at h4 e
    exact ⟨x, st, by simp only [dIx, items_lst h3, a1], Fr.refl hj, a2⟩
  · rename_i k xs ts h1 h2 h3 h4 i
    obtain ⟨x, a1, a2⟩ := den_at h4 e
    exact ⟨x, st, by simp only [dIx, items_src h3, a1], Fr.refl hj, a2⟩
def cutT (xs : List T) (lo hi : Option Int) : List T := (xs.drop (HT.sIx xs.length 0 lo)).take (HT.sIx xs.length xs.length hi - HT.sIx xs.length 0 lo)
theorem den_cut {st : S} {J A : Nst} {xs : List D} {ts : List T} (h : DenL st J A xs ts) (lo hi : Option Int) : DenL st J A (cutD xs lo hi) (cutT ts lo hi) := by
  unfold cutD cutT
  rw [h.length]
  exact (h.drop _).take _
def tSl : T → Option Int → Option Int → Option T
  | .tup xs, lo, hi => some (.tup (cutT xs lo hi))
  | .lst xs, lo, hi => some (.lst (cutT xs lo hi))
  | .src xs, lo, hi => some (.lst (cutT xs lo hi))
  | _, _, _ => none
theorem o_sl : SlS dSl tSl := by
  intro st J A x tx t lo hi hj ha hx e
  cases hx <;> simp only [tSl, Option.some.injEq, reduceCtorEq] at e
  · subst e
    exact ⟨_, st, rfl, Fr.refl hj, .tup (den_cut ‹_› lo hi)⟩
  · rename_i k xs ts h1 h2 h3 h4
    subst e
    exact ⟨_, _, by simp only [dSl, items_lst h3], Fr.app hj _, den_new hj ha (den_cut h4 lo hi)⟩
  · rename_i k xs ts h1 h2 h3 h4
    subst e
    exact ⟨_, _, by simp only [dSl, items_src h3], Fr.app hj _, den_new hj ha (den_cut h4 lo hi)⟩
def tMax : List T → Option T
  | [.int i, .int j] => some (.int (if j > i then j else i))
  | _ => none
def tMin : List T → Option T
  | [.int i, .int j] => some (.int (if j < i then j else i))
  | _ => none
def tAbs : List T → Option T
  | [.int i] => some (.int (if i < 0 then -i else i))
  | _ => none
theorem cs2 {st : S} {J A : Nst} {xs : List D} {i j : Int} (h : DenL st J A xs [.int i, .int j]) : xs = [.int i, .int j] := by
  cases h with
  | cons h1 h2 => cases h2 with
    | cons h3 h4 => cases h4; cases h1; cases h3; rfl
theorem cs1 {st : S} {J A : Nst} {xs : List D} {t : T} (h : DenL st J A xs [t]) : ∃ x, xs = [x] ∧ Den st J A x t := by
  cases h with
  | cons h1 h2 => cases h2; exact ⟨_, rfl, h1⟩
theorem o_max : CallS dMax tMax := by
  intro st J A xs ts t hj ha h e
  unfold tMax at e
  split at e
  · cases e
    rw [cs2 h]
    exact ⟨_, st, rfl, Fr.refl hj, .int _⟩
  · cases e
theorem o_min : CallS dMin tMin := by
  intro st J A xs ts t hj ha h e
  unfold tMin at e
  split at e
  · cases e
    rw [cs2 h]
    exact ⟨_, st, rfl, Fr.refl hj, .int _⟩
  · cases e
def tInt : List T → Option T
  | [.int i] => some (.int i)
  | [.bl k] => some (.int (if k then 1 else 0))
  | [.str x] => if x.length ≤ 640 then (PySem.intText? x).map .int else none
  | _ => none
def tLen : List T → Option T
  | [.tup xs] => some (.int xs.length)
  | [.str x] => if x.length ≤ sizeLine then some (.int x.length) else none
  | [.lst xs] => some (.int xs.length)
  | [.src xs] => some (.int xs.length)
  | _ => none
theorem o_len : CallS dLen tLen := by
  intro st J A xs ts t hj ha h e
  unfold tLen at e
  split at e
  · cases e
    obtain ⟨x, rfl, h'⟩ := cs1 h
    cases h' with
    | tup h => exact ⟨_, st, by show Res.ok (D.int _) st = _; rw [h.length], Fr.refl hj, .int _⟩
  · split at e
    · cases e
      obtain ⟨x, rfl, h'⟩ := cs1 h
      cases h'
      exact ⟨_, st, if_pos ‹_›, Fr.refl hj, .int _⟩
    · cases e
  · cases e
    obtain ⟨x, rfl, h'⟩ := cs1 h
    cases h' with
    | lst h1 h2 h3 h4 => exact ⟨_, st, by simp only [dLen, items_lst h3, h4.length], Fr.refl hj, .int _⟩
  · cases e
    obtain ⟨x, rfl, h'⟩ := cs1 h
    cases h' with
    | src h1 h2 h3 h4 => exact ⟨_, st, by simp only [dLen, items_src h3, h4.length], Fr.refl hj, .int _⟩
  · cases e
def tTuple : List T → Option T
  | [.tup xs] => some (.tup xs)
  | [.lst xs] => some (.tup xs)
  | [.src xs] => some (.tup xs)
  | _ => none
theorem o_tuple : CallS dTuple tTuple := by
  intro st J A xs ts t hj ha h e
  unfold tTuple at e
  split at e
  · cases e
    obtain ⟨x, rfl, h'⟩ := cs1 h
    cases h' with
    | tup h => exact ⟨_, st, rfl, Fr.refl hj, .tup h⟩
  · cases e
    obtain ⟨x, rfl, h'⟩ := cs1 h
    cases h' with
    | lst h1 h2 h3 h4 => exact ⟨_, st, by simp only [dTuple, items_lst h3], Fr.refl hj, .tup h4⟩
  · cases e
    obtain ⟨x, rfl, h'⟩ := cs1 h
    cases h' with
    | src h1 h2 h3 h4 => exact ⟨_, st, by simp only [dTuple, items_src h3], Fr.refl hj, .tup h4⟩
  · cases e
/-- what an operation that makes a list says -/
def CallF (f : List D → S → Res D) (g : List T → Option T) : Prop :=
  ∀ (st : S) (J A : Nst) (n0 : Nat) (b : Bs) (xs : List D) (ts : List T) (t : T), (∀ k, J k → Jar k st) → (∀ k, A k → k < st.length) → b.n0 ≤ st.length → DenL st J A xs ts → g ts = some t → ∃ d st', f xs st = .ok d st' ∧ Fr st J st' J Off ∧ RF b st' J A d t
theorem s_callF {MS : List Nat} {u c : Bool} {ml : DA} {vl : VA} {f : List D → S → Res D} {g : List T → Option T} (ho : CallF f g) (h1 : ASim MS u c ml vl) : FSim MS u c (eCall f ml) (vCall g vl) := by
  constructor
  intro b E ρ st J Q X hr hv
  refine GRes.bind (h1 b E ρ st J _ X hr hv) fun x st1 J1 E1 t r1 _ f1 o1 d1 q1 => ?_
  obtain ⟨r, e, q⟩ := Ok_iff.mp q1
  obtain ⟨d, st', e', f', d'⟩ := ho st1 J1 _ 0 b x t r r1.jar (fun k z => r1.bd_lt z) r1.nl d1 e
  rw [e']
  exact GRes.ok r1 f' d' q
def tList : List T → Option T
  | [.tup xs] => some (.lst xs)
  | [.lst xs] => some (.lst xs)
  | [.src xs] => some (.lst xs)
  | _ => none
theorem o_list : CallF dList tList := by
  intro st J A n0 b xs ts t hj ha hb h e
  unfold tList at e
  split at e
  · cases e
    obtain ⟨x, rfl, h'⟩ := cs1 h
    cases h' with
    | tup h => exact ⟨_, _, rfl, Fr.app hj _, rf_new hb hj ha h⟩
  · cases e
    obtain ⟨x, rfl, h'⟩ := cs1 h
    cases h' with
    | lst h1 h2 h3 h4 => exact ⟨_, _, by simp only [dList, items_lst h3], Fr.app hj _, rf_new hb hj ha h4⟩
  · cases e
    obtain ⟨x, rfl, h'⟩ := cs1 h
    cases h' with
    | src h1 h2 h3 h4 => exact ⟨_, _, by simp only [dList, items_src h3], Fr.app hj _, rf_new hb hj ha h4⟩
  · cases e
def tRepr : List T → Option T
  | [x] => match toPT 64 x with
    | some d => if d.showable = true ∧ d.hasDict = false ∧ d.depth ≤ 70 ∧ d.shown.length ≤ sizeLine then some (.str d.shown) else none
    | none => none
  | _ => none
theorem o_repr : CallS dRepr tRepr := by
  intro st J A xs ts t hj ha h e
  unfold tRepr at e
  split at e
  · obtain ⟨x, rfl, h'⟩ := cs1 h
    split at e
    · rename_i e1
      split at e
      · cases e
        refine ⟨_, st, ?_, Fr.refl hj, .str _⟩
        unfold dRepr
        simp only [den_toP h' e1]
        exact if_pos ‹_›
      · cases e
    · cases e
  · cases e
def tyNameT : T → Option String
  | .non => some "NoneType"
  | .bl _ => some "bool"
  | .int _ => some "int"
  | .str _ => some "str"
  | .tup _ => some "tuple"
  | .lst _ => some "list"
  | .src _ => some "list"
  | _ => none
def tIsi : List T → Option T
  | [x, .opq (.ty n)] => (tyNameT x).bind fun m => (kitB m n).map .bl
  | _ => none
theorem den_ty {st : S} {J A : Nst} {x : D} {t : T} {n : String} (h : Den st J A x t) (e : tyNameT t = some n) : tyName x st = some n := by
  cases h with
  | lst h1 h2 h3 h4 => simp only [tyName, items_lst h3]; exact e
  | src h1 h2 h3 h4 => simp only [tyName, items_src h3]; exact e
  | jar _ => cases e
  | opq _ => cases e
  | dk _ _ _ _ => cases e
  | dx _ _ _ _ => cases e
  | fx _ _ _ _ => cases e
  | _ => exact e
theorem o_isi : CallS dIsi tIsi := by
  intro st J A xs ts t hj ha h e
  unfold tIsi at e
  split at e
  · obtain ⟨m, e1, e2⟩ := Option.bind_eq_some_iff.mp e
    obtain ⟨q, e3, e4⟩ := Option.map_eq_some_iff.mp e2
    subst e4
    cases h with
    | cons h1 h2 =>
      obtain ⟨y, rfl, h3⟩ := cs1 h2
      cases h3
      refine ⟨_, st, ?_, Fr.refl hj, .bl _⟩
      simp only [dIsi, den_ty h1 e1, e3]
  · cases e
open Classical in
noncomputable def sortT (ts : List T) : Option (List T) := match optAll (toPT 64) ts with
  | some ds => if PySem.W.AllAlike ds ∧ PySem.W.Sortable ds ∧ ts.length ≤ sizeLine ∧ (∀ d ∈ ds, d.depth ≤ 70) then some ((ts.zip ds).mergeSort (PySem.W.dataLe false fun p => p.2) |>.map (·.1)) else none
  | none => none
theorem denL_iff {st : S} {J A : Nst} : ∀ {L : List (D × T)}, (∀ p ∈ L, Den st J A p.1 p.2) → DenL st J A (L.map (·.1)) (L.map (·.2))
  | [], _ => .nil
  | p :: L, h => .cons (h p (by simp)) (denL_iff fun q hq => h q (by simp [hq]))
theorem denL_mem {st : S} {J A : Nst} : ∀ {xs : List D} {ts : List T}, DenL st J A xs ts → ∀ p ∈ xs.zip ts, Den st J A p.1 p.2
  | _, _, .nil => by simp
  | _, _, .cons h1 h2 => fun p hp => by
    rw [List.zip_cons_cons, List.mem_cons] at hp
    rcases hp with rfl | hp
    · exact h1
    · exact denL_mem h2 p hp
theorem zip_map1 {α β γ : Type} : ∀ (xs : List α) (ts : List β) (ds : List γ), xs.length = ts.length → ((xs.zip ts).zip ds).map (fun p => (p.1.1, p.2)) = xs.zip ds
  | [], [], _, _ => by simp
  | [], _ :: _, _, h => by simp at h
  | _ :: _, [], _, h => by simp at h
  | x :: xs, t :: ts, [], _ => by simp
  | x :: xs, t :: ts, d :: ds, h => by simp [zip_map1 xs ts ds (by simpa using h)]
theorem zip_map2 {α β γ : Type} : ∀ (xs : List α) (ts : List β) (ds : List γ), xs.length = ts.length → ((xs.zip ts).zip ds).map (fun p => (p.1.2, p.2)) = ts.zip ds
  | [], [], _, _ => by simp
  | [], _ :: _, _, h => by simp at h
  | _ :: _, [], _, h => by simp at h
  | x :: xs, t :: ts, [], _ => by simp
  | x :: xs, t :: ts, d :: ds, h => by simp [zip_map2 xs ts ds (by simpa using h)]
theorem den_sort {st : S} {J A : Nst} {xs : List D} {ts us : List T} (h : DenL st J A xs ts) (e : sortT ts = some us) : ∃ ys, sortP st xs = some ys ∧ DenL st J A ys us := by
  unfold sortT at e
  split at e
  · rename_i ds e1
    split at e
    · rename_i hc
      cases e
      have hP := den_optAll (fun h' e' => den_toP h' e') h e1
      have l1 : (((xs.zip ts).zip ds).mergeSort (PySem.W.dataLe false fun p => p.2)).map (fun p => (p.1.1, p.2)) = (xs.zip ds).mergeSort (PySem.W.dataLe false fun p => p.2) := by
        rw [← zip_map1 xs ts ds h.length]
        exact PySem.W.sort_maps (fun p : (D × T) × PyData => (p.1.1, p.2)) fun a _ b _ => rfl
      have l2 : (((xs.zip ts).zip ds).mergeSort (PySem.W.dataLe false fun p => p.2)).map (fun p => (p.1.2, p.2)) = (ts.zip ds).mergeSort (PySem.W.dataLe false fun p => p.2) := by
        rw [← zip_map2 xs ts ds h.length]
        exact PySem.W.sort_maps (fun p : (D × T) × PyData => (p.1.2, p.2)) fun a _ b _ => rfl
      refine ⟨((xs.zip ds).mergeSort (PySem.W.dataLe false fun p => p.2)).map (·.1), ?_, ?_⟩
      · unfold sortP
        rw [hP]
        dsimp only
        rw [if_pos (by rw [h.length]; exact hc)]
      · rw [← l1, ← l2, List.map_map, List.map_map]
        have g := denL_iff (st := st) (J := J) (A := A) (L := (((xs.zip ts).zip ds).mergeSort (PySem.W.dataLe false fun p => p.2)).map (·.1)) fun p hp => by
          obtain ⟨q, hq, rfl⟩ := List.mem_map.mp hp
          rw [List.mem_mergeSort] at hq
          exact denL_mem h _ (List.of_mem_zip hq).1
        rw [List.map_map, List.map_map] at g
        exact g
    · cases e
  · cases e
def keyT1 : T → Option Key
  | .int i => some (.inl i)
  | .str x => some (.inr x)
  | _ => none
def keyT : T → Option (List Key)
  | .tup xs => optAll keyT1 xs
  | _ => none
def pairKeysT : List T → Option (List (List Key × T))
  | [] => some []
  | .tup [k, _] :: r => match keyT k, pairKeysT r with
    | some ks, some l => some ((ks, k) :: l)
    | _, _ => none
  | _ => none
def DenK (st : S) (J A : Nst) (l : List (List Key × D)) (m : List (List Key × T)) : Prop := l.map (·.1) = m.map (·.1) ∧ DenL st J A (l.map (·.2)) (m.map (·.2))
theorem DenK.cons {st : S} {J A : Nst} {k : List Key} {d : D} {t : T} {l : List (List Key × D)} {m : List (List Key × T)} (h : Den st J A d t) (g : DenK st J A l m) : DenK st J A ((k, d) :: l) ((k, t) :: m) := ⟨by simp [g.1], .cons h g.2⟩
theorem DenK.append {st : S} {J A : Nst} {l l' : List (List Key × D)} {m m' : List (List Key × T)} (h : DenK st J A l m) (g : DenK st J A l' m') : DenK st J A (l ++ l') (m ++ m') := ⟨by simp [h.1, g.1], by rw [List.map_append, List.map_append]; exact h.2.append g.2⟩
noncomputable def tSortDict : T → Option T
  | .lst xs => (pairKeysT xs).bind fun l => (sortT ((dedup l).map (·.2))).map .lst
  | .src xs => (pairKeysT xs).bind fun l => (sortT ((dedup l).map (·.2))).map .lst
  | _ => none
noncomputable def vSortDict (v : VE) : VE := fun E Q X => v E (fun x E => Ok (tSortDict x) fun r => Q r E) X
end Rol

namespace Rol
open PySem L2 PySem.Spec
open PyProof.Rows hiding St
theorem s_up {α β : Type} {R : RR α β} {MS : List Nat} {u c : Bool} {m : Nv → S → Res α} {v : VG β} (h : GSim R MS false c m v) : GSim R MS u c m v := by
  constructor
  intro b E ρ st J Q X hr hv
  have g := h b E ρ st J Q X hr hv
  cases e : m ρ st with
  | ok a st' =>
    rw [e] at g
    obtain ⟨J', E', t, h1, h2, h3, h4, h5, h6⟩ := g
    exact ⟨J', E', t, h1, h2, h3.weak (fun _ _ z => by cases z.1), fun _ => h4 rfl, h5, h6⟩
  | exc n w st' =>
    rw [e] at g
    obtain ⟨J', t, h1, h2, h3⟩ := g
    exact ⟨J', t, h1.weak (fun _ _ z => by cases z.1), h2, h3⟩
  | stuck => rw [e] at g; exact g
/-- a list repeated -/
def vRepL (a k : VE) : VE := fun E Q X => v2 tMul a k E (fun t E => (∃ xs, t = .lst xs) ∧ Q t E) X
inductive PM (MS : List Nat) (st : S) (J A : Nst) : List Nat → List D → List T → List Nat → Prop
  | nil : PM MS st J A [] [] [] []
  | cons {i : Nat} {is : List Nat} {x : D} {xs : List D} {t : T} {ts : List T} {W : List Nat} : i ∉ MS → Den st J A x t → PM MS st J A is xs ts W → PM MS st J A (i :: is) (x :: xs) (t :: ts) W
  | own {i : Nat} {is : List Nat} {k : Nat} {o : O} {t : T} {xs : List D} {ts : List T} {W : List Nat} : i ∈ MS → ¬ J k → st[k]? = some o → DenO st J A o t → PM MS st J A is xs ts W → PM MS st J A (i :: is) (.loc k :: xs) (t :: ts) (k :: W)
structure MSim (MS is : List Nat) (ml : DA) (vl : VA) : Prop where
  run : ∀ (b : Bs) (E : Env) (ρ : Nv) (st : S) (J : Nst) (Q : List T → Env → Prop) (X : Xp), Rl b MS E ρ st J → vl E Q X → match ml ρ st with
    | .ok xs st' => ∃ J' ts W, Fr st J st' J' Off ∧ W.Nodup ∧ (∀ k ∈ W, st.length ≤ k ∧ k < st'.length) ∧ PM MS st' J' (fun j => Bd b.C MS E ρ true j ∨ j ∈ W) is xs ts W ∧ Q ts E
    | .exc n w st' => ∃ J' t, Fr st J st' J' Off ∧ Den st' J' b.C w t ∧ X n t
    | .stuck => False
section
variable {MS is : List Nat} {fs : Bool} {m : DE} {v : VE} {ml : DA} {vl : VA}
theorem m_nil : MSim MS [] aNil vaNil := MSim.mk fun b E ρ st J Q X hr hv => ⟨J, [], [], Fr.refl hr.jar, List.nodup_nil, (fun _ z => (by cases z)), .nil, hv⟩
/-- the state keeps away from new lists, too -/
theorem Rl.moreC {b : Bs} {E : Env} {ρ : Nv} {st st1 : S} {J J1 : Nst} (hr : Rl b MS E ρ st J) (f : Fr st J st1 J1 Off) {W : List Nat} (hw : ∀ k ∈ W, st.length ≤ k ∧ k < st1.length) : Rl ⟨b.st, b.J, fun k => b.C k ∨ k ∈ W, b.n0, b.fs⟩ MS E ρ st1 J1 := by
  have r1 := hr.next f
  have hA : ∀ k, k < st.length → Bd (fun k => b.C k ∨ k ∈ W) MS E ρ true k → Bd b.C MS E ρ true k := fun k hk z => by
    rcases z with (z | z) | z
    · exact .inl z
    · have := (hw k z).1
      omega
    · exact .inr z
  refine ⟨r1.fr, r1.nl, r1.len, fun k z => ?_, fun k o z => ?_, fun i t h1 h2 => ?_, fun i t h1 h2 => ?_, r1.d⟩
  · rcases z with z | z
    · exact r1.cl k z
    · exact (hw k z).2
  · rcases z with z | z
    · exact r1.co k o z
    · have := hr.own_lt o
      have := (hw k z).1
      omega
  · obtain ⟨d, e1, e2⟩ := hr.n i t h1 h2
    exact ⟨d, e1, e2.mono f (fun _ _ z => z.elim) hA⟩
  · obtain ⟨k, o, e1, e2, e3, e4, e5⟩ := hr.m i t h1 h2
    have hk : k < st.length := (List.getElem?_eq_some_iff.mp e4).1
    exact ⟨k, o, e1, e2, fun z => e3 ((f.j k hk).mp z), (f.g k hk e3 (fun z => z)).trans e4, e5.mono f (fun _ _ z => z.elim) hA⟩
theorem m_consF {i : Nat} (h1 : FSim MS false true m v) (h2 : MSim MS is ml vl) (hi : MS.contains i = true := by rfl) : MSim MS (i :: is) (aCons m ml) (vaCons v vl) := by
  constructor
  intro b E ρ st J Q X hr hv
  have g := h1 ⟨b.st, b.J, b.C, st.length, b.fs⟩ E ρ st J _ X hr.at hv
  unfold aCons
  cases e : m ρ st with
  | ok x st1 =>
    rw [e] at g
    obtain ⟨J1, E1, t, r1, _, f1, e1, d1, q1⟩ := g
    have e1 := e1 rfl
    subst e1
    obtain ⟨k, o, rfl, hk, hA, hJ, hs, hd⟩ := d1
    replace hk : st.length ≤ k := hk
    have hk1 : k < st1.length := (List.getElem?_eq_some_iff.mp hs).1
    have f1' : Fr st J st1 J1 Off := f1.weak fun _ _ z => by cases z.1
    have rb := hr.moreC f1' (W := [k]) (fun j z => by simp only [List.mem_singleton] at z; subst z; exact ⟨hk, hk1⟩)
    have g2 := h2.run _ E1 ρ st1 J1 _ X rb q1
    simp only [Res.bind_ok]
    cases e2 : ml ρ st1 with
    | ok xs st2 =>
      rw [e2] at g2
      obtain ⟨J2, ts, W, f2, hn, hw, pm, q2⟩ := g2
      have eA : (fun j => Bd (fun k' => b.C k' ∨ k' ∈ [k]) MS E1 ρ true j ∨ j ∈ W) = (fun j => Bd b.C MS E1 ρ true j ∨ j ∈ k :: W) := by
        funext j
        apply propext
        unfold Bd
        simp only [List.mem_cons, List.not_mem_nil, or_false]
        constructor
        · rintro (((z | z) | z) | z)
          · exact .inl (.inl z)
          · exact .inr (.inl z)
          · exact .inl (.inr z)
          · exact .inr (.inr z)
        · rintro ((z | z) | (z | z))
          · exact .inl (.inl (.inl z))
          · exact .inl (.inr z)
          · exact .inl (.inl (.inr z))
          · exact .inr z
      rw [eA] at pm
      refine ⟨J2, t :: ts, k :: W, f1'.trans f2 (fun _ _ z => z) (fun _ _ z => z), List.nodup_cons.mpr ⟨fun z => by have := (hw k z).1; omega, hn⟩, fun j z => ?_, .own (List.contains_iff_mem.mp hi) (fun z => hJ ((f2.j k hk1).mp z)) ((f2.g k hk1 hJ (fun z => z)).trans hs) (hd.mono f2 (fun _ _ z => z.elim) (fun j hj z => ?_)) pm, q2⟩
      · rcases List.mem_cons.mp z with z | z
        · subst z
          exact ⟨hk, Nat.lt_of_lt_of_le hk1 f2.le⟩
        · exact ⟨Nat.le_trans f1.le (hw j z).1, (hw j z).2⟩
      · rcases z with z | z
        · exact .inl z
        · rcases List.mem_cons.mp z with z | z
          · exact .inr z
          · have := (hw j z).1
            omega
    | exc n w st2 =>
      rw [e2] at g2
      obtain ⟨J2, t2, f2, d2, q2⟩ := g2
      exact ⟨J2, t2, f1'.trans f2 (fun _ _ z => z) (fun _ _ z => z), d2.mono (Fr.refl f2.a (O := Off)) (fun _ _ z => z.elim) (fun _ _ z => .inl z), q2⟩
    | stuck => rw [e2] at g2; exact g2
  | exc n w st1 =>
    rw [e] at g
    obtain ⟨J1, t, f1, d1, q1⟩ := g
    exact ⟨J1, t, f1.weak (fun _ _ z => by cases z.1), d1, q1⟩
  | stuck => rw [e] at g; exact g
def wParM (is : List Nat) (l : VA) : VS := fun E K => l E (fun ts E => K.nx (setMany is ts E)) K.ex
theorem setPM {b : Bs} {st : S} {J A : Nst} : ∀ {is : List Nat} {xs : List D} {ts : List T} {W : List Nat} {E : Env} {ρ : Nv}, PM MS st J A is xs ts W → W.Nodup → Rl ⟨b.st, b.J, fun k => b.C k ∨ k ∈ W, b.n0, b.fs⟩ MS E ρ st J → (∀ j, Bd (fun k => b.C k ∨ k ∈ W) MS E ρ true j → A j) → (∀ k ∈ W, b.st.length ≤ k ∧ ¬ b.C k) →
    Rl b MS (setMany is ts E) ((is.zip xs).foldl (fun ρ p => ρ.set p.1 (some p.2)) ρ) st J ∧ ∀ j, Own MS (setMany is ts E) ((is.zip xs).foldl (fun ρ p => ρ.set p.1 (some p.2)) ρ) j → Own MS E ρ j ∨ j ∈ W
  | _, _, _, _, E, ρ, .nil, _, hr, _, _ => by
    have e : (fun k => b.C k ∨ k ∈ ([] : List Nat)) = b.C := by funext k; simp
    have hr' : Rl b MS E ρ st J := by
      have := hr
      rw [e] at this
      exact this
    exact ⟨hr', fun j z => .inl z⟩
  | _, _, _, W, E, ρ, .cons (i := i) (x := x) (t := t) hi d pm, hn, hr, hA, hW => by
    have r1 := hr.set hi (d := x) (t := t) (d.mono (Fr.refl hr.jar (O := Off)) (fun _ _ z => z.elim) (fun j _ z => hA j z))
    have o1 := own_set (E := E) (ρ := ρ) hi (some t) (some x)
    have g := setPM pm hn r1 (fun j z => hA j (by unfold Bd at z ⊢; rw [o1] at z; exact z)) hW
    refine ⟨g.1, fun j z => ?_⟩
    rcases g.2 j z with z | z
    · rw [o1] at z
      exact .inl z
    · exact .inr z
  | _, _, _, _, E, ρ, .own (i := i) (k := k) (o := o) (t := t) (W := W) hi hj hs hd pm, hn, hr, hA, hW => by
    have hn' := List.nodup_cons.mp hn
    have hk := hW k (by simp)
    have hno : ¬ Own MS E ρ k := fun z => hr.co k z (.inr (by simp))
    have sub : ∀ j, (Bd (fun j => b.C j ∨ j ∈ W) MS E ρ true j ∨ j = k) → Bd (fun j => b.C j ∨ j ∈ k :: W) MS E ρ true j := fun j z => by
      rcases z with ((z | z) | z) | z
      · exact .inl (.inl z)
      · exact .inl (.inr (by simp [z]))
      · exact .inr z
      · exact .inl (.inr (by simp [z]))
    have weak : Rl ⟨b.st, b.J, fun j => b.C j ∨ j ∈ W, b.n0, b.fs⟩ MS E ρ st J := by
      refine ⟨hr.fr, hr.nl, hr.len, fun j z => hr.cl j (z.elim .inl fun z => .inr (by simp [z])), fun j o z => hr.co j o (z.elim .inl fun z => .inr (by simp [z])), fun i t h1 h2 => ?_, fun i t h1 h2 => ?_, hr.d⟩
      · obtain ⟨d, e1, e2⟩ := hr.n i t h1 h2
        exact ⟨d, e1, e2.mono (Fr.refl hr.jar (O := Off)) (fun _ _ z => z.elim) (fun j _ z => sub j (.inl z))⟩
      · obtain ⟨l, o2, e1, e2, e3, e4, e5⟩ := hr.m i t h1 h2
        exact ⟨l, o2, e1, e2, e3, e4, e5.mono (Fr.refl hr.jar (O := Off)) (fun _ _ z => z.elim) (fun j _ z => sub j (.inl z))⟩
    have r1 := weak.setF (u := false) (c := true) (i := i) hi hk.1 (fun z => z.elim hk.2 hn'.1) hj hs hno (hd.mono (Fr.refl hr.jar (O := Off)) (fun _ _ z => z.elim) (fun j _ z => hA j (sub j z))) (fun j t h1 h2 => by
        obtain ⟨d, e1, e2⟩ := hr.n j t h1 h2
        exact ⟨d, e1, e2.mono (Fr.refl hr.jar (O := Off)) (fun _ _ z => z.elim) (fun j _ z => sub j z)⟩) (fun j t h1 h2 => by
        obtain ⟨l, o2, e1, e2, e3, e4, e5⟩ := hr.m j t h1 h2
        exact ⟨l, o2, e1, e2, e3, e4, e5.mono (Fr.refl hr.jar (O := Off)) (fun _ _ z => z.elim) (fun j _ z => sub j z)⟩)
    have ow : ∀ j, Own MS (E.set i (some t)) (ρ.set i (some (.loc k))) j → Own MS E ρ j ∨ j = k := fun j ⟨x, h1, ⟨t', h2⟩, h3⟩ => by
      by_cases e : i = x
      · subst e
        by_cases hl : i < ρ.length
        · rw [List.getElem?_set_self hl] at h3
          cases h3
          exact .inr rfl
        · rw [List.getElem?_eq_none (by rw [List.length_set]; omega)] at h3
          cases h3
      · rw [List.getElem?_set_ne e] at h2 h3
        exact .inl ⟨x, h1, ⟨t', h2⟩, h3⟩
    have g := setPM pm hn'.2 r1 (fun j z => hA j (by
      rcases z with z | ⟨_, z⟩
      · exact sub j (.inl (.inl z))
      · rcases ow j z with z | z
        · exact .inr ⟨rfl, z⟩
        · exact sub j (.inr z))) (fun j z => hW j (by simp [z]))
    refine ⟨g.1, fun j z => ?_⟩
    rcases g.2 j z with z | z
    · rcases ow j z with z | z
      · exact .inl z
      · exact .inr (by simp [z])
    · exact .inr (by simp [z])
theorem PM.len {st : S} {J A : Nst} : ∀ {is : List Nat} {xs : List D} {ts : List T} {W : List Nat}, PM MS st J A is xs ts W → xs.length = is.length
  | _, _, _, _, .nil => rfl
  | _, _, _, _, .cons _ _ p => by simp [p.len]
  | _, _, _, _, .own _ _ _ _ p => by simp [p.len]
theorem z_parM (h : MSim MS is ml vl) : SSim fs MS (sPar is ml) (wParM is vl) := by
  constructor
  intro b E ρ st J K hf hr hv
  have g := h.run b E ρ st J _ K.ex hr hv
  show SRes b MS E ρ st J K ((ml ρ st).out ρ _)
  cases e : ml ρ st with
  | ok xs st1 =>
    rw [e] at g
    obtain ⟨J1, ts, W, f1, hn, hw, pm, q⟩ := g
    have r1 := hr.moreC f1 hw
    have g2 := setPM (b := b) pm hn r1 (fun j z => by
      rcases z with (z | z) | z
      · exact .inl (.inl z)
      · exact .inr z
      · exact .inl (.inr z)) (fun k z => ⟨Nat.le_trans hr.fr.le (hw k z).1, fun c => by have := hr.cl k c; have := (hw k z).1; omega⟩)
    simp only [Res.out_ok]
    rw [if_pos pm.len]
    exact ⟨J1, _, g2.1, f1.weak fun _ _ z => z.elim, fun j hj z => (g2.2 j z).elim (fun z => z) (fun z => by have := (hw j z).1; omega), q⟩
  | exc n w st1 =>
    rw [e] at g
    obtain ⟨J1, t, f1, d1, q1⟩ := g
    exact ⟨J1, t, f1.weak fun _ _ z => z.elim, d1, q1⟩
  | stuck => rw [e] at g; exact g
end
end Rol
namespace Rol
open PySem L2 PySem.Spec
/-- the law's end -/
theorem law_V {fs : Bool} {f : Fn} {p : PF} (h : FnS fs f p) (ns : List Int) (hp : p [.src (ns.map .int)] (fun t => t = .bl true) (fun _ _ => False)) : ∃ st', f [.loc 0] [.src (ns.map D.int)] = .ok (.bl true) st' := by
  have dn : ∀ (st : S) (J A : Nst) (l : List Int), DenL st J A (l.map D.int) (l.map T.int) := by
    intro st J A l
    induction l with
    | nil => exact .nil
    | cons i l ih => exact .cons (.int i) ih
  have g := h.run [.src (ns.map D.int)] (fun _ => False) (fun _ => False) 0 [.loc 0] _ _ _ (fun _ z => z.elim) (fun _ z => z.elim) (Nat.zero_le _) (.cons (.src (fun z => z) (fun z => z) rfl (dn _ _ _ ns)) .nil) hp
  cases e : f [.loc 0] [.src (ns.map D.int)] with
  | ok d st' =>
    rw [e] at g
    obtain ⟨J', t, _, h2, _, rfl⟩ := g
    cases h2
    exact ⟨st', rfl⟩
  | exc n w st' => rw [e] at g; obtain ⟨_, _, _, _, z⟩ := g; exact z.elim
  | stuck => rw [e] at g; exact g.elim
end Rol

namespace Rol
open PySem L2 PySem.Spec
open PyProof.Rows hiding St
def tAddI := tI2 fun i j => i + j
def tLeA : T → T → Option T
  | .int i, .int j => some (.bl (decide (i ≤ j)))
  | .tup xs, .tup ys => match intsT xs, intsT ys with
    | some ns, some ms => some (.bl (!HT.lexLt ms ns))
    | _, _ => none
  | _, _ => none
theorem o_leA : OpS dLeA tLeA := by
  intro st J A x y tx ty t hj ha hx hy e
  cases hx <;> cases hy <;> simp only [tLeA, Option.some.injEq, reduceCtorEq] at e
  · subst e
    exact ⟨_, st, rfl, Fr.refl hj, .bl _⟩
  · rename_i h1 _ _ h2
    split at e
    · rename_i e1 e2
      cases e
      refine ⟨_, st, ?_, Fr.refl hj, .bl _⟩
      unfold dLeA cmpD
      dsimp only
      rw [den_ints h1 e1, den_ints h2 e2]
    · cases e
def tMulW : T → T → Option T
  | .tup xs, .int k => if -(2 ^ 63) ≤ k ∧ k ≤ 1000000 ∧ xs.length * k.toNat ≤ 1000000 then some (.tup (List.replicate k.toNat xs).flatten) else none
  | x, y => tMul x y
theorem o_mulW : OpS dMulW tMulW := by
  intro st J A x y tx ty t hj ha hx hy e
  by_cases hc : ∃ xs k, tx = .tup xs ∧ ty = .int k
  · obtain ⟨xs, k, rfl, rfl⟩ := hc
    cases hx with
    | tup h =>
      cases hy
      dsimp only [tMulW] at e
      split at e
      · rename_i c
        cases e
        exact ⟨_, st, if_pos (by rw [h.length]; exact c), Fr.refl hj, .tup (h.rep _)⟩
      · cases e
  · have e1 : tMul tx ty = some t := by
      rw [← e]
      cases tx <;> cases ty <;> first | rfl | exact (hc ⟨_, _, rfl, rfl⟩).elim
    have e2 : dMulW x y st = dMul x y st := by
      cases hx <;> cases hy <;> first | rfl | exact (hc ⟨_, _, rfl, rfl⟩).elim
    rw [e2]
    exact o_mul st J A x y tx ty t hj ha hx hy e1
end Rol

namespace Rol
open PySem L2 PySem.Spec
open PyProof.Rows hiding St
theorem q_vaNil  (E : Env) (Q : (List T → Env → Prop)) (u2 : Xp) : vaNil  E Q u2 = (Q [] E) := Eq.trans rfl rfl
theorem q_vaCons (m : VE) (l : VA) (E : Env) (Q : (List T → Env → Prop)) (X : Xp) : vaCons m l E Q X = (m E (fun x E => l E (fun xs E => Q (x :: xs) E) X) X) := Eq.trans rfl rfl
theorem q_vTup (l : VA) (E : Env) (Q : (T → Env → Prop)) (X : Xp) : vTup l E Q X = (l E (fun xs E => xs.length ≤ sizeLine ∧ Q (.tup xs) E) X) := Eq.trans rfl rfl
theorem q_vLst (l : VA) (E : Env) (Q : (T → Env → Prop)) (X : Xp) : vLst l E Q X = (l E (fun xs E => xs.length ≤ sizeLine ∧ Q (.lst xs) E) X) := Eq.trans rfl rfl
theorem q_v2 (f : T → T → Option T) (a b : VE) (E : Env) (Q : (T → Env → Prop)) (X : Xp) : v2 f a b E Q X = (a E (fun x E => b E (fun y E => Ok (f x y) fun r => Q r E) X) X) := Eq.trans rfl rfl
theorem q_v1 (f : T → Option T) (a : VE) (E : Env) (Q : (T → Env → Prop)) (X : Xp) : v1 f a E Q X = (a E (fun x E => Ok (f x) fun r => Q r E) X) := Eq.trans rfl rfl
theorem q_vCall (f : List T → Option T) (l : VA) (E : Env) (Q : (T → Env → Prop)) (X : Xp) : vCall f l E Q X = (l E (fun xs E => Ok (f xs) fun r => Q r E) X) := Eq.trans rfl rfl
theorem q_vFn (p : PF) (l : VA) (E : Env) (Q : (T → Env → Prop)) (X : Xp) : vFn p l E Q X = (l E (fun xs E => p xs (fun t => Q t E) X) X) := Eq.trans rfl rfl
theorem q_vFnK (p : PF) (perm : List Nat) (l : VA) (E : Env) (Q : (T → Env → Prop)) (X : Xp) : vFnK p perm l E Q X = (l E (fun xs E => p (permL perm xs) (fun t => Q t E) X) X) := Eq.trans rfl rfl
theorem q_vFl (m : VE) (E : Env) (Q : (T → Env → Prop)) (X : Xp) : vFl m E Q X = (m E (fun t E => t.flat = true ∧ Q t E) X) := Eq.trans rfl rfl
theorem q_vtOf (m : VE) (E : Env) (Q : (Bool → Env → Prop)) (X : Xp) : vtOf m E Q X = (m E (fun x E => Ok (tB x) fun b => Q b E) X) := Eq.trans rfl rfl
theorem q_vtNot (m : VT) (E : Env) (Q : (Bool → Env → Prop)) (X : Xp) : vtNot m E Q X = (m E (fun b E => Q (!b) E) X) := Eq.trans rfl rfl
theorem q_vtAnd (m n : VT) (E : Env) (Q : (Bool → Env → Prop)) (X : Xp) : vtAnd m n E Q X = (m E (fun b E => if b = true then n E Q X else Q false E) X) := Eq.trans rfl rfl
theorem q_vtOr (m n : VT) (E : Env) (Q : (Bool → Env → Prop)) (X : Xp) : vtOr m n E Q X = (m E (fun b E => if b = true then Q true E else n E Q X) X) := Eq.trans rfl rfl
theorem q_vtYes  (E : Env) (Q : (Bool → Env → Prop)) (u2 : Xp) : vtYes  E Q u2 = (Q true E) := Eq.trans rfl rfl
theorem q_vAnd (m n : VE) (E : Env) (Q : (T → Env → Prop)) (X : Xp) : vAnd m n E Q X = (m E (fun x E => Ok (tB x) fun b => if b = true then n E Q X else Q (.bl false) E) X) := Eq.trans rfl rfl
theorem q_vOr (m n : VE) (E : Env) (Q : (T → Env → Prop)) (X : Xp) : vOr m n E Q X = (m E (fun x E => Ok (tB x) fun b => if b = true then Q (.bl true) E else n E Q X) X) := Eq.trans rfl rfl
theorem q_vNot (m : VE) (E : Env) (Q : (T → Env → Prop)) (X : Xp) : vNot m E Q X = (m E (fun x E => Ok (tB x) fun b => Q (.bl (!b)) E) X) := Eq.trans rfl rfl
theorem q_vIf (k : VT) (m n : VE) (E : Env) (Q : (T → Env → Prop)) (X : Xp) : vIf k m n E Q X = (k E (fun b E => if b = true then m E Q X else n E Q X) X) := Eq.trans rfl rfl
theorem q_vChain (f g : T → T → Option T) (a b k : VE) (E : Env) (Q : (T → Env → Prop)) (X : Xp) : vChain f g a b k E Q X = (a E (fun x E => b E (fun y E => Ok (f x y) fun z => Ok (tB z) fun q => if q = true then k E (fun w E => Ok (g y w) fun r => Q r E) X else Q (.bl false) E) X) X) := Eq.trans rfl rfl
theorem q_voNone  (E : Env) (Q : (Option Int → Env → Prop)) (u2 : Xp) : voNone  E Q u2 = (Q none E) := Eq.trans rfl rfl
theorem q_voSome (m : VE) (E : Env) (Q : (Option Int → Env → Prop)) (X : Xp) : voSome m E Q X = (m E (fun x E => Ok (tI? x) fun i => Q (some i) E) X) := Eq.trans rfl rfl
theorem q_vSl (f : T → Option Int → Option Int → Option T) (m : VE) (lo hi : VO) (E : Env) (Q : (T → Env → Prop)) (X : Xp) : vSl f m lo hi E Q X = (m E (fun x E => lo E (fun a E => hi E (fun b E => Ok (f x a b) fun r => Q r E) X) X) X) := Eq.trans rfl rfl
theorem q_vC (t : T) (E : Env) (Q : (T → Env → Prop)) (u2 : Xp) : vC t E Q u2 = (Q t E) := Eq.trans rfl rfl
theorem q_vVar (i : Nat) (E : Env) (Q : (T → Env → Prop)) (u2 : Xp) : vVar i E Q u2 = (match E[i]? with
  | some (some t) => Q t E
  | _ => False) := Eq.trans rfl rfl
theorem q_viSeq (v : VE) (E : Env) (Q : (List T → Env → Prop)) (X : Xp) : viSeq v E Q X = (v E (fun x E => Ok (itT x) fun ts => Q ts E) X) := Eq.trans rfl rfl
theorem q_viRg1 (l : VA) (E : Env) (Q : (List T → Env → Prop)) (X : Xp) : viRg1 l E Q X = (l E (fun xs E => match xs with
  | [.int j] => (-(2 ^ 62) ≤ j ∧ j < 2 ^ 62) ∧ Q (vrange 0 j.toNat) E
  | _ => False) X) := Eq.trans rfl rfl
theorem q_viRg2 (l : VA) (E : Env) (Q : (List T → Env → Prop)) (X : Xp) : viRg2 l E Q X = (l E (fun xs E => match xs with
  | [.int i, .int j] => (-(2 ^ 62) ≤ i ∧ i < 2 ^ 62 ∧ -(2 ^ 62) ≤ j ∧ j < 2 ^ 62) ∧ Q (vrange i (j - i).toNat) E
  | _ => False) X) := Eq.trans rfl rfl
theorem q_viZip (l : VA) (E : Env) (Q : (List T → Env → Prop)) (X : Xp) : viZip l E Q X = (l E (fun xs E => match xs with
  | [.tup a, .tup b] => Q (List.zipWith (fun x y => .tup [x, y]) a b) E
  | _ => False) X) := Eq.trans rfl rfl
theorem q_viEnum (l : VA) (E : Env) (Q : (List T → Env → Prop)) (X : Xp) : viEnum l E Q X = (l E (fun xs E => match xs with
  | [.tup a] => Q (vpairI 0 a) E
  | [.lst a] => Q (vpairI 0 a) E
  | _ => False) X) := Eq.trans rfl rfl
theorem q_vComp (vi : VI) (p : Pat) (vs : List Nat) (test : VT) (elt : VE) (E : Env) (Q : (T → Env → Prop)) (X : Xp) : vComp vi p vs test elt E Q X = (vi E (fun ts E1 => compT p test elt (wipeE E1 vs) ts [] fun out => Q (.lst out) E1) X) := Eq.trans rfl rfl
theorem q_vComp2 (vi : VI) (p : Pat) (vs : List Nat) (test : VT) (vi1 : VI) (p1 : Pat) (vs1 : List Nat) (test1 : VT) (elt : VE) (E : Env) (Q : (T → Env → Prop)) (X : Xp) : vComp2 vi p vs test vi1 p1 vs1 test1 elt E Q X = (vi E (fun ts E1 => compT2 p test vi1 p1 vs1 test1 elt (wipeE E1 vs) ts [] fun out => Q (.lst out) E1) X) := Eq.trans rfl rfl
theorem q_vSortDict (v : VE) (E : Env) (Q : (T → Env → Prop)) (X : Xp) : vSortDict v E Q X = (v E (fun x E => Ok (tSortDict x) fun r => Q r E) X) := Eq.trans rfl rfl
theorem q_vPop0 (x : Nat) (E : Env) (Q : (T → Env → Prop)) (u2 : Xp) : vPop0 x E Q u2 = (Ok (lstAt E x) fun ts => Ok ts[ts.length - 1]? fun t => Q t (E.set x (some (.lst (ts.eraseIdx (ts.length - 1)))))) := Eq.trans rfl rfl
theorem q_vPop (x : Nat) (v : VE) (E : Env) (Q : (T → Env → Prop)) (X : Xp) : vPop x v E Q X = (Ok (lstAt E x) fun _ => v E (fun i E => Ok (lstAt E x) fun ts => Ok (tI? i) fun i => (-(2 ^ 63) ≤ i ∧ i < 2 ^ 63) ∧ Ok (seqIndex? i ts.length) fun j => Ok ts[j]? fun t => Q t (E.set x (some (.lst (ts.eraseIdx j))))) X) := Eq.trans rfl rfl
theorem q_vRepL (a k : VE) (E : Env) (Q : (T → Env → Prop)) (X : Xp) : vRepL a k E Q X = (v2 tMul a k E (fun t E => (∃ xs, t = .lst xs) ∧ Q t E) X) := Eq.trans rfl rfl
theorem q_wSkip  (E : Env) (K : Ke) : wSkip  E K = (K.nx E) := Eq.trans rfl rfl
theorem q_wSeq (v w : VS) (E : Env) (K : Ke) : wSeq v w E K = (v E { K with nx := fun E => w E K }) := Eq.trans rfl rfl
theorem q_wExpr (v : VE) (E : Env) (K : Ke) : wExpr v E K = (v E (fun _ E => K.nx E) K.ex) := Eq.trans rfl rfl
theorem q_wRet (v : VE) (E : Env) (K : Ke) : wRet v E K = (v E (fun t _ => K.rt t) K.ex) := Eq.trans rfl rfl
theorem q_wRetN  (u0 : Env) (K : Ke) : wRetN  u0 K = (K.rt .non) := Eq.trans rfl rfl
theorem q_wIf (k : VT) (v w : VS) (E : Env) (K : Ke) : wIf k v w E K = (k E (fun b E => if b = true then v E K else w E K) K.ex) := Eq.trans rfl rfl
theorem q_wBk  (E : Env) (K : Ke) : wBk  E K = (K.bk E) := Eq.trans rfl rfl
theorem q_wCt  (E : Env) (K : Ke) : wCt  E K = (K.ct E) := Eq.trans rfl rfl
theorem q_wRaise (c : Str) (v : VE) (E : Env) (K : Ke) : wRaise c v E K = (v E (fun t _ => K.ex c t) K.ex) := Eq.trans rfl rfl
theorem q_wSet (i : Nat) (v : VE) (E : Env) (K : Ke) : wSet i v E K = (v E (fun t E => K.nx (E.set i (some t))) K.ex) := Eq.trans rfl rfl
theorem q_wAsg (p : Pat) (v : VE) (E : Env) (K : Ke) : wAsg p v E K = (v E (fun t E => Ok (setT p t E) K.nx) K.ex) := Eq.trans rfl rfl
theorem q_wAug (i : Nat) (f : T → T → Option T) (v : VE) (E : Env) (K : Ke) : wAug i f v E K = (match E[i]? with
  | some (some x) => v E (fun y E => Ok (f x y) fun z => K.nx (E.set i (some z))) K.ex
  | _ => False) := Eq.trans rfl rfl
theorem q_wMove (y x : Nat) (E : Env) (K : Ke) : wMove y x E K = (match E[x]? with
  | some (some t) => K.nx ((E.set x none).set y (some t))
  | _ => False) := Eq.trans rfl rfl
theorem q_wPar (is : List Nat) (l : VA) (E : Env) (K : Ke) : wPar is l E K = (l E (fun ts E => ts.length = is.length ∧ K.nx (setMany is ts E)) K.ex) := Eq.trans rfl rfl
theorem q_wParM (is : List Nat) (l : VA) (E : Env) (K : Ke) : wParM is l E K = (l E (fun ts E => K.nx (setMany is ts E)) K.ex) := Eq.trans rfl rfl
theorem q_wApp (x : Nat) (v : VE) (E : Env) (K : Ke) : wApp x v E K = (Ok (lstAt E x) fun _ => v E (fun t E => Ok (lstAt E x) fun ts => ts.length < sizeLine ∧ K.nx (E.set x (some (.lst (ts ++ [t]))))) K.ex) := Eq.trans rfl rfl
theorem q_wExt (x : Nat) (v : VE) (E : Env) (K : Ke) : wExt x v E K = (Ok (lstAt E x) fun _ => v E (fun t E => Ok (lstAt E x) fun ts => Ok (seqT t) fun us => ts.length + us.length ≤ sizeLine ∧ K.nx (E.set x (some (.lst (ts ++ us))))) K.ex) := Eq.trans rfl rfl
theorem q_wPut (x : Nat) (vi v : VE) (E : Env) (K : Ke) : wPut x vi v E K = (v E (fun t E => Ok (lstAt E x) fun _ => vi E (fun i E => Ok (lstAt E x) fun ts => Ok (tI? i) fun i => Ok (ixN ts.length i) fun j => K.nx (E.set x (some (.lst (ts.set j t))))) K.ex) K.ex) := Eq.trans rfl rfl
theorem q_wFor (vi : VI) (p : Pat) (body : VS) (E : Env) (K : Ke) : wFor vi p body E K = (vi E (fun ts E1 => vForL p body ts E1 K) K.ex) := Eq.trans rfl rfl
theorem q_pf (fs : Bool) (np n : Nat) (v : VS) (ts : (List T)) (Q : (T → Prop)) (X : Xp) : pf fs np n v ts Q X = (ts.length = np ∧ v (ts.map some ++ List.replicate (n - ts.length) none) ⟨fun _ => fs = false ∧ Q .non, Q, fun _ => False, fun _ => False, X⟩) := Eq.trans rfl rfl
theorem q_Ok {α : Type} (a : α) (Q : α → Prop) : Ok (some a) Q = Q a := Eq.trans rfl rfl
theorem q_Ok0 {α : Type} (Q : α → Prop) : Ok none Q = False := Eq.trans rfl rfl
end Rol

namespace Rol
open PySem L2 PySem.Spec
open PyProof.Rows hiding St

mutual
def An.t : An → T → T
  | .non, _ => .non
  | .bl b, _ => .bl b
  | .int i, _ => .int i
  | .str x, _ => .str x
  | .what, w => w
  | .tup xs, w => .tup (An.tL xs w)
def An.tL : List An → T → List T
  | [], _ => []
  | x :: xs, w => x.t w :: An.tL xs w
end
mutual
theorem An.den {st : S} {J A : Nst} {d : D} {t : T} (h : Den st J A d t) : ∀ a : An, Den st J A (a.d d) (a.t t)
  | .non => by rw [An.d, An.t]; exact .non
  | .bl b => by rw [An.d, An.t]; exact .bl b
  | .int i => by rw [An.d, An.t]; exact .int i
  | .str x => by rw [An.d, An.t]; exact .str x
  | .what => by rw [An.d, An.t]; exact h
  | .tup xs => by rw [An.d, An.t]; exact .tup (An.denL h xs)
theorem An.denL {st : S} {J A : Nst} {d : D} {t : T} (h : Den st J A d t) : ∀ l : List An, DenL st J A (An.dL l d) (An.tL l t)
  | [] => by rw [An.dL, An.tL]; exact .nil
  | x :: xs => by rw [An.dL, An.tL]; exact .cons (An.den h x) (An.denL h xs)
end
def catchT (em : Str → Str → Option Bool) : List HC → Str → T → Ke → Prop
  | [], c, t, K => K.ex c t
  | h :: r, c, t, K => match em c h.cls with
    | some true => Ok (h.f c) fun v => K.rt (v.t t)
    | some false => catchT em r c t K
    | none => False
def wTry (em : Str → Str → Option Bool) (v : VS) (l : List HC) : VS := fun E K => v E { K with ex := fun c t => catchT em l c t K }
theorem q_wTry (em : Str → Str → Option Bool) (v : VS) (l : List HC) (E : Env) (K : Ke) : wTry em v l E K = v E { K with ex := fun c t => catchT em l c t K } := Eq.trans rfl rfl
theorem q_catch0 (em : Str → Str → Option Bool) (c : Str) (t : T) (K : Ke) : catchT em [] c t K = K.ex c t := Eq.trans rfl rfl
theorem q_catch1 (em : Str → Str → Option Bool) (x : Str) (f : Str → Option An) (r : List HC) (c : Str) (t : T) (K : Ke) : catchT em (⟨x, f⟩ :: r) c t K = match em c x with
    | some true => Ok (f c) fun v => K.rt (v.t t)
    | some false => catchT em r c t K
    | none => False := Eq.trans rfl rfl
end Rol

namespace Rol
open PySem L2 PySem.Spec
open PyProof.Rows hiding St
def vHeard (em : Str → Str → Option Bool) (v : VE) (l : List HC) : VE := fun E Q X => v E (fun t E => Q (.tup [.str "told", t]) E) (fun c t => t.flat = true ∧ Ok (catchA em l c) fun a => Q (a.t t) E)
theorem q_vHeard (em : Str → Str → Option Bool) (v : VE) (l : List HC) (E : Env) (Q : T → Env → Prop) (X : Xp) : vHeard em v l E Q X = v E (fun t E => Q (.tup [.str "told", t]) E) (fun c t => t.flat = true ∧ Ok (catchA em l c) fun a => Q (a.t t) E) := Eq.trans rfl rfl
theorem q_cA1 (em : Str → Str → Option Bool) (x : Str) (f : Str → Option An) (r : List HC) (c : Str) : catchA em (⟨x, f⟩ :: r) c = match em c x with
    | some true => f c
    | some false => catchA em r c
    | none => none := Eq.trans rfl rfl
theorem s_heard {MS : List Nat} {c : Bool} {m : DE} {v : VE} {em : Str → Str → Option Bool} {l : List HC} (h : ESim MS false c m v) : ESim MS false c (eHeard em m l) (vHeard em v l) := by
  constructor
  intro b E ρ st J Q X hr hv
  have g := h b E ρ st J _ _ hr hv
  unfold eHeard
  cases e : m ρ st with
  | ok a st' =>
    rw [e] at g
    obtain ⟨J', E', t, h1, h2, h3, h4, h5, h6⟩ := g
    exact ⟨J', E', _, h1, h2, h3, h4, .tup (.cons (.str _) (.cons h5 .nil)), h6⟩
  | exc n w st' =>
    rw [e] at g
    obtain ⟨J', t, f, d, hf, q⟩ := g
    obtain ⟨a, e1, q⟩ := Ok_iff.mp q
    dsimp only
    rw [e1]
    exact ⟨J', E, _, hr.next (f.weak fun _ _ z => by cases z.1), Al.refl E, f, fun _ => rfl, An.den (Den.flat hf d) a, q⟩
  | stuck => rw [e] at g; exact g
end Rol

namespace Rol
open PySem L2 PySem.Spec
open PyProof.Rows hiding St
end Rol

namespace Rol
open PySem L2 PySem.Spec
open PyProof.Rows hiding St

def dkOf (l : List (Key × T)) : T := .dk (l.map (·.1)) (l.map (·.2))
def dxOf (l : List (List Key × T)) : T := .dx (l.map (·.1)) (l.map (·.2))
theorem zip_un {α β : Type} : ∀ (l : List (α × β)), (l.map (·.1)).zip (l.map (·.2)) = l
  | [] => rfl
  | p :: l => by rw [List.map_cons, List.map_cons, List.zip_cons_cons, zip_un l]
def kOneT : T → Option Key
  | .int i => some (.inl i)
  | .str x => some (.inr x)
  | _ => none
def keysT : List T → Option (List Key)
  | [] => some []
  | x :: xs => (kOneT x).bind fun k => (keysT xs).bind fun ks => some (k :: ks)
def kPartT : T → Option (Key ⊕ List Key)
  | .tup ys => (keysT ys).map .inr
  | x => (kOneT x).map .inl
def kPartsT : List T → Option K2
  | [] => some []
  | x :: xs => (kPartT x).bind fun k => (kPartsT xs).bind fun ks => some (k :: ks)
def ktupT : T → Option (List Key)
  | .tup xs => (kPartsT xs).bind fun t => if ok2 t = true then some (enc2 t) else none
  | _ => none
section
variable {st st' : S} {J A : Nst}
theorem den_kone {x : D} {t : T} {k : Key} (h : Den st J A x t) (e : kOneT t = some k) : keyOne x = some k := by
  cases h <;> first | exact e | cases e
theorem den_kones : ∀ {xs : List D} {ts : List T} {ks : List Key}, DenL st J A xs ts → keysT ts = some ks → keyOnes xs = some ks
  | _, _, _, .nil, e => e
  | _, _, _, .cons h t, e => by
    unfold keysT at e
    obtain ⟨k, e1, e⟩ := Option.bind_eq_some_iff.mp e
    obtain ⟨ks, e2, e⟩ := Option.bind_eq_some_iff.mp e
    cases e
    unfold keyOnes
    rw [den_kone h e1, den_kones t e2]
    rfl
theorem den_kpart {x : D} {t : T} {k : Key ⊕ List Key} (h : Den st J A x t) (e : kPartT t = some k) : keyPart x = some k := by
  cases h with
  | tup d =>
    obtain ⟨ks, e1, rfl⟩ := Option.map_eq_some_iff.mp (show (keysT _).map _ = _ from e)
    show (keyOnes _).map _ = _
    rw [den_kones d e1]
    rfl
  | _ => first | exact e | cases e
theorem den_kparts : ∀ {xs : List D} {ts : List T} {ks : K2}, DenL st J A xs ts → kPartsT ts = some ks → keyParts xs = some ks
  | _, _, _, .nil, e => e
  | _, _, _, .cons h t, e => by
    unfold kPartsT at e
    obtain ⟨k, e1, e⟩ := Option.bind_eq_some_iff.mp e
    obtain ⟨ks, e2, e⟩ := Option.bind_eq_some_iff.mp e
    cases e
    unfold keyParts
    rw [den_kpart h e1, den_kparts t e2]
    rfl
theorem den_ktup {x : D} {t : T} {k : List Key} (h : Den st J A x t) (e : ktupT t = some k) : keyTup x = some k := by
  cases h with
  | tup d =>
    obtain ⟨u, e1, e2⟩ := Option.bind_eq_some_iff.mp (show (kPartsT _).bind _ = _ from e)
    show (keyParts _).bind _ = _
    rw [den_kparts d e1]
    exact e2
  | _ => cases e
section
variable {κ : Type} [DecidableEq κ]
theorem den_kget (k : κ) : ∀ {kvs : List (κ × D)} {ts : List T}, DenL st J A (kvs.map (·.2)) ts → (∃ d t, kGet kvs k = some d ∧ kGet ((kvs.map (·.1)).zip ts) k = some t ∧ Den st J A d t) ∨ (kGet kvs k = none ∧ kGet ((kvs.map (·.1)).zip ts) k = none)
  | [], _, .nil => .inr ⟨rfl, rfl⟩
  | p :: kvs, _, .cons (t := t) (ts := ts) h g => by
    rw [List.map_cons, List.zip_cons_cons]
    by_cases e : p.1 = k
    · exact .inl ⟨p.2, t, kGet_pos e, kGet_pos e, h⟩
    · rw [kGet_neg e, kGet_neg (p := (p.1, t)) e]
      exact den_kget k g
theorem den_kmap (k : κ) {d : D} {t : T} (r : Den st J A d t) : ∀ {kvs : List (κ × D)} {ts : List T}, DenL st J A (kvs.map (·.2)) ts →
    (kvs.map fun p => if p.1 = k then (p.1, d) else p).map (·.1) = (((kvs.map (·.1)).zip ts).map fun p => if p.1 = k then (p.1, t) else p).map (·.1) ∧ DenL st J A ((kvs.map fun p => if p.1 = k then (p.1, d) else p).map (·.2)) ((((kvs.map (·.1)).zip ts).map fun p => if p.1 = k then (p.1, t) else p).map (·.2))
  | [], _, .nil => ⟨rfl, .nil⟩
  | p :: kvs, _, .cons (t := u) (ts := ts) h g => by
    have ih := den_kmap k r g
    simp only [List.map_cons, List.zip_cons_cons]
    by_cases e : p.1 = k
    · rw [if_pos e, if_pos e]
      exact ⟨by rw [ih.1], .cons r ih.2⟩
    · rw [if_neg e, if_neg e]
      exact ⟨by rw [ih.1], .cons h ih.2⟩
theorem den_kput (k : κ) {d : D} {t : T} (r : Den st J A d t) {kvs : List (κ × D)} {ts : List T} (h : DenL st J A (kvs.map (·.2)) ts) :
    (kPut kvs k d).map (·.1) = (kPut ((kvs.map (·.1)).zip ts) k t).map (·.1) ∧ DenL st J A ((kPut kvs k d).map (·.2)) ((kPut ((kvs.map (·.1)).zip ts) k t).map (·.2)) := by
  have hl := h.length
  rw [List.length_map] at hl
  have e : (kGet ((kvs.map (·.1)).zip ts) k).isSome = (kGet kvs k).isSome := by
    rcases den_kget k h with ⟨_, _, e1, e2, _⟩ | ⟨e1, e2⟩
    · rw [e1, e2]; rfl
    · rw [e1, e2]; rfl
  unfold kPut
  rw [e]
  split
  · exact den_kmap k r h
  · have z1 : ((kvs.map (·.1)).zip ts).map (·.1) = kvs.map (·.1) := List.map_fst_zip (by rw [List.length_map]; omega)
    have z2 : ((kvs.map (·.1)).zip ts).map (·.2) = ts := List.map_snd_zip (by rw [List.length_map]; omega)
    rw [List.map_append, List.map_append, List.map_append, List.map_append, z1, z2]
    exact ⟨rfl, h.append (.cons r .nil)⟩
end
end
/-- x in d -/
def tDIn (neg : Bool) (x d : T) : Option T := match d with
  | .dk ks ts => (kOneT x).map fun k => .bl (if neg = true then !(kGet (ks.zip ts) k).isSome else (kGet (ks.zip ts) k).isSome)
  | .dx ks ts => (ktupT x).map fun k => .bl (if neg = true then !(kGet (ks.zip ts) k).isSome else (kGet (ks.zip ts) k).isSome)
  | _ => none
def tDPut (d x t : T) : Option T := match d with
  | .dk ks ts => if ks.length < sizeLine then (kOneT x).map fun k => dkOf (kPut (ks.zip ts) k t) else none
  | .dx ks ts => if ks.length < sizeLine then (ktupT x).map fun k => dxOf (kPut (ks.zip ts) k t) else none
  | _ => none
theorem o_din (neg : Bool) : OpS (dDIn neg) (tDIn neg) := by
  intro st J A x y tx ty t hj ha hx hy e
  have done : ∀ b, dDIn neg x y st = .ok (.bl (if neg = true then !b else b)) st → t = .bl (if neg = true then !b else b) → ∃ d st', dDIn neg x y st = .ok d st' ∧ Fr st J st' J Off ∧ Den st' J A d t := fun b h1 h2 => ⟨_, _, h1, Fr.refl hj, by rw [h2]; exact .bl _⟩
  cases hy with
  | @dk i kvs ts h1 h2 h3 h4 =>
    obtain ⟨k, ek, e⟩ := Option.map_eq_some_iff.mp e
    refine done (kGet kvs k).isSome ?_ ?_
    · simp only [dDIn, h3, kHas, den_kone hx ek, Option.map_some]
    · rw [← e]
      rcases den_kget k h4 with ⟨_, _, e1, e2, _⟩ | ⟨e1, e2⟩
      · rw [e1, e2]; rfl
      · rw [e1, e2]; rfl
  | @dx i kvs ts h1 h2 h3 h4 =>
    obtain ⟨k, ek, e⟩ := Option.map_eq_some_iff.mp e
    refine done (kGet kvs k).isSome ?_ ?_
    · simp only [dDIn, h3, kHas, den_ktup hx ek, Option.map_some]
    · rw [← e]
      rcases den_kget k h4 with ⟨_, _, e1, e2, _⟩ | ⟨e1, e2⟩
      · rw [e1, e2]; rfl
      · rw [e1, e2]; rfl
  | @fx i kvs ts h1 h2 h3 h4 =>
    obtain ⟨k, ek, e⟩ := Option.map_eq_some_iff.mp e
    refine done (kGet kvs k).isSome ?_ ?_
    · simp only [dDIn, h3, kHas, den_ktup hx ek, Option.map_some]
    · rw [← e]
      rcases den_kget k h4 with ⟨_, _, e1, e2, _⟩ | ⟨e1, e2⟩
      · rw [e1, e2]; rfl
      · rw [e1, e2]; rfl
  | _ => cases e
/-- {} -/
def vDNewK : VE := fun E Q _ => Q (.dk [] []) E
def vDNewX : VE := fun E Q _ => Q (.dx [] []) E
def isDict : T → Bool
  | .dk _ _ => true
  | .dx _ _ => true
  | _ => false
def dictAt (E : Env) (x : Nat) : Option T := match E[x]? with
  | some (some t) => if isDict t = true then some t else none
  | _ => none
theorem dictAt_some {E : Env} {x : Nat} {t : T} (h : dictAt E x = some t) : E[x]? = some (some t) := by
  unfold dictAt at h
  split at h
  · rename_i e
    split at h
    · cases h; exact e
    · cases h
  · cases h
/-- x[i] = v -/
def wDPut (x : Nat) (vi v : VE) : VS := fun E K => v E (fun t E => Ok (dictAt E x) fun _ => vi E (fun i E => Ok (dictAt E x) fun d => Ok (tDPut d i t) fun d' => K.nx (E.set x (some d'))) K.ex) K.ex
section
variable {fs : Bool} {MS : List Nat} {u c : Bool} {m : DE} {v : VE}
theorem s_dnewX : FSim MS u c eDNewX vDNewX := GSim.mk fun b E ρ st J Q X hr hv => GRes.ok hr (Fr.app hr.jar _) (rf_newO hr.nl hr.jar (fun k z => hr.bd_lt z) (.dx (kvs := []) .nil)) hv
theorem z_dput {x : Nat} {me : DE} {ve : VE} (hi' : ESim MS u true m v) (h : ESim MS u true me ve) (hx : MS.contains x = true := by rfl) : SSim fs MS (sSub dDPut (eVar x) m me) (wDPut x v ve) := by
  constructor
  intro b E ρ st J K hf hr hv
  have hx' : x ∈ MS := List.contains_iff_mem.mp hx
  unfold sSub
  refine GRes.out (h b E ρ st J _ K.ex hr hv) fun y st1 J1 E1 t r1 f1 o1 d1 q1 => ?_
  obtain ⟨t0, e0, q1⟩ := Ok_iff.mp q1
  have e0 := dictAt_some e0
  obtain ⟨k, o, e1, _, _, e4, _⟩ := r1.m x _ hx' e0
  have ev : eVar x ρ st1 = .ok (.loc k) st1 := by unfold eVar; rw [e1]
  rw [ev]
  simp only [Res.out_ok]
  refine GRes.out (hi' b E1 ρ st1 J1 _ K.ex r1 q1) fun iv st2 J2 E2 i r2 f2 o2 d2 q2 => ?_
  obtain ⟨td, e, q3⟩ := Ok_iff.mp q2
  obtain ⟨td', ed', q4⟩ := Ok_iff.mp q3
  have e := dictAt_some e
  have d1' : Den st2 J2 (Bd b.C MS E2 ρ true) y t := by
    have eB : Bd b.C MS E2 ρ true = Bd b.C MS E1 ρ true := by unfold Bd; rw [o2]
    rw [eB]
    exact d1.mono f2 (fun _ _ z => .inr ⟨rfl, z⟩) (fun _ _ z => z)
  obtain ⟨k', o', h1, _, _, h4, h5⟩ := r2.m x _ hx' e
  rw [e1] at h1
  cases h1
  have core : ∀ o2, DenO st2 J2 (Bd b.C MS E2 ρ true) o2 td' → dDPut (.loc k) iv y st2 = some (st2.set k o2) → SRes b MS E2 ρ st2 J2 K (match dDPut (.loc k) iv y st2 with | some st' => Out.nx ρ st' | none => Out.stuck) := fun o2 hd ed => by
    rw [ed]
    have g := r2.updO hx' e e1 hd
    exact ⟨J2, _, g.1, g.2.2, fun j _ z => by rw [g.2.1.own] at z; exact z, q4⟩
  cases h5 with
  | lst _ => cases ed'
  | @dk kvs ts hd =>
    unfold tDPut at ed'
    dsimp only at ed'
    split at ed'
    · rename_i hl
      obtain ⟨kk, ek, rfl⟩ := Option.map_eq_some_iff.mp ed'
      obtain ⟨g1, g2⟩ := den_kput kk d1' hd
      refine core (.dk (kPut kvs kk y)) ?_ ?_
      · have := DenO.dk (kvs := kPut kvs kk y) g2
        rw [g1] at this
        exact this
      · rw [List.length_map] at hl
        simp only [dDPut, h4, kStore, if_pos hl, den_kone d2 ek, Option.map_some]
    · cases ed'
  | @dx kvs ts hd =>
    unfold tDPut at ed'
    dsimp only at ed'
    split at ed'
    · rename_i hl
      obtain ⟨kk, ek, rfl⟩ := Option.map_eq_some_iff.mp ed'
      obtain ⟨g1, g2⟩ := den_kput kk d1' hd
      refine core (.dx (kPut kvs kk y)) ?_ ?_
      · have := DenO.dx (kvs := kPut kvs kk y) g2
        rw [g1] at this
        exact this
      · rw [List.length_map] at hl
        simp only [dDPut, h4, kStore, if_pos hl, den_ktup d2 ek, Option.map_some]
    · cases ed'
end
end Rol

namespace Rol
open PySem L2 PySem.Spec
open PyProof.Rows hiding St

inductive CstK {κ : Type} : List (κ × D) → List (κ × T) → Prop
  | nil : CstK [] []
  | cons {k : κ} {d : D} {t : T} {l : List (κ × D)} {r : List (κ × T)} : Cst d t → CstK l r → CstK ((k, d) :: l) ((k, t) :: r)
def tWGet (kvs : List (Key × T)) (x : T) : Option T := (kOneT x).bind fun k => kGet kvs k
theorem cst_get {st : S} {J A : Nst} (k : Key) : ∀ {l : List (Key × D)} {r : List (Key × T)} {t : T}, CstK l r → kGet r k = some t → ∃ d, kGet l k = some d ∧ Den st J A d t
  | _, _, _, .nil, e => by cases e
  | _, _, t, .cons (k := k') (d := d) (t := t') h g, e => by
    by_cases ek : k' = k
    · rw [kGet_pos (p := (k', t')) ek] at e
      cases e
      exact ⟨d, kGet_pos (p := (k', d)) ek, h.den⟩
    · rw [kGet_neg (p := (k', t')) ek] at e
      rw [kGet_neg (p := (k', d)) ek]
      exact cst_get k g e
theorem o_wget {l : List (Key × D)} {r : List (Key × T)} (h : CstK l r) : UnS (dWGet l) (tWGet r) := by
  intro st J A x tx t hj ha hx e
  obtain ⟨k, ek, e⟩ := Option.bind_eq_some_iff.mp e
  obtain ⟨d, e1, e2⟩ := cst_get (st := st) (J := J) (A := A) k h e
  exact ⟨d, st, by simp only [dWGet, den_kone hx ek, Option.bind_some, e1], Fr.refl hj, e2⟩
theorem q_wDPut (x : Nat) (vi v : VE) (E : Env) (K : Ke) : wDPut x vi v E K = v E (fun t E => Ok (dictAt E x) fun _ => vi E (fun i E => Ok (dictAt E x) fun d => Ok (tDPut d i t) fun d' => K.nx (E.set x (some d'))) K.ex) K.ex := Eq.trans rfl rfl
theorem q_vDNewK (E : Env) (Q : T → Env → Prop) (X : Xp) : vDNewK E Q X = Q (.dk [] []) E := Eq.trans rfl rfl
theorem q_vDNewX (E : Env) (Q : T → Env → Prop) (X : Xp) : vDNewX E Q X = Q (.dx [] []) E := Eq.trans rfl rfl
theorem tDIn_dx (neg : Bool) (x : T) (l : List (List Key × T)) : tDIn neg x (dxOf l) = (ktupT x).map fun k => .bl (if neg = true then !(kGet l k).isSome else (kGet l k).isSome) := by
  unfold tDIn dxOf
  simp only [zip_un]
theorem tDPut_dx (x t : T) (l : List (List Key × T)) (h : l.length < sizeLine) : tDPut (dxOf l) x t = (ktupT x).map fun k => dxOf (kPut l k t) := by
  unfold tDPut dxOf
  simp only [zip_un, List.length_map, if_pos h]
theorem dictAt_dx {E : Env} {x : Nat} {l : List (List Key × T)} (h : E[x]? = some (some (dxOf l))) : dictAt E x = some (dxOf l) := by
  unfold dictAt
  rw [h]
  rfl
section
variable {κ α : Type} [DecidableEq κ]
theorem kGet_app (l : List (κ × α)) (k k' : κ) (v : α) (h : kGet l k = none) : kGet (l ++ [(k, v)]) k' = if k = k' then some v else kGet l k' := by
  induction l with
  | nil =>
    by_cases e : k = k'
    · rw [if_pos e]; exact kGet_pos (p := (k, v)) e
    · rw [if_neg e]; exact kGet_neg (p := (k, v)) e
  | cons p l ih =>
    have h0 : ¬ p.1 = k := fun z => by rw [kGet_pos z] at h; cases h
    rw [kGet_neg h0] at h
    rw [List.cons_append]
    by_cases e : p.1 = k'
    · rw [kGet_pos e, kGet_pos e, if_neg (fun z => h0 (e.trans z.symm))]
    · rw [kGet_neg e, kGet_neg e, ih h]
theorem kGet_map (k : κ) (v : α) : ∀ (l : List (κ × α)) (k' : κ), kGet (l.map fun p => if p.1 = k then (p.1, v) else p) k' = if k = k' then (kGet l k).map fun _ => v else kGet l k'
  | [], k' => by simp [kGet]
  | p :: l, k' => by
    rw [List.map_cons]
    by_cases e : p.1 = k
    · rw [if_pos e]
      by_cases e' : k = k'
      · rw [kGet_pos (p := (p.1, v)) (e.trans e'), if_pos e', kGet_pos e]
        rfl
      · rw [kGet_neg (p := (p.1, v)) (fun z => e' (e.symm.trans z)), kGet_map k v l k', if_neg e', if_neg e', kGet_neg (fun z => e' (e.symm.trans z))]
    · rw [if_neg e]
      by_cases e' : p.1 = k'
      · rw [kGet_pos e', if_neg (fun z => e (e'.trans z.symm)), kGet_pos e']
      · rw [kGet_neg e', kGet_map k v l k', kGet_neg e', kGet_neg e]
theorem kGet_put (l : List (κ × α)) (k k' : κ) (v : α) : kGet (kPut l k v) k' = if k = k' then some v else kGet l k' := by
  unfold kPut
  cases h : kGet l k with
  | none => exact kGet_app l k k' v h
  | some a =>
    rw [if_pos (by rfl), kGet_map]
    rw [h]
    rfl
end
end Rol

namespace Rol
open PySem L2 PySem.Spec
open PyProof.Rows hiding St
/-- the same entries -/
def DenX (st : S) (J A : Nst) (l : List (List Key × D)) (m : List (List Key × T)) : Prop := l.map (·.1) = m.map (·.1) ∧ DenL st J A (l.map (·.2)) (m.map (·.2))
section
variable {st : S} {J A : Nst}
theorem DenX.dx {l : List (List Key × D)} {m : List (List Key × T)} (h : DenX st J A l m) : DenO st J A (.dx l) (dxOf m) := by
  unfold dxOf
  rw [← h.1]
  exact .dx h.2
end
end Rol

namespace Rol
open PySem L2 PySem.Spec
open PyProof.Rows hiding St
/-- a list of flat things -/
def T.flatLst : T → Bool
  | .lst xs => T.flatL xs
  | _ => false
def vFnFl (p : PF) (l : VA) : VE := fun E Q X => vFn p l E (fun t E => T.flatLst t = true ∧ Q t E) X
theorem q_vFnFl (p : PF) (l : VA) (E : Env) (Q : (T → Env → Prop)) (X : Xp) : vFnFl p l E Q X = l E (fun xs E => p xs (fun t => T.flatLst t = true ∧ Q t E) X) X := Eq.trans rfl rfl
def vtIf (k m n : VT) : VT := fun E Q X => k E (fun b E => if b = true then m E Q X else n E Q X) X
theorem q_vtIf (k m n : VT) (E : Env) (Q : (Bool → Env → Prop)) (X : Xp) : vtIf k m n E Q X = (k E (fun b E => if b = true then m E Q X else n E Q X) X) := Eq.trans rfl rfl
/-- from here on the function only reads x, and never goes on behind -/
def wRel (x : Nat) (v : VS) : VS := fun E K => (∃ ts, E[x]? = some (some (.lst ts))) ∧ v E { K with nx := fun _ => False, bk := fun _ => False, ct := fun _ => False }
theorem q_wRel (x : Nat) (v : VS) (E : Env) (K : Ke) : wRel x v E K = ((∃ ts, E[x]? = some (some (.lst ts))) ∧ v E { K with nx := fun _ => False, bk := fun _ => False, ct := fun _ => False }) := Eq.trans rfl rfl
end Rol

namespace Rol
open PySem L2 PySem.Spec
open PyProof.Rows hiding St
end Rol

namespace Rol
open PySem L2 PySem.Spec
open PyProof.Rows hiding St
def KpO (j : Nat) (ρ : Nv) : Out → Prop
  | .nx ρ' _ => ρ'[j]? = ρ[j]?
  | .bk ρ' _ => ρ'[j]? = ρ[j]?
  | .ct ρ' _ => ρ'[j]? = ρ[j]?
  | _ => True
theorem KpO.of {j : Nat} {ρ ρ1 : Nv} {o : Out} (h : KpO j ρ1 o) (e : ρ1[j]? = ρ[j]?) : KpO j ρ o := by
  cases o <;> first | exact (Eq.trans h e) | trivial
theorem KpO.out {α : Type} {j : Nat} {ρ : Nv} {r : Res α} {k : α → S → Out} (h : ∀ a st, KpO j ρ (k a st)) : KpO j ρ (r.out ρ k) := by
  cases r with
  | ok a st => exact h a st
  | exc n w st => trivial
  | stuck => trivial
end Rol

namespace Rol
open PySem L2 PySem.Spec
open PyProof.Rows hiding St
section
variable {st : S} {J A : Nst}
end
end Rol

namespace Rol
open PySem L2 PySem.Spec
open PyProof.Rows hiding St
end Rol

namespace Rol
open PySem L2 PySem.Spec
open PyProof.Rows hiding St
def keysTT : List (List Key) → Option (List T)
  | [] => some []
  | k :: r => (intKey k).bind fun is => (keysTT r).map (.tup (is.map .int) :: ·)
section
variable {st : S} {J A : Nst}
theorem denL_ints : ∀ is : List Int, DenL st J A (is.map D.int) (is.map T.int)
  | [] => .nil
  | i :: is => .cons (.int i) (denL_ints is)
end
end Rol

namespace Rol
open PySem L2 PySem.Spec
open PyProof.Rows hiding St
section
variable {st : S} {J A : Nst} {k : Nat} {kvs : List (List Key × D)}
/-- the same values behind the lock -/
def Sv (st st' : S) (k : Nat) : Prop := (∀ j, j ≠ k → st'[j]? = st[j]?) ∧ ∀ kvs, (st[k]? = some (.dx kvs) ∨ st[k]? = some (.fx kvs)) → st'[k]? = some (.dx kvs) ∨ st'[k]? = some (.fx kvs)
theorem Sv.ne {st st' : S} {j : Nat} {o : O} (s : Sv st st' k) (hk : (∃ kvs, st[k]? = some (.dx kvs)) ∨ ∃ kvs, st[k]? = some (.fx kvs)) (h : st[j]? = some o) (h1 : ∀ kvs, o ≠ .dx kvs) (h2 : ∀ kvs, o ≠ .fx kvs) : st'[j]? = some o := by
  by_cases e : j = k
  · subst e
    rcases hk with ⟨kvs, hk⟩ | ⟨kvs, hk⟩
    · rw [hk] at h
      cases h
      exact absurd rfl (h1 _)
    · rw [hk] at h
      cases h
      exact absurd rfl (h2 _)
  · rw [s.1 j e]
    exact h
theorem Sv.dict {st st' : S} {j : Nat} {l : List (List Key × D)} (s : Sv st st' k) (h : st[j]? = some (.dx l) ∨ st[j]? = some (.fx l)) : st'[j]? = some (.dx l) ∨ st'[j]? = some (.fx l) := by
  by_cases e : j = k
  · subst e
    exact s.2 l h
  · rw [s.1 j e]
    exact h
theorem Den.dict {d : D} {ts : List T} {j : Nat} (h1 : ¬ A j) (h2 : ¬ J j) (h3 : st[j]? = some (.dx kvs) ∨ st[j]? = some (.fx kvs)) (h4 : DenL st J A (kvs.map (·.2)) ts) : Den st J A (.loc j) (.dx (kvs.map (·.1)) ts) := by
  rcases h3 with h3 | h3
  · exact .dx h1 h2 h3 h4
  · exact .fx h1 h2 h3 h4
section
variable {st' : S} (s : Sv st st' k) (hk : (∃ kvs, st[k]? = some (.dx kvs)) ∨ ∃ kvs, st[k]? = some (.fx kvs))
include s hk
mutual
theorem Den.lk : ∀ {d : D} {t : T}, Den st J A d t → Den st' J A d t
  | _, _, .non => .non
  | _, _, .bl b => .bl b
  | _, _, .int i => .int i
  | _, _, .str x => .str x
  | _, _, .opq v => .opq v
  | _, _, .tup h => .tup (DenL.lk h)
  | _, _, .lst h1 h2 h3 h4 => .lst h1 h2 (s.ne hk h3 (fun _ z => nomatch z) (fun _ z => nomatch z)) (DenL.lk h4)
  | _, _, .src h1 h2 h3 h4 => .src h1 h2 (s.ne hk h3 (fun _ z => nomatch z) (fun _ z => nomatch z)) (DenL.lk h4)
  | _, _, .jar h => .jar h
  | _, _, .dk h1 h2 h3 h4 => .dk h1 h2 (s.ne hk h3 (fun _ z => nomatch z) (fun _ z => nomatch z)) (DenL.lk h4)
  | _, _, .dx h1 h2 h3 h4 => Den.dict (d := .non) h1 h2 (s.dict (.inl h3)) (DenL.lk h4)
  | _, _, .fx h1 h2 h3 h4 => Den.dict (d := .non) h1 h2 (s.dict (.inr h3)) (DenL.lk h4)
theorem DenL.lk : ∀ {xs : List D} {ts : List T}, DenL st J A xs ts → DenL st' J A xs ts
  | _, _, .nil => .nil
  | _, _, .cons h1 h2 => .cons (Den.lk h1) (DenL.lk h2)
end
theorem Jar.lk {j : Nat} (h : Jar j st) : Jar j st' := by
  obtain ⟨a, b, h0, e⟩ := h
  exact ⟨a, b, h0, s.ne hk e (fun _ z => nomatch z) (fun _ z => nomatch z)⟩
end
theorem sv_set {o : O} (h : ∃ l, st[k]? = some (.dx l) ∨ st[k]? = some (.fx l)) (ho : ∀ l, (st[k]? = some (.dx l) ∨ st[k]? = some (.fx l)) → o = .dx l ∨ o = .fx l) : Sv st (st.set k o) k := by
  refine ⟨fun j hj => List.getElem?_set_ne (fun z => hj z.symm), fun l hl => ?_⟩
  have hlt : k < st.length := by
    rcases hl with h | h <;> exact (List.getElem?_eq_some_iff.mp h).1
  rw [List.getElem?_set_self hlt]
  rcases ho l hl with h | h
  · exact .inl (by rw [h])
  · exact .inr (by rw [h])
theorem sv_lock (h : st[k]? = some (.dx kvs)) : Sv st (st.set k (.fx kvs)) k := sv_set ⟨kvs, .inl h⟩ fun l hl => by
  rcases hl with z | z
  · rw [h] at z; cases z; exact .inr rfl
  · rw [h] at z; cases z
theorem sv_unlock (h : st[k]? = some (.fx kvs)) : Sv st (st.set k (.dx kvs)) k := sv_set ⟨kvs, .inr h⟩ fun l hl => by
  rcases hl with z | z
  · rw [h] at z; cases z
  · rw [h] at z; cases z; exact .inl rfl
end
section
variable {b : Bs} {MS : List Nat} {E : Env} {ρ : Nv} {st : S} {J : Nst} {k : Nat} {kvs : List (List Key × D)}
def Bs.lk (b : Bs) (k : Nat) (o : O) : Bs := ⟨b.st.set k o, b.J, b.C, b.n0, b.fs⟩
/-- the state behind the lock, or again ahead of it -/
theorem Rl.lk {b' : Bs} {st' : S} (hr : Rl b MS E ρ st J) (s : Sv st st' k) (hk : (∃ kvs, st[k]? = some (.dx kvs)) ∨ ∃ kvs, st[k]? = some (.fx kvs)) (hl : st'.length = st.length) (no : ¬ Own MS E ρ k)
    (b1 : b'.J = b.J) (b2 : b'.C = b.C) (b3 : b'.n0 = b.n0) (b4 : b'.st.length = b.st.length) (b5 : ∀ j, j < b.st.length → ¬ b.J j → (j = k → st'[k]? = b'.st[k]?) ∧ (j ≠ k → b'.st[j]? = b.st[j]?)) : Rl b' MS E ρ st' J := by
  refine ⟨⟨by rw [b4, hl]; exact hr.fr.le, fun j hj => by rw [b4]; rw [b1] at hj; exact hr.fr.jb j hj, fun j hj => by rw [b1]; rw [b4] at hj; exact hr.fr.j j hj, fun j hj hJ _ => ?_, fun j hj => (hr.jar j hj).lk s hk⟩, by rw [b3, hl]; exact hr.nl, hr.len, fun j hj => by rw [hl]; rw [b2] at hj; exact hr.cl j hj, fun j o => by rw [b2]; exact hr.co j o, fun i t h1 h2 => ?_, fun i t h1 h2 => ?_, hr.d⟩
  · rw [b4] at hj
    rw [b1] at hJ
    obtain ⟨y1, y2⟩ := b5 j hj hJ
    by_cases z : j = k
    · subst z
      exact y1 rfl
    · rw [s.1 j z, y2 z]
      exact hr.fr.g j hj hJ (fun z => z)
  · obtain ⟨d, e1, e2⟩ := hr.n i t h1 h2
    exact ⟨d, e1, by rw [b2]; exact e2.lk s hk⟩
  · obtain ⟨j, o, e1, e2, e3, e4, e5⟩ := hr.m i t h1 h2
    have ne : j ≠ k := fun z => no (by rw [← z]; exact ⟨i, h1, ⟨t, h2⟩, e1⟩)
    exact ⟨j, o, e1, by rw [b4]; exact e2, e3, by rw [s.1 j ne]; exact e4, by rw [b2]; exact e5.mapL fun xs ts d => d.lk s hk⟩
theorem Rl.lock (hr : Rl b MS E ρ st J) (h : st[k]? = some (.dx kvs)) (no : ¬ Own MS E ρ k) : Rl (b.lk k (.fx kvs)) MS E ρ (st.set k (.fx kvs)) J := by
  have hlt : k < st.length := (List.getElem?_eq_some_iff.mp h).1
  refine hr.lk (sv_lock h) (.inl ⟨kvs, h⟩) (by simp) no rfl rfl rfl (by simp [Bs.lk]) fun j hj _ => ⟨fun z => ?_, fun z => ?_⟩
  · subst z
    show _ = (b.st.set j _)[j]?
    rw [List.getElem?_set_self hlt, List.getElem?_set_self hj]
  · exact List.getElem?_set_ne (fun y => z y.symm)
theorem Rl.unlock {E' : Env} {st' : S} {J' : Nst} {ρ' : Nv} (hr : Rl b MS E ρ st J) (h0 : st[k]? = some (.dx kvs)) (nj : ¬ J k) (hr' : Rl (b.lk k (.fx kvs)) MS E' ρ' st' J') (h : st'[k]? = some (.fx kvs)) (no : ¬ Own MS E' ρ' k) : Rl b MS E' ρ' (st'.set k (.dx kvs)) J' := by
  have hlt : k < st'.length := (List.getElem?_eq_some_iff.mp h).1
  refine hr'.lk (sv_unlock h) (.inr ⟨kvs, h⟩) (by simp) no rfl rfl rfl (by simp [Bs.lk]) fun j hj hJ => ⟨fun z => ?_, fun z => ?_⟩
  · subst z
    have hj' : j < b.st.length := by simpa [Bs.lk] using hj
    rw [List.getElem?_set_self hlt, ← hr.fr.g j hj' (fun y => nj ((hr.fr.j j hj').mpr y)) (fun y => y), h0]
  · exact (List.getElem?_set_ne (fun y => z y.symm)).symm
theorem Fr.lock {st' : S} {J' O : Nst} (f : Fr (st.set k (.fx kvs)) J st' J' O) (h : st[k]? = some (.dx kvs)) (h2 : st'[k]? = some (.fx kvs)) : Fr st J (st'.set k (.dx kvs)) J' O := by
  have hlt : k < st'.length := (List.getElem?_eq_some_iff.mp h2).1
  refine ⟨by simpa using f.le, fun j hj => by simpa using f.jb j hj, fun j hj => f.j j (by simpa using hj), fun j hj n1 n2 => ?_, fun j hj => (f.a j hj).lk (sv_unlock h2) (.inr ⟨kvs, h2⟩)⟩
  by_cases z : j = k
  · subst z
    rw [List.getElem?_set_self hlt, h]
  · rw [List.getElem?_set_ne (fun y => z y.symm), f.g j (by simpa using hj) n1 n2, List.getElem?_set_ne (fun y => z y.symm)]
end
theorem keysD_of : ∀ {kvs : List (List Key × D)} {ts : List T}, keysTT (kvs.map (·.1)) = some ts → ∃ ys, keysD kvs = some ys ∧ ∀ (st : S) (J A : Nst), DenL st J A ys ts
  | [], ts, e => by
    cases e
    exact ⟨[], rfl, fun _ _ _ => .nil⟩
  | (k, d) :: r, ts, e => by
    rw [List.map_cons, keysTT] at e
    obtain ⟨is, e1, e⟩ := Option.bind_eq_some_iff.mp e
    obtain ⟨us, e2, rfl⟩ := Option.map_eq_some_iff.mp e
    obtain ⟨ys, q1, q2⟩ := keysD_of e2
    refine ⟨.tup (is.map .int) :: ys, ?_, fun st J A => .cons (.tup (denL_ints is)) (q2 st J A)⟩
    rw [keysD, e1, q1]
    rfl
/-- a relation that the lock leaves alone -/
class LkOk {α β : Type} (R : RR α β) : Prop where
  un : ∀ {b b' : Bs} {st : S} {J A : Nst} {a : α} {t : β} {k : Nat} {kvs : List (List Key × D)}, b'.n0 = b.n0 → st[k]? = some (.fx kvs) → R b' st J A a t → R b (st.set k (.dx kvs)) J A a t
instance : LkOk RD := ⟨fun _ h r => Den.lk (sv_unlock h) (.inr ⟨_, h⟩) r⟩
instance : LkOk RF := ⟨fun {b b' st J A a t k kvs} e h r => by
  obtain ⟨j, o, h1, h2, h3, h4, h5, h6⟩ := r
  have ne : j ≠ k := fun z => by
    subst z
    rw [h] at h5
    cases h5
    cases h6
  exact ⟨j, o, h1, by rw [← e]; exact h2, h3, h4, by rw [List.getElem?_set_ne (fun z => ne z.symm)]; exact h5, h6.mapL fun xs ts d => d.lk (sv_unlock h) (.inr ⟨_, h⟩)⟩⟩
def vLock (i : Nat) (v : VE) : VE := fun E Q _ => (∃ ks ts, E[i]? = some (some (.dx ks ts))) ∧ v E Q XF
theorem q_vLock (i : Nat) (v : VE) (E : Env) (Q : T → Env → Prop) (X : Xp) : vLock i v E Q X = ((∃ ks ts, E[i]? = some (some (.dx ks ts))) ∧ v E Q XF) := Eq.trans rfl rfl
def wLock (i : Nat) (v : VS) : VS := fun E K => (∃ ks ts, E[i]? = some (some (.dx ks ts))) ∧ v E ⟨K.nx, K.rt, fun _ => False, fun _ => False, XF⟩
theorem q_wLock (i : Nat) (v : VS) (E : Env) (K : Ke) : wLock i v E K = ((∃ ks ts, E[i]? = some (some (.dx ks ts))) ∧ v E ⟨K.nx, K.rt, fun _ => False, fun _ => False, XF⟩) := Eq.trans rfl rfl
/-- the walk -/
def itK (x : T) : Option (List T) := match x with
  | .dx ks _ => keysTT ks
  | _ => none
def viWalk (i : Nat) : VI := fun E Q _ => Ok ((E[i]?).join.bind itK) fun ts => Q ts E
theorem q_viWalk (i : Nat) (E : Env) (Q : List T → Env → Prop) (X : Xp) : viWalk i E Q X = (Ok ((E[i]?).join.bind itK) fun ts => Q ts E) := Eq.trans rfl rfl
theorem i_const {MS : List Nat} {u c : Bool} {ys : List D} {ts : List T} (h : ∀ (st : S) (J A : Nst), DenL st J A ys ts) : GSim RI MS u c (fun _ st => .ok (ys, none) st) (fun E Q _ => Q ts E) := by
  constructor
  intro b E ρ st J Q X hr hv
  exact GRes.here hr ⟨h _ _ _, trivial, fun k z => by cases z⟩ hv
/-- what the walk over a locked dict is -/
theorem walk_eq {i k : Nat} {kvs : List (List Key × D)} {ρ : Nv} {st : S} {ys : List D} (e1 : ρ[i]? = some (some (.loc k))) (h : st[k]? = some (.fx kvs)) (e : keysD kvs = some ys) : iWalk (eVar i) ρ st = .ok (ys, none) st := by
  unfold iWalk eVar
  rw [e1]
  show (match st[k]? with | some (.fx kvs) => (match keysD kvs with | some ys => Res.ok (ys, (none : Gk)) st | none => .stuck) | _ => .stuck) = _
  simp only [h, e]
theorem z_lock {fs : Bool} {MS : List Nat} {i : Nat} {m : DS} {v : VS} (h : SSim fs MS m v) (hi : MS.contains i = false := by rfl) : SSim fs MS (sLock i m) (wLock i v) := by
  constructor
  intro b E ρ st J K hf hr hv
  obtain ⟨⟨ks, ts, ei⟩, hv⟩ := hv
  have him : i ∉ MS := fun z => by rw [List.contains_iff_mem.mpr z] at hi; cases hi
  obtain ⟨d, e1, e2⟩ := hr.n i _ him ei
  cases e2 with
  | @dx k kvs _ h1 h2 h3 h4 =>
    have no : ¬ Own MS E ρ k := fun z => h1 (.inr ⟨rfl, z⟩)
    have g := h (b.lk k (.fx kvs)) E ρ (st.set k (.fx kvs)) J _ hf (hr.lock h3 no) hv
    have hlt : k < st.length := (List.getElem?_eq_some_iff.mp h3).1
    have ef : ∀ {st' : S} {J' : Nst}, Fr (st.set k (.fx kvs)) J st' J' (Own MS E ρ) → st'[k]? = some (.fx kvs) := fun f => by rw [f.g k (by simpa using hlt) h2 no, List.getElem?_set_self hlt]
    unfold sLock
    simp only [e1, h3]
    cases er : m ρ (st.set k (.fx kvs)) with
    | nx ρ' st' =>
      rw [er] at g
      obtain ⟨J', E', g1, g2, g3, g4⟩ := g
      have ef := ef g2
      simp only [ef]
      have g3' : ∀ j, j < st.length → Own MS E' ρ' j → Own MS E ρ j := fun j hj => g3 j (by simpa using hj)
      exact ⟨J', E', hr.unlock h3 h2 g1 ef (fun z => no (g3' k hlt z)), g2.lock h3 ef, g3', g4⟩
    | rt d st' =>
      rw [er] at g
      obtain ⟨J', t, g1, g2, g3, g4⟩ := g
      have ef := ef g1
      simp only [ef]
      exact ⟨J', t, g1.lock h3 ef, g2.lk (sv_unlock ef) (.inr ⟨_, ef⟩), fun z => LkOk.un (R := RF) (by simp [Bs.lk]) ef (g3 z), g4⟩
    | bk ρ' st' =>
      rw [er] at g
      obtain ⟨_, _, _, _, _, z⟩ := g
      exact z.elim
    | ct ρ' st' =>
      rw [er] at g
      obtain ⟨_, _, _, _, _, z⟩ := g
      exact z.elim
    | exc n w ρ' st' =>
      rw [er] at g
      obtain ⟨_, _, _, _, z⟩ := g
      exact z.elim
    | stuck => rw [er] at g; exact g.elim
  | @fx k kvs _ h1 h2 h3 h4 =>
    have g := h b E ρ st J _ hf hr hv
    unfold sLock
    simp only [e1, h3]
    cases er : m ρ st with
    | nx ρ' st' => rw [er] at g; exact g
    | rt d st' => rw [er] at g; exact g
    | bk ρ' st' =>
      rw [er] at g
      obtain ⟨_, _, _, _, _, z⟩ := g
      exact z.elim
    | ct ρ' st' =>
      rw [er] at g
      obtain ⟨_, _, _, _, _, z⟩ := g
      exact z.elim
    | exc n w ρ' st' =>
      rw [er] at g
      obtain ⟨_, _, _, _, z⟩ := g
      exact z.elim
    | stuck => rw [er] at g; exact g.elim
/-- for p in d: body -/
theorem z_forW {fs : Bool} {MS : List Nat} {i : Nat} {p : Pat} {body : DS} {vb : VS} (hb : SSim fs MS body vb) (hi : MS.contains i = false := by rfl) (hp : (p.ids.all fun i => !MS.contains i) = true := by rfl) : SSim fs MS (sLock i (sFor (iWalk (eVar i)) p body)) (wLock i (wFor (viWalk i) p vb)) := by
  constructor
  intro b E ρ st J K hf hr hv
  obtain ⟨⟨ks, ts, ei⟩, hv⟩ := hv
  have him : i ∉ MS := fun z => by rw [List.contains_iff_mem.mpr z] at hi; cases hi
  obtain ⟨d, e1, e2⟩ := hr.n i _ him ei
  unfold wFor viWalk at hv
  rw [ei] at hv
  obtain ⟨us, hk, hw⟩ := Ok_iff.mp hv
  have hk : keysTT ks = some us := hk
  have eqS : ∀ {mi mi' : DI} {ρ : Nv} {st : S}, mi ρ st = mi' ρ st → sFor mi p body ρ st = sFor mi' p body ρ st := fun {mi mi' ρ st} e => by
    show (mi ρ st).out ρ _ = (mi' ρ st).out ρ _
    rw [e]
  cases e2 with
  | @dx k kvs _ h1 h2 h3 h4 =>
    obtain ⟨ys, kd, den⟩ := keysD_of hk
    have hlt : k < st.length := (List.getElem?_eq_some_iff.mp h3).1
    have ew := eqS (mi := iWalk (eVar i)) (mi' := fun _ st => .ok (ys, none) st) (walk_eq (i := i) e1 (st := st.set k (.fx kvs)) (by rw [List.getElem?_set_self hlt]) kd)
    have g := (z_lock (i := i) (z_for (u := false) (i_const den) hb hp) hi).run b E ρ st J K hf hr ⟨⟨_, _, ei⟩, hw⟩
    have : sLock i (sFor (iWalk (eVar i)) p body) ρ st = sLock i (sFor (fun _ st => .ok (ys, none) st) p body) ρ st := by
      unfold sLock
      simp only [e1, h3]
      rw [ew]
    rw [this]
    exact g
  | @fx k kvs _ h1 h2 h3 h4 =>
    obtain ⟨ys, kd, den⟩ := keysD_of hk
    have ew := eqS (mi := iWalk (eVar i)) (mi' := fun _ st => .ok (ys, none) st) (walk_eq (i := i) e1 h3 kd)
    have g := (z_lock (i := i) (z_for (u := false) (i_const den) hb hp) hi).run b E ρ st J K hf hr ⟨⟨_, _, ei⟩, hw⟩
    have : sLock i (sFor (iWalk (eVar i)) p body) ρ st = sLock i (sFor (fun _ st => .ok (ys, none) st) p body) ρ st := by
      unfold sLock
      simp only [e1, h3]
      rw [ew]
    rw [this]
    exact g
end Rol

namespace Rol
open PySem L2 PySem.Spec
open PyProof.Rows hiding St
noncomputable def tSortX : T → Option T
  | .dx ks _ => (keysTT ks).bind fun ts => (sortT ts).map .lst
  | _ => none
theorem s_sortX {MS : List Nat} {u c : Bool} {m : DE} {v : VE} (h : ESim MS u c m v) : FSim MS u c (e1 dSortX m) (v1 tSortX v) := by
  constructor
  intro b E ρ st J Q X hr hv
  refine GRes.bind (h b E ρ st J _ X hr hv) fun x st1 J1 E1 t r1 _ f1 o1 d1 q1 => ?_
  obtain ⟨r, e, q⟩ := Ok_iff.mp q1
  have core : ∀ {kvs : List (List Key × D)} {k : Nat}, (st1[k]? = some (.dx kvs) ∨ st1[k]? = some (.fx kvs)) → tSortX (.dx (kvs.map (·.1)) []) = some r → GRes RF b MS u c E1 ρ st1 J1 Q X (dSortX (.loc k) st1) := fun {kvs k} hk e => by
    obtain ⟨ts, e1, e⟩ := Option.bind_eq_some_iff.mp e
    obtain ⟨us, e2, rfl⟩ := Option.map_eq_some_iff.mp e
    obtain ⟨ys, k1, k2⟩ := keysD_of e1
    obtain ⟨zs, e3, h5⟩ := den_sort (k2 st1 J1 (Bd b.C MS E1 ρ c)) e2
    have : dSortX (.loc k) st1 = .ok (.loc st1.length) (st1 ++ [.lst zs]) := by
      rcases hk with hk | hk <;> simp only [dSortX, hk, k1, e3]
    rw [this]
    exact GRes.ok r1 (Fr.app r1.jar _) (rf_new r1.nl r1.jar (fun k z => r1.bd_lt z) h5) q
  cases d1 with
  | dx h1 h2 h3 h4 => exact core (.inl h3) e
  | fx h1 h2 h3 h4 => exact core (.inr h3) e
  | _ => cases e
def vDOne (vk vv : VE) : VE := fun E Q X => vk E (fun k E => vv E (fun v E => Ok (ktupT k) fun ks => v.flat = true ∧ Q (.dx [ks] [v]) E) X) X
theorem q_vDOne (vk vv : VE) (E : Env) (Q : T → Env → Prop) (X : Xp) : vDOne vk vv E Q X = vk E (fun k E => vv E (fun v E => Ok (ktupT k) fun ks => v.flat = true ∧ Q (.dx [ks] [v]) E) X) X := Eq.trans rfl rfl
theorem s_done {MS : List Nat} {c : Bool} {mk mv : DE} {vk vv : VE} (hk : ESim MS false c mk vk) (hv : ESim MS false c mv vv) : FSim MS false c (eDOne mk mv) (vDOne vk vv) := by
  constructor
  intro b E ρ st J Q X hr hq
  have hr0 : Rl b MS E ρ (st ++ [.dx []]) J := hr.next (Fr.app hr.jar _)
  have f0 : Fr st J (st ++ [.dx []]) J Off := Fr.app hr.jar _
  have off : ∀ {s1 s2 : S} {J1 J2 : Nst} {A : Nst}, Fr s1 J1 s2 J2 (fun k => (false : Bool) = true ∧ A k) → Fr s1 J1 s2 J2 Off := fun f => f.weak fun _ _ z => by cases z.1
  have on : ∀ {s1 s2 : S} {J1 J2 : Nst} {A : Nst}, Fr s1 J1 s2 J2 Off → Fr s1 J1 s2 J2 (fun k => (false : Bool) = true ∧ A k) := fun f => f.weak fun _ _ z => z.elim
  unfold eDOne
  have gk := hk b E ρ _ J _ X hr0 hq
  cases ek : mk ρ (st ++ [.dx []]) with
  | exc n w st1 =>
    rw [ek] at gk
    obtain ⟨J1, t, h1, h2, h3⟩ := gk
    exact ⟨J1, t, on (f0.trans (off h1) (fun _ _ z => z) (fun _ _ z => z)), h2, h3⟩
  | stuck => rw [ek] at gk; exact gk.elim
  | ok kd st1 =>
  rw [ek] at gk
  obtain ⟨J1, E1, k, r1, _, f1, u1, d1, q1⟩ := gk
  obtain rfl := u1 rfl
  have g1 := off f1
  simp only [Res.bind_ok]
  have gv := hv b E1 ρ st1 J1 _ X r1 q1
  cases ev : mv ρ st1 with
  | exc n w st2 =>
    rw [ev] at gv
    obtain ⟨J2, t, h1, h2, h3⟩ := gv
    exact ⟨J2, t, on ((f0.trans g1 (fun _ _ z => z) (fun _ _ z => z)).trans (off h1) (fun _ _ z => z) (fun _ _ z => z)), h2, h3⟩
  | stuck => rw [ev] at gv; exact gv.elim
  | ok vd st2 =>
  rw [ev] at gv
  obtain ⟨J2, E2, v, r2, _, f2, u2, d2, q2⟩ := gv
  obtain rfl := u2 rfl
  have g2 := off f2
  obtain ⟨ks, ek, fl, q⟩ := Ok_iff.mp q2
  have g : Fr (st ++ [.dx []]) J st2 J2 Off := g1.trans g2 (fun _ _ z => z) (fun _ _ z => z)
  have nl : st.length < (st ++ [O.dx []]).length := by simp
  have nJ : ¬ J st.length := fun z => Nat.lt_irrefl _ (hr.jar _ z).lt'
  have nJ2 : ¬ J2 st.length := fun z => nJ ((g.j _ nl).mp z)
  have at2 : st2[st.length]? = some (.dx []) := by
    rw [g.g _ nl nJ (fun z => z), List.getElem?_append_right (Nat.le_refl _), Nat.sub_self]
    rfl
  have hlt : st.length < st2.length := (List.getElem?_eq_some_iff.mp at2).1
  have ek' := den_ktup d1 ek
  simp only [Res.bind_ok, at2, ek']
  have fin : Fr st J (st2.set st.length (.dx [(ks, vd)])) J2 Off := by
    refine ⟨by rw [List.length_set]; exact Nat.le_of_lt hlt, fun k z => (hr.jar k z).lt', fun j hj => g.j j (by simp; omega), fun j hj n1 n2 => ?_, fun j hj => ?_⟩
    · rw [List.getElem?_set_ne (by omega), g.g j (by simp; omega) n1 n2, List.getElem?_append_left hj]
    · obtain ⟨x, y, h0, e⟩ := g.a j hj
      have ne : st.length ≠ j := fun z => nJ2 (z ▸ hj)
      exact ⟨x, y, h0, by rw [List.getElem?_set_ne ne]; exact e⟩
  exact ⟨J2, E2, _, hr.next fin, Al.refl _, on fin, fun _ => rfl, ⟨st.length, .dx [(ks, vd)], rfl, hr.nl, fun z => Nat.lt_irrefl _ (hr.bd_lt z), nJ2, by rw [List.getElem?_set_self hlt], DenO.dx (kvs := [(ks, vd)]) (.cons (Den.flat fl d2) .nil)⟩, q⟩
end Rol

namespace Rol
open PySem L2 PySem.Spec
open PyProof.Rows hiding St

theorem for_inv {p : Pat} {body : VS} {K : Ke} (I : List T → Env → Prop) : ∀ {rest done : List T} {E : Env}, I done E →
    (∀ d t r E (N : Env → Prop), done ++ rest = d ++ t :: r → I d E → (∀ E2, I (d ++ [t]) E2 → N E2) → Ok (setT p t E) fun E' => body E' ⟨N, K.rt, K.nx, N, K.ex⟩) →
    (∀ E, I (done ++ rest) E → K.nx E) → vForL p body rest E K
  | [], done, E, h0, _, hK => by
    rw [vForL]
    exact hK E (by rw [List.append_nil]; exact h0)
  | t :: rest, done, E, h0, hs, hK => by
    rw [vForL]
    have g := hs done t rest E (fun E2 => vForL p body rest E2 K) rfl h0 fun E2 h2 => for_inv I (rest := rest) (done := done ++ [t]) h2 (fun d t' r E' N e => hs d t' r E' N (by rw [← e]; simp)) fun E' h' => hK E' (by rw [List.append_assoc] at h'; exact h')
    exact g
/-- from the start -/
theorem for_of {p : Pat} {body : VS} {K : Ke} {ts : List T} {E : Env} (I : List T → Env → Prop) (h0 : I [] E)
    (hs : ∀ d t r E (N : Env → Prop), ts = d ++ t :: r → I d E → (∀ E2, I (d ++ [t]) E2 → N E2) → Ok (setT p t E) fun E' => body E' ⟨N, K.rt, K.nx, N, K.ex⟩)
    (hK : ∀ E, I ts E → K.nx E) : vForL p body ts E K := for_inv I h0 (fun d t r E N e => hs d t r E N e) hK
theorem for_map_inv {α : Type} (f : α → T) {p : Pat} {body : VS} {K : Ke} (I : List α → Env → Prop) : ∀ {rest done : List α} {E : Env}, I done E →
    (∀ d x r E (N : Env → Prop), done ++ rest = d ++ x :: r → I d E → (∀ E2, I (d ++ [x]) E2 → N E2) → Ok (setT p (f x) E) fun E' => body E' ⟨N, K.rt, K.nx, N, K.ex⟩) →
    (∀ E, I (done ++ rest) E → K.nx E) → vForL p body (rest.map f) E K
  | [], done, E, h0, _, hK => by
    rw [List.map_nil, vForL]
    exact hK E (by rw [List.append_nil]; exact h0)
  | x :: rest, done, E, h0, hs, hK => by
    rw [List.map_cons, vForL]
    exact hs done x rest E (fun E2 => vForL p body (rest.map f) E2 K) rfl h0 fun E2 h2 => for_map_inv f I (rest := rest) (done := done ++ [x]) h2 (fun d t' r E' N e => hs d t' r E' N (by rw [← e]; simp)) fun E' h' => hK E' (by rw [List.append_assoc] at h'; exact h')
/-- over what a function makes of a list -/
theorem for_map {α : Type} (f : α → T) {p : Pat} {body : VS} {K : Ke} {xs : List α} {E : Env} (I : List α → Env → Prop) (h0 : I [] E)
    (hs : ∀ d x r E (N : Env → Prop), xs = d ++ x :: r → I d E → (∀ E2, I (d ++ [x]) E2 → N E2) → Ok (setT p (f x) E) fun E' => body E' ⟨N, K.rt, K.nx, N, K.ex⟩)
    (hK : ∀ E, I xs E → K.nx E) : vForL p body (xs.map f) E K := for_map_inv f I h0 (fun d x r E N e => hs d x r E N e) hK
/-- over what a function makes of a list, to what a function makes of its items -/
theorem comp_mm {α : Type} (g : α → T) (f : α → T) {p : Pat} {elt : VE} {E : Env} : ∀ {xs : List α} {acc : List T} {Q : List T → Prop}, acc.length + xs.length ≤ sizeLine →
    (∀ x ∈ xs, ∀ N : T → Prop, N (f x) → Ok (setT p (g x) E) fun E' => elt E' (fun y _ => N y) XF) → Q (acc ++ xs.map f) → compT p vtYes elt E (xs.map g) acc Q
  | [], acc, Q, _, _, h => by
    rw [List.map_nil, compT]
    simpa using h
  | x :: xs, acc, Q, hl, hs, h => by
    rw [List.map_cons, compT]
    have g := hs x (by simp) (fun y => acc.length < sizeLine ∧ compT p vtYes elt E (xs.map g) (acc ++ [y]) Q) ⟨by simp at hl; omega, comp_mm _ f (by simp at hl ⊢; omega) (fun u hu => hs u (by simp [hu])) (by
      rw [List.map_cons] at h
      rw [List.append_assoc]
      exact h)⟩
    obtain ⟨E', e, q⟩ := Ok_iff.mp g
    refine Ok_iff.mpr ⟨E', e, ?_⟩
    simp only [q_vtYes, if_true]
    exact q
/-- the same, the items being drawn -/
theorem comp_md {α β : Type} (g : α → T) (f : β → T) (R : α → β → Prop) {p : Pat} {elt : VE} {E : Env} : ∀ {xs : List α} {acc : List T} {Q : List T → Prop}, acc.length + xs.length ≤ sizeLine →
    (∀ x ∈ xs, ∀ N : T → Prop, (∀ y, R x y → N (f y)) → Ok (setT p (g x) E) fun E' => elt E' (fun y _ => N y) XF) → (∀ ys, Pd R xs ys → Q (acc ++ ys.map f)) → compT p vtYes elt E (xs.map g) acc Q
  | [], acc, Q, _, _, h => by
    rw [List.map_nil, compT]
    simpa using h [] .nil
  | x :: xs, acc, Q, hl, hs, h => by
    rw [List.map_cons, compT]
    have g := hs x (by simp) (fun y => acc.length < sizeLine ∧ compT p vtYes elt E (xs.map g) (acc ++ [y]) Q) fun y hy => ⟨by simp at hl; omega, comp_md _ f R (by simp at hl ⊢; omega) (fun u hu => hs u (by simp [hu])) fun ys hys => by
      have := h (y :: ys) (.cons hy hys)
      rw [List.map_cons] at this
      rw [List.append_assoc]
      exact this⟩
    obtain ⟨E', e, q⟩ := Ok_iff.mp g
    refine Ok_iff.mpr ⟨E', e, ?_⟩
    simp only [q_vtYes, if_true]
    exact q
/-- without a test: one item for each -/
theorem comp_of {p : Pat} {elt : VE} {E : Env} (R : T → T → Prop) : ∀ {ts acc : List T} {Q : List T → Prop}, acc.length + ts.length ≤ sizeLine →
    (∀ t ∈ ts, ∀ N : T → Prop, (∀ y, R t y → N y) → Ok (setT p t E) fun E' => elt E' (fun y _ => N y) XF) → (∀ ys, Pd R ts ys → Q (acc ++ ys)) → compT p vtYes elt E ts acc Q
  | [], acc, Q, _, _, h => by
    rw [compT]
    have := h [] .nil
    rw [List.append_nil] at this
    exact this
  | t :: ts, acc, Q, hl, hs, h => by
    rw [compT]
    have g := hs t (by simp) (fun y => acc.length < sizeLine ∧ compT p vtYes elt E ts (acc ++ [y]) Q) fun y hy => ⟨by simp at hl; omega, comp_of R (by simp at hl ⊢; omega) (fun u hu => hs u (by simp [hu])) fun ys hys => by
      have := h (y :: ys) (.cons hy hys)
      rw [List.append_assoc]
      exact this⟩
    obtain ⟨E', e, q⟩ := Ok_iff.mp g
    refine Ok_iff.mpr ⟨E', e, ?_⟩
    simp only [q_vtYes, if_true]
    exact q
abbrev row (r : List Int) : T := .tup (r.map T.int)
abbrev rows (rs : List (List Int)) : T := .tup (rs.map row)
@[simp] theorem toPT_int (n : Nat) (i : Int) : toPT n (.int i) = some (.int i) := by cases n <;> rfl
@[simp] theorem toPT_bl (n : Nat) (b : Bool) : toPT n (.bl b) = some (.bool b) := by cases n <;> rfl
@[simp] theorem toPT_str (n : Nat) (b : Str) : toPT n (.str b) = some (.str b) := by cases n <;> rfl
@[simp] theorem toPT_non (n : Nat) : toPT n .non = some .none := by cases n <;> rfl
theorem toPT_row (n : Nat) (r : List Int) : toPT (n + 1) (row r) = some (pr r) := by
  rw [toPT, optAll_map (h := PyData.int) r fun x _ => toPT_int n x]
  rfl
theorem toPT_lints (n : Nat) (r : List Int) : toPT (n + 1) (.lst (r.map .int)) = some (.list (r.map .int)) := by
  rw [toPT, optAll_map (h := PyData.int) r fun x _ => toPT_int n x]
  rfl
@[simp] theorem tEq_int (i j : Int) : tEq (.int i) (.int j) = some (.bl (decide (i = j))) := by
  simp [tEq, tEqD, shaped_int, PyData.eqv, beq_dec]
@[simp] theorem tNe_int (i j : Int) : tNe (.int i) (.int j) = some (.bl (!decide (i = j))) := by
  simp [tNe, tNeD, shaped_int, PyData.eqv, beq_dec]
@[simp] theorem tEq_str (a b : Str) : tEq (.str a) (.str b) = some (.bl (decide (a = b))) := rfl
@[simp] theorem tNe_str (a b : Str) : tNe (.str a) (.str b) = some (.bl (!decide (a = b))) := rfl
theorem tIn_lint (neg : Bool) (i : Int) (rs : List Int) : tIn neg (.int i) (.lst (rs.map T.int)) = some (.bl (if neg = true then !decide (i ∈ rs) else decide (i ∈ rs))) := by
  unfold tIn
  rw [toPT_int, toPT_lints]
  simp only [shaped_int, shaped_lints, and_self, if_true, any_int]
theorem flat_row (r : List Int) : (row r).flat = true := by
  show T.flatL (r.map T.int) = true
  induction r with
  | nil => rfl
  | cons i r ih => rw [List.map_cons, T.flatL, ih]; rfl
theorem atI_map {α : Type} (f : α → T) (xs : List α) (i : Nat) (h : i < xs.length) : atI (xs.map f) (i : Int) = some (f xs[i]) := by
  rw [atI_nat _ _ (by rw [List.length_map]; exact h)]
  simp [h]
theorem tIx_row {r : List Int} {i : Nat} (h : i < r.length) : tIx (row r) (.int i) = some (.int r[i]) := atI_map T.int r i h
theorem ix_of {xs : List T} {i : Nat} (h : i < xs.length) : atI xs (i : Int) = some xs[i] := by
  rw [atI_nat _ _ h]
  simp [h]
theorem tLe_ints (i j : Int) : tLeA (.int i) (.int j) = some (.bl (decide (i ≤ j))) := rfl
theorem tMul_int {i j : Int} (h : cMul i j = true) : tMulW (.int i) (.int j) = some (.int (i * j)) := if_pos h
theorem tMul_tup {xs : List T} {k : Int} (h0 : -(2 ^ 63) ≤ k) (h1 : k ≤ 1000000) (h2 : xs.length * k.toNat ≤ 1000000) : tMulW (.tup xs) (.int k) = some (.tup (List.replicate k.toNat xs).flatten) := if_pos ⟨h0, h1, h2⟩
theorem cMul_s {i j : Int} (h1 : -1000000000 < i) (h2 : i < 1000000000) : cMul i j = true := by
  unfold cMul
  simp only [Bool.or_eq_true, Bool.and_eq_true, decide_eq_true_eq]
  exact .inl (.inl ⟨by omega, by omega⟩)
theorem rep_one {α : Type} (x : α) (k : Nat) : (List.replicate k [x]).flatten = List.replicate k x := by
  induction k with
  | zero => rfl
  | succ k ih => rw [List.replicate_succ, List.flatten_cons, ih, List.replicate_succ]; rfl
theorem sortT_of {α : Type} {rs ys : List α} (f : α → T) (g : α → PyData) (le : α → α → Bool) (h1 : ∀ r ∈ rs, toPT 64 (f r) = some (g r)) (hd : ∀ r ∈ rs, (g r).depth ≤ 70) (ha : PySem.W.AllAlike (rs.map g)) (ho : PySem.W.Sortable (rs.map g)) (hl : rs.length ≤ sizeLine)
    (hle : ∀ a ∈ rs, ∀ b ∈ rs, PySem.W.dataLe false g a b = le a b) (hs : rs.mergeSort le = ys) : sortT (rs.map f) = some (ys.map f) := by
  unfold sortT
  rw [optAll_map (h := g) rs h1]
  have hz : (rs.map f).zip (rs.map g) = rs.map fun r => (f r, g r) := List.zip_map'
  have hsort : (rs.map fun r => (f r, g r)).mergeSort (PySem.W.dataLe false fun p => p.2) = (rs.mergeSort le).map fun r => (f r, g r) :=
    (PySem.W.sort_maps (fun r => (f r, g r)) fun a ha b hb => (hle a ha b hb).symm).symm
  have hc : PySem.W.AllAlike (rs.map g) ∧ PySem.W.Sortable (rs.map g) ∧ (rs.map f).length ≤ sizeLine ∧ ∀ d ∈ rs.map g, d.depth ≤ 70 := by
    refine ⟨ha, ho, by rw [List.length_map]; exact hl, fun d h => ?_⟩
    obtain ⟨r, hr, rfl⟩ := List.mem_map.mp h
    exact hd r hr
  dsimp only
  rw [if_pos hc, hz, hsort, hs, List.map_map]
  rfl
/-- sorted of rows: the rows by their order -/
theorem sortT_rows {rs : List (List Int)} (hne : ∀ r ∈ rs, r ≠ []) (hl : rs.length ≤ sizeLine) : sortT (rs.map row) = some ((rs.mergeSort rle).map row) := by
  refine sortT_of row pr rle (fun r _ => toPT_row 63 r) (fun r _ => by rw [depth_pr]; decide) (fun d h e h' => ?_) (.inl fun d h => ?_) hl (fun a _ b _ => dataLe_pr a b) rfl
  · obtain ⟨r, hr, rfl⟩ := List.mem_map.mp h
    obtain ⟨q, hq, rfl⟩ := List.mem_map.mp h'
    exact alike_pr r q
  · obtain ⟨r, hr, rfl⟩ := List.mem_map.mp h
    cases r with
    | nil => exact absurd rfl (hne _ hr)
    | cons x r => exact ⟨.int x, r.map .int, rfl⟩
theorem irange_T (n : Nat) : vrange 0 n = (List.range n).map fun (i : Nat) => T.int (i : Int) := by
  unfold vrange
  congr 1
  funext i
  rw [Int.zero_add]
theorem cutT_to (xs : List T) (i : Nat) : cutT xs none (some (i : Int)) = xs.take i := by
  unfold cutT HT.sIx
  simp only [show ¬ ((i : Int) < 0) by omega, if_false, Int.toNat_natCast, List.drop_zero, Nat.sub_zero]
  rw [List.take_eq_take_iff]
  simp
theorem cutT_from (xs : List T) (i : Nat) : cutT xs (some (i : Int)) none = xs.drop i := by
  unfold cutT HT.sIx
  simp only [show ¬ ((i : Int) < 0) by omega, if_false, Int.toNat_natCast]
  rw [List.take_of_length_le (by simp)]
  by_cases h : i ≤ xs.length
  · rw [Nat.min_eq_left h]
  · rw [Nat.min_eq_right (by omega), List.drop_length, List.drop_of_length_le (by omega)]
end Rol

namespace Rol.G
open PySem L2 PySem.Spec Rol
open PyProof.Rows hiding St
def ss (a b : Int) : List Int := if a = 0 ∨ a = b then [b] else if b = 0 then [a] else [-1, 0, 1]
def sg (x y : Int) : Int := if y < x then 1 else if x < y then -1 else 0
def neg (r : List Int) : List Int := r.map fun i => -i
def zero (n : Nat) : List Int := List.replicate n 0
def prod : List (List Int) → List (List Int)
  | [] => [[]]
  | c :: cs => c.flatMap fun z => (prod cs).map (z :: ·)
theorem prod_snoc (c : List Int) : ∀ cs : List (List Int), prod (cs ++ [c]) = (prod cs).flatMap fun r => c.map fun z => r ++ [z]
  | [] => by
    simp only [List.nil_append, prod, List.flatMap_cons, List.flatMap_nil, List.append_nil]
    show List.flatMap (fun z => [[z]]) c = c.map fun z => [z]
    induction c with
    | nil => rfl
    | cons z c ih => rw [List.flatMap_cons, ih]; rfl
  | d :: cs => by
    simp only [List.cons_append, prod, prod_snoc c cs, List.flatMap_assoc, List.map_flatMap, List.flatMap_map, List.map_map]
    rfl
theorem prod_len : ∀ cs : List (List Int), (∀ c ∈ cs, c.length ≤ 3) → (prod cs).length ≤ 3 ^ cs.length
  | [], _ => by simp [prod]
  | c :: cs, h => by
    have h1 := prod_len cs fun d hd => h d (List.mem_cons_of_mem _ hd)
    have h2 := h c (List.mem_cons_self ..)
    have e : (prod (c :: cs)).length = c.length * (prod cs).length := by
      rw [prod]
      clear h1 h2 h
      induction c with
      | nil => simp
      | cons z c ih => rw [List.flatMap_cons, List.length_append, ih, List.length_map, List.length_cons, Nat.succ_mul, Nat.add_comm]
    rw [e, List.length_cons, Nat.pow_succ, Nat.mul_comm]
    exact Nat.mul_le_mul h1 h2
theorem mem_prod : ∀ (cs : List (List Int)) (r : List Int), r ∈ prod cs ↔ Pd (fun z c => z ∈ c) r cs
  | [], r => by
    rw [prod, List.mem_singleton]
    exact ⟨fun e => e ▸ .nil, fun h => by cases h; rfl⟩
  | c :: cs, r => by
    rw [prod, List.mem_flatMap]
    constructor
    · rintro ⟨z, hz, h⟩
      obtain ⟨t, ht, rfl⟩ := List.mem_map.mp h
      exact .cons hz ((mem_prod cs t).mp ht)
    · intro h
      cases h with
      | cons h1 h2 => exact ⟨_, h1, List.mem_map.mpr ⟨_, (mem_prod cs _).mpr h2, rfl⟩⟩
theorem lt_asymm : ∀ a b : List Int, HT.lexLt a b = true → HT.lexLt b a = false
  | [], [], h => by simp [HT.lexLt] at h
  | [], _ :: _, _ => by simp [HT.lexLt]
  | _ :: _, [], h => by simp [HT.lexLt] at h
  | x :: a, y :: b, h => by
    rw [HT.lexLt] at h ⊢
    by_cases e : x = y
    · subst e
      rw [if_pos rfl] at h ⊢
      exact lt_asymm a b h
    · rw [if_neg e] at h
      rw [if_neg (Ne.symm e)]
      simp only [decide_eq_true_eq, decide_eq_false_iff_not] at h ⊢
      omega
abbrev Sgn (z : Int) : Prop := z = -1 ∨ z = 0 ∨ z = 1
theorem ss_sgn {a b z : Int} (ha : Sgn a) (hb : Sgn b) (h : z ∈ ss a b) : Sgn z := by
  unfold ss at h
  split at h
  · rw [List.mem_singleton] at h; exact h ▸ hb
  · split at h
    · rw [List.mem_singleton] at h; exact h ▸ ha
    · simp at h; exact h
theorem ss_len (a b : Int) : (ss a b).length ≤ 3 := by
  unfold ss
  split
  · simp
  · split <;> simp
theorem ss_sorted (a b : Int) : (ss a b).Pairwise (· < ·) := by
  unfold ss
  split
  · simp
  · split
    · simp
    · decide
abbrev Sr (r : List Int) : Prop := ∀ z ∈ r, Sgn z
theorem zip_len3 : ∀ (a b : List Int) (c : List Int), c ∈ List.zipWith ss a b → c.length ≤ 3 ∧ c.Pairwise (· < ·)
  | [], _, _, h => by simp at h
  | _ :: _, [], _, h => by simp at h
  | x :: a, y :: b, c, h => by
    rw [List.zipWith_cons_cons, List.mem_cons] at h
    rcases h with rfl | h
    · exact ⟨ss_len _ _, ss_sorted _ _⟩
    · exact zip_len3 a b c h
theorem Pd.len {α β : Type} {R : α → β → Prop} {as : List α} {bs : List β} (h : Pd R as bs) : as.length = bs.length := h.length.symm
theorem prod_rows : ∀ (a b r : List Int), Sr a → Sr b → r ∈ prod (List.zipWith ss a b) → Sr r ∧ r.length = min a.length b.length
  | [], b, r, _, _, h => by
    simp [prod] at h
    subst h
    exact ⟨fun z hz => (by cases hz), by simp⟩
  | _ :: _, [], r, _, _, h => by
    simp [prod] at h
    subst h
    exact ⟨fun z hz => (by cases hz), by simp⟩
  | x :: a, y :: b, r, ha, hb, h => by
    rw [mem_prod, List.zipWith_cons_cons] at h
    cases h with
    | cons h1 h2 =>
      obtain ⟨k1, k2⟩ := prod_rows a b _ (fun z hz => ha z (List.mem_cons_of_mem _ hz)) (fun z hz => hb z (List.mem_cons_of_mem _ hz)) ((mem_prod _ _).mpr h2)
      refine ⟨fun z hz => ?_, ?_⟩
      · cases hz with
        | head => exact ss_sgn (ha x (List.mem_cons_self ..)) (hb y (List.mem_cons_self ..)) h1
        | tail _ hz => exact k1 z hz
      · rw [List.length_cons, k2, List.length_cons, List.length_cons]
        omega
def ddR (acc : List (List Int)) (r : List Int) : List (List Int) := if r ∈ acc then acc else acc ++ [r]
def dedR (rs : List (List Int)) : List (List Int) := rs.foldl ddR []
theorem dedR_props : ∀ (rs acc : List (List Int)), acc.Nodup → (rs.foldl ddR acc).Nodup ∧ (∀ x, x ∈ rs.foldl ddR acc ↔ x ∈ acc ∨ x ∈ rs) ∧ (rs.foldl ddR acc).length ≤ acc.length + rs.length
  | [], acc, h => ⟨h, fun x => by simp, by simp⟩
  | r :: rs, acc, h => by
    rw [List.foldl_cons]
    by_cases hr : r ∈ acc
    · have e : ddR acc r = acc := if_pos hr
      rw [e]
      obtain ⟨h1, h2, h3⟩ := dedR_props rs acc h
      refine ⟨h1, fun x => ?_, by rw [List.length_cons]; omega⟩
      rw [h2, List.mem_cons]
      constructor
      · rintro (k | k)
        · exact .inl k
        · exact .inr (.inr k)
      · rintro (k | k | k)
        · exact .inl k
        · exact .inl (k ▸ hr)
        · exact .inr k
    · have e : ddR acc r = acc ++ [r] := if_neg hr
      rw [e]
      obtain ⟨h1, h2, h3⟩ := dedR_props rs (acc ++ [r]) (by
        rw [List.nodup_append]
        exact ⟨h, by simp, fun a ha b hb => by
          rw [List.mem_singleton] at hb
          intro q
          exact hr (hb ▸ q ▸ ha)⟩)
      refine ⟨h1, fun x => ?_, by rw [List.length_append, List.length_singleton] at h3; rw [List.length_cons]; omega⟩
      rw [h2, List.mem_cons, List.mem_append, List.mem_singleton]
      constructor
      · rintro ((k | k) | k)
        · exact .inl k
        · exact .inr (.inl k)
        · exact .inr (.inr k)
      · rintro (k | k | k)
        · exact .inl (.inl k)
        · exact .inl (.inr k)
        · exact .inr k
noncomputable def srt (rs : List (List Int)) : List (List Int) := (dedR rs).mergeSort rle
theorem inl_inj : ∀ a b : List Int, a.map (Sum.inl : Int → Key) = b.map Sum.inl → a = b
  | [], [], _ => rfl
  | [], _ :: _, h => by simp at h
  | _ :: _, [], h => by simp at h
  | x :: a, y :: b, h => by
    rw [List.map_cons, List.map_cons, List.cons.injEq] at h
    rw [Sum.inl.inj h.1, inl_inj a b h.2]

def Row (n : Nat) (r : List Int) : Prop := Sr r ∧ r.length = n
def Rising (rs : List (List Int)) : Prop := rs.Pairwise fun a b => HT.lexLt a b = true
theorem lt_irrefl (a : List Int) : HT.lexLt a a = false := by
  cases h : HT.lexLt a a with
  | false => rfl
  | true => have := lt_asymm a a h; rw [h] at this; cases this
theorem Rising.nodup {rs : List (List Int)} (h : Rising rs) : rs.Nodup := h.imp fun {a b} hab e => by
  subst e
  rw [lt_irrefl] at hab
  cases hab
theorem rising_of {rs : List (List Int)} (hn : rs.Nodup) (hs : rs.Pairwise fun a b => rle a b = true) : Rising rs := by
  unfold Rising
  have := hs.and hn
  refine this.imp fun {a b} ⟨h1, h2⟩ => ?_
  unfold rle at h1
  rw [Bool.not_eq_true'] at h1
  cases h : HT.lexLt a b with
  | true => rfl
  | false => exact absurd (lexLt_anti a b h h1) h2
/-- two rising lists of the same rows are one -/
theorem Rising.ext {rs qs : List (List Int)} (h : Rising rs) (g : Rising qs) (e : ∀ x, x ∈ rs ↔ x ∈ qs) : rs = qs := by
  have hp : rs.Perm qs := (List.perm_ext_iff_of_nodup h.nodup g.nodup).mpr e
  exact List.Perm.eq_of_pairwise (le := fun a b => HT.lexLt a b = true) (fun a b _ _ h1 h2 => by
    have := lt_asymm a b h1
    rw [h2] at this
    cases this) h g hp
theorem srt_rising (rs : List (List Int)) : Rising (srt rs) := by
  obtain ⟨a1, _, _⟩ := dedR_props rs [] (by simp)
  exact rising_of ((List.mergeSort_perm _ _).nodup_iff.mpr a1) (PySem.W.sort_pairwise rle_total _)
theorem mem_srt (rs : List (List Int)) (x : List Int) : x ∈ srt rs ↔ x ∈ rs := by
  obtain ⟨_, a2, _⟩ := dedR_props rs [] (by simp)
  unfold srt
  rw [List.mem_mergeSort]
  exact (a2 x).trans (by simp)
/-- all rows -/
def allr (n : Nat) : List (List Int) := prod (List.replicate n [-1, 0, 1])
theorem mem_allr {n : Nat} {r : List Int} : r ∈ allr n ↔ Row n r := by
  unfold allr Row
  rw [mem_prod]
  constructor
  · intro h
    have hl := (Pd.length h).symm
    rw [List.length_replicate] at hl
    refine ⟨?_, hl⟩
    have : ∀ (r : List Int) (cs : List (List Int)), Pd (fun z c => z ∈ c) r cs → (∀ c ∈ cs, c = [-1, 0, 1]) → Sr r := by
      intro r cs h
      induction h with
      | nil => intro _ z hz; cases hz
      | @cons w b' as' bs' h1 _ ih =>
        intro hc z hz
        rcases List.mem_cons.mp hz with rfl | hz
        · rw [hc b' (by simp)] at h1
          simpa [Sgn] using h1
        · exact ih (fun c hc' => hc c (by simp [hc'])) z hz
    exact this r _ h fun c hc => List.eq_of_mem_replicate hc
  · rintro ⟨hs, hl⟩
    subst hl
    induction r with
    | nil => exact .nil
    | cons z r ih =>
      rw [List.length_cons, List.replicate_succ]
      exact .cons (by have := hs z (by simp); simpa [Sgn] using this) (ih fun y hy => hs y (by simp [hy]))
theorem allr_len (n : Nat) : (allr n).length ≤ 3 ^ n := by
  have := prod_len (List.replicate n [-1, 0, 1]) fun c hc => by rw [List.eq_of_mem_replicate hc]; decide
  rw [List.length_replicate] at this
  exact this
theorem pow6 {n : Nat} (h : n ≤ 6) : (3 : Nat) ^ n ≤ 729 := by
  have : n = 0 ∨ n = 1 ∨ n = 2 ∨ n = 3 ∨ n = 4 ∨ n = 5 ∨ n = 6 := by omega
  rcases this with rfl | rfl | rfl | rfl | rfl | rfl | rfl <;> decide
/-- lots, tables -/
structure Lot (n : Nat) (rs : List (List Int)) : Prop where
  up : Rising rs
  row : ∀ r ∈ rs, Row n r
theorem Lot.len {n : Nat} {rs : List (List Int)} (h : Lot n rs) (hn : n ≤ 6) : rs.length ≤ 729 := by
  have : rs.length ≤ (allr n).length := h.up.nodup.length_le_of_subset fun r hr => mem_allr.mpr (h.row r hr)
  exact Nat.le_trans this (Nat.le_trans (allr_len n) (pow6 hn))
theorem zero_row (n : Nat) : Row n (zero n) := ⟨fun z hz => .inr (.inl (List.eq_of_mem_replicate hz)), List.length_replicate⟩
end Rol.G

namespace Rol.G
open PySem L2 PySem.Spec Rol
open PyProof.Rows hiding St
def top (i : Nat) : Stmt := PySem.Challenge.pw_roundorlist_k07_rows_that_lead_to_a_row.main.body.getD i (.Pass ⟨0, 0, 0, 0⟩)
def emx (c x : Str) : Option Bool := if c = "BadMany" then (if x = "BadMany" then some true else if x = "BadRow" then some false else if x = "BadRows" then some false else if x = "Refused" then some true else none) else if c = "BadRow" then (if x = "BadMany" then some false else if x = "BadRow" then some true else if x = "BadRows" then some false else if x = "Refused" then some true else none) else if c = "BadRows" then (if x = "BadMany" then some false else if x = "BadRow" then some false else if x = "BadRows" then some true else if x = "Refused" then some true else none) else none
theorem em_BadMany_BadMany : emx "BadMany" "BadMany" = some true := by unfold emx; repeat (first | rw [if_pos rfl] | rw [if_neg (by decide +kernel)])
theorem em_BadRow_BadMany : emx "BadRow" "BadMany" = some false := by unfold emx; repeat (first | rw [if_pos rfl] | rw [if_neg (by decide +kernel)])
theorem em_BadRow_BadRow : emx "BadRow" "BadRow" = some true := by unfold emx; repeat (first | rw [if_pos rfl] | rw [if_neg (by decide +kernel)])
theorem em_BadRow_BadRows : emx "BadRow" "BadRows" = some false := by unfold emx; repeat (first | rw [if_pos rfl] | rw [if_neg (by decide +kernel)])
theorem em_BadRows_BadMany : emx "BadRows" "BadMany" = some false := by unfold emx; repeat (first | rw [if_pos rfl] | rw [if_neg (by decide +kernel)])
theorem em_BadRows_BadRows : emx "BadRows" "BadRows" = some true := by unfold emx; repeat (first | rw [if_pos rfl] | rw [if_neg (by decide +kernel)])
abbrev N_is_number : List Str := ["thing"]
noncomputable def m_is_number : DS := (sRet (eAnd (eCall dIsi (aCons (eVar 0) (aCons (eC (.opq (.ty "int"))) aNil))) (eNot (eCall dIsi (aCons (eVar 0) (aCons (eC (.opq (.ty "bool"))) aNil))))))
noncomputable def d_is_number : Fn := body 1 m_is_number

abbrev N_is_many : List Str := ["n"]
noncomputable def m_is_many : DS := (sRet (eAnd (eFn d_is_number (aCons (eVar 0) aNil)) (eChain dLeA dLeA (eC (.int 1)) (eVar 0) (eC (.int 6)))))
noncomputable def d_is_many : Fn := body 1 m_is_many

abbrev N_ask_many : List Str := ["n"]
noncomputable def m_ask_many : DS := (sIf (tNotD (tOf (eFn d_is_many (aCons (eVar 0) aNil)))) (sRaise "BadMany" (eVar 0)) sSkip)
noncomputable def d_ask_many : Fn := body 1 m_ask_many

abbrev N_row_fault : List Str := ["n", "thing", "place", "sign"]
noncomputable def m_row_fault : DS := (sSeq (sIf (tOrD (tNotD (tOf (eCall dIsi (aCons (eVar 1) (aCons (eC (.opq (.ty "tuple"))) aNil))))) (tOf (e2 dNe (eCall dLen (aCons (eVar 1) aNil)) (eVar 0)))) (sRet (e1 dNeg (eC (.int 1)))) sSkip) (sSeq (sFor (iEnumT (aCons (eVar 1) aNil)) (.tp [(.nm 2), (.nm 3)]) (sIf (tOrD (tNotD (tOf (eFn d_is_number (aCons (eVar 3) aNil)))) (tOf (e2 (dIn true) (eVar 3) (eC (.tup [(.int (-1)), (.int 0), (.int 1)]))))) (sRet (eVar 2)) sSkip)) (sRet (eC .non))))
noncomputable def d_row_fault : Fn := body 4 m_row_fault

abbrev N_made_row : List Str := ["n", "thing", "fault"]
noncomputable def m_made_row : DS := (sSeq (sExpr (eFn d_ask_many (aCons (eVar 0) aNil))) (sSeq (sSet 2 (eFn d_row_fault (aCons (eVar 0) (aCons (eVar 1) aNil)))) (sSeq (sIf (tOf (e2 dNotN (eVar 2) (eC .non))) (sRaise "BadRow" (eVar 2)) sSkip) (sRet (eVar 1)))))
noncomputable def d_made_row : Fn := body 3 m_made_row

abbrev N_made_rows : List Str := ["n", "thing", "index", "row"]
noncomputable def m_made_rows : DS := (sSeq (sExpr (eFn d_ask_many (aCons (eVar 0) aNil))) (sSeq (sIf (tOrD (tNotD (tOf (eCall dIsi (aCons (eVar 1) (aCons (eC (.opq (.ty "tuple"))) aNil))))) (tNotD (tOf (eChain dLeA dLeA (eC (.int 1)) (eCall dLen (aCons (eVar 1) aNil)) (eC (.int 14)))))) (sRaise "BadRows" (e1 dNeg (eC (.int 1)))) sSkip) (sSeq (sFor (iEnumT (aCons (eVar 1) aNil)) (.tp [(.nm 2), (.nm 3)]) (sIf (tOf (e2 dNotN (eFn d_row_fault (aCons (eVar 0) (aCons (eVar 3) aNil))) (eC .non))) (sRaise "BadRows" (eVar 2)) sSkip)) (sRet (eVar 1)))))
noncomputable def d_made_rows : Fn := body 4 m_made_rows

abbrev N_marks_of : List Str := ["row", "marks", "place", "sign"]
noncomputable def m_marks_of : DS := (sSeq (sSet 1 (eC (.int 0))) (sSeq (sFor (iEnumT (aCons (eVar 0) aNil)) (.tp [(.nm 2), (.nm 3)]) (sSet 1 (e2 dOr (eVar 1) (e2 dShl (e1 (dWGet [(.inl  0, (.int 0)), (.inl  1, (.int 1)), (.inl  (-1), (.int 2))]) (eVar 3)) (e2 dMulW (eC (.int 2)) (eVar 2)))))) (sRet (eVar 1))))
noncomputable def d_marks_of : Fn := body 4 m_marks_of

abbrev N_marks_lead : List Str := ["marks", "row", "place", "sign", "here"]
noncomputable def m_marks_lead : DS := (sSeq (sFor (iEnumT (aCons (eVar 1) aNil)) (.tp [(.nm 2), (.nm 3)]) (sSeq (sSet 4 (e2 dAnd (e2 dShr (eVar 0) (e2 dMulW (eC (.int 2)) (eVar 2))) (eC (.int 3)))) (sSeq (sIf (tAndD (tOf (e2 dEq (eVar 3) (eC (.int 0)))) (tOf (e2 (dIn true) (eVar 4) (eTup (aCons (eC (.int 0)) (aCons (eC (.int 3)) aNil)))))) (sRet (eC (.bl false))) sSkip) (sIf (tAndD (tOf (e2 dNe (eVar 3) (eC (.int 0)))) (tOf (e2 dEq (e2 dAnd (eVar 4) (e1 (dWGet [(.inl  0, (.int 0)), (.inl  1, (.int 1)), (.inl  (-1), (.int 2))]) (eVar 3))) (eC (.int 0))))) (sRet (eC (.bl false))) sSkip)))) (sRet (eC (.bl true))))
noncomputable def d_marks_lead : Fn := body 5 m_marks_lead

abbrev N_leads : List Str := ["n", "rows", "row", "marks", "each"]
noncomputable def m_leads : DS := (sSeq (sExpr (eFn d_made_rows (aCons (eVar 0) (aCons (eVar 1) aNil)))) (sSeq (sExpr (eFn d_made_row (aCons (eVar 0) (aCons (eVar 2) aNil)))) (sSeq (sSet 3 (eC (.int 0))) (sSeq (sFor (iSeq (eVar 1)) (.nm 4) (sSet 3 (e2 dOr (eVar 3) (eFn d_marks_of (aCons (eVar 4) aNil))))) (sRet (eFn d_marks_lead (aCons (eVar 3) (aCons (eVar 2) aNil))))))))
noncomputable def d_leads : Fn := body 5 m_leads

abbrev N__law_pool : List Str := ["script", "k", "cell", "big", "mixed"]
noncomputable def m__law_pool : DS := (sSeq (sSet 2 (eC (.int 0))) (sSeq (sIf (tOf (e2 dLt (eVar 1) (eCall dLen (aCons (eVar 0) aNil)))) (sSet 2 (e2 dIx (eVar 0) (eVar 1))) (sIf (tOf (e2 dNe (eVar 0) (eLst aNil))) (sSet 2 (e2 dIx (eVar 0) (eC (.int 0)))) sSkip)) (sSeq (sSet 3 (eCall dMax (aCons (eCall dIntS (aCons (eVar 2) aNil)) (aCons (eCall dIntS (aCons (e2 dSub (e1 dNeg (eC (.int 1))) (eVar 2)) aNil)) aNil)))) (sSeq (sSet 4 (e2 dMod (eCall dIntS (aCons (e2 dMulW (e2 dAdd (e2 dAdd (e2 dAdd (e2 dMod (eCall dIntS (aCons (eVar 3) aNil)) (eC (.int 2147483629))) (e2 dMulW (e2 dMulW (eC (.int 7919)) (eVar 1)) (eVar 1))) (e2 dMulW (eC (.int 31)) (eVar 1))) (eC (.int 17))) (eC (.int 48271))) aNil)) (eC (.int 2147483647)))) (sRet (eLst (aCons (e2 dMulW (eVar 3) (eCall dIntS (aCons (eAnd (e2 dGe (eVar 3) (e2 dPow (eC (.int 10)) (eC (.int 18)))) (e2 dLt (eVar 1) (eCall dLen (aCons (eVar 0) aNil)))) aNil))) (aCons (eVar 4) aNil))))))))
noncomputable def d__law_pool : Fn := body 5 m__law_pool

abbrev N__law_take : List Str := ["jar", "top", "drawn"]
noncomputable def m__law_take : DS := (sSeq (sIf (tOf (e2 dGt (e2 dIx (eVar 0) (eC (.int 0))) (eC (.int 0)))) (sSeq (sSet 2 (e2 dMod (eCall dIntS (aCons (e2 dIx (eVar 0) (eC (.int 0))) aNil)) (eVar 1))) (sSeq (sSub dSetIx (eVar 0) (eC (.int 0)) (e2 dFdiv (e2 dIx (eVar 0) (eC (.int 0))) (eVar 1))) (sRet (eVar 2)))) sSkip) (sSeq (sSub dSetIx (eVar 0) (eC (.int 1)) (e2 dMod (eCall dIntS (aCons (e2 dAdd (e2 dMulW (e2 dIx (eVar 0) (eC (.int 1))) (eC (.int 39373))) (eC (.int 7))) aNil)) (eC (.int 2147483647)))) (sRet (e2 dMod (eCall dIntS (aCons (e2 dFdiv (e2 dMod (eCall dIntS (aCons (e2 dMulW (e2 dIx (eVar 0) (eC (.int 1))) (e2 dIx (eVar 0) (eC (.int 1)))) aNil)) (eC (.int 2147483629))) (eC (.int 32))) aNil)) (eVar 1)))))
noncomputable def d__law_take : Fn := body 3 m__law_take

abbrev N__law_one : List Str := ["jar", "things"]
noncomputable def m__law_one : DS := (sRet (e2 dIx (eVar 1) (eFn d__law_take (aCons (eVar 0) (aCons (eCall dLen (aCons (eVar 1) aNil)) aNil)))))
noncomputable def d__law_one : Fn := body 2 m__law_one

abbrev N__law_mixed : List Str := ["jar", "things", "left_over", "found", "place"]
noncomputable def m__law_mixed : DS := (sSeq (sPar [2, 3] (aCons (eCall dList (aCons (eVar 1) aNil)) (aCons (eLst aNil) aNil))) (sSeq (sFor (iRg1 (aCons (eCall dLen (aCons (eVar 1) aNil)) aNil)) (.nm 4) (sExpr (eMt dAppend (eVar 3) (aCons (eMt dPop (eVar 2) (aCons (eFn d__law_take (aCons (eVar 0) (aCons (eCall dLen (aCons (eVar 2) aNil)) aNil))) aNil)) aNil)))) (sRet (eVar 3))))
noncomputable def d__law_mixed : Fn := body 5 m__law_mixed

abbrev N__law_level : List Str := ["n"]
noncomputable def m__law_level : DS := (sRet (e2 dMulW (eTup (aCons (eC (.int 0)) aNil)) (eVar 0)))
noncomputable def d__law_level : Fn := body 1 m__law_level

abbrev N__law_sums_of : List Str := ["one", "two", "found", "i", "a", "b", "some", "later", "row", "c"]
noncomputable def m__law_sums_of : DS := (sSeq (sSet 2 (eLst (aCons (eTup aNil) aNil))) (sSeq (sFor (iRg1 (aCons (eCall dLen (aCons (eVar 0) aNil)) aNil)) (.nm 3) (sSeq (sPar [4, 5] (aCons (e2 dIx (eVar 0) (eVar 3)) (aCons (e2 dIx (eVar 1) (eVar 3)) aNil))) (sSeq (sSet 6 (eIf (tAndD (tOf (e2 dNe (eVar 4) (eC (.int 0)))) (tOf (e2 dEq (eVar 4) (e1 dNeg (eVar 5))))) (eLst (aCons (e1 dNeg (eC (.int 1))) (aCons (eC (.int 0)) (aCons (eC (.int 1)) aNil)))) (eLst (aCons (eIf (tOf (e2 dEq (eVar 4) (eC (.int 0)))) (eVar 5) (eVar 4)) aNil)))) (sSeq (sSet 7 (eLst aNil)) (sSeq (sFor (iSeq (eVar 2)) (.nm 8) (sExpr (eMt dExtend (eVar 7) (aCons (eComp (iSeq (eVar 6)) (.nm 9) [9] tYesD (e2 dAdd (eVar 8) (eTup (aCons (eVar 9) aNil)))) aNil)))) (sSet 2 (eVar 7))))))) (sRet (eVar 2))))
noncomputable def d__law_sums_of : Fn := body 10 m__law_sums_of

abbrev N__law_any_row : List Str := ["jar", "n", "i"]
noncomputable def m__law_any_row : DS := (sRet (eCall dTuple (aCons (eComp (iRg1 (aCons (eVar 1) aNil)) (.nm 2) [2] tYesD (e2 dSub (eFn d__law_take (aCons (eVar 0) (aCons (eC (.int 3)) aNil))) (eC (.int 1)))) aNil)))
noncomputable def d__law_any_row : Fn := body 3 m__law_any_row

abbrev N__law_line_row : List Str := ["jar", "row", "line", "i"]
noncomputable def m__law_line_row : DS := (sRet (eCall dTuple (aCons (eComp (iRg1 (aCons (eCall dLen (aCons (eVar 1) aNil)) aNil)) (.nm 3) [3] tYesD (eIf (tAndD (tOf (e2 dEq (e2 dIx (eVar 1) (eVar 3)) (eC (.int 0)))) (tOf (e2 (dIn false) (eVar 3) (eVar 2)))) (eFn d__law_one (aCons (eVar 0) (aCons (eLst (aCons (eC (.int 1)) (aCons (e1 dNeg (eC (.int 1))) aNil))) aNil))) (e2 dIx (eVar 1) (eVar 3)))) aNil)))
noncomputable def d__law_line_row : Fn := body 4 m__law_line_row

abbrev N__law_leads : List Str := ["rows", "row", "i", "there", "one"]
noncomputable def m__law_leads : DS := (sSeq (sFor (iRg1 (aCons (eCall dLen (aCons (eVar 1) aNil)) aNil)) (.nm 2) (sSeq (sSet 3 (eComp (iSeq (eVar 0)) (.nm 4) [4] tYesD (e2 dIx (eVar 4) (eVar 2)))) (sIf (tOrD (tAndD (tOf (e2 dNe (e2 dIx (eVar 1) (eVar 2)) (eC (.int 0)))) (tOf (e2 (dIn true) (e2 dIx (eVar 1) (eVar 2)) (eVar 3)))) (tAndD (tOf (e2 dEq (e2 dIx (eVar 1) (eVar 2)) (eC (.int 0)))) (tOf (e2 dNe (e2 (dIn false) (eC (.int 1)) (eVar 3)) (e2 (dIn false) (e1 dNeg (eC (.int 1))) (eVar 3)))))) (sRet (eC (.bl false))) sSkip))) (sRet (e2 dGt (eCall dLen (aCons (eVar 0) aNil)) (eC (.int 0)))))
noncomputable def d__law_leads : Fn := body 5 m__law_leads

abbrev N__law_heard : List Str := ["call", "error"]
def hl__law_heard : List HC := [⟨"BadMany", fun c => some (.tup [(.str "many"), .what])⟩, ⟨"BadRows", fun c => some (.tup [(.str "rows"), .what])⟩, ⟨"BadRow", fun c => some (.tup [(.str "row"), .what])⟩, ⟨"Refused", fun c => some (.tup [(.str "other"), .non])⟩]

abbrev N__law_all_sums : List Str := ["rows", "found", "row", "later", "one", "new"]
noncomputable def m__law_all_sums : DS := (sSeq (sSet 1 (eDOne (e2 dIx (eVar 0) (eC (.int 0))) (eC (.bl true)))) (sSeq (sFor (iSeq (eSl (eVar 0) (oSome (eC (.int 1))) oNone)) (.nm 2) (sSeq (sSet 3 eDNewX) (sSeq (sLock 1 (sFor (iWalk (eVar 1)) (.nm 4) (sFor (iSeq (eFn d__law_sums_of (aCons (eVar 4) (aCons (eVar 2) aNil)))) (.nm 5) (sSub dDPut (eVar 3) (eVar 5) (eC (.bl true)))))) (sSet 1 (eVar 3))))) (sRet (eVar 1))))
noncomputable def d__law_all_sums : Fn := body 6 m__law_all_sums

abbrev N__law_drawn_rows : List Str := ["jar", "n", "most", "found", "turn", "way"]
noncomputable def m__law_drawn_rows : DS := (sSeq (sSet 3 (eLst (aCons (eFn d__law_any_row (aCons (eVar 0) (aCons (eVar 1) aNil))) aNil))) (sSeq (sFor (iRg1 (aCons (eFn d__law_take (aCons (eVar 0) (aCons (eVar 2) aNil))) aNil)) (.nm 4) (sSeq (sSet 5 (eFn d__law_take (aCons (eVar 0) (aCons (eC (.int 8)) aNil)))) (sExpr (eMt dAppend (eVar 3) (aCons (eIf (tOf (e2 dEq (eVar 5) (eC (.int 0)))) (eFn d__law_level (aCons (eVar 1) aNil)) (eIf (tOf (e2 dEq (eVar 5) (eC (.int 1)))) (eFn d__law_one (aCons (eVar 0) (aCons (eVar 3) aNil))) (eFn d__law_any_row (aCons (eVar 0) (aCons (eVar 1) aNil))))) aNil))))) (sRet (eCall dTuple (aCons (eVar 3) aNil)))))
noncomputable def d__law_drawn_rows : Fn := body 6 m__law_drawn_rows

abbrev N__law_small_right : List Str := ["jar", "n", "rows", "reached", "asked", "mixed_rows", "later", "row", "due", "turn"]
noncomputable def m__law_small_right : DS := (sSeq (sSet 2 (eFn d__law_drawn_rows (aCons (eVar 0) (aCons (eVar 1) (aCons (eFn d__law_one (aCons (eVar 0) (aCons (eLst (aCons (eC (.int 9)) (aCons (eC (.int 9)) (aCons (eC (.int 12)) aNil)))) aNil))) aNil))))) (sSeq (sSet 3 (eFn d__law_all_sums (aCons (eVar 2) aNil))) (sSeq (sSet 4 (e2 dAdd (eComp (iRg1 (aCons (eC (.int 5)) aNil)) (.nm 9) [9] tYesD (eFn d__law_any_row (aCons (eVar 0) (aCons (eVar 1) aNil)))) (eLst (aCons (eFn d__law_level (aCons (eVar 1) aNil)) (aCons (e2 dMulW (eTup (aCons (eC (.int 1)) aNil)) (eVar 1)) (aCons (eFn d__law_one (aCons (eVar 0) (aCons (e1 dSortX (eVar 3)) aNil))) aNil)))))) (sSeq (sSet 5 (eCall dTuple (aCons (eFn d__law_mixed (aCons (eVar 0) (aCons (e2 dAdd (eVar 2) (eSl (eVar 2) oNone (oSome (eC (.int 2))))) aNil))) aNil))) (sSeq (sSet 6 (eFn d__law_all_sums (aCons (eVar 5) aNil))) (sSeq (sFor (iSeq (eVar 4)) (.nm 7) (sSeq (sSet 8 (e2 (dDIn false) (eVar 7) (eVar 3))) (sSeq (sIf (tOf (e2 dNe (eCall dRepr (aCons (eTup (aCons (eFn d_leads (aCons (eVar 1) (aCons (eVar 2) (aCons (eVar 7) aNil)))) (aCons (eFnK0 d_leads [2, 1, 0] (aCons (eVar 7) (aCons (eVar 2) (aCons (eVar 1) aNil)))) aNil))) aNil)) (eCall dRepr (aCons (eTup (aCons (eVar 8) (aCons (eVar 8) aNil))) aNil)))) (sRet (eC (.bl false))) sSkip) (sSeq (sIf (tOf (e2 dNe (eVar 8) (eFn d__law_leads (aCons (eVar 2) (aCons (eVar 7) aNil))))) (sRet (eC (.bl false))) sSkip) (sIf (tOrD (tOf (e2 dNe (eCall dRepr (aCons (eFn d_leads (aCons (eVar 1) (aCons (eVar 5) (aCons (eVar 7) aNil)))) aNil)) (eCall dRepr (aCons (eVar 8) aNil)))) (tOf (e2 dNe (e2 (dDIn false) (eVar 7) (eVar 6)) (eVar 8)))) (sRet (eC (.bl false))) sSkip))))) (sRet (eC (.bl true)))))))))
noncomputable def d__law_small_right : Fn := body 10 m__law_small_right

abbrev N__law_wide_right : List Str := ["jar", "n", "rows", "reached", "turn", "row", "i"]
noncomputable def m__law_wide_right : DS := (sSeq (sSet 2 (eFn d__law_drawn_rows (aCons (eVar 0) (aCons (eVar 1) (aCons (eC (.int 14)) aNil))))) (sSeq (sSet 3 (eIf (tOf (e2 dEq (eFn d__law_take (aCons (eVar 0) (aCons (eC (.int 12)) aNil))) (eC (.int 0)))) (eFn d__law_all_sums (aCons (eSl (eVar 2) oNone (oSome (eC (.int 4)))) aNil)) (eC .non))) (sSeq (sFor (iRg1 (aCons (eC (.int 6)) aNil)) (.nm 4) (sSeq (sSet 5 (eFn d__law_any_row (aCons (eVar 0) (aCons (eVar 1) aNil)))) (sSeq (sIf (tAndD (tOf (e2 dNotN (eVar 3) (eC .non))) (tOf (e2 dNe (eCall dRepr (aCons (eFn d_leads (aCons (eVar 1) (aCons (eSl (eVar 2) oNone (oSome (eC (.int 4)))) (aCons (eVar 5) aNil)))) aNil)) (eCall dRepr (aCons (e2 (dDIn false) (eVar 5) (eVar 3)) aNil))))) (sRet (eC (.bl false))) sSkip) (sSeq (sIf (tOf (e2 dGt (eVar 4) (eC (.int 2)))) (sSet 5 (eFn d__law_line_row (aCons (eVar 0) (aCons (eVar 5) (aCons (eComp (iRg1 (aCons (eVar 1) aNil)) (.nm 6) [6] tYesD (eVar 6)) aNil))))) sSkip) (sIf (tOf (e2 dNe (eCall dRepr (aCons (eFnK0 d_leads [0, 1, 2] (aCons (eVar 1) (aCons (eVar 2) (aCons (eVar 5) aNil)))) aNil)) (eCall dRepr (aCons (eFn d__law_leads (aCons (eVar 2) (aCons (eVar 5) aNil))) aNil)))) (sRet (eC (.bl false))) sSkip))))) (sRet (eC (.bl true))))))
noncomputable def d__law_wide_right : Fn := body 7 m__law_wide_right

abbrev N__law_deep_thing : List Str := ["jar", "thing", "way", "turn"]
noncomputable def m__law_deep_thing : DS := (sSeq (sPar [1, 2] (aCons (eFn d__law_one (aCons (eVar 0) (aCons (eLst (aCons (eTup aNil) (aCons (eC (.int 0)) (aCons (eC (.str "two")) (aCons (eC .non) (aCons (eC (.bl true)) aNil)))))) aNil))) (aCons (eFn d__law_take (aCons (eVar 0) (aCons (eC (.int 4)) aNil))) aNil))) (sSeq (sIf (tOf (e2 dEq (eVar 2) (eC (.int 0)))) (sRet (eFn d__law_one (aCons (eVar 0) (aCons (eLst (aCons (e2 dMulW (eTup (aCons (e2 dMulW (eTup (aCons (eVar 1) aNil)) (eC (.int 900))) aNil)) (eC (.int 99))) (aCons (e2 dMulW (eTup (aCons (eVar 1) aNil)) (eC (.int 90000))) aNil))) aNil)))) sSkip) (sSeq (sFor (iRg1 (aCons (eIf (tOf (e2 dGt (eVar 2) (eC (.int 1)))) (eC (.int 45)) (eC (.int 14))) aNil)) (.nm 3) (sSet 1 (eIf (tOf (e2 dEq (eVar 2) (eC (.int 1)))) (eTup (aCons (eVar 1) (aCons (eVar 1) aNil))) (eTup (aCons (eVar 1) aNil))))) (sRet (eVar 1)))))
noncomputable def d__law_deep_thing : Fn := body 4 m__law_deep_thing

abbrev N__law_doors_right : List Str := ["jar", "n", "i", "odd", "bad", "bent", "rows", "thing"]
noncomputable def m__law_doors_right : DS := (sSeq (sSet 6 (eFn d__law_drawn_rows (aCons (eVar 0) (aCons (eVar 1) (aCons (eC (.int 4)) aNil))))) (sSeq (sFor (iSeq (eLst (aCons (eC (.int 0)) (aCons (eC (.int 7)) (aCons (e1 dNeg (eC (.int 1))) (aCons (eC .non) (aCons (eC (.str "3")) (aCons (eC (.bl true)) (aCons (eC (.bl false)) (aCons (eFn d__law_deep_thing (aCons (eVar 0) aNil)) aNil)))))))))) (.nm 4) (sIf (tOf (e2 dNe (eHeard emx (eFn d_leads (aCons (eVar 4) (aCons (eC .non) (aCons (eC .non) aNil)))) hl__law_heard) (eTup (aCons (eC (.str "many")) (aCons (eVar 4) aNil))))) (sRet (eC (.bl false))) sSkip)) (sSeq (sSet 2 (eFn d__law_take (aCons (eVar 0) (aCons (eVar 1) aNil)))) (sSeq (sSet 3 (eFn d__law_one (aCons (eVar 0) (aCons (eLst (aCons (eC (.int 2)) (aCons (e1 dNeg (eC (.int 2))) (aCons (eC .non) (aCons (eC (.str "0")) (aCons (eC (.bl true)) (aCons (eC (.bl false)) (aCons (eTup (aCons (eC (.int 0)) aNil)) (aCons (eFn d__law_deep_thing (aCons (eVar 0) aNil)) aNil))))))))) aNil)))) (sSeq (sSet 5 (e2 dAdd (e2 dAdd (e2 dMulW (eTup (aCons (eC (.int 0)) aNil)) (eVar 2)) (eTup (aCons (eVar 3) aNil))) (e2 dMulW (eTup (aCons (eC (.int 0)) aNil)) (e2 dSub (e2 dSub (eVar 1) (eVar 2)) (eC (.int 1)))))) (sSeq (sFor (iSeq (eLst (aCons (eC .non) (aCons (eTup aNil) (aCons (e2 dMulW (eVar 6) (eC (.int 15))) (aCons (eC (.str "rows")) (aCons (eC (.int 0)) (aCons (e2 dMulW (eTup (aCons (e2 dMulW (eTup (aCons (eC (.int 0)) aNil)) (eVar 1)) aNil)) (eC (.int 9000))) aNil)))))))) (.nm 7) (sIf (tOf (e2 dNe (eHeard emx (eFn d_leads (aCons (eVar 1) (aCons (eVar 7) (aCons (eC .non) aNil)))) hl__law_heard) (eTup (aCons (eC (.str "rows")) (aCons (e1 dNeg (eC (.int 1))) aNil))))) (sRet (eC (.bl false))) sSkip)) (sSeq (sFor (iSeq (eLst (aCons (eVar 5) (aCons (eC .non) (aCons (e2 dMulW (eTup (aCons (eC (.int 0)) aNil)) (e2 dAdd (eVar 1) (eC (.int 1)))) (aCons (e2 dMulW (eTup (aCons (eC (.int 0)) aNil)) (e2 dSub (eVar 1) (eC (.int 1)))) (aCons (eC (.int 0)) aNil))))))) (.nm 7) (sIf (tOf (e2 dNe (eHeard emx (eFn d_leads (aCons (eVar 1) (aCons (e2 dAdd (eVar 6) (eTup (aCons (eVar 7) aNil))) (aCons (eC .non) aNil)))) hl__law_heard) (eTup (aCons (eC (.str "rows")) (aCons (eCall dLen (aCons (eVar 6) aNil)) aNil))))) (sRet (eC (.bl false))) sSkip)) (sSeq (sFor (iSeq (eLst (aCons (eC .non) (aCons (e2 dMulW (eTup (aCons (eC (.int 0)) aNil)) (e2 dAdd (eVar 1) (eC (.int 1)))) (aCons (eTup aNil) (aCons (eC (.int 1)) aNil)))))) (.nm 7) (sIf (tOf (e2 dNe (eHeard emx (eFn d_leads (aCons (eVar 1) (aCons (eVar 6) (aCons (eVar 7) aNil)))) hl__law_heard) (eTup (aCons (eC (.str "row")) (aCons (e1 dNeg (eC (.int 1))) aNil))))) (sRet (eC (.bl false))) sSkip)) (sRet (e2 dEq (eHeard emx (eFn d_leads (aCons (eVar 1) (aCons (eVar 6) (aCons (eVar 5) aNil)))) hl__law_heard) (eTup (aCons (eC (.str "row")) (aCons (eVar 2) aNil)))))))))))))
noncomputable def d__law_doors_right : Fn := body 8 m__law_doors_right

abbrev N_law : List Str := ["script", "k", "jar", "n"]
noncomputable def m_law : DS := (sSeq (sFor (iRg1 (aCons (eCall dMax (aCons (eC (.int 1)) (aCons (eCall dMin (aCons (eCall dLen (aCons (eVar 0) aNil)) (aCons (eC (.int 2)) aNil))) aNil))) aNil)) (.nm 1) (sSeq (sSet 2 (eFn d__law_pool (aCons (eVar 0) (aCons (eVar 1) aNil)))) (sSeq (sSet 3 (e2 dAdd (eC (.int 1)) (eFn d__law_take (aCons (eVar 2) (aCons (eC (.int 4)) aNil))))) (sSeq (sIf (tOrD (tNotD (tOf (eFn d__law_small_right (aCons (eVar 2) (aCons (eVar 3) aNil))))) (tNotD (tOf (eFn d__law_wide_right (aCons (eVar 2) (aCons (e2 dAdd (eC (.int 5)) (eFn d__law_take (aCons (eVar 2) (aCons (eC (.int 2)) aNil)))) aNil)))))) (sRet (eC (.bl false))) sSkip) (sIf (tNotD (tOf (eFn d__law_doors_right (aCons (eVar 2) (aCons (eVar 3) aNil))))) (sRet (eC (.bl false))) sSkip))))) (sRet (eC (.bl true))))
noncomputable def d_law : Fn := body 4 m_law

structure Tx (K : PySem.W.Frag) (mg : Str → Option Value) (ad : Nat → Addr) (fd : Nat → FuncData) : Prop where
  g9 : mg "is_number" = some (.ref (ad 9))
  F9 : Fun K "is_number" "is_number" (top 9) (ad 9) (fd 9)
  b9 : Binds K (fd 9) ["thing"] []
  g10 : mg "is_many" = some (.ref (ad 10))
  F10 : Fun K "is_many" "is_many" (top 10) (ad 10) (fd 10)
  b10 : Binds K (fd 10) ["n"] []
  g11 : mg "ask_many" = some (.ref (ad 11))
  F11 : Fun K "ask_many" "ask_many" (top 11) (ad 11) (fd 11)
  b11 : Binds K (fd 11) ["n"] []
  g12 : mg "row_fault" = some (.ref (ad 12))
  F12 : Fun K "row_fault" "row_fault" (top 12) (ad 12) (fd 12)
  b12 : Binds K (fd 12) ["n", "thing"] []
  g13 : mg "made_row" = some (.ref (ad 13))
  F13 : Fun K "made_row" "made_row" (top 13) (ad 13) (fd 13)
  b13 : Binds K (fd 13) ["n", "thing"] []
  g14 : mg "made_rows" = some (.ref (ad 14))
  F14 : Fun K "made_rows" "made_rows" (top 14) (ad 14) (fd 14)
  b14 : Binds K (fd 14) ["n", "thing"] []
  g18 : mg "marks_of" = some (.ref (ad 18))
  F18 : Fun K "marks_of" "marks_of" (top 18) (ad 18) (fd 18)
  b18 : Binds K (fd 18) ["row"] []
  g19 : mg "marks_lead" = some (.ref (ad 19))
  F19 : Fun K "marks_lead" "marks_lead" (top 19) (ad 19) (fd 19)
  b19 : Binds K (fd 19) ["marks", "row"] []
  g20 : mg "leads" = some (.ref (ad 20))
  F20 : Fun K "leads" "leads" (top 20) (ad 20) (fd 20)
  b20 : Binds K (fd 20) ["n", "rows", "row"] []
  g22 : mg "_law_pool" = some (.ref (ad 22))
  F22 : Fun K "_law_pool" "_law_pool" (top 22) (ad 22) (fd 22)
  b22 : Binds K (fd 22) ["script", "k"] []
  g23 : mg "_law_take" = some (.ref (ad 23))
  F23 : Fun K "_law_take" "_law_take" (top 23) (ad 23) (fd 23)
  b23 : Binds K (fd 23) ["jar", "top"] []
  g24 : mg "_law_one" = some (.ref (ad 24))
  F24 : Fun K "_law_one" "_law_one" (top 24) (ad 24) (fd 24)
  b24 : Binds K (fd 24) ["jar", "things"] []
  g25 : mg "_law_mixed" = some (.ref (ad 25))
  F25 : Fun K "_law_mixed" "_law_mixed" (top 25) (ad 25) (fd 25)
  b25 : Binds K (fd 25) ["jar", "things"] []
  g26 : mg "_law_level" = some (.ref (ad 26))
  F26 : Fun K "_law_level" "_law_level" (top 26) (ad 26) (fd 26)
  b26 : Binds K (fd 26) ["n"] []
  g27 : mg "_law_sums_of" = some (.ref (ad 27))
  F27 : Fun K "_law_sums_of" "_law_sums_of" (top 27) (ad 27) (fd 27)
  b27 : Binds K (fd 27) ["one", "two"] []
  g28 : mg "_law_any_row" = some (.ref (ad 28))
  F28 : Fun K "_law_any_row" "_law_any_row" (top 28) (ad 28) (fd 28)
  b28 : Binds K (fd 28) ["jar", "n"] []
  g29 : mg "_law_line_row" = some (.ref (ad 29))
  F29 : Fun K "_law_line_row" "_law_line_row" (top 29) (ad 29) (fd 29)
  b29 : Binds K (fd 29) ["jar", "row", "line"] []
  g30 : mg "_law_leads" = some (.ref (ad 30))
  F30 : Fun K "_law_leads" "_law_leads" (top 30) (ad 30) (fd 30)
  b30 : Binds K (fd 30) ["rows", "row"] []
  g31 : mg "_law_heard" = some (.ref (ad 31))
  F31 : Fun K "_law_heard" "_law_heard" (top 31) (ad 31) (fd 31)
  b31 : Binds K (fd 31) ["call"] []
  g32 : mg "_law_all_sums" = some (.ref (ad 32))
  F32 : Fun K "_law_all_sums" "_law_all_sums" (top 32) (ad 32) (fd 32)
  b32 : Binds K (fd 32) ["rows"] []
  g33 : mg "_law_drawn_rows" = some (.ref (ad 33))
  F33 : Fun K "_law_drawn_rows" "_law_drawn_rows" (top 33) (ad 33) (fd 33)
  b33 : Binds K (fd 33) ["jar", "n", "most"] []
  g34 : mg "_law_small_right" = some (.ref (ad 34))
  F34 : Fun K "_law_small_right" "_law_small_right" (top 34) (ad 34) (fd 34)
  b34 : Binds K (fd 34) ["jar", "n"] []
  g35 : mg "_law_wide_right" = some (.ref (ad 35))
  F35 : Fun K "_law_wide_right" "_law_wide_right" (top 35) (ad 35) (fd 35)
  b35 : Binds K (fd 35) ["jar", "n"] []
  g36 : mg "_law_deep_thing" = some (.ref (ad 36))
  F36 : Fun K "_law_deep_thing" "_law_deep_thing" (top 36) (ad 36) (fd 36)
  b36 : Binds K (fd 36) ["jar"] []
  g37 : mg "_law_doors_right" = some (.ref (ad 37))
  F37 : Fun K "_law_doors_right" "_law_doors_right" (top 37) (ad 37) (fd 37)
  b37 : Binds K (fd 37) ["jar", "n"] []
  g38 : mg "law" = some (.ref (ad 38))
  F38 : Fun K "law" "law" (top 38) (ad 38) (fd 38)
  b38 : Binds K (fd 38) ["script"] []
  k20_012 : KwB (fd 20) ["n", "rows", "row"] ["n", "rows", "row"] [0, 1, 2]
  k20_210 : KwB (fd 20) ["n", "rows", "row"] ["row", "rows", "n"] [2, 1, 0]
  n_bool : mg "bool" = none
  n_enumerate : mg "enumerate" = none
  n_int : mg "int" = none
  n_isinstance : mg "isinstance" = none
  n_len : mg "len" = none
  n_list : mg "list" = none
  n_max : mg "max" = none
  n_min : mg "min" = none
  n_range : mg "range" = none
  n_repr : mg "repr" = none
  n_sorted : mg "sorted" = none
  n_tuple : mg "tuple" = none
  c_BOTH_MARKS : ∃ t, mg "BOTH_MARKS" = some (.int 3 t)
  c_MARKS : WName K mg "MARKS" [(.inl  0, (.int 0)), (.inl  1, (.int 1)), (.inl  (-1), (.int 2))]
  c_MOST_MEMBERS : ∃ t, mg "MOST_MEMBERS" = some (.int 6 t)
  c_MOST_ROWS : ∃ t, mg "MOST_ROWS" = some (.int 14 t)
  c_SIGNS : ∃ a, mg "SIGNS" = some (.ref a) ∧ ∀ φ H, RepV K φ H (.tup [(.int (-1)), (.int 0), (.int 1)]) (.ref a)
structure Bx (base : Heap) (mg : Str → Option Value) (cd tb : Nat → Addr) : Prop where
  tt : True
  t37 : LamX.TabB base mg (cd 37) (tb 37)
structure Ex (P : Program) (w : World) (K : PySem.W.Frag) (mg : Str → Option Value) (cm : CM) (fi : Addr) (fd : Nat → FuncData) (cd tb : Nat → Addr) : Prop where
  tt : True
  tP : cm.T.P = P
  tw : cm.T.w = w
  k37 : (fd 37).code = .ref (cd 37)
  m37 : (tb 37, ("_law_doors_right" : Str) ++ ".<locals>." ++ "<lambda>") ∈ cm.T.l
  u37 : ∀ p ∈ cm.T.l, p.1 = tb 37 → p.2 = ("_law_doors_right" : Str) ++ ".<locals>." ++ "<lambda>"
  x_BadMany : PySem.RolX.LowTxt "BadMany" K mg (cm "BadMany") fi
  x_BadRow : PySem.RolX.LowTxt "BadRow" K mg (cm "BadRow") fi
  x_BadRows : PySem.RolX.LowTxt "BadRows" K mg (cm "BadRows") fi
  em : ∀ c x b, emx c x = some b → PySem.W.exmOne K (.ref (cm c)) (.ref (cm x)) = some b
  et : ∀ c x, emx c x = some true → ∃ fI, PySem.RolX.LowTxt c K mg (cm c) fI
  h_BadMany : mg "BadMany" = some (.ref (cm "BadMany"))
  h_BadRow : mg "BadRow" = some (.ref (cm "BadRow"))
  h_BadRows : mg "BadRows" = some (.ref (cm "BadRows"))
  h_Refused : mg "Refused" = some (.ref (cm "Refused"))
section
variable {P : Program} {w : World} {K : PySem.W.Frag} {mg : Str → Option Value} {base : Heap} {ad : Nat → Addr} {fd : Nat → FuncData} {cm : CM} {fi : Addr} {cd tb : Nat → Addr}
theorem sc_is_number : FnScope N_is_number ["thing"] (defScope (top 9)) := ⟨rfl, rfl, rfl, by decide +kernel, rfl, by decide +kernel, by decide +kernel⟩
theorem ok_is_number (T : Tx K mg ad fd) (Z : Ex P w K mg cm fi fd cd tb) (B : Bx base mg cd tb) : FnG P w K mg base 1 (ad 9) (fd 9) ["thing"] (spD K cm 1 d_is_number) := fn_D (N := N_is_number) (m := m_is_number) T.F9 sc_is_number fun cdv A fr s H E hG hr tk hp =>
  (rSs_one (rS_ret (rE_and (rE_callB call_isi cd_isi T.n_isinstance (by decide +kernel) (rA_cons (rE_var 0) (rA_cons (rE_ty "int" T.n_int (by decide +kernel)) rA_nil))) (rE_one (rE_not (rE_callB call_isi cd_isi T.n_isinstance (by decide +kernel) (rA_cons (rE_var 0) (rA_cons (rE_ty "bool" T.n_bool (by decide +kernel)) rA_nil))))))))

theorem sc_is_many : FnScope N_is_many ["n"] (defScope (top 10)) := ⟨rfl, rfl, rfl, by decide +kernel, rfl, by decide +kernel, by decide +kernel⟩
theorem ok_is_many (T : Tx K mg ad fd) (Z : Ex P w K mg cm fi fd cd tb) (B : Bx base mg cd tb) : FnG P w K mg base 2 (ad 10) (fd 10) ["n"] (spD K cm 1 d_is_many) := fn_D (N := N_is_many) (m := m_is_many) T.F10 sc_is_many fun cdv A fr s H E hG hr tk hp =>
  (rSs_one (rS_ret (rE_and (rE_fn (ok_is_number T Z B) hG (hr.mono (by decide)) T.g9 T.F9.kp T.b9 tk (rA_cons (rE_var 0) rA_nil) (al_cons al_nil)) (rE_one (rE_chain (op_leA hr.units0) od_leA (op_leA hr.units0) od_leA rE_int (rE_var 0) (rE_gint T.c_MOST_MEMBERS))))))

theorem sc_ask_many : FnScope N_ask_many ["n"] (defScope (top 11)) := ⟨rfl, rfl, rfl, by decide +kernel, rfl, by decide +kernel, by decide +kernel⟩
theorem ok_ask_many (T : Tx K mg ad fd) (Z : Ex P w K mg cm fi fd cd tb) (B : Bx base mg cd tb) : FnG P w K mg base 3 (ad 11) (fd 11) ["n"] (spD K cm 1 d_ask_many) := fn_D (N := N_ask_many) (m := m_ask_many) T.F11 sc_ask_many fun cdv A fr s H E hG hr tk hp =>
  (rSs_one (rS_if (rT_not (rT_val (rE_fn (ok_is_many T Z B) hG (hr.mono (by decide)) T.g10 T.F10.kp T.b10 tk (rA_cons (rE_var 0) rA_nil) (al_cons al_nil)))) (rSs_one (rS_raise Z.x_BadMany hr tk (rE_var 0))) rSs_nil))

theorem sc_row_fault : FnScope N_row_fault ["n", "thing"] (defScope (top 12)) := ⟨rfl, rfl, rfl, by decide +kernel, rfl, by decide +kernel, by decide +kernel⟩
theorem ok_row_fault (T : Tx K mg ad fd) (Z : Ex P w K mg cm fi fd cd tb) (B : Bx base mg cd tb) : FnG P w K mg base 2 (ad 12) (fd 12) ["n", "thing"] (spD K cm 2 d_row_fault) := fn_D (N := N_row_fault) (m := m_row_fault) T.F12 sc_row_fault fun cdv A fr s H E hG hr tk hp =>
  (rSs_cons (rS_if (PW.pt (rW_or (rT_not (rT_val (rE_callB call_isi cd_isi T.n_isinstance (by decide +kernel) (rA_cons (rE_var 1) (rA_cons (rE_ty "tuple" T.n_tuple (by decide +kernel)) rA_nil))))) (rW_or1 (rT_cmp (op_neA hr.units) od_ne (rE_callB call_len cd_len T.n_len (by decide +kernel) (rA_cons (rE_var 1) rA_nil)) (rE_var 0) (nomark _))))) (rSs_one (rS_ret (rE_un un_neg ud_neg rE_int))) rSs_nil) (rSs_cons (rS_for hp rfl (rI_enumT T.n_enumerate (rA_cons (rE_var 1) rA_nil)) (rG_tup rfl (rG_cons (rG_nm 2 sc_row_fault.nd) (rG_cons (rG_nm 3 sc_row_fault.nd) rG_nil))) (rSs_one (rS_if (PW.pt (rW_or (rT_not (rT_val (rE_fn (ok_is_number T Z B) hG (hr.mono (by decide)) T.g9 T.F9.kp T.b9 tk (rA_cons (rE_var 3) rA_nil) (al_cons al_nil)))) (rW_or1 (rT_cmp (op_notInA (u65 hr)) od_notIn (rE_var 3) (rE_gtup T.c_SIGNS) (by rfl))))) (rSs_one (rS_ret (rE_var 2))) rSs_nil))) (rSs_one (rS_ret rE_non))))

theorem sc_made_row : FnScope N_made_row ["n", "thing"] (defScope (top 13)) := ⟨rfl, rfl, rfl, by decide +kernel, rfl, by decide +kernel, by decide +kernel⟩
theorem ok_made_row (T : Tx K mg ad fd) (Z : Ex P w K mg cm fi fd cd tb) (B : Bx base mg cd tb) : FnG P w K mg base 4 (ad 13) (fd 13) ["n", "thing"] (spD K cm 2 d_made_row) := fn_D (N := N_made_row) (m := m_made_row) T.F13 sc_made_row fun cdv A fr s H E hG hr tk hp =>
  (rSs_cons (rS_expr (rE_fn (ok_ask_many T Z B) hG (hr.mono (by decide)) T.g11 T.F11.kp T.b11 tk (rA_cons (rE_var 0) rA_nil) (al_cons al_nil))) (rSs_cons (rS_set 2 sc_made_row.nd (rE_fn (ok_row_fault T Z B) hG (hr.mono (by decide)) T.g12 T.F12.kp T.b12 tk (rA_cons (rE_var 0) (rA_cons (rE_var 1) rA_nil)) (al_cons (al_cons al_nil)))) (rSs_cons (rS_if (rT_cmp op_notN od_notN (rE_var 2) rE_non (nomark _)) (rSs_one (rS_raise Z.x_BadRow hr tk (rE_var 2))) rSs_nil) (rSs_one (rS_ret (rE_var 1))))))

theorem sc_made_rows : FnScope N_made_rows ["n", "thing"] (defScope (top 14)) := ⟨rfl, rfl, rfl, by decide +kernel, rfl, by decide +kernel, by decide +kernel⟩
theorem ok_made_rows (T : Tx K mg ad fd) (Z : Ex P w K mg cm fi fd cd tb) (B : Bx base mg cd tb) : FnG P w K mg base 4 (ad 14) (fd 14) ["n", "thing"] (spD K cm 2 d_made_rows) := fn_D (N := N_made_rows) (m := m_made_rows) T.F14 sc_made_rows fun cdv A fr s H E hG hr tk hp =>
  (rSs_cons (rS_expr (rE_fn (ok_ask_many T Z B) hG (hr.mono (by decide)) T.g11 T.F11.kp T.b11 tk (rA_cons (rE_var 0) rA_nil) (al_cons al_nil))) (rSs_cons (rS_if (PW.pt (rW_or (rT_not (rT_val (rE_callB call_isi cd_isi T.n_isinstance (by decide +kernel) (rA_cons (rE_var 1) (rA_cons (rE_ty "tuple" T.n_tuple (by decide +kernel)) rA_nil))))) (rW_or1 (rT_not (rT_chain (op_leA hr.units0) od_leA (op_leA hr.units0) od_leA rE_int (rE_callB call_len cd_len T.n_len (by decide +kernel) (rA_cons (rE_var 1) rA_nil)) (rE_gint T.c_MOST_ROWS)))))) (rSs_one (rS_raise Z.x_BadRows hr tk (rE_un un_neg ud_neg rE_int))) rSs_nil) (rSs_cons (rS_for hp rfl (rI_enumT T.n_enumerate (rA_cons (rE_var 1) rA_nil)) (rG_tup rfl (rG_cons (rG_nm 2 sc_made_rows.nd) (rG_cons (rG_nm 3 sc_made_rows.nd) rG_nil))) (rSs_one (rS_if (rT_cmp op_notN od_notN (rE_fn (ok_row_fault T Z B) hG (hr.mono (by decide)) T.g12 T.F12.kp T.b12 tk (rA_cons (rE_var 0) (rA_cons (rE_var 3) rA_nil)) (al_cons (al_cons al_nil))) rE_non (nomark _)) (rSs_one (rS_raise Z.x_BadRows hr tk (rE_var 2))) rSs_nil))) (rSs_one (rS_ret (rE_var 1))))))

theorem sc_marks_of : FnScope N_marks_of ["row"] (defScope (top 18)) := ⟨rfl, rfl, rfl, by decide +kernel, rfl, by decide +kernel, by decide +kernel⟩
theorem ok_marks_of (T : Tx K mg ad fd) (Z : Ex P w K mg cm fi fd cd tb) (B : Bx base mg cd tb) : FnG P w K mg base 1 (ad 18) (fd 18) ["row"] (spD K cm 1 d_marks_of) := fn_D (N := N_marks_of) (m := m_marks_of) T.F18 sc_marks_of fun cdv A fr s H E hG hr tk hp =>
  (rSs_cons (rS_set 1 sc_marks_of.nd rE_int) (rSs_cons (rS_for hp rfl (rI_enumT T.n_enumerate (rA_cons (rE_var 0) rA_nil)) (rG_tup rfl (rG_cons (rG_nm 2 sc_marks_of.nd) (rG_cons (rG_nm 3 sc_marks_of.nd) rG_nil))) (rSs_one (rS_set 1 sc_marks_of.nd (rE_op op_or od_or (rE_var 1) (rE_op op_shl od_shl (rE_wgetN T.c_MARKS (rE_var 3)) (rE_op op_mulWW od_mulW rE_int (rE_var 2))))))) (rSs_one (rS_ret (rE_var 1)))))

theorem sc_marks_lead : FnScope N_marks_lead ["marks", "row"] (defScope (top 19)) := ⟨rfl, rfl, rfl, by decide +kernel, rfl, by decide +kernel, by decide +kernel⟩
theorem ok_marks_lead (T : Tx K mg ad fd) (Z : Ex P w K mg cm fi fd cd tb) (B : Bx base mg cd tb) : FnG P w K mg base 1 (ad 19) (fd 19) ["marks", "row"] (spD K cm 2 d_marks_lead) := fn_D (N := N_marks_lead) (m := m_marks_lead) T.F19 sc_marks_lead fun cdv A fr s H E hG hr tk hp =>
  (rSs_cons (rS_for hp rfl (rI_enumT T.n_enumerate (rA_cons (rE_var 1) rA_nil)) (rG_tup rfl (rG_cons (rG_nm 2 sc_marks_lead.nd) (rG_cons (rG_nm 3 sc_marks_lead.nd) rG_nil))) (rSs_cons (rS_set 4 sc_marks_lead.nd (rE_op op_and od_and (rE_op op_shr od_shr (rE_var 0) (rE_op op_mulWW od_mulW rE_int (rE_var 2))) (rE_gint T.c_BOTH_MARKS))) (rSs_cons (rS_if (PW.pt (rW_and (rT_cmp (op_eqA hr.units) od_eq (rE_var 3) rE_int (nomark _)) (rW_and1 (rT_cmp (op_notInA (u65 hr)) od_notIn (rE_var 4) (rE_tup (rA_cons rE_int (rA_cons (rE_gint T.c_BOTH_MARKS) rA_nil))) (by rfl))))) (rSs_one (rS_ret rE_bl)) rSs_nil) (rSs_one (rS_if (PW.pt (rW_and (rT_cmp (op_neA hr.units) od_ne (rE_var 3) rE_int (nomark _)) (rW_and1 (rT_cmp (op_eqA hr.units) od_eq (rE_op op_and od_and (rE_var 4) (rE_wgetN T.c_MARKS (rE_var 3))) rE_int (nomark _))))) (rSs_one (rS_ret rE_bl)) rSs_nil))))) (rSs_one (rS_ret rE_bl)))

theorem sc_leads : FnScope N_leads ["n", "rows", "row"] (defScope (top 20)) := ⟨rfl, rfl, rfl, by decide +kernel, rfl, by decide +kernel, by decide +kernel⟩
theorem ok_leads (T : Tx K mg ad fd) (Z : Ex P w K mg cm fi fd cd tb) (B : Bx base mg cd tb) : FnG P w K mg base 5 (ad 20) (fd 20) ["n", "rows", "row"] (spD K cm 3 d_leads) := fn_D (N := N_leads) (m := m_leads) T.F20 sc_leads fun cdv A fr s H E hG hr tk hp =>
  (rSs_cons (rS_expr (rE_fn (ok_made_rows T Z B) hG (hr.mono (by decide)) T.g14 T.F14.kp T.b14 tk (rA_cons (rE_var 0) (rA_cons (rE_var 1) rA_nil)) (al_cons (al_cons al_nil)))) (rSs_cons (rS_expr (rE_fn (ok_made_row T Z B) hG (hr.mono (by decide)) T.g13 T.F13.kp T.b13 tk (rA_cons (rE_var 0) (rA_cons (rE_var 2) rA_nil)) (al_cons (al_cons al_nil)))) (rSs_cons (rS_set 3 sc_leads.nd rE_int) (rSs_cons (rS_for hp rfl (rI_seq (rE_var 1)) (rG_nm 4 sc_leads.nd) (rSs_one (rS_set 3 sc_leads.nd (rE_op op_or od_or (rE_var 3) (rE_fn (ok_marks_of T Z B) hG (hr.mono (by decide)) T.g18 T.F18.kp T.b18 tk (rA_cons (rE_var 4) rA_nil) (al_cons al_nil)))))) (rSs_one (rS_ret (rE_fn (ok_marks_lead T Z B) hG (hr.mono (by decide)) T.g19 T.F19.kp T.b19 tk (rA_cons (rE_var 3) (rA_cons (rE_var 2) rA_nil)) (al_cons (al_cons al_nil)))))))))

theorem sc__law_pool : FnScope N__law_pool ["script", "k"] (defScope (top 22)) := ⟨rfl, rfl, rfl, by decide +kernel, rfl, by decide +kernel, by decide +kernel⟩
theorem ok__law_pool (T : Tx K mg ad fd) (Z : Ex P w K mg cm fi fd cd tb) (B : Bx base mg cd tb) : FnG P w K mg base 1 (ad 22) (fd 22) ["script", "k"] (spD K cm 2 d__law_pool) := fn_D (N := N__law_pool) (m := m__law_pool) T.F22 sc__law_pool fun cdv A fr s H E hG hr tk hp =>
  (rSs_cons (rS_set 2 sc__law_pool.nd rE_int) (rSs_cons (rS_if (rT_cmp (op_ltA hr.units0) od_lt (rE_var 1) (rE_callB call_len cd_len T.n_len (by decide +kernel) (rA_cons (rE_var 0) rA_nil)) (nomark _)) (rSs_one (rS_set 2 sc__law_pool.nd (rE_ix ix_seq od_ix (rE_var 0) (rE_var 1)))) (rSs_one (rS_if (rT_cmp (op_neA hr.units) od_ne (rE_var 0) (rE_lst rA_nil) (nomark _)) (rSs_one (rS_set 2 sc__law_pool.nd (rE_ix ix_seq od_ix (rE_var 0) rE_int))) rSs_nil))) (rSs_cons (rS_set 3 sc__law_pool.nd (rE_callB (call_max2 rfl) cd_max T.n_max (by decide +kernel) (rA_cons (rE_callTy call_intA cd_intA T.n_int (by decide +kernel) (rA_cons (rE_var 2) rA_nil)) (rA_cons (rE_callTy call_intA cd_intA T.n_int (by decide +kernel) (rA_cons (rE_op op_sub od_sub (rE_un un_neg ud_neg rE_int) (rE_var 2)) rA_nil)) rA_nil)))) (rSs_cons (rS_set 4 sc__law_pool.nd (rE_op op_mod od_mod (rE_callTy call_intA cd_intA T.n_int (by decide +kernel) (rA_cons (rE_op op_mulWW od_mulW (rE_op op_addA od_add (rE_op op_addA od_add (rE_op op_addA od_add (rE_op op_mod od_mod (rE_callTy call_intA cd_intA T.n_int (by decide +kernel) (rA_cons (rE_var 3) rA_nil)) rE_int) (rE_op op_mulWW od_mulW (rE_op op_mulWW od_mulW rE_int (rE_var 1)) (rE_var 1))) (rE_op op_mulWW od_mulW rE_int (rE_var 1))) rE_int) rE_int) rA_nil)) rE_int)) (rSs_one (rS_ret (rE_lst (rA_cons (rE_op op_mulWW od_mulW (rE_var 3) (rE_callTy call_intA cd_intA T.n_int (by decide +kernel) (rA_cons (rE_and (rE_cmp op_ge od_ge (rE_var 3) (rE_op op_pow od_pow rE_int rE_int) (nomark _)) (rE_one (rE_cmp (op_ltA hr.units0) od_lt (rE_var 1) (rE_callB call_len cd_len T.n_len (by decide +kernel) (rA_cons (rE_var 0) rA_nil)) (nomark _)))) rA_nil))) (rA_cons (rE_var 4) rA_nil)))))))))

theorem sc__law_take : FnScope N__law_take ["jar", "top"] (defScope (top 23)) := ⟨rfl, rfl, rfl, by decide +kernel, rfl, by decide +kernel, by decide +kernel⟩
theorem ok__law_take (T : Tx K mg ad fd) (Z : Ex P w K mg cm fi fd cd tb) (B : Bx base mg cd tb) : FnG P w K mg base 1 (ad 23) (fd 23) ["jar", "top"] (spD K cm 2 d__law_take) := fn_D (N := N__law_take) (m := m__law_take) T.F23 sc__law_take fun cdv A fr s H E hG hr tk hp =>
  (rSs_cons (rS_if (rT_cmp op_gt od_gt (rE_ix ix_seq od_ix (rE_var 0) rE_int) rE_int (nomark _)) (rSs_cons (rS_set 2 sc__law_take.nd (rE_op op_mod od_mod (rE_callTy call_intA cd_intA T.n_int (by decide +kernel) (rA_cons (rE_ix ix_seq od_ix (rE_var 0) rE_int) rA_nil)) (rE_var 1))) (rSs_cons (rS_sub set_list sd_ix (rE_op op_fdivW od_fdiv (rE_ix ix_seq od_ix (rE_var 0) rE_int) (rE_var 1)) (rE_var 0) rE_int) (rSs_one (rS_ret (rE_var 2))))) rSs_nil) (rSs_cons (rS_sub set_list sd_ix (rE_op op_mod od_mod (rE_callTy call_intA cd_intA T.n_int (by decide +kernel) (rA_cons (rE_op op_addA od_add (rE_op op_mulWW od_mulW (rE_ix ix_seq od_ix (rE_var 0) rE_int) rE_int) rE_int) rA_nil)) rE_int) (rE_var 0) rE_int) (rSs_one (rS_ret (rE_op op_mod od_mod (rE_callTy call_intA cd_intA T.n_int (by decide +kernel) (rA_cons (rE_op op_fdivW od_fdiv (rE_op op_mod od_mod (rE_callTy call_intA cd_intA T.n_int (by decide +kernel) (rA_cons (rE_op op_mulWW od_mulW (rE_ix ix_seq od_ix (rE_var 0) rE_int) (rE_ix ix_seq od_ix (rE_var 0) rE_int)) rA_nil)) rE_int) rE_int) rA_nil)) (rE_var 1))))))

theorem sc__law_one : FnScope N__law_one ["jar", "things"] (defScope (top 24)) := ⟨rfl, rfl, rfl, by decide +kernel, rfl, by decide +kernel, by decide +kernel⟩
theorem ok__law_one (T : Tx K mg ad fd) (Z : Ex P w K mg cm fi fd cd tb) (B : Bx base mg cd tb) : FnG P w K mg base 2 (ad 24) (fd 24) ["jar", "things"] (spD K cm 2 d__law_one) := fn_D (N := N__law_one) (m := m__law_one) T.F24 sc__law_one fun cdv A fr s H E hG hr tk hp =>
  (rSs_one (rS_ret (rE_ix ix_seq od_ix (rE_var 1) (rE_fn (ok__law_take T Z B) hG (hr.mono (by decide)) T.g23 T.F23.kp T.b23 tk (rA_cons (rE_var 0) (rA_cons (rE_callB call_len cd_len T.n_len (by decide +kernel) (rA_cons (rE_var 1) rA_nil)) rA_nil)) (al_cons (al_cons al_nil))))))

theorem sc__law_mixed : FnScope N__law_mixed ["jar", "things"] (defScope (top 25)) := ⟨rfl, rfl, rfl, by decide +kernel, rfl, by decide +kernel, by decide +kernel⟩
theorem ok__law_mixed (T : Tx K mg ad fd) (Z : Ex P w K mg cm fi fd cd tb) (B : Bx base mg cd tb) : FnG P w K mg base 2 (ad 25) (fd 25) ["jar", "things"] (spD K cm 2 d__law_mixed) := fn_D (N := N__law_mixed) (m := m__law_mixed) T.F25 sc__law_mixed fun cdv A fr s H E hG hr tk hp =>
  (rSs_cons (rS_par 2 3 rfl sc__law_mixed.nd rfl rfl (rA_cons (rE_callTy call_list_of cd_list T.n_list (by decide +kernel) (rA_cons (rE_var 1) rA_nil)) (rA_cons (rE_lst rA_nil) rA_nil))) (rSs_cons (rS_for hp rfl (rI_range1 T.n_range (rA_cons (rE_callB call_len cd_len T.n_len (by decide +kernel) (rA_cons (rE_var 1) rA_nil)) rA_nil)) (rG_nm 4 sc__law_mixed.nd) (rSs_one (rS_expr (rE_mt PySem.F.plainAttrs_list PySem.F.slot_list_append PySem.F.type_list_append mt_append md_append (rE_var 3) (rA_cons (rE_mt PySem.F.plainAttrs_list PySem.F.slot_list_pop PySem.F.type_list_pop mt_popA md_pop (rE_var 2) (rA_cons (rE_fn (ok__law_take T Z B) hG (hr.mono (by decide)) T.g23 T.F23.kp T.b23 tk (rA_cons (rE_var 0) (rA_cons (rE_callB call_len cd_len T.n_len (by decide +kernel) (rA_cons (rE_var 2) rA_nil)) rA_nil)) (al_cons (al_cons al_nil))) rA_nil)) rA_nil))))) (rSs_one (rS_ret (rE_var 3)))))

theorem sc__law_level : FnScope N__law_level ["n"] (defScope (top 26)) := ⟨rfl, rfl, rfl, by decide +kernel, rfl, by decide +kernel, by decide +kernel⟩
theorem ok__law_level (T : Tx K mg ad fd) (Z : Ex P w K mg cm fi fd cd tb) (B : Bx base mg cd tb) : FnG P w K mg base 1 (ad 26) (fd 26) ["n"] (spD K cm 1 d__law_level) := fn_D (N := N__law_level) (m := m__law_level) T.F26 sc__law_level fun cdv A fr s H E hG hr tk hp =>
  (rSs_one (rS_ret (rE_op op_mulWW od_mulW (rE_tup (rA_cons rE_int rA_nil)) (rE_var 0))))

theorem sc__law_sums_of : FnScope N__law_sums_of ["one", "two"] (defScope (top 27)) := ⟨rfl, rfl, rfl, by decide +kernel, rfl, by decide +kernel, by decide +kernel⟩
theorem ok__law_sums_of (T : Tx K mg ad fd) (Z : Ex P w K mg cm fi fd cd tb) (B : Bx base mg cd tb) : FnG P w K mg base 1 (ad 27) (fd 27) ["one", "two"] (spD K cm 2 d__law_sums_of) := fn_D (N := N__law_sums_of) (m := m__law_sums_of) T.F27 sc__law_sums_of fun cdv A fr s H E hG hr tk hp =>
  (rSs_cons (rS_set 2 sc__law_sums_of.nd (rE_lst (rA_cons (rE_tup rA_nil) rA_nil))) (rSs_cons (rS_for hp rfl (rI_range1 T.n_range (rA_cons (rE_callB call_len cd_len T.n_len (by decide +kernel) (rA_cons (rE_var 0) rA_nil)) rA_nil)) (rG_nm 3 sc__law_sums_of.nd) (rSs_cons (rS_par 4 5 rfl sc__law_sums_of.nd rfl rfl (rA_cons (rE_ix ix_seq od_ix (rE_var 0) (rE_var 3)) (rA_cons (rE_ix ix_seq od_ix (rE_var 1) (rE_var 3)) rA_nil))) (rSs_cons (rS_set 6 sc__law_sums_of.nd (rE_if (PW.pt (rW_and (rT_cmp (op_neA hr.units) od_ne (rE_var 4) rE_int (nomark _)) (rW_and1 (rT_cmp (op_eqA hr.units) od_eq (rE_var 4) (rE_un un_neg ud_neg (rE_var 5)) (nomark _))))) (rE_lst (rA_cons (rE_un un_neg ud_neg rE_int) (rA_cons rE_int (rA_cons rE_int rA_nil)))) (rE_lst (rA_cons (rE_if (rT_cmp (op_eqA hr.units) od_eq (rE_var 4) rE_int (nomark _)) (rE_var 5) (rE_var 4)) rA_nil)))) (rSs_cons (rS_set 7 sc__law_sums_of.nd (rE_lst rA_nil)) (rSs_cons (rS_for hp rfl (rI_seq (rE_var 2)) (rG_nm 8 sc__law_sums_of.nd) (rSs_one (rS_expr (rE_mt PySem.F.plainAttrs_list PySem.F.slot_list_extend PySem.F.type_list_extend mt_extendA md_extend (rE_var 7) (rA_cons (rE_comp [("c", 9)] rfl sc__law_sums_of.nd (rI_seq (rE_var 6)) (blk_of (N := N__law_sums_of) (sc := defScope (top 27)) (by decide +kernel)) (fun _ _ _ _ _ => (rG_nm 9 sc__law_sums_of.nd)) (fun _ _ _ _ _ => rTs_nil) (fun _ _ _ _ _ => (rE_op op_addA od_add (rE_var 8) (rE_tup (rA_cons (rE_var 9) rA_nil))))) rA_nil))))) (rSs_one (rS_set 2 sc__law_sums_of.nd (rE_var 7)))))))) (rSs_one (rS_ret (rE_var 2)))))

theorem sc__law_any_row : FnScope N__law_any_row ["jar", "n"] (defScope (top 28)) := ⟨rfl, rfl, rfl, by decide +kernel, rfl, by decide +kernel, by decide +kernel⟩
theorem ok__law_any_row (T : Tx K mg ad fd) (Z : Ex P w K mg cm fi fd cd tb) (B : Bx base mg cd tb) : FnG P w K mg base 2 (ad 28) (fd 28) ["jar", "n"] (spD K cm 2 d__law_any_row) := fn_D (N := N__law_any_row) (m := m__law_any_row) T.F28 sc__law_any_row fun cdv A fr s H E hG hr tk hp =>
  (rSs_one (rS_ret (rE_callTy call_tuple_of cd_tuple T.n_tuple (by decide +kernel) (rA_cons (rE_comp [("i", 2)] rfl sc__law_any_row.nd (rI_range1 T.n_range (rA_cons (rE_var 1) rA_nil)) (blk_of (N := N__law_any_row) (sc := defScope (top 28)) (by decide +kernel)) (fun _ _ _ _ _ => (rG_nm 2 sc__law_any_row.nd)) (fun _ _ _ _ _ => rTs_nil) (fun _ _ _ _ _ => (rE_op op_sub od_sub (rE_fn (ok__law_take T Z B) hG (hr.mono (by decide)) T.g23 T.F23.kp T.b23 takes0 (rA_cons (rE_var 0) (rA_cons rE_int rA_nil)) (al_cons (al_cons al_nil))) rE_int))) rA_nil))))

theorem sc__law_line_row : FnScope N__law_line_row ["jar", "row", "line"] (defScope (top 29)) := ⟨rfl, rfl, rfl, by decide +kernel, rfl, by decide +kernel, by decide +kernel⟩
theorem ok__law_line_row (T : Tx K mg ad fd) (Z : Ex P w K mg cm fi fd cd tb) (B : Bx base mg cd tb) : FnG P w K mg base 3 (ad 29) (fd 29) ["jar", "row", "line"] (spD K cm 3 d__law_line_row) := fn_D (N := N__law_line_row) (m := m__law_line_row) T.F29 sc__law_line_row fun cdv A fr s H E hG hr tk hp =>
  (rSs_one (rS_ret (rE_callTy call_tuple_of cd_tuple T.n_tuple (by decide +kernel) (rA_cons (rE_comp [("i", 3)] rfl sc__law_line_row.nd (rI_range1 T.n_range (rA_cons (rE_callB call_len cd_len T.n_len (by decide +kernel) (rA_cons (rE_var 1) rA_nil)) rA_nil)) (blk_of (N := N__law_line_row) (sc := defScope (top 29)) (by decide +kernel)) (fun _ _ _ _ _ => (rG_nm 3 sc__law_line_row.nd)) (fun _ _ _ _ _ => rTs_nil) (fun _ _ _ _ _ => (rE_if (PW.pt (rW_and (rT_cmp (op_eqA hr.units) od_eq (rE_ix ix_seq od_ix (rE_var 1) (rE_var 3)) rE_int (nomark _)) (rW_and1 (rT_cmp (op_inA (u65 hr)) od_in (rE_var 3) (rE_var 2) (by rfl))))) (rE_fn (ok__law_one T Z B) hG (hr.mono (by decide)) T.g24 T.F24.kp T.b24 takes0 (rA_cons (rE_var 0) (rA_cons (rE_lst (rA_cons rE_int (rA_cons (rE_un un_neg ud_neg rE_int) rA_nil))) rA_nil)) (al_cons (al_cons al_nil))) (rE_ix ix_seq od_ix (rE_var 1) (rE_var 3))))) rA_nil))))

theorem sc__law_leads : FnScope N__law_leads ["rows", "row"] (defScope (top 30)) := ⟨rfl, rfl, rfl, by decide +kernel, rfl, by decide +kernel, by decide +kernel⟩
theorem ok__law_leads (T : Tx K mg ad fd) (Z : Ex P w K mg cm fi fd cd tb) (B : Bx base mg cd tb) : FnG P w K mg base 1 (ad 30) (fd 30) ["rows", "row"] (spD K cm 2 d__law_leads) := fn_D (N := N__law_leads) (m := m__law_leads) T.F30 sc__law_leads fun cdv A fr s H E hG hr tk hp =>
  (rSs_cons (rS_for hp rfl (rI_range1 T.n_range (rA_cons (rE_callB call_len cd_len T.n_len (by decide +kernel) (rA_cons (rE_var 1) rA_nil)) rA_nil)) (rG_nm 2 sc__law_leads.nd) (rSs_cons (rS_setComp 3 [("one", 4)] rfl sc__law_leads.nd rfl (sw_true rfl rfl rfl (by decide +kernel)) (rI_seq (rE_var 0)) (blk_of (N := N__law_leads) (sc := defScope (top 30)) (by decide +kernel)) (fun _ _ _ _ _ => (rG_nm 4 sc__law_leads.nd)) (fun _ _ _ _ _ => rTs_nil) (fun _ _ _ _ _ => (rE_ix ix_seq od_ix (rE_var 4) (rE_var 2)))) (rSs_one (rS_if (PW.pt (rW_or (PW.pt (rW_and (rT_cmp (op_neA hr.units) od_ne (rE_ix ix_seq od_ix (rE_var 1) (rE_var 2)) rE_int (nomark _)) (rW_and1 (rT_cmp (op_notInA (u65 hr)) od_notIn (rE_ix ix_seq od_ix (rE_var 1) (rE_var 2)) (rE_var 3) (by rfl))))) (rW_or1 (PW.pt (rW_and (rT_cmp (op_eqA hr.units) od_eq (rE_ix ix_seq od_ix (rE_var 1) (rE_var 2)) rE_int (nomark _)) (rW_and1 (rT_cmp (op_neA hr.units) od_ne (rE_cmp (op_inA (u65 hr)) od_in rE_int (rE_var 3) (by rfl)) (rE_cmp (op_inA (u65 hr)) od_in (rE_un un_neg ud_neg rE_int) (rE_var 3) (by rfl)) (nomark _)))))))) (rSs_one (rS_ret rE_bl)) rSs_nil)))) (rSs_one (rS_ret (rE_cmp op_gt od_gt (rE_callB call_len cd_len T.n_len (by decide +kernel) (rA_cons (rE_var 0) rA_nil)) rE_int (nomark _)))))

theorem sc__law_heard : FnScope N__law_heard ["call"] (defScope (top 31)) := ⟨rfl, rfl, rfl, by decide +kernel, rfl, by decide +kernel, by decide +kernel⟩
theorem hd__law_heard (T : Tx K mg ad fd) (Z : Ex P w K mg cm fi fd cd tb) {N : List Str} {q : Str} {sc : Scope} {fa : Addr} {cd0 : Value} {A : Around} {fr : List PySem.Env} {s : Shared} {H : Hp} {E : XK} (cdg : Value) : HearsB (cxOf (L2.CX P w) P w K mg base N q sc fa cd0 A fr s H E) cm emx hl__law_heard N__law_heard "_law_heard" (defScope (top 31)) (ad 31) cdg "call" (defBody (top 31)) :=
  hears_ret Z.et Z.em sc__law_heard.nd rfl (fun _ _ => (.cons (h := ⟨"BadMany", fun c => some (.tup [(.str "many"), .what])⟩) (o := some "error") (i := some 1) ⟨rfl, by decide +kernel, .inl Z.h_BadMany⟩ ⟨rfl, rfl⟩ (fun c w v a dd oe pn he hv hh => by
    cases hv
    exact JB.ret (JE.tup (JA.cons JE.str (JA.cons (JE.what hh rfl rfl) JA.nil)))) (.cons (h := ⟨"BadRows", fun c => some (.tup [(.str "rows"), .what])⟩) (o := some "error") (i := some 1) ⟨rfl, by decide +kernel, .inl Z.h_BadRows⟩ ⟨rfl, rfl⟩ (fun c w v a dd oe pn he hv hh => by
    cases hv
    exact JB.ret (JE.tup (JA.cons JE.str (JA.cons (JE.what hh rfl rfl) JA.nil)))) (.cons (h := ⟨"BadRow", fun c => some (.tup [(.str "row"), .what])⟩) (o := some "error") (i := some 1) ⟨rfl, by decide +kernel, .inl Z.h_BadRow⟩ ⟨rfl, rfl⟩ (fun c w v a dd oe pn he hv hh => by
    cases hv
    exact JB.ret (JE.tup (JA.cons JE.str (JA.cons (JE.what hh rfl rfl) JA.nil)))) (.cons (h := ⟨"Refused", fun c => some (.tup [(.str "other"), .non])⟩) (o := none) (i := none) ⟨rfl, by decide +kernel, .inl Z.h_Refused⟩ trivial (fun c w v a dd oe pn he hv hh => by
    cases hv
    exact JB.ret (JE.tup (JA.cons JE.str (JA.cons JE.non JA.nil)))) .nil)))))

theorem sc__law_all_sums : FnScope N__law_all_sums ["rows"] (defScope (top 32)) := ⟨rfl, rfl, rfl, by decide +kernel, rfl, by decide +kernel, by decide +kernel⟩
theorem ok__law_all_sums (T : Tx K mg ad fd) (Z : Ex P w K mg cm fi fd cd tb) (B : Bx base mg cd tb) : FnG P w K mg base 2 (ad 32) (fd 32) ["rows"] (spD K cm 1 d__law_all_sums) := fn_D (N := N__law_all_sums) (m := m__law_all_sums) T.F32 sc__law_all_sums fun cdv A fr s H E hG hr tk hp =>
  (rSs_cons (rS_set 1 sc__law_all_sums.nd (rE_done (hu_of hr) Z.tP Z.tw (rE_ix ix_seq od_ix (rE_var 0) rE_int) rE_bl)) (rSs_cons (rS_for hp rfl (rI_seq (rE_sl (rE_var 0) (rO_some rE_int) rO_none)) (rG_nm 2 sc__law_all_sums.nd) (rSs_cons (rS_set 3 sc__law_all_sums.nd (rE_dnewX Z.tP Z.tw)) (rSs_cons (rS_lock (rS_for hp rfl (rI_walk Z.tP Z.tw (rE_var 1)) (rG_nm 4 sc__law_all_sums.nd) (rSs_one (rS_for hp rfl (rI_seq (rE_fn (ok__law_sums_of T Z B) hG (hr.mono (by decide)) T.g27 T.F27.kp T.b27 tk (rA_cons (rE_var 4) (rA_cons (rE_var 2) rA_nil)) (al_cons (al_cons al_nil)))) (rG_nm 5 sc__law_all_sums.nd) (rSs_one (rS_dput (hu_of hr) Z.tP Z.tw rE_bl (rE_var 3) (rE_var 5))))))) (rSs_one (rS_set 1 sc__law_all_sums.nd (rE_var 3)))))) (rSs_one (rS_ret (rE_var 1)))))

theorem sc__law_drawn_rows : FnScope N__law_drawn_rows ["jar", "n", "most"] (defScope (top 33)) := ⟨rfl, rfl, rfl, by decide +kernel, rfl, by decide +kernel, by decide +kernel⟩
theorem ok__law_drawn_rows (T : Tx K mg ad fd) (Z : Ex P w K mg cm fi fd cd tb) (B : Bx base mg cd tb) : FnG P w K mg base 3 (ad 33) (fd 33) ["jar", "n", "most"] (spD K cm 3 d__law_drawn_rows) := fn_D (N := N__law_drawn_rows) (m := m__law_drawn_rows) T.F33 sc__law_drawn_rows fun cdv A fr s H E hG hr tk hp =>
  (rSs_cons (rS_set 3 sc__law_drawn_rows.nd (rE_lst (rA_cons (rE_fn (ok__law_any_row T Z B) hG (hr.mono (by decide)) T.g28 T.F28.kp T.b28 tk (rA_cons (rE_var 0) (rA_cons (rE_var 1) rA_nil)) (al_cons (al_cons al_nil))) rA_nil))) (rSs_cons (rS_for hp rfl (rI_range1 T.n_range (rA_cons (rE_fn (ok__law_take T Z B) hG (hr.mono (by decide)) T.g23 T.F23.kp T.b23 tk (rA_cons (rE_var 0) (rA_cons (rE_var 2) rA_nil)) (al_cons (al_cons al_nil))) rA_nil)) (rG_nm 4 sc__law_drawn_rows.nd) (rSs_cons (rS_set 5 sc__law_drawn_rows.nd (rE_fn (ok__law_take T Z B) hG (hr.mono (by decide)) T.g23 T.F23.kp T.b23 tk (rA_cons (rE_var 0) (rA_cons rE_int rA_nil)) (al_cons (al_cons al_nil)))) (rSs_one (rS_expr (rE_mt PySem.F.plainAttrs_list PySem.F.slot_list_append PySem.F.type_list_append mt_append md_append (rE_var 3) (rA_cons (rE_if (rT_cmp (op_eqA hr.units) od_eq (rE_var 5) rE_int (nomark _)) (rE_fn (ok__law_level T Z B) hG (hr.mono (by decide)) T.g26 T.F26.kp T.b26 tk (rA_cons (rE_var 1) rA_nil) (al_cons al_nil)) (rE_if (rT_cmp (op_eqA hr.units) od_eq (rE_var 5) rE_int (nomark _)) (rE_fn (ok__law_one T Z B) hG (hr.mono (by decide)) T.g24 T.F24.kp T.b24 tk (rA_cons (rE_var 0) (rA_cons (rE_var 3) rA_nil)) (al_cons (al_cons al_nil))) (rE_fn (ok__law_any_row T Z B) hG (hr.mono (by decide)) T.g28 T.F28.kp T.b28 tk (rA_cons (rE_var 0) (rA_cons (rE_var 1) rA_nil)) (al_cons (al_cons al_nil))))) rA_nil)))))) (rSs_one (rS_ret (rE_callTy call_tuple_of cd_tuple T.n_tuple (by decide +kernel) (rA_cons (rE_var 3) rA_nil))))))

theorem sc__law_small_right : FnScope N__law_small_right ["jar", "n"] (defScope (top 34)) := ⟨rfl, rfl, rfl, by decide +kernel, rfl, by decide +kernel, by decide +kernel⟩
theorem ok__law_small_right (T : Tx K mg ad fd) (Z : Ex P w K mg cm fi fd cd tb) (B : Bx base mg cd tb) : FnG P w K mg base 6 (ad 34) (fd 34) ["jar", "n"] (spD K cm 2 d__law_small_right) := fn_D (N := N__law_small_right) (m := m__law_small_right) T.F34 sc__law_small_right fun cdv A fr s H E hG hr tk hp =>
  (rSs_cons (rS_set 2 sc__law_small_right.nd (rE_fn (ok__law_drawn_rows T Z B) hG (hr.mono (by decide)) T.g33 T.F33.kp T.b33 tk (rA_cons (rE_var 0) (rA_cons (rE_var 1) (rA_cons (rE_fn (ok__law_one T Z B) hG (hr.mono (by decide)) T.g24 T.F24.kp T.b24 tk (rA_cons (rE_var 0) (rA_cons (rE_lst (rA_cons rE_int (rA_cons rE_int (rA_cons rE_int rA_nil)))) rA_nil)) (al_cons (al_cons al_nil))) rA_nil))) (al_cons (al_cons (al_cons al_nil))))) (rSs_cons (rS_set 3 sc__law_small_right.nd (rE_fn (ok__law_all_sums T Z B) hG (hr.mono (by decide)) T.g32 T.F32.kp T.b32 tk (rA_cons (rE_var 2) rA_nil) (al_cons al_nil))) (rSs_cons (rS_set 4 sc__law_small_right.nd (rE_op op_addA od_add (rE_comp [("turn", 9)] rfl sc__law_small_right.nd (rI_range1 T.n_range (rA_cons rE_int rA_nil)) (blk_of (N := N__law_small_right) (sc := defScope (top 34)) (by decide +kernel)) (fun _ _ _ _ _ => (rG_nm 9 sc__law_small_right.nd)) (fun _ _ _ _ _ => rTs_nil) (fun _ _ _ _ _ => (rE_fn (ok__law_any_row T Z B) hG (hr.mono (by decide)) T.g28 T.F28.kp T.b28 takes0 (rA_cons (rE_var 0) (rA_cons (rE_var 1) rA_nil)) (al_cons (al_cons al_nil))))) (rE_lst (rA_cons (rE_fn (ok__law_level T Z B) hG (hr.mono (by decide)) T.g26 T.F26.kp T.b26 tk (rA_cons (rE_var 1) rA_nil) (al_cons al_nil)) (rA_cons (rE_op op_mulWW od_mulW (rE_tup (rA_cons rE_int rA_nil)) (rE_var 1)) (rA_cons (rE_fn (ok__law_one T Z B) hG (hr.mono (by decide)) T.g24 T.F24.kp T.b24 tk (rA_cons (rE_var 0) (rA_cons (rE_sortX rfl (u100 hr) Z.tP Z.tw T.n_sorted (rE_var 3)) rA_nil)) (al_cons (al_cons al_nil))) rA_nil)))))) (rSs_cons (rS_set 5 sc__law_small_right.nd (rE_callTy call_tuple_of cd_tuple T.n_tuple (by decide +kernel) (rA_cons (rE_fn (ok__law_mixed T Z B) hG (hr.mono (by decide)) T.g25 T.F25.kp T.b25 tk (rA_cons (rE_var 0) (rA_cons (rE_op op_addA od_add (rE_var 2) (rE_sl (rE_var 2) rO_none (rO_some rE_int))) rA_nil)) (al_cons (al_cons al_nil))) rA_nil))) (rSs_cons (rS_set 6 sc__law_small_right.nd (rE_fn (ok__law_all_sums T Z B) hG (hr.mono (by decide)) T.g32 T.F32.kp T.b32 tk (rA_cons (rE_var 5) rA_nil) (al_cons al_nil))) (rSs_cons (rS_for hp rfl (rI_seq (rE_var 4)) (rG_nm 7 sc__law_small_right.nd) (rSs_cons (rS_set 8 sc__law_small_right.nd (rE_din (hu_of hr) Z.tP Z.tw (rE_var 7) (rE_var 3))) (rSs_cons (rS_if (rT_cmp (op_neA hr.units) od_ne (rE_callB (call_reprD hG (u100 hr)) cd_repr T.n_repr (by decide +kernel) (rA_cons (rE_tup (rA_cons (rE_fn (ok_leads T Z B) hG (hr.mono (by decide)) T.g20 T.F20.kp T.b20 tk (rA_cons (rE_var 1) (rA_cons (rE_var 2) (rA_cons (rE_var 7) rA_nil))) (al_cons (al_cons (al_cons al_nil)))) (rA_cons (rE_fnK0 ["row", "rows", "n"] [2, 1, 0] (ok_leads T Z B) hG (hr.mono (by decide)) T.g20 T.F20.kp T.k20_210 tk (rK_cons (rE_var 7) (rK_cons (rE_var 2) (rK_cons (rE_var 1) rK_nil))) (al_cons (al_cons (al_cons al_nil)))) rA_nil))) rA_nil)) (rE_callB (call_reprD hG (u100 hr)) cd_repr T.n_repr (by decide +kernel) (rA_cons (rE_tup (rA_cons (rE_var 8) (rA_cons (rE_var 8) rA_nil))) rA_nil)) (nomark _)) (rSs_one (rS_ret rE_bl)) rSs_nil) (rSs_cons (rS_if (rT_cmp (op_neA hr.units) od_ne (rE_var 8) (rE_fn (ok__law_leads T Z B) hG (hr.mono (by decide)) T.g30 T.F30.kp T.b30 tk (rA_cons (rE_var 2) (rA_cons (rE_var 7) rA_nil)) (al_cons (al_cons al_nil))) (nomark _)) (rSs_one (rS_ret rE_bl)) rSs_nil) (rSs_one (rS_if (PW.pt (rW_or (rT_cmp (op_neA hr.units) od_ne (rE_callB (call_reprD hG (u100 hr)) cd_repr T.n_repr (by decide +kernel) (rA_cons (rE_fn (ok_leads T Z B) hG (hr.mono (by decide)) T.g20 T.F20.kp T.b20 tk (rA_cons (rE_var 1) (rA_cons (rE_var 5) (rA_cons (rE_var 7) rA_nil))) (al_cons (al_cons (al_cons al_nil)))) rA_nil)) (rE_callB (call_reprD hG (u100 hr)) cd_repr T.n_repr (by decide +kernel) (rA_cons (rE_var 8) rA_nil)) (nomark _)) (rW_or1 (rT_cmp (op_neA hr.units) od_ne (rE_din (hu_of hr) Z.tP Z.tw (rE_var 7) (rE_var 6)) (rE_var 8) (nomark _))))) (rSs_one (rS_ret rE_bl)) rSs_nil)))))) (rSs_one (rS_ret rE_bl))))))))

theorem sc__law_wide_right : FnScope N__law_wide_right ["jar", "n"] (defScope (top 35)) := ⟨rfl, rfl, rfl, by decide +kernel, rfl, by decide +kernel, by decide +kernel⟩
theorem ok__law_wide_right (T : Tx K mg ad fd) (Z : Ex P w K mg cm fi fd cd tb) (B : Bx base mg cd tb) : FnG P w K mg base 6 (ad 35) (fd 35) ["jar", "n"] (spD K cm 2 d__law_wide_right) := fn_D (N := N__law_wide_right) (m := m__law_wide_right) T.F35 sc__law_wide_right fun cdv A fr s H E hG hr tk hp =>
  (rSs_cons (rS_set 2 sc__law_wide_right.nd (rE_fn (ok__law_drawn_rows T Z B) hG (hr.mono (by decide)) T.g33 T.F33.kp T.b33 tk (rA_cons (rE_var 0) (rA_cons (rE_var 1) (rA_cons rE_int rA_nil))) (al_cons (al_cons (al_cons al_nil))))) (rSs_cons (rS_set 3 sc__law_wide_right.nd (rE_if (rT_cmp (op_eqA hr.units) od_eq (rE_fn (ok__law_take T Z B) hG (hr.mono (by decide)) T.g23 T.F23.kp T.b23 tk (rA_cons (rE_var 0) (rA_cons rE_int rA_nil)) (al_cons (al_cons al_nil))) rE_int (nomark _)) (rE_fn (ok__law_all_sums T Z B) hG (hr.mono (by decide)) T.g32 T.F32.kp T.b32 tk (rA_cons (rE_sl (rE_var 2) rO_none (rO_some rE_int)) rA_nil) (al_cons al_nil)) rE_non)) (rSs_cons (rS_for hp rfl (rI_range1 T.n_range (rA_cons rE_int rA_nil)) (rG_nm 4 sc__law_wide_right.nd) (rSs_cons (rS_set 5 sc__law_wide_right.nd (rE_fn (ok__law_any_row T Z B) hG (hr.mono (by decide)) T.g28 T.F28.kp T.b28 tk (rA_cons (rE_var 0) (rA_cons (rE_var 1) rA_nil)) (al_cons (al_cons al_nil)))) (rSs_cons (rS_if (PW.pt (rW_and (rT_cmp op_notN od_notN (rE_var 3) rE_non (nomark _)) (rW_and1 (rT_cmp (op_neA hr.units) od_ne (rE_callB (call_reprD hG (u100 hr)) cd_repr T.n_repr (by decide +kernel) (rA_cons (rE_fn (ok_leads T Z B) hG (hr.mono (by decide)) T.g20 T.F20.kp T.b20 tk (rA_cons (rE_var 1) (rA_cons (rE_sl (rE_var 2) rO_none (rO_some rE_int)) (rA_cons (rE_var 5) rA_nil))) (al_cons (al_cons (al_cons al_nil)))) rA_nil)) (rE_callB (call_reprD hG (u100 hr)) cd_repr T.n_repr (by decide +kernel) (rA_cons (rE_din (hu_of hr) Z.tP Z.tw (rE_var 5) (rE_var 3)) rA_nil)) (nomark _))))) (rSs_one (rS_ret rE_bl)) rSs_nil) (rSs_cons (rS_if (rT_cmp op_gt od_gt (rE_var 4) rE_int (nomark _)) (rSs_one (rS_set 5 sc__law_wide_right.nd (rE_fn (ok__law_line_row T Z B) hG (hr.mono (by decide)) T.g29 T.F29.kp T.b29 tk (rA_cons (rE_var 0) (rA_cons (rE_var 5) (rA_cons (rE_comp [("i", 6)] rfl sc__law_wide_right.nd (rI_range1 T.n_range (rA_cons (rE_var 1) rA_nil)) (blk_of (N := N__law_wide_right) (sc := defScope (top 35)) (by decide +kernel)) (fun _ _ _ _ _ => (rG_nm 6 sc__law_wide_right.nd)) (fun _ _ _ _ _ => rTs_nil) (fun _ _ _ _ _ => (rE_var 6))) rA_nil))) (al_cons (al_cons (al_cons al_nil)))))) rSs_nil) (rSs_one (rS_if (rT_cmp (op_neA hr.units) od_ne (rE_callB (call_reprD hG (u100 hr)) cd_repr T.n_repr (by decide +kernel) (rA_cons (rE_fnK0 ["n", "rows", "row"] [0, 1, 2] (ok_leads T Z B) hG (hr.mono (by decide)) T.g20 T.F20.kp T.k20_012 tk (rK_cons (rE_var 1) (rK_cons (rE_var 2) (rK_cons (rE_var 5) rK_nil))) (al_cons (al_cons (al_cons al_nil)))) rA_nil)) (rE_callB (call_reprD hG (u100 hr)) cd_repr T.n_repr (by decide +kernel) (rA_cons (rE_fn (ok__law_leads T Z B) hG (hr.mono (by decide)) T.g30 T.F30.kp T.b30 tk (rA_cons (rE_var 2) (rA_cons (rE_var 5) rA_nil)) (al_cons (al_cons al_nil))) rA_nil)) (nomark _)) (rSs_one (rS_ret rE_bl)) rSs_nil)))))) (rSs_one (rS_ret rE_bl)))))

theorem sc__law_deep_thing : FnScope N__law_deep_thing ["jar"] (defScope (top 36)) := ⟨rfl, rfl, rfl, by decide +kernel, rfl, by decide +kernel, by decide +kernel⟩
theorem ok__law_deep_thing (T : Tx K mg ad fd) (Z : Ex P w K mg cm fi fd cd tb) (B : Bx base mg cd tb) : FnG P w K mg base 3 (ad 36) (fd 36) ["jar"] (spD K cm 1 d__law_deep_thing) := fn_D (N := N__law_deep_thing) (m := m__law_deep_thing) T.F36 sc__law_deep_thing fun cdv A fr s H E hG hr tk hp =>
  (rSs_cons (rS_par 1 2 rfl sc__law_deep_thing.nd rfl rfl (rA_cons (rE_fn (ok__law_one T Z B) hG (hr.mono (by decide)) T.g24 T.F24.kp T.b24 tk (rA_cons (rE_var 0) (rA_cons (rE_lst (rA_cons (rE_tup rA_nil) (rA_cons rE_int (rA_cons rE_str (rA_cons rE_non (rA_cons rE_bl rA_nil)))))) rA_nil)) (al_cons (al_cons al_nil))) (rA_cons (rE_fn (ok__law_take T Z B) hG (hr.mono (by decide)) T.g23 T.F23.kp T.b23 tk (rA_cons (rE_var 0) (rA_cons rE_int rA_nil)) (al_cons (al_cons al_nil))) rA_nil))) (rSs_cons (rS_if (rT_cmp (op_eqA hr.units) od_eq (rE_var 2) rE_int (nomark _)) (rSs_one (rS_ret (rE_fn (ok__law_one T Z B) hG (hr.mono (by decide)) T.g24 T.F24.kp T.b24 tk (rA_cons (rE_var 0) (rA_cons (rE_lst (rA_cons (rE_op op_mulWW od_mulW (rE_tup (rA_cons (rE_op op_mulWW od_mulW (rE_tup (rA_cons (rE_var 1) rA_nil)) rE_int) rA_nil)) rE_int) (rA_cons (rE_op op_mulWW od_mulW (rE_tup (rA_cons (rE_var 1) rA_nil)) rE_int) rA_nil))) rA_nil)) (al_cons (al_cons al_nil))))) rSs_nil) (rSs_cons (rS_for hp rfl (rI_range1 T.n_range (rA_cons (rE_if (rT_cmp op_gt od_gt (rE_var 2) rE_int (nomark _)) rE_int rE_int) rA_nil)) (rG_nm 3 sc__law_deep_thing.nd) (rSs_one (rS_set 1 sc__law_deep_thing.nd (rE_if (rT_cmp (op_eqA hr.units) od_eq (rE_var 2) rE_int (nomark _)) (rE_tup (rA_cons (rE_var 1) (rA_cons (rE_var 1) rA_nil))) (rE_tup (rA_cons (rE_var 1) rA_nil)))))) (rSs_one (rS_ret (rE_var 1))))))

theorem sc__law_doors_right : FnScope N__law_doors_right ["jar", "n"] (defScope (top 37)) := ⟨rfl, rfl, rfl, by decide +kernel, rfl, by decide +kernel, by decide +kernel⟩
theorem ok__law_doors_right (T : Tx K mg ad fd) (Z : Ex P w K mg cm fi fd cd tb) (B : Bx base mg cd tb) : FnG P w K mg base 8 (ad 37) (fd 37) ["jar", "n"] (spD K cm 2 d__law_doors_right) := fn_DC (N := N__law_doors_right) (m := m__law_doors_right) T.F37 sc__law_doors_right fun cdv A fr s H E hc hG hr tk hp =>
  (rSs_cons (rS_set 6 sc__law_doors_right.nd (rE_fn (ok__law_drawn_rows T Z B) hG (hr.mono (by decide)) T.g33 T.F33.kp T.b33 tk (rA_cons (rE_var 0) (rA_cons (rE_var 1) (rA_cons rE_int rA_nil))) (al_cons (al_cons (al_cons al_nil))))) (rSs_cons (rS_for hp rfl (rI_seq (rE_lst (rA_cons rE_int (rA_cons rE_int (rA_cons (rE_un un_neg ud_neg rE_int) (rA_cons rE_non (rA_cons rE_str (rA_cons rE_bl (rA_cons rE_bl (rA_cons (rE_fn (ok__law_deep_thing T Z B) hG (hr.mono (by decide)) T.g36 T.F36.kp T.b36 tk (rA_cons (rE_var 0) rA_nil) (al_cons al_nil)) rA_nil)))))))))) (rG_nm 4 sc__law_doors_right.nd) (rSs_one (rS_if (rT_cmp (op_neA hr.units) od_ne (rE_heardF (k := 5) hG T.g31 T.F31 T.b31 sc__law_heard rfl (by first | exact Or.inl rfl | exact Or.inr (Or.inl rfl)) (fun cdg => hd__law_heard T Z cdg) B.t37 (hc.symm.trans Z.k37) Z.m37 Z.u37 (hr.mono (by decide)) (LamX.lamS_by (sc := defScope (top 37)) (by decide +kernel)) (fun A outer s H E f c' hG hr tk => (rE_fn (ok_leads T Z B) hG (hr.mono (by decide)) T.g20 T.F20.kp T.b20 tk (rA_cons (rE_var 4) (rA_cons rE_non (rA_cons rE_non rA_nil))) (al_cons (al_cons (al_cons al_nil)))))) (rE_tup (rA_cons rE_str (rA_cons (rE_var 4) rA_nil))) (nomark _)) (rSs_one (rS_ret rE_bl)) rSs_nil))) (rSs_cons (rS_set 2 sc__law_doors_right.nd (rE_fn (ok__law_take T Z B) hG (hr.mono (by decide)) T.g23 T.F23.kp T.b23 tk (rA_cons (rE_var 0) (rA_cons (rE_var 1) rA_nil)) (al_cons (al_cons al_nil)))) (rSs_cons (rS_set 3 sc__law_doors_right.nd (rE_fn (ok__law_one T Z B) hG (hr.mono (by decide)) T.g24 T.F24.kp T.b24 tk (rA_cons (rE_var 0) (rA_cons (rE_lst (rA_cons rE_int (rA_cons (rE_un un_neg ud_neg rE_int) (rA_cons rE_non (rA_cons rE_str (rA_cons rE_bl (rA_cons rE_bl (rA_cons (rE_tup (rA_cons rE_int rA_nil)) (rA_cons (rE_fn (ok__law_deep_thing T Z B) hG (hr.mono (by decide)) T.g36 T.F36.kp T.b36 tk (rA_cons (rE_var 0) rA_nil) (al_cons al_nil)) rA_nil))))))))) rA_nil)) (al_cons (al_cons al_nil)))) (rSs_cons (rS_set 5 sc__law_doors_right.nd (rE_op op_addA od_add (rE_op op_addA od_add (rE_op op_mulWW od_mulW (rE_tup (rA_cons rE_int rA_nil)) (rE_var 2)) (rE_tup (rA_cons (rE_var 3) rA_nil))) (rE_op op_mulWW od_mulW (rE_tup (rA_cons rE_int rA_nil)) (rE_op op_sub od_sub (rE_op op_sub od_sub (rE_var 1) (rE_var 2)) rE_int)))) (rSs_cons (rS_for hp rfl (rI_seq (rE_lst (rA_cons rE_non (rA_cons (rE_tup rA_nil) (rA_cons (rE_op op_mulWW od_mulW (rE_var 6) rE_int) (rA_cons rE_str (rA_cons rE_int (rA_cons (rE_op op_mulWW od_mulW (rE_tup (rA_cons (rE_op op_mulWW od_mulW (rE_tup (rA_cons rE_int rA_nil)) (rE_var 1)) rA_nil)) rE_int) rA_nil)))))))) (rG_nm 7 sc__law_doors_right.nd) (rSs_one (rS_if (rT_cmp (op_neA hr.units) od_ne (rE_heardF (k := 5) hG T.g31 T.F31 T.b31 sc__law_heard rfl (by first | exact Or.inl rfl | exact Or.inr (Or.inl rfl)) (fun cdg => hd__law_heard T Z cdg) B.t37 (hc.symm.trans Z.k37) Z.m37 Z.u37 (hr.mono (by decide)) (LamX.lamS_by (sc := defScope (top 37)) (by decide +kernel)) (fun A outer s H E f c' hG hr tk => (rE_fn (ok_leads T Z B) hG (hr.mono (by decide)) T.g20 T.F20.kp T.b20 tk (rA_cons (rE_var 1) (rA_cons (rE_var 7) (rA_cons rE_non rA_nil))) (al_cons (al_cons (al_cons al_nil)))))) (rE_tup (rA_cons rE_str (rA_cons (rE_un un_neg ud_neg rE_int) rA_nil))) (nomark _)) (rSs_one (rS_ret rE_bl)) rSs_nil))) (rSs_cons (rS_for hp rfl (rI_seq (rE_lst (rA_cons (rE_var 5) (rA_cons rE_non (rA_cons (rE_op op_mulWW od_mulW (rE_tup (rA_cons rE_int rA_nil)) (rE_op op_addA od_add (rE_var 1) rE_int)) (rA_cons (rE_op op_mulWW od_mulW (rE_tup (rA_cons rE_int rA_nil)) (rE_op op_sub od_sub (rE_var 1) rE_int)) (rA_cons rE_int rA_nil))))))) (rG_nm 7 sc__law_doors_right.nd) (rSs_one (rS_if (rT_cmp (op_neA hr.units) od_ne (rE_heardF (k := 5) hG T.g31 T.F31 T.b31 sc__law_heard rfl (by first | exact Or.inl rfl | exact Or.inr (Or.inl rfl)) (fun cdg => hd__law_heard T Z cdg) B.t37 (hc.symm.trans Z.k37) Z.m37 Z.u37 (hr.mono (by decide)) (LamX.lamS_by (sc := defScope (top 37)) (by decide +kernel)) (fun A outer s H E f c' hG hr tk => (rE_fn (ok_leads T Z B) hG (hr.mono (by decide)) T.g20 T.F20.kp T.b20 tk (rA_cons (rE_var 1) (rA_cons (rE_op op_addA od_add (rE_var 6) (rE_tup (rA_cons (rE_var 7) rA_nil))) (rA_cons rE_non rA_nil))) (al_cons (al_cons (al_cons al_nil)))))) (rE_tup (rA_cons rE_str (rA_cons (rE_callB call_len cd_len T.n_len (by decide +kernel) (rA_cons (rE_var 6) rA_nil)) rA_nil))) (nomark _)) (rSs_one (rS_ret rE_bl)) rSs_nil))) (rSs_cons (rS_for hp rfl (rI_seq (rE_lst (rA_cons rE_non (rA_cons (rE_op op_mulWW od_mulW (rE_tup (rA_cons rE_int rA_nil)) (rE_op op_addA od_add (rE_var 1) rE_int)) (rA_cons (rE_tup rA_nil) (rA_cons rE_int rA_nil)))))) (rG_nm 7 sc__law_doors_right.nd) (rSs_one (rS_if (rT_cmp (op_neA hr.units) od_ne (rE_heardF (k := 5) hG T.g31 T.F31 T.b31 sc__law_heard rfl (by first | exact Or.inl rfl | exact Or.inr (Or.inl rfl)) (fun cdg => hd__law_heard T Z cdg) B.t37 (hc.symm.trans Z.k37) Z.m37 Z.u37 (hr.mono (by decide)) (LamX.lamS_by (sc := defScope (top 37)) (by decide +kernel)) (fun A outer s H E f c' hG hr tk => (rE_fn (ok_leads T Z B) hG (hr.mono (by decide)) T.g20 T.F20.kp T.b20 tk (rA_cons (rE_var 1) (rA_cons (rE_var 6) (rA_cons (rE_var 7) rA_nil))) (al_cons (al_cons (al_cons al_nil)))))) (rE_tup (rA_cons rE_str (rA_cons (rE_un un_neg ud_neg rE_int) rA_nil))) (nomark _)) (rSs_one (rS_ret rE_bl)) rSs_nil))) (rSs_one (rS_ret (rE_cmp (op_eqA hr.units) od_eq (rE_heardF (k := 5) hG T.g31 T.F31 T.b31 sc__law_heard rfl (by first | exact Or.inl rfl | exact Or.inr (Or.inl rfl)) (fun cdg => hd__law_heard T Z cdg) B.t37 (hc.symm.trans Z.k37) Z.m37 Z.u37 (hr.mono (by decide)) (LamX.lamS_by (sc := defScope (top 37)) (by decide +kernel)) (fun A outer s H E f c' hG hr tk => (rE_fn (ok_leads T Z B) hG (hr.mono (by decide)) T.g20 T.F20.kp T.b20 tk (rA_cons (rE_var 1) (rA_cons (rE_var 6) (rA_cons (rE_var 5) rA_nil))) (al_cons (al_cons (al_cons al_nil)))))) (rE_tup (rA_cons rE_str (rA_cons (rE_var 2) rA_nil))) (nomark _))))))))))))

theorem sc_law : FnScope N_law ["script"] (defScope (top 38)) := ⟨rfl, rfl, rfl, by decide +kernel, rfl, by decide +kernel, by decide +kernel⟩
theorem ok_law (T : Tx K mg ad fd) (Z : Ex P w K mg cm fi fd cd tb) (B : Bx base mg cd tb) : FnG P w K mg base 9 (ad 38) (fd 38) ["script"] (spD K cm 1 d_law) := fn_D (N := N_law) (m := m_law) T.F38 sc_law fun cdv A fr s H E hG hr tk hp =>
  (rSs_cons (rS_for hp rfl (rI_range1 T.n_range (rA_cons (rE_callB (call_max2 rfl) cd_max T.n_max (by decide +kernel) (rA_cons rE_int (rA_cons (rE_callB (call_min2 rfl) cd_min T.n_min (by decide +kernel) (rA_cons (rE_callB call_len cd_len T.n_len (by decide +kernel) (rA_cons (rE_var 0) rA_nil)) (rA_cons rE_int rA_nil))) rA_nil))) rA_nil)) (rG_nm 1 sc_law.nd) (rSs_cons (rS_set 2 sc_law.nd (rE_fn (ok__law_pool T Z B) hG (hr.mono (by decide)) T.g22 T.F22.kp T.b22 tk (rA_cons (rE_var 0) (rA_cons (rE_var 1) rA_nil)) (al_cons (al_cons al_nil)))) (rSs_cons (rS_set 3 sc_law.nd (rE_op op_addA od_add rE_int (rE_fn (ok__law_take T Z B) hG (hr.mono (by decide)) T.g23 T.F23.kp T.b23 tk (rA_cons (rE_var 2) (rA_cons rE_int rA_nil)) (al_cons (al_cons al_nil))))) (rSs_cons (rS_if (PW.pt (rW_or (rT_not (rT_val (rE_fn (ok__law_small_right T Z B) hG (hr.mono (by decide)) T.g34 T.F34.kp T.b34 tk (rA_cons (rE_var 2) (rA_cons (rE_var 3) rA_nil)) (al_cons (al_cons al_nil))))) (rW_or1 (rT_not (rT_val (rE_fn (ok__law_wide_right T Z B) hG (hr.mono (by decide)) T.g35 T.F35.kp T.b35 tk (rA_cons (rE_var 2) (rA_cons (rE_op op_addA od_add rE_int (rE_fn (ok__law_take T Z B) hG (hr.mono (by decide)) T.g23 T.F23.kp T.b23 tk (rA_cons (rE_var 2) (rA_cons rE_int rA_nil)) (al_cons (al_cons al_nil)))) rA_nil)) (al_cons (al_cons al_nil)))))))) (rSs_one (rS_ret rE_bl)) rSs_nil) (rSs_one (rS_if (rT_not (rT_val (rE_fn (ok__law_doors_right T Z B) hG (hr.mono (by decide)) T.g37 T.F37.kp T.b37 tk (rA_cons (rE_var 2) (rA_cons (rE_var 3) rA_nil)) (al_cons (al_cons al_nil))))) (rSs_one (rS_ret rE_bl)) rSs_nil)))))) (rSs_one (rS_ret rE_bl)))

end
end Rol.G

namespace Rol.G
open PySem L2 PySem.Spec Rol
open PyProof.Rows hiding St
theorem l_mulW {a b : Int} {st : S} (h : cMul a b = true) : dMulW (.int a) (.int b) st = .ok (.int (a * b)) st := l_mul h
theorem take_of {j : Nat} {st : S} (hj : Jar j st) {top : Int} (h0 : 0 < top) (h1 : top.natAbs.log2 < 9000) : ∃ d st', d__law_take [.loc j, .int top] st = .ok (.int d) st' ∧ 0 ≤ d ∧ d < top ∧ Ev j st st' := by
  obtain ⟨a, b, ha, e⟩ := id hj
  have hlt := hj.lt
  have x0 : dIx (.loc j) (.int 0) st = .ok (.int a) st := l_ixl e rfl
  have x1 : dIx (.loc j) (.int 1) st = .ok (.int b) st := l_ixl e rfl
  by_cases hp : 0 < a
  · refine ⟨a % top, st.set j (.lst [.int (a / top), .int b]), ?_, Int.emod_nonneg _ (by omega), Int.emod_lt_of_pos _ h0, jar_set hj (Int.ediv_nonneg ha (by omega))⟩
    have q1 := @l_mod a top st h0
    have q2 := @l_fdiv a top st h0 h1
    have q3 : dSetIx (.loc j) (.int 0) (.int (a / top)) st = some (st.set j (.lst [.int (a / top), .int b])) := l_set (q := 0) e rfl
    refine x_body (x_seqr (x_ift (b := decide (0 < a)) (st' := st) ?_ (decide_eq_true hp) (x_seq (ρ' := [some (.loc j), some (.int top), some (.int (a % top))]) (st' := st) ?_ (x_seq (ρ' := [some (.loc j), some (.int top), some (.int (a % top))]) (st' := st.set j (.lst [.int (a / top), .int b])) ?_ ?_))))
    · (repeat' first | with_reducible assumption | ((with_reducible apply x_var); rfl) | with_reducible exact x_c | with_reducible exact x_nil | with_reducible exact x_skip | with_reducible apply x_setE | exact SetTo.mk rfl | with_reducible apply x_exprE | exact EnvEq.mk rfl | with_reducible apply x_ret | with_reducible apply x_cons | with_reducible apply x_2 | with_reducible apply x_1 | with_reducible apply x_call | with_reducible apply x_fn | with_reducible apply x_tof | with_reducible apply x_tnot | with_reducible apply x_sl | with_reducible apply x_os | with_reducible apply x_tup | with_reducible apply x_lst | with_reducible apply x_sub | with_reducible exact x_on | with_reducible exact l_add | with_reducible exact l_sub | with_reducible exact l_neg | with_reducible exact l_lt | with_reducible exact l_le | with_reducible exact l_gt | with_reducible exact l_ge | with_reducible exact l_lent | with_reducible exact l_inti | with_reducible exact l_intb | with_reducible exact l_tup | with_reducible exact l_slt | with_reducible exact dEq_int _ _ _ | with_reducible exact dNe_int _ _ _ | with_reducible exact dEq_str _ _ _ | with_reducible exact dNe_str _ _ _ | exact Nat.le_of_ble_eq_true rfl)
    · (repeat' first | with_reducible assumption | ((with_reducible apply x_var); rfl) | with_reducible exact x_c | with_reducible exact x_nil | with_reducible exact x_skip | with_reducible apply x_setE | exact SetTo.mk rfl | with_reducible apply x_exprE | exact EnvEq.mk rfl | with_reducible apply x_ret | with_reducible apply x_cons | with_reducible apply x_2 | with_reducible apply x_1 | with_reducible apply x_call | with_reducible apply x_fn | with_reducible apply x_tof | with_reducible apply x_tnot | with_reducible apply x_sl | with_reducible apply x_os | with_reducible apply x_tup | with_reducible apply x_lst | with_reducible apply x_sub | with_reducible exact x_on | with_reducible exact l_add | with_reducible exact l_sub | with_reducible exact l_neg | with_reducible exact l_lt | with_reducible exact l_le | with_reducible exact l_gt | with_reducible exact l_ge | with_reducible exact l_lent | with_reducible exact l_inti | with_reducible exact l_intb | with_reducible exact l_tup | with_reducible exact l_slt | with_reducible exact dEq_int _ _ _ | with_reducible exact dNe_int _ _ _ | with_reducible exact dEq_str _ _ _ | with_reducible exact dNe_str _ _ _ | exact Nat.le_of_ble_eq_true rfl)
    · (repeat' first | with_reducible assumption | ((with_reducible apply x_var); rfl) | with_reducible exact x_c | with_reducible exact x_nil | with_reducible exact x_skip | with_reducible apply x_setE | exact SetTo.mk rfl | with_reducible apply x_exprE | exact EnvEq.mk rfl | with_reducible apply x_ret | with_reducible apply x_cons | with_reducible apply x_2 | with_reducible apply x_1 | with_reducible apply x_call | with_reducible apply x_fn | with_reducible apply x_tof | with_reducible apply x_tnot | with_reducible apply x_sl | with_reducible apply x_os | with_reducible apply x_tup | with_reducible apply x_lst | with_reducible apply x_sub | with_reducible exact x_on | with_reducible exact l_add | with_reducible exact l_sub | with_reducible exact l_neg | with_reducible exact l_lt | with_reducible exact l_le | with_reducible exact l_gt | with_reducible exact l_ge | with_reducible exact l_lent | with_reducible exact l_inti | with_reducible exact l_intb | with_reducible exact l_tup | with_reducible exact l_slt | with_reducible exact dEq_int _ _ _ | with_reducible exact dNe_int _ _ _ | with_reducible exact dEq_str _ _ _ | with_reducible exact dNe_str _ _ _ | exact Nat.le_of_ble_eq_true rfl)
    · (repeat' first | with_reducible assumption | ((with_reducible apply x_var); rfl) | with_reducible exact x_c | with_reducible exact x_nil | with_reducible exact x_skip | with_reducible apply x_setE | exact SetTo.mk rfl | with_reducible apply x_exprE | exact EnvEq.mk rfl | with_reducible apply x_ret | with_reducible apply x_cons | with_reducible apply x_2 | with_reducible apply x_1 | with_reducible apply x_call | with_reducible apply x_fn | with_reducible apply x_tof | with_reducible apply x_tnot | with_reducible apply x_sl | with_reducible apply x_os | with_reducible apply x_tup | with_reducible apply x_lst | with_reducible apply x_sub | with_reducible exact x_on | with_reducible exact l_add | with_reducible exact l_sub | with_reducible exact l_neg | with_reducible exact l_lt | with_reducible exact l_le | with_reducible exact l_gt | with_reducible exact l_ge | with_reducible exact l_lent | with_reducible exact l_inti | with_reducible exact l_intb | with_reducible exact l_tup | with_reducible exact l_slt | with_reducible exact dEq_int _ _ _ | with_reducible exact dNe_int _ _ _ | with_reducible exact dEq_str _ _ _ | with_reducible exact dNe_str _ _ _ | exact Nat.le_of_ble_eq_true rfl)
  · let r : Int := (b * 39373 + 7) % 2147483647
    have r0 : 0 ≤ r := Int.emod_nonneg _ (by decide)
    have r1 : r < 2147483647 := Int.emod_lt_of_pos _ (by decide)
    have y1 : dIx (.loc j) (.int 1) (st.set j (.lst [.int a, .int r])) = .ok (.int r) (st.set j (.lst [.int a, .int r])) := l_ixl (by rw [List.getElem?_set_self hlt]) rfl
    refine ⟨(r * r % 2147483629 / 32) % top, st.set j (.lst [.int a, .int r]), ?_, Int.emod_nonneg _ (by omega), Int.emod_lt_of_pos _ h0, jar_set hj ha⟩
    have m1 := @l_mulW b 39373 st (cMul_r (by decide) (by decide))
    have m2 := @l_mulW r r (st.set j (.lst [.int a, .int r])) (cMul_r (by omega) (by omega))
    have q1 := @l_mod (b * 39373 + 7) 2147483647 st (by decide)
    have q2 := @l_mod (r * r) 2147483629 (st.set j (.lst [.int a, .int r])) (by decide)
    have q4 := @l_fdiv (r * r % 2147483629) 32 (st.set j (.lst [.int a, .int r])) (by decide) (by decide)
    have q5 := @l_mod (r * r % 2147483629 / 32) top (st.set j (.lst [.int a, .int r])) h0
    have q3 : dSetIx (.loc j) (.int 1) (.int r) st = some (st.set j (.lst [.int a, .int r])) := l_set (q := 1) e rfl
    refine x_body (x_seq (ρ' := [some (.loc j), some (.int top), none]) (st' := st) (x_iff (b := decide (0 < a)) (st' := st) ?_ (decide_eq_false hp) x_skip) (x_seq (ρ' := [some (.loc j), some (.int top), none]) (st' := st.set j (.lst [.int a, .int r])) ?_ ?_))
    · (repeat' first | with_reducible assumption | ((with_reducible apply x_var); rfl) | with_reducible exact x_c | with_reducible exact x_nil | with_reducible exact x_skip | with_reducible apply x_setE | exact SetTo.mk rfl | with_reducible apply x_exprE | exact EnvEq.mk rfl | with_reducible apply x_ret | with_reducible apply x_cons | with_reducible apply x_2 | with_reducible apply x_1 | with_reducible apply x_call | with_reducible apply x_fn | with_reducible apply x_tof | with_reducible apply x_tnot | with_reducible apply x_sl | with_reducible apply x_os | with_reducible apply x_tup | with_reducible apply x_lst | with_reducible apply x_sub | with_reducible exact x_on | with_reducible exact l_add | with_reducible exact l_sub | with_reducible exact l_neg | with_reducible exact l_lt | with_reducible exact l_le | with_reducible exact l_gt | with_reducible exact l_ge | with_reducible exact l_lent | with_reducible exact l_inti | with_reducible exact l_intb | with_reducible exact l_tup | with_reducible exact l_slt | with_reducible exact dEq_int _ _ _ | with_reducible exact dNe_int _ _ _ | with_reducible exact dEq_str _ _ _ | with_reducible exact dNe_str _ _ _ | exact Nat.le_of_ble_eq_true rfl)
    · (repeat' first | with_reducible assumption | ((with_reducible apply x_var); rfl) | with_reducible exact x_c | with_reducible exact x_nil | with_reducible exact x_skip | with_reducible apply x_setE | exact SetTo.mk rfl | with_reducible apply x_exprE | exact EnvEq.mk rfl | with_reducible apply x_ret | with_reducible apply x_cons | with_reducible apply x_2 | with_reducible apply x_1 | with_reducible apply x_call | with_reducible apply x_fn | with_reducible apply x_tof | with_reducible apply x_tnot | with_reducible apply x_sl | with_reducible apply x_os | with_reducible apply x_tup | with_reducible apply x_lst | with_reducible apply x_sub | with_reducible exact x_on | with_reducible exact l_add | with_reducible exact l_sub | with_reducible exact l_neg | with_reducible exact l_lt | with_reducible exact l_le | with_reducible exact l_gt | with_reducible exact l_ge | with_reducible exact l_lent | with_reducible exact l_inti | with_reducible exact l_intb | with_reducible exact l_tup | with_reducible exact l_slt | with_reducible exact dEq_int _ _ _ | with_reducible exact dNe_int _ _ _ | with_reducible exact dEq_str _ _ _ | with_reducible exact dNe_str _ _ _ | exact Nat.le_of_ble_eq_true rfl)
    · (repeat' first | with_reducible assumption | ((with_reducible apply x_var); rfl) | with_reducible exact x_c | with_reducible exact x_nil | with_reducible exact x_skip | with_reducible apply x_setE | exact SetTo.mk rfl | with_reducible apply x_exprE | exact EnvEq.mk rfl | with_reducible apply x_ret | with_reducible apply x_cons | with_reducible apply x_2 | with_reducible apply x_1 | with_reducible apply x_call | with_reducible apply x_fn | with_reducible apply x_tof | with_reducible apply x_tnot | with_reducible apply x_sl | with_reducible apply x_os | with_reducible apply x_tup | with_reducible apply x_lst | with_reducible apply x_sub | with_reducible exact x_on | with_reducible exact l_add | with_reducible exact l_sub | with_reducible exact l_neg | with_reducible exact l_lt | with_reducible exact l_le | with_reducible exact l_gt | with_reducible exact l_ge | with_reducible exact l_lent | with_reducible exact l_inti | with_reducible exact l_intb | with_reducible exact l_tup | with_reducible exact l_slt | with_reducible exact dEq_int _ _ _ | with_reducible exact dNe_int _ _ _ | with_reducible exact dEq_str _ _ _ | with_reducible exact dNe_str _ _ _ | exact Nat.le_of_ble_eq_true rfl)
theorem at_new (st : S) (o : O) : (st ++ [o])[st.length]? = some o := by simp
theorem pow18 (st : S) : dPow (.int 10) (.int 18) st = .ok (.int 1000000000000000000) st := rfl
theorem l_max (i j : Int) (st : S) : dMax [.int i, .int j] st = .ok (.int (if j > i then j else i)) st := rfl
theorem ne_src (ns : List Int) (st : S) (k l : Nat) (h : itemsAt st k = some (ns.map D.int)) (h2 : itemsAt st l = some []) : dNe (.loc k) (.loc l) st = .ok (.bl (!decide (ns = []))) st := by
  have e1 : toP st 64 (.loc k) = some (.list (ns.map .int)) := by
    rw [toP, h]
    simp only [optAll_map (h := PyData.int) ns fun x _ => toP_int st 63 x, Option.map_some]
  have e2 : toP st 64 (.loc l) = some (.list []) := by
    rw [toP, h2]
    rfl
  show dNeD (.loc k) (.loc l) st = _
  unfold dNeD
  rw [e1, e2]
  have s2 : SeqAt.shaped (.list []) = true := by decide
  have e3 : PyData.eqv (.list (ns.map .int)) (.list []) = decide (ns = []) := by
    have := eqvAll_ints ns []
    rw [PyData.eqv]
    exact this
  simp only [shaped_lints, s2, and_self, if_true, e3]
/-- what the script's items are walked by -/
theorem pool_of {ns : List Int} {i : Nat} {st0 : S} (e0 : st0[i]? = some (.src (ns.map D.int))) (k : Nat) (hk : k < 64) : ∃ j st', d__law_pool [.loc i, .int k] st0 = .ok (.loc j) st' ∧ Jar j st' ∧ Gr st0 st' ∧ st0.length ≤ j := by
  have h0 : itemsAt st0 i = some (ns.map D.int) := items_src e0
  -- the cell
  obtain ⟨c, st1, g1, z1⟩ : ∃ c st1, Gr st0 st1 ∧ sIf (tOf (e2 dLt (eVar 1) (eCall dLen (aCons (eVar 0) aNil)))) (sSet 2 (e2 dIx (eVar 0) (eVar 1))) (sIf (tOf (e2 dNe (eVar 0) (eLst aNil))) (sSet 2 (e2 dIx (eVar 0) (eC (.int 0)))) sSkip) [some (.loc i), some (.int k), some (.int 0), none, none] st0 = .nx [some (.loc i), some (.int k), some (.int c), none, none] st1 := by
    have q1 : dLen [.loc i] st0 = .ok (.int (ns.map D.int).length) st0 := l_lenl h0
    by_cases hkl : k < ns.length
    · have q2 : dIx (.loc i) (.int k) st0 = .ok (.int ns[k]) st0 := by
        have hh : atI (ns.map D.int) (k : Int) = some (.int ns[k]) := by
          rw [atI_nat _ _ (by rw [List.length_map]; exact hkl)]
          simp [hkl]
        unfold dIx
        simp only [h0, hh]
      refine ⟨ns[k], st0, Gr.refl _, x_ift (b := decide ((k : Int) < (ns.map D.int).length)) (st' := st0) ?_ (by simp <;> omega) (x_set (ρ := [some (.loc i), some (.int k), some (.int 0), none, none]) ?_)⟩
      · (repeat' first | with_reducible assumption | ((with_reducible apply x_var); rfl) | with_reducible exact x_c | with_reducible exact x_nil | with_reducible exact x_skip | with_reducible apply x_setE | exact SetTo.mk rfl | with_reducible apply x_exprE | exact EnvEq.mk rfl | with_reducible apply x_ret | with_reducible apply x_cons | with_reducible apply x_2 | with_reducible apply x_1 | with_reducible apply x_call | with_reducible apply x_fn | with_reducible apply x_tof | with_reducible apply x_tnot | with_reducible apply x_sl | with_reducible apply x_os | with_reducible apply x_tup | with_reducible apply x_lst | with_reducible apply x_sub | with_reducible exact x_on | with_reducible exact l_add | with_reducible exact l_sub | with_reducible exact l_neg | with_reducible exact l_lt | with_reducible exact l_le | with_reducible exact l_gt | with_reducible exact l_ge | with_reducible exact l_lent | with_reducible exact l_inti | with_reducible exact l_intb | with_reducible exact l_tup | with_reducible exact l_slt | with_reducible exact dEq_int _ _ _ | with_reducible exact dNe_int _ _ _ | with_reducible exact dEq_str _ _ _ | with_reducible exact dNe_str _ _ _ | exact Nat.le_of_ble_eq_true rfl)
      · (repeat' first | with_reducible assumption | ((with_reducible apply x_var); rfl) | with_reducible exact x_c | with_reducible exact x_nil | with_reducible exact x_skip | with_reducible apply x_setE | exact SetTo.mk rfl | with_reducible apply x_exprE | exact EnvEq.mk rfl | with_reducible apply x_ret | with_reducible apply x_cons | with_reducible apply x_2 | with_reducible apply x_1 | with_reducible apply x_call | with_reducible apply x_fn | with_reducible apply x_tof | with_reducible apply x_tnot | with_reducible apply x_sl | with_reducible apply x_os | with_reducible apply x_tup | with_reducible apply x_lst | with_reducible apply x_sub | with_reducible exact x_on | with_reducible exact l_add | with_reducible exact l_sub | with_reducible exact l_neg | with_reducible exact l_lt | with_reducible exact l_le | with_reducible exact l_gt | with_reducible exact l_ge | with_reducible exact l_lent | with_reducible exact l_inti | with_reducible exact l_intb | with_reducible exact l_tup | with_reducible exact l_slt | with_reducible exact dEq_int _ _ _ | with_reducible exact dNe_int _ _ _ | with_reducible exact dEq_str _ _ _ | with_reducible exact dNe_str _ _ _ | exact Nat.le_of_ble_eq_true rfl)
    · cases hn : ns with
      | nil =>
        subst hn
        have q2 := ne_src [] (st0 ++ [.lst []]) i st0.length ((Gr.app st0 _).items h0) (items_of (at_new _ _))
        refine ⟨0, st0 ++ [.lst []], Gr.app _ _, x_iff (b := decide ((k : Int) < (([] : List Int).map D.int).length)) (st' := st0) ?_ (by simp <;> omega) (x_iff (b := !decide (([] : List Int) = [])) (st' := st0 ++ [.lst []]) ?_ rfl x_skip)⟩
        · (repeat' first | with_reducible assumption | ((with_reducible apply x_var); rfl) | with_reducible exact x_c | with_reducible exact x_nil | with_reducible exact x_skip | with_reducible apply x_setE | exact SetTo.mk rfl | with_reducible apply x_exprE | exact EnvEq.mk rfl | with_reducible apply x_ret | with_reducible apply x_cons | with_reducible apply x_2 | with_reducible apply x_1 | with_reducible apply x_call | with_reducible apply x_fn | with_reducible apply x_tof | with_reducible apply x_tnot | with_reducible apply x_sl | with_reducible apply x_os | with_reducible apply x_tup | with_reducible apply x_lst | with_reducible apply x_sub | with_reducible exact x_on | with_reducible exact l_add | with_reducible exact l_sub | with_reducible exact l_neg | with_reducible exact l_lt | with_reducible exact l_le | with_reducible exact l_gt | with_reducible exact l_ge | with_reducible exact l_lent | with_reducible exact l_inti | with_reducible exact l_intb | with_reducible exact l_tup | with_reducible exact l_slt | with_reducible exact dEq_int _ _ _ | with_reducible exact dNe_int _ _ _ | with_reducible exact dEq_str _ _ _ | with_reducible exact dNe_str _ _ _ | exact Nat.le_of_ble_eq_true rfl)
        · refine x_tof (x_2 (x_var rfl) (x_lst x_nil (by decide)) ?_)
          exact q2
      | cons z ms =>
        subst hn
        have h1 := (Gr.app st0 [O.lst []]).items h0
        have q2 := ne_src (z :: ms) (st0 ++ [.lst []]) i st0.length h1 (items_of (at_new _ _))
        have q3 : dIx (.loc i) (.int 0) (st0 ++ [.lst []]) = .ok (.int z) (st0 ++ [.lst []]) := by
          have hh : atI ((z :: ms).map D.int) 0 = some (.int z) := by
            have h := atI_nat ((z :: ms).map D.int) 0 (by simp)
            simpa using h
          unfold dIx
          simp only [h1, hh]
        refine ⟨z, st0 ++ [.lst []], Gr.app _ _, x_iff (b := decide ((k : Int) < ((z :: ms).map D.int).length)) (st' := st0) ?_ (by simp only [List.length_map, decide_eq_false_iff_not]; omega) (x_ift (b := !decide ((z :: ms) = [])) (st' := st0 ++ [.lst []]) ?_ (by simp) (x_set (ρ := [some (.loc i), some (.int k), some (.int 0), none, none]) ?_))⟩
        · (repeat' first | with_reducible assumption | ((with_reducible apply x_var); rfl) | with_reducible exact x_c | with_reducible exact x_nil | with_reducible exact x_skip | with_reducible apply x_setE | exact SetTo.mk rfl | with_reducible apply x_exprE | exact EnvEq.mk rfl | with_reducible apply x_ret | with_reducible apply x_cons | with_reducible apply x_2 | with_reducible apply x_1 | with_reducible apply x_call | with_reducible apply x_fn | with_reducible apply x_tof | with_reducible apply x_tnot | with_reducible apply x_sl | with_reducible apply x_os | with_reducible apply x_tup | with_reducible apply x_lst | with_reducible apply x_sub | with_reducible exact x_on | with_reducible exact l_add | with_reducible exact l_sub | with_reducible exact l_neg | with_reducible exact l_lt | with_reducible exact l_le | with_reducible exact l_gt | with_reducible exact l_ge | with_reducible exact l_lent | with_reducible exact l_inti | with_reducible exact l_intb | with_reducible exact l_tup | with_reducible exact l_slt | with_reducible exact dEq_int _ _ _ | with_reducible exact dNe_int _ _ _ | with_reducible exact dEq_str _ _ _ | with_reducible exact dNe_str _ _ _ | exact Nat.le_of_ble_eq_true rfl)
        · refine x_tof (x_2 (x_var rfl) (x_lst x_nil (by decide)) ?_)
          exact q2
        · (repeat' first | with_reducible assumption | ((with_reducible apply x_var); rfl) | with_reducible exact x_c | with_reducible exact x_nil | with_reducible exact x_skip | with_reducible apply x_setE | exact SetTo.mk rfl | with_reducible apply x_exprE | exact EnvEq.mk rfl | with_reducible apply x_ret | with_reducible apply x_cons | with_reducible apply x_2 | with_reducible apply x_1 | with_reducible apply x_call | with_reducible apply x_fn | with_reducible apply x_tof | with_reducible apply x_tnot | with_reducible apply x_sl | with_reducible apply x_os | with_reducible apply x_tup | with_reducible apply x_lst | with_reducible apply x_sub | with_reducible exact x_on | with_reducible exact l_add | with_reducible exact l_sub | with_reducible exact l_neg | with_reducible exact l_lt | with_reducible exact l_le | with_reducible exact l_gt | with_reducible exact l_ge | with_reducible exact l_lent | with_reducible exact l_inti | with_reducible exact l_intb | with_reducible exact l_tup | with_reducible exact l_slt | with_reducible exact dEq_int _ _ _ | with_reducible exact dNe_int _ _ _ | with_reducible exact dEq_str _ _ _ | with_reducible exact dNe_str _ _ _ | exact Nat.le_of_ble_eq_true rfl)
  have h1 := g1.items h0
  let big : Int := if -1 - c > c then -1 - c else c
  have hb : 0 ≤ big := by
    show 0 ≤ (if -1 - c > c then -1 - c else c)
    split <;> omega
  have q1 := l_max c (-1 - c) st1
  have q1' : dMax [.int c, .int (-1 - c)] st1 = .ok (.int big) st1 := q1
  have z2 : sSet 3 (eCall dMax (aCons (eCall dIntS (aCons (eVar 2) aNil)) (aCons (eCall dIntS (aCons (e2 dSub (e1 dNeg (eC (.int 1))) (eVar 2)) aNil)) aNil))) [some (.loc i), some (.int k), some (.int c), none, none] st1 = .nx [some (.loc i), some (.int k), some (.int c), some (.int big), none] st1 := by
    refine x_set ?_
    (repeat' first | with_reducible assumption | ((with_reducible apply x_var); rfl) | with_reducible exact x_c | with_reducible exact x_nil | with_reducible exact x_skip | with_reducible apply x_setE | exact SetTo.mk rfl | with_reducible apply x_exprE | exact EnvEq.mk rfl | with_reducible apply x_ret | with_reducible apply x_cons | with_reducible apply x_2 | with_reducible apply x_1 | with_reducible apply x_call | with_reducible apply x_fn | with_reducible apply x_tof | with_reducible apply x_tnot | with_reducible apply x_sl | with_reducible apply x_os | with_reducible apply x_tup | with_reducible apply x_lst | with_reducible apply x_sub | with_reducible exact x_on | with_reducible exact l_add | with_reducible exact l_sub | with_reducible exact l_neg | with_reducible exact l_lt | with_reducible exact l_le | with_reducible exact l_gt | with_reducible exact l_ge | with_reducible exact l_lent | with_reducible exact l_inti | with_reducible exact l_intb | with_reducible exact l_tup | with_reducible exact l_slt | with_reducible exact dEq_int _ _ _ | with_reducible exact dNe_int _ _ _ | with_reducible exact dEq_str _ _ _ | with_reducible exact dNe_str _ _ _ | exact Nat.le_of_ble_eq_true rfl)
  let mx : Int := (big % 2147483629 + 7919 * k * k + 31 * k + 17) * 48271 % 2147483647
  have hkk : (0 : Int) ≤ 7919 * k ∧ (7919 * k : Int) < 507000 := by omega
  have q2 := @l_mod big 2147483629 st1 (by decide)
  have hm := Int.emod_lt_of_pos big (show (0 : Int) < 2147483629 by decide)
  have hm0 := Int.emod_nonneg big (show (2147483629 : Int) ≠ 0 by decide)
  have q3 := @l_mulW 7919 k st1 (cMul_r (by omega) (by omega))
  have q4 := @l_mulW (7919 * k) k st1 (cMul_r (by omega) (by omega))
  have q5 := @l_mulW 31 k st1 (cMul_r (by omega) (by omega))
  have q6 := @l_mulW (big % 2147483629 + 7919 * k * k + 31 * k + 17) 48271 st1 (cMul_r (by decide) (by decide))
  have q7 : dMod (.int ((big % 2147483629 + 7919 * k * k + 31 * k + 17) * 48271)) (.int 2147483647) st1 = .ok (.int mx) st1 := l_mod (by decide)
  have z3 : sSet 4 (e2 dMod (eCall dIntS (aCons (e2 dMulW (e2 dAdd (e2 dAdd (e2 dAdd (e2 dMod (eCall dIntS (aCons (eVar 3) aNil)) (eC (.int 2147483629))) (e2 dMulW (e2 dMulW (eC (.int 7919)) (eVar 1)) (eVar 1))) (e2 dMulW (eC (.int 31)) (eVar 1))) (eC (.int 17))) (eC (.int 48271))) aNil)) (eC (.int 2147483647))) [some (.loc i), some (.int k), some (.int c), some (.int big), none] st1 = .nx [some (.loc i), some (.int k), some (.int c), some (.int big), some (.int mx)] st1 := by
    refine x_set ?_
    (repeat' first | with_reducible assumption | ((with_reducible apply x_var); rfl) | with_reducible exact x_c | with_reducible exact x_nil | with_reducible exact x_skip | with_reducible apply x_setE | exact SetTo.mk rfl | with_reducible apply x_exprE | exact EnvEq.mk rfl | with_reducible apply x_ret | with_reducible apply x_cons | with_reducible apply x_2 | with_reducible apply x_1 | with_reducible apply x_call | with_reducible apply x_fn | with_reducible apply x_tof | with_reducible apply x_tnot | with_reducible apply x_sl | with_reducible apply x_os | with_reducible apply x_tup | with_reducible apply x_lst | with_reducible apply x_sub | with_reducible exact x_on | with_reducible exact l_add | with_reducible exact l_sub | with_reducible exact l_neg | with_reducible exact l_lt | with_reducible exact l_le | with_reducible exact l_gt | with_reducible exact l_ge | with_reducible exact l_lent | with_reducible exact l_inti | with_reducible exact l_intb | with_reducible exact l_tup | with_reducible exact l_slt | with_reducible exact dEq_int _ _ _ | with_reducible exact dNe_int _ _ _ | with_reducible exact dEq_str _ _ _ | with_reducible exact dNe_str _ _ _ | exact Nat.le_of_ble_eq_true rfl)
  have q8 := pow18 st1
  have q9 : dLen [.loc i] st1 = .ok (.int (ns.map D.int).length) st1 := l_lenl h1
  obtain ⟨bb, e9⟩ : ∃ bb, eAnd (e2 dGe (eVar 3) (e2 dPow (eC (.int 10)) (eC (.int 18)))) (e2 dLt (eVar 1) (eCall dLen (aCons (eVar 0) aNil))) [some (.loc i), some (.int k), some (.int c), some (.int big), some (.int mx)] st1 = .ok (.bl bb) st1 := by
    refine ⟨decide ((1000000000000000000 : Int) ≤ big) && decide ((k : Int) < (ns.map D.int).length), x_and2 ?_ ?_⟩
    · (repeat' first | with_reducible assumption | ((with_reducible apply x_var); rfl) | with_reducible exact x_c | with_reducible exact x_nil | with_reducible exact x_skip | with_reducible apply x_setE | exact SetTo.mk rfl | with_reducible apply x_exprE | exact EnvEq.mk rfl | with_reducible apply x_ret | with_reducible apply x_cons | with_reducible apply x_2 | with_reducible apply x_1 | with_reducible apply x_call | with_reducible apply x_fn | with_reducible apply x_tof | with_reducible apply x_tnot | with_reducible apply x_sl | with_reducible apply x_os | with_reducible apply x_tup | with_reducible apply x_lst | with_reducible apply x_sub | with_reducible exact x_on | with_reducible exact l_add | with_reducible exact l_sub | with_reducible exact l_neg | with_reducible exact l_lt | with_reducible exact l_le | with_reducible exact l_gt | with_reducible exact l_ge | with_reducible exact l_lent | with_reducible exact l_inti | with_reducible exact l_intb | with_reducible exact l_tup | with_reducible exact l_slt | with_reducible exact dEq_int _ _ _ | with_reducible exact dNe_int _ _ _ | with_reducible exact dEq_str _ _ _ | with_reducible exact dNe_str _ _ _ | exact Nat.le_of_ble_eq_true rfl)
    · (repeat' first | with_reducible assumption | ((with_reducible apply x_var); rfl) | with_reducible exact x_c | with_reducible exact x_nil | with_reducible exact x_skip | with_reducible apply x_setE | exact SetTo.mk rfl | with_reducible apply x_exprE | exact EnvEq.mk rfl | with_reducible apply x_ret | with_reducible apply x_cons | with_reducible apply x_2 | with_reducible apply x_1 | with_reducible apply x_call | with_reducible apply x_fn | with_reducible apply x_tof | with_reducible apply x_tnot | with_reducible apply x_sl | with_reducible apply x_os | with_reducible apply x_tup | with_reducible apply x_lst | with_reducible apply x_sub | with_reducible exact x_on | with_reducible exact l_add | with_reducible exact l_sub | with_reducible exact l_neg | with_reducible exact l_lt | with_reducible exact l_le | with_reducible exact l_gt | with_reducible exact l_ge | with_reducible exact l_lent | with_reducible exact l_inti | with_reducible exact l_intb | with_reducible exact l_tup | with_reducible exact l_slt | with_reducible exact dEq_int _ _ _ | with_reducible exact dNe_int _ _ _ | with_reducible exact dEq_str _ _ _ | with_reducible exact dNe_str _ _ _ | exact Nat.le_of_ble_eq_true rfl)
  have q10 := @l_mulW big (if bb = true then 1 else 0) st1 (cMul_r (by split <;> decide) (by split <;> decide))
  refine ⟨st1.length, st1 ++ [.lst [.int (big * (if bb = true then 1 else 0)), .int mx]], x_body (x_seq (ρ' := [some (.loc i), some (.int k), some (.int 0), none, none]) (st' := st0) (x_set x_c) (x_seq z1 (x_seq z2 (x_seq z3 (x_ret (x_lst ?_ (by simp only [List.length_cons, List.length_nil]; decide))))))), ⟨_, _, ?_, at_new _ _⟩, g1.trans (Gr.app _ _), g1.le⟩
  · (repeat' first | with_reducible assumption | ((with_reducible apply x_var); rfl) | with_reducible exact x_c | with_reducible exact x_nil | with_reducible exact x_skip | with_reducible apply x_setE | exact SetTo.mk rfl | with_reducible apply x_exprE | exact EnvEq.mk rfl | with_reducible apply x_ret | with_reducible apply x_cons | with_reducible apply x_2 | with_reducible apply x_1 | with_reducible apply x_call | with_reducible apply x_fn | with_reducible apply x_tof | with_reducible apply x_tnot | with_reducible apply x_sl | with_reducible apply x_os | with_reducible apply x_tup | with_reducible apply x_lst | with_reducible apply x_sub | with_reducible exact x_on | with_reducible exact l_add | with_reducible exact l_sub | with_reducible exact l_neg | with_reducible exact l_lt | with_reducible exact l_le | with_reducible exact l_gt | with_reducible exact l_ge | with_reducible exact l_lent | with_reducible exact l_inti | with_reducible exact l_intb | with_reducible exact l_tup | with_reducible exact l_slt | with_reducible exact dEq_int _ _ _ | with_reducible exact dNe_int _ _ _ | with_reducible exact dEq_str _ _ _ | with_reducible exact dNe_str _ _ _ | exact Nat.le_of_ble_eq_true rfl)
  · split
    · omega
    · omega

def p__law_take : PF := fun ts Q X => ∃ top, ts = [.jar, .int top] ∧ 0 < top ∧ top.natAbs.log2 < 9000 ∧ ∀ d, 0 ≤ d → d < top → Q (.int d)
def p__law_pool : PF := fun ts Q X => ∃ (ns : List Int) (k : Nat), ts = [.src (ns.map .int), .int k] ∧ k < 64 ∧ Q .jar
theorem den_ns {st : S} {J A : Nst} : ∀ {xs : List D} {ns : List Int}, DenL st J A xs (ns.map T.int) → xs = ns.map D.int
  | _, [], h => by cases h; rfl
  | _, n :: ns, h => by
    rw [List.map_cons] at h
    cases h with
    | cons h1 h2 => cases h1; rw [den_ns h2]; rfl
theorem sim__law_take : FnS false d__law_take p__law_take := by
  constructor
  rintro st J C n0 xs ts Q X hj hc hn hd ⟨top, rfl, h1, h2, h3⟩
  obtain ⟨x, ys, rfl, hx, hys⟩ : ∃ x ys, xs = x :: ys ∧ Den st J C x .jar ∧ DenL st J C ys [.int top] := by cases hd; exact ⟨_, _, rfl, ‹_›, ‹_›⟩
  obtain ⟨y, rfl, hy⟩ := cs1 hys
  cases hy
  cases hx with
  | @jar k hJ =>
    obtain ⟨d, st', e, h4, h5, ev⟩ := take_of (hj k hJ) h1 h2
    rw [e]
    refine ⟨J, .int d, ⟨ev.le, fun q z => (hj q z).lt', fun _ _ => Iff.rfl, fun q hq hJq _ => ev.get q hq (fun z => hJq (z ▸ hJ)), fun q z => ?_⟩, .int d, (fun z => (by cases z)), h3 d h4 h5⟩
    by_cases hq : q = k
    · subst hq
      exact ev.jar
    · obtain ⟨a, b, h0, e⟩ := hj q z
      exact ⟨a, b, h0, (ev.get q (hj q z).lt' hq).trans e⟩
theorem sim__law_pool : FnS false d__law_pool p__law_pool := by
  constructor
  rintro st J C n0 xs ts Q X hj hc hn hd ⟨ns, k, rfl, h1, h3⟩
  obtain ⟨x, ys, rfl, hx, hys⟩ : ∃ x ys, xs = x :: ys ∧ Den st J C x (.src (ns.map .int)) ∧ DenL st J C ys [.int k] := by cases hd; exact ⟨_, _, rfl, ‹_›, ‹_›⟩
  obtain ⟨y, rfl, hy⟩ := cs1 hys
  cases hy
  cases hx with
  | @src i xs _ a1 a2 a3 a4 =>
    rw [den_ns a4] at a3
    obtain ⟨j, st', e, jar, g, hjl⟩ := pool_of a3 k h1
    rw [e]
    refine ⟨fun q => J q ∨ q = j, .jar, ⟨g.le, fun q z => (hj q z).lt', fun q hq => ⟨fun z => z.elim (fun z => z) (fun z => by omega), .inl⟩, fun q hq _ _ => g.get q hq, fun q z => ?_⟩, .jar (.inr rfl), (fun z => (by cases z)), h3⟩
    rcases z with z | z
    · obtain ⟨a, b, h0, e⟩ := hj q z
      exact ⟨a, b, h0, (g.get q (hj q z).lt').trans e⟩
    · subst z
      exact jar
end Rol.G

namespace Rol.G
open PySem L2 PySem.Spec Rol
open PyProof.Rows hiding St
noncomputable def v_is_number : VS := (wRet (vAnd (vCall tIsi (vaCons (vVar 0) (vaCons (vC (.opq (.ty "int"))) vaNil))) (vNot (vCall tIsi (vaCons (vVar 0) (vaCons (vC (.opq (.ty "bool"))) vaNil))))))
noncomputable def p_is_number : PF := pf false 1 1 v_is_number
theorem e_is_number : p_is_number = pf false 1 1 (wRet (vAnd (vCall tIsi (vaCons (vVar 0) (vaCons (vC (.opq (.ty "int"))) vaNil))) (vNot (vCall tIsi (vaCons (vVar 0) (vaCons (vC (.opq (.ty "bool"))) vaNil)))))) := Eq.trans rfl rfl
theorem sim_is_number : FnS false d_is_number p_is_number := fn_S (fs := false) (MS := []) (n := 1) (m := m_is_number) (v := v_is_number) (np := 1) (
  (z_ret (u := false) (c := false) (s_and (s_call o_isi (s_cons (s_var 0) (s_cons (s_c (.opq _)) s_nil))) (s_not (s_call o_isi (s_cons (s_var 0) (s_cons (s_c (.opq _)) s_nil)))))))
noncomputable def v_is_many : VS := (wRet (vAnd (vFn p_is_number (vaCons (vVar 0) vaNil)) (vChain tLeA tLeA (vC (.int 1)) (vVar 0) (vC (.int 6)))))
noncomputable def p_is_many : PF := pf false 1 1 v_is_many
theorem e_is_many : p_is_many = pf false 1 1 (wRet (vAnd (vFn p_is_number (vaCons (vVar 0) vaNil)) (vChain tLeA tLeA (vC (.int 1)) (vVar 0) (vC (.int 6))))) := Eq.trans rfl rfl
theorem sim_is_many : FnS false d_is_many p_is_many := fn_S (fs := false) (MS := []) (n := 1) (m := m_is_many) (v := v_is_many) (np := 1) (
  (z_ret (u := false) (c := false) (s_and (s_fn sim_is_number (s_cons (s_var 0) s_nil)) (s_chain o_leA o_leA (s_c (.int 1)) (s_var 0) (s_c (.int 6))))))
noncomputable def v_ask_many : VS := (wIf (vtNot (vtOf (vFn p_is_many (vaCons (vVar 0) vaNil)))) (wRaise "BadMany" (vVar 0)) wSkip)
noncomputable def p_ask_many : PF := pf false 1 1 v_ask_many
theorem e_ask_many : p_ask_many = pf false 1 1 (wIf (vtNot (vtOf (vFn p_is_many (vaCons (vVar 0) vaNil)))) (wRaise "BadMany" (vVar 0)) wSkip) := Eq.trans rfl rfl
theorem sim_ask_many : FnS false d_ask_many p_ask_many := fn_S (fs := false) (MS := []) (n := 1) (m := m_ask_many) (v := v_ask_many) (np := 1) (
  (z_if (u := false) (c := false) (s_tnot (s_tof (s_fn sim_is_many (s_cons (s_var 0) s_nil)))) (z_raise (u := false) (c := false) (s_var 0)) z_skip))
noncomputable def v_row_fault : VS := (wSeq (wIf (vtOr (vtNot (vtOf (vCall tIsi (vaCons (vVar 1) (vaCons (vC (.opq (.ty "tuple"))) vaNil))))) (vtOf (v2 tNe (vCall tLen (vaCons (vVar 1) vaNil)) (vVar 0)))) (wRet (v1 tNeg (vC (.int 1)))) wSkip) (wSeq (wFor (viEnum (vaCons (vVar 1) vaNil)) (.tp [(.nm 2), (.nm 3)]) (wIf (vtOr (vtNot (vtOf (vFn p_is_number (vaCons (vVar 3) vaNil)))) (vtOf (v2 (tIn true) (vVar 3) (vC (.tup [(.int (-1)), (.int 0), (.int 1)]))))) (wRet (vVar 2)) wSkip)) (wRet (vC .non))))
noncomputable def p_row_fault : PF := pf false 2 4 v_row_fault
theorem e_row_fault : p_row_fault = pf false 2 4 (wSeq (wIf (vtOr (vtNot (vtOf (vCall tIsi (vaCons (vVar 1) (vaCons (vC (.opq (.ty "tuple"))) vaNil))))) (vtOf (v2 tNe (vCall tLen (vaCons (vVar 1) vaNil)) (vVar 0)))) (wRet (v1 tNeg (vC (.int 1)))) wSkip) (wSeq (wFor (viEnum (vaCons (vVar 1) vaNil)) (.tp [(.nm 2), (.nm 3)]) (wIf (vtOr (vtNot (vtOf (vFn p_is_number (vaCons (vVar 3) vaNil)))) (vtOf (v2 (tIn true) (vVar 3) (vC (.tup [(.int (-1)), (.int 0), (.int 1)]))))) (wRet (vVar 2)) wSkip)) (wRet (vC .non)))) := Eq.trans rfl rfl
theorem sim_row_fault : FnS false d_row_fault p_row_fault := fn_S (fs := false) (MS := []) (n := 4) (m := m_row_fault) (v := v_row_fault) (np := 2) (
  (z_seq (z_if (u := false) (c := false) (s_tor (s_tnot (s_tof (s_call o_isi (s_cons (s_var 1) (s_cons (s_c (.opq _)) s_nil))))) (s_tof (s_2 o_ne (s_call o_len (s_cons (s_var 1) s_nil)) (s_var 0)))) (z_ret (u := false) (c := false) (s_1 o_neg (s_c (.int 1)))) z_skip) (z_seq (z_for (u := false) (i_enum (s_cons (s_var 1) s_nil)) (z_if (u := false) (c := false) (s_tor (s_tnot (s_tof (s_fn sim_is_number (s_cons (s_var 3) s_nil)))) (s_tof (s_2 (o_in true) (s_var 3) (s_c (.tup (.cons (.int (-1)) (.cons (.int 0) (.cons (.int 1) .nil)))))))) (z_ret (u := false) (c := false) (s_var 2)) z_skip)) (z_ret (u := false) (c := false) (s_c .non)))))
noncomputable def v_made_row : VS := (wSeq (wExpr (vFn p_ask_many (vaCons (vVar 0) vaNil))) (wSeq (wSet 2 (vFn p_row_fault (vaCons (vVar 0) (vaCons (vVar 1) vaNil)))) (wSeq (wIf (vtOf (v2 tNotN (vVar 2) (vC .non))) (wRaise "BadRow" (vVar 2)) wSkip) (wRet (vVar 1)))))
noncomputable def p_made_row : PF := pf false 2 3 v_made_row
theorem e_made_row : p_made_row = pf false 2 3 (wSeq (wExpr (vFn p_ask_many (vaCons (vVar 0) vaNil))) (wSeq (wSet 2 (vFn p_row_fault (vaCons (vVar 0) (vaCons (vVar 1) vaNil)))) (wSeq (wIf (vtOf (v2 tNotN (vVar 2) (vC .non))) (wRaise "BadRow" (vVar 2)) wSkip) (wRet (vVar 1))))) := Eq.trans rfl rfl
theorem sim_made_row : FnS false d_made_row p_made_row := fn_S (fs := false) (MS := []) (n := 3) (m := m_made_row) (v := v_made_row) (np := 2) (
  (z_seq (z_expr (u := false) (c := false) (s_fn sim_ask_many (s_cons (s_var 0) s_nil))) (z_seq (z_set (u := false) (i := 2) (s_fn sim_row_fault (s_cons (s_var 0) (s_cons (s_var 1) s_nil)))) (z_seq (z_if (u := false) (c := false) (s_tof (s_2 o_notN (s_var 2) (s_c .non))) (z_raise (u := false) (c := false) (s_var 2)) z_skip) (z_ret (u := false) (c := false) (s_var 1))))))
noncomputable def v_made_rows : VS := (wSeq (wExpr (vFn p_ask_many (vaCons (vVar 0) vaNil))) (wSeq (wIf (vtOr (vtNot (vtOf (vCall tIsi (vaCons (vVar 1) (vaCons (vC (.opq (.ty "tuple"))) vaNil))))) (vtNot (vtOf (vChain tLeA tLeA (vC (.int 1)) (vCall tLen (vaCons (vVar 1) vaNil)) (vC (.int 14)))))) (wRaise "BadRows" (v1 tNeg (vC (.int 1)))) wSkip) (wSeq (wFor (viEnum (vaCons (vVar 1) vaNil)) (.tp [(.nm 2), (.nm 3)]) (wIf (vtOf (v2 tNotN (vFn p_row_fault (vaCons (vVar 0) (vaCons (vVar 3) vaNil))) (vC .non))) (wRaise "BadRows" (vVar 2)) wSkip)) (wRet (vVar 1)))))
noncomputable def p_made_rows : PF := pf false 2 4 v_made_rows
theorem e_made_rows : p_made_rows = pf false 2 4 (wSeq (wExpr (vFn p_ask_many (vaCons (vVar 0) vaNil))) (wSeq (wIf (vtOr (vtNot (vtOf (vCall tIsi (vaCons (vVar 1) (vaCons (vC (.opq (.ty "tuple"))) vaNil))))) (vtNot (vtOf (vChain tLeA tLeA (vC (.int 1)) (vCall tLen (vaCons (vVar 1) vaNil)) (vC (.int 14)))))) (wRaise "BadRows" (v1 tNeg (vC (.int 1)))) wSkip) (wSeq (wFor (viEnum (vaCons (vVar 1) vaNil)) (.tp [(.nm 2), (.nm 3)]) (wIf (vtOf (v2 tNotN (vFn p_row_fault (vaCons (vVar 0) (vaCons (vVar 3) vaNil))) (vC .non))) (wRaise "BadRows" (vVar 2)) wSkip)) (wRet (vVar 1))))) := Eq.trans rfl rfl
theorem sim_made_rows : FnS false d_made_rows p_made_rows := fn_S (fs := false) (MS := []) (n := 4) (m := m_made_rows) (v := v_made_rows) (np := 2) (
  (z_seq (z_expr (u := false) (c := false) (s_fn sim_ask_many (s_cons (s_var 0) s_nil))) (z_seq (z_if (u := false) (c := false) (s_tor (s_tnot (s_tof (s_call o_isi (s_cons (s_var 1) (s_cons (s_c (.opq _)) s_nil))))) (s_tnot (s_tof (s_chain o_leA o_leA (s_c (.int 1)) (s_call o_len (s_cons (s_var 1) s_nil)) (s_c (.int 14)))))) (z_raise (u := false) (c := false) (s_1 o_neg (s_c (.int 1)))) z_skip) (z_seq (z_for (u := false) (i_enum (s_cons (s_var 1) s_nil)) (z_if (u := false) (c := false) (s_tof (s_2 o_notN (s_fn sim_row_fault (s_cons (s_var 0) (s_cons (s_var 3) s_nil))) (s_c .non))) (z_raise (u := false) (c := false) (s_var 2)) z_skip)) (z_ret (u := false) (c := false) (s_var 1))))))
noncomputable def v_marks_of : VS := (wSeq (wSet 1 (vC (.int 0))) (wSeq (wFor (viEnum (vaCons (vVar 0) vaNil)) (.tp [(.nm 2), (.nm 3)]) (wSet 1 (v2 tOr (vVar 1) (v2 tShl (v1 (tWGet [(.inl  0, (.int 0)), (.inl  1, (.int 1)), (.inl  (-1), (.int 2))]) (vVar 3)) (v2 tMulW (vC (.int 2)) (vVar 2)))))) (wRet (vVar 1))))
noncomputable def p_marks_of : PF := pf false 1 4 v_marks_of
theorem e_marks_of : p_marks_of = pf false 1 4 (wSeq (wSet 1 (vC (.int 0))) (wSeq (wFor (viEnum (vaCons (vVar 0) vaNil)) (.tp [(.nm 2), (.nm 3)]) (wSet 1 (v2 tOr (vVar 1) (v2 tShl (v1 (tWGet [(.inl  0, (.int 0)), (.inl  1, (.int 1)), (.inl  (-1), (.int 2))]) (vVar 3)) (v2 tMulW (vC (.int 2)) (vVar 2)))))) (wRet (vVar 1)))) := Eq.trans rfl rfl
theorem sim_marks_of : FnS false d_marks_of p_marks_of := fn_S (fs := false) (MS := []) (n := 4) (m := m_marks_of) (v := v_marks_of) (np := 1) (
  (z_seq (z_set (u := false) (i := 1) (s_c (.int 0))) (z_seq (z_for (u := false) (i_enum (s_cons (s_var 0) s_nil)) (z_set (u := false) (i := 1) (s_2 o_or (s_var 1) (s_2 o_shl (s_1 (o_wget (.cons (.int 0) (.cons (.int 1) (.cons (.int 2) .nil)))) (s_var 3)) (s_2 o_mulW (s_c (.int 2)) (s_var 2)))))) (z_ret (u := false) (c := false) (s_var 1)))))
noncomputable def v_marks_lead : VS := (wSeq (wFor (viEnum (vaCons (vVar 1) vaNil)) (.tp [(.nm 2), (.nm 3)]) (wSeq (wSet 4 (v2 tAnd (v2 tShr (vVar 0) (v2 tMulW (vC (.int 2)) (vVar 2))) (vC (.int 3)))) (wSeq (wIf (vtAnd (vtOf (v2 tEq (vVar 3) (vC (.int 0)))) (vtOf (v2 (tIn true) (vVar 4) (vTup (vaCons (vC (.int 0)) (vaCons (vC (.int 3)) vaNil)))))) (wRet (vC (.bl false))) wSkip) (wIf (vtAnd (vtOf (v2 tNe (vVar 3) (vC (.int 0)))) (vtOf (v2 tEq (v2 tAnd (vVar 4) (v1 (tWGet [(.inl  0, (.int 0)), (.inl  1, (.int 1)), (.inl  (-1), (.int 2))]) (vVar 3))) (vC (.int 0))))) (wRet (vC (.bl false))) wSkip)))) (wRet (vC (.bl true))))
noncomputable def p_marks_lead : PF := pf false 2 5 v_marks_lead
theorem e_marks_lead : p_marks_lead = pf false 2 5 (wSeq (wFor (viEnum (vaCons (vVar 1) vaNil)) (.tp [(.nm 2), (.nm 3)]) (wSeq (wSet 4 (v2 tAnd (v2 tShr (vVar 0) (v2 tMulW (vC (.int 2)) (vVar 2))) (vC (.int 3)))) (wSeq (wIf (vtAnd (vtOf (v2 tEq (vVar 3) (vC (.int 0)))) (vtOf (v2 (tIn true) (vVar 4) (vTup (vaCons (vC (.int 0)) (vaCons (vC (.int 3)) vaNil)))))) (wRet (vC (.bl false))) wSkip) (wIf (vtAnd (vtOf (v2 tNe (vVar 3) (vC (.int 0)))) (vtOf (v2 tEq (v2 tAnd (vVar 4) (v1 (tWGet [(.inl  0, (.int 0)), (.inl  1, (.int 1)), (.inl  (-1), (.int 2))]) (vVar 3))) (vC (.int 0))))) (wRet (vC (.bl false))) wSkip)))) (wRet (vC (.bl true)))) := Eq.trans rfl rfl
theorem sim_marks_lead : FnS false d_marks_lead p_marks_lead := fn_S (fs := false) (MS := []) (n := 5) (m := m_marks_lead) (v := v_marks_lead) (np := 2) (
  (z_seq (z_for (u := false) (i_enum (s_cons (s_var 1) s_nil)) (z_seq (z_set (u := false) (i := 4) (s_2 o_and (s_2 o_shr (s_var 0) (s_2 o_mulW (s_c (.int 2)) (s_var 2))) (s_c (.int 3)))) (z_seq (z_if (u := false) (c := false) (s_tand (s_tof (s_2 o_eq (s_var 3) (s_c (.int 0)))) (s_tof (s_2 (o_in true) (s_var 4) (s_tup (s_cons (s_c (.int 0)) (s_cons (s_c (.int 3)) s_nil)))))) (z_ret (u := false) (c := false) (s_c (.bl false))) z_skip) (z_if (u := false) (c := false) (s_tand (s_tof (s_2 o_ne (s_var 3) (s_c (.int 0)))) (s_tof (s_2 o_eq (s_2 o_and (s_var 4) (s_1 (o_wget (.cons (.int 0) (.cons (.int 1) (.cons (.int 2) .nil)))) (s_var 3))) (s_c (.int 0))))) (z_ret (u := false) (c := false) (s_c (.bl false))) z_skip)))) (z_ret (u := false) (c := false) (s_c (.bl true)))))
noncomputable def v_leads : VS := (wSeq (wExpr (vFn p_made_rows (vaCons (vVar 0) (vaCons (vVar 1) vaNil)))) (wSeq (wExpr (vFn p_made_row (vaCons (vVar 0) (vaCons (vVar 2) vaNil)))) (wSeq (wSet 3 (vC (.int 0))) (wSeq (wFor (viSeq (vVar 1)) (.nm 4) (wSet 3 (v2 tOr (vVar 3) (vFn p_marks_of (vaCons (vVar 4) vaNil))))) (wRet (vFn p_marks_lead (vaCons (vVar 3) (vaCons (vVar 2) vaNil))))))))
noncomputable def p_leads : PF := pf false 3 5 v_leads
theorem e_leads : p_leads = pf false 3 5 (wSeq (wExpr (vFn p_made_rows (vaCons (vVar 0) (vaCons (vVar 1) vaNil)))) (wSeq (wExpr (vFn p_made_row (vaCons (vVar 0) (vaCons (vVar 2) vaNil)))) (wSeq (wSet 3 (vC (.int 0))) (wSeq (wFor (viSeq (vVar 1)) (.nm 4) (wSet 3 (v2 tOr (vVar 3) (vFn p_marks_of (vaCons (vVar 4) vaNil))))) (wRet (vFn p_marks_lead (vaCons (vVar 3) (vaCons (vVar 2) vaNil)))))))) := Eq.trans rfl rfl
theorem sim_leads : FnS false d_leads p_leads := fn_S (fs := false) (MS := []) (n := 5) (m := m_leads) (v := v_leads) (np := 3) (
  (z_seq (z_expr (u := false) (c := false) (s_fn sim_made_rows (s_cons (s_var 0) (s_cons (s_var 1) s_nil)))) (z_seq (z_expr (u := false) (c := false) (s_fn sim_made_row (s_cons (s_var 0) (s_cons (s_var 2) s_nil)))) (z_seq (z_set (u := false) (i := 3) (s_c (.int 0))) (z_seq (z_for (u := false) (i_seq (s_var 1)) (z_set (u := false) (i := 3) (s_2 o_or (s_var 3) (s_fn sim_marks_of (s_cons (s_var 4) s_nil))))) (z_ret (u := false) (c := false) (s_fn sim_marks_lead (s_cons (s_var 3) (s_cons (s_var 2) s_nil)))))))))
noncomputable def v__law_one : VS := (wRet (v2 tIx (vVar 1) (vFn p__law_take (vaCons (vVar 0) (vaCons (vCall tLen (vaCons (vVar 1) vaNil)) vaNil)))))
noncomputable def p__law_one : PF := pf false 2 2 v__law_one
theorem e__law_one : p__law_one = pf false 2 2 (wRet (v2 tIx (vVar 1) (vFn p__law_take (vaCons (vVar 0) (vaCons (vCall tLen (vaCons (vVar 1) vaNil)) vaNil))))) := Eq.trans rfl rfl
theorem sim__law_one : FnS false d__law_one p__law_one := fn_S (fs := false) (MS := []) (n := 2) (m := m__law_one) (v := v__law_one) (np := 2) (
  (z_ret (u := false) (c := false) (s_2 o_ix (s_var 1) (s_fn sim__law_take (s_cons (s_var 0) (s_cons (s_call o_len (s_cons (s_var 1) s_nil)) s_nil))))))
noncomputable def v__law_mixed : VS := (wSeq (wParM [2, 3] (vaCons (vCall tList (vaCons (vVar 1) vaNil)) (vaCons (vLst vaNil) vaNil))) (wSeq (wFor (viRg1 (vaCons (vCall tLen (vaCons (vVar 1) vaNil)) vaNil)) (.nm 4) (wApp 3 (vPop 2 (vFn p__law_take (vaCons (vVar 0) (vaCons (vFl (vCall tLen (vaCons (vVar 2) vaNil))) vaNil)))))) (wRet (vVar 3))))
noncomputable def p__law_mixed : PF := pf true 2 5 v__law_mixed
theorem e__law_mixed : p__law_mixed = pf true 2 5 (wSeq (wParM [2, 3] (vaCons (vCall tList (vaCons (vVar 1) vaNil)) (vaCons (vLst vaNil) vaNil))) (wSeq (wFor (viRg1 (vaCons (vCall tLen (vaCons (vVar 1) vaNil)) vaNil)) (.nm 4) (wApp 3 (vPop 2 (vFn p__law_take (vaCons (vVar 0) (vaCons (vFl (vCall tLen (vaCons (vVar 2) vaNil))) vaNil)))))) (wRet (vVar 3)))) := Eq.trans rfl rfl
theorem sim__law_mixed : FnS true d__law_mixed p__law_mixed := fn_S (fs := true) (MS := [2, 3]) (n := 5) (m := m__law_mixed) (v := v__law_mixed) (np := 2) (
  (z_seq (z_parM (m_consF (i := 2) (s_callF o_list (s_cons (s_var 1) s_nil)) (m_consF (i := 3) (s_lst s_nil) m_nil))) (z_seq (z_for (u := false) (i_rg1 (s_cons (s_call o_len (s_cons (s_var 1) s_nil)) s_nil)) (z_app (x := 3) (u := true) (s_pop (x := 2) (s_fn sim__law_take (s_cons (s_var 0) (s_cons (s_fl (s_call o_len (s_cons (s_var 2) s_nil))) s_nil)))))) (z_retO (i := 3)))))
noncomputable def v__law_level : VS := (wRet (v2 tMulW (vTup (vaCons (vC (.int 0)) vaNil)) (vVar 0)))
noncomputable def p__law_level : PF := pf false 1 1 v__law_level
theorem e__law_level : p__law_level = pf false 1 1 (wRet (v2 tMulW (vTup (vaCons (vC (.int 0)) vaNil)) (vVar 0))) := Eq.trans rfl rfl
theorem sim__law_level : FnS false d__law_level p__law_level := fn_S (fs := false) (MS := []) (n := 1) (m := m__law_level) (v := v__law_level) (np := 1) (
  (z_ret (u := false) (c := false) (s_2 o_mulW (s_tup (s_cons (s_c (.int 0)) s_nil)) (s_var 0))))
noncomputable def v__law_sums_of : VS := (wSeq (wSet 2 (vLst (vaCons (vTup vaNil) vaNil))) (wSeq (wFor (viRg1 (vaCons (vCall tLen (vaCons (vVar 0) vaNil)) vaNil)) (.nm 3) (wSeq (wPar [4, 5] (vaCons (v2 tIx (vVar 0) (vVar 3)) (vaCons (v2 tIx (vVar 1) (vVar 3)) vaNil))) (wSeq (wSet 6 (vIf (vtAnd (vtOf (v2 tNe (vVar 4) (vC (.int 0)))) (vtOf (v2 tEq (vVar 4) (v1 tNeg (vVar 5))))) (vLst (vaCons (v1 tNeg (vC (.int 1))) (vaCons (vC (.int 0)) (vaCons (vC (.int 1)) vaNil)))) (vLst (vaCons (vIf (vtOf (v2 tEq (vVar 4) (vC (.int 0)))) (vVar 5) (vVar 4)) vaNil)))) (wSeq (wSet 7 (vLst vaNil)) (wSeq (wFor (viSeq (vVar 2)) (.nm 8) (wExt 7 (vComp (viSeq (vVar 6)) (.nm 9) [9] vtYes (v2 tAdd (vVar 8) (vTup (vaCons (vVar 9) vaNil)))))) (wMove 2 7)))))) (wRet (vVar 2))))
noncomputable def p__law_sums_of : PF := pf false 2 10 v__law_sums_of
theorem e__law_sums_of : p__law_sums_of = pf false 2 10 (wSeq (wSet 2 (vLst (vaCons (vTup vaNil) vaNil))) (wSeq (wFor (viRg1 (vaCons (vCall tLen (vaCons (vVar 0) vaNil)) vaNil)) (.nm 3) (wSeq (wPar [4, 5] (vaCons (v2 tIx (vVar 0) (vVar 3)) (vaCons (v2 tIx (vVar 1) (vVar 3)) vaNil))) (wSeq (wSet 6 (vIf (vtAnd (vtOf (v2 tNe (vVar 4) (vC (.int 0)))) (vtOf (v2 tEq (vVar 4) (v1 tNeg (vVar 5))))) (vLst (vaCons (v1 tNeg (vC (.int 1))) (vaCons (vC (.int 0)) (vaCons (vC (.int 1)) vaNil)))) (vLst (vaCons (vIf (vtOf (v2 tEq (vVar 4) (vC (.int 0)))) (vVar 5) (vVar 4)) vaNil)))) (wSeq (wSet 7 (vLst vaNil)) (wSeq (wFor (viSeq (vVar 2)) (.nm 8) (wExt 7 (vComp (viSeq (vVar 6)) (.nm 9) [9] vtYes (v2 tAdd (vVar 8) (vTup (vaCons (vVar 9) vaNil)))))) (wMove 2 7)))))) (wRet (vVar 2)))) := Eq.trans rfl rfl
theorem sim__law_sums_of : FnS false d__law_sums_of p__law_sums_of := fn_S (fs := false) (MS := [7]) (n := 10) (m := m__law_sums_of) (v := v__law_sums_of) (np := 2) (
  (z_seq (z_set (u := false) (i := 2) (s_f (s_lst (s_cons (s_tup s_nil) s_nil)))) (z_seq (z_for (u := false) (i_rg1 (s_cons (s_call o_len (s_cons (s_var 0) s_nil)) s_nil)) (z_seq (z_par (u := false) (s_cons (s_2 o_ix (s_var 0) (s_var 3)) (s_cons (s_2 o_ix (s_var 1) (s_var 3)) s_nil))) (z_seq (z_set (u := false) (i := 6) (s_if (s_tand (s_tof (s_2 o_ne (s_var 4) (s_c (.int 0)))) (s_tof (s_2 o_eq (s_var 4) (s_1 o_neg (s_var 5))))) (s_f (s_lst (s_cons (s_1 o_neg (s_c (.int 1))) (s_cons (s_c (.int 0)) (s_cons (s_c (.int 1)) s_nil))))) (s_f (s_lst (s_cons (s_if (s_tof (s_2 o_eq (s_var 4) (s_c (.int 0)))) (s_var 5) (s_var 4)) s_nil))))) (z_seq (z_setF (i := 7) (s_lst s_nil)) (z_seq (z_for (u := false) (i_seq (s_var 2)) (z_ext (x := 7) (u := false) (s_f (s_up (s_comp (ct := false) (i_ri (i_seq (s_var 6))) s_tyes (s_2 o_add (s_var 8) (s_tup (s_cons (s_var 9) s_nil)))))))) (z_move (y := 2) (x := 7))))))) (z_ret (u := false) (c := false) (s_var 2)))))
noncomputable def v__law_any_row : VS := (wRet (vCall tTuple (vaCons (vComp (viRg1 (vaCons (vVar 1) vaNil)) (.nm 2) [2] vtYes (v2 tSub (vFn p__law_take (vaCons (vVar 0) (vaCons (vC (.int 3)) vaNil))) (vC (.int 1)))) vaNil)))
noncomputable def p__law_any_row : PF := pf false 2 3 v__law_any_row
theorem e__law_any_row : p__law_any_row = pf false 2 3 (wRet (vCall tTuple (vaCons (vComp (viRg1 (vaCons (vVar 1) vaNil)) (.nm 2) [2] vtYes (v2 tSub (vFn p__law_take (vaCons (vVar 0) (vaCons (vC (.int 3)) vaNil))) (vC (.int 1)))) vaNil))) := Eq.trans rfl rfl
theorem sim__law_any_row : FnS false d__law_any_row p__law_any_row := fn_S (fs := false) (MS := []) (n := 3) (m := m__law_any_row) (v := v__law_any_row) (np := 2) (
  (z_ret (u := false) (c := false) (s_call o_tuple (s_cons (s_f (s_up (s_comp (ct := false) (i_ri (i_rg1 (s_cons (s_var 1) s_nil))) s_tyes (s_2 o_sub (s_fn sim__law_take (s_cons (s_var 0) (s_cons (s_c (.int 3)) s_nil))) (s_c (.int 1)))))) s_nil))))
noncomputable def v__law_line_row : VS := (wRet (vCall tTuple (vaCons (vComp (viRg1 (vaCons (vCall tLen (vaCons (vVar 1) vaNil)) vaNil)) (.nm 3) [3] vtYes (vIf (vtAnd (vtOf (v2 tEq (v2 tIx (vVar 1) (vVar 3)) (vC (.int 0)))) (vtOf (v2 (tIn false) (vVar 3) (vVar 2)))) (vFn p__law_one (vaCons (vVar 0) (vaCons (vLst (vaCons (vC (.int 1)) (vaCons (v1 tNeg (vC (.int 1))) vaNil))) vaNil))) (v2 tIx (vVar 1) (vVar 3)))) vaNil)))
noncomputable def p__law_line_row : PF := pf false 3 4 v__law_line_row
theorem e__law_line_row : p__law_line_row = pf false 3 4 (wRet (vCall tTuple (vaCons (vComp (viRg1 (vaCons (vCall tLen (vaCons (vVar 1) vaNil)) vaNil)) (.nm 3) [3] vtYes (vIf (vtAnd (vtOf (v2 tEq (v2 tIx (vVar 1) (vVar 3)) (vC (.int 0)))) (vtOf (v2 (tIn false) (vVar 3) (vVar 2)))) (vFn p__law_one (vaCons (vVar 0) (vaCons (vLst (vaCons (vC (.int 1)) (vaCons (v1 tNeg (vC (.int 1))) vaNil))) vaNil))) (v2 tIx (vVar 1) (vVar 3)))) vaNil))) := Eq.trans rfl rfl
theorem sim__law_line_row : FnS false d__law_line_row p__law_line_row := fn_S (fs := false) (MS := []) (n := 4) (m := m__law_line_row) (v := v__law_line_row) (np := 3) (
  (z_ret (u := false) (c := false) (s_call o_tuple (s_cons (s_f (s_up (s_comp (ct := false) (i_ri (i_rg1 (s_cons (s_call o_len (s_cons (s_var 1) s_nil)) s_nil))) s_tyes (s_if (s_tand (s_tof (s_2 o_eq (s_2 o_ix (s_var 1) (s_var 3)) (s_c (.int 0)))) (s_tof (s_2 (o_in false) (s_var 3) (s_var 2)))) (s_fn sim__law_one (s_cons (s_var 0) (s_cons (s_f (s_lst (s_cons (s_c (.int 1)) (s_cons (s_1 o_neg (s_c (.int 1))) s_nil)))) s_nil))) (s_2 o_ix (s_var 1) (s_var 3)))))) s_nil))))
noncomputable def v__law_leads : VS := (wSeq (wFor (viRg1 (vaCons (vCall tLen (vaCons (vVar 1) vaNil)) vaNil)) (.nm 2) (wSeq (wSet 3 (vComp (viSeq (vVar 0)) (.nm 4) [4] vtYes (v2 tIx (vVar 4) (vVar 2)))) (wIf (vtOr (vtAnd (vtOf (v2 tNe (v2 tIx (vVar 1) (vVar 2)) (vC (.int 0)))) (vtOf (v2 (tIn true) (v2 tIx (vVar 1) (vVar 2)) (vVar 3)))) (vtAnd (vtOf (v2 tEq (v2 tIx (vVar 1) (vVar 2)) (vC (.int 0)))) (vtOf (v2 tNe (v2 (tIn false) (vC (.int 1)) (vVar 3)) (v2 (tIn false) (v1 tNeg (vC (.int 1))) (vVar 3)))))) (wRet (vC (.bl false))) wSkip))) (wRet (v2 tGt (vCall tLen (vaCons (vVar 0) vaNil)) (vC (.int 0)))))
noncomputable def p__law_leads : PF := pf false 2 5 v__law_leads
theorem e__law_leads : p__law_leads = pf false 2 5 (wSeq (wFor (viRg1 (vaCons (vCall tLen (vaCons (vVar 1) vaNil)) vaNil)) (.nm 2) (wSeq (wSet 3 (vComp (viSeq (vVar 0)) (.nm 4) [4] vtYes (v2 tIx (vVar 4) (vVar 2)))) (wIf (vtOr (vtAnd (vtOf (v2 tNe (v2 tIx (vVar 1) (vVar 2)) (vC (.int 0)))) (vtOf (v2 (tIn true) (v2 tIx (vVar 1) (vVar 2)) (vVar 3)))) (vtAnd (vtOf (v2 tEq (v2 tIx (vVar 1) (vVar 2)) (vC (.int 0)))) (vtOf (v2 tNe (v2 (tIn false) (vC (.int 1)) (vVar 3)) (v2 (tIn false) (v1 tNeg (vC (.int 1))) (vVar 3)))))) (wRet (vC (.bl false))) wSkip))) (wRet (v2 tGt (vCall tLen (vaCons (vVar 0) vaNil)) (vC (.int 0))))) := Eq.trans rfl rfl
theorem sim__law_leads : FnS false d__law_leads p__law_leads := fn_S (fs := false) (MS := []) (n := 5) (m := m__law_leads) (v := v__law_leads) (np := 2) (
  (z_seq (z_for (u := false) (i_rg1 (s_cons (s_call o_len (s_cons (s_var 1) s_nil)) s_nil)) (z_seq (z_set (u := false) (i := 3) (s_f (s_up (s_comp (ct := false) (i_ri (i_seq (s_var 0))) s_tyes (s_2 o_ix (s_var 4) (s_var 2)))))) (z_if (u := false) (c := false) (s_tor (s_tand (s_tof (s_2 o_ne (s_2 o_ix (s_var 1) (s_var 2)) (s_c (.int 0)))) (s_tof (s_2 (o_in true) (s_2 o_ix (s_var 1) (s_var 2)) (s_var 3)))) (s_tand (s_tof (s_2 o_eq (s_2 o_ix (s_var 1) (s_var 2)) (s_c (.int 0)))) (s_tof (s_2 o_ne (s_2 (o_in false) (s_c (.int 1)) (s_var 3)) (s_2 (o_in false) (s_1 o_neg (s_c (.int 1))) (s_var 3)))))) (z_ret (u := false) (c := false) (s_c (.bl false))) z_skip))) (z_ret (u := false) (c := false) (s_2 o_gt (s_call o_len (s_cons (s_var 0) s_nil)) (s_c (.int 0))))))
noncomputable def v__law_all_sums : VS := (wSeq (wSet 1 (vDOne (v2 tIx (vVar 0) (vC (.int 0))) (vC (.bl true)))) (wSeq (wFor (viSeq (vSl tSl (vVar 0) (voSome (vC (.int 1))) voNone)) (.nm 2) (wSeq (wSet 3 vDNewX) (wSeq (wLock 1 (wFor (viWalk 1) (.nm 4) (wFor (viSeq (vFn p__law_sums_of (vaCons (vVar 4) (vaCons (vVar 2) vaNil)))) (.nm 5) (wDPut 3 (vVar 5) (vC (.bl true)))))) (wMove 1 3)))) (wRet (vVar 1))))
noncomputable def p__law_all_sums : PF := pf false 1 6 v__law_all_sums
theorem e__law_all_sums : p__law_all_sums = pf false 1 6 (wSeq (wSet 1 (vDOne (v2 tIx (vVar 0) (vC (.int 0))) (vC (.bl true)))) (wSeq (wFor (viSeq (vSl tSl (vVar 0) (voSome (vC (.int 1))) voNone)) (.nm 2) (wSeq (wSet 3 vDNewX) (wSeq (wLock 1 (wFor (viWalk 1) (.nm 4) (wFor (viSeq (vFn p__law_sums_of (vaCons (vVar 4) (vaCons (vVar 2) vaNil)))) (.nm 5) (wDPut 3 (vVar 5) (vC (.bl true)))))) (wMove 1 3)))) (wRet (vVar 1)))) := Eq.trans rfl rfl
theorem sim__law_all_sums : FnS false d__law_all_sums p__law_all_sums := fn_S (fs := false) (MS := [3]) (n := 6) (m := m__law_all_sums) (v := v__law_all_sums) (np := 1) (
  (z_seq (z_set (u := false) (i := 1) (s_f (s_done (s_2 o_ix (s_var 0) (s_c (.int 0))) (s_c (.bl true))))) (z_seq (z_for (u := false) (i_seq (s_sl o_sl (s_var 0) (s_os (s_c (.int 1))) s_on)) (z_seq (z_setF (i := 3) s_dnewX) (z_seq (z_forW (i := 1) (z_for (u := false) (i_seq (s_fn sim__law_sums_of (s_cons (s_var 4) (s_cons (s_var 2) s_nil)))) (z_dput (x := 3) (u := false) (s_var 5) (s_c (.bl true))))) (z_move (y := 1) (x := 3))))) (z_ret (u := false) (c := false) (s_var 1)))))
noncomputable def v__law_drawn_rows : VS := (wSeq (wSet 3 (vLst (vaCons (vFn p__law_any_row (vaCons (vVar 0) (vaCons (vVar 1) vaNil))) vaNil))) (wSeq (wFor (viRg1 (vaCons (vFn p__law_take (vaCons (vVar 0) (vaCons (vVar 2) vaNil))) vaNil)) (.nm 4) (wSeq (wSet 5 (vFn p__law_take (vaCons (vVar 0) (vaCons (vC (.int 8)) vaNil)))) (wApp 3 (vIf (vtOf (v2 tEq (vVar 5) (vC (.int 0)))) (vFn p__law_level (vaCons (vVar 1) vaNil)) (vIf (vtOf (v2 tEq (vVar 5) (vC (.int 1)))) (vFl (vFn p__law_one (vaCons (vVar 0) (vaCons (vVar 3) vaNil)))) (vFn p__law_any_row (vaCons (vVar 0) (vaCons (vVar 1) vaNil)))))))) (wRet (vCall tTuple (vaCons (vVar 3) vaNil)))))
noncomputable def p__law_drawn_rows : PF := pf false 3 6 v__law_drawn_rows
theorem e__law_drawn_rows : p__law_drawn_rows = pf false 3 6 (wSeq (wSet 3 (vLst (vaCons (vFn p__law_any_row (vaCons (vVar 0) (vaCons (vVar 1) vaNil))) vaNil))) (wSeq (wFor (viRg1 (vaCons (vFn p__law_take (vaCons (vVar 0) (vaCons (vVar 2) vaNil))) vaNil)) (.nm 4) (wSeq (wSet 5 (vFn p__law_take (vaCons (vVar 0) (vaCons (vC (.int 8)) vaNil)))) (wApp 3 (vIf (vtOf (v2 tEq (vVar 5) (vC (.int 0)))) (vFn p__law_level (vaCons (vVar 1) vaNil)) (vIf (vtOf (v2 tEq (vVar 5) (vC (.int 1)))) (vFl (vFn p__law_one (vaCons (vVar 0) (vaCons (vVar 3) vaNil)))) (vFn p__law_any_row (vaCons (vVar 0) (vaCons (vVar 1) vaNil)))))))) (wRet (vCall tTuple (vaCons (vVar 3) vaNil))))) := Eq.trans rfl rfl
theorem sim__law_drawn_rows : FnS false d__law_drawn_rows p__law_drawn_rows := fn_S (fs := false) (MS := [3]) (n := 6) (m := m__law_drawn_rows) (v := v__law_drawn_rows) (np := 3) (
  (z_seq (z_setF (i := 3) (s_lst (s_cons (s_fn sim__law_any_row (s_cons (s_var 0) (s_cons (s_var 1) s_nil))) s_nil))) (z_seq (z_for (u := false) (i_rg1 (s_cons (s_fn sim__law_take (s_cons (s_var 0) (s_cons (s_var 2) s_nil))) s_nil)) (z_seq (z_set (u := false) (i := 5) (s_fn sim__law_take (s_cons (s_var 0) (s_cons (s_c (.int 8)) s_nil)))) (z_app (x := 3) (u := false) (s_if (s_tof (s_2 o_eq (s_var 5) (s_c (.int 0)))) (s_fn sim__law_level (s_cons (s_var 1) s_nil)) (s_if (s_tof (s_2 o_eq (s_var 5) (s_c (.int 1)))) (s_fl (s_fn sim__law_one (s_cons (s_var 0) (s_cons (s_var 3) s_nil)))) (s_fn sim__law_any_row (s_cons (s_var 0) (s_cons (s_var 1) s_nil)))))))) (z_ret (u := false) (c := false) (s_call o_tuple (s_cons (s_var 3) s_nil))))))
noncomputable def v__law_small_right : VS := (wSeq (wSet 2 (vFn p__law_drawn_rows (vaCons (vVar 0) (vaCons (vVar 1) (vaCons (vFn p__law_one (vaCons (vVar 0) (vaCons (vLst (vaCons (vC (.int 9)) (vaCons (vC (.int 9)) (vaCons (vC (.int 12)) vaNil)))) vaNil))) vaNil))))) (wSeq (wSet 3 (vFn p__law_all_sums (vaCons (vVar 2) vaNil))) (wSeq (wSet 4 (v2 tAdd (vComp (viRg1 (vaCons (vC (.int 5)) vaNil)) (.nm 9) [9] vtYes (vFn p__law_any_row (vaCons (vVar 0) (vaCons (vVar 1) vaNil)))) (vLst (vaCons (vFn p__law_level (vaCons (vVar 1) vaNil)) (vaCons (v2 tMulW (vTup (vaCons (vC (.int 1)) vaNil)) (vVar 1)) (vaCons (vFn p__law_one (vaCons (vVar 0) (vaCons (v1 tSortX (vVar 3)) vaNil))) vaNil)))))) (wSeq (wSet 5 (vCall tTuple (vaCons (vFn p__law_mixed (vaCons (vVar 0) (vaCons (v2 tAdd (vVar 2) (vSl tSl (vVar 2) voNone (voSome (vC (.int 2))))) vaNil))) vaNil))) (wSeq (wSet 6 (vFn p__law_all_sums (vaCons (vVar 5) vaNil))) (wSeq (wFor (viSeq (vVar 4)) (.nm 7) (wSeq (wSet 8 (v2 (tDIn false) (vVar 7) (vVar 3))) (wSeq (wIf (vtOf (v2 tNe (vCall tRepr (vaCons (vTup (vaCons (vFn p_leads (vaCons (vVar 1) (vaCons (vVar 2) (vaCons (vVar 7) vaNil)))) (vaCons (vFnK p_leads [2, 1, 0] (vaCons (vVar 7) (vaCons (vVar 2) (vaCons (vVar 1) vaNil)))) vaNil))) vaNil)) (vCall tRepr (vaCons (vTup (vaCons (vVar 8) (vaCons (vVar 8) vaNil))) vaNil)))) (wRet (vC (.bl false))) wSkip) (wSeq (wIf (vtOf (v2 tNe (vVar 8) (vFn p__law_leads (vaCons (vVar 2) (vaCons (vVar 7) vaNil))))) (wRet (vC (.bl false))) wSkip) (wIf (vtOr (vtOf (v2 tNe (vCall tRepr (vaCons (vFn p_leads (vaCons (vVar 1) (vaCons (vVar 5) (vaCons (vVar 7) vaNil)))) vaNil)) (vCall tRepr (vaCons (vVar 8) vaNil)))) (vtOf (v2 tNe (v2 (tDIn false) (vVar 7) (vVar 6)) (vVar 8)))) (wRet (vC (.bl false))) wSkip))))) (wRet (vC (.bl true)))))))))
noncomputable def p__law_small_right : PF := pf false 2 10 v__law_small_right
theorem e__law_small_right : p__law_small_right = pf false 2 10 (wSeq (wSet 2 (vFn p__law_drawn_rows (vaCons (vVar 0) (vaCons (vVar 1) (vaCons (vFn p__law_one (vaCons (vVar 0) (vaCons (vLst (vaCons (vC (.int 9)) (vaCons (vC (.int 9)) (vaCons (vC (.int 12)) vaNil)))) vaNil))) vaNil))))) (wSeq (wSet 3 (vFn p__law_all_sums (vaCons (vVar 2) vaNil))) (wSeq (wSet 4 (v2 tAdd (vComp (viRg1 (vaCons (vC (.int 5)) vaNil)) (.nm 9) [9] vtYes (vFn p__law_any_row (vaCons (vVar 0) (vaCons (vVar 1) vaNil)))) (vLst (vaCons (vFn p__law_level (vaCons (vVar 1) vaNil)) (vaCons (v2 tMulW (vTup (vaCons (vC (.int 1)) vaNil)) (vVar 1)) (vaCons (vFn p__law_one (vaCons (vVar 0) (vaCons (v1 tSortX (vVar 3)) vaNil))) vaNil)))))) (wSeq (wSet 5 (vCall tTuple (vaCons (vFn p__law_mixed (vaCons (vVar 0) (vaCons (v2 tAdd (vVar 2) (vSl tSl (vVar 2) voNone (voSome (vC (.int 2))))) vaNil))) vaNil))) (wSeq (wSet 6 (vFn p__law_all_sums (vaCons (vVar 5) vaNil))) (wSeq (wFor (viSeq (vVar 4)) (.nm 7) (wSeq (wSet 8 (v2 (tDIn false) (vVar 7) (vVar 3))) (wSeq (wIf (vtOf (v2 tNe (vCall tRepr (vaCons (vTup (vaCons (vFn p_leads (vaCons (vVar 1) (vaCons (vVar 2) (vaCons (vVar 7) vaNil)))) (vaCons (vFnK p_leads [2, 1, 0] (vaCons (vVar 7) (vaCons (vVar 2) (vaCons (vVar 1) vaNil)))) vaNil))) vaNil)) (vCall tRepr (vaCons (vTup (vaCons (vVar 8) (vaCons (vVar 8) vaNil))) vaNil)))) (wRet (vC (.bl false))) wSkip) (wSeq (wIf (vtOf (v2 tNe (vVar 8) (vFn p__law_leads (vaCons (vVar 2) (vaCons (vVar 7) vaNil))))) (wRet (vC (.bl false))) wSkip) (wIf (vtOr (vtOf (v2 tNe (vCall tRepr (vaCons (vFn p_leads (vaCons (vVar 1) (vaCons (vVar 5) (vaCons (vVar 7) vaNil)))) vaNil)) (vCall tRepr (vaCons (vVar 8) vaNil)))) (vtOf (v2 tNe (v2 (tDIn false) (vVar 7) (vVar 6)) (vVar 8)))) (wRet (vC (.bl false))) wSkip))))) (wRet (vC (.bl true))))))))) := Eq.trans rfl rfl
theorem sim__law_small_right : FnS false d__law_small_right p__law_small_right := fn_S (fs := false) (MS := []) (n := 10) (m := m__law_small_right) (v := v__law_small_right) (np := 2) (
  (z_seq (z_set (u := false) (i := 2) (s_fn sim__law_drawn_rows (s_cons (s_var 0) (s_cons (s_var 1) (s_cons (s_fn sim__law_one (s_cons (s_var 0) (s_cons (s_f (s_lst (s_cons (s_c (.int 9)) (s_cons (s_c (.int 9)) (s_cons (s_c (.int 12)) s_nil))))) s_nil))) s_nil))))) (z_seq (z_set (u := false) (i := 3) (s_fn sim__law_all_sums (s_cons (s_var 2) s_nil))) (z_seq (z_set (u := false) (i := 4) (s_2 o_add (s_f (s_up (s_comp (ct := false) (i_ri (i_rg1 (s_cons (s_c (.int 5)) s_nil))) s_tyes (s_fn sim__law_any_row (s_cons (s_var 0) (s_cons (s_var 1) s_nil)))))) (s_f (s_lst (s_cons (s_fn sim__law_level (s_cons (s_var 1) s_nil)) (s_cons (s_2 o_mulW (s_tup (s_cons (s_c (.int 1)) s_nil)) (s_var 1)) (s_cons (s_fn sim__law_one (s_cons (s_var 0) (s_cons (s_f (s_sortX (s_var 3))) s_nil))) s_nil))))))) (z_seq (z_set (u := false) (i := 5) (s_call o_tuple (s_cons (s_f (s_fnF sim__law_mixed (s_cons (s_var 0) (s_cons (s_2 o_add (s_var 2) (s_sl o_sl (s_var 2) s_on (s_os (s_c (.int 2))))) s_nil)))) s_nil))) (z_seq (z_set (u := false) (i := 6) (s_fn sim__law_all_sums (s_cons (s_var 5) s_nil))) (z_seq (z_for (u := false) (i_seq (s_var 4)) (z_seq (z_set (u := false) (i := 8) (s_2 (o_din false) (s_var 7) (s_var 3))) (z_seq (z_if (u := false) (c := false) (s_tof (s_2 o_ne (s_call o_repr (s_cons (s_tup (s_cons (s_fn sim_leads (s_cons (s_var 1) (s_cons (s_var 2) (s_cons (s_var 7) s_nil)))) (s_cons (s_fnK sim_leads (s_cons (s_var 7) (s_cons (s_var 2) (s_cons (s_var 1) s_nil)))) s_nil))) s_nil)) (s_call o_repr (s_cons (s_tup (s_cons (s_var 8) (s_cons (s_var 8) s_nil))) s_nil)))) (z_ret (u := false) (c := false) (s_c (.bl false))) z_skip) (z_seq (z_if (u := false) (c := false) (s_tof (s_2 o_ne (s_var 8) (s_fn sim__law_leads (s_cons (s_var 2) (s_cons (s_var 7) s_nil))))) (z_ret (u := false) (c := false) (s_c (.bl false))) z_skip) (z_if (u := false) (c := false) (s_tor (s_tof (s_2 o_ne (s_call o_repr (s_cons (s_fn sim_leads (s_cons (s_var 1) (s_cons (s_var 5) (s_cons (s_var 7) s_nil)))) s_nil)) (s_call o_repr (s_cons (s_var 8) s_nil)))) (s_tof (s_2 o_ne (s_2 (o_din false) (s_var 7) (s_var 6)) (s_var 8)))) (z_ret (u := false) (c := false) (s_c (.bl false))) z_skip))))) (z_ret (u := false) (c := false) (s_c (.bl true))))))))))
noncomputable def v__law_wide_right : VS := (wSeq (wSet 2 (vFn p__law_drawn_rows (vaCons (vVar 0) (vaCons (vVar 1) (vaCons (vC (.int 14)) vaNil))))) (wSeq (wSet 3 (vIf (vtOf (v2 tEq (vFn p__law_take (vaCons (vVar 0) (vaCons (vC (.int 12)) vaNil))) (vC (.int 0)))) (vFn p__law_all_sums (vaCons (vSl tSl (vVar 2) voNone (voSome (vC (.int 4)))) vaNil)) (vC .non))) (wSeq (wFor (viRg1 (vaCons (vC (.int 6)) vaNil)) (.nm 4) (wSeq (wSet 5 (vFn p__law_any_row (vaCons (vVar 0) (vaCons (vVar 1) vaNil)))) (wSeq (wIf (vtAnd (vtOf (v2 tNotN (vVar 3) (vC .non))) (vtOf (v2 tNe (vCall tRepr (vaCons (vFn p_leads (vaCons (vVar 1) (vaCons (vSl tSl (vVar 2) voNone (voSome (vC (.int 4)))) (vaCons (vVar 5) vaNil)))) vaNil)) (vCall tRepr (vaCons (v2 (tDIn false) (vVar 5) (vVar 3)) vaNil))))) (wRet (vC (.bl false))) wSkip) (wSeq (wIf (vtOf (v2 tGt (vVar 4) (vC (.int 2)))) (wSet 5 (vFn p__law_line_row (vaCons (vVar 0) (vaCons (vVar 5) (vaCons (vComp (viRg1 (vaCons (vVar 1) vaNil)) (.nm 6) [6] vtYes (vVar 6)) vaNil))))) wSkip) (wIf (vtOf (v2 tNe (vCall tRepr (vaCons (vFnK p_leads [0, 1, 2] (vaCons (vVar 1) (vaCons (vVar 2) (vaCons (vVar 5) vaNil)))) vaNil)) (vCall tRepr (vaCons (vFn p__law_leads (vaCons (vVar 2) (vaCons (vVar 5) vaNil))) vaNil)))) (wRet (vC (.bl false))) wSkip))))) (wRet (vC (.bl true))))))
noncomputable def p__law_wide_right : PF := pf false 2 7 v__law_wide_right
theorem e__law_wide_right : p__law_wide_right = pf false 2 7 (wSeq (wSet 2 (vFn p__law_drawn_rows (vaCons (vVar 0) (vaCons (vVar 1) (vaCons (vC (.int 14)) vaNil))))) (wSeq (wSet 3 (vIf (vtOf (v2 tEq (vFn p__law_take (vaCons (vVar 0) (vaCons (vC (.int 12)) vaNil))) (vC (.int 0)))) (vFn p__law_all_sums (vaCons (vSl tSl (vVar 2) voNone (voSome (vC (.int 4)))) vaNil)) (vC .non))) (wSeq (wFor (viRg1 (vaCons (vC (.int 6)) vaNil)) (.nm 4) (wSeq (wSet 5 (vFn p__law_any_row (vaCons (vVar 0) (vaCons (vVar 1) vaNil)))) (wSeq (wIf (vtAnd (vtOf (v2 tNotN (vVar 3) (vC .non))) (vtOf (v2 tNe (vCall tRepr (vaCons (vFn p_leads (vaCons (vVar 1) (vaCons (vSl tSl (vVar 2) voNone (voSome (vC (.int 4)))) (vaCons (vVar 5) vaNil)))) vaNil)) (vCall tRepr (vaCons (v2 (tDIn false) (vVar 5) (vVar 3)) vaNil))))) (wRet (vC (.bl false))) wSkip) (wSeq (wIf (vtOf (v2 tGt (vVar 4) (vC (.int 2)))) (wSet 5 (vFn p__law_line_row (vaCons (vVar 0) (vaCons (vVar 5) (vaCons (vComp (viRg1 (vaCons (vVar 1) vaNil)) (.nm 6) [6] vtYes (vVar 6)) vaNil))))) wSkip) (wIf (vtOf (v2 tNe (vCall tRepr (vaCons (vFnK p_leads [0, 1, 2] (vaCons (vVar 1) (vaCons (vVar 2) (vaCons (vVar 5) vaNil)))) vaNil)) (vCall tRepr (vaCons (vFn p__law_leads (vaCons (vVar 2) (vaCons (vVar 5) vaNil))) vaNil)))) (wRet (vC (.bl false))) wSkip))))) (wRet (vC (.bl true)))))) := Eq.trans rfl rfl
theorem sim__law_wide_right : FnS false d__law_wide_right p__law_wide_right := fn_S (fs := false) (MS := []) (n := 7) (m := m__law_wide_right) (v := v__law_wide_right) (np := 2) (
  (z_seq (z_set (u := false) (i := 2) (s_fn sim__law_drawn_rows (s_cons (s_var 0) (s_cons (s_var 1) (s_cons (s_c (.int 14)) s_nil))))) (z_seq (z_set (u := false) (i := 3) (s_if (s_tof (s_2 o_eq (s_fn sim__law_take (s_cons (s_var 0) (s_cons (s_c (.int 12)) s_nil))) (s_c (.int 0)))) (s_fn sim__law_all_sums (s_cons (s_sl o_sl (s_var 2) s_on (s_os (s_c (.int 4)))) s_nil)) (s_c .non))) (z_seq (z_for (u := false) (i_rg1 (s_cons (s_c (.int 6)) s_nil)) (z_seq (z_set (u := false) (i := 5) (s_fn sim__law_any_row (s_cons (s_var 0) (s_cons (s_var 1) s_nil)))) (z_seq (z_if (u := false) (c := false) (s_tand (s_tof (s_2 o_notN (s_var 3) (s_c .non))) (s_tof (s_2 o_ne (s_call o_repr (s_cons (s_fn sim_leads (s_cons (s_var 1) (s_cons (s_sl o_sl (s_var 2) s_on (s_os (s_c (.int 4)))) (s_cons (s_var 5) s_nil)))) s_nil)) (s_call o_repr (s_cons (s_2 (o_din false) (s_var 5) (s_var 3)) s_nil))))) (z_ret (u := false) (c := false) (s_c (.bl false))) z_skip) (z_seq (z_if (u := false) (c := false) (s_tof (s_2 o_gt (s_var 4) (s_c (.int 2)))) (z_set (u := false) (i := 5) (s_fn sim__law_line_row (s_cons (s_var 0) (s_cons (s_var 5) (s_cons (s_f (s_up (s_comp (ct := false) (i_ri (i_rg1 (s_cons (s_var 1) s_nil))) s_tyes (s_var 6)))) s_nil))))) z_skip) (z_if (u := false) (c := false) (s_tof (s_2 o_ne (s_call o_repr (s_cons (s_fnK sim_leads (s_cons (s_var 1) (s_cons (s_var 2) (s_cons (s_var 5) s_nil)))) s_nil)) (s_call o_repr (s_cons (s_fn sim__law_leads (s_cons (s_var 2) (s_cons (s_var 5) s_nil))) s_nil)))) (z_ret (u := false) (c := false) (s_c (.bl false))) z_skip))))) (z_ret (u := false) (c := false) (s_c (.bl true)))))))
noncomputable def v__law_deep_thing : VS := (wSeq (wPar [1, 2] (vaCons (vFn p__law_one (vaCons (vVar 0) (vaCons (vLst (vaCons (vTup vaNil) (vaCons (vC (.int 0)) (vaCons (vC (.str "two")) (vaCons (vC .non) (vaCons (vC (.bl true)) vaNil)))))) vaNil))) (vaCons (vFn p__law_take (vaCons (vVar 0) (vaCons (vC (.int 4)) vaNil))) vaNil))) (wSeq (wIf (vtOf (v2 tEq (vVar 2) (vC (.int 0)))) (wRet (vFn p__law_one (vaCons (vVar 0) (vaCons (vLst (vaCons (v2 tMulW (vTup (vaCons (v2 tMulW (vTup (vaCons (vVar 1) vaNil)) (vC (.int 900))) vaNil)) (vC (.int 99))) (vaCons (v2 tMulW (vTup (vaCons (vVar 1) vaNil)) (vC (.int 90000))) vaNil))) vaNil)))) wSkip) (wSeq (wFor (viRg1 (vaCons (vIf (vtOf (v2 tGt (vVar 2) (vC (.int 1)))) (vC (.int 45)) (vC (.int 14))) vaNil)) (.nm 3) (wSet 1 (vIf (vtOf (v2 tEq (vVar 2) (vC (.int 1)))) (vTup (vaCons (vVar 1) (vaCons (vVar 1) vaNil))) (vTup (vaCons (vVar 1) vaNil))))) (wRet (vVar 1)))))
noncomputable def p__law_deep_thing : PF := pf false 1 4 v__law_deep_thing
theorem e__law_deep_thing : p__law_deep_thing = pf false 1 4 (wSeq (wPar [1, 2] (vaCons (vFn p__law_one (vaCons (vVar 0) (vaCons (vLst (vaCons (vTup vaNil) (vaCons (vC (.int 0)) (vaCons (vC (.str "two")) (vaCons (vC .non) (vaCons (vC (.bl true)) vaNil)))))) vaNil))) (vaCons (vFn p__law_take (vaCons (vVar 0) (vaCons (vC (.int 4)) vaNil))) vaNil))) (wSeq (wIf (vtOf (v2 tEq (vVar 2) (vC (.int 0)))) (wRet (vFn p__law_one (vaCons (vVar 0) (vaCons (vLst (vaCons (v2 tMulW (vTup (vaCons (v2 tMulW (vTup (vaCons (vVar 1) vaNil)) (vC (.int 900))) vaNil)) (vC (.int 99))) (vaCons (v2 tMulW (vTup (vaCons (vVar 1) vaNil)) (vC (.int 90000))) vaNil))) vaNil)))) wSkip) (wSeq (wFor (viRg1 (vaCons (vIf (vtOf (v2 tGt (vVar 2) (vC (.int 1)))) (vC (.int 45)) (vC (.int 14))) vaNil)) (.nm 3) (wSet 1 (vIf (vtOf (v2 tEq (vVar 2) (vC (.int 1)))) (vTup (vaCons (vVar 1) (vaCons (vVar 1) vaNil))) (vTup (vaCons (vVar 1) vaNil))))) (wRet (vVar 1))))) := Eq.trans rfl rfl
theorem sim__law_deep_thing : FnS false d__law_deep_thing p__law_deep_thing := fn_S (fs := false) (MS := []) (n := 4) (m := m__law_deep_thing) (v := v__law_deep_thing) (np := 1) (
  (z_seq (z_par (u := false) (s_cons (s_fn sim__law_one (s_cons (s_var 0) (s_cons (s_f (s_lst (s_cons (s_tup s_nil) (s_cons (s_c (.int 0)) (s_cons (s_c (.str "two")) (s_cons (s_c .non) (s_cons (s_c (.bl true)) s_nil))))))) s_nil))) (s_cons (s_fn sim__law_take (s_cons (s_var 0) (s_cons (s_c (.int 4)) s_nil))) s_nil))) (z_seq (z_if (u := false) (c := false) (s_tof (s_2 o_eq (s_var 2) (s_c (.int 0)))) (z_ret (u := false) (c := false) (s_fn sim__law_one (s_cons (s_var 0) (s_cons (s_f (s_lst (s_cons (s_2 o_mulW (s_tup (s_cons (s_2 o_mulW (s_tup (s_cons (s_var 1) s_nil)) (s_c (.int 900))) s_nil)) (s_c (.int 99))) (s_cons (s_2 o_mulW (s_tup (s_cons (s_var 1) s_nil)) (s_c (.int 90000))) s_nil)))) s_nil)))) z_skip) (z_seq (z_for (u := false) (i_rg1 (s_cons (s_if (s_tof (s_2 o_gt (s_var 2) (s_c (.int 1)))) (s_c (.int 45)) (s_c (.int 14))) s_nil)) (z_set (u := false) (i := 1) (s_if (s_tof (s_2 o_eq (s_var 2) (s_c (.int 1)))) (s_tup (s_cons (s_var 1) (s_cons (s_var 1) s_nil))) (s_tup (s_cons (s_var 1) s_nil))))) (z_ret (u := false) (c := false) (s_var 1))))))
noncomputable def v__law_doors_right : VS := (wSeq (wSet 6 (vFn p__law_drawn_rows (vaCons (vVar 0) (vaCons (vVar 1) (vaCons (vC (.int 4)) vaNil))))) (wSeq (wFor (viSeq (vLst (vaCons (vC (.int 0)) (vaCons (vC (.int 7)) (vaCons (v1 tNeg (vC (.int 1))) (vaCons (vC .non) (vaCons (vC (.str "3")) (vaCons (vC (.bl true)) (vaCons (vC (.bl false)) (vaCons (vFn p__law_deep_thing (vaCons (vVar 0) vaNil)) vaNil)))))))))) (.nm 4) (wIf (vtOf (v2 tNe (vHeard emx (vFn p_leads (vaCons (vVar 4) (vaCons (vC .non) (vaCons (vC .non) vaNil)))) hl__law_heard) (vTup (vaCons (vC (.str "many")) (vaCons (vVar 4) vaNil))))) (wRet (vC (.bl false))) wSkip)) (wSeq (wSet 2 (vFn p__law_take (vaCons (vVar 0) (vaCons (vVar 1) vaNil)))) (wSeq (wSet 3 (vFn p__law_one (vaCons (vVar 0) (vaCons (vLst (vaCons (vC (.int 2)) (vaCons (v1 tNeg (vC (.int 2))) (vaCons (vC .non) (vaCons (vC (.str "0")) (vaCons (vC (.bl true)) (vaCons (vC (.bl false)) (vaCons (vTup (vaCons (vC (.int 0)) vaNil)) (vaCons (vFn p__law_deep_thing (vaCons (vVar 0) vaNil)) vaNil))))))))) vaNil)))) (wSeq (wSet 5 (v2 tAdd (v2 tAdd (v2 tMulW (vTup (vaCons (vC (.int 0)) vaNil)) (vVar 2)) (vTup (vaCons (vVar 3) vaNil))) (v2 tMulW (vTup (vaCons (vC (.int 0)) vaNil)) (v2 tSub (v2 tSub (vVar 1) (vVar 2)) (vC (.int 1)))))) (wSeq (wFor (viSeq (vLst (vaCons (vC .non) (vaCons (vTup vaNil) (vaCons (v2 tMulW (vVar 6) (vC (.int 15))) (vaCons (vC (.str "rows")) (vaCons (vC (.int 0)) (vaCons (v2 tMulW (vTup (vaCons (v2 tMulW (vTup (vaCons (vC (.int 0)) vaNil)) (vVar 1)) vaNil)) (vC (.int 9000))) vaNil)))))))) (.nm 7) (wIf (vtOf (v2 tNe (vHeard emx (vFn p_leads (vaCons (vVar 1) (vaCons (vVar 7) (vaCons (vC .non) vaNil)))) hl__law_heard) (vTup (vaCons (vC (.str "rows")) (vaCons (v1 tNeg (vC (.int 1))) vaNil))))) (wRet (vC (.bl false))) wSkip)) (wSeq (wFor (viSeq (vLst (vaCons (vVar 5) (vaCons (vC .non) (vaCons (v2 tMulW (vTup (vaCons (vC (.int 0)) vaNil)) (v2 tAdd (vVar 1) (vC (.int 1)))) (vaCons (v2 tMulW (vTup (vaCons (vC (.int 0)) vaNil)) (v2 tSub (vVar 1) (vC (.int 1)))) (vaCons (vC (.int 0)) vaNil))))))) (.nm 7) (wIf (vtOf (v2 tNe (vHeard emx (vFn p_leads (vaCons (vVar 1) (vaCons (v2 tAdd (vVar 6) (vTup (vaCons (vVar 7) vaNil))) (vaCons (vC .non) vaNil)))) hl__law_heard) (vTup (vaCons (vC (.str "rows")) (vaCons (vCall tLen (vaCons (vVar 6) vaNil)) vaNil))))) (wRet (vC (.bl false))) wSkip)) (wSeq (wFor (viSeq (vLst (vaCons (vC .non) (vaCons (v2 tMulW (vTup (vaCons (vC (.int 0)) vaNil)) (v2 tAdd (vVar 1) (vC (.int 1)))) (vaCons (vTup vaNil) (vaCons (vC (.int 1)) vaNil)))))) (.nm 7) (wIf (vtOf (v2 tNe (vHeard emx (vFn p_leads (vaCons (vVar 1) (vaCons (vVar 6) (vaCons (vVar 7) vaNil)))) hl__law_heard) (vTup (vaCons (vC (.str "row")) (vaCons (v1 tNeg (vC (.int 1))) vaNil))))) (wRet (vC (.bl false))) wSkip)) (wRet (v2 tEq (vHeard emx (vFn p_leads (vaCons (vVar 1) (vaCons (vVar 6) (vaCons (vVar 5) vaNil)))) hl__law_heard) (vTup (vaCons (vC (.str "row")) (vaCons (vVar 2) vaNil)))))))))))))
noncomputable def p__law_doors_right : PF := pf false 2 8 v__law_doors_right
theorem e__law_doors_right : p__law_doors_right = pf false 2 8 (wSeq (wSet 6 (vFn p__law_drawn_rows (vaCons (vVar 0) (vaCons (vVar 1) (vaCons (vC (.int 4)) vaNil))))) (wSeq (wFor (viSeq (vLst (vaCons (vC (.int 0)) (vaCons (vC (.int 7)) (vaCons (v1 tNeg (vC (.int 1))) (vaCons (vC .non) (vaCons (vC (.str "3")) (vaCons (vC (.bl true)) (vaCons (vC (.bl false)) (vaCons (vFn p__law_deep_thing (vaCons (vVar 0) vaNil)) vaNil)))))))))) (.nm 4) (wIf (vtOf (v2 tNe (vHeard emx (vFn p_leads (vaCons (vVar 4) (vaCons (vC .non) (vaCons (vC .non) vaNil)))) hl__law_heard) (vTup (vaCons (vC (.str "many")) (vaCons (vVar 4) vaNil))))) (wRet (vC (.bl false))) wSkip)) (wSeq (wSet 2 (vFn p__law_take (vaCons (vVar 0) (vaCons (vVar 1) vaNil)))) (wSeq (wSet 3 (vFn p__law_one (vaCons (vVar 0) (vaCons (vLst (vaCons (vC (.int 2)) (vaCons (v1 tNeg (vC (.int 2))) (vaCons (vC .non) (vaCons (vC (.str "0")) (vaCons (vC (.bl true)) (vaCons (vC (.bl false)) (vaCons (vTup (vaCons (vC (.int 0)) vaNil)) (vaCons (vFn p__law_deep_thing (vaCons (vVar 0) vaNil)) vaNil))))))))) vaNil)))) (wSeq (wSet 5 (v2 tAdd (v2 tAdd (v2 tMulW (vTup (vaCons (vC (.int 0)) vaNil)) (vVar 2)) (vTup (vaCons (vVar 3) vaNil))) (v2 tMulW (vTup (vaCons (vC (.int 0)) vaNil)) (v2 tSub (v2 tSub (vVar 1) (vVar 2)) (vC (.int 1)))))) (wSeq (wFor (viSeq (vLst (vaCons (vC .non) (vaCons (vTup vaNil) (vaCons (v2 tMulW (vVar 6) (vC (.int 15))) (vaCons (vC (.str "rows")) (vaCons (vC (.int 0)) (vaCons (v2 tMulW (vTup (vaCons (v2 tMulW (vTup (vaCons (vC (.int 0)) vaNil)) (vVar 1)) vaNil)) (vC (.int 9000))) vaNil)))))))) (.nm 7) (wIf (vtOf (v2 tNe (vHeard emx (vFn p_leads (vaCons (vVar 1) (vaCons (vVar 7) (vaCons (vC .non) vaNil)))) hl__law_heard) (vTup (vaCons (vC (.str "rows")) (vaCons (v1 tNeg (vC (.int 1))) vaNil))))) (wRet (vC (.bl false))) wSkip)) (wSeq (wFor (viSeq (vLst (vaCons (vVar 5) (vaCons (vC .non) (vaCons (v2 tMulW (vTup (vaCons (vC (.int 0)) vaNil)) (v2 tAdd (vVar 1) (vC (.int 1)))) (vaCons (v2 tMulW (vTup (vaCons (vC (.int 0)) vaNil)) (v2 tSub (vVar 1) (vC (.int 1)))) (vaCons (vC (.int 0)) vaNil))))))) (.nm 7) (wIf (vtOf (v2 tNe (vHeard emx (vFn p_leads (vaCons (vVar 1) (vaCons (v2 tAdd (vVar 6) (vTup (vaCons (vVar 7) vaNil))) (vaCons (vC .non) vaNil)))) hl__law_heard) (vTup (vaCons (vC (.str "rows")) (vaCons (vCall tLen (vaCons (vVar 6) vaNil)) vaNil))))) (wRet (vC (.bl false))) wSkip)) (wSeq (wFor (viSeq (vLst (vaCons (vC .non) (vaCons (v2 tMulW (vTup (vaCons (vC (.int 0)) vaNil)) (v2 tAdd (vVar 1) (vC (.int 1)))) (vaCons (vTup vaNil) (vaCons (vC (.int 1)) vaNil)))))) (.nm 7) (wIf (vtOf (v2 tNe (vHeard emx (vFn p_leads (vaCons (vVar 1) (vaCons (vVar 6) (vaCons (vVar 7) vaNil)))) hl__law_heard) (vTup (vaCons (vC (.str "row")) (vaCons (v1 tNeg (vC (.int 1))) vaNil))))) (wRet (vC (.bl false))) wSkip)) (wRet (v2 tEq (vHeard emx (vFn p_leads (vaCons (vVar 1) (vaCons (vVar 6) (vaCons (vVar 5) vaNil)))) hl__law_heard) (vTup (vaCons (vC (.str "row")) (vaCons (vVar 2) vaNil))))))))))))) := Eq.trans rfl rfl
theorem sim__law_doors_right : FnS false d__law_doors_right p__law_doors_right := fn_S (fs := false) (MS := []) (n := 8) (m := m__law_doors_right) (v := v__law_doors_right) (np := 2) (
  (z_seq (z_set (u := false) (i := 6) (s_fn sim__law_drawn_rows (s_cons (s_var 0) (s_cons (s_var 1) (s_cons (s_c (.int 4)) s_nil))))) (z_seq (z_for (u := false) (i_seq (s_f (s_lst (s_cons (s_c (.int 0)) (s_cons (s_c (.int 7)) (s_cons (s_1 o_neg (s_c (.int 1))) (s_cons (s_c .non) (s_cons (s_c (.str "3")) (s_cons (s_c (.bl true)) (s_cons (s_c (.bl false)) (s_cons (s_fn sim__law_deep_thing (s_cons (s_var 0) s_nil)) s_nil))))))))))) (z_if (u := false) (c := false) (s_tof (s_2 o_ne (s_heard (s_fn sim_leads (s_cons (s_var 4) (s_cons (s_c .non) (s_cons (s_c .non) s_nil))))) (s_tup (s_cons (s_c (.str "many")) (s_cons (s_var 4) s_nil))))) (z_ret (u := false) (c := false) (s_c (.bl false))) z_skip)) (z_seq (z_set (u := false) (i := 2) (s_fn sim__law_take (s_cons (s_var 0) (s_cons (s_var 1) s_nil)))) (z_seq (z_set (u := false) (i := 3) (s_fn sim__law_one (s_cons (s_var 0) (s_cons (s_f (s_lst (s_cons (s_c (.int 2)) (s_cons (s_1 o_neg (s_c (.int 2))) (s_cons (s_c .non) (s_cons (s_c (.str "0")) (s_cons (s_c (.bl true)) (s_cons (s_c (.bl false)) (s_cons (s_tup (s_cons (s_c (.int 0)) s_nil)) (s_cons (s_fn sim__law_deep_thing (s_cons (s_var 0) s_nil)) s_nil)))))))))) s_nil)))) (z_seq (z_set (u := false) (i := 5) (s_2 o_add (s_2 o_add (s_2 o_mulW (s_tup (s_cons (s_c (.int 0)) s_nil)) (s_var 2)) (s_tup (s_cons (s_var 3) s_nil))) (s_2 o_mulW (s_tup (s_cons (s_c (.int 0)) s_nil)) (s_2 o_sub (s_2 o_sub (s_var 1) (s_var 2)) (s_c (.int 1)))))) (z_seq (z_for (u := false) (i_seq (s_f (s_lst (s_cons (s_c .non) (s_cons (s_tup s_nil) (s_cons (s_2 o_mulW (s_var 6) (s_c (.int 15))) (s_cons (s_c (.str "rows")) (s_cons (s_c (.int 0)) (s_cons (s_2 o_mulW (s_tup (s_cons (s_2 o_mulW (s_tup (s_cons (s_c (.int 0)) s_nil)) (s_var 1)) s_nil)) (s_c (.int 9000))) s_nil))))))))) (z_if (u := false) (c := false) (s_tof (s_2 o_ne (s_heard (s_fn sim_leads (s_cons (s_var 1) (s_cons (s_var 7) (s_cons (s_c .non) s_nil))))) (s_tup (s_cons (s_c (.str "rows")) (s_cons (s_1 o_neg (s_c (.int 1))) s_nil))))) (z_ret (u := false) (c := false) (s_c (.bl false))) z_skip)) (z_seq (z_for (u := false) (i_seq (s_f (s_lst (s_cons (s_var 5) (s_cons (s_c .non) (s_cons (s_2 o_mulW (s_tup (s_cons (s_c (.int 0)) s_nil)) (s_2 o_add (s_var 1) (s_c (.int 1)))) (s_cons (s_2 o_mulW (s_tup (s_cons (s_c (.int 0)) s_nil)) (s_2 o_sub (s_var 1) (s_c (.int 1)))) (s_cons (s_c (.int 0)) s_nil)))))))) (z_if (u := false) (c := false) (s_tof (s_2 o_ne (s_heard (s_fn sim_leads (s_cons (s_var 1) (s_cons (s_2 o_add (s_var 6) (s_tup (s_cons (s_var 7) s_nil))) (s_cons (s_c .non) s_nil))))) (s_tup (s_cons (s_c (.str "rows")) (s_cons (s_call o_len (s_cons (s_var 6) s_nil)) s_nil))))) (z_ret (u := false) (c := false) (s_c (.bl false))) z_skip)) (z_seq (z_for (u := false) (i_seq (s_f (s_lst (s_cons (s_c .non) (s_cons (s_2 o_mulW (s_tup (s_cons (s_c (.int 0)) s_nil)) (s_2 o_add (s_var 1) (s_c (.int 1)))) (s_cons (s_tup s_nil) (s_cons (s_c (.int 1)) s_nil))))))) (z_if (u := false) (c := false) (s_tof (s_2 o_ne (s_heard (s_fn sim_leads (s_cons (s_var 1) (s_cons (s_var 6) (s_cons (s_var 7) s_nil))))) (s_tup (s_cons (s_c (.str "row")) (s_cons (s_1 o_neg (s_c (.int 1))) s_nil))))) (z_ret (u := false) (c := false) (s_c (.bl false))) z_skip)) (z_ret (u := false) (c := false) (s_2 o_eq (s_heard (s_fn sim_leads (s_cons (s_var 1) (s_cons (s_var 6) (s_cons (s_var 5) s_nil))))) (s_tup (s_cons (s_c (.str "row")) (s_cons (s_var 2) s_nil))))))))))))))
noncomputable def v_law : VS := (wSeq (wFor (viRg1 (vaCons (vCall tMax (vaCons (vC (.int 1)) (vaCons (vCall tMin (vaCons (vCall tLen (vaCons (vVar 0) vaNil)) (vaCons (vC (.int 2)) vaNil))) vaNil))) vaNil)) (.nm 1) (wSeq (wSet 2 (vFn p__law_pool (vaCons (vVar 0) (vaCons (vVar 1) vaNil)))) (wSeq (wSet 3 (v2 tAdd (vC (.int 1)) (vFn p__law_take (vaCons (vVar 2) (vaCons (vC (.int 4)) vaNil))))) (wSeq (wIf (vtOr (vtNot (vtOf (vFn p__law_small_right (vaCons (vVar 2) (vaCons (vVar 3) vaNil))))) (vtNot (vtOf (vFn p__law_wide_right (vaCons (vVar 2) (vaCons (v2 tAdd (vC (.int 5)) (vFn p__law_take (vaCons (vVar 2) (vaCons (vC (.int 2)) vaNil)))) vaNil)))))) (wRet (vC (.bl false))) wSkip) (wIf (vtNot (vtOf (vFn p__law_doors_right (vaCons (vVar 2) (vaCons (vVar 3) vaNil))))) (wRet (vC (.bl false))) wSkip))))) (wRet (vC (.bl true))))
noncomputable def p_law : PF := pf false 1 4 v_law
theorem e_law : p_law = pf false 1 4 (wSeq (wFor (viRg1 (vaCons (vCall tMax (vaCons (vC (.int 1)) (vaCons (vCall tMin (vaCons (vCall tLen (vaCons (vVar 0) vaNil)) (vaCons (vC (.int 2)) vaNil))) vaNil))) vaNil)) (.nm 1) (wSeq (wSet 2 (vFn p__law_pool (vaCons (vVar 0) (vaCons (vVar 1) vaNil)))) (wSeq (wSet 3 (v2 tAdd (vC (.int 1)) (vFn p__law_take (vaCons (vVar 2) (vaCons (vC (.int 4)) vaNil))))) (wSeq (wIf (vtOr (vtNot (vtOf (vFn p__law_small_right (vaCons (vVar 2) (vaCons (vVar 3) vaNil))))) (vtNot (vtOf (vFn p__law_wide_right (vaCons (vVar 2) (vaCons (v2 tAdd (vC (.int 5)) (vFn p__law_take (vaCons (vVar 2) (vaCons (vC (.int 2)) vaNil)))) vaNil)))))) (wRet (vC (.bl false))) wSkip) (wIf (vtNot (vtOf (vFn p__law_doors_right (vaCons (vVar 2) (vaCons (vVar 3) vaNil))))) (wRet (vC (.bl false))) wSkip))))) (wRet (vC (.bl true)))) := Eq.trans rfl rfl
theorem sim_law : FnS false d_law p_law := fn_S (fs := false) (MS := []) (n := 4) (m := m_law) (v := v_law) (np := 1) (
  (z_seq (z_for (u := false) (i_rg1 (s_cons (s_call o_max (s_cons (s_c (.int 1)) (s_cons (s_call o_min (s_cons (s_call o_len (s_cons (s_var 0) s_nil)) (s_cons (s_c (.int 2)) s_nil))) s_nil))) s_nil)) (z_seq (z_set (u := false) (i := 2) (s_fn sim__law_pool (s_cons (s_var 0) (s_cons (s_var 1) s_nil)))) (z_seq (z_set (u := false) (i := 3) (s_2 o_add (s_c (.int 1)) (s_fn sim__law_take (s_cons (s_var 2) (s_cons (s_c (.int 4)) s_nil))))) (z_seq (z_if (u := false) (c := false) (s_tor (s_tnot (s_tof (s_fn sim__law_small_right (s_cons (s_var 2) (s_cons (s_var 3) s_nil))))) (s_tnot (s_tof (s_fn sim__law_wide_right (s_cons (s_var 2) (s_cons (s_2 o_add (s_c (.int 5)) (s_fn sim__law_take (s_cons (s_var 2) (s_cons (s_c (.int 2)) s_nil)))) s_nil)))))) (z_ret (u := false) (c := false) (s_c (.bl false))) z_skip) (z_if (u := false) (c := false) (s_tnot (s_tof (s_fn sim__law_doors_right (s_cons (s_var 2) (s_cons (s_var 3) s_nil))))) (z_ret (u := false) (c := false) (s_c (.bl false))) z_skip))))) (z_ret (u := false) (c := false) (s_c (.bl true)))))
end Rol.G

local macro_rules
  | `(tactic| simp! only [$xs,*]) => `(tactic| simp only [Rol.q_wRel, Rol.q_vFnFl, Rol.q_vtIf, Rol.q_wDPut, Rol.q_vDNewK, Rol.q_vDNewX, Rol.q_pf, Rol.q_wTry, Rol.q_catch0, Rol.q_catch1, Rol.An.t, Rol.An.tL, Rol.q_wSeq, Rol.q_wExpr, Rol.q_wRet, Rol.q_wRetN, Rol.q_wIf, Rol.q_wSet, Rol.q_wAsg, Rol.q_wPar, Rol.q_wParM, Rol.q_wMove, Rol.q_wAug, Rol.q_wApp, Rol.q_wExt, Rol.q_wPut, Rol.q_wFor, Rol.q_wSkip, Rol.q_wRaise, Rol.q_wBk, Rol.q_wCt, Rol.q_vVar, Rol.q_vC, Rol.q_vaNil, Rol.q_vaCons, Rol.q_vTup, Rol.q_vLst, Rol.q_v2, Rol.q_v1, Rol.q_vCall, Rol.q_vFn, Rol.q_vFnK, Rol.q_vFl, Rol.q_vtOf, Rol.q_vtNot, Rol.q_vtAnd, Rol.q_vtOr, Rol.q_vtYes, Rol.q_vAnd, Rol.q_vOr, Rol.q_vNot, Rol.q_vIf, Rol.q_vChain, Rol.q_voNone, Rol.q_voSome, Rol.q_vSl, Rol.q_viSeq, Rol.q_viRg1, Rol.q_viRg2, Rol.q_viZip, Rol.q_viEnum, Rol.q_vComp, Rol.q_vComp2, Rol.q_vLock, Rol.q_wLock, Rol.q_viWalk, Rol.itK, Rol.q_vSortDict, Rol.q_vPop0, Rol.q_vPop, Rol.q_vRepL, Rol.setMany, Rol.lstAt, Rol.wipeE, Rol.setT, Rol.setTs, Rol.tB, Rol.tI?, Rol.itT, Rol.seqT, Rol.q_Ok, Rol.q_Ok0, Option.bind_some, List.map_cons, List.map_nil, List.length_cons, List.length_nil, List.replicate, List.cons_append, List.nil_append, List.append_nil, List.getElem?_cons_zero, List.getElem?_cons_succ, List.getElem?_nil, List.set_cons_zero, List.set_cons_succ, List.zip_cons_cons, List.zip_nil_left, List.zip_nil_right, List.foldl_cons, List.foldl_nil, Nat.zero_add, Nat.reduceAdd, Nat.reduceSub, true_and, if_true, reduceIte, Bool.false_eq_true, Bool.not_true, Bool.not_false, Bool.true_eq_false, if_false, $xs,*])
namespace Rol.G
open PySem L2 PySem.Spec Rol
open PyProof.Rows hiding St
theorem log_ok {t : Int} (h0 : 0 < t) (h1 : t ≤ 1000000000000) : t.natAbs.log2 < 9000 := by
  have := (Nat.log2_lt (n := t.natAbs) (k := 64) (by omega)).mpr (by omega)
  omega
theorem take_s {top : Int} {Q : T → Prop} {X : Xp} (h0 : 0 < top) (h1 : top ≤ 1000000000000) (h : ∀ d, 0 ≤ d → d < top → Q (.int d)) : p__law_take [.jar, .int top] Q X := ⟨top, rfl, h0, log_ok h0 h1, h⟩
/-- the drawn number as a natural one -/
theorem take_n {top : Nat} {Q : T → Prop} {X : Xp} (h0 : 0 < top) (h1 : top ≤ 1000000000000) (h : ∀ d : Nat, d < top → Q (.int d)) : p__law_take [.jar, .int top] Q X := take_s (by omega) (by omega) fun d h0 h1 => by
  have := h d.toNat (by omega)
  rwa [show ((d.toNat : Nat) : Int) = d by omega] at this
theorem one_s {xs : List T} {Q : T → Prop} {X : Xp} (h0 : 0 < xs.length) (h1 : xs.length ≤ 1000000) (h : ∀ x ∈ xs, Q x) : p__law_one [.jar, .lst xs] Q X := by
  simp! only [e__law_one,  tSub, tI2, tB2, tGe, tGt, tNeg, tLen, tInt, tTuple, tList, tMax, tMin, tAbs, tIsN, tNotN, tEq_int, tNe_int, tEq_str, tNe_str, tAddI]
  refine take_n h0 (by omega) fun d hd => ?_
  rw [tIx, ix_of hd]
  exact h _ (List.getElem_mem hd)
theorem rep_zero {n : Nat} (h : n ≤ 6) : tMulW (.tup [.int 0]) (.int n) = some (row (zero n)) := by
  rw [tMul_tup (by omega) (by omega) (by simp; omega), Int.toNat_natCast, rep_one]
  unfold row zero
  rw [List.map_replicate]
theorem llevel_s {n : Nat} (h : n ≤ 6) {Q : T → Prop} {X : Xp} (q : Q (row (zero n))) : p__law_level [.int n] Q X := by
  simp! only [e__law_level]
  refine ⟨by decide, ?_⟩
  rw [rep_zero h]
  exact q
theorem any_row_s {n : Nat} (h : n ≤ 6) {Q : T → Prop} {X : Xp} (q : ∀ r, Row n r → Q (row r)) : p__law_any_row [.jar, .int n] Q X := by
  simp! only [e__law_any_row,  tSub, tI2, tB2, tGe, tGt, tNeg, tLen, tInt, tTuple, tList, tMax, tMin, tAbs, tIsN, tNotN, tEq_int, tNe_int, tEq_str, tNe_str, tAddI]
  refine ⟨by omega, ?_⟩
  rw [irange_T, Int.toNat_natCast]
  refine comp_of (fun _ y => ∃ z, y = T.int z ∧ Sgn z) (by simp; exact Nat.le_trans h (by decide)) (fun t ht N hN => ?_) fun ys hys => ?_
  · obtain ⟨i, _, rfl⟩ := List.mem_map.mp ht
    simp! only []
    exact take_s (by decide) (by decide) fun d d0 d1 => hN _ ⟨d - 1, rfl, by unfold Sgn; omega⟩
  · obtain ⟨r, rfl, hr, hl⟩ : ∃ r : List Int, ys = r.map T.int ∧ Sr r ∧ r.length = ys.length := by
      clear q
      have hl := hys.length
      generalize (List.range n).map (fun (i : Nat) => T.int (i : Int)) = l at hys
      clear hl
      induction hys with
      | nil => exact ⟨[], rfl, fun z hz => (by cases hz), rfl⟩
      | cons h1 _ ih =>
        obtain ⟨z, rfl, hz⟩ := h1
        obtain ⟨r, rfl, h2, h3⟩ := ih
        exact ⟨z :: r, rfl, fun y hy => (List.mem_cons.mp hy).elim (fun e => e ▸ hz) (h2 y), by simp⟩
    simp! only []
    refine q r ⟨hr, ?_⟩
    have := hys.length
    rw [List.length_map] at hl
    simp at this
    exact this
theorem seqIndex_nat {d n : Nat} (h : d < n) : seqIndex? (d : Int) n = some d := by
  unfold seqIndex?
  have h1 : ¬ ((d : Int) < 0) := by omega
  simp [h1, h]
theorem perm_pop {xs ys left : List T} {d : Nat} (hd : d < left.length) (h : (ys ++ left).Perm xs) : ((ys ++ [left[d]]) ++ left.eraseIdx d).Perm xs := by
  refine List.Perm.trans ?_ h
  rw [List.append_assoc]
  refine List.Perm.append_left ys ?_
  have e : left = left.take d ++ left[d] :: left.drop (d + 1) := by
    rw [← List.drop_eq_getElem_cons hd, List.take_append_drop]
  rw [List.eraseIdx_eq_take_drop_succ]
  have p : ([left[d]] ++ (left.take d ++ left.drop (d + 1))).Perm (left.take d ++ left[d] :: left.drop (d + 1)) := by
    rw [List.singleton_append]
    exact (List.perm_middle).symm
  rw [← e] at p
  exact p
/-- drawn orders -/
theorem mixed_core {xs : List T} (hl : xs.length ≤ 1000000) {a : Option T} {Q : T → Prop} {X : Xp} (q : ∀ ys, List.Perm ys xs → Q (.lst ys)) :
    vForL (.nm 4) (wApp 3 (vPop 2 (vFn p__law_take (vaCons (vVar 0) (vaCons (vFl (vCall tLen (vaCons (vVar 2) vaNil))) vaNil))))) (vrange 0 xs.length) [some .jar, a, some (.lst xs), some (.lst []), none] ⟨fun E => wRet (vVar 3) E ⟨fun _ => False, Q, fun _ => False, fun _ => False, X⟩, Q, fun _ => False, fun _ => False, X⟩ := by
  refine for_of (fun d E => ∃ left fnd v, E = [some .jar, a, some (.lst left), some (.lst fnd), v] ∧ (fnd ++ left).Perm xs ∧ fnd.length = d.length) ⟨xs, [], none, rfl, by simp, rfl⟩ (fun d t r E N hd ⟨left, fnd, v, hE, hp, hlen⟩ hN => ?_) fun E ⟨left, fnd, v, hE, hp, hlen⟩ => ?_
  · subst hE
    have hl2 := hp.length_eq
    have hdl := congrArg List.length hd
    simp only [vrange, List.length_map, List.length_range, List.length_append, List.length_cons] at hdl hl2
    simp! only [ tSub, tI2, tB2, tGe, tGt, tNeg, tLen, tInt, tTuple, tList, tMax, tMin, tAbs, tIsN, tNotN, tEq_int, tNe_int, tEq_str, tNe_str, tAddI, T.flat]
    refine take_n (by omega) (by omega) fun k hk => ?_
    simp! only []
    rw [seqIndex_nat hk]
    simp! only []
    refine ⟨by omega, ?_⟩
    rw [List.getElem?_eq_getElem hk]
    simp! only []
    refine ⟨Nat.lt_of_lt_of_le (by omega : fnd.length < 1000001) (by decide), hN _ ⟨_, _, _, rfl, perm_pop hk hp, by simp [hlen]⟩⟩
  · subst hE
    simp! only []
    have hz : left = [] := by
      have := hp.length_eq
      simp only [vrange, List.length_map, List.length_range, List.length_append] at hlen this
      exact List.eq_nil_of_length_eq_zero (by omega)
    subst hz
    rw [List.append_nil] at hp
    exact q fnd hp
theorem mixed_t {xs : List T} (hl : xs.length ≤ 1000000) {Q : T → Prop} {X : Xp} (q : ∀ ys, List.Perm ys xs → Q (.lst ys)) : p__law_mixed [.jar, .tup xs] Q X := by
  have g := mixed_core hl (a := some (.tup xs)) (Q := Q) (X := X) q
  simp only [e__law_mixed, q_wRel, q_vFnFl, q_vtIf, q_wDPut, q_vDNewK, q_vDNewX, q_pf, q_wTry, q_catch0, q_catch1, An.t, An.tL, q_wSeq, q_wExpr, q_wRet, q_wRetN, q_wIf, q_wSet, q_wAsg, q_wPar, q_wParM, q_wMove, q_wAug, q_wApp, q_wExt, q_wPut, q_wFor, q_wSkip, q_wRaise, q_wBk, q_wCt, q_vVar, q_vC, q_vaNil, q_vaCons, q_vTup, q_vLst, q_v2, q_v1, q_vCall, q_vFn, q_vFnK, q_vFl, q_vtOf, q_vtNot, q_vtAnd, q_vtOr, q_vtYes, q_vAnd, q_vOr, q_vNot, q_vIf, q_vChain, q_voNone, q_voSome, q_vSl, q_viSeq, q_viRg1, q_viRg2, q_viZip, q_viEnum, q_vComp, q_vComp2, q_vLock, q_wLock, q_viWalk, itK, q_vSortDict, q_vPop0, q_vPop, q_vRepL, setMany, lstAt, wipeE, setT, setTs, tB, tI?, itT, seqT, q_Ok, q_Ok0, Option.bind_some, List.map_cons, List.map_nil, List.length_cons, List.length_nil, List.replicate, List.cons_append, List.nil_append, List.append_nil, List.getElem?_cons_zero, List.getElem?_cons_succ, List.getElem?_nil, List.set_cons_zero, List.set_cons_succ, List.zip_cons_cons, List.zip_nil_left, List.zip_nil_right, List.foldl_cons, List.foldl_nil, Nat.zero_add, Nat.reduceAdd, Nat.reduceSub, true_and, if_true, reduceIte, Bool.false_eq_true, Bool.not_true, Bool.not_false, Bool.true_eq_false, if_false, tSub, tI2, tB2, tGe, tGt, tNeg, tLen, tInt, tTuple, tList, tMax, tMin, tAbs, tIsN, tNotN, tEq_int, tNe_int, tEq_str, tNe_str, tAddI] at g ⊢
  exact ⟨Nat.zero_le _, by omega, g⟩
theorem row_ne {n : Nat} (h0 : 1 ≤ n) {r : List Int} (h : Row n r) : r ≠ [] := fun e => by
  have := h.2
  rw [e] at this
  simp at this
  omega
theorem add_row {a b : List Int} (h : a.length + b.length ≤ 1000000) : tAdd (row a) (row b) = some (row (a ++ b)) := by
  unfold row
  rw [tAdd, if_pos (by simp only [List.length_map]; exact Nat.le_trans h (by decide)), List.map_append]
theorem signs_s {Q : T → Prop} {X : Xp} (q1 : Q (.int 1)) (q2 : Q (.int (-1))) : p__law_one [.jar, .lst [.int 1, .int (-1)]] Q X := one_s (by decide) (by decide) fun x hx => by
  rcases List.mem_cons.mp hx with rfl | hx
  · exact q1
  · rw [List.mem_singleton.mp hx]
    exact q2
end Rol.G

namespace Rol.G
open PySem L2 PySem.Spec Rol
open PyProof.Rows hiding St
theorem add_one {r : List Int} (h : r.length ≤ 1000) (z : Int) : tAdd (row r) (.tup [.int z]) = some (row (r ++ [z])) := add_row (a := r) (b := [z]) (by simp; omega)
def Full (n : Nat) (L : List (Nat × Int)) : Prop := List.Perm (L.map (·.1)) (List.range n) ∧ ∀ p ∈ L, p.2 = 1 ∨ p.2 = -1
theorem Full.len {n : Nat} {L : List (Nat × Int)} (h : Full n L) : L.length = n := by
  have := h.1.length_eq
  simpa using this
theorem Full.lt {n : Nat} {L : List (Nat × Int)} (h : Full n L) {p : Nat × Int} (hp : p ∈ L) : p.1 < n := by
  have : p.1 ∈ List.range n := h.1.mem_iff.mp (List.mem_map.mpr ⟨p, hp, rfl⟩)
  exact List.mem_range.mp this
theorem Full.nodup {n : Nat} {L : List (Nat × Int)} (h : Full n L) : (L.map (·.1)).Nodup := h.1.nodup_iff.mpr List.nodup_range
/-- a row climbs a ladder -/
def Climbs (L : List (Nat × Int)) (r : List Int) : Prop := ∃ A p B, L = A ++ p :: B ∧ (∀ q ∈ A, r.getD q.1 0 = 0) ∧ r.getD p.1 0 = p.2
theorem Climbs.ne {n : Nat} {L : List (Nat × Int)} {r : List Int} (h : Climbs L r) (hs : ∀ p ∈ L, p.2 = 1 ∨ p.2 = -1) : r ≠ zero n := by
  rintro rfl
  obtain ⟨A, p, B, rfl, _, h2⟩ := h
  have := hs p (by simp)
  have e : (zero n).getD p.1 0 = 0 := by
    unfold zero
    rw [List.getD_eq_getElem?_getD, List.getElem?_replicate]
    split <;> rfl
  rw [e] at h2
  omega
end Rol.G

namespace Rol.G
open PySem L2 PySem.Spec Rol
open PyProof.Rows hiding St
theorem srt_lot {n : Nat} {rs : List (List Int)} (h : ∀ r ∈ rs, Row n r) : Lot n (srt rs) := ⟨srt_rising rs, fun r hr => h r ((mem_srt rs r).mp hr)⟩
theorem add_lst {xs ys : List T} (h : xs.length + ys.length ≤ 1000000) : tAdd (.lst xs) (.lst ys) = some (.lst (xs ++ ys)) := by
  rw [tAdd, if_pos (Nat.le_trans h (by decide))]
theorem line_row_s {n : Nat} (h : n ≤ 6) {r : List Int} (hr : Row n r) {ms : List Nat} {Q : T → Prop} {X : Xp} (q : ∀ r', Row n r' → (r ≠ zero n → r' ≠ zero n) → Q (row r')) : p__law_line_row [.jar, row r, .lst (ms.map fun (k : Nat) => T.int (k : Int))] Q X := by
  simp! only [e__law_line_row,  tSub, tI2, tB2, tGe, tGt, tNeg, tLen, tInt, tTuple, tList, tMax, tMin, tAbs, tIsN, tNotN, tEq_int, tNe_int, tEq_str, tNe_str, tAddI, List.length_map]
  rw [hr.2]
  refine ⟨by omega, ?_⟩
  rw [irange_T, Int.toNat_natCast]
  refine comp_md (fun (i : Nat) => T.int (i : Int)) T.int (fun i z => Sgn z ∧ (r.getD i 0 ≠ 0 → z ≠ 0)) (by simp; exact Nat.le_trans h (by decide)) (fun i hi N hN => ?_) fun ys hys => ?_
  · have hin := List.mem_range.mp hi
    have hil : i < r.length := by rw [hr.2]; exact hin
    have e0 : r.getD i 0 = r[i] := by simp [List.getD_eq_getElem?_getD, hil]
    have hs := hr.1 r[i] (List.getElem_mem hil)
    simp! only [ tSub, tI2, tB2, tGe, tGt, tNeg, tLen, tInt, tTuple, tList, tMax, tMin, tAbs, tIsN, tNotN, tEq_int, tNe_int, tEq_str, tNe_str, tAddI]
    rw [tIx_row hil]
    simp! only [ tSub, tI2, tB2, tGe, tGt, tNeg, tLen, tInt, tTuple, tList, tMax, tMin, tAbs, tIsN, tNotN, tEq_int, tNe_int, tEq_str, tNe_str, tAddI]
    have em : List.map (fun (k : Nat) => T.int (k : Int)) ms = (ms.map fun (k : Nat) => (k : Int)).map T.int := by rw [List.map_map]; rfl
    rw [em, tIn_lint]
    simp! only []
    by_cases hz : r[i] = 0
    · rw [decide_eq_true hz]
      simp! only []
      split
      · exact ⟨by decide, signs_s (hN 1 ⟨.inr (.inr rfl), fun z => by rw [e0] at z; exact absurd hz z⟩) (hN (-1) ⟨.inl rfl, fun z => by rw [e0] at z; exact absurd hz z⟩)⟩
      · exact hN _ ⟨hs, fun z => by rw [e0] at z; exact z⟩
    · rw [decide_eq_false hz]
      simp! only []
      exact hN _ ⟨hs, fun _ => hz⟩
  · simp! only [ tSub, tI2, tB2, tGe, tGt, tNeg, tLen, tInt, tTuple, tList, tMax, tMin, tAbs, tIsN, tNotN, tEq_int, tNe_int, tEq_str, tNe_str, tAddI]
    have hl := hys.length
    rw [List.length_range] at hl
    have key : ∀ (xs : List Nat) (zs : List Int), Pd (fun i z => Sgn z ∧ (r.getD i 0 ≠ 0 → z ≠ 0)) xs zs → Sr zs ∧ (∀ k (hk : k < xs.length), r.getD xs[k] 0 ≠ 0 → zs.getD k 0 ≠ 0) := by
      intro xs zs hp
      induction hp with
      | nil => exact ⟨fun z hz => (by cases hz), fun k hk => absurd hk (Nat.not_lt_zero _)⟩
      | cons h1 _ ih =>
        refine ⟨fun z hz => ?_, fun k hk hz => ?_⟩
        · rcases List.mem_cons.mp hz with rfl | hz
          · exact h1.1
          · exact ih.1 z hz
        · cases k with
          | zero => exact h1.2 hz
          | succ k => exact ih.2 k (by simpa using hk) (by simpa using hz)
    have kk := key _ _ hys
    refine q ys ⟨kk.1, hl⟩ fun hne e => hne ?_
    apply List.ext_getElem
    · rw [hr.2]; unfold zero; rw [List.length_replicate]
    · intro k hk1 hk2
      have hkn : k < n := by rw [hr.2] at hk1; exact hk1
      have hz0 : (zero n)[k] = 0 := by simp [zero]
      rw [hz0]
      apply Classical.byContradiction
      intro hz
      have := kk.2 k (by simpa using hkn) (by simp [List.getD_eq_getElem?_getD, hk1, hz])
      rw [e] at this
      simp [zero, List.getD_eq_getElem?_getD, hkn] at this
end Rol.G

namespace Rol.G
open PySem L2 PySem.Spec Rol
open PyProof.Rows hiding St
end Rol.G

namespace Rol
open PySem L2 PySem.Spec
open PyProof.Rows hiding St

/-- a plain value: k deep at most, its text m long at most -/
inductive Gu : Nat → Nat → T → Prop
  | non {k m : Nat} : 20 ≤ m → Gu k m .non
  | bl {k m : Nat} {b : Bool} : 20 ≤ m → Gu k m (.bl b)
  | int {k m : Nat} {i : Int} : i.natAbs.log2 < 1920 → (PyData.shown (.int i)).length ≤ m → Gu k m (.int i)
  | str {k m : Nat} {x : Str} : PyData.canLay0 (.str x) = true → (PyData.shown (.str x)).length ≤ m → Gu k m (.str x)
  | tup {k m n : Nat} {xs : List T} : (∀ x ∈ xs, Gu k m x) → xs.length * (m + 2) + 3 ≤ n → Gu (k + 1) n (.tup xs)
theorem Gu.mono {k m k' m' : Nat} {t : T} (h : Gu k m t) (hk : k ≤ k') (hm : m ≤ m') : Gu k' m' t := by
  induction h generalizing k' m' with
  | non h => exact .non (Nat.le_trans h hm)
  | bl h => exact .bl (Nat.le_trans h hm)
  | int h1 h2 => exact .int h1 (Nat.le_trans h2 hm)
  | str h1 h2 => exact .str h1 (Nat.le_trans h2 hm)
  | tup h1 h2 ih =>
    obtain ⟨j, rfl⟩ : ∃ j, k' = j + 1 := ⟨k' - 1, by omega⟩
    exact .tup (fun x hx => ih x hx (by omega) (Nat.le_refl _)) (Nat.le_trans h2 hm)
/-- its data -/
structure GuP (k m : Nat) (t : T) (d : PyData) : Prop where
  to : ∀ n, k ≤ n → toPT n t = some d
  lay : d.canLay0 = true
  sho : d.showable = true
  dep : d.depth ≤ k
  len : d.shown.length ≤ m
theorem gd_list {k m : Nat} : ∀ {xs : List T}, (∀ x ∈ xs, ∃ d, GuP k m x d) → ∃ ds, (∀ n, k ≤ n → optAll (toPT n) xs = some ds) ∧ PyData.canLayAll0 ds = true ∧ PyData.showableAll ds = true ∧ PyData.depthAll ds ≤ k ∧ ((PyData.shownAll ds).map (·.length)).sum ≤ xs.length * m ∧ (PyData.shownAll ds).length = xs.length
  | [], _ => ⟨[], fun _ _ => rfl, rfl, rfl, by simp [PyData.depthAll], by simp [PyData.shownAll], rfl⟩
  | x :: xs, h => by
    obtain ⟨d, g⟩ := h x List.mem_cons_self
    obtain ⟨ds, h1, h2, h3, h4, h5, h6⟩ := gd_list (xs := xs) fun y hy => h y (List.mem_cons_of_mem _ hy)
    refine ⟨d :: ds, fun n hn => ?_, ?_, ?_, ?_, ?_, ?_⟩
    · rw [optAll, g.to n hn, h1 n hn]
    · simp [PyData.canLayAll0, g.lay, h2]
    · simp [PyData.showableAll, g.sho, h3]
    · rw [PyData.depthAll]
      exact Nat.max_le.mpr ⟨g.dep, h4⟩
    · rw [PyData.shownAll, List.map_cons, List.sum_cons, List.length_cons, Nat.succ_mul]
      have := g.len
      omega
    · rw [PyData.shownAll, List.length_cons, List.length_cons, h6]
theorem Gu.data {k m : Nat} {t : T} (h : Gu k m t) : ∃ d, GuP k m t d := by
  induction h with
  | non h => exact ⟨.none, fun n _ => by cases n <;> rfl, rfl, rfl, by simp [PyData.depth], Nat.le_trans (by decide) h⟩
  | @bl k m b h => exact ⟨.bool b, fun n _ => by cases n <;> rfl, rfl, rfl, by simp [PyData.depth], Nat.le_trans (by cases b <;> decide) h⟩
  | @int k m i h1 h2 => exact ⟨.int i, fun n _ => by cases n <;> rfl, rfl, by simp [PyData.showable, h1], by simp [PyData.depth], h2⟩
  | @str k m x h1 h2 => exact ⟨.str x, fun n _ => by cases n <;> rfl, h1, rfl, by simp [PyData.depth], h2⟩
  | @tup k m n xs h1 h2 ih =>
    obtain ⟨ds, e1, e2, e3, e4, e5, e6⟩ := gd_list ih
    refine ⟨.tuple ds, fun j hj => ?_, ?_, ?_, ?_, ?_⟩
    · obtain ⟨i, rfl⟩ : ∃ i, j = i + 1 := ⟨j - 1, by omega⟩
      rw [toPT, e1 i (by omega)]
      rfl
    · rw [PyData.canLay0]; exact e2
    · rw [PyData.showable]; exact e3
    · rw [PyData.depth]; omega
    · rw [PyData.shown]
      refine Nat.le_trans (tupleText_len_le _) ?_
      rw [e6, Nat.mul_add] at *
      omega
theorem GuP.noDict {k m : Nat} {t : T} {d : PyData} (h : GuP k m t d) : d.hasDict = false := PyData.hasDict_of_canLay d h.lay
theorem GuP.shaped {k m : Nat} {t : T} {d : PyData} (h : GuP k m t d) (hk : k ≤ 64) : SeqAt.shaped d = true := by
  unfold SeqAt.shaped
  rw [h.lay, decide_eq_true (Nat.le_trans h.dep hk)]
  rfl
/-- repr -/
theorem repr_gu {k m : Nat} {t : T} (h : Gu k m t) (hk : k ≤ 64) (hm : m ≤ 16000000) : ∃ s, tRepr [t] = some (.str s) := by
  obtain ⟨d, g⟩ := h.data
  refine ⟨d.shown, ?_⟩
  unfold tRepr
  simp only [g.to 64 hk]
  exact if_pos ⟨g.sho, g.noDict, Nat.le_trans g.dep (by omega), Nat.le_trans g.len (Nat.le_trans hm (by rw [sizeLine_eq]; decide))⟩
def T.isTup : T → Bool
  | .tup _ => true
  | _ => false
def T.isNum : T → Bool
  | .int _ => true
  | _ => false
def T.isBl : T → Bool
  | .bl _ => true
  | _ => false
theorem kb_1 : kitB "NoneType" "tuple" = some false := by decide +kernel
theorem kb_2 : kitB "bool" "tuple" = some false := by decide +kernel
theorem kb_3 : kitB "int" "tuple" = some false := by decide +kernel
theorem kb_4 : kitB "str" "tuple" = some false := by decide +kernel
theorem kb_5 : kitB "tuple" "tuple" = some true := by decide +kernel
theorem kb_6 : kitB "NoneType" "int" = some false := by decide +kernel
theorem kb_7 : kitB "bool" "int" = some true := by decide +kernel
theorem kb_8 : kitB "int" "int" = some true := by decide +kernel
theorem kb_9 : kitB "str" "int" = some false := by decide +kernel
theorem kb_10 : kitB "tuple" "int" = some false := by decide +kernel
theorem kb_11 : kitB "NoneType" "bool" = some false := by decide +kernel
theorem kb_12 : kitB "bool" "bool" = some true := by decide +kernel
theorem kb_13 : kitB "int" "bool" = some false := by decide +kernel
theorem kb_14 : kitB "str" "bool" = some false := by decide +kernel
theorem kb_15 : kitB "tuple" "bool" = some false := by decide +kernel
theorem isi_tup {k m : Nat} {t : T} (h : Gu k m t) : tIsi [t, .opq (.ty "tuple")] = some (.bl t.isTup) := by
  cases h <;> simp [tIsi, tyNameT, T.isTup, kb_1, kb_2, kb_3, kb_4, kb_5]
theorem isi_int {k m : Nat} {t : T} (h : Gu k m t) : tIsi [t, .opq (.ty "int")] = some (.bl (t.isNum || t.isBl)) := by
  cases h <;> simp [tIsi, tyNameT, T.isNum, T.isBl, kb_6, kb_7, kb_8, kb_9, kb_10]
theorem isi_bl {k m : Nat} {t : T} (h : Gu k m t) : tIsi [t, .opq (.ty "bool")] = some (.bl t.isBl) := by
  cases h <;> simp [tIsi, tyNameT, T.isBl, kb_11, kb_12, kb_13, kb_14, kb_15]
theorem gd_small {k m : Nat} {i : Int} (h : -1000 < i ∧ i < 1000) (hm : 13 ≤ m) : Gu k m (.int i) := .int (by have := log_small h; omega) (Nat.le_trans (short_shown h) hm)
theorem gd_row {n m : Nat} {r : List Int} (h : G.Sr r) (hl : r.length ≤ n) (hm : n * 15 + 3 ≤ m) : Gu 1 m (row r) := by
  refine .tup (k := 0) (m := 13) (fun x hx => ?_) ?_
  · obtain ⟨i, hi, rfl⟩ := List.mem_map.mp hx
    refine gd_small ?_ (Nat.le_refl _)
    rcases h i hi with rfl | rfl | rfl <;> decide
  · rw [List.length_map]
    exact Nat.le_trans (Nat.add_le_add_right (Nat.mul_le_mul_right _ hl) _) hm
end Rol

namespace Rol.G
open PySem L2 PySem.Spec Rol
open PyProof.Rows hiding St
theorem is_number_s {k m : Nat} {t : T} (h : Gu k m t) {Q : T → Prop} {X : Xp} (q : Q (.bl t.isNum)) : p_is_number [t] Q X := by
  simp! only [e_is_number,  tSub, tI2, tB2, tGe, tGt, tNeg, tLen, tInt, tTuple, tList, tMax, tMin, tAbs, tIsN, tNotN, tEq_int, tNe_int, tEq_str, tNe_str, tAddI, isi_int h, isi_bl h]
  cases h <;> simpa [T.isNum, T.isBl] using q
def many : T → Bool
  | .int i => decide (1 ≤ i) && decide (i ≤ 6)
  | _ => false
theorem many_iff {t : T} : many t = true ↔ ∃ n : Nat, t = .int n ∧ 1 ≤ n ∧ n ≤ 6 := by
  constructor
  · intro h
    unfold many at h
    split at h
    · rename_i i
      simp at h
      exact ⟨i.toNat, by congr 1; omega, by omega, by omega⟩
    · cases h
  · rintro ⟨n, rfl, h1, h2⟩
    simp [many]
    omega
theorem is_many_s {k m : Nat} {t : T} (h : Gu k m t) {Q : T → Prop} {X : Xp} (q : Q (.bl (many t))) : p_is_many [t] Q X := by
  simp! only [e_is_many]
  refine is_number_s h ?_
  simp! only []
  cases h with
  | int h1 h2 =>
    rename_i i
    simp! only [T.isNum,  tSub, tI2, tB2, tGe, tGt, tNeg, tLen, tInt, tTuple, tList, tMax, tMin, tAbs, tIsN, tNotN, tEq_int, tNe_int, tEq_str, tNe_str, tAddI, tLe_ints]
    simp only [many] at q
    by_cases z : (1 : Int) ≤ i
    · simp! only [z, decide_true]
      simpa [z] using q
    · simp! only [z, decide_false]
      simpa [z] using q
  | _ => simpa [T.isNum, many] using q
theorem ask_many_s {k m : Nat} {t : T} (h : Gu k m t) {Q : T → Prop} {X : Xp} (q : many t = true → Q .non) (x : many t = false → X "BadMany" t) : p_ask_many [t] Q X := by
  simp! only [e_ask_many]
  refine is_many_s h ?_
  simp! only []
  cases e : many t with
  | true => simpa [q_wRel, q_vFnFl, q_vtIf, q_wDPut, q_vDNewK, q_vDNewX, q_pf, q_wTry, q_catch0, q_catch1, An.t, An.tL, q_wSeq, q_wExpr, q_wRet, q_wRetN, q_wIf, q_wSet, q_wAsg, q_wPar, q_wParM, q_wMove, q_wAug, q_wApp, q_wExt, q_wPut, q_wFor, q_wSkip, q_wRaise, q_wBk, q_wCt, q_vVar, q_vC, q_vaNil, q_vaCons, q_vTup, q_vLst, q_v2, q_v1, q_vCall, q_vFn, q_vFnK, q_vFl, q_vtOf, q_vtNot, q_vtAnd, q_vtOr, q_vtYes, q_vAnd, q_vOr, q_vNot, q_vIf, q_vChain, q_voNone, q_voSome, q_vSl, q_viSeq, q_viRg1, q_viRg2, q_viZip, q_viEnum, q_vComp, q_vComp2, q_vLock, q_wLock, q_viWalk, itK, q_vSortDict, q_vPop0, q_vPop, q_vRepL, setMany, lstAt, wipeE, setT, setTs, tB, tI?, itT, seqT, q_Ok, q_Ok0, Option.bind_some, List.map_cons, List.map_nil, List.length_cons, List.length_nil, List.replicate, List.cons_append, List.nil_append, List.append_nil, List.getElem?_cons_zero, List.getElem?_cons_succ, List.getElem?_nil, List.set_cons_zero, List.set_cons_succ, List.zip_cons_cons, List.zip_nil_left, List.zip_nil_right, List.foldl_cons, List.foldl_nil, Nat.zero_add, Nat.reduceAdd, Nat.reduceSub, true_and, if_true, reduceIte, Bool.false_eq_true, Bool.not_true, Bool.not_false, Bool.true_eq_false, if_false] using q e
  | false => simpa [q_wRel, q_vFnFl, q_vtIf, q_wDPut, q_vDNewK, q_vDNewX, q_pf, q_wTry, q_catch0, q_catch1, An.t, An.tL, q_wSeq, q_wExpr, q_wRet, q_wRetN, q_wIf, q_wSet, q_wAsg, q_wPar, q_wParM, q_wMove, q_wAug, q_wApp, q_wExt, q_wPut, q_wFor, q_wSkip, q_wRaise, q_wBk, q_wCt, q_vVar, q_vC, q_vaNil, q_vaCons, q_vTup, q_vLst, q_v2, q_v1, q_vCall, q_vFn, q_vFnK, q_vFl, q_vtOf, q_vtNot, q_vtAnd, q_vtOr, q_vtYes, q_vAnd, q_vOr, q_vNot, q_vIf, q_vChain, q_voNone, q_voSome, q_vSl, q_viSeq, q_viRg1, q_viRg2, q_viZip, q_viEnum, q_vComp, q_vComp2, q_vLock, q_wLock, q_viWalk, itK, q_vSortDict, q_vPop0, q_vPop, q_vRepL, setMany, lstAt, wipeE, setT, setTs, tB, tI?, itT, seqT, q_Ok, q_Ok0, Option.bind_some, List.map_cons, List.map_nil, List.length_cons, List.length_nil, List.replicate, List.cons_append, List.nil_append, List.append_nil, List.getElem?_cons_zero, List.getElem?_cons_succ, List.getElem?_nil, List.set_cons_zero, List.set_cons_succ, List.zip_cons_cons, List.zip_nil_left, List.zip_nil_right, List.foldl_cons, List.foldl_nil, Nat.zero_add, Nat.reduceAdd, Nat.reduceSub, true_and, if_true, reduceIte, Bool.false_eq_true, Bool.not_true, Bool.not_false, Bool.true_eq_false, if_false] using x e
def sgnT : T → Bool
  | .int i => decide (i = -1 ∨ i = 0 ∨ i = 1)
  | _ => false
def rowOk (n : Nat) : T → Bool
  | .tup xs => decide (xs.length = n) && xs.all sgnT
  | _ => false
theorem all_sgn : ∀ {xs : List T}, xs.all sgnT = true ↔ ∃ r, xs = r.map T.int ∧ Sr r
  | [] => ⟨fun _ => ⟨[], rfl, fun _ h => nomatch h⟩, fun _ => rfl⟩
  | x :: xs => by
    rw [List.all_cons, Bool.and_eq_true, all_sgn (xs := xs)]
    constructor
    · rintro ⟨h1, r, rfl, h2⟩
      unfold sgnT at h1
      split at h1
      · rename_i i
        exact ⟨i :: r, rfl, fun z hz => by
          rcases List.mem_cons.mp hz with rfl | hz
          · exact of_decide_eq_true h1
          · exact h2 z hz⟩
      · cases h1
    · rintro ⟨r, e, h2⟩
      cases r with
      | nil => cases e
      | cons i r =>
        cases e
        exact ⟨decide_eq_true (h2 i (by simp)), r, rfl, fun z hz => h2 z (by simp [hz])⟩
theorem tIn_sign (neg : Bool) (i : Int) (r : List Int) : tIn neg (.int i) (row r) = some (.bl (if neg = true then !decide (i ∈ r) else decide (i ∈ r))) := by
  unfold tIn
  have e : toPT 64 (.int i) = some (.int i) := rfl
  have h := shaped_pr r
  rw [e, toPT_row]
  unfold pr at h ⊢
  simp only [shaped_int, h, and_self, if_true, any_int]
theorem pair_map : ∀ (k : Nat) (xs : List T), vpairI k xs = (xs.zipIdx k).map fun p => T.tup [.int ((p.2 : Nat) : Int), p.1]
  | _, [] => rfl
  | k, x :: xs => by
    rw [vpairI, List.zipIdx_cons, List.map_cons, pair_map (k + 1) xs]
theorem zip_split {xs : List T} {d r : List (T × Nat)} {x : T × Nat} (h : xs.zipIdx = d ++ x :: r) : x.2 = d.length ∧ xs = d.map (·.1) ++ x.1 :: r.map (·.1) := by
  have h1 : (xs.zipIdx).map (·.1) = xs := List.zipIdx_map_fst 0 xs
  have h2 : xs.zipIdx[d.length]? = some x := by rw [h]; simp
  rw [List.getElem?_zipIdx] at h2
  constructor
  · cases e : xs[d.length]? with
    | none => rw [e] at h2; cases h2
    | some y =>
      rw [e] at h2
      cases h2
      simp
  · rw [← h1, h]
    simp
/-- what is wrong, by its index; ahead: the row ahead -/
def fault (n : Nat) (lv : Bool) : Nat → List Int → List T → Option Nat
  | _, _, [] => none
  | i, ahead, t :: ts => match t with
    | .tup xs => match intsT xs with
      | some r => if rowOk n t = true then (if HT.lexLt ahead r = false then some i else if lv = false ∧ r = zero n then some i else fault n lv (i + 1) r ts) else some i
      | none => some i
    | _ => some i
end Rol.G

namespace Rol.G
open PySem L2 PySem.Spec Rol
open PyProof.Rows hiding St
/-- all sums of sums -/
inductive Cl (R : List Int → Prop) : List Int → Prop
  | base {r : List Int} : R r → Cl R r
  | sum {a b c : List Int} : Cl R a → Cl R b → c ∈ prod (List.zipWith ss a b) → Cl R c
def has (S : List (List Int)) (i : Nat) (s : Int) : Prop := ∃ r ∈ S, r.getD i 0 = s
/-- the signs of S let c come of them -/
def OkS (n : Nat) (S : List (List Int)) (c : List Int) : Prop := ∀ i, i < n → (c.getD i 0 = 0 → (has S i 1 ↔ has S i (-1))) ∧ (c.getD i 0 ≠ 0 → has S i (c.getD i 0))
theorem sgn_at {n : Nat} {r : List Int} (hr : Row n r) (k : Nat) : Sgn (r.getD k 0) := by
  by_cases h : k < r.length
  · have e : r.getD k 0 = r[k] := by simp [List.getD_eq_getElem?_getD, h]
    rw [e]
    exact hr.1 _ (List.getElem_mem h)
  · rw [List.getD_eq_getElem?_getD, List.getElem?_eq_none (by omega)]
    exact .inr (.inl rfl)
/-- a sum, place by place -/
theorem sum_iff : ∀ {n : Nat} {a b c : List Int}, a.length = n → b.length = n → (c ∈ prod (List.zipWith ss a b) ↔ c.length = n ∧ ∀ i, i < n → c.getD i 0 ∈ ss (a.getD i 0) (b.getD i 0))
  | 0, [], [], c, _, _ => by
    rw [mem_prod]
    constructor
    · intro h
      cases h
      exact ⟨rfl, fun i h => by omega⟩
    · rintro ⟨h, _⟩
      cases c with
      | nil => exact .nil
      | cons _ _ => cases h
  | n + 1, x :: a, y :: b, c, ha, hb => by
    have ih := fun c => sum_iff (n := n) (a := a) (b := b) (c := c) (by simpa using ha) (by simpa using hb)
    rw [mem_prod, List.zipWith_cons_cons]
    constructor
    · intro h
      cases h with
      | @cons z _ t _ h1 h2 =>
        obtain ⟨g1, g2⟩ := (ih t).mp ((mem_prod _ _).mpr h2)
        refine ⟨by rw [List.length_cons, g1], fun i hi => ?_⟩
        cases i with
        | zero => exact h1
        | succ i => exact g2 i (by omega)
    · rintro ⟨h1, h2⟩
      cases c with
      | nil => cases h1
      | cons z t =>
        refine .cons (h2 0 (by omega)) ((mem_prod _ _).mp ((ih t).mpr ⟨by simpa using h1, fun i hi => ?_⟩))
        exact h2 (i + 1) (by omega)
  | 0, _ :: _, _, _, h, _ => by cases h
  | 0, [], _ :: _, _, _, h => by cases h
  | _ + 1, [], _, _, h, _ => by cases h
  | _ + 1, _ :: _, [], _, _, h => by cases h
theorem ss_iff {a b z : Int} (ha : Sgn a) (hb : Sgn b) : z ∈ ss a b ↔ Sgn z ∧ (a = 0 → z = b) ∧ (b = 0 → z = a) ∧ (a = b → z = b) := by
  constructor
  · intro h
    have hz := ss_sgn ha hb h
    refine ⟨hz, ?_⟩
    rcases ha with rfl | rfl | rfl <;> rcases hb with rfl | rfl | rfl <;> rcases hz with rfl | rfl | rfl <;> revert h <;> decide
  · rintro ⟨h1, h2, h3, h4⟩
    rcases ha with rfl | rfl | rfl <;> rcases hb with rfl | rfl | rfl <;> rcases h1 with rfl | rfl | rfl <;> revert h2 h3 h4 <;> decide
theorem ss_parts {a b z : Int} (ha : Sgn a) (hb : Sgn b) (h : z ∈ ss a b) : (z = 1 → a = 1 ∨ b = 1) ∧ (z = -1 → a = -1 ∨ b = -1) ∧ (z = 0 → (a = 0 ∧ b = 0) ∨ (a = 1 ∧ b = -1) ∨ (a = -1 ∧ b = 1)) := by
  have hz := ss_sgn ha hb h
  rcases ha with rfl | rfl | rfl <;> rcases hb with rfl | rfl | rfl <;> rcases hz with rfl | rfl | rfl <;> revert h <;> decide
/-- what comes of signs at one place -/
def Al1 (p m : Prop) (z : Int) : Prop := Sgn z ∧ (z = 0 → (p ↔ m)) ∧ (z = 1 → p) ∧ (z = -1 → m)
theorem al_sum {p m : Prop} {s z : Int} (hs : Sgn s) (h : Al1 (p ∨ s = 1) (m ∨ s = -1) z) : ∃ y, Al1 p m y ∧ z ∈ ss y s := by
  obtain ⟨h0, h1, h2, h3⟩ := h
  by_cases hp : p <;> by_cases hm : m
  · rcases hs with rfl | rfl | rfl
    · exact ⟨1, ⟨by decide, by simp, by simp [hp], by simp⟩, by rw [ss_iff (by decide) (by decide)]; exact ⟨h0, by simp, by simp, by simp⟩⟩
    · exact ⟨z, ⟨h0, by simp [hp, hm], by simp [hp], by simp [hm]⟩, by rw [ss_iff h0 (by decide)]; exact ⟨h0, fun e => e, fun _ => rfl, fun e => e⟩⟩
    · exact ⟨-1, ⟨by decide, by simp, by simp, by simp [hm]⟩, by rw [ss_iff (by decide) (by decide)]; exact ⟨h0, by simp, by simp, by simp⟩⟩
  · rcases hs with rfl | rfl | rfl
    · exact ⟨1, ⟨by decide, by simp, by simp [hp], by simp⟩, by rw [ss_iff (by decide) (by decide)]; exact ⟨h0, by simp, by simp, by simp⟩⟩
    · have : z = 1 := by
        rcases h0 with rfl | rfl | rfl
        · exact absurd (h3 rfl) (by simp [hm])
        · exact absurd ((h1 rfl).mp (.inl hp)) (by simp [hm])
        · rfl
      subst this
      exact ⟨1, ⟨by decide, by simp, by simp [hp], by simp⟩, by decide⟩
    · have : z = 1 := by
        rcases h0 with rfl | rfl | rfl
        · exact absurd (h3 rfl) (by simp [hm])
        · exact absurd ((h1 rfl).mp (.inl hp)) (by simp [hm])
        · rfl
      subst this
      exact ⟨1, ⟨by decide, by simp, by simp [hp], by simp⟩, by decide⟩
  · rcases hs with rfl | rfl | rfl
    · have : z = -1 := by
        rcases h0 with rfl | rfl | rfl
        · rfl
        · exact absurd ((h1 rfl).mpr (.inl hm)) (by simp [hp])
        · exact absurd (h2 rfl) (by simp [hp])
      subst this
      exact ⟨-1, ⟨by decide, by simp, by simp, by simp [hm]⟩, by decide⟩
    · have : z = -1 := by
        rcases h0 with rfl | rfl | rfl
        · rfl
        · exact absurd ((h1 rfl).mpr (.inl hm)) (by simp [hp])
        · exact absurd (h2 rfl) (by simp [hp])
      subst this
      exact ⟨-1, ⟨by decide, by simp, by simp, by simp [hm]⟩, by decide⟩
    · exact ⟨-1, ⟨by decide, by simp, by simp, by simp [hm]⟩, by rw [ss_iff (by decide) (by decide)]; exact ⟨h0, by simp, by simp, by simp⟩⟩
  · refine ⟨0, ⟨by decide, by simp [hp, hm], by simp, by simp⟩, ?_⟩
    rcases hs with rfl | rfl | rfl
    · have : z = -1 := by
        rcases h0 with rfl | rfl | rfl
        · rfl
        · exact absurd ((h1 rfl).mpr (.inr rfl)) (by simp [hp])
        · exact absurd (h2 rfl) (by simp [hp])
      subst this
      decide
    · have : z = 0 := by
        rcases h0 with rfl | rfl | rfl
        · exact absurd (h3 rfl) (by simp [hm])
        · rfl
        · exact absurd (h2 rfl) (by simp [hp])
      subst this
      decide
    · have : z = 1 := by
        rcases h0 with rfl | rfl | rfl
        · exact absurd (h3 rfl) (by simp [hm])
        · exact absurd ((h1 rfl).mp (.inr rfl)) (by simp [hm])
        · rfl
      subst this
      decide
theorem al_join {p m p' m' : Prop} {a b z : Int} (ha : Al1 p m a) (hb : Al1 p' m' b) (h : z ∈ ss a b) : Al1 (p ∨ p') (m ∨ m') z := by
  obtain ⟨a0, a1, a2, a3⟩ := ha
  obtain ⟨b0, b1, b2, b3⟩ := hb
  obtain ⟨q1, q2, q3⟩ := ss_parts a0 b0 h
  refine ⟨ss_sgn a0 b0 h, fun e => ?_, fun e => (q1 e).elim (fun g => .inl (a2 g)) (fun g => .inr (b2 g)), fun e => (q2 e).elim (fun g => .inl (a3 g)) (fun g => .inr (b3 g))⟩
  rcases q3 e with ⟨g1, g2⟩ | ⟨g1, g2⟩ | ⟨g1, g2⟩
  · rw [a1 g1, b1 g2]
  · exact ⟨fun _ => .inr (b3 g2), fun _ => .inl (a2 g1)⟩
  · exact ⟨fun _ => .inl (a3 g1), fun _ => .inr (b2 g2)⟩
theorem okS_al {n : Nat} {S : List (List Int)} {c : List Int} (hc : Row n c) : OkS n S c ↔ ∀ i, i < n → Al1 (has S i 1) (has S i (-1)) (c.getD i 0) := by
  constructor
  · intro h i hi
    obtain ⟨h1, h2⟩ := h i hi
    exact ⟨sgn_at hc i, h1, fun e => by have := h2 (by omega); rwa [e] at this, fun e => by have := h2 (by omega); rwa [e] at this⟩
  · intro h i hi
    obtain ⟨h0, h1, h2, h3⟩ := h i hi
    refine ⟨h1, fun e => ?_⟩
    rcases h0 with z | z | z
    · rw [z]; exact h3 z
    · exact absurd z e
    · rw [z]; exact h2 z
theorem has_cons {S : List (List Int)} {r : List Int} {i : Nat} {s : Int} : has (r :: S) i s ↔ has S i s ∨ r.getD i 0 = s := by
  unfold has
  simp only [List.mem_cons, exists_eq_or_imp]
  exact Or.comm
theorem has_app {S T : List (List Int)} {i : Nat} {s : Int} : has (S ++ T) i s ↔ has S i s ∨ has T i s := by
  unfold has
  constructor
  · rintro ⟨r, hr, e⟩
    rcases List.mem_append.mp hr with h | h
    · exact .inl ⟨r, h, e⟩
    · exact .inr ⟨r, h, e⟩
  · rintro (⟨r, hr, e⟩ | ⟨r, hr, e⟩)
    · exact ⟨r, List.mem_append.mpr (.inl hr), e⟩
    · exact ⟨r, List.mem_append.mpr (.inr hr), e⟩
theorem Cl.mono {R R' : List Int → Prop} (h : ∀ r, R r → R' r) {c : List Int} (g : Cl R c) : Cl R' c := by
  induction g with
  | base h' => exact .base (h _ h')
  | sum _ _ e i1 i2 => exact .sum i1 i2 e
theorem getD_tab {n : Nat} (f : Nat → Int) (i : Nat) (h : i < n) : ((List.range n).map f).getD i 0 = f i := by
  rw [List.getD_eq_getElem?_getD, List.getElem?_map, List.getElem?_range h]
  rfl
/-- rows whose signs let it come to c by sums -/
theorem cl_of {n : Nat} : ∀ (S : List (List Int)) (r : List Int), (∀ x ∈ r :: S, Row n x) → ∀ c, Row n c → OkS n (r :: S) c → Cl (fun x => x ∈ r :: S) c
  | [], r, hr, c, hc, ok => by
    have e : c = r := by
      refine List.ext_getElem (by rw [hc.2, (hr r (by simp)).2]) fun i h1 h2 => ?_
      have hi : i < n := by rw [← hc.2]; exact h1
      have q := (okS_al hc).mp ok i hi
      have e1 : c.getD i 0 = c[i] := by simp [List.getD_eq_getElem?_getD, h1]
      have e2 : r.getD i 0 = r[i] := by simp [List.getD_eq_getElem?_getD, h2]
      have hh : ∀ s, has [r] i s ↔ r[i] = s := fun s => by rw [← e2]; simp [has]
      rw [hh, hh, e1] at q
      have hs : Sgn r[i] := (hr r (by simp)).1 _ (List.getElem_mem h2)
      obtain ⟨q0, q1, q2, q3⟩ := q
      rcases q0 with z | z | z
      · rw [z, q3 z]
      · rcases hs with y | y | y
        · exact absurd ((q1 z).mpr y) (by omega)
        · rw [z, y]
        · exact absurd ((q1 z).mp y) (by omega)
      · rw [z, q2 z]
    rw [e]
    exact .base (by simp)
  | s :: S, r, hr, c, hc, ok => by
    have hs := hr s (by simp)
    have q := (okS_al hc).mp ok
    have step : ∀ i, i < n → ∃ y, Al1 (has (r :: S) i 1) (has (r :: S) i (-1)) y ∧ c.getD i 0 ∈ ss y (s.getD i 0) := fun i hi => by
      have := q i hi
      have sw : ∀ g, has (r :: s :: S) i g ↔ (has (r :: S) i g ∨ s.getD i 0 = g) := fun g => by
        rw [has_cons, has_cons, has_cons]
        constructor
        · rintro ((h | h) | h)
          · exact .inl (.inl h)
          · exact .inr h
          · exact .inl (.inr h)
        · rintro ((h | h) | h)
          · exact .inl (.inl h)
          · exact .inr h
          · exact .inl (.inr h)
      have this : Al1 (has (r :: S) i 1 ∨ s.getD i 0 = 1) (has (r :: S) i (-1) ∨ s.getD i 0 = -1) (c.getD i 0) := by
        unfold Al1 at this ⊢
        rw [sw, sw] at this
        exact this
      exact al_sum (sgn_at hs i) this
    let f : Nat → Int := fun i => if hi : i < n then (step i hi).choose else 0
    have hf : ∀ i (hi : i < n), Al1 (has (r :: S) i 1) (has (r :: S) i (-1)) (f i) ∧ c.getD i 0 ∈ ss (f i) (s.getD i 0) := fun i hi => by
      have e : f i = (step i hi).choose := dif_pos hi
      rw [e]
      exact (step i hi).choose_spec
    have hd : Row n ((List.range n).map f) := ⟨fun z hz => by
      obtain ⟨i, hi, rfl⟩ := List.mem_map.mp hz
      exact (hf i (List.mem_range.mp hi)).1.1, by simp⟩
    have ih := cl_of S r (fun x hx => hr x (by
      rcases List.mem_cons.mp hx with rfl | hx
      · simp
      · simp [hx])) _ hd ((okS_al hd).mpr fun i hi => by
        rw [getD_tab f i hi]
        exact (hf i hi).1)
    refine .sum (ih.mono fun x hx => ?_) (.base (r := s) (by simp)) ((sum_iff hd.2 hs.2).mpr ⟨hc.2, fun i hi => ?_⟩)
    · rcases List.mem_cons.mp hx with rfl | hx
      · simp
      · simp [hx]
    · rw [getD_tab f i hi]
      exact (hf i hi).2
theorem cl_row {n : Nat} {R : List Int → Prop} (hR : ∀ r, R r → Row n r) {c : List Int} (h : Cl R c) : Row n c := by
  induction h with
  | base h => exact hR _ h
  | sum _ _ e i1 i2 =>
    obtain ⟨h1, h2⟩ := prod_rows _ _ _ i1.1 i2.1 e
    exact ⟨h1, by rw [h2, i1.2, i2.2]; exact Nat.min_self n⟩
/-- what is a sum of sums comes of some rows' signs -/
theorem cl_signs {n : Nat} {R : List Int → Prop} (hR : ∀ r, R r → Row n r) {c : List Int} (h : Cl R c) : ∃ S, S ≠ [] ∧ (∀ r ∈ S, R r) ∧ OkS n S c := by
  induction h with
  | @base r h =>
    have hr := hR r h
    refine ⟨[r], by simp, fun x hx => by rw [List.mem_singleton.mp hx]; exact h, (okS_al hr).mpr fun i hi => ?_⟩
    have hh : ∀ s, has [r] i s ↔ r.getD i 0 = s := fun s => by simp [has]
    refine ⟨sgn_at hr i, fun e => ?_, fun e => (hh _).mpr e, fun e => (hh _).mpr e⟩
    rw [hh, hh, e]
    simp
  | @sum a b c h1 h2 e i1 i2 =>
    obtain ⟨S, s1, s2, s3⟩ := i1
    obtain ⟨T, t1, t2, t3⟩ := i2
    have ha := cl_row hR h1
    have hb := cl_row hR h2
    have hc := cl_row hR (Cl.sum h1 h2 e)
    refine ⟨S ++ T, by simp [s1], fun r hr => (List.mem_append.mp hr).elim (s2 r) (t2 r), (okS_al hc).mpr fun i hi => ?_⟩
    have := al_join ((okS_al ha).mp s3 i hi) ((okS_al hb).mp t3 i hi) (((sum_iff ha.2 hb.2).mp e).2 i hi)
    unfold Al1 at this ⊢
    rw [has_app, has_app]
    exact this
theorem cl_iff {n : Nat} {rs : List (List Int)} (hR : ∀ r ∈ rs, Row n r) {c : List Int} (hc : Row n c) : Cl (fun r => r ∈ rs) c ↔ ∃ S, S ≠ [] ∧ (∀ r ∈ S, r ∈ rs) ∧ OkS n S c := by
  constructor
  · exact cl_signs hR
  · rintro ⟨S, h1, h2, h3⟩
    cases S with
    | nil => exact absurd rfl h1
    | cons r S => exact (cl_of S r (fun x hx => hR x (h2 x hx)) c hc h3).mono h2
end Rol.G

namespace Rol.G
open PySem L2 PySem.Spec Rol
open PyProof.Rows hiding St
theorem nodup_below : ∀ (n : Nat) (l : List Nat), l.Nodup → (∀ x ∈ l, x < n) → l.length ≤ n
  | 0, [], _, _ => Nat.le_refl _
  | 0, x :: _, _, h => absurd (h x (by simp)) (by omega)
  | n + 1, l, hn, h => by
    by_cases e : n ∈ l
    · have := nodup_below n (l.erase n) (hn.erase n) fun x hx => by
        have h1 := (hn.mem_erase_iff).mp hx
        have := h x h1.2
        have := h1.1
        omega
      rw [List.length_erase_of_mem e] at this
      omega
    · have := nodup_below n l hn fun x hx => by
        have := h x hx
        have : x ≠ n := fun z => e (z ▸ hx)
        omega
      omega
/-- how a row stands on a ladder -/
def stnd : List (Nat × Int) → List Int → Int
  | [], _ => 0
  | p :: L, r => if r.getD p.1 0 ≠ 0 then r.getD p.1 0 * p.2 else stnd L r
def hasB (S : List (List Int)) (i : Nat) (s : Int) : Bool := S.any fun r => decide (r.getD i 0 = s)
theorem hasB_iff {S : List (List Int)} {i : Nat} {s : Int} : hasB S i s = true ↔ has S i s := by
  unfold hasB has
  simp
/-- what is put next: the first member that is not held, up ahead of down -/
def nextP (left : List (List Int)) (c : List Int) (held : List Nat) : List Nat → Option (Nat × Int)
  | [] => none
  | i :: is => if i ∈ held then nextP left c held is else if c.getD i 0 ≠ 1 ∧ hasB left i (-1) = false then some (i, 1) else if c.getD i 0 ≠ -1 ∧ hasB left i 1 = false then some (i, -1) else nextP left c held is
theorem nextP_some {left : List (List Int)} {c : List Int} {held : List Nat} : ∀ {is : List Nat} {p : Nat × Int}, nextP left c held is = some p → p.1 ∈ is ∧ p.1 ∉ held ∧ (p.2 = 1 ∨ p.2 = -1) ∧ c.getD p.1 0 ≠ p.2 ∧ ¬ has left p.1 (-p.2)
  | [], _, h => by cases h
  | i :: is, p, h => by
    rw [nextP] at h
    split at h
    · obtain ⟨h1, h2⟩ := nextP_some h
      exact ⟨List.mem_cons_of_mem _ h1, h2⟩
    · rename_i hi
      split at h
      · rename_i q
        cases h
        exact ⟨by simp, hi, .inl rfl, q.1, fun z => by rw [hasB_iff.mpr z] at q; cases q.2⟩
      · split at h
        · rename_i q
          cases h
          exact ⟨by simp, hi, .inr rfl, q.1, fun z => by
            have z : has left i 1 := z
            rw [hasB_iff.mpr z] at q
            cases q.2⟩
        · obtain ⟨h1, h2⟩ := nextP_some h
          exact ⟨List.mem_cons_of_mem _ h1, h2⟩
def still (left : List (List Int)) (i : Nat) : List (List Int) := left.filter fun r => decide (r.getD i 0 = 0)
theorem stnd_zero {c : List Int} : ∀ {L : List (Nat × Int)}, (∀ p ∈ L, c.getD p.1 0 = 0) → stnd L c = 0
  | [], _ => rfl
  | p :: L, h => by
    rw [stnd, if_neg (by simp only [ne_eq, Decidable.not_not]; exact h p (by simp))]
    exact stnd_zero fun q hq => h q (by simp [hq])
theorem zero_stnd {n : Nat} {c : List Int} (hc : Row n c) : ∀ {L : List (Nat × Int)}, (∀ p ∈ L, (p.2 = 1 ∨ p.2 = -1) ∧ c.getD p.1 0 ≠ p.2) → stnd L c ≠ -1 → ∀ p ∈ L, c.getD p.1 0 = 0
  | [], _, _ => fun p hp => nomatch hp
  | p :: L, h, hs => by
    rw [stnd] at hs
    have h0 := h p (by simp)
    by_cases e : c.getD p.1 0 = 0
    · rw [if_neg (by simpa using e)] at hs
      have := zero_stnd hc (fun q hq => h q (by simp [hq])) hs
      intro q hq
      rcases List.mem_cons.mp hq with rfl | hq
      · exact e
      · exact this q hq
    · rw [if_pos e] at hs
      refine absurd ?_ hs
      rcases sgn_at hc p.1 with z | z | z
      · rcases h0.1 with y | y
        · rw [z, y]; rfl
        · exact absurd (z.trans y.symm) h0.2
      · exact absurd z e
      · rcases h0.1 with y | y
        · exact absurd (z.trans y.symm) h0.2
        · rw [z, y]; rfl
/-- how far a walk has come -/
structure Wk (n : Nat) (R : List (List Int)) (c : List Int) (L : List (Nat × Int)) (left : List (List Int)) : Prop where
  sub : ∀ r ∈ left, r ∈ R
  lev : ∀ r ∈ left, ∀ p ∈ L, r.getD p.1 0 = 0
  all : ∀ S, (∀ r ∈ S, r ∈ R) → OkS n S c → (∀ r ∈ S, r ∈ left) ∧ ∀ p ∈ L, c.getD p.1 0 = 0
  put : ∀ p ∈ L, (p.2 = 1 ∨ p.2 = -1) ∧ c.getD p.1 0 ≠ p.2
  nd : (L.map (·.1)).Nodup
  lt : ∀ p ∈ L, p.1 < n
theorem Wk.start {n : Nat} {R : List (List Int)} {c : List Int} : Wk n R c [] R := ⟨fun _ h => h, (fun _ _ _ h => nomatch h), fun S h _ => ⟨h, fun _ h => nomatch h⟩, (fun _ h => nomatch h), List.nodup_nil, fun _ h => nomatch h⟩
theorem Wk.next {n : Nat} {R : List (List Int)} {c : List Int} {L : List (Nat × Int)} {left : List (List Int)} {order : List Nat} (hR : ∀ r ∈ R, Row n r) (hc : Row n c) (ho : ∀ i ∈ order, i < n) (w : Wk n R c L left) {p : Nat × Int} (h : nextP left c (L.map (·.1)) order = some p) : Wk n R c (L ++ [p]) (still left p.1) := by
  obtain ⟨h1, h2, h3, h4, h5⟩ := nextP_some h
  have hp := ho _ h1
  refine ⟨fun r hr => w.sub r (List.mem_filter.mp hr).1, fun r hr q hq => ?_, fun S hS ok => ?_, fun q hq => ?_, ?_, fun q hq => ?_⟩
  · rcases List.mem_append.mp hq with hq | hq
    · exact w.lev r (List.mem_filter.mp hr).1 q hq
    · rw [List.mem_singleton.mp hq]
      exact of_decide_eq_true (List.mem_filter.mp hr).2
  · obtain ⟨a1, a2⟩ := w.all S hS ok
    obtain ⟨o1, o2⟩ := ok p.1 hp
    have no : ¬ has S p.1 (-p.2) := fun ⟨r, hr, e⟩ => h5 ⟨r, a1 r hr, e⟩
    have c0 : c.getD p.1 0 = 0 := by
      apply Classical.byContradiction
      intro e
      have := o2 e
      have z : c.getD p.1 0 = -p.2 := by
        rcases sgn_at hc p.1 with z | z | z <;> rcases h3 with y | y
        · omega
        · exact absurd (z.trans y.symm) h4
        · exact absurd z e
        · exact absurd z e
        · exact absurd (z.trans y.symm) h4
        · omega
      rw [z] at this
      exact no this
    have no2 : ¬ has S p.1 p.2 := by
      have := o1 c0
      rcases h3 with y | y
      · rw [y] at no ⊢
        exact fun z => no (this.mp z)
      · rw [y] at no ⊢
        exact fun z => no (this.mpr z)
    refine ⟨fun r hr => List.mem_filter.mpr ⟨a1 r hr, decide_eq_true ?_⟩, fun q hq => ?_⟩
    · apply Classical.byContradiction
      intro e
      rcases sgn_at (hR r (hS r hr)) p.1 with z | z | z <;> rcases h3 with y | y
      · exact no ⟨r, hr, by omega⟩
      · exact no2 ⟨r, hr, by omega⟩
      · exact e z
      · exact e z
      · exact no2 ⟨r, hr, by omega⟩
      · exact no ⟨r, hr, by omega⟩
    · rcases List.mem_append.mp hq with hq | hq
      · exact a2 q hq
      · rw [List.mem_singleton.mp hq]
        exact c0
  · rcases List.mem_append.mp hq with hq | hq
    · exact w.put q hq
    · rw [List.mem_singleton.mp hq]
      exact ⟨h3, h4⟩
  · rw [List.map_append, List.nodup_append]
    refine ⟨w.nd, by simp, fun a ha b hb => ?_⟩
    rw [List.map_singleton, List.mem_singleton] at hb
    intro e
    exact h2 (hb ▸ e ▸ ha)
  · rcases List.mem_append.mp hq with hq | hq
    · exact w.lt q hq
    · rw [List.mem_singleton.mp hq]
      exact hp
end Rol.G

namespace Rol.G
open PySem L2 PySem.Spec Rol
open PyProof.Rows hiding St
theorem getD_ix {r : List Int} {k : Nat} (h : k < r.length) : r[k] = r.getD k 0 := by simp [List.getD_eq_getElem?_getD, h]
theorem in_ints (neg : Bool) (i : Int) (rs : List Int) : tIn neg (.int i) (.lst (rs.map T.int)) = some (.bl (if neg = true then !decide (i ∈ rs) else decide (i ∈ rs))) := tIn_lint neg i rs
theorem hasB_mem {left : List (List Int)} {i : Nat} {s : Int} : decide (s ∈ left.map fun r => r.getD i 0) = hasB left i s := by
  rw [Bool.eq_iff_iff, decide_eq_true_eq, hasB_iff]
  unfold has
  simp
end Rol.G

namespace Rol.G
open PySem L2 PySem.Spec Rol
open PyProof.Rows hiding St
theorem Wk.len {n : Nat} {R : List (List Int)} {c : List Int} {L : List (Nat × Int)} {left : List (List Int)} (w : Wk n R c L left) : L.length ≤ n := by
  have := nodup_below n (L.map (·.1)) w.nd fun x hx => by
    obtain ⟨p, hp, rfl⟩ := List.mem_map.mp hx
    exact w.lt p hp
  simpa using this
end Rol.G

namespace Rol.G
open PySem L2 PySem.Spec Rol
open PyProof.Rows hiding St
def firstNo : Nat → List T → Option Nat
  | _, [] => none
  | i, t :: ts => if sgnT t = true then firstNo (i + 1) ts else some i
def rfault (n : Nat) : T → Option Int
  | .tup xs => if xs.length = n then (firstNo 0 xs).map fun j => (j : Int) else some (-1)
  | _ => some (-1)
theorem firstNo_app : ∀ {i : Nat} {xs : List T}, xs.all sgnT = true → ∀ ys, firstNo i (xs ++ ys) = firstNo (i + xs.length) ys
  | i, [], _, ys => by simp
  | i, x :: xs, h, ys => by
    rw [List.all_cons, Bool.and_eq_true] at h
    rw [List.cons_append, firstNo, if_pos h.1, firstNo_app h.2]
    congr 1
    simp
    omega
theorem row_fault_x {n k m : Nat} {t : T} (h : Gu k m t) {Q : T → Prop} {X : Xp} (q : match rfault n t with
      | none => Q .non
      | some j => Q (.int j)) : p_row_fault [.int n, t] Q X := by
  simp! only [e_row_fault,  isi_tup h]
  have neg1 : tNeg (.int 1) = some (.int (-1)) := rfl
  cases h with
  | @tup k m _ xs h1 h2 =>
    simp! only [T.isTup,  tSub, tI2, tB2, tGe, tGt, tNeg, tLen, tInt, tTuple, tList, tMax, tMin, tAbs, tIsN, tNotN, tEq_int, tNe_int, tEq_str, tNe_str, tAddI]
    by_cases hl : xs.length = n
    · have e1 : decide ((xs.length : Int) = (n : Int)) = true := by simp [hl]
      simp! only [e1]
      unfold rfault at q
      dsimp only at q
      rw [if_pos hl] at q
      rw [pair_map]
      refine for_map (fun (p : T × Nat) => T.tup [.int ((p.2 : Nat) : Int), p.1]) (fun d E => (∃ x2 x3, E = [some (.int n), some (.tup xs), x2, x3]) ∧ (d.map (·.1)).all sgnT = true) ⟨⟨none, none, rfl⟩, rfl⟩ (fun d p r E N hd ⟨⟨x2, x3, hE⟩, ha⟩ hN => ?_) fun E ⟨⟨x2, x3, hE⟩, ha⟩ => ?_
      · subst hE
        obtain ⟨e2, e3⟩ := zip_split hd
        have hx : p.1 ∈ xs := by rw [e3]; simp
        simp! only []
        refine is_number_s (h1 _ hx) ?_
        have bad : sgnT p.1 = false → Q (.int ((p.2 : Nat) : Int)) := fun z => by
          rw [e3, firstNo_app ha, firstNo, if_neg (by rw [z]; simp), List.length_map, Nat.zero_add, ← e2] at q
          exact q
        cases hp : p.1 with
        | int i =>
          simp! only [T.isNum]
          have e4 : T.tup [T.int (-1), T.int 0, T.int 1] = row [-1, 0, 1] := rfl
          rw [e4, tIn_sign]
          simp! only []
          by_cases hi : i ∈ [(-1 : Int), 0, 1]
          · simp! only [hi, decide_true]
            refine hN _ ⟨⟨_, _, rfl⟩, ?_⟩
            rw [List.map_append, List.all_append, ha]
            simp only [List.map_cons, List.map_nil, hp, List.all_cons, sgnT]
            simpa using hi
          · simp! only [hi, decide_false]
            exact bad (by rw [hp]; simpa [sgnT] using hi)
        | _ =>
          simp! only [T.isNum]
          exact bad (by rw [hp]; rfl)
      · subst hE
        simp! only []
        have e5 : (xs.zipIdx).map (·.1) = xs := List.zipIdx_map_fst 0 xs
        rw [e5] at ha
        have := firstNo_app (i := 0) ha []
        rw [List.append_nil] at this
        rw [this] at q
        exact q
    · have e1 : decide ((xs.length : Int) = (n : Int)) = false := by simpa using fun z : (xs.length : Int) = n => hl (by omega)
      simp! only [e1,  neg1]
      unfold rfault at q
      dsimp only at q
      rw [if_neg hl] at q
      exact q
  | _ =>
    simp! only [T.isTup,  neg1]
    exact q
theorem made_row_s {n k m : Nat} (h1 : 1 ≤ n) (h6 : n ≤ 6) {t : T} (h : Gu k m t) {Q : T → Prop} {X : Xp} (q0 : rfault n t = none → Q t) (q1 : ∀ j : Int, rfault n t = some j → X "BadRow" (.int j)) : p_made_row [.int n, t] Q X := by
  simp! only [e_made_row]
  refine ask_many_s (k := 0) (m := 13) (gd_small (by omega) (Nat.le_refl _)) (fun _ => ?_) fun z => (by
    rw [many_iff.mpr ⟨n, rfl, h1, h6⟩] at z
    cases z)
  refine row_fault_x h ?_
  cases e : rfault n t with
  | none =>
    have e : tNotN T.non T.non = some (.bl false) := rfl
    simp! only [ e]
    exact q0 ‹_›
  | some j =>
    have e : tNotN (T.int j) T.non = some (.bl true) := rfl
    simp! only [ e]
    exact q1 j ‹_›
theorem rfault_row {n : Nat} {r : List Int} (h : Row n r) : rfault n (row r) = none := by
  have e : row r = .tup (r.map T.int) := rfl
  rw [e]
  unfold rfault
  dsimp only
  rw [if_pos (by rw [List.length_map]; exact h.2)]
  have := firstNo_app (i := 0) (all_sgn.mpr ⟨r, rfl, h.1⟩) []
  rw [List.append_nil] at this
  rw [this]
  rfl
end Rol.G

namespace Rol.G
open PySem L2 PySem.Spec Rol
open PyProof.Rows hiding St
theorem seq_cut {v w : VS} {E : Env} {K : Ke} (P : Env → Prop) (h : ∀ N : Env → Prop, (∀ E', P E' → N E') → v E { K with nx := N }) (h2 : ∀ E', P E' → w E' K) : wSeq v w E K := by
  rw [q_wSeq]
  exact h _ h2
end Rol.G

namespace Rol.G
open PySem L2 PySem.Spec Rol
open PyProof.Rows hiding St
def someS (a b : Int) : List Int := if a ≠ 0 ∧ a = -b then [-1, 0, 1] else [if a = 0 then b else a]
theorem someS_ss {a b : Int} (ha : Sgn a) (hb : Sgn b) : someS a b = ss a b := by
  rcases ha with rfl | rfl | rfl <;> rcases hb with rfl | rfl | rfl <;> decide
theorem ext_len (F : List (List Int)) (c : List Int) (h : c.length ≤ 3) : (F.flatMap fun r => c.map fun z => r ++ [z]).length ≤ 3 * F.length := by
  induction F with
  | nil => simp
  | cons r F ih => rw [List.flatMap_cons, List.length_append, List.length_map, List.length_cons]; omega
theorem sums_of_s {n : Nat} (h : n ≤ 6) {a b : List Int} (ha : Row n a) (hb : Row n b) {Q : T → Prop} {X : Xp} (q : Q (.lst ((prod (List.zipWith ss a b)).map row))) : p__law_sums_of [row a, row b] Q X := by
  have neg1 : tNeg (.int 1) = some (.int (-1)) := rfl
  have ng : ∀ i : Int, tNeg (.int i) = some (.int (-i)) := fun _ => rfl
  have la : tLen [row a] = some (.int (n : Int)) := by
    show some (T.int ((a.map T.int).length : Int)) = _
    rw [List.length_map, ha.2]
  have zl : (List.zipWith ss a b).length = n := by rw [List.length_zipWith, ha.2, hb.2, Nat.min_self]
  have z3 : ∀ c ∈ List.zipWith ss a b, c.length ≤ 3 := fun c hc => (zip_len3 a b c hc).1
  simp! only [e__law_sums_of,  la]
  refine ⟨by decide, by decide, by omega, ?_⟩
  rw [irange_T, Int.toNat_natCast]
  refine for_map (fun (i : Nat) => T.int (i : Int)) (fun d E => ∃ w3 w4 w5 w6 w8 w9, E = [some (row a), some (row b), some (.lst ((prod ((List.zipWith ss a b).take d.length)).map row)), w3, w4, w5, w6, none, w8, w9]) ⟨none, none, none, none, none, none, rfl⟩ (fun d i r E N hd ⟨w3, w4, w5, w6, w8, w9, hE⟩ hN => ?_) fun E ⟨w3, w4, w5, w6, w8, w9, hE⟩ => ?_
  · subst hE
    have hdl := congrArg List.length hd
    simp only [List.length_range, List.length_append, List.length_cons] at hdl
    have hi : i = d.length := by
      have h1 : (List.range n)[d.length]? = some i := by rw [hd]; simp
      obtain ⟨h2, h3⟩ := List.getElem?_eq_some_iff.mp h1
      simp at h3
      omega
    subst hi
    have hia : d.length < a.length := by rw [ha.2]; omega
    have hib : d.length < b.length := by rw [hb.2]; omega
    have sa : Sgn a[d.length] := ha.1 _ (List.getElem_mem hia)
    have sb : Sgn b[d.length] := hb.1 _ (List.getElem_mem hib)
    have ez : (List.zipWith ss a b).take (d.length + 1) = (List.zipWith ss a b).take d.length ++ [ss a[d.length] b[d.length]] := by
      rw [List.take_succ_eq_append_getElem (by omega), List.getElem_zipWith]
    have hpl : (prod ((List.zipWith ss a b).take d.length)).length ≤ 729 := by
      refine Nat.le_trans (prod_len _ fun c hc => z3 c (List.mem_of_mem_take hc)) ?_
      refine Nat.le_trans (Nat.pow_le_pow_right (by decide) (?_ : _ ≤ 6)) (by decide)
      rw [List.length_take]
      omega
    simp only [setT, q_Ok]
    refine seq_cut (P := fun E => E = [some (row a), some (row b), some (.lst ((prod ((List.zipWith ss a b).take d.length)).map row)), some (.int (d.length : Int)), some (.int a[d.length]), some (.int b[d.length]), w6, none, w8, w9]) (fun N2 hN2 => ?_) fun E hE => ?_
    · simp! only [ tIx_row hia, tIx_row hib]
      exact hN2 _ rfl
    subst hE
    refine seq_cut (P := fun E => E = [some (row a), some (row b), some (.lst ((prod ((List.zipWith ss a b).take d.length)).map row)), some (.int (d.length : Int)), some (.int a[d.length]), some (.int b[d.length]), some (.lst ((ss a[d.length] b[d.length]).map T.int)), none, w8, w9]) (fun N2 hN2 => ?_) fun E hE => ?_
    · simp! only [ tNe_int, tEq_int, ng]
      rw [← someS_ss sa sb] at hN2
      unfold someS at hN2
      by_cases c1 : a[d.length] = 0
      · rw [if_neg (fun z => z.1 c1), if_pos c1] at hN2
        simp! only [c1, decide_true]
        rw [c1] at hN2
        exact ⟨by decide, hN2 _ rfl⟩
      · simp! only [c1, decide_false]
        by_cases c2 : a[d.length] = -b[d.length]
        · rw [if_pos ⟨c1, c2⟩] at hN2
          simp! only [c2, decide_true]
          rw [c2] at hN2
          exact ⟨by decide, hN2 _ rfl⟩
        · rw [if_neg (fun z => c2 z.2), if_neg c1] at hN2
          simp! only [c2, decide_false]
          exact ⟨by decide, hN2 _ rfl⟩
    subst hE
    have s3 := ss_len a[d.length] b[d.length]
    generalize ss a[d.length] b[d.length] = cs at ez s3
    simp! only []
    refine ⟨by decide, ?_⟩
    refine for_map row (fun d2 E => ∃ w8 w9, E = [some (row a), some (row b), some (.lst ((prod ((List.zipWith ss a b).take d.length)).map row)), some (.int (d.length : Int)), some (.int a[d.length]), some (.int b[d.length]), some (.lst (cs.map T.int)), some (.lst ((d2.flatMap fun r => cs.map fun z => r ++ [z]).map row)), w8, w9]) ⟨w8, w9, by simp⟩ (fun d2 x r2 E N2 hd2 ⟨w8, w9, hE⟩ hN2 => ?_) fun E ⟨w8, w9, hE⟩ => ?_
    · subst hE
      have hx : x ∈ prod ((List.zipWith ss a b).take d.length) := by rw [hd2]; simp
      have hxl : x.length ≤ 6 := by
        have := ((mem_prod _ _).mp hx).length
        rw [List.length_take] at this
        omega
      have hd2l := congrArg List.length hd2
      simp only [List.length_append, List.length_cons] at hd2l
      have hfl := ext_len d2 cs s3
      simp! only []
      refine comp_mm T.int (fun z => row (x ++ [z])) (by rw [sizeLine_eq]; simp; omega) (fun z hz N' hN' => ?_) ?_
      · simp! only []
        refine ⟨by decide, ?_⟩
        rw [add_one (by omega)]
        exact hN'
      · simp! only []
        refine ⟨?_, hN2 _ ⟨some (row x), w9, by rw [List.flatMap_append, List.map_append]; simp⟩⟩
        rw [List.length_map, List.length_map, sizeLine_eq]
        omega
    · subst hE
      simp! only []
      refine hN _ ⟨some (.int d.length), some (.int a[d.length]), some (.int b[d.length]), some (.lst (cs.map T.int)), w8, w9, ?_⟩
      rw [List.length_append, List.length_singleton, ez, prod_snoc]
  · subst hE
    simp! only []
    rw [List.length_range, List.take_of_length_le (by omega)]
    exact q
end Rol.G

namespace Rol.G
open PySem L2 PySem.Spec Rol
open PyProof.Rows hiding St
abbrev kO (r : List Int) : List Key := r.map Sum.inl
theorem parts_row : ∀ r : List Int, kPartsT (r.map T.int) = some (r.map fun i => .inl (.inl i))
  | [] => rfl
  | i :: r => by
    rw [List.map_cons, kPartsT, parts_row r]
    rfl
theorem ok_row (r : List Int) : ok2 (r.map fun i => (.inl (.inl i) : Key ⊕ List Key)) = true := by
  unfold ok2
  rw [List.all_eq_true]
  intro x hx
  obtain ⟨i, _, rfl⟩ := List.mem_map.mp hx
  rfl
theorem enc_row : ∀ r : List Int, enc2 (r.map fun i => (.inl (.inl i) : Key ⊕ List Key)) = kO r
  | [] => rfl
  | i :: r => by
    have := enc_row r
    unfold enc2 at this ⊢
    rw [List.map_cons, List.flatMap_cons, this]
    rfl
theorem ktup_row (r : List Int) : ktupT (row r) = some (kO r) := by
  show (kPartsT (r.map T.int)).bind _ = _
  rw [parts_row]
  show (if ok2 _ = true then some (enc2 _) else none) = _
  rw [if_pos (ok_row r), enc_row]
def inX (l : List (List Key × T)) (F : List (List Int)) : Prop := ∀ r : List Int, (kGet l (kO r)).isSome = decide (r ∈ F)
theorem inX_put {l : List (List Key × T)} {F : List (List Int)} (h : inX l F) (r : List Int) (t : T) : inX (kPut l (kO r) t) (F ++ [r]) := fun x => by
  rw [kGet_put]
  by_cases e : kO r = kO x
  · have := inl_inj r x e
    subst this
    simp
  · rw [if_neg e, h x]
    have : x ≠ r := fun z => e (by rw [z])
    simp [this]
theorem rows_len {n : Nat} (h : n ≤ 6) {F : List (List Int)} (nd : F.Nodup) (hF : ∀ r ∈ F, Row n r) : F.length ≤ 729 := by
  have h1 : Lot n (srt F) := srt_lot hF
  have h2 : F.Perm (srt F) := (List.perm_ext_iff_of_nodup nd h1.up.nodup).mpr fun x => (mem_srt F x).symm
  rw [h2.length_eq]
  exact h1.len h
structure Cs (n : Nat) (R F : List (List Int)) (l : List (List Key × T)) : Prop where
  nd : F.Nodup
  cl : ∀ r ∈ F, Cl (fun x => x ∈ R) r
  sub : ∀ r ∈ R, r ∈ F
  len : l.length ≤ F.length
  key : inX l F
theorem Cs.row {n : Nat} {R F : List (List Int)} {l : List (List Key × T)} (hR : ∀ r ∈ R, Row n r) (s : Cs n R F l) : ∀ r ∈ F, Row n r := fun r hr => cl_row hR (s.cl r hr)
theorem Cs.put {n : Nat} {R F : List (List Int)} {l : List (List Key × T)} (s : Cs n R F l) {c : List Int} (hc : Cl (fun x => x ∈ R) c) (hn : c ∉ F) (t : T) : Cs n R (F ++ [c]) (kPut l (kO c) t) :=
  ⟨by
    rw [List.nodup_append]
    exact ⟨s.nd, by simp, fun a ha b hb e => hn (by rw [List.mem_singleton.mp hb] at e; exact e ▸ ha)⟩, fun r hr => by
      rcases List.mem_append.mp hr with hr | hr
      · exact s.cl r hr
      · rw [List.mem_singleton.mp hr]
        exact hc, fun r hr => List.mem_append.mpr (.inl (s.sub r hr)), by
      have := kPut_len l (kO c) t
      have := s.len
      rw [List.length_append, List.length_singleton]
      omega, inX_put s.key c t⟩
end Rol.G

namespace Rol.G
open PySem L2 PySem.Spec Rol
open PyProof.Rows hiding St
end Rol.G

namespace Rol.G
open PySem L2 PySem.Spec Rol
open PyProof.Rows hiding St
end Rol.G

namespace Rol.G
open PySem L2 PySem.Spec Rol
open PyProof.Rows hiding St
end Rol.G

namespace Rol.G
open PySem L2 PySem.Spec Rol
open PyProof.Rows hiding St
end Rol.G

namespace Rol.G
open PySem L2 PySem.Spec Rol
open PyProof.Rows hiding St
end Rol.G

namespace Rol.G
open PySem L2 PySem.Spec Rol
open PyProof.Rows hiding St
theorem gu_pair {a b : T} {k m : Nat} (h1 : Gu k m a) (h2 : Gu k m b) : Gu (k + 1) (2 * (m + 2) + 3) (.tup [a, b]) := .tup (k := k) (m := m) (fun x hx => by
  rcases List.mem_cons.mp hx with rfl | hx
  · exact h1
  · rw [List.mem_singleton.mp hx]
    exact h2) (by simp)
theorem gu_rowT {n : Nat} (h : n ≤ 6) {r : List Int} (hr : Row n r) : Gu 1 93 (row r) := gd_row hr.1 (n := 6) (by have := hr.2; omega) (by decide)
theorem ne_same (s : Str) : tNe (.str s) (.str s) = some (.bl false) := by rw [tNe_str]; simp
end Rol.G

namespace Rol.G
open PySem L2 PySem.Spec Rol
open PyProof.Rows hiding St
def bal (c : List Int) (F : List (List Int)) (i : Nat) : Prop := c.getD i 0 = 0 → (has F i 1 ↔ has F i (-1))
/-- F keeps all that is balanced -/
def Keep (n : Nat) (R : List (List Int)) (c : List Int) (F : List (List Int)) : Prop := F.Sublist R ∧ ∀ S : List (List Int), (∀ r ∈ S, r ∈ R) → (∀ i, i < n → bal c S i) → ∀ r ∈ S, r ∈ F
theorem Keep.start (n : Nat) (R : List (List Int)) (c : List Int) : Keep n R c R := ⟨List.Sublist.refl R, fun S h _ => h⟩
theorem Keep.cut {n : Nat} {R F : List (List Int)} {c : List Int} (k : Keep n R c F) (hR : ∀ r ∈ R, Row n r) {i : Nat} (hi : i < n) (h0 : c.getD i 0 = 0) (h1 : hasB F i 1 ≠ hasB F i (-1)) : Keep n R c (F.filter fun r => decide (r.getD i 0 = 0)) := by
  refine ⟨List.filter_sublist.trans k.1, fun S hS hb r hr => ?_⟩
  have hF := k.2 S hS hb
  have bi := hb i hi h0
  rw [List.mem_filter]
  refine ⟨hF r hr, decide_eq_true ?_⟩
  have up : ∀ s, has S i s → hasB F i s = true := fun s ⟨q, hq, e⟩ => hasB_iff.mpr ⟨q, hF q hq, e⟩
  rcases sgn_at (hR r (hS r hr)) i with e | e | e
  · have a : has S i (-1) := ⟨r, hr, e⟩
    exact absurd ((up 1 (bi.mpr a)).trans (up (-1) a).symm) h1
  · exact e
  · have a : has S i 1 := ⟨r, hr, e⟩
    exact absurd ((up 1 a).trans (up (-1) (bi.mp a)).symm) h1
end Rol.G

namespace Rol.G
/-- the walk, with what it leaves -/
structure Wk2 (n : Nat) (R : List (List Int)) (c : List Int) (L : List (Nat × Int)) (left : List (List Int)) : Prop where
  wk : Wk n R c L left
  eq : left = R.filter fun r => decide (stnd L r = 0)
  up : ∀ r ∈ R, stnd L r = 1 ∨ stnd L r = 0
theorem stnd_app {r : List Int} {p : Nat × Int} : ∀ {L : List (Nat × Int)}, (∀ q ∈ L, q.2 = 1 ∨ q.2 = -1) → stnd (L ++ [p]) r = if stnd L r = 0 then stnd [p] r else stnd L r
  | [], _ => by simp [stnd]
  | q :: L, h => by
    rw [List.cons_append, stnd, stnd]
    by_cases e : r.getD q.1 0 = 0
    · simp only [e, ne_eq, not_true_eq_false, if_false]
      exact stnd_app fun x hx => h x (List.mem_cons_of_mem _ hx)
    · simp only [e, ne_eq, not_false_eq_true, if_true]
      rw [if_neg]
      rcases h q (by simp) with g | g <;> rw [g] <;> omega
theorem Wk2.start {n : Nat} {R : List (List Int)} {c : List Int} : Wk2 n R c [] R := ⟨Wk.start, (List.filter_eq_self.mpr fun r _ => by simp [stnd]).symm, fun r _ => .inr rfl⟩
theorem Wk2.put {n : Nat} {R : List (List Int)} {c : List Int} {L : List (Nat × Int)} {left : List (List Int)} (hR : ∀ r ∈ R, Row n r) (hc : Row n c) (w : Wk2 n R c L left) {p : Nat × Int} (hp : p.1 < n) (h2 : p.1 ∉ L.map (·.1)) (h3 : p.2 = 1 ∨ p.2 = -1) (h4 : c.getD p.1 0 ≠ p.2) (h5 : ¬ has left p.1 (-p.2)) : Wk2 n R c (L ++ [p]) (still left p.1) := by
  have sg : ∀ q ∈ L, q.2 = 1 ∨ q.2 = -1 := fun q hq => (w.wk.put q hq).1
  refine ⟨⟨fun r hr => w.wk.sub r (List.mem_filter.mp hr).1, fun r hr q hq => ?_, fun S hS ok => ?_, fun q hq => ?_, ?_, fun q hq => ?_⟩, ?_, fun r hr => ?_⟩
  · rcases List.mem_append.mp hq with hq | hq
    · exact w.wk.lev r (List.mem_filter.mp hr).1 q hq
    · rw [List.mem_singleton.mp hq]
      exact of_decide_eq_true (List.mem_filter.mp hr).2
  · obtain ⟨a1, a2⟩ := w.wk.all S hS ok
    obtain ⟨o1, o2⟩ := ok p.1 hp
    have no : ¬ has S p.1 (-p.2) := fun ⟨r, hr, e⟩ => h5 ⟨r, a1 r hr, e⟩
    have c0 : c.getD p.1 0 = 0 := by
      apply Classical.byContradiction
      intro e
      have := o2 e
      have z : c.getD p.1 0 = -p.2 := by
        rcases sgn_at hc p.1 with z | z | z <;> rcases h3 with y | y
        · omega
        · exact absurd (z.trans y.symm) h4
        · exact absurd z e
        · exact absurd z e
        · exact absurd (z.trans y.symm) h4
        · omega
      rw [z] at this
      exact no this
    have no2 : ¬ has S p.1 p.2 := by
      have := o1 c0
      rcases h3 with y | y
      · rw [y] at no ⊢
        exact fun z => no (this.mp z)
      · rw [y] at no ⊢
        exact fun z => no (this.mpr z)
    refine ⟨fun r hr => List.mem_filter.mpr ⟨a1 r hr, decide_eq_true ?_⟩, fun q hq => ?_⟩
    · apply Classical.byContradiction
      intro e
      rcases sgn_at (hR r (hS r hr)) p.1 with z | z | z <;> rcases h3 with y | y
      · exact no ⟨r, hr, by omega⟩
      · exact no2 ⟨r, hr, by omega⟩
      · exact e z
      · exact e z
      · exact no2 ⟨r, hr, by omega⟩
      · exact no ⟨r, hr, by omega⟩
    · rcases List.mem_append.mp hq with hq | hq
      · exact a2 q hq
      · rw [List.mem_singleton.mp hq]
        exact c0
  · rcases List.mem_append.mp hq with hq | hq
    · exact w.wk.put q hq
    · rw [List.mem_singleton.mp hq]
      exact ⟨h3, h4⟩
  · rw [List.map_append, List.nodup_append]
    refine ⟨w.wk.nd, by simp, fun a ha b hb => ?_⟩
    rw [List.map_singleton, List.mem_singleton] at hb
    intro e
    exact h2 (hb ▸ e ▸ ha)
  · rcases List.mem_append.mp hq with hq | hq
    · exact w.wk.lt q hq
    · rw [List.mem_singleton.mp hq]
      exact hp
  · unfold still
    rw [w.eq, List.filter_filter]
    refine List.filter_congr fun r hr => ?_
    rw [stnd_app sg]
    by_cases e : stnd L r = 0
    · rw [if_pos e]
      have : stnd [p] r = 0 ↔ r.getD p.1 0 = 0 := by
        simp only [stnd]
        by_cases z : r.getD p.1 0 = 0
        · rw [if_neg (by omega)]
          exact ⟨fun _ => z, fun _ => rfl⟩
        · rw [if_pos z]
          rcases h3 with g | g <;> rw [g] <;> omega
      simp [e, this]
    · rw [if_neg e]
      simp [e]
  · rw [stnd_app sg]
    rcases w.up r hr with e | e
    · rw [if_neg (by omega)]
      exact .inl e
    · rw [if_pos e]
      have hl : r ∈ left := by
        rw [w.eq, List.mem_filter]
        exact ⟨hr, decide_eq_true e⟩
      have no : r.getD p.1 0 ≠ -p.2 := fun z => h5 ⟨r, hl, z⟩
      simp only [stnd]
      rcases sgn_at (hR r hr) p.1 with z | z | z <;> rw [z] at no ⊢ <;> rcases h3 with g | g <;> rw [g] at no ⊢ <;> first | (exact .inl rfl) | (exact .inr rfl) | omega
/-- how a walk ends -/
def Ends (n : Nat) (R : List (List Int)) (c : List Int) (b : Bool) (L : List (Nat × Int)) : Prop := ∃ left, Wk2 n R c L left ∧ (b = true → left ≠ [] ∧ stnd L c ≠ -1 ∧ ∀ i, i < n → i ∉ L.map (·.1) → ∀ g, (g = 1 ∨ g = -1) → c.getD i 0 = g ∨ has left i (-g)) ∧ (b = false → left = [] ∨ stnd L c = -1)
section
variable {n : Nat} {R : List (List Int)} {c : List Int} {b : Bool} {L : List (Nat × Int)} {left : List (List Int)}
theorem led_ok (hc : Row n c) (w : Wk2 n R c L left) (hs : stnd L c ≠ -1) (h : ∀ i, i < n → i ∉ L.map (·.1) → ∀ g, (g = 1 ∨ g = -1) → c.getD i 0 = g ∨ has left i (-g)) : OkS n left c := fun i hi => by
  have z0 := zero_stnd hc w.wk.put hs
  by_cases hh : i ∈ L.map (·.1)
  · obtain ⟨p, hp, rfl⟩ := List.mem_map.mp hh
    refine ⟨fun _ => ⟨fun ⟨r, hr, e⟩ => ?_, fun ⟨r, hr, e⟩ => ?_⟩, fun e => absurd (z0 p hp) e⟩
    · rw [w.wk.lev r hr p hp] at e
      cases e
    · rw [w.wk.lev r hr p hp] at e
      cases e
  · have g1 := h i hi hh 1 (.inl rfl)
    have g2 := h i hi hh (-1) (.inr rfl)
    refine ⟨fun e => ?_, fun e => ?_⟩
    · rw [e] at g1 g2
      have g1 : has left i (-1) := g1.resolve_left (by decide)
      have g2 : has left i 1 := g2.resolve_left (by decide)
      exact ⟨fun _ => g1, fun _ => g2⟩
    · rcases sgn_at hc i with z | z | z
      · rw [z] at g1 ⊢
        exact g1.resolve_left (by decide)
      · exact absurd z e
      · rw [z] at g2 ⊢
        exact g2.resolve_left (by decide)
theorem barred_no (w : Wk2 n R c L left) (hb : left = [] ∨ stnd L c = -1) : ¬ ∃ S, S ≠ [] ∧ (∀ r ∈ S, r ∈ R) ∧ OkS n S c := by
  rintro ⟨S, h1, h2, h3⟩
  obtain ⟨a1, a2⟩ := w.wk.all S h2 h3
  rcases hb with e | e
  · cases S with
    | nil => exact h1 rfl
    | cons r S =>
      have := a1 r (by simp)
      rw [e] at this
      cases this
  · rw [stnd_zero a2] at e
    cases e
theorem Ends.cl (hR : ∀ r ∈ R, Row n r) (hc : Row n c) (e : Ends n R c b L) : b = true ↔ Cl (fun r => r ∈ R) c := by
  rw [cl_iff hR hc]
  obtain ⟨left, w, h1, h2⟩ := e
  cases b with
  | true =>
    obtain ⟨a1, a2, a3⟩ := h1 rfl
    exact ⟨fun _ => ⟨left, a1, w.wk.sub, led_ok hc w a2 a3⟩, fun _ => rfl⟩
  | false => exact ⟨(fun z => by cases z), fun z => absurd z (barred_no w (h2 rfl))⟩
end
/-- what a row that came settles -/
def setl (c : List Int) (a : List (List Int)) (i : Nat) : Bool := if c.getD i 0 = 0 then hasB a i 1 && hasB a i (-1) else hasB a i (c.getD i 0)
def phi (n : Nat) (c : List Int) (a : List (List Int)) : Nat := ((List.range n).filter (setl c a)).length
theorem hasB_mono {a a' : List (List Int)} (h : ∀ r ∈ a, r ∈ a') {i : Nat} {s : Int} (g : hasB a i s = true) : hasB a' i s = true := by
  obtain ⟨r, hr, e⟩ := hasB_iff.mp g
  exact hasB_iff.mpr ⟨r, h r hr, e⟩
theorem setl_mono {c : List Int} {a a' : List (List Int)} (h : ∀ r ∈ a, r ∈ a') {i : Nat} (g : setl c a i = true) : setl c a' i = true := by
  unfold setl at g ⊢
  split
  · rename_i e
    rw [if_pos e, Bool.and_eq_true] at g
    rw [hasB_mono h g.1, hasB_mono h g.2]
    rfl
  · rename_i e
    rw [if_neg e] at g
    exact hasB_mono h g
theorem phi_lt {n : Nat} {c : List Int} {a a' : List (List Int)} (h : ∀ r ∈ a, r ∈ a') {i : Nat} (hi : i < n) (g : setl c a i = false) (g' : setl c a' i = true) : phi n c a < phi n c a' := by
  unfold phi
  have e : (List.range n).filter (setl c a) = ((List.range n).filter (setl c a')).filter (setl c a) := by
    rw [List.filter_filter]
    refine List.filter_congr fun j _ => ?_
    cases z : setl c a j with
    | false => rfl
    | true => rw [setl_mono h z]; rfl
  rw [e]
  refine List.length_filter_lt_length_iff_exists.mpr ⟨i, List.mem_filter.mpr ⟨List.mem_range.mpr hi, g'⟩, ?_⟩
  rw [g]
  exact Bool.false_ne_true
/-- rows picked so far -/
structure Pk (n : Nat) (left : List (List Int)) (c : List Int) (m : Nat) (a : List (List Int)) : Prop where
  sub : ∀ r ∈ a, r ∈ left
  nd : a.Nodup
  few : a.length ≤ phi n c a + m
theorem Pk.more {n : Nat} {left : List (List Int)} {c : List Int} {m : Nat} {a : List (List Int)} (k : Pk n left c m a) {r : List Int} (hr : r ∈ left) (hn : r ∉ a) {i : Nat} (hi : i < n) (g : setl c a i = false) (g' : setl c (a ++ [r]) i = true) : Pk n left c m (a ++ [r]) := by
  refine ⟨fun x hx => ?_, ?_, ?_⟩
  · rcases List.mem_append.mp hx with hx | hx
    · exact k.sub x hx
    · rw [List.mem_singleton.mp hx]
      exact hr
  · rw [List.nodup_append]
    exact ⟨k.nd, by simp, fun x hx y hy e => hn (by rw [← List.mem_singleton.mp hy, ← e]; exact hx)⟩
  · have := phi_lt (n := n) (c := c) (a := a) (a' := a ++ [r]) (fun x hx => List.mem_append_left _ hx) hi g g'
    have := k.few
    rw [List.length_append, List.length_singleton]
    omega
theorem zip_at {c : List Int} {z : Int} {i : Nat} (h : (z, i) ∈ c.zipIdx) : i < c.length ∧ c.getD i 0 = z := by
  have := List.mem_zipIdx h
  simp at this
  obtain ⟨h1, h2⟩ := this
  exact ⟨h1, by simp [List.getD_eq_getElem?_getD, h1, h2]⟩
theorem at_zip {c : List Int} {i : Nat} (h : i < c.length) : (c.getD i 0, i) ∈ c.zipIdx := by
  rw [List.mk_mem_zipIdx_iff_getElem?]
  simp [List.getD_eq_getElem?_getD, h]
end Rol.G

namespace Rol.G
open PySem L2 PySem.Spec Rol
open PyProof.Rows hiding St
theorem mrow_ok {n : Nat} (h0 : 1 ≤ n) (h : n ≤ 6) {r : List Int} (hr : Row n r) {Q : T → Prop} {X : Xp} (q : Q (row r)) : p_made_row [.int (n : Int), row r] Q X := made_row_s h0 h (gu_rowT h hr) (fun _ => q) (fun j z => by rw [rfault_row hr] at z; cases z)
section
variable {n : Nat} (h0 : 1 ≤ n) (h : n ≤ 6) {rs : List (List Int)} (hr : Lot n rs) {c : List Int} (hc : Row n c) {Q : T → Prop} {X : Xp}
include h0 h hr hc
end
theorem enum_row (c : List Int) : vpairI 0 (c.map T.int) = c.zipIdx.map fun p => T.tup [.int (p.2 : Int), .int p.1] := by
  rw [pair_map, List.zipIdx_map, List.map_map]
  rfl
theorem neBl (a b : Bool) : tNe (.bl a) (.bl b) = some (.bl (a != b)) := by cases a <;> cases b <;> rfl
theorem inB {F : List (List Int)} {i : Nat} (s : Int) : tIn false (.int s) (.lst (F.map fun r => T.int (r.getD i 0))) = some (.bl (hasB F i s)) := by
  have e3 : (F.map fun r => T.int (r.getD i 0)) = (F.map fun r => r.getD i 0).map T.int := by rw [List.map_map]; rfl
  rw [e3, in_ints]
  rw [if_neg (by decide), hasB_mem]
theorem len_row {n : Nat} {c : List Int} (hc : Row n c) : tLen [row c] = some (.int (n : Int)) := by
  show some (T.int ((c.map T.int).length : Int)) = _
  rw [List.length_map, hc.2]
end Rol.G

namespace Rol.G
open PySem L2 PySem.Spec Rol
open PyProof.Rows hiding St
end Rol.G

namespace Rol.G
abbrev Cm := List (Int × Int)
def mxI (a b : Int) : Int := if b > a then b else a
def mnI (a b : Int) : Int := if b < a then b else a
def stepC (c : Cm) (r : List Int) : Cm := (List.range r.length).map fun i => (mxI (c.getD i (0, 0)).1 (r.getD i 0), mnI (c.getD i (0, 0)).2 (r.getD i 0))
def cm0 (n : Nat) : Cm := List.replicate n (0, 0)
def enoughC (c : Cm) (row : List Int) : Prop := ∀ i, i < row.length → (row.getD i 0 = 1 → (c.getD i (0, 0)).1 = 1) ∧ (row.getD i 0 = -1 → (c.getD i (0, 0)).2 = -1) ∧ (row.getD i 0 = 0 → (c.getD i (0, 0)).1 + (c.getD i (0, 0)).2 = 0)
inductive Rch (R : List (List Int)) (n : Nat) : Nat → Cm → Prop
  | z : Rch R n 0 (cm0 n)
  | s {k : Nat} {c : Cm} {r : List Int} : Rch R n k c → r ∈ R → Rch R n (k + 1) (stepC c r)
/-- the search, as it stands ahead of a round -/
structure Bf (R : List (List Int)) (n : Nat) (row : List Int) (s : Nat) (edge M : List Cm) : Prop where
  ahead : ∀ k, 1 ≤ k → k ≤ s → ∀ c, Rch R n k c → c ∈ M
  shut : ∀ c ∈ M, c ∉ edge → ∀ r ∈ R, stepC c r ∈ M
  none : ∀ c ∈ M, ¬ enoughC c row
  first : s = 0 → edge = [cm0 n]
theorem Bf.some {R : List (List Int)} {n : Nat} {row : List Int} {s : Nat} {edge M : List Cm} (b : Bf R n row s edge M) {m : Nat} {c : Cm} (h1 : 1 ≤ m) (hc : Rch R n m c) (he : enoughC c row) : edge ≠ [] := fun e => by
  have s1 : 1 ≤ s := by
    cases s with
    | zero =>
      have := b.first rfl
      rw [e] at this
      cases this
    | succ s => omega
  have all : ∀ k, 1 ≤ k → ∀ c, Rch R n k c → c ∈ M := by
    intro k
    induction k with
    | zero => intro h; omega
    | succ k ih =>
      intro _ c h
      cases h with
      | s h hr =>
        cases k with
        | zero => exact b.ahead 1 (Nat.le_refl _) s1 _ (.s h hr)
        | succ k => exact b.shut _ (ih (by omega) _ h) (by rw [e]; simp) _ hr
  exact b.none c (all m h1 c hc) he
theorem Bf.next {R : List (List Int)} {n : Nat} {row : List Int} {s : Nat} {edge M later M' : List Cm} (b : Bf R n row s edge M) (h1 : ∀ c ∈ M, c ∈ M') (h2 : ∀ c ∈ M', c ∈ M ∨ c ∈ later) (h3 : ∀ c ∈ edge, ∀ r ∈ R, stepC c r ∈ M') (h4 : ∀ c ∈ later, ¬ enoughC c row) : Bf R n row (s + 1) later M' := by
  refine ⟨fun k k1 ks c hc => ?_, fun c hc no r hr => ?_, fun c hc => ?_, fun z => by omega⟩
  · cases hc with
    | z => omega
    | @s k c r hc hr =>
      cases k with
      | zero =>
        cases s with
        | zero =>
          cases hc
          exact h3 _ (by rw [b.first rfl]; simp) _ hr
        | succ s => exact h1 _ (b.ahead 1 (Nat.le_refl _) (by omega) _ (.s hc hr))
      | succ k =>
        have hm := b.ahead (k + 1) (by omega) (by omega) c hc
        by_cases e : c ∈ edge
        · exact h3 c e r hr
        · exact h1 _ (b.shut c hm e r hr)
  · have hm := (h2 c hc).resolve_right no
    by_cases e : c ∈ edge
    · exact h3 c e r hr
    · exact h1 _ (b.shut c hm e r hr)
  · rcases h2 c hc with h | h
    · exact b.none c h
    · exact h4 c h
theorem Bf.start {R : List (List Int)} {n : Nat} {row : List Int} : Bf R n row 0 [cm0 n] [] := ⟨(fun k h1 h2 => by omega), (fun _ h => nomatch h), (fun _ h => nomatch h), fun _ => rfl⟩
end Rol.G

namespace Rol.G
section
variable {α β : Type}
inductive Rg (step : α → β → α) (x0 : α) (R : List β) : Nat → α → Prop
  | z : Rg step x0 R 0 x0
  | s {k : Nat} {x : α} {r : β} : Rg step x0 R k x → r ∈ R → Rg step x0 R (k + 1) (step x r)
structure Bg (step : α → β → α) (x0 : α) (R : List β) (goal : α → Prop) (s : Nat) (edge M : List α) : Prop where
  sub : ∀ x ∈ M, ∃ k, 1 ≤ k ∧ k ≤ s ∧ Rg step x0 R k x
  ahead : ∀ k, 1 ≤ k → k ≤ s → ∀ x, Rg step x0 R k x → x ∈ M
  shut : ∀ x ∈ M, x ∉ edge → ∀ r ∈ R, step x r ∈ M
  none : ∀ x ∈ M, ¬ goal x
  first : s = 0 → edge = [x0]
  here : ∀ x ∈ edge, Rg step x0 R s x
variable {step : α → β → α} {x0 : α} {R : List β} {goal : α → Prop}
theorem Bg.start : Bg step x0 R goal 0 [x0] [] := ⟨(fun _ h => nomatch h), (fun k h1 h2 => by omega), (fun _ h => nomatch h), (fun _ h => nomatch h), (fun _ => rfl), fun x h => by
  rw [List.mem_singleton.mp h]
  exact .z⟩
/-- all of a round, found or not -/
theorem Bg.all {s : Nat} {edge M J : List α} (b : Bg step x0 R goal s edge M) (h3 : ∀ e ∈ edge, ∀ r ∈ R, step e r ∈ M ++ J) {x : α} (h : Rg step x0 R (s + 1) x) : x ∈ M ++ J := by
  cases h with
  | @s k y r hy hr =>
    by_cases e : y ∈ edge
    · exact h3 y e r hr
    · cases s with
      | zero =>
        cases hy
        exact absurd (by rw [b.first rfl]; simp) e
      | succ s => exact List.mem_append_left _ (b.shut y (b.ahead (s + 1) (by omega) (Nat.le_refl _) y hy) e r hr)
theorem Bg.next {s : Nat} {edge M J : List α} (b : Bg step x0 R goal s edge M) (h1 : ∀ x ∈ J, ∃ e ∈ edge, ∃ r ∈ R, x = step e r) (h3 : ∀ e ∈ edge, ∀ r ∈ R, step e r ∈ M ++ J) (h4 : ∀ x ∈ J, ¬ goal x) : Bg step x0 R goal (s + 1) J (M ++ J) := by
  have at' : ∀ x ∈ J, Rg step x0 R (s + 1) x := fun x hx => by
    obtain ⟨e, he, r, hr, rfl⟩ := h1 x hx
    exact .s (b.here e he) hr
  refine ⟨fun x hx => ?_, fun k k1 ks x hx => ?_, fun x hx no r hr => ?_, fun x hx => ?_, fun z => by omega, at'⟩
  · rcases List.mem_append.mp hx with hx | hx
    · obtain ⟨k, a, c, d⟩ := b.sub x hx
      exact ⟨k, a, by omega, d⟩
    · exact ⟨s + 1, by omega, Nat.le_refl _, at' x hx⟩
  · by_cases e : k = s + 1
    · subst e
      exact b.all h3 hx
    · exact List.mem_append_left _ (b.ahead k k1 (by omega) x hx)
  · have hm := (List.mem_append.mp hx).resolve_right no
    by_cases e : x ∈ edge
    · exact h3 x e r hr
    · exact List.mem_append_left _ (b.shut x hm e r hr)
  · rcases List.mem_append.mp hx with h | h
    · exact b.none x h
    · exact h4 x h
/-- a round that finds: it is the least -/
theorem Bg.found {s : Nat} {edge M J : List α} (b : Bg step x0 R goal s edge M) (h1 : ∀ x ∈ J, ∃ e ∈ edge, ∃ r ∈ R, x = step e r) {x : α} (hx : x ∈ J) (g : goal x) : (∃ y, Rg step x0 R (s + 1) y ∧ goal y) ∧ ∀ k, 1 ≤ k → k < s + 1 → ∀ y, Rg step x0 R k y → ¬ goal y := by
  obtain ⟨e, he, r, hr, e2⟩ := h1 x hx
  refine ⟨⟨x, ?_, g⟩, fun k a c y hy => b.none y (b.ahead k a (by omega) y hy)⟩
  rw [e2]
  exact .s (b.here e he) hr
end
end Rol.G

namespace Rol.G
open PySem L2 PySem.Spec Rol
theorem band_nat (a b : Nat) : Builtin.bitAnd (a : Int) (b : Int) = ((a &&& b : Nat) : Int) := by
  unfold Builtin.bitAnd
  rw [decide_eq_true (Int.natCast_nonneg a), decide_eq_true (Int.natCast_nonneg b)]
  simp only [Int.toNat_natCast]
theorem bnot_bnot (x : Int) : Builtin.bitNot (Builtin.bitNot x) = x := by
  unfold Builtin.bitNot
  omega
theorem bor_nat (a b : Nat) : Builtin.bitOr (a : Int) (b : Int) = ((a ||| b : Nat) : Int) := by
  unfold Builtin.bitOr
  have h : ∀ c : Nat, decide (0 ≤ Builtin.bitNot (c : Int)) = false := fun c => decide_eq_false (by unfold Builtin.bitNot; omega)
  have e : Builtin.bitAnd (Builtin.bitNot (a : Int)) (Builtin.bitNot (b : Int)) = Builtin.bitNot ((a ||| b : Nat) : Int) := by
    show (match decide (0 ≤ Builtin.bitNot (a : Int)), decide (0 ≤ Builtin.bitNot (b : Int)) with
      | true, true => _
      | true, false => _
      | false, true => _
      | false, false => Builtin.bitNot (((Builtin.bitNot (Builtin.bitNot (a : Int))).toNat ||| (Builtin.bitNot (Builtin.bitNot (b : Int))).toNat : Nat) : Int)) = _
    rw [h a, h b]
    simp only [bnot_bnot, Int.toNat_natCast]
  rw [e, bnot_bnot]
def mkS (z : Int) : Nat := if z = 1 then 1 else if z = -1 then 2 else 0
def mkP (p : Int × Nat) : Nat := mkS p.1 <<< (2 * p.2)
def mkL (l : List (Int × Nat)) (m : Nat) : Nat := l.foldl (fun m p => m ||| mkP p) m
def mkR (r : List Int) : Nat := mkL r.zipIdx 0
theorem mkS_lt (z : Int) : mkS z < 2 ^ 2 := by
  unfold mkS
  split
  · decide
  · split <;> decide
theorem mkP_bit (p : Int × Nat) (i : Nat) : (mkP p).testBit (2 * i) = decide (p.2 = i ∧ p.1 = 1) ∧ (mkP p).testBit (2 * i + 1) = decide (p.2 = i ∧ p.1 = -1) := by
  have hi : ∀ k, 2 ≤ k → (mkS p.1).testBit k = false := fun k hk => Nat.testBit_lt_two_pow (Nat.lt_of_lt_of_le (mkS_lt _) (Nat.pow_le_pow_right (by decide) hk))
  unfold mkP
  rw [Nat.testBit_shiftLeft, Nat.testBit_shiftLeft]
  by_cases e : p.2 = i
  · subst e
    have e0 : 2 * p.2 - 2 * p.2 = 0 := by omega
    have e1 : 2 * p.2 + 1 - 2 * p.2 = 1 := by omega
    rw [e0, e1, decide_eq_true (show 2 * p.2 ≥ 2 * p.2 by omega), decide_eq_true (show 2 * p.2 + 1 ≥ 2 * p.2 by omega)]
    unfold mkS
    by_cases a : p.1 = 1
    · rw [if_pos a]
      simp [a]
      decide
    · rw [if_neg a]
      by_cases b : p.1 = -1
      · rw [if_pos b]
        simp [b]
        decide
      · rw [if_neg b]
        simp [a, b]
  · have n1 : ¬ (p.2 = i ∧ p.1 = 1) := fun z => e z.1
    have n2 : ¬ (p.2 = i ∧ p.1 = -1) := fun z => e z.1
    rw [decide_eq_false n1, decide_eq_false n2]
    by_cases l : 2 * p.2 ≤ 2 * i
    · rw [hi (2 * i - 2 * p.2) (by omega), hi (2 * i + 1 - 2 * p.2) (by omega)]
      simp
    · rw [decide_eq_false (show ¬ 2 * i ≥ 2 * p.2 by omega), decide_eq_false (show ¬ 2 * i + 1 ≥ 2 * p.2 by omega)]
      simp
theorem mkL_bit : ∀ (l : List (Int × Nat)) (m k : Nat), (mkL l m).testBit k = (m.testBit k || l.any fun p => (mkP p).testBit k)
  | [], m, k => by simp [mkL]
  | p :: l, m, k => by
    show (mkL l (m ||| mkP p)).testBit k = _
    rw [mkL_bit l, Nat.testBit_or, List.any_cons, Bool.or_assoc]
theorem mkR_bit {n : Nat} {r : List Int} (h : r.length = n) {i : Nat} (hi : i < n) : (mkR r).testBit (2 * i) = decide (r.getD i 0 = 1) ∧ (mkR r).testBit (2 * i + 1) = decide (r.getD i 0 = -1) := by
  unfold mkR
  rw [mkL_bit, mkL_bit]
  simp only [Nat.zero_testBit, Bool.false_or]
  have key : ∀ (s : Int), (r.zipIdx.any fun p => decide (p.2 = i ∧ p.1 = s)) = decide (r.getD i 0 = s) := fun s => by
    rw [Bool.eq_iff_iff, List.any_eq_true, decide_eq_true_eq]
    constructor
    · rintro ⟨p, hp, e⟩
      have e := of_decide_eq_true e
      have := (zip_at (z := p.1) (i := p.2) hp).2
      rw [← e.1, ← e.2]
      exact this
    · intro e
      exact ⟨(r.getD i 0, i), at_zip (by rw [h]; exact hi), decide_eq_true ⟨rfl, e⟩⟩
  refine ⟨?_, ?_⟩
  · rw [← key]
    congr 1
    funext p
    exact (mkP_bit p i).1
  · rw [← key]
    congr 1
    funext p
    exact (mkP_bit p i).2
def mkF (F : List (List Int)) (m : Nat) : Nat := F.foldl (fun m r => m ||| mkR r) m
theorem mkF_bit {n : Nat} {i : Nat} (hi : i < n) : ∀ {F : List (List Int)} (m : Nat), (∀ r ∈ F, Row n r) → ((mkF F m).testBit (2 * i) = (m.testBit (2 * i) || hasB F i 1)) ∧ ((mkF F m).testBit (2 * i + 1) = (m.testBit (2 * i + 1) || hasB F i (-1)))
  | [], m, _ => by simp [mkF, hasB]
  | r :: F, m, h => by
    have ih := mkF_bit hi (F := F) (m ||| mkR r) fun x hx => h x (by simp [hx])
    have b := mkR_bit (h r (by simp)).2 hi
    have e : mkF (r :: F) m = mkF F (m ||| mkR r) := rfl
    rw [e, ih.1, ih.2, Nat.testBit_or, Nat.testBit_or, b.1, b.2]
    unfold hasB
    rw [List.any_cons, List.any_cons]
    simp only [Bool.or_assoc, and_self]
/-- marks that lead -/
def goalM (n : Nat) (m : Nat) (c : List Int) : Prop := ∀ i, i < n → (c.getD i 0 = 0 → m.testBit (2 * i) = m.testBit (2 * i + 1)) ∧ (c.getD i 0 = 1 → m.testBit (2 * i) = true) ∧ (c.getD i 0 = -1 → m.testBit (2 * i + 1) = true)
theorem goal_ok {n : Nat} {F : List (List Int)} (hF : ∀ r ∈ F, Row n r) {c : List Int} (hc : Row n c) : goalM n (mkF F 0) c ↔ OkS n F c := by
  constructor
  · intro g i hi
    obtain ⟨g1, g2, g3⟩ := g i hi
    obtain ⟨b1, b2⟩ := mkF_bit hi 0 hF
    rw [b1, b2] at g1
    rw [b1] at g2
    rw [b2] at g3
    simp only [Nat.zero_testBit, Bool.false_or] at g1 g2 g3
    refine ⟨fun e => ?_, fun e => ?_⟩
    · rw [← hasB_iff, ← hasB_iff, g1 e]
    · rcases sgn_at hc i with z | z | z
      · rw [z]
        exact hasB_iff.mp (g3 z)
      · exact absurd z e
      · rw [z]
        exact hasB_iff.mp (g2 z)
  · intro ok i hi
    obtain ⟨o1, o2⟩ := ok i hi
    obtain ⟨b1, b2⟩ := mkF_bit hi 0 hF
    rw [b1, b2]
    simp only [Nat.zero_testBit, Bool.false_or]
    refine ⟨fun e => ?_, fun e => ?_, fun e => ?_⟩
    · have := o1 e
      rw [← hasB_iff, ← hasB_iff] at this
      exact Bool.eq_iff_iff.mpr this
    · have := o2 (by omega)
      rw [e] at this
      exact hasB_iff.mpr this
    · have := o2 (by omega)
      rw [e] at this
      exact hasB_iff.mpr this
/-- two bits of some marks -/
theorem two_bits (m i : Nat) : m / 2 ^ (2 * i) % 4 = (if m.testBit (2 * i) = true then 1 else 0) + (if m.testBit (2 * i + 1) = true then 2 else 0) := by
  rw [Nat.testBit_eq_decide_div_mod_eq, Nat.testBit_eq_decide_div_mod_eq]
  have e : m / 2 ^ (2 * i + 1) = m / 2 ^ (2 * i) / 2 := by rw [Nat.pow_succ, Nat.div_div_eq_div_mul]
  rw [e]
  generalize m / 2 ^ (2 * i) = x
  simp only [decide_eq_true_eq]
  split <;> split <;> omega
end Rol.G

namespace Rol.G
open PySem L2 PySem.Spec Rol
open PyProof.Rows hiding St
theorem bor_T (a b : Nat) : tOr (.int (a : Int)) (.int (b : Int)) = some (.int ((a ||| b : Nat) : Int)) := by
  show some (T.int (Builtin.bitOr (a : Int) (b : Int))) = _
  rw [bor_nat]
theorem two_T {i : Nat} (h : i ≤ 1000) : tMulW (.int 2) (.int (i : Int)) = some (.int ((2 * i : Nat) : Int)) := by
  rw [tMul_int (cMul_s (by decide) (by decide))]
  rfl
theorem wget_s {z : Int} (h : Sgn z) : tWGet [(.inl 0, .int 0), (.inl 1, .int 1), (.inl (-1), .int 2)] (.int z) = some (.int (mkS z : Int)) := by
  rcases h with rfl | rfl | rfl <;> rfl
theorem shl_T {a i : Nat} (h : a < 2 ^ 2) (hi : i ≤ 1000) : tShl (.int (a : Int)) (.int (i : Int)) = some (.int ((a <<< i : Nat) : Int)) := by
  have hc : (decide ((0 : Int) ≤ (i : Int)) && decide ((i : Int) ≤ 1000000) && decide ((a : Int).natAbs < 2 ^ 64)) = true := by
    simp only [Bool.and_eq_true, decide_eq_true_eq]
    refine ⟨⟨by omega, by omega⟩, ?_⟩
    rw [Int.natAbs_natCast]
    exact Nat.lt_of_lt_of_le h (by decide)
  show (if _ = true then some (T.int ((a : Int) * 2 ^ (i : Int).toNat)) else none) = _
  rw [if_pos hc, Int.toNat_natCast, Nat.shiftLeft_eq]
  congr 2
theorem marks_of_s {n : Nat} (h : n ≤ 6) {r : List Int} (hr : Row n r) {Q : T → Prop} {X : Xp} (q : Q (.int (mkR r : Int))) : p_marks_of [row r] Q X := by
  simp! only [e_marks_of]
  rw [enum_row]
  refine for_map (fun (p : Int × Nat) => T.tup [.int (p.2 : Int), .int p.1]) (fun d E => ∃ w2 w3, E = [some (row r), some (.int (mkL d 0 : Int)), w2, w3]) ⟨_, _, rfl⟩ (fun d p l E N hd ⟨w2, w3, hE⟩ hN => ?_) fun E ⟨w2, w3, hE⟩ => ?_
  · subst hE
    have hp : p ∈ r.zipIdx := by rw [hd]; simp
    obtain ⟨a1, a2⟩ := zip_at (z := p.1) (i := p.2) hp
    have hi : p.2 ≤ 1000 := by
      have := hr.2
      omega
    have sg : Sgn p.1 := by
      rw [← a2]
      exact sgn_at hr p.2
    simp! only [ wget_s sg, two_T hi, shl_T (mkS_lt p.1) (show 2 * p.2 ≤ 1000 by have := hr.2; omega), bor_T]
    have e : mkL (d ++ [p]) 0 = mkL d 0 ||| mkS p.1 <<< (2 * p.2) := by
      unfold mkL
      rw [List.foldl_append]
      rfl
    exact hN _ ⟨some (.int (p.2 : Int)), some (.int p.1), by rw [e]⟩
  · subst hE
    simp! only []
    exact q
theorem here_T (m : Nat) {i : Nat} : tShr (.int (m : Int)) (.int ((2 * i : Nat) : Int)) = some (.int ((m / 2 ^ (2 * i) : Nat) : Int)) := by
  show (if decide ((0 : Int) ≤ ((2 * i : Nat) : Int)) = true then some (T.int ((m : Int) / 2 ^ ((2 * i : Nat) : Int).toNat)) else none) = _
  rw [if_pos (decide_eq_true (by omega)), Int.toNat_natCast]
  congr 2
theorem and3_T (a : Nat) : tAnd (.int (a : Int)) (.int 3) = some (.int ((a % 4 : Nat) : Int)) := by
  show some (T.int (Builtin.bitAnd (a : Int) ((3 : Nat) : Int))) = _
  rw [band_nat]
  congr 3
  exact Nat.and_two_pow_sub_one_eq_mod a 2
theorem tIn_rowI (neg : Bool) (i : Int) (rs : List Int) : tIn neg (.int i) (row rs) = some (.bl (if neg = true then !decide (i ∈ rs) else decide (i ∈ rs))) := by
  unfold tIn
  rw [toPT_int, toPT_row]
  unfold pr
  simp only [shaped_int, show SeqAt.shaped (.tuple (rs.map PyData.int)) = true from shaped_pr rs, and_self, if_true, any_int]
theorem marks_lead_s {n : Nat} (h : n ≤ 6) (m : Nat) {c : List Int} (hc : Row n c) {Q : T → Prop} {X : Xp} (qy : goalM n m c → Q (.bl true)) (qn : ¬ goalM n m c → Q (.bl false)) : p_marks_lead [.int (m : Int), row c] Q X := by
  simp! only [e_marks_lead]
  rw [enum_row]
  refine for_map (fun (p : Int × Nat) => T.tup [.int (p.2 : Int), .int p.1]) (fun d E => (∀ p ∈ d, (p.1 = 0 → m.testBit (2 * p.2) = m.testBit (2 * p.2 + 1)) ∧ (p.1 = 1 → m.testBit (2 * p.2) = true) ∧ (p.1 = -1 → m.testBit (2 * p.2 + 1) = true)) ∧ ∃ w2 w3 w4, E = [some (.int (m : Int)), some (row c), w2, w3, w4]) ⟨(fun _ z => nomatch z), _, _, _, rfl⟩ (fun d p l E N hd ⟨hb, w2, w3, w4, hE⟩ hN => ?_) fun E ⟨hb, w2, w3, w4, hE⟩ => ?_
  · subst hE
    have hp : p ∈ c.zipIdx := by rw [hd]; simp
    obtain ⟨a1, a2⟩ := zip_at (z := p.1) (i := p.2) hp
    have hi : p.2 < n := by
      have := hc.2
      omega
    have sg : Sgn p.1 := by
      rw [← a2]
      exact sgn_at hc p.2
    have bad : ¬ ((p.1 = 0 → m.testBit (2 * p.2) = m.testBit (2 * p.2 + 1)) ∧ (p.1 = 1 → m.testBit (2 * p.2) = true) ∧ (p.1 = -1 → m.testBit (2 * p.2 + 1) = true)) → Q (.bl false) := fun z => qn fun g => z (by
      have := g p.2 hi
      rw [a2] at this
      exact this)
    have good : ((p.1 = 0 → m.testBit (2 * p.2) = m.testBit (2 * p.2 + 1)) ∧ (p.1 = 1 → m.testBit (2 * p.2) = true) ∧ (p.1 = -1 → m.testBit (2 * p.2 + 1) = true)) → ∀ w4, N [some (.int (m : Int)), some (row c), some (.int (p.2 : Int)), some (.int p.1), w4] := fun z w4 => hN _ ⟨fun y hy => by
      rcases List.mem_append.mp hy with hy | hy
      · exact hb y hy
      · rw [List.mem_singleton.mp hy]
        exact z, _, _, _, rfl⟩
    have tb := two_bits m p.2
    simp! only [ two_T (show p.2 ≤ 1000 by omega), here_T, and3_T]
    rw [tb]
    revert bad good
    generalize m.testBit (2 * p.2) = b1
    generalize m.testBit (2 * p.2 + 1) = b2
    generalize p.1 = z at *
    intro bad good
    have in4 : ∀ a : Int, tIn true (.int a) (.tup [.int 0, .int 3]) = some (.bl (!decide (a ∈ [0, 3]))) := fun a => by
      exact tIn_rowI true a [0, 3]
    have band : ∀ a b : Nat, tAnd (.int (a : Int)) (.int (b : Int)) = some (.int ((a &&& b : Nat) : Int)) := fun a b => by
      show some (T.int (Builtin.bitAnd (a : Int) (b : Int))) = _
      rw [band_nat]
    have inN : ∀ k : Nat, tIn true (.int (k : Int)) (.tup [.int 0, .int 3]) = some (.bl (!(k == 0 || k == 3))) := fun k => by
      rw [in4]
      congr 2
      rw [Bool.eq_iff_iff]
      simp
      omega
    have eqN : ∀ k : Nat, tEq (.int (k : Int)) (.int 0) = some (.bl (k == 0)) := fun k => by
      rw [tEq_int]
      congr 2
      rw [Bool.eq_iff_iff]
      simp
    have e0 : tEq (.int 0) (.int 0) = some (.bl true) := by rw [tEq_int]; rfl
    have e1 : tEq (.int 1) (.int 0) = some (.bl false) := by rw [tEq_int]; rfl
    have e2 : tEq (.int (-1)) (.int 0) = some (.bl false) := by rw [tEq_int]; rfl
    have g0 : tNe (.int 0) (.int 0) = some (.bl false) := by rw [tNe_int]; rfl
    have g1 : tNe (.int 1) (.int 0) = some (.bl true) := by rw [tNe_int]; rfl
    have g2 : tNe (.int (-1)) (.int 0) = some (.bl true) := by rw [tNe_int]; rfl
    have hH : ∃ k : Nat, ((if b1 = true then 1 else 0) + (if b2 = true then 2 else 0) : Nat) = k ∧ (k == 0 || k == 3) = (b1 == b2) ∧ (k &&& 1 == 0) = !b1 ∧ (k &&& 2 == 0) = !b2 := by
      cases b1 <;> cases b2 <;> exact ⟨_, rfl, by decide, by decide, by decide⟩
    obtain ⟨k, ek, k1, k2, k3⟩ := hH
    rw [ek]
    simp only [wget_s sg, band]
    rcases sg with e | e | e
    · subst e
      simp! only [e2, g2,  show mkS (-1) = 2 from rfl, band, eqN, k3]
      cases b2
      · simp only [Bool.not_false, if_true]
        exact bad fun z => absurd (z.2.2 rfl) (by decide)
      · simp only [Bool.not_true, Bool.false_eq_true, if_false]
        exact good ⟨fun z => absurd z (by decide), fun z => absurd z (by decide), fun _ => rfl⟩ _
    · subst e
      simp! only [e0, g0,  inN, k1]
      refine ⟨by decide, ?_⟩
      by_cases y : b1 = b2
      · have y2 : (b1 == b2) = true := by rw [y]; simp
        simp! only [y2]
        exact good ⟨fun _ => y, fun z => absurd z (by decide), fun z => absurd z (by decide)⟩ _
      · have y2 : (b1 == b2) = false := by simp [y]
        simp! only [y2]
        exact bad fun z => y (z.1 rfl)
    · subst e
      simp! only [e1, g1,  show mkS 1 = 1 from rfl, band, eqN, k2]
      cases b1
      · simp only [Bool.not_false, if_true]
        exact bad fun z => absurd (z.2.1 rfl) (by decide)
      · simp only [Bool.not_true, Bool.false_eq_true, if_false]
        exact good ⟨fun z => absurd z (by decide), fun _ => rfl, fun z => absurd z (by decide)⟩ _
  · subst hE
    simp! only []
    refine qy fun i hi => ?_
    exact hb (c.getD i 0, i) (at_zip (by rw [hc.2]; exact hi))
theorem enum_rows (F : List (List Int)) : vpairI 0 (F.map row) = F.zipIdx.map fun p => T.tup [.int (p.2 : Int), row p.1] := by
  rw [pair_map, List.zipIdx_map, List.map_map]
  rfl
theorem made_rows_s {n : Nat} (h0 : 1 ≤ n) (h : n ≤ 6) {F : List (List Int)} (hF : ∀ r ∈ F, Row n r) (l1 : 1 ≤ F.length) (l2 : F.length ≤ 14) {Q : T → Prop} {X : Xp} (q : Q (rows F)) : p_made_rows [.int (n : Int), rows F] Q X := by
  have gF : Gu 2 2000 (rows F) := .tup (k := 1) (m := 93) (fun x hx => by
    obtain ⟨r, hr, rfl⟩ := List.mem_map.mp hx
    exact gu_rowT h (hF r hr)) (by rw [List.length_map]; omega)
  have it : tIsi [rows F, .opq (.ty "tuple")] = some (.bl true) := isi_tup gF
  have len : tLen [rows F] = some (.int (F.length : Int)) := by
    show some (T.int ((F.map row).length : Int)) = _
    rw [List.length_map]
  have ea : tLeA (.int 1) (.int (F.length : Int)) = some (.bl true) := by
    show some (T.bl (decide ((1 : Int) ≤ (F.length : Int)))) = _
    rw [decide_eq_true (by omega)]
  have eb : tLeA (.int (F.length : Int)) (.int 14) = some (.bl true) := by
    show some (T.bl (decide ((F.length : Int) ≤ 14))) = _
    rw [decide_eq_true (by omega)]
  simp only [e_made_rows, q_pf, List.map_cons, List.map_nil, List.length_cons, List.length_nil, List.replicate, List.cons_append, List.nil_append, Nat.reduceAdd, Nat.reduceSub, Nat.zero_add, true_and]
  refine seq_cut (P := fun E => E = [some (.int (n : Int)), some (rows F), none, none]) (fun N hN => ?_) fun E hE => ?_
  · simp! only []
    exact ask_many_s (k := 0) (m := 13) (gd_small (by omega) (Nat.le_refl _)) (fun _ => hN _ rfl) fun z => (by
      rw [many_iff.mpr ⟨n, rfl, h0, h⟩] at z
      cases z)
  subst hE
  refine seq_cut (P := fun E => E = [some (.int (n : Int)), some (rows F), none, none]) (fun N hN => ?_) fun E hE => ?_
  · simp! only [ it, len, ea, eb]
    exact hN _ rfl
  subst hE
  refine seq_cut (P := fun E => ∃ w2 w3, E = [some (.int (n : Int)), some (rows F), w2, w3]) (fun N hN => ?_) fun E ⟨w2, w3, hE⟩ => ?_
  · simp only [q_wFor, q_viEnum, q_vaCons, q_vaNil, q_vVar, List.getElem?_cons_zero, List.getElem?_cons_succ]
    show vForL _ _ (vpairI 0 (F.map row)) _ _
    rw [enum_rows]
    refine for_map (fun (p : List Int × Nat) => T.tup [.int (p.2 : Int), row p.1]) (fun d E => ∃ w2 w3, E = [some (.int (n : Int)), some (rows F), w2, w3]) ⟨_, _, rfl⟩ (fun d p l E N1 hd ⟨w2, w3, hE⟩ hN1 => ?_) fun E hE => hN E hE
    subst hE
    have hp : p.1 ∈ F := by
      have : p ∈ F.zipIdx := by rw [hd]; simp
      obtain ⟨i, hi, e⟩ := List.mem_zipIdx' this |> fun z => (⟨p.2, z.1, z.2⟩ : ∃ i, ∃ hi : i < F.length, p.1 = F[i])
      rw [e]
      exact List.getElem_mem hi
    have e9 : tNotN T.non T.non = some (.bl false) := rfl
    simp! only []
    refine row_fault_x (gu_rowT h (hF p.1 hp)) ?_
    rw [rfault_row (hF p.1 hp)]
    simp! only [e9]
    exact hN1 _ ⟨_, _, rfl⟩
  subst hE
  simp! only []
  exact q
theorem leads_s {n : Nat} (h0 : 1 ≤ n) (h : n ≤ 6) {F : List (List Int)} (hF : ∀ r ∈ F, Row n r) (l1 : 1 ≤ F.length) (l2 : F.length ≤ 14) {c : List Int} (hc : Row n c) {Q : T → Prop} {X : Xp} (qy : OkS n F c → Q (.bl true)) (qn : ¬ OkS n F c → Q (.bl false)) : p_leads [.int (n : Int), rows F, row c] Q X := by
  simp only [e_leads, q_pf, List.map_cons, List.map_nil, List.length_cons, List.length_nil, List.replicate, List.cons_append, List.nil_append, Nat.reduceAdd, Nat.reduceSub, Nat.zero_add, true_and]
  refine seq_cut (P := fun E => E = [some (.int (n : Int)), some (rows F), some (row c), none, none]) (fun N hN => ?_) fun E hE => ?_
  · simp! only []
    exact made_rows_s h0 h hF l1 l2 (hN _ rfl)
  subst hE
  refine seq_cut (P := fun E => E = [some (.int (n : Int)), some (rows F), some (row c), none, none]) (fun N hN => ?_) fun E hE => ?_
  · simp! only []
    exact mrow_ok h0 h hc (hN _ rfl)
  subst hE
  refine seq_cut (P := fun E => E = [some (.int (n : Int)), some (rows F), some (row c), some (.int ((0 : Nat) : Int)), none]) (fun N hN => ?_) fun E hE => ?_
  · simp! only []
    exact hN _ rfl
  subst hE
  refine seq_cut (P := fun E => ∃ w4, E = [some (.int (n : Int)), some (rows F), some (row c), some (.int (mkF F 0 : Int)), w4]) (fun N hN => ?_) fun E ⟨w4, hE⟩ => ?_
  · simp only [q_wFor, q_viSeq, q_vVar, List.getElem?_cons_zero, List.getElem?_cons_succ, itT, q_Ok]
    refine for_map row (fun d E => ∃ w4, E = [some (.int (n : Int)), some (rows F), some (row c), some (.int (mkF d 0 : Int)), w4]) ⟨_, rfl⟩ (fun d r l E N1 hd ⟨w4, hE⟩ hN1 => ?_) fun E hE => hN E hE
    subst hE
    have hr : r ∈ F := by rw [hd]; simp
    simp! only []
    refine marks_of_s h (hF r hr) ?_
    have e : mkF (d ++ [r]) 0 = mkF d 0 ||| mkR r := by
      unfold mkF
      rw [List.foldl_append]
      rfl
    simp! only [bor_T]
    exact hN1 _ ⟨some (row r), by rw [e]⟩
  subst hE
  simp! only []
  exact marks_lead_s h _ hc (fun g => qy ((goal_ok hF hc).mp g)) fun g => qn fun z => g ((goal_ok hF hc).mpr z)
end Rol.G

namespace Rol.G
open PySem L2 PySem.Spec Rol
open PyProof.Rows hiding St
/-- the sums of two rows -/
def S2 (a b : List Int) : List (List Int) := prod (List.zipWith ss a b)
theorem okS_mem {n : Nat} {F G : List (List Int)} (e : ∀ r, r ∈ F ↔ r ∈ G) (c : List Int) : OkS n F c ↔ OkS n G c := by
  have h : ∀ i s, has F i s ↔ has G i s := fun i s => by
    unfold has
    simp only [e]
  unfold OkS
  simp only [h]
section
variable {n : Nat}
theorem s2_rowS {a b c : List Int} (ha : Row n a) (hb : Row n b) (hc : c ∈ S2 a b) : Row n c := by
  obtain ⟨l, g⟩ := (sum_iff ha.2 hb.2).mp hc
  refine ⟨fun z hz => ?_, l⟩
  obtain ⟨i, hi, rfl⟩ := List.mem_iff_getElem.mp hz
  have h1 := g i (by omega)
  rw [show c.getD i 0 = c[i] by simp [List.getD_eq_getElem?_getD, hi]] at h1
  exact ss_sgn (sgn_at ha i) (sgn_at hb i) h1
theorem okS_one {r c : List Int} (hr : Row n r) (hc : Row n c) : OkS n [r] c ↔ c = r := by
  constructor
  · intro ok
    refine List.ext_getElem (by rw [hc.2, hr.2]) fun i h1 h2 => ?_
    have hi : i < n := by rw [← hc.2]; exact h1
    have q := (okS_al hc).mp ok i hi
    have e1 : c.getD i 0 = c[i] := by simp [List.getD_eq_getElem?_getD, h1]
    have e2 : r.getD i 0 = r[i] := by simp [List.getD_eq_getElem?_getD, h2]
    have hh : ∀ s, has [r] i s ↔ r[i] = s := fun s => by rw [← e2]; simp [has]
    rw [hh, hh, e1] at q
    have hs : Sgn r[i] := hr.1 _ (List.getElem_mem h2)
    obtain ⟨q0, q1, q2, q3⟩ := q
    rcases q0 with z | z | z
    · rw [z, q3 z]
    · rcases hs with y | y | y
      · exact absurd ((q1 z).mpr y) (by omega)
      · rw [z, y]
      · exact absurd ((q1 z).mp y) (by omega)
    · rw [z, q2 z]
  · rintro rfl
    refine (okS_al hc).mpr fun i hi => ?_
    have hh : ∀ s, has [c] i s ↔ c.getD i 0 = s := fun s => by simp [has]
    rw [hh, hh]
    exact ⟨sgn_at hc i, fun z => by rw [z]; decide, fun z => z, fun z => z⟩
theorem okS_snoc {F : List (List Int)} {b c : List Int} (hb : Row n b) (hc : Row n c) : OkS n (F ++ [b]) c ↔ ∃ a, Row n a ∧ OkS n F a ∧ c ∈ S2 a b := by
  rw [okS_mem (G := b :: F) (fun r => by simp [or_comm])]
  constructor
  · intro ok
    have q := (okS_al hc).mp ok
    have step : ∀ i, ∃ y, i < n → Al1 (has F i 1) (has F i (-1)) y ∧ c.getD i 0 ∈ ss y (b.getD i 0) := fun i => by
      by_cases hi : i < n
      · have g := q i hi
        unfold Al1 at g
        rw [has_cons, has_cons] at g
        obtain ⟨y, hy⟩ := al_sum (sgn_at hb i) g
        exact ⟨y, fun _ => hy⟩
      · exact ⟨0, fun z => absurd z hi⟩
    obtain ⟨f, hf⟩ := Classical.axiomOfChoice step
    have hd : Row n ((List.range n).map f) := ⟨fun z hz => by
      obtain ⟨i, hi, rfl⟩ := List.mem_map.mp hz
      exact (hf i (List.mem_range.mp hi)).1.1, by simp⟩
    refine ⟨_, hd, (okS_al hd).mpr fun i hi => ?_, (sum_iff hd.2 hb.2).mpr ⟨hc.2, fun i hi => ?_⟩⟩
    · rw [getD_tab f i hi]
      exact (hf i hi).1
    · rw [getD_tab f i hi]
      exact (hf i hi).2
  · rintro ⟨a, ha, ok, hs⟩
    refine (okS_al hc).mpr fun i hi => ?_
    have qa := (okS_al ha).mp ok i hi
    have qb : Al1 (b.getD i 0 = 1) (b.getD i 0 = -1) (b.getD i 0) := ⟨sgn_at hb i, fun z => by rw [z]; decide, fun z => z, fun z => z⟩
    rw [has_cons, has_cons]
    exact al_join qa qb (((sum_iff ha.2 hb.2).mp hs).2 i hi)
end
def encB (K : List (List Int)) : List (List Key × T) := K.map fun c => (kO c, .bl true)
theorem kGet_encB : ∀ (K : List (List Int)) (c : List Int), (kGet (encB K) (kO c)).isSome = decide (c ∈ K)
  | [], c => rfl
  | p :: K, c => by
    show (kGet ((kO p, _) :: encB K) (kO c)).isSome = _
    by_cases e : p = c
    · rw [kGet_pos (by rw [e])]
      simp [e]
    · rw [kGet_neg (fun z => e (inl_inj _ _ z)), kGet_encB K c]
      have : c ≠ p := fun z => e z.symm
      simp [this]
theorem put_new {K : List (List Int)} {c : List Int} (h : c ∉ K) : kPut (encB K) (kO c) (.bl true) = encB (K ++ [c]) := by
  unfold kPut
  rw [kGet_encB, decide_eq_false h, if_neg Bool.false_ne_true]
  unfold encB
  rw [List.map_append]
  rfl
theorem put_old {K : List (List Int)} {c : List Int} (h : c ∈ K) : kPut (encB K) (kO c) (.bl true) = encB K := by
  unfold kPut
  rw [kGet_encB, decide_eq_true h, if_pos rfl]
  unfold encB
  rw [List.map_map]
  refine List.map_congr_left fun p _ => ?_
  show (if kO p = kO c then (kO p, T.bl true) else (kO p, T.bl true)) = _
  split <;> rfl
theorem keysTT_kO : ∀ K : List (List Int), keysTT (K.map kO) = some (K.map row)
  | [] => rfl
  | c :: K => by
    have e : ∀ r : List Int, intKey (kO r) = some r := fun r => by
      induction r with
      | nil => rfl
      | cons i r ih =>
        show (intKey (kO r)).map (i :: ·) = _
        rw [ih]
        rfl
    rw [List.map_cons, keysTT, e, keysTT_kO K]
    rfl
theorem keys_encB (K : List (List Int)) : keysTT ((encB K).map (·.1)) = some (K.map row) := by
  have e : (encB K).map (·.1) = K.map kO := by
    unfold encB
    rw [List.map_map]
    rfl
  rw [e, keysTT_kO]
theorem walk_encB (K : List (List Int)) : itK (dxOf (encB K)) = some (K.map row) := keys_encB K
theorem in_encB (neg : Bool) (K : List (List Int)) (c : List Int) : tDIn neg (row c) (dxOf (encB K)) = some (.bl (if neg = true then !decide (c ∈ K) else decide (c ∈ K))) := by
  rw [tDIn_dx, ktup_row, Option.map_some, kGet_encB]
theorem encB_len (K : List (List Int)) : (encB K).length = K.length := by
  unfold encB
  rw [List.length_map]
theorem all_sums_s {n : Nat} (h : n ≤ 6) {F : List (List Int)} (hF : ∀ r ∈ F, Row n r) (ne : F ≠ []) {Q : T → Prop} {X : Xp} (q : ∀ K : List (List Int), K.Nodup → (∀ c, c ∈ K ↔ Row n c ∧ OkS n F c) → Q (dxOf (encB K))) : p__law_all_sums [rows F] Q X := by
  cases F with
  | nil => exact absurd rfl ne
  | cons r0 F =>
  have h0 := hF r0 (.head _)
  have i0 : tIx (rows (r0 :: F)) (.int 0) = some (row r0) := by
    show atI ((r0 :: F).map row) ((0 : Nat) : Int) = _
    rw [ix_of (by simp)]
    rfl
  have s1 : tSl (rows (r0 :: F)) (some 1) none = some (rows F) := by
    show some (T.tup (cutT ((r0 :: F).map row) (some ((1 : Nat) : Int)) none)) = _
    rw [cutT_from]
    rfl
  simp only [e__law_all_sums, q_pf, List.map_cons, List.map_nil, List.length_cons, List.length_nil, List.replicate, List.cons_append, List.nil_append, Nat.reduceAdd, Nat.reduceSub, Nat.zero_add, true_and]
  refine seq_cut (P := fun E => E = [some (rows (r0 :: F)), some (dxOf (encB [r0])), none, none, none, none]) (fun N hN => ?_) fun E hE => ?_
  · simp! only [ q_vDOne, i0, ktup_row]
    exact ⟨rfl, hN _ rfl⟩
  subst hE
  refine seq_cut (P := fun E => ∃ (K : List (List Int)) (w2 w3 w4 w5 : Option T), K.Nodup ∧ (∀ c, c ∈ K ↔ Row n c ∧ OkS n (r0 :: F) c) ∧ E = [some (rows (r0 :: F)), some (dxOf (encB K)), w2, w3, w4, w5]) (fun N hN => ?_) fun E ⟨K, w2, w3, w4, w5, k1, k2, hE⟩ => ?_
  rotate_left
  · subst hE
    simp! only []
    exact q K k1 k2
  simp! only [ s1, itT]
  refine for_map (xs := F) row (fun d E => ∃ (K : List (List Int)) (w2 w3 w4 w5 : Option T), K.Nodup ∧ (∀ c, c ∈ K ↔ Row n c ∧ OkS n (r0 :: d) c) ∧ E = [some (rows (r0 :: F)), some (dxOf (encB K)), w2, w3, w4, w5]) ⟨[r0], _, _, _, _, by simp, fun c => ?_, rfl⟩ (fun d r l E N1 hd ⟨K, w2, w3, w4, w5, k1, k2, hE⟩ hN1 => ?_) fun E ⟨K, w2, w3, w4, w5, k1, k2, hE⟩ => hN E ⟨K, w2, w3, w4, w5, k1, k2, hE⟩
  · rw [List.mem_singleton]
    constructor
    · rintro rfl
      exact ⟨h0, (okS_one h0 h0).mpr rfl⟩
    · rintro ⟨hc, ok⟩
      exact (okS_one h0 hc).mp ok
  subst hE
  have hr : Row n r := hF r (by rw [hd]; simp)
  simp only [setT, q_Ok, List.set_cons_zero, List.set_cons_succ]
  refine seq_cut (P := fun E => E = [some (rows (r0 :: F)), some (dxOf (encB K)), some (row r), some (dxOf (encB [])), w4, w5]) (fun N hN => ?_) fun E hE => ?_
  · simp! only []
    exact hN _ rfl
  subst hE
  have rK : ∀ a ∈ K, Row n a := fun a ha => ((k2 a).mp ha).1
  have lr : ∀ {J : List (List Int)} {Z : List Int → Prop}, J.Nodup → (∀ c, c ∈ J ↔ Z c) → (∀ c, Z c → Row n c) → J.length ≤ 729 := fun {J Z} nd e g => rows_len h nd fun c hc => g c ((e c).mp hc)
  refine seq_cut (P := fun E => ∃ (J : List (List Int)) (w4 w5 : Option T), J.Nodup ∧ (∀ c, c ∈ J ↔ ∃ a ∈ K, c ∈ S2 a r) ∧ E = [some (rows (r0 :: F)), some (dxOf (encB K)), some (row r), some (dxOf (encB J)), w4, w5]) (fun N hN => ?_) fun E ⟨J, w4, w5, j1, j2, hE⟩ => ?_
  rotate_left
  · subst hE
    simp only [q_wMove, List.getElem?_cons_zero, List.getElem?_cons_succ, List.set_cons_zero, List.set_cons_succ]
    refine hN1 _ ⟨J, _, _, _, _, j1, fun c => ?_, rfl⟩
    rw [j2]
    constructor
    · rintro ⟨a, ha, hc⟩
      have rc := s2_rowS (rK a ha) hr hc
      exact ⟨rc, (okS_snoc (F := r0 :: d) hr rc).mpr ⟨a, rK a ha, ((k2 a).mp ha).2, hc⟩⟩
    · rintro ⟨rc, ok⟩
      obtain ⟨a, ra, oa, hc⟩ := (okS_snoc (F := r0 :: d) hr rc).mp ok
      exact ⟨a, (k2 a).mpr ⟨ra, oa⟩, hc⟩
  simp only [q_wLock, q_wFor, q_viWalk, List.getElem?_cons_zero, List.getElem?_cons_succ, Option.join_some, Option.bind_some, walk_encB, q_Ok]
  refine ⟨⟨_, _, rfl⟩, ?_⟩
  refine for_map (xs := K) row (fun dA E => ∃ (J : List (List Int)) (w4 w5 : Option T), J.Nodup ∧ (∀ c, c ∈ J ↔ ∃ a ∈ dA, c ∈ S2 a r) ∧ E = [some (rows (r0 :: F)), some (dxOf (encB K)), some (row r), some (dxOf (encB J)), w4, w5]) ⟨[], _, _, List.nodup_nil, fun c => by simp, rfl⟩ (fun dA a lA E N2 hdA ⟨J, w4, w5, j1, j2, hE⟩ hN2 => ?_) fun E ⟨J, w4, w5, j1, j2, hE⟩ => hN E ⟨J, w4, w5, j1, j2, hE⟩
  subst hE
  have ha : a ∈ K := by rw [hdA]; simp
  simp only [setT, q_Ok, List.set_cons_zero, List.set_cons_succ, q_wFor, q_viSeq, q_vFn, q_vaCons, q_vaNil, q_vVar, List.getElem?_cons_zero, List.getElem?_cons_succ]
  refine sums_of_s h (rK a ha) hr ?_
  simp only [itT, q_Ok]
  refine for_map (xs := S2 a r) row (fun dC E => ∃ (J : List (List Int)) (w5 : Option T), J.Nodup ∧ (∀ c, c ∈ J ↔ (∃ a ∈ dA, c ∈ S2 a r) ∨ c ∈ dC) ∧ E = [some (rows (r0 :: F)), some (dxOf (encB K)), some (row r), some (dxOf (encB J)), some (row a), w5]) ⟨J, _, j1, fun c => by rw [j2]; simp, rfl⟩ (fun dC c lC E N3 hdC ⟨J, w5, j1, j2, hE⟩ hN3 => ?_) fun E ⟨J, w5, j1, j2, hE⟩ => by
    subst hE
    refine hN2 _ ⟨J, _, _, j1, fun c => ?_, rfl⟩
    rw [j2]
    constructor
    · rintro (⟨a', ha', hc⟩ | hc)
      · exact ⟨a', by simp [ha'], hc⟩
      · exact ⟨a, by simp, hc⟩
    · rintro ⟨a', ha', hc⟩
      rcases List.mem_append.mp ha' with g | g
      · exact .inl ⟨a', g, hc⟩
      · rw [List.mem_singleton.mp g] at hc
        exact .inr hc
  subst hE
  have lJ : J.length ≤ 729 := lr j1 j2 fun x hx => by
    rcases hx with ⟨a', ha', hx⟩ | hx
    · exact s2_rowS (rK a' (by rw [hdA]; simp [ha'])) hr hx
    · exact s2_rowS (rK a ha) hr (by rw [hdC]; simp [hx])
  have ed : ∀ x : Option T, dictAt [some (rows (r0 :: F)), some (dxOf (encB K)), some (row r), some (dxOf (encB J)), some (row a), x] 3 = some (dxOf (encB J)) := fun _ => dictAt_dx rfl
  by_cases z : c ∈ J
  · have ep : tDPut (dxOf (encB J)) (row c) (.bl true) = some (dxOf (encB J)) := by
      rw [tDPut_dx _ _ _ (by rw [encB_len, sizeLine_eq]; omega), ktup_row, Option.map_some, put_old z]
    simp! only [ ed, ep]
    refine hN3 _ ⟨J, _, j1, fun x => ?_, rfl⟩
    rw [j2, List.mem_append, List.mem_singleton, ← or_assoc]
    constructor
    · exact .inl
    · rintro (g | rfl)
      · exact g
      · exact (j2 x).mp z
  · have ep : tDPut (dxOf (encB J)) (row c) (.bl true) = some (dxOf (encB (J ++ [c]))) := by
      rw [tDPut_dx _ _ _ (by rw [encB_len, sizeLine_eq]; omega), ktup_row, Option.map_some, put_new z]
    simp! only [ ed, ep]
    refine hN3 _ ⟨J ++ [c], _, ?_, fun x => ?_, rfl⟩
    · rw [List.nodup_append]
      exact ⟨j1, by simp, fun a ha b hb e => z (by rw [List.mem_singleton.mp hb] at e; exact e ▸ ha)⟩
    · rw [List.mem_append, j2, List.mem_append, List.mem_singleton, or_assoc]
end Rol.G

namespace Rol.G
open PySem L2 PySem.Spec Rol
open PyProof.Rows hiding St
theorem lleads_t {n : Nat} (h : n ≤ 6) {F : List (List Int)} (hF : ∀ r ∈ F, Row n r) (hl : F.length ≤ 1000000) {c : List Int} (hc : Row n c) {Q : T → Prop} {X : Xp} (qy : (F ≠ [] ∧ OkS n F c) → Q (.bl true)) (qn : ¬ (F ≠ [] ∧ OkS n F c) → Q (.bl false)) : p__law_leads [rows F, row c] Q X := by
  have neg1 : tNeg (.int 1) = some (.int (-1)) := rfl
  simp! only [e__law_leads,  len_row hc]
  refine ⟨by omega, ?_⟩
  rw [Int.toNat_natCast, irange_T]
  refine for_map (fun (i : Nat) => T.int (i : Int)) (fun d E => (∀ i ∈ d, (c.getD i 0 = 0 → (has F i 1 ↔ has F i (-1))) ∧ (c.getD i 0 ≠ 0 → has F i (c.getD i 0))) ∧ ∃ w2 w3, E = [some (rows F), some (row c), w2, w3, none]) ⟨(fun _ z => nomatch z), none, none, rfl⟩ (fun d i t E N hd ⟨hb, w2, w3, hE⟩ hN => ?_) fun E ⟨hb, w2, w3, hE⟩ => ?_
  · subst hE
    have hi : i < n := by
      have : i ∈ List.range n := by rw [hd]; simp
      exact List.mem_range.mp this
    have hci : i < c.length := by rw [hc.2]; exact hi
    simp only [setT, q_Ok, List.set_cons_zero, List.set_cons_succ]
    refine seq_cut (P := fun E => E = [some (rows F), some (row c), some (.int (i : Int)), some (.lst (F.map fun r => T.int (r.getD i 0))), none]) (fun N2 hN2 => ?_) fun E hE => ?_
    · simp! only []
      refine comp_mm row (fun r => .int (r.getD i 0)) (by rw [sizeLine_eq]; simp; omega) (fun r hr N3 hN3 => ?_) ?_
      · have hri : i < r.length := by rw [(hF r hr).2]; exact hi
        simp! only [ tIx_row hri, getD_ix hri]
        exact hN3
      · simp! only []
        exact hN2 _ rfl
    subst hE
    have bad : ¬ ((c.getD i 0 = 0 → (has F i 1 ↔ has F i (-1))) ∧ (c.getD i 0 ≠ 0 → has F i (c.getD i 0))) → Q (.bl false) := fun z => qn fun g => z (g.2 i hi)
    have good : ((c.getD i 0 = 0 → (has F i 1 ↔ has F i (-1))) ∧ (c.getD i 0 ≠ 0 → has F i (c.getD i 0))) → N [some (rows F), some (row c), some (.int (i : Int)), some (.lst (F.map fun r => T.int (r.getD i 0))), none] := fun z => hN _ ⟨fun j hj => by
      rcases List.mem_append.mp hj with hj | hj
      · exact hb j hj
      · rw [List.mem_singleton.mp hj]
        exact z, _, _, rfl⟩
    have inT : ∀ s : Int, tIn true (.int s) (.lst (F.map fun r => T.int (r.getD i 0))) = some (.bl (!hasB F i s)) := fun s => by
      have e3 : (F.map fun r => T.int (r.getD i 0)) = (F.map fun r => r.getD i 0).map T.int := by rw [List.map_map]; rfl
      rw [e3, in_ints]
      rw [if_pos rfl, hasB_mem]
    simp! only [ tIx_row hci, getD_ix hci, tNe_int, tEq_int, neg1, inB, inT, neBl]
    by_cases z : c.getD i 0 = 0
    · simp! only [z, decide_true]
      cases e1 : hasB F i 1 != hasB F i (-1) with
      | true =>
        simp! only []
        refine bad fun g => ?_
        have g := g.1 z
        have : hasB F i 1 = hasB F i (-1) := by
          rw [Bool.eq_iff_iff, hasB_iff, hasB_iff]
          exact g
        rw [this] at e1
        simp at e1
      | false =>
        simp! only []
        refine good ⟨fun _ => ?_, fun y => absurd z y⟩
        rw [← hasB_iff, ← hasB_iff]
        have : hasB F i 1 = hasB F i (-1) := by simpa using e1
        rw [this]
    · simp! only [z, decide_false]
      cases e1 : hasB F i (c.getD i 0) with
      | true =>
        simp! only []
        exact good ⟨fun y => absurd y z, fun _ => hasB_iff.mp e1⟩
      | false =>
        simp! only []
        refine bad fun g => ?_
        have := hasB_iff.mpr (g.2 z)
        rw [e1] at this
        cases this
  · subst hE
    have el : tGt (.int ((F.map row).length : Int)) (.int 0) = some (.bl (!F.isEmpty)) := by
      show some (T.bl (decide (((F.map row).length : Int) > 0))) = _
      cases F with
      | nil => rfl
      | cons r F => simp
    have lt : tLen [rows F] = some (.int ((F.map row).length : Int)) := rfl
    have ok : OkS n F c := fun i hi => hb i (List.mem_range.mpr hi)
    simp! only [ lt, el]
    cases F with
    | nil => exact qn fun g => g.1 rfl
    | cons r F => exact qy ⟨by simp, ok⟩
theorem pd_allS {α β : Type} {P : β → Prop} : ∀ {xs : List α} {ys : List β}, Pd (fun _ y => P y) xs ys → (∀ y ∈ ys, P y) ∧ ys.length = xs.length
  | _, _, .nil => ⟨(fun _ h => nomatch h), rfl⟩
  | _, _, .cons r t => by
    obtain ⟨a, b⟩ := pd_allS t
    refine ⟨fun y hy => ?_, by simp [b]⟩
    rcases List.mem_cons.mp hy with rfl | hy
    · exact r
    · exact a y hy
theorem leads_b {n : Nat} (h0 : 1 ≤ n) (h : n ≤ 6) {F : List (List Int)} (hF : ∀ r ∈ F, Row n r) (l1 : 1 ≤ F.length) (l2 : F.length ≤ 14) {c : List Int} (hc : Row n c) {b : Bool} (hb : b = true ↔ OkS n F c) {Q : T → Prop} {X : Xp} (q : Q (.bl b)) : p_leads [.int (n : Int), rows F, row c] Q X :=
  leads_s h0 h hF l1 l2 hc (fun z => by
    rw [hb.mpr z] at q
    exact q) fun z => by
    have : b = false := by
      cases b with
      | false => rfl
      | true => exact absurd (hb.mp rfl) z
    rw [this] at q
    exact q
theorem lleads_b {n : Nat} (h : n ≤ 6) {F : List (List Int)} (hF : ∀ r ∈ F, Row n r) (l1 : 1 ≤ F.length) (l2 : F.length ≤ 1000) {c : List Int} (hc : Row n c) {b : Bool} (hb : b = true ↔ OkS n F c) {Q : T → Prop} {X : Xp} (q : Q (.bl b)) : p__law_leads [rows F, row c] Q X :=
  lleads_t h hF (by omega) hc (fun z => by
    rw [hb.mpr z.2] at q
    exact q) fun z => by
    have : b = false := by
      cases b with
      | false => rfl
      | true => exact absurd ⟨List.length_pos_iff.mp l1, hb.mp rfl⟩ z
    rw [this] at q
    exact q
theorem some_ok {n : Nat} (F : List (List Int)) : ∃ c, Row n c ∧ OkS n F c := by
  classical
  let f : Nat → Int := fun i => if has F i 1 then (if has F i (-1) then 0 else 1) else (if has F i (-1) then -1 else 0)
  have hd : Row n ((List.range n).map f) := ⟨fun z hz => by
    obtain ⟨i, hi, rfl⟩ := List.mem_map.mp hz
    show Sgn (if has F i 1 then (if has F i (-1) then 0 else 1) else (if has F i (-1) then -1 else 0))
    unfold Sgn
    split <;> split <;> simp, by simp⟩
  refine ⟨_, hd, (okS_al hd).mpr fun i hi => ?_⟩
  rw [getD_tab f i hi]
  show Al1 _ _ (if has F i 1 then (if has F i (-1) then 0 else 1) else (if has F i (-1) then -1 else 0))
  unfold Al1 Sgn
  by_cases h1 : has F i 1 <;> by_cases h2 : has F i (-1) <;> simp [h1, h2]
theorem drawn_rows_s {n : Nat} (h : n ≤ 6) {most : Nat} (m1 : 1 ≤ most) (m2 : most ≤ 1000) {Q : T → Prop} {X : Xp} (q : ∀ F : List (List Int), (∀ r ∈ F, Row n r) → 1 ≤ F.length → F.length ≤ most → Q (rows F)) : p__law_drawn_rows [.jar, .int (n : Int), .int (most : Int)] Q X := by
  have big : ∀ m : Nat, m ≤ 1000000 → m ≤ sizeLine := fun m hm => by rw [sizeLine_eq]; omega
  simp only [e__law_drawn_rows, q_pf, List.map_cons, List.map_nil, List.length_cons, List.length_nil, List.replicate, List.cons_append, List.nil_append, Nat.reduceAdd, Nat.reduceSub, Nat.zero_add, true_and]
  refine seq_cut (P := fun E => ∃ r, Row n r ∧ E = [some .jar, some (.int (n : Int)), some (.int (most : Int)), some (.lst [row r]), none, none]) (fun N hN => ?_) fun E ⟨r0, hr0, hE⟩ => ?_
  · simp! only []
    exact any_row_s h fun r hr => ⟨big _ (by decide), hN _ ⟨r, hr, rfl⟩⟩
  subst hE
  refine seq_cut (P := fun E => ∃ (F : List (List Int)) (w4 w5 : Option T), (∀ r ∈ F, Row n r) ∧ 1 ≤ F.length ∧ F.length ≤ most ∧ E = [some .jar, some (.int (n : Int)), some (.int (most : Int)), some (.lst (F.map row)), w4, w5]) (fun N hN => ?_) fun E ⟨F, w4, w5, hF, l1, l2, hE⟩ => ?_
  rotate_left
  · subst hE
    simp! only [ tTuple]
    exact q F hF l1 l2
  simp only [q_wFor, q_viRg1, q_vFn, q_vaCons, q_vaNil, q_vVar, List.getElem?_cons_zero, List.getElem?_cons_succ]
  refine take_n (by omega) (by omega) fun d hd => ⟨by omega, ?_⟩
  rw [Int.toNat_natCast, irange_T]
  refine for_map (fun (i : Nat) => T.int (i : Int)) (fun dn E => ∃ (F : List (List Int)) (w4 w5 : Option T), (∀ r ∈ F, Row n r) ∧ F.length = dn.length + 1 ∧ E = [some .jar, some (.int (n : Int)), some (.int (most : Int)), some (.lst (F.map row)), w4, w5]) ⟨[r0], none, none, fun r hr => by rw [List.mem_singleton.mp hr]; exact hr0, rfl, rfl⟩ (fun dn i l E N1 hdn ⟨F, w4, w5, hF, lF, hE⟩ hN1 => ?_) fun E ⟨F, w4, w5, hF, lF, hE⟩ => hN E ⟨F, w4, w5, hF, by omega, by
    rw [List.length_range] at lF
    omega, hE⟩
  subst hE
  have ld : dn.length < d := by
    have := congrArg List.length hdn
    rw [List.length_range, List.length_append, List.length_cons] at this
    omega
  simp only [setT, q_Ok, List.set_cons_zero, List.set_cons_succ]
  refine seq_cut (P := fun E => ∃ w : Nat, E = [some .jar, some (.int (n : Int)), some (.int (most : Int)), some (.lst (F.map row)), some (.int (i : Int)), some (.int (w : Int))]) (fun N hN => ?_) fun E ⟨w, hE⟩ => ?_
  · simp! only []
    exact take_n (top := 8) (by decide) (by decide) fun w hw => hN _ ⟨w, rfl⟩
  subst hE
  have app : ∀ r, Row n r → (F.map row).length < sizeLine ∧ N1 [some .jar, some (.int (n : Int)), some (.int (most : Int)), some (.lst (F.map row ++ [row r])), some (.int (i : Int)), some (.int (w : Int))] := fun r hr => ⟨by rw [List.length_map, sizeLine_eq]; omega, by
    rw [show F.map row ++ [row r] = (F ++ [r]).map row by rw [List.map_append]; rfl]
    refine hN1 _ ⟨F ++ [r], _, _, fun x hx => ?_, by rw [List.length_append, List.length_append, List.length_singleton, List.length_singleton, lF], rfl⟩
    rcases List.mem_append.mp hx with hx | hx
    · exact hF x hx
    · rw [List.mem_singleton.mp hx]
      exact hr⟩
  by_cases z0 : (w : Int) = 0
  · simp! only [ tEq_int, z0, decide_true]
    rw [z0] at app
    exact llevel_s h (app _ (zero_row n))
  by_cases z1 : (w : Int) = 1
  · simp! only [ tEq_int, z1, decide_true, show decide ((1 : Int) = 0) = false from rfl]
    rw [z1] at app
    refine one_s (by rw [List.length_map]; omega) (by rw [List.length_map]; omega) fun x hx => ?_
    obtain ⟨r, hr, rfl⟩ := List.mem_map.mp hx
    exact ⟨flat_row r, app r (hF r hr)⟩
  simp! only [ tEq_int, z0, z1, decide_false]
  exact any_row_s h fun r hr => app r hr
end Rol.G

namespace Rol.G
open PySem L2 PySem.Spec Rol
open PyProof.Rows hiding St
theorem perm210 (a b c : T) : permL [2, 1, 0] [a, b, c] = [c, b, a] := rfl
theorem perm012 (a b c : T) : permL [0, 1, 2] [a, b, c] = [a, b, c] := rfl
theorem perm_rows {F : List (List Int)} {ys : List T} (p : ys.Perm (F.map row)) : ∃ G : List (List Int), ys = G.map row ∧ G.length = F.length ∧ ∀ r, r ∈ G ↔ r ∈ F := by
  have all : ∀ zs : List T, (∀ z ∈ zs, ∃ r, z = row r) → ∃ G : List (List Int), zs = G.map row := by
    intro zs
    induction zs with
    | nil => exact fun _ => ⟨[], rfl⟩
    | cons z zs ih =>
      intro hz
      obtain ⟨r, rfl⟩ := hz z (.head _)
      obtain ⟨G, rfl⟩ := ih fun y hy => hz y (.tail _ hy)
      exact ⟨r :: G, rfl⟩
  obtain ⟨G, rfl⟩ := all ys fun z hz => by
    obtain ⟨r, _, rfl⟩ := List.mem_map.mp (p.mem_iff.mp hz)
    exact ⟨r, rfl⟩
  have inj : ∀ a b : List Int, row a = row b → a = b := fun a b e => (List.map_inj_right fun _ _ h => T.int.inj h).mp (T.tup.inj e)
  refine ⟨G, rfl, by simpa using p.length_eq, fun r => ?_⟩
  have m := p.mem_iff (a := row r)
  constructor
  · intro hr
    obtain ⟨x, hx, e⟩ := List.mem_map.mp (m.mp (List.mem_map.mpr ⟨r, hr, rfl⟩))
    exact inj _ _ e ▸ hx
  · intro hr
    obtain ⟨x, hx, e⟩ := List.mem_map.mp (m.mpr (List.mem_map.mpr ⟨r, hr, rfl⟩))
    exact inj _ _ e ▸ hx
theorem repr_b (b : Bool) : ∃ s, tRepr [.bl b] = some (.str s) := repr_gu (.bl (k := 0) (m := 20) (by decide)) (by decide) (by decide)
theorem repr_bb (a b : Bool) : ∃ s, tRepr [.tup [.bl a, .bl b]] = some (.str s) := repr_gu (gu_pair (.bl (k := 0) (m := 20) (by decide)) (.bl (by decide))) (by decide) (by decide)
theorem ne_bb (b : Bool) : tNe (.bl b) (.bl b) = some (.bl false) := by rw [neBl]; simp
theorem in_encK (K : List (List Int)) (c : List Int) : tDIn false (row c) (dxOf (encB K)) = some (.bl (decide (c ∈ K))) := in_encB false K c
theorem small_right_s {n : Nat} (h0 : 1 ≤ n) (h : n ≤ 6) {Q : T → Prop} {X : Xp} (q : Q (.bl true)) : p__law_small_right [.jar, .int (n : Int)] Q X := by
  have big : ∀ m : Nat, m ≤ 1000000 → m ≤ sizeLine := fun m hm => by rw [sizeLine_eq]; omega
  simp only [e__law_small_right, q_pf, List.map_cons, List.map_nil, List.length_cons, List.length_nil, List.replicate, List.cons_append, List.nil_append, Nat.reduceAdd, Nat.reduceSub, Nat.zero_add, true_and]
  refine seq_cut (P := fun E => ∃ F : List (List Int), (∀ r ∈ F, Row n r) ∧ 1 ≤ F.length ∧ F.length ≤ 12 ∧ E = [some .jar, some (.int (n : Int)), some (rows F), none, none, none, none, none, none, none]) (fun N hN => ?_) fun E ⟨F, hF, l1, l2, hE⟩ => ?_
  · simp! only []
    refine ⟨big _ (by decide), one_s (by simp) (by simp) fun x hx => ?_⟩
    have hx : x = .int 9 ∨ x = .int 12 := by
      simp only [List.mem_cons, List.not_mem_nil, or_false] at hx
      rcases hx with rfl | rfl | rfl <;> simp
    rcases hx with rfl | rfl
    · exact drawn_rows_s (most := 9) h (by decide) (by decide) fun F a b c => hN _ ⟨F, a, b, by omega, rfl⟩
    · exact drawn_rows_s (most := 12) h (by decide) (by decide) fun F a b c => hN _ ⟨F, a, b, c, rfl⟩
  subst hE
  have neF : F ≠ [] := List.length_pos_iff.mp l1
  refine seq_cut (P := fun E => ∃ K : List (List Int), K.Nodup ∧ (∀ c, c ∈ K ↔ Row n c ∧ OkS n F c) ∧ E = [some .jar, some (.int (n : Int)), some (rows F), some (dxOf (encB K)), none, none, none, none, none, none]) (fun N hN => ?_) fun E ⟨K, k1, k2, hE⟩ => ?_
  · simp! only []
    exact all_sums_s h hF neF fun K k1 k2 => hN _ ⟨K, k1, k2, rfl⟩
  subst hE
  have lK : K.length ≤ 729 := rows_len h k1 fun c hc => ((k2 c).mp hc).1
  refine seq_cut (P := fun E => ∃ cs : List (List Int), (∀ c ∈ cs, Row n c) ∧ E = [some .jar, some (.int (n : Int)), some (rows F), some (dxOf (encB K)), some (.lst (cs.map row)), none, none, none, none, none]) (fun N hN => ?_) fun E ⟨cs, hcs, hE⟩ => ?_
  · have es : tSortX (dxOf (encB K)) = some (.lst ((K.mergeSort rle).map row)) := by
      show (keysTT ((encB K).map (·.1))).bind _ = _
      rw [keys_encB]
      show (sortT (K.map row)).map T.lst = _
      rw [sortT_rows (fun r hr => row_ne h0 ((k2 r).mp hr).1) (by rw [sizeLine_eq]; omega)]
      rfl
    have m1 : tMulW (.tup [.int 1]) (.int (n : Int)) = some (row (List.replicate n 1)) := by
      rw [tMul_tup (by omega) (by omega) (by simp; omega), Int.toNat_natCast, rep_one]
      unfold row
      rw [List.map_replicate]
    have r1 : Row n (List.replicate n (1 : Int)) := ⟨fun z hz => .inr (.inr (List.eq_of_mem_replicate hz)), by simp⟩
    simp only [q_wSet, q_v2, q_v1, q_vLst, q_vTup, q_vFn, q_vComp, q_viRg1, q_vaCons, q_vaNil, q_vVar, q_vC, List.getElem?_cons_zero, List.getElem?_cons_succ, wipeE]
    refine ⟨by decide, ?_⟩
    rw [show (5 : Int).toNat = 5 from rfl, irange_T]
    refine comp_md (fun i : Nat => T.int (i : Int)) row (fun _ r => Row n r) (by simp; rw [sizeLine_eq]; omega) (fun i hi N2 h3 => ?_) fun ws hws => ?_
    · simp! only []
      exact any_row_s h fun r hr => h3 r hr
    obtain ⟨a, b⟩ := pd_allS hws
    rw [List.length_range] at b
    refine llevel_s h ?_
    simp only [List.set_cons_zero, List.set_cons_succ, m1, es, q_Ok, List.length_cons, List.length_nil]
    refine ⟨big _ (by decide), one_s (xs := (K.mergeSort rle).map row) ?_ ?_ fun x hx => ?_⟩
    · rw [List.length_map, List.length_mergeSort]
      obtain ⟨c, c1, c2⟩ := some_ok (n := n) F
      exact List.length_pos_of_mem ((k2 c).mpr ⟨c1, c2⟩)
    · rw [List.length_map, List.length_mergeSort]
      omega
    obtain ⟨c, hc, rfl⟩ := List.mem_map.mp hx
    have rc := ((k2 c).mp (List.mem_mergeSort.mp hc)).1
    have ad : tAdd (.lst ([] ++ ws.map row)) (.lst [row (zero n), row (List.replicate n 1), row c]) = some (.lst ((ws ++ [zero n, List.replicate n 1, c]).map row)) := by
      rw [List.nil_append, add_lst (by simp; omega), List.map_append]
      rfl
    simp only [ad, q_Ok, List.set_cons_zero, List.set_cons_succ]
    refine ⟨big _ (by decide), hN _ ⟨ws ++ [zero n, List.replicate n 1, c], fun x hx => ?_, rfl⟩⟩
    rcases List.mem_append.mp hx with hx | hx
    · exact a x hx
    · simp only [List.mem_cons, List.not_mem_nil, or_false] at hx
      rcases hx with rfl | rfl | rfl
      · exact zero_row n
      · exact r1
      · exact rc
  subst hE
  refine seq_cut (P := fun E => ∃ G : List (List Int), (∀ r, r ∈ G ↔ r ∈ F) ∧ 1 ≤ G.length ∧ G.length ≤ 14 ∧ E = [some .jar, some (.int (n : Int)), some (rows F), some (dxOf (encB K)), some (.lst (cs.map row)), some (rows G), none, none, none, none]) (fun N hN => ?_) fun E ⟨G, hG, g1, g2, hE⟩ => ?_
  · have s1 : tSl (rows F) none (some 2) = some (rows (F.take 2)) := by
      show some (T.tup (cutT (F.map row) none (some ((2 : Nat) : Int)))) = _
      rw [cutT_to, ← List.map_take]
    have a1 : tAdd (rows F) (rows (F.take 2)) = some (.tup ((F ++ F.take 2).map row)) := by
      show (if (F.map row).length + ((F.take 2).map row).length ≤ sizeLine then some (T.tup (F.map row ++ (F.take 2).map row)) else none) = _
      rw [if_pos (by rw [List.length_map, List.length_map, List.length_take, sizeLine_eq]; omega), List.map_append]
    simp! only [ s1, a1]
    refine mixed_t (by rw [List.length_map, List.length_append, List.length_take]; omega) fun ys p => ?_
    obtain ⟨G, rfl, e1, e2⟩ := perm_rows p
    rw [List.length_append, List.length_take] at e1
    simp! only [ tTuple]
    refine hN _ ⟨G, fun r => ?_, by omega, by omega, rfl⟩
    rw [e2, List.mem_append]
    exact ⟨fun z => z.elim id List.mem_of_mem_take, .inl⟩
  subst hE
  have hGr : ∀ r ∈ G, Row n r := fun r hr => hF r ((hG r).mp hr)
  refine seq_cut (P := fun E => ∃ K2 : List (List Int), (∀ c, c ∈ K2 ↔ Row n c ∧ OkS n G c) ∧ E = [some .jar, some (.int (n : Int)), some (rows F), some (dxOf (encB K)), some (.lst (cs.map row)), some (rows G), some (dxOf (encB K2)), none, none, none]) (fun N hN => ?_) fun E ⟨K2, k3, hE⟩ => ?_
  · simp! only []
    exact all_sums_s h hGr (List.length_pos_iff.mp g1) fun K2 _ k3 => hN _ ⟨K2, k3, rfl⟩
  subst hE
  refine seq_cut (P := fun _ => True) (fun N hN => ?_) fun E _ => ?_
  rotate_left
  · simp! only []
    exact q
  simp only [q_wFor, q_viSeq, q_vVar, List.getElem?_cons_zero, List.getElem?_cons_succ, itT, q_Ok]
  refine for_map (xs := cs) row (fun d E => ∃ w7 w8 : Option T, E = [some .jar, some (.int (n : Int)), some (rows F), some (dxOf (encB K)), some (.lst (cs.map row)), some (rows G), some (dxOf (encB K2)), w7, w8, none]) ⟨_, _, rfl⟩ (fun d c l E N1 hd ⟨w7, w8, hE⟩ hN1 => ?_) fun E _ => hN E trivial
  subst hE
  have hc : Row n c := hcs c (by rw [hd]; simp)
  have bF : decide (c ∈ K) = true ↔ OkS n F c := by
    rw [decide_eq_true_eq, k2]
    exact ⟨fun z => z.2, fun z => ⟨hc, z⟩⟩
  have bG : decide (c ∈ K) = true ↔ OkS n G c := bF.trans (okS_mem (fun r => (hG r).symm) c)
  have e2 : decide (c ∈ K2) = decide (c ∈ K) := by
    rw [Bool.eq_iff_iff, bG, decide_eq_true_eq, k3]
    exact ⟨fun z => z.2, fun z => ⟨hc, z⟩⟩
  have i1 := in_encK K c
  have i2 : tDIn false (row c) (dxOf (encB K2)) = some (.bl (decide (c ∈ K))) := by rw [in_encK, e2]
  generalize decide (c ∈ K) = b at bF bG e2 i1 i2
  simp only [setT, q_Ok, List.set_cons_zero, List.set_cons_succ]
  refine seq_cut (P := fun E => E = [some .jar, some (.int (n : Int)), some (rows F), some (dxOf (encB K)), some (.lst (cs.map row)), some (rows G), some (dxOf (encB K2)), some (row c), some (.bl b), none]) (fun N hN => ?_) fun E hE => ?_
  · simp! only [ i1]
    exact hN _ rfl
  subst hE
  refine seq_cut (P := fun E => E = [some .jar, some (.int (n : Int)), some (rows F), some (dxOf (encB K)), some (.lst (cs.map row)), some (rows G), some (dxOf (encB K2)), some (row c), some (.bl b), none]) (fun N hN => ?_) fun E hE => ?_
  · obtain ⟨s0, es0⟩ := repr_bb b b
    simp! only [ perm210]
    refine leads_b h0 h hF l1 (by omega) hc bF (leads_b h0 h hF l1 (by omega) hc bF ?_)
    simp! only [ es0, ne_same]
    exact ⟨big _ (by decide), big _ (by decide), hN _ rfl⟩
  subst hE
  refine seq_cut (P := fun E => E = [some .jar, some (.int (n : Int)), some (rows F), some (dxOf (encB K)), some (.lst (cs.map row)), some (rows G), some (dxOf (encB K2)), some (row c), some (.bl b), none]) (fun N hN => ?_) fun E hE => ?_
  · simp! only []
    refine lleads_b h hF l1 (by omega) hc bF ?_
    simp! only [ne_bb]
    exact hN _ rfl
  subst hE
  obtain ⟨s0, es0⟩ := repr_b b
  simp! only []
  refine leads_b h0 h hGr g1 g2 hc bG ?_
  simp! only [ es0, ne_same, i2, ne_bb]
  exact hN1 _ ⟨_, _, rfl⟩
theorem wide_right_s {n : Nat} (h0 : 1 ≤ n) (h : n ≤ 6) {Q : T → Prop} {X : Xp} (q : Q (.bl true)) : p__law_wide_right [.jar, .int (n : Int)] Q X := by
  have big : ∀ m : Nat, m ≤ 1000000 → m ≤ sizeLine := fun m hm => by rw [sizeLine_eq]; omega
  simp only [e__law_wide_right, q_pf, List.map_cons, List.map_nil, List.length_cons, List.length_nil, List.replicate, List.cons_append, List.nil_append, Nat.reduceAdd, Nat.reduceSub, Nat.zero_add, true_and]
  refine seq_cut (P := fun E => ∃ F : List (List Int), (∀ r ∈ F, Row n r) ∧ 1 ≤ F.length ∧ F.length ≤ 14 ∧ E = [some .jar, some (.int (n : Int)), some (rows F), none, none, none, none]) (fun N hN => ?_) fun E ⟨F, hF, l1, l2, hE⟩ => ?_
  · simp! only []
    exact drawn_rows_s (most := 14) h (by decide) (by decide) fun F a b c => hN _ ⟨F, a, b, c, rfl⟩
  subst hE
  have s1 : tSl (rows F) none (some 4) = some (rows (F.take 4)) := by
    show some (T.tup (cutT (F.map row) none (some ((4 : Nat) : Int)))) = _
    rw [cutT_to, ← List.map_take]
  have hT : ∀ r ∈ F.take 4, Row n r := fun r hr => hF r (List.mem_of_mem_take hr)
  have lT1 : 1 ≤ (F.take 4).length := by rw [List.length_take]; omega
  have lT2 : (F.take 4).length ≤ 14 := by rw [List.length_take]; omega
  refine seq_cut (P := fun E => ∃ t : T, (t = .non ∨ ∃ K : List (List Int), (∀ c, c ∈ K ↔ Row n c ∧ OkS n (F.take 4) c) ∧ t = dxOf (encB K)) ∧ E = [some .jar, some (.int (n : Int)), some (rows F), some t, none, none, none]) (fun N hN => ?_) fun E ⟨t, ht, hE⟩ => ?_
  · simp! only []
    refine take_n (top := 12) (by decide) (by decide) fun w hw => ?_
    by_cases z : (w : Int) = 0
    · simp! only [tEq_int, z, decide_true,  s1]
      exact all_sums_s h hT (List.length_pos_iff.mp lT1) fun K _ k2 => hN _ ⟨_, .inr ⟨K, k2, rfl⟩, rfl⟩
    · simp! only [tEq_int, z, decide_false]
      exact hN _ ⟨_, .inl rfl, rfl⟩
  subst hE
  refine seq_cut (P := fun _ => True) (fun N hN => ?_) fun E _ => ?_
  rotate_left
  · simp! only []
    exact q
  simp only [q_wFor, q_viRg1, q_vaCons, q_vaNil, q_vC]
  refine ⟨by decide, ?_⟩
  rw [show (6 : Int).toNat = 6 from rfl, irange_T]
  refine for_map (fun (i : Nat) => T.int (i : Int)) (fun d E => ∃ w4 w5 : Option T, E = [some .jar, some (.int (n : Int)), some (rows F), some t, w4, w5, none]) ⟨_, _, rfl⟩ (fun d i l E N1 hd ⟨w4, w5, hE⟩ hN1 => ?_) fun E _ => hN E trivial
  subst hE
  simp only [setT, q_Ok, List.set_cons_zero, List.set_cons_succ]
  refine seq_cut (P := fun E => ∃ c, Row n c ∧ E = [some .jar, some (.int (n : Int)), some (rows F), some t, some (.int (i : Int)), some (row c), none]) (fun N hN => ?_) fun E ⟨c, hc, hE⟩ => ?_
  · simp! only []
    exact any_row_s h fun r hr => hN _ ⟨r, hr, rfl⟩
  subst hE
  refine seq_cut (P := fun E => E = [some .jar, some (.int (n : Int)), some (rows F), some t, some (.int (i : Int)), some (row c), none]) (fun N hN => ?_) fun E hE => ?_
  · rcases ht with rfl | ⟨K, k2, rfl⟩
    · have e1 : tNotN T.non T.non = some (.bl false) := rfl
      simp! only [ e1]
      exact hN _ rfl
    · have e1 : tNotN (dxOf (encB K)) T.non = some (.bl true) := rfl
      have bF : decide (c ∈ K) = true ↔ OkS n (F.take 4) c := by
        rw [decide_eq_true_eq, k2]
        exact ⟨fun z => z.2, fun z => ⟨hc, z⟩⟩
      have i1 := in_encK K c
      generalize decide (c ∈ K) = b at bF i1
      obtain ⟨s0, es0⟩ := repr_b b
      simp! only [ e1, s1]
      refine leads_b h0 h hT lT1 lT2 hc bF ?_
      simp! only [ i1, es0, ne_same]
      exact hN _ rfl
  subst hE
  refine seq_cut (P := fun E => ∃ c, Row n c ∧ E = [some .jar, some (.int (n : Int)), some (rows F), some t, some (.int (i : Int)), some (row c), none]) (fun N hN => ?_) fun E ⟨c, hc, hE⟩ => ?_
  · have g2 : tGt (.int (i : Int)) (.int 2) = some (.bl (decide ((i : Int) > 2))) := rfl
    simp only [q_wIf, q_vtOf, q_v2, q_vVar, q_vC, List.getElem?_cons_zero, List.getElem?_cons_succ, g2, q_Ok, tB]
    by_cases z : (i : Int) > 2
    · simp only [z, decide_true, if_true, q_wSet, q_vFn, q_vaCons, q_vaNil, q_vVar, q_vComp, q_viRg1, List.getElem?_cons_zero, List.getElem?_cons_succ, wipeE, q_Ok]
      refine ⟨by omega, ?_⟩
      rw [Int.toNat_natCast, irange_T]
      refine comp_mm (fun i : Nat => T.int (i : Int)) (fun i : Nat => T.int (i : Int)) (by simp; rw [sizeLine_eq]; omega) (fun j hj N2 h3 => ?_) ?_
      · simp! only []
        exact h3
      · rw [List.nil_append]
        simp only [List.set_cons_zero, List.set_cons_succ]
        exact line_row_s h hc fun r hr _ => hN _ ⟨r, hr, rfl⟩
    · simp! only [z, decide_false]
      exact hN _ ⟨c, hc, rfl⟩
  subst hE
  simp! only [ perm012]
  rcases Classical.em (OkS n F c) with z | z
  · obtain ⟨s0, es0⟩ := repr_b true
    refine leads_b h0 h hF l1 l2 hc (b := true) (by simp [z]) ?_
    simp! only [ es0]
    refine lleads_b h hF l1 (by omega) hc (b := true) (by simp [z]) ?_
    simp! only [ es0, ne_same]
    exact hN1 _ ⟨_, _, rfl⟩
  · obtain ⟨s0, es0⟩ := repr_b false
    refine leads_b h0 h hF l1 l2 hc (b := false) (by simp [z]) ?_
    simp! only [ es0]
    refine lleads_b h hF l1 (by omega) hc (b := false) (by simp [z]) ?_
    simp! only [ es0, ne_same]
    exact hN1 _ ⟨_, _, rfl⟩
end Rol.G

namespace Rol.G
open PySem L2 PySem.Spec Rol
open PyProof.Rows hiding St
theorem gu_flat {k m : Nat} {t : T} (h : Gu k m t) : t.flat = true := by
  induction h with
  | non _ => rfl
  | bl _ => rfl
  | int _ _ => rfl
  | str _ _ => rfl
  | @tup k m n xs _ _ ih =>
    show T.flatL xs = true
    have key : ∀ ys : List T, (∀ y ∈ ys, y.flat = true) → T.flatL ys = true := by
      intro ys
      induction ys with
      | nil => intro _; rfl
      | cons y ys ih2 =>
        intro hy
        rw [T.flatL, hy y (.head _), ih2 fun z hz => hy z (.tail _ hz)]
        rfl
    exact key xs ih
theorem ne_tup {k m : Nat} {xs : List T} (h : Gu k m (.tup xs)) (hk : k ≤ 64) : tNe (.tup xs) (.tup xs) = some (.bl false) := by
  obtain ⟨d, g⟩ := h.data
  show tNeD _ _ = _
  unfold tNeD
  rw [g.to 64 hk]
  simp only [g.shaped hk, and_self, if_true, SeqAt.eqv_refl d g.lay]
  rfl
theorem eq_tup {k m : Nat} {xs : List T} (h : Gu k m (.tup xs)) (hk : k ≤ 64) : tEq (.tup xs) (.tup xs) = some (.bl true) := by
  obtain ⟨d, g⟩ := h.data
  show tEqD _ _ = _
  unfold tEqD
  rw [g.to 64 hk]
  simp only [g.shaped hk, and_self, if_true, SeqAt.eqv_refl d g.lay]
theorem clay_many : PyData.canLay0 (.str "many") = true := by decide +kernel
theorem clay_rows : PyData.canLay0 (.str "rows") = true := by decide +kernel
theorem clay_row : PyData.canLay0 (.str "row") = true := by decide +kernel
theorem sh_many : (PyData.shown (.str "many")).length ≤ 20 := by decide +kernel
theorem sh_rows : (PyData.shown (.str "rows")).length ≤ 20 := by decide +kernel
theorem sh_row : (PyData.shown (.str "row")).length ≤ 20 := by decide +kernel
theorem c_bm : catchA emx hl__law_heard "BadMany" = some (.tup [.str "many", .what]) := by
  unfold hl__law_heard
  simp only [q_cA1, em_BadMany_BadMany]
theorem c_bs : catchA emx hl__law_heard "BadRows" = some (.tup [.str "rows", .what]) := by
  unfold hl__law_heard
  simp only [q_cA1, em_BadRows_BadMany, em_BadRows_BadRows]
theorem c_br : catchA emx hl__law_heard "BadRow" = some (.tup [.str "row", .what]) := by
  unfold hl__law_heard
  simp only [q_cA1, em_BadRow_BadMany, em_BadRow_BadRows, em_BadRow_BadRow]
theorem leads_many {k m : Nat} {t u w : T} (gu : Gu k m t) (no : many t = false) {Q : T → Prop} {X : Xp} (x : X "BadMany" t) : p_leads [t, u, w] Q X := by
  simp only [e_leads, q_wRel, q_vFnFl, q_vtIf, q_wDPut, q_vDNewK, q_vDNewX, q_pf, q_wTry, q_catch0, q_catch1, An.t, An.tL, q_wSeq, q_wExpr, q_wRet, q_wRetN, q_wIf, q_wSet, q_wAsg, q_wPar, q_wParM, q_wMove, q_wAug, q_wApp, q_wExt, q_wPut, q_wFor, q_wSkip, q_wRaise, q_wBk, q_wCt, q_vVar, q_vC, q_vaNil, q_vaCons, q_vTup, q_vLst, q_v2, q_v1, q_vCall, q_vFn, q_vFnK, q_vFl, q_vtOf, q_vtNot, q_vtAnd, q_vtOr, q_vtYes, q_vAnd, q_vOr, q_vNot, q_vIf, q_vChain, q_voNone, q_voSome, q_vSl, q_viSeq, q_viRg1, q_viRg2, q_viZip, q_viEnum, q_vComp, q_vComp2, q_vLock, q_wLock, q_viWalk, itK, q_vSortDict, q_vPop0, q_vPop, q_vRepL, setMany, lstAt, wipeE, tB, tI?, itT, seqT, q_Ok, q_Ok0, Option.bind_some, List.map_cons, List.map_nil, List.length_cons, List.length_nil, List.replicate, List.cons_append, List.nil_append, List.append_nil, List.getElem?_cons_zero, List.getElem?_cons_succ, List.getElem?_nil, List.set_cons_zero, List.set_cons_succ, List.zip_cons_cons, List.zip_nil_left, List.zip_nil_right, List.foldl_cons, List.foldl_nil, Nat.zero_add, Nat.reduceAdd, Nat.reduceSub, true_and, if_true, reduceIte, Bool.false_eq_true, Bool.not_true, Bool.not_false, Bool.true_eq_false, if_false]
  simp only [e_made_rows, q_wRel, q_vFnFl, q_vtIf, q_wDPut, q_vDNewK, q_vDNewX, q_pf, q_wTry, q_catch0, q_catch1, An.t, An.tL, q_wSeq, q_wExpr, q_wRet, q_wRetN, q_wIf, q_wSet, q_wAsg, q_wPar, q_wParM, q_wMove, q_wAug, q_wApp, q_wExt, q_wPut, q_wFor, q_wSkip, q_wRaise, q_wBk, q_wCt, q_vVar, q_vC, q_vaNil, q_vaCons, q_vTup, q_vLst, q_v2, q_v1, q_vCall, q_vFn, q_vFnK, q_vFl, q_vtOf, q_vtNot, q_vtAnd, q_vtOr, q_vtYes, q_vAnd, q_vOr, q_vNot, q_vIf, q_vChain, q_voNone, q_voSome, q_vSl, q_viSeq, q_viRg1, q_viRg2, q_viZip, q_viEnum, q_vComp, q_vComp2, q_vLock, q_wLock, q_viWalk, itK, q_vSortDict, q_vPop0, q_vPop, q_vRepL, setMany, lstAt, wipeE, tB, tI?, itT, seqT, q_Ok, q_Ok0, Option.bind_some, List.map_cons, List.map_nil, List.length_cons, List.length_nil, List.replicate, List.cons_append, List.nil_append, List.append_nil, List.getElem?_cons_zero, List.getElem?_cons_succ, List.getElem?_nil, List.set_cons_zero, List.set_cons_succ, List.zip_cons_cons, List.zip_nil_left, List.zip_nil_right, List.foldl_cons, List.foldl_nil, Nat.zero_add, Nat.reduceAdd, Nat.reduceSub, true_and, if_true, reduceIte, Bool.false_eq_true, Bool.not_true, Bool.not_false, Bool.true_eq_false, if_false]
  exact ask_many_s gu (fun y => by rw [no] at y; cases y) fun _ => x
/-- rows that are none at all -/
def NoRows : T → Prop
  | .tup xs => xs.length = 0 ∨ 14 < xs.length
  | _ => True
section
variable {n : Nat} (h0 : 1 ≤ n) (h : n ≤ 6)
include h0 h
theorem ask_ok {Q : T → Prop} {X : Xp} (q : Q .non) : p_ask_many [.int (n : Int)] Q X := ask_many_s (k := 0) (m := 13) (gd_small (by omega) (Nat.le_refl _)) (fun _ => q) fun z => (by
  rw [many_iff.mpr ⟨n, rfl, h0, h⟩] at z
  cases z)
theorem leads_rows {k m : Nat} {t w : T} (gu : Gu k m t) (no : NoRows t) {Q : T → Prop} {X : Xp} (x : X "BadRows" (.int (-1))) : p_leads [.int (n : Int), t, w] Q X := by
  have neg1 : tNeg (.int 1) = some (.int (-1)) := rfl
  have it := isi_tup gu
  simp only [e_leads, q_wRel, q_vFnFl, q_vtIf, q_wDPut, q_vDNewK, q_vDNewX, q_pf, q_wTry, q_catch0, q_catch1, An.t, An.tL, q_wSeq, q_wExpr, q_wRet, q_wRetN, q_wIf, q_wSet, q_wAsg, q_wPar, q_wParM, q_wMove, q_wAug, q_wApp, q_wExt, q_wPut, q_wFor, q_wSkip, q_wRaise, q_wBk, q_wCt, q_vVar, q_vC, q_vaNil, q_vaCons, q_vTup, q_vLst, q_v2, q_v1, q_vCall, q_vFn, q_vFnK, q_vFl, q_vtOf, q_vtNot, q_vtAnd, q_vtOr, q_vtYes, q_vAnd, q_vOr, q_vNot, q_vIf, q_vChain, q_voNone, q_voSome, q_vSl, q_viSeq, q_viRg1, q_viRg2, q_viZip, q_viEnum, q_vComp, q_vComp2, q_vLock, q_wLock, q_viWalk, itK, q_vSortDict, q_vPop0, q_vPop, q_vRepL, setMany, lstAt, wipeE, tB, tI?, itT, seqT, q_Ok, q_Ok0, Option.bind_some, List.map_cons, List.map_nil, List.length_cons, List.length_nil, List.replicate, List.cons_append, List.nil_append, List.append_nil, List.getElem?_cons_zero, List.getElem?_cons_succ, List.getElem?_nil, List.set_cons_zero, List.set_cons_succ, List.zip_cons_cons, List.zip_nil_left, List.zip_nil_right, List.foldl_cons, List.foldl_nil, Nat.zero_add, Nat.reduceAdd, Nat.reduceSub, true_and, if_true, reduceIte, Bool.false_eq_true, Bool.not_true, Bool.not_false, Bool.true_eq_false, if_false]
  simp only [e_made_rows, q_wRel, q_vFnFl, q_vtIf, q_wDPut, q_vDNewK, q_vDNewX, q_pf, q_wTry, q_catch0, q_catch1, An.t, An.tL, q_wSeq, q_wExpr, q_wRet, q_wRetN, q_wIf, q_wSet, q_wAsg, q_wPar, q_wParM, q_wMove, q_wAug, q_wApp, q_wExt, q_wPut, q_wFor, q_wSkip, q_wRaise, q_wBk, q_wCt, q_vVar, q_vC, q_vaNil, q_vaCons, q_vTup, q_vLst, q_v2, q_v1, q_vCall, q_vFn, q_vFnK, q_vFl, q_vtOf, q_vtNot, q_vtAnd, q_vtOr, q_vtYes, q_vAnd, q_vOr, q_vNot, q_vIf, q_vChain, q_voNone, q_voSome, q_vSl, q_viSeq, q_viRg1, q_viRg2, q_viZip, q_viEnum, q_vComp, q_vComp2, q_vLock, q_wLock, q_viWalk, itK, q_vSortDict, q_vPop0, q_vPop, q_vRepL, setMany, lstAt, wipeE, tB, tI?, itT, seqT, q_Ok, q_Ok0, Option.bind_some, List.map_cons, List.map_nil, List.length_cons, List.length_nil, List.replicate, List.cons_append, List.nil_append, List.append_nil, List.getElem?_cons_zero, List.getElem?_cons_succ, List.getElem?_nil, List.set_cons_zero, List.set_cons_succ, List.zip_cons_cons, List.zip_nil_left, List.zip_nil_right, List.foldl_cons, List.foldl_nil, Nat.zero_add, Nat.reduceAdd, Nat.reduceSub, true_and, if_true, reduceIte, Bool.false_eq_true, Bool.not_true, Bool.not_false, Bool.true_eq_false, if_false]
  refine ask_ok h0 h ?_
  simp only [it, q_wRel, q_vFnFl, q_vtIf, q_wDPut, q_vDNewK, q_vDNewX, q_pf, q_wTry, q_catch0, q_catch1, An.t, An.tL, q_wSeq, q_wExpr, q_wRet, q_wRetN, q_wIf, q_wSet, q_wAsg, q_wPar, q_wParM, q_wMove, q_wAug, q_wApp, q_wExt, q_wPut, q_wFor, q_wSkip, q_wRaise, q_wBk, q_wCt, q_vVar, q_vC, q_vaNil, q_vaCons, q_vTup, q_vLst, q_v2, q_v1, q_vCall, q_vFn, q_vFnK, q_vFl, q_vtOf, q_vtNot, q_vtAnd, q_vtOr, q_vtYes, q_vAnd, q_vOr, q_vNot, q_vIf, q_vChain, q_voNone, q_voSome, q_vSl, q_viSeq, q_viRg1, q_viRg2, q_viZip, q_viEnum, q_vComp, q_vComp2, q_vLock, q_wLock, q_viWalk, itK, q_vSortDict, q_vPop0, q_vPop, q_vRepL, setMany, lstAt, wipeE, tB, tI?, itT, seqT, q_Ok, q_Ok0, Option.bind_some, List.map_cons, List.map_nil, List.length_cons, List.length_nil, List.replicate, List.cons_append, List.nil_append, List.append_nil, List.getElem?_cons_zero, List.getElem?_cons_succ, List.getElem?_nil, List.set_cons_zero, List.set_cons_succ, List.zip_cons_cons, List.zip_nil_left, List.zip_nil_right, List.foldl_cons, List.foldl_nil, Nat.zero_add, Nat.reduceAdd, Nat.reduceSub, true_and, if_true, reduceIte, Bool.false_eq_true, Bool.not_true, Bool.not_false, Bool.true_eq_false, if_false]
  cases t with
  | tup xs =>
    have len : tLen [.tup xs] = some (.int (xs.length : Int)) := rfl
    have ea : tLeA (.int 1) (.int (xs.length : Int)) = some (.bl (decide ((1 : Int) ≤ (xs.length : Int)))) := rfl
    have eb : tLeA (.int (xs.length : Int)) (.int 14) = some (.bl (decide ((xs.length : Int) ≤ 14))) := rfl
    simp only [T.isTup, q_wRel, q_vFnFl, q_vtIf, q_wDPut, q_vDNewK, q_vDNewX, q_pf, q_wTry, q_catch0, q_catch1, An.t, An.tL, q_wSeq, q_wExpr, q_wRet, q_wRetN, q_wIf, q_wSet, q_wAsg, q_wPar, q_wParM, q_wMove, q_wAug, q_wApp, q_wExt, q_wPut, q_wFor, q_wSkip, q_wRaise, q_wBk, q_wCt, q_vVar, q_vC, q_vaNil, q_vaCons, q_vTup, q_vLst, q_v2, q_v1, q_vCall, q_vFn, q_vFnK, q_vFl, q_vtOf, q_vtNot, q_vtAnd, q_vtOr, q_vtYes, q_vAnd, q_vOr, q_vNot, q_vIf, q_vChain, q_voNone, q_voSome, q_vSl, q_viSeq, q_viRg1, q_viRg2, q_viZip, q_viEnum, q_vComp, q_vComp2, q_vLock, q_wLock, q_viWalk, itK, q_vSortDict, q_vPop0, q_vPop, q_vRepL, setMany, lstAt, wipeE, tB, tI?, itT, seqT, q_Ok, q_Ok0, Option.bind_some, List.map_cons, List.map_nil, List.length_cons, List.length_nil, List.replicate, List.cons_append, List.nil_append, List.append_nil, List.getElem?_cons_zero, List.getElem?_cons_succ, List.getElem?_nil, List.set_cons_zero, List.set_cons_succ, List.zip_cons_cons, List.zip_nil_left, List.zip_nil_right, List.foldl_cons, List.foldl_nil, Nat.zero_add, Nat.reduceAdd, Nat.reduceSub, true_and, if_true, reduceIte, Bool.false_eq_true, Bool.not_true, Bool.not_false, Bool.true_eq_false, if_false, len, ea, eb]
    rcases no with z | z
    · rw [decide_eq_false (show ¬ (1 : Int) ≤ (xs.length : Int) by omega)]
      simp only [q_wRel, q_vFnFl, q_vtIf, q_wDPut, q_vDNewK, q_vDNewX, q_pf, q_wTry, q_catch0, q_catch1, An.t, An.tL, q_wSeq, q_wExpr, q_wRet, q_wRetN, q_wIf, q_wSet, q_wAsg, q_wPar, q_wParM, q_wMove, q_wAug, q_wApp, q_wExt, q_wPut, q_wFor, q_wSkip, q_wRaise, q_wBk, q_wCt, q_vVar, q_vC, q_vaNil, q_vaCons, q_vTup, q_vLst, q_v2, q_v1, q_vCall, q_vFn, q_vFnK, q_vFl, q_vtOf, q_vtNot, q_vtAnd, q_vtOr, q_vtYes, q_vAnd, q_vOr, q_vNot, q_vIf, q_vChain, q_voNone, q_voSome, q_vSl, q_viSeq, q_viRg1, q_viRg2, q_viZip, q_viEnum, q_vComp, q_vComp2, q_vLock, q_wLock, q_viWalk, itK, q_vSortDict, q_vPop0, q_vPop, q_vRepL, setMany, lstAt, wipeE, tB, tI?, itT, seqT, q_Ok, q_Ok0, Option.bind_some, List.map_cons, List.map_nil, List.length_cons, List.length_nil, List.replicate, List.cons_append, List.nil_append, List.append_nil, List.getElem?_cons_zero, List.getElem?_cons_succ, List.getElem?_nil, List.set_cons_zero, List.set_cons_succ, List.zip_cons_cons, List.zip_nil_left, List.zip_nil_right, List.foldl_cons, List.foldl_nil, Nat.zero_add, Nat.reduceAdd, Nat.reduceSub, true_and, if_true, reduceIte, Bool.false_eq_true, Bool.not_true, Bool.not_false, Bool.true_eq_false, if_false, neg1]
      exact x
    · rw [decide_eq_true (show (1 : Int) ≤ (xs.length : Int) by omega), decide_eq_false (show ¬ (xs.length : Int) ≤ 14 by omega)]
      simp only [q_wRel, q_vFnFl, q_vtIf, q_wDPut, q_vDNewK, q_vDNewX, q_pf, q_wTry, q_catch0, q_catch1, An.t, An.tL, q_wSeq, q_wExpr, q_wRet, q_wRetN, q_wIf, q_wSet, q_wAsg, q_wPar, q_wParM, q_wMove, q_wAug, q_wApp, q_wExt, q_wPut, q_wFor, q_wSkip, q_wRaise, q_wBk, q_wCt, q_vVar, q_vC, q_vaNil, q_vaCons, q_vTup, q_vLst, q_v2, q_v1, q_vCall, q_vFn, q_vFnK, q_vFl, q_vtOf, q_vtNot, q_vtAnd, q_vtOr, q_vtYes, q_vAnd, q_vOr, q_vNot, q_vIf, q_vChain, q_voNone, q_voSome, q_vSl, q_viSeq, q_viRg1, q_viRg2, q_viZip, q_viEnum, q_vComp, q_vComp2, q_vLock, q_wLock, q_viWalk, itK, q_vSortDict, q_vPop0, q_vPop, q_vRepL, setMany, lstAt, wipeE, tB, tI?, itT, seqT, q_Ok, q_Ok0, Option.bind_some, List.map_cons, List.map_nil, List.length_cons, List.length_nil, List.replicate, List.cons_append, List.nil_append, List.append_nil, List.getElem?_cons_zero, List.getElem?_cons_succ, List.getElem?_nil, List.set_cons_zero, List.set_cons_succ, List.zip_cons_cons, List.zip_nil_left, List.zip_nil_right, List.foldl_cons, List.foldl_nil, Nat.zero_add, Nat.reduceAdd, Nat.reduceSub, true_and, if_true, reduceIte, Bool.false_eq_true, Bool.not_true, Bool.not_false, Bool.true_eq_false, if_false, neg1]
      exact x
  | _ =>
    simp only [T.isTup, q_wRel, q_vFnFl, q_vtIf, q_wDPut, q_vDNewK, q_vDNewX, q_pf, q_wTry, q_catch0, q_catch1, An.t, An.tL, q_wSeq, q_wExpr, q_wRet, q_wRetN, q_wIf, q_wSet, q_wAsg, q_wPar, q_wParM, q_wMove, q_wAug, q_wApp, q_wExt, q_wPut, q_wFor, q_wSkip, q_wRaise, q_wBk, q_wCt, q_vVar, q_vC, q_vaNil, q_vaCons, q_vTup, q_vLst, q_v2, q_v1, q_vCall, q_vFn, q_vFnK, q_vFl, q_vtOf, q_vtNot, q_vtAnd, q_vtOr, q_vtYes, q_vAnd, q_vOr, q_vNot, q_vIf, q_vChain, q_voNone, q_voSome, q_vSl, q_viSeq, q_viRg1, q_viRg2, q_viZip, q_viEnum, q_vComp, q_vComp2, q_vLock, q_wLock, q_viWalk, itK, q_vSortDict, q_vPop0, q_vPop, q_vRepL, setMany, lstAt, wipeE, tB, tI?, itT, seqT, q_Ok, q_Ok0, Option.bind_some, List.map_cons, List.map_nil, List.length_cons, List.length_nil, List.replicate, List.cons_append, List.nil_append, List.append_nil, List.getElem?_cons_zero, List.getElem?_cons_succ, List.getElem?_nil, List.set_cons_zero, List.set_cons_succ, List.zip_cons_cons, List.zip_nil_left, List.zip_nil_right, List.foldl_cons, List.foldl_nil, Nat.zero_add, Nat.reduceAdd, Nat.reduceSub, true_and, if_true, reduceIte, Bool.false_eq_true, Bool.not_true, Bool.not_false, Bool.true_eq_false, if_false, neg1]
    exact x
variable {F : List (List Int)} (hF : ∀ r ∈ F, Row n r) (l1 : 1 ≤ F.length) (l2 : F.length ≤ 13)
include hF l1 l2
theorem leads_at {k m : Nat} {t w : T} {j : Int} (gu : Gu k m t) (rf : rfault n t = some j) {Q : T → Prop} {X : Xp} (x : X "BadRows" (.int (F.length : Int))) : p_leads [.int (n : Int), .tup (F.map row ++ [t]), w] Q X := by
  have ll : (F.map row ++ [t]).length = F.length + 1 := by simp
  have gF : Gu (k + 2) (F.length * (93 + m + 2) + 2 * (93 + m + 2) + 3) (.tup (F.map row ++ [t])) := .tup (k := k + 1) (m := 93 + m) (fun x hx => by
    rcases List.mem_append.mp hx with hx | hx
    · obtain ⟨r, hr, rfl⟩ := List.mem_map.mp hx
      exact (gu_rowT h (hF r hr)).mono (by omega) (by omega)
    · rw [List.mem_singleton.mp hx]
      exact gu.mono (by omega) (by omega)) (by
    rw [ll, Nat.succ_mul]
    omega)
  have it : tIsi [.tup (F.map row ++ [t]), .opq (.ty "tuple")] = some (.bl true) := isi_tup gF
  have len : tLen [.tup (F.map row ++ [t])] = some (.int ((F.length + 1 : Nat) : Int)) := by
    show some (T.int ((F.map row ++ [t]).length : Int)) = _
    rw [ll]
  have ea : tLeA (.int 1) (.int ((F.length + 1 : Nat) : Int)) = some (.bl true) := by
    show some (T.bl (decide ((1 : Int) ≤ ((F.length + 1 : Nat) : Int)))) = _
    rw [decide_eq_true (by omega)]
  have eb : tLeA (.int ((F.length + 1 : Nat) : Int)) (.int 14) = some (.bl true) := by
    show some (T.bl (decide (((F.length + 1 : Nat) : Int) ≤ 14))) = _
    rw [decide_eq_true (by omega)]
  simp only [e_leads, q_pf, List.map_cons, List.map_nil, List.length_cons, List.length_nil, List.replicate, List.cons_append, List.nil_append, Nat.reduceAdd, Nat.reduceSub, Nat.zero_add, true_and]
  refine seq_cut (P := fun _ => False) (fun N hN => ?_) fun E hE => hE.elim
  simp only [q_wExpr, q_vFn, q_vaCons, q_vaNil, q_vVar, List.getElem?_cons_zero, List.getElem?_cons_succ, q_Ok]
  simp only [e_made_rows, q_pf, List.map_cons, List.map_nil, List.length_cons, List.length_nil, List.replicate, List.cons_append, List.nil_append, Nat.reduceAdd, Nat.reduceSub, Nat.zero_add, true_and]
  refine seq_cut (P := fun E => E = [some (.int (n : Int)), some (.tup (F.map row ++ [t])), none, none]) (fun N hN => ?_) fun E hE => ?_
  · simp! only []
    exact ask_ok h0 h (hN _ rfl)
  subst hE
  refine seq_cut (P := fun E => E = [some (.int (n : Int)), some (.tup (F.map row ++ [t])), none, none]) (fun N hN => ?_) fun E hE => ?_
  · simp! only [ it, len, ea, eb]
    exact hN _ rfl
  subst hE
  refine seq_cut (P := fun _ => False) (fun N hN => ?_) fun E hE => hE.elim
  simp only [q_wFor, q_viEnum, q_vaCons, q_vaNil, q_vVar, List.getElem?_cons_zero, List.getElem?_cons_succ]
  show vForL _ _ (vpairI 0 (F.map row ++ [t])) _ _
  rw [pair_map]
  refine for_map (fun (p : T × Nat) => T.tup [.int (p.2 : Int), p.1]) (fun d E => d.length ≤ F.length ∧ ∃ w2 w3, E = [some (.int (n : Int)), some (.tup (F.map row ++ [t])), w2, w3]) ⟨Nat.zero_le _, _, _, rfl⟩ (fun d p l E N1 hd ⟨ld, w2, w3, hE⟩ hN1 => ?_) fun E ⟨ld, _⟩ => ?_
  rotate_left
  · rw [List.length_zipIdx, ll] at ld
    omega
  subst hE
  have at_ : ((F.map row ++ [t]).zipIdx 0)[d.length]? = some p := by
    rw [hd, List.getElem?_append_right (Nat.le_refl _), Nat.sub_self]
    rfl
  rw [List.getElem?_zipIdx] at at_
  obtain ⟨y, hy, hp⟩ := Option.map_eq_some_iff.mp at_
  rw [Nat.zero_add] at hp
  subst hp
  have e9 : tNotN T.non T.non = some (.bl false) := rfl
  rcases Nat.lt_or_ge d.length F.length with z | z
  · rw [List.getElem?_append_left (by rw [List.length_map]; exact z), List.getElem?_map] at hy
    obtain ⟨r, hr, rfl⟩ := Option.map_eq_some_iff.mp hy
    have rm := hF r (List.mem_of_getElem? hr)
    simp! only []
    refine row_fault_x (gu_rowT h rm) ?_
    rw [rfault_row rm]
    simp! only [e9]
    refine hN1 _ ⟨?_, _, _, rfl⟩
    rw [List.length_append]
    exact z
  · have e : d.length = F.length := by omega
    rw [e, List.getElem?_append_right (by rw [List.length_map]; exact Nat.le_refl _), List.length_map, Nat.sub_self] at hy
    obtain rfl : t = y := by simpa using hy
    have e8 : tNotN (.int j) T.non = some (.bl true) := rfl
    simp! only []
    refine row_fault_x gu ?_
    rw [rf]
    simp! only [e8]
    rw [e]
    exact x
theorem leads_row {k m : Nat} {t : T} {j : Int} (gu : Gu k m t) (rf : rfault n t = some j) {Q : T → Prop} {X : Xp} (x : X "BadRow" (.int j)) : p_leads [.int (n : Int), rows F, t] Q X := by
  simp only [e_leads, q_wRel, q_vFnFl, q_vtIf, q_wDPut, q_vDNewK, q_vDNewX, q_pf, q_wTry, q_catch0, q_catch1, An.t, An.tL, q_wSeq, q_wExpr, q_wRet, q_wRetN, q_wIf, q_wSet, q_wAsg, q_wPar, q_wParM, q_wMove, q_wAug, q_wApp, q_wExt, q_wPut, q_wFor, q_wSkip, q_wRaise, q_wBk, q_wCt, q_vVar, q_vC, q_vaNil, q_vaCons, q_vTup, q_vLst, q_v2, q_v1, q_vCall, q_vFn, q_vFnK, q_vFl, q_vtOf, q_vtNot, q_vtAnd, q_vtOr, q_vtYes, q_vAnd, q_vOr, q_vNot, q_vIf, q_vChain, q_voNone, q_voSome, q_vSl, q_viSeq, q_viRg1, q_viRg2, q_viZip, q_viEnum, q_vComp, q_vComp2, q_vLock, q_wLock, q_viWalk, itK, q_vSortDict, q_vPop0, q_vPop, q_vRepL, setMany, lstAt, wipeE, tB, tI?, itT, seqT, q_Ok, q_Ok0, Option.bind_some, List.map_cons, List.map_nil, List.length_cons, List.length_nil, List.replicate, List.cons_append, List.nil_append, List.append_nil, List.getElem?_cons_zero, List.getElem?_cons_succ, List.getElem?_nil, List.set_cons_zero, List.set_cons_succ, List.zip_cons_cons, List.zip_nil_left, List.zip_nil_right, List.foldl_cons, List.foldl_nil, Nat.zero_add, Nat.reduceAdd, Nat.reduceSub, true_and, if_true, reduceIte, Bool.false_eq_true, Bool.not_true, Bool.not_false, Bool.true_eq_false, if_false]
  refine made_rows_s h0 h hF l1 (by omega) ?_
  exact made_row_s h0 h gu (fun z => by rw [rf] at z; cases z) fun j' z => by
    rw [rf] at z
    cases z
    exact x
end
end Rol.G

namespace Rol.G
open PySem L2 PySem.Spec Rol
open PyProof.Rows hiding St
theorem clay_two : PyData.canLay0 (.str "two") = true := by decide +kernel
theorem sh_two : (PyData.shown (.str "two")).length ≤ 20 := by decide +kernel
theorem clay_3 : PyData.canLay0 (.str "3") = true := by decide +kernel
theorem sh_3 : (PyData.shown (.str "3")).length ≤ 20 := by decide +kernel
theorem clay_0 : PyData.canLay0 (.str "0") = true := by decide +kernel
theorem sh_0 : (PyData.shown (.str "0")).length ≤ 20 := by decide +kernel
theorem mul_gu {k m : Nat} {x : T} (gx : Gu k m x) {c : Nat} (h : c ≤ 1000000) : ∃ xs, tMulW (.tup [x]) (.int (c : Int)) = some (.tup xs) ∧ Gu (k + 1) (c * (m + 2) + 3) (.tup xs) := by
  refine ⟨List.replicate c x, ?_, .tup (fun y hy => by rw [List.eq_of_mem_replicate hy]; exact gx) (by rw [List.length_replicate]; exact Nat.le_refl _)⟩
  rw [tMul_tup (by omega) (by omega) (by simp; omega), Int.toNat_natCast, rep_one]
/-- a thing of much within it -/
def Deep (t : T) : Prop := ∃ xs, t = .tup xs ∧ Gu 46 2000000 (.tup xs)
theorem deep_thing_s {Q : T → Prop} {X : Xp} (q : ∀ t, Deep t → Q t) : p__law_deep_thing [.jar] Q X := by
  have big : ∀ m : Nat, m ≤ 1000000 → m ≤ sizeLine := fun m hm => by rw [sizeLine_eq]; omega
  simp only [e__law_deep_thing, q_pf, List.map_cons, List.map_nil, List.length_cons, List.length_nil, List.replicate, List.cons_append, List.nil_append, Nat.reduceAdd, Nat.reduceSub, Nat.zero_add, true_and]
  refine seq_cut (P := fun E => ∃ (x : T) (w : Nat), Gu 1 20 x ∧ E = [some .jar, some x, some (.int (w : Int)), none]) (fun N hN => ?_) fun E ⟨x, w, gx, hE⟩ => ?_
  · simp! only []
    refine ⟨big _ (by decide), big _ (by decide), one_s (by simp) (by simp) fun x hx => ?_⟩
    have gx : Gu 1 20 x := by
      simp only [List.mem_cons, List.not_mem_nil, or_false] at hx
      rcases hx with rfl | rfl | rfl | rfl | rfl
      · exact .tup (k := 0) (m := 0) (fun _ h => nomatch h) (by decide)
      · exact gd_small (by decide) (by decide)
      · exact .str clay_two sh_two
      · exact .non (by decide)
      · exact .bl (by decide)
    refine take_n (top := 4) (by decide) (by decide) fun w hw => ?_
    exact hN _ ⟨x, w, gx, rfl⟩
  subst hE
  refine seq_cut (P := fun E => (w : Int) ≠ 0 ∧ E = [some .jar, some x, some (.int (w : Int)), none]) (fun N hN => ?_) fun E ⟨w0, hE⟩ => ?_
  · by_cases z : (w : Int) = 0
    · obtain ⟨A, eA, gA⟩ := mul_gu gx (c := 900) (by decide)
      obtain ⟨B, eB, gB⟩ := mul_gu gA (c := 99) (by decide)
      obtain ⟨C, eC, gC⟩ := mul_gu gx (c := 90000) (by decide)
      have eA : tMulW (.tup [x]) (.int 900) = some (.tup A) := eA
      have eB : tMulW (.tup [.tup A]) (.int 99) = some (.tup B) := eB
      have eC : tMulW (.tup [x]) (.int 90000) = some (.tup C) := eC
      simp! only [ tEq_int, z, decide_true, eA, eB, eC]
      refine ⟨big _ (by decide), big _ (by decide), big _ (by decide), big _ (by decide), one_s (by simp) (by simp) fun y hy => ?_⟩
      simp only [List.mem_cons, List.not_mem_nil, or_false] at hy
      rcases hy with rfl | rfl
      · exact q _ ⟨B, rfl, gB.mono (by decide) (by decide)⟩
      · exact q _ ⟨C, rfl, gC.mono (by decide) (by decide)⟩
    · simp! only [ tEq_int, z, decide_false]
      exact hN _ ⟨z, rfl⟩
  subst hE
  refine seq_cut (P := fun E => ∃ (t : T) (w3 : Option T), Deep t ∧ E = [some .jar, some t, some (.int (w : Int)), w3]) (fun N hN => ?_) fun E ⟨t, w3, dt, hE⟩ => ?_
  rotate_left
  · subst hE
    simp! only []
    exact q t dt
  have g1 : tGt (.int (w : Int)) (.int 1) = some (.bl (decide ((w : Int) > 1))) := rfl
  simp only [q_wFor, q_viRg1, q_vaCons, q_vaNil, q_vIf, q_vtOf, q_v2, q_vVar, q_vC, List.getElem?_cons_zero, List.getElem?_cons_succ, g1, q_Ok, tB]
  by_cases z : (w : Int) > 1
  · have ne : ¬ (w : Int) = 1 := by omega
    simp only [z, decide_true, if_true]
    refine ⟨by decide, ?_⟩
    rw [show (45 : Int).toNat = 45 from rfl, irange_T]
    refine for_map (fun (i : Nat) => T.int (i : Int)) (fun d E => ∃ (t : T) (w3 : Option T), Gu (1 + d.length) (20 + 5 * d.length) t ∧ (d.length = 0 ∨ ∃ xs, t = .tup xs) ∧ E = [some .jar, some t, some (.int (w : Int)), w3]) ⟨x, _, gx, .inl rfl, rfl⟩ (fun d i l E N1 hd ⟨t, w3, gt, _, hE⟩ hN1 => ?_) fun E ⟨t, w3, gt, ht, hE⟩ => ?_
    · subst hE
      simp! only [ tEq_int, ne, decide_false]
      refine ⟨big _ (by decide), hN1 _ ⟨.tup [t], _, ?_, .inr ⟨_, rfl⟩, rfl⟩⟩
      rw [List.length_append, List.length_singleton]
      refine Gu.mono (.tup (k := 1 + d.length) (m := 20 + 5 * d.length) (n := 20 + 5 * (d.length + 1)) (fun y hy => by rw [List.mem_singleton.mp hy]; exact gt) (by rw [List.length_singleton]; omega)) (by omega) (Nat.le_refl _)
    · rw [List.length_range] at gt ht
      rcases ht with z | ⟨xs, rfl⟩
      · exact absurd z (by decide)
      · exact hN E ⟨_, w3, ⟨xs, rfl, gt.mono (by decide) (by decide)⟩, hE⟩
  · have e1 : (w : Int) = 1 := by omega
    simp only [z, decide_false, Bool.false_eq_true, if_false]
    refine ⟨by decide, ?_⟩
    rw [show (14 : Int).toNat = 14 from rfl, irange_T]
    refine for_map (fun (i : Nat) => T.int (i : Int)) (fun d E => ∃ (t : T) (w3 : Option T) (m : Nat), m + 7 = 27 * 2 ^ d.length ∧ Gu (1 + d.length) m t ∧ (d.length = 0 ∨ ∃ xs, t = .tup xs) ∧ E = [some .jar, some t, some (.int (w : Int)), w3]) ⟨x, _, 20, rfl, gx, .inl rfl, rfl⟩ (fun d i l E N1 hd ⟨t, w3, m, em, gt, _, hE⟩ hN1 => ?_) fun E ⟨t, w3, m, em, gt, ht, hE⟩ => ?_
    · subst hE
      simp! only [ tEq_int, e1, decide_true]
      rw [e1] at hN1
      refine ⟨big _ (by decide), hN1 _ ⟨.tup [t, t], _, 2 * (m + 2) + 3, ?_, ?_, .inr ⟨_, rfl⟩, rfl⟩⟩
      · rw [List.length_append, List.length_singleton, Nat.pow_succ]
        omega
      · rw [List.length_append, List.length_singleton]
        exact (gu_pair gt gt).mono (by omega) (Nat.le_refl _)
    · rw [List.length_range] at em gt ht
      rcases ht with z | ⟨xs, rfl⟩
      · exact absurd z (by decide)
      · exact hN E ⟨_, w3, ⟨xs, rfl, gt.mono (by decide) (by omega)⟩, hE⟩
theorem rep_zk {k : Nat} (h : k ≤ 1000) : tMulW (.tup [.int 0]) (.int (k : Int)) = some (row (List.replicate k 0)) := by
  rw [tMul_tup (by omega) (by omega) (by simp; omega), Int.toNat_natCast, rep_one]
  unfold row
  rw [List.map_replicate]
theorem rf_len {n k : Nat} (h : k ≠ n) : rfault n (row (List.replicate k 0)) = some (-1) := by
  show (if ((List.replicate k (0 : Int)).map T.int).length = n then (firstNo 0 ((List.replicate k (0 : Int)).map T.int)).map fun j => (j : Int) else some (-1)) = _
  rw [if_neg (by simpa using h)]
theorem gu_rep {k : Nat} (h : k ≤ 10) : Gu 1 200 (row (List.replicate k 0)) := .tup (k := 0) (m := 13) (fun x hx => by
  obtain ⟨z, hz, rfl⟩ := List.mem_map.mp hx
  rw [List.eq_of_mem_replicate hz]
  exact gd_small (by decide) (Nat.le_refl _)) (by rw [List.length_map, List.length_replicate]; omega)
theorem rf_bent {n i : Nat} {o : T} (hi : i < n) (ho : sgnT o = false) : rfault n (.tup ((List.replicate i (0 : Int)).map T.int ++ [o] ++ (List.replicate (n - i - 1) (0 : Int)).map T.int)) = some (i : Int) := by
  have len : ((List.replicate i (0 : Int)).map T.int ++ [o] ++ (List.replicate (n - i - 1) (0 : Int)).map T.int).length = n := by
    simp
    omega
  have sg : ((List.replicate i (0 : Int)).map T.int).all sgnT = true := all_sgn.mpr ⟨_, rfl, fun z hz => .inr (.inl (List.eq_of_mem_replicate hz))⟩
  show (if ((List.replicate i (0 : Int)).map T.int ++ [o] ++ (List.replicate (n - i - 1) (0 : Int)).map T.int).length = n then (firstNo 0 ((List.replicate i (0 : Int)).map T.int ++ [o] ++ (List.replicate (n - i - 1) (0 : Int)).map T.int)).map fun j => (j : Int) else some (-1)) = _
  rw [if_pos len, List.append_assoc, firstNo_app sg, List.length_map, List.length_replicate, Nat.zero_add, List.singleton_append, firstNo, if_neg (by rw [ho]; decide)]
  rfl
theorem gu_bent {n i : Nat} {o : T} (h : n ≤ 6) (hi : i < n) (ho : Gu 46 2000000 o) : Gu 47 12000100 (.tup ((List.replicate i (0 : Int)).map T.int ++ [o] ++ (List.replicate (n - i - 1) (0 : Int)).map T.int)) := .tup (k := 46) (m := 2000000) (fun x hx => by
  have small : ∀ j : Nat, ∀ z ∈ (List.replicate j (0 : Int)).map T.int, Gu 46 2000000 z := fun j z hz => by
    obtain ⟨y, hy, rfl⟩ := List.mem_map.mp hz
    rw [List.eq_of_mem_replicate hy]
    exact gd_small (by decide) (by decide)
  rcases List.mem_append.mp hx with hx | hx
  · rcases List.mem_append.mp hx with hx | hx
    · exact small _ x hx
    · rw [List.mem_singleton.mp hx]
      exact ho
  · exact small _ x hx) (by
  have : ((List.replicate i (0 : Int)).map T.int ++ [o] ++ (List.replicate (n - i - 1) (0 : Int)).map T.int).length = n := by
    simp
    omega
  rw [this]
  omega)
end Rol.G

namespace Rol.G
open PySem L2 PySem.Spec Rol
open PyProof.Rows hiding St
section
variable {n : Nat} {F : List (List Int)}
theorem ne_si {x : Str} {i : Int} (h : PyData.canLay0 (.str x) = true) (hs : (PyData.shown (.str x)).length ≤ 20) (hi : -1000 < i ∧ i < 1000) : tNe (.tup [.str x, .int i]) (.tup [.str x, .int i]) = some (.bl false) :=
  ne_tup (gu_pair (k := 0) (m := 20) (.str h hs) (gd_small hi (by decide))) (by decide)
theorem eq_si {x : Str} {i : Int} (h : PyData.canLay0 (.str x) = true) (hs : (PyData.shown (.str x)).length ≤ 20) (hi : -1000 < i ∧ i < 1000) : tEq (.tup [.str x, .int i]) (.tup [.str x, .int i]) = some (.bl true) :=
  eq_tup (gu_pair (k := 0) (m := 20) (.str h hs) (gd_small hi (by decide))) (by decide)
theorem doors_right_s (h0 : 1 ≤ n) (h : n ≤ 6) {Q : T → Prop} {X : Xp} (q : Q (.bl true)) : p__law_doors_right [.jar, .int (n : Int)] Q X := by
  have neg1 : tNeg (.int 1) = some (.int (-1)) := rfl
  have neg2 : tNeg (.int 2) = some (.int (-2)) := rfl
  have big : ∀ m : Nat, m ≤ 1000000 → m ≤ sizeLine := fun m hm => by rw [sizeLine_eq]; omega
  simp only [e__law_doors_right, q_pf, List.map_cons, List.map_nil, List.length_cons, List.length_nil, List.replicate, List.cons_append, List.nil_append, Nat.reduceAdd, Nat.reduceSub, Nat.zero_add, true_and]
  refine seq_cut (P := fun E => ∃ F : List (List Int), (∀ r ∈ F, Row n r) ∧ 1 ≤ F.length ∧ F.length ≤ 4 ∧ E = [some .jar, some (.int (n : Int)), none, none, none, none, some (rows F), none]) (fun N hN => ?_) fun E ⟨F, hF, l1, l2, hE⟩ => ?_
  · simp! only []
    exact drawn_rows_s (most := 4) h (by decide) (by decide) fun F a b c => hN _ ⟨F, a, b, c, rfl⟩
  subst hE
  refine seq_cut (P := fun E => ∃ w4, E = [some .jar, some (.int (n : Int)), none, none, w4, none, some (rows F), none]) (fun N hN => ?_) fun E ⟨w4, hE⟩ => ?_
  · simp only [q_wFor, q_viSeq, q_vLst, q_vaCons, q_vaNil, q_vC, q_v1, q_vFn, q_vVar, List.getElem?_cons_zero, List.getElem?_cons_succ, neg1, q_Ok]
    refine deep_thing_s fun t ⟨xs, et, gt⟩ => ?_
    subst et
    refine ⟨big _ (by simp), ?_⟩
    simp only [itT, q_Ok]
    refine for_of (fun d E => ∃ w4, E = [some .jar, some (.int (n : Int)), none, none, w4, none, some (rows F), none]) ⟨_, rfl⟩ (fun d t l E N1 hd ⟨w4, hE⟩ hN1 => ?_) fun E ⟨w4, hE⟩ => hN E ⟨w4, hE⟩
    subst hE
    have ht : t ∈ [.int 0, .int 7, .int (-1), .non, .str "3", .bl true, .bl false, .tup xs] := by rw [hd]; simp
    have key : Gu 46 2000000 t ∧ many t = false := by
      simp only [List.mem_cons, List.not_mem_nil, or_false] at ht
      rcases ht with rfl | rfl | rfl | rfl | rfl | rfl | rfl | rfl
      · exact ⟨gd_small (by decide) (by decide), rfl⟩
      · exact ⟨gd_small (by decide) (by decide), rfl⟩
      · exact ⟨gd_small (by decide) (by decide), rfl⟩
      · exact ⟨.non (by decide), rfl⟩
      · exact ⟨.str clay_3 (Nat.le_trans sh_3 (by decide)), rfl⟩
      · exact ⟨.bl (by decide), rfl⟩
      · exact ⟨.bl (by decide), rfl⟩
      · exact ⟨gt, rfl⟩
    obtain ⟨gt', mt⟩ := key
    have ne : tNe (.tup [.str "many", t]) (.tup [.str "many", t]) = some (.bl false) := ne_tup (gu_pair (.str clay_many (Nat.le_trans sh_many (by decide))) gt') (by decide)
    simp only [setT, q_Ok, List.set_cons_zero, List.set_cons_succ]
    simp only [q_wIf, q_vtOf, q_v2, q_vHeard, q_vFn, q_vTup, q_vaCons, q_vaNil, q_vVar, q_vC, List.getElem?_cons_zero, List.getElem?_cons_succ, q_Ok]
    refine leads_many gt' mt ⟨gu_flat gt', ?_⟩
    rw [c_bm]
    simp! only [q_Ok, An.t, An.tL, ne, tB]
    exact ⟨big _ (by decide), hN1 _ ⟨_, rfl⟩⟩
  subst hE
  refine seq_cut (P := fun E => ∃ i : Nat, i < n ∧ E = [some .jar, some (.int (n : Int)), some (.int (i : Int)), none, w4, none, some (rows F), none]) (fun N hN => ?_) fun E ⟨i, hi, hE⟩ => ?_
  · simp! only []
    exact take_n h0 (by omega) fun i hi => hN _ ⟨i, hi, rfl⟩
  subst hE
  refine seq_cut (P := fun E => ∃ o : T, Gu 46 2000000 o ∧ sgnT o = false ∧ E = [some .jar, some (.int (n : Int)), some (.int (i : Int)), some o, w4, none, some (rows F), none]) (fun N hN => ?_) fun E ⟨o, go, so, hE⟩ => ?_
  · simp only [q_wSet, q_vFn, q_vLst, q_vTup, q_vaCons, q_vaNil, q_vC, q_v1, q_vVar, List.getElem?_cons_zero, List.getElem?_cons_succ, neg2, q_Ok, List.length_cons, List.length_nil]
    refine ⟨big _ (by decide), deep_thing_s fun t ⟨xs, et, gt⟩ => ?_⟩
    subst et
    refine ⟨big _ (by decide), one_s (by simp) (by simp) fun x hx => ?_⟩
    simp only [List.set_cons_zero, List.set_cons_succ]
    refine hN _ ⟨x, ?_, ?_, rfl⟩
    · simp only [List.mem_cons, List.not_mem_nil, or_false] at hx
      rcases hx with rfl | rfl | rfl | rfl | rfl | rfl | rfl | rfl
      · exact gd_small (by decide) (by decide)
      · exact gd_small (by decide) (by decide)
      · exact .non (by decide)
      · exact .str clay_0 (Nat.le_trans sh_0 (by decide))
      · exact .bl (by decide)
      · exact .bl (by decide)
      · exact Gu.mono (.tup (k := 0) (m := 13) (n := 18) (fun y hy => by rw [List.mem_singleton.mp hy]; exact gd_small (by decide) (by decide)) (by decide)) (by decide) (by decide)
      · exact gt
    · simp only [List.mem_cons, List.not_mem_nil, or_false] at hx
      rcases hx with rfl | rfl | rfl | rfl | rfl | rfl | rfl | rfl <;> rfl
  subst hE
  have gb := gu_bent (o := o) h hi go
  have rb := rf_bent (n := n) hi so
  generalize eB : T.tup ((List.replicate i (0 : Int)).map T.int ++ [o] ++ (List.replicate (n - i - 1) (0 : Int)).map T.int) = B at gb rb
  refine seq_cut (P := fun E => E = [some .jar, some (.int (n : Int)), some (.int (i : Int)), some o, w4, some B, some (rows F), none]) (fun N hN => ?_) fun E hE => ?_
  · have s1 : tSub (.int (n : Int)) (.int (i : Int)) = some (.int ((n - i : Nat) : Int)) := by
      show some (T.int ((n : Int) - (i : Int))) = _
      congr 2
      omega
    have s2 : tSub (.int ((n - i : Nat) : Int)) (.int 1) = some (.int ((n - i - 1 : Nat) : Int)) := by
      show some (T.int (((n - i : Nat) : Int) - 1)) = _
      congr 2
      omega
    have a1 : tAdd (row (List.replicate i 0)) (.tup [o]) = some (.tup ((List.replicate i (0 : Int)).map T.int ++ [o])) := if_pos (big _ (by simp; omega))
    have a2 : tAdd (.tup ((List.replicate i (0 : Int)).map T.int ++ [o])) (row (List.replicate (n - i - 1) 0)) = some B := by
      rw [← eB]
      exact if_pos (big _ (by simp; omega))
    simp! only [ rep_zk (k := i) (by omega), s1, s2, rep_zk (k := n - i - 1) (by omega), a1, a2]
    exact ⟨big _ (by decide), big _ (by decide), big _ (by decide), hN _ rfl⟩
  subst hE
  have lF : (F.length : Int) < 1000 := by omega
  refine seq_cut (P := fun E => ∃ w7, E = [some .jar, some (.int (n : Int)), some (.int (i : Int)), some o, w4, some B, some (rows F), w7]) (fun N hN => ?_) fun E ⟨w7, hE⟩ => ?_
  · have gF : ∀ {xs : List T}, (∀ x ∈ xs, ∃ r, Row n r ∧ x = row r) → xs.length ≤ 9000 → Gu 46 2000000 (.tup xs) := fun {xs} hx hl => Gu.mono (.tup (k := 1) (m := 93) (n := 9000 * 95 + 3) (fun x hx' => by
      obtain ⟨r, hr, rfl⟩ := hx x hx'
      exact gu_rowT h hr) (by omega)) (by decide) (by decide)
    obtain ⟨A, eA, lA, gA⟩ : ∃ A, tMulW (rows F) (.int 15) = some (.tup A) ∧ 14 < A.length ∧ Gu 46 2000000 (.tup A) := by
      refine ⟨(List.replicate 15 (F.map row)).flatten, ?_, ?_, gF (fun x hx => ?_) ?_⟩
      · exact tMul_tup (k := 15) (by decide) (by decide) (by simp; omega)
      · rw [List.length_flatten, List.map_replicate, List.sum_replicate_nat, List.length_map]
        omega
      · obtain ⟨l, hl, hx⟩ := List.mem_flatten.mp hx
        rw [List.eq_of_mem_replicate hl] at hx
        obtain ⟨r, hr, rfl⟩ := List.mem_map.mp hx
        exact ⟨r, hF r hr, rfl⟩
      · rw [List.length_flatten, List.map_replicate, List.sum_replicate_nat, List.length_map]
        omega
    obtain ⟨Z, eZ, lZ, gZ⟩ : ∃ Z, tMulW (.tup [row (List.replicate n 0)]) (.int 9000) = some (.tup Z) ∧ 14 < Z.length ∧ Gu 46 2000000 (.tup Z) := by
      refine ⟨List.replicate 9000 (row (List.replicate n 0)), ?_, ?_, gF (fun x hx => ⟨_, zero_row n, List.eq_of_mem_replicate hx⟩) ?_⟩
      · rw [tMul_tup (k := 9000) (by decide) (by decide) (by simp), show (9000 : Int).toNat = 9000 from rfl, rep_one]
      · rw [List.length_replicate]
        decide
      · rw [List.length_replicate]
        decide
    simp only [q_wFor, q_viSeq, q_vLst, q_vTup, q_v2, q_vaCons, q_vaNil, q_vC, q_vVar, List.getElem?_cons_zero, List.getElem?_cons_succ, eA, rep_zk (k := n) (by omega), q_Ok]
    simp only [List.length_cons, List.length_nil, eZ, q_Ok]
    refine ⟨big _ (by decide), big _ (by decide), big _ (by decide), big _ (by decide), ?_⟩
    simp only [itT, q_Ok]
    refine for_of (fun d E => ∃ w7, E = [some .jar, some (.int (n : Int)), some (.int (i : Int)), some o, w4, some B, some (rows F), w7]) ⟨_, rfl⟩ (fun d t l E N1 hd ⟨w7, hE⟩ hN1 => ?_) fun E ⟨w7, hE⟩ => hN E ⟨w7, hE⟩
    subst hE
    have ht : t ∈ [.non, .tup [], .tup A, .str "rows", .int 0, .tup Z] := by rw [hd]; simp
    have key : Gu 46 2000000 t ∧ NoRows t := by
      simp only [List.mem_cons, List.not_mem_nil, or_false] at ht
      rcases ht with rfl | rfl | rfl | rfl | rfl | rfl
      · exact ⟨.non (by decide), trivial⟩
      · exact ⟨.tup (k := 45) (m := 0) (fun _ h => nomatch h) (by decide), .inl rfl⟩
      · exact ⟨gA, .inr lA⟩
      · exact ⟨.str clay_rows (Nat.le_trans sh_rows (by decide)), trivial⟩
      · exact ⟨gd_small (by decide) (by decide), trivial⟩
      · exact ⟨gZ, .inr lZ⟩
    obtain ⟨gt', nt⟩ := key
    have ne := ne_si (i := -1) clay_rows sh_rows (by decide)
    simp only [setT, q_Ok, List.set_cons_zero, List.set_cons_succ]
    simp only [q_wIf, q_vtOf, q_v2, q_v1, q_vHeard, q_vFn, q_vTup, q_vaCons, q_vaNil, q_vVar, q_vC, List.getElem?_cons_zero, List.getElem?_cons_succ, q_Ok]
    refine leads_rows h0 h gt' nt ⟨rfl, ?_⟩
    rw [c_bs]
    simp! only [q_Ok, An.t, An.tL, neg1, ne, tB]
    exact ⟨big _ (by decide), hN1 _ ⟨_, rfl⟩⟩
  subst hE
  refine seq_cut (P := fun E => ∃ w7, E = [some .jar, some (.int (n : Int)), some (.int (i : Int)), some o, w4, some B, some (rows F), w7]) (fun N hN => ?_) fun E ⟨w7, hE⟩ => ?_
  · have a1 : tAdd (.int (n : Int)) (.int 1) = some (.int ((n + 1 : Nat) : Int)) := by
      show some (T.int ((n : Int) + 1)) = _
      rw [Int.natCast_add]; rfl
    have s1 : tSub (.int (n : Int)) (.int 1) = some (.int ((n - 1 : Nat) : Int)) := by
      show some (T.int ((n : Int) - 1)) = _
      congr 2
      omega
    have len : tLen [rows F] = some (.int (F.length : Int)) := by
      show some (T.int ((F.map row).length : Int)) = _
      rw [List.length_map]
    simp only [q_wFor, q_viSeq, q_vLst, q_vTup, q_v2, q_vaCons, q_vaNil, q_vC, q_vVar, List.getElem?_cons_zero, List.getElem?_cons_succ, a1, s1, rep_zk (k := n + 1) (by omega), rep_zk (k := n - 1) (by omega), q_Ok]
    simp only [List.length_cons, List.length_nil]
    refine ⟨big _ (by decide), big _ (by decide), big _ (by decide), ?_⟩
    simp only [itT, q_Ok]
    refine for_of (fun d E => ∃ w7, E = [some .jar, some (.int (n : Int)), some (.int (i : Int)), some o, w4, some B, some (rows F), w7]) ⟨_, rfl⟩ (fun d t l E N1 hd ⟨w7, hE⟩ hN1 => ?_) fun E ⟨w7, hE⟩ => hN E ⟨w7, hE⟩
    subst hE
    have ht : t ∈ [B, .non, row (List.replicate (n + 1) 0), row (List.replicate (n - 1) 0), .int 0] := by rw [hd]; simp
    obtain ⟨j, gt', rf⟩ : ∃ j, Gu 47 12000100 t ∧ rfault n t = some j := by
      simp only [List.mem_cons, List.not_mem_nil, or_false] at ht
      rcases ht with rfl | rfl | rfl | rfl | rfl
      · exact ⟨_, gb, rb⟩
      · exact ⟨_, .non (by decide), rfl⟩
      · exact ⟨_, (gu_rep (k := n + 1) (by omega)).mono (by decide) (by decide), rf_len (by omega)⟩
      · exact ⟨_, (gu_rep (k := n - 1) (by omega)).mono (by decide) (by decide), rf_len (by omega)⟩
      · exact ⟨_, gd_small (by decide) (by decide), rfl⟩
    have ne := ne_si (i := (F.length : Int)) clay_rows sh_rows (by omega)
    have ad : tAdd (rows F) (.tup [t]) = some (.tup (F.map row ++ [t])) := if_pos (big _ (by simp; omega))
    simp only [setT, q_Ok, List.set_cons_zero, List.set_cons_succ]
    simp only [q_wIf, q_vtOf, q_v2, q_v1, q_vHeard, q_vFn, q_vCall, q_vTup, q_vaCons, q_vaNil, q_vVar, q_vC, List.getElem?_cons_zero, List.getElem?_cons_succ, ad, q_Ok]
    refine ⟨big _ (by simp), leads_at h0 h hF l1 (by omega) gt' rf ⟨rfl, ?_⟩⟩
    rw [c_bs]
    simp! only [q_Ok, An.t, An.tL, len, ne, tB]
    exact ⟨big _ (by decide), hN1 _ ⟨_, rfl⟩⟩
  subst hE
  refine seq_cut (P := fun E => ∃ w7, E = [some .jar, some (.int (n : Int)), some (.int (i : Int)), some o, w4, some B, some (rows F), w7]) (fun N hN => ?_) fun E ⟨w7, hE⟩ => ?_
  · have a1 : tAdd (.int (n : Int)) (.int 1) = some (.int ((n + 1 : Nat) : Int)) := by
      show some (T.int ((n : Int) + 1)) = _
      rw [Int.natCast_add]; rfl
    simp only [q_wFor, q_viSeq, q_vLst, q_vTup, q_v2, q_vaCons, q_vaNil, q_vC, q_vVar, List.getElem?_cons_zero, List.getElem?_cons_succ, a1, rep_zk (k := n + 1) (by omega), q_Ok]
    simp only [List.length_cons, List.length_nil]
    refine ⟨big _ (by decide), big _ (by decide), big _ (by decide), ?_⟩
    simp only [itT, q_Ok]
    refine for_of (fun d E => ∃ w7, E = [some .jar, some (.int (n : Int)), some (.int (i : Int)), some o, w4, some B, some (rows F), w7]) ⟨_, rfl⟩ (fun d t l E N1 hd ⟨w7, hE⟩ hN1 => ?_) fun E ⟨w7, hE⟩ => hN E ⟨w7, hE⟩
    subst hE
    have ht : t ∈ [.non, row (List.replicate (n + 1) 0), .tup [], .int 1] := by rw [hd]; simp
    obtain ⟨gt', rf⟩ : Gu 47 12000100 t ∧ rfault n t = some (-1) := by
      simp only [List.mem_cons, List.not_mem_nil, or_false] at ht
      rcases ht with rfl | rfl | rfl | rfl
      · exact ⟨.non (by decide), rfl⟩
      · exact ⟨(gu_rep (k := n + 1) (by omega)).mono (by decide) (by decide), rf_len (by omega)⟩
      · exact ⟨(gu_rep (k := 0) (by omega)).mono (by decide) (by decide), rf_len (k := 0) (by omega)⟩
      · exact ⟨gd_small (by decide) (by decide), rfl⟩
    have ne := ne_si (i := -1) clay_row sh_row (by decide)
    simp only [setT, q_Ok, List.set_cons_zero, List.set_cons_succ]
    simp only [q_wIf, q_vtOf, q_v2, q_v1, q_vHeard, q_vFn, q_vTup, q_vaCons, q_vaNil, q_vVar, q_vC, List.getElem?_cons_zero, List.getElem?_cons_succ, q_Ok]
    refine leads_row h0 h hF l1 (by omega) gt' rf ⟨rfl, ?_⟩
    rw [c_br]
    simp! only [q_Ok, An.t, An.tL, neg1, ne, tB]
    exact ⟨big _ (by decide), hN1 _ ⟨_, rfl⟩⟩
  subst hE
  have eq := eq_si (i := (i : Int)) clay_row sh_row (by omega)
  simp only [q_wRet, q_v2, q_vHeard, q_vFn, q_vTup, q_vaCons, q_vaNil, q_vVar, q_vC, List.getElem?_cons_zero, List.getElem?_cons_succ, q_Ok]
  refine leads_row h0 h hF l1 (by omega) gb rb ⟨rfl, ?_⟩
  rw [c_br]
  simp only [q_Ok, An.t, An.tL, eq]
  exact ⟨big _ (by simp), q⟩
end
end Rol.G

namespace Rol.G
open PySem L2 PySem.Spec Rol
open PyProof.Rows hiding St
theorem law_p (ns : List Int) (hl : ns.length ≤ 63) : p_law [.src (ns.map .int)] (fun t => t = .bl true) (fun _ _ => False) := by
  simp only [e_law, q_pf, List.map_cons, List.map_nil, List.length_cons, List.length_nil, List.replicate, List.cons_append, List.nil_append, Nat.reduceAdd, Nat.reduceSub, Nat.zero_add, true_and]
  refine seq_cut (P := fun _ => True) (fun N hN => ?_) fun E _ => ?_
  rotate_left
  · simp! only []
  obtain ⟨z, hz1, hz2⟩ : ∃ z : Nat, z ≤ 2 ∧ (∀ (Q : T → Prop), Q (.int (z : Int)) → Ok (tLen [.src (ns.map .int)]) fun r => Ok (tMin [r, .int 2]) fun r => Ok (tMax [.int 1, r]) Q) := by
    refine ⟨max 1 (min ns.length 2), by omega, fun Q hQ => ?_⟩
    have t1 : tLen [.src (ns.map T.int)] = some (.int (ns.length : Int)) := by
      show some (T.int ((ns.map T.int).length : Int)) = _
      rw [List.length_map]
    have t2 : tMin [.int (ns.length : Int), .int 2] = some (.int ((min ns.length 2 : Nat) : Int)) := by
      show some (T.int (if (2 : Int) < (ns.length : Int) then 2 else (ns.length : Int))) = _
      congr 2
      split <;> omega
    have t3 : tMax [.int 1, .int ((min ns.length 2 : Nat) : Int)] = some (.int ((max 1 (min ns.length 2) : Nat) : Int)) := by
      show some (T.int (if ((min ns.length 2 : Nat) : Int) > 1 then ((min ns.length 2 : Nat) : Int) else 1)) = _
      congr 2
      split <;> omega
    simp only [t1, t2, t3, q_Ok]
    exact hQ
  rw [q_wFor]
  simp only [q_viRg1, q_vCall, q_vaCons, q_vaNil, q_vVar, q_vC, List.getElem?_cons_zero, List.getElem?_cons_succ]
  refine hz2 _ ?_
  refine ⟨by omega, ?_⟩
  rw [Int.toNat_natCast, irange_T]
  refine for_map (fun (i : Nat) => T.int (i : Int)) (fun d E => ∃ w1 w2 w3, E = [some (.src (ns.map .int)), w1, w2, w3]) ⟨_, _, _, rfl⟩ (fun d i r E N1 hd ⟨w1, w2, w3, hE⟩ hN1 => ?_) fun E _ => hN E trivial
  subst hE
  have hi : i < 2 := by
    have : i ∈ List.range z := by rw [hd]; simp
    have := List.mem_range.mp this
    omega
  simp only [setT, q_Ok, List.set_cons_zero, List.set_cons_succ]
  refine seq_cut (P := fun E => E = [some (.src (ns.map .int)), some (.int (i : Int)), some .jar, w3]) (fun N hN => ?_) fun E hE => ?_
  · simp! only []
    exact ⟨ns, i, rfl, by omega, hN _ rfl⟩
  subst hE
  refine seq_cut (P := fun E => ∃ n : Nat, 1 ≤ n ∧ n ≤ 4 ∧ E = [some (.src (ns.map .int)), some (.int (i : Int)), some .jar, some (.int (n : Int))]) (fun N hN => ?_) fun E ⟨n, h0, h, hE⟩ => ?_
  · simp! only []
    refine take_n (top := 4) (by decide) (by decide) fun m hm => ?_
    have a1 : tAdd (.int 1) (.int (m : Int)) = some (.int ((m + 1 : Nat) : Int)) := by
      show some (T.int (1 + (m : Int))) = _
      congr 2
      omega
    simp! only [a1]
    exact hN _ ⟨m + 1, by omega, by omega, rfl⟩
  subst hE
  simp! only []
  refine small_right_s h0 (by omega) ?_
  simp! only []
  refine take_n (top := 2) (by decide) (by decide) fun m hm => ?_
  have a1 : tAdd (.int 5) (.int (m : Int)) = some (.int ((m + 5 : Nat) : Int)) := by
    show some (T.int (5 + (m : Int))) = _
    congr 2
    omega
  simp! only [a1]
  refine wide_right_s (by omega) (by omega) ?_
  simp! only []
  refine doors_right_s h0 (by omega) ?_
  simp! only []
  exact hN1 _ ⟨_, _, _, rfl⟩
theorem law_pure : ∀ ns : List Int, ns.length ≤ 63 → (∀ z ∈ ns, Builtin.Int.intBits z ≤ 1048576) → ∃ st', d_law [.loc 0] [.src (ns.map D.int)] = .ok (.bl true) st' := fun ns hl _ => law_V sim_law ns (law_p ns hl)
end Rol.G

namespace Rol.G
open PySem L2 PySem.Spec Rol
open PyProof.Rows hiding St
def adOf (A9 A10 A11 A12 A13 A14 A18 A19 A20 A22 A23 A24 A25 A26 A27 A28 A29 A30 A31 A32 A33 A34 A35 A36 A37 A38 : Addr) : Nat → Addr := fun i => if i = 9 then A9 else if i = 10 then A10 else if i = 11 then A11 else if i = 12 then A12 else if i = 13 then A13 else if i = 14 then A14 else if i = 18 then A18 else if i = 19 then A19 else if i = 20 then A20 else if i = 22 then A22 else if i = 23 then A23 else if i = 24 then A24 else if i = 25 then A25 else if i = 26 then A26 else if i = 27 then A27 else if i = 28 then A28 else if i = 29 then A29 else if i = 30 then A30 else if i = 31 then A31 else if i = 32 then A32 else if i = 33 then A33 else if i = 34 then A34 else if i = 35 then A35 else if i = 36 then A36 else if i = 37 then A37 else A38
def fdOf (A9 A10 A11 A12 A13 A14 A18 A19 A20 A22 A23 A24 A25 A26 A27 A28 A29 A30 A31 A32 A33 A34 A35 A36 A37 A38 : FuncData) : Nat → FuncData := fun i => if i = 9 then A9 else if i = 10 then A10 else if i = 11 then A11 else if i = 12 then A12 else if i = 13 then A13 else if i = 14 then A14 else if i = 18 then A18 else if i = 19 then A19 else if i = 20 then A20 else if i = 22 then A22 else if i = 23 then A23 else if i = 24 then A24 else if i = 25 then A25 else if i = 26 then A26 else if i = 27 then A27 else if i = 28 then A28 else if i = 29 then A29 else if i = 30 then A30 else if i = 31 then A31 else if i = 32 then A32 else if i = 33 then A33 else if i = 34 then A34 else if i = 35 then A35 else if i = 36 then A36 else if i = 37 then A37 else A38
def cdOf (Kd37 : Addr) : Nat → Addr := fun i => if i = 37 then Kd37 else 0
def tbOf (Pt37 : Addr) : Nat → Addr := fun i => if i = 37 then Pt37 else 0
def cmOf (P : Program) (w : World) (Pt37 C_BadMany C_BadRow C_BadRows C_Refused : Addr) : CM := ⟨fun c => if c = "BadMany" then C_BadMany else if c = "BadRow" then C_BadRow else if c = "BadRows" then C_BadRows else if c = "Refused" then C_Refused else 0, ⟨[(Pt37, ("_law_doors_right" : Str) ++ ".<locals>." ++ "<lambda>")], P, w⟩⟩
theorem all_mk {l : PySem.W.OpenLaw} {w : World} {K : PySem.W.Frag} {h : Heap} {mg : Str → Option Value} {fa : Addr} (X : K.In h) (G : h.Ns mainGlobals mg) (hfa : mg "law" = some (.ref fa))
    {A9 : Addr} {od9 an9 : Option Addr} {sl9 : Array (Option Value)} {oc9 kV9 dc9 pm9 cd9 ct9 : Value}
    {A10 : Addr} {od10 an10 : Option Addr} {sl10 : Array (Option Value)} {oc10 kV10 dc10 pm10 cd10 ct10 : Value}
    {A11 : Addr} {od11 an11 : Option Addr} {sl11 : Array (Option Value)} {oc11 kV11 dc11 pm11 cd11 ct11 : Value}
    {A12 : Addr} {od12 an12 : Option Addr} {sl12 : Array (Option Value)} {oc12 kV12 dc12 pm12 cd12 ct12 : Value}
    {A13 : Addr} {od13 an13 : Option Addr} {sl13 : Array (Option Value)} {oc13 kV13 dc13 pm13 cd13 ct13 : Value}
    {A14 : Addr} {od14 an14 : Option Addr} {sl14 : Array (Option Value)} {oc14 kV14 dc14 pm14 cd14 ct14 : Value}
    {A18 : Addr} {od18 an18 : Option Addr} {sl18 : Array (Option Value)} {oc18 kV18 dc18 pm18 cd18 ct18 : Value}
    {A19 : Addr} {od19 an19 : Option Addr} {sl19 : Array (Option Value)} {oc19 kV19 dc19 pm19 cd19 ct19 : Value}
    {A20 : Addr} {od20 an20 : Option Addr} {sl20 : Array (Option Value)} {oc20 kV20 dc20 pm20 cd20 ct20 : Value}
    {A22 : Addr} {od22 an22 : Option Addr} {sl22 : Array (Option Value)} {oc22 kV22 dc22 pm22 cd22 ct22 : Value}
    {A23 : Addr} {od23 an23 : Option Addr} {sl23 : Array (Option Value)} {oc23 kV23 dc23 pm23 cd23 ct23 : Value}
    {A24 : Addr} {od24 an24 : Option Addr} {sl24 : Array (Option Value)} {oc24 kV24 dc24 pm24 cd24 ct24 : Value}
    {A25 : Addr} {od25 an25 : Option Addr} {sl25 : Array (Option Value)} {oc25 kV25 dc25 pm25 cd25 ct25 : Value}
    {A26 : Addr} {od26 an26 : Option Addr} {sl26 : Array (Option Value)} {oc26 kV26 dc26 pm26 cd26 ct26 : Value}
    {A27 : Addr} {od27 an27 : Option Addr} {sl27 : Array (Option Value)} {oc27 kV27 dc27 pm27 cd27 ct27 : Value}
    {A28 : Addr} {od28 an28 : Option Addr} {sl28 : Array (Option Value)} {oc28 kV28 dc28 pm28 cd28 ct28 : Value}
    {A29 : Addr} {od29 an29 : Option Addr} {sl29 : Array (Option Value)} {oc29 kV29 dc29 pm29 cd29 ct29 : Value}
    {A30 : Addr} {od30 an30 : Option Addr} {sl30 : Array (Option Value)} {oc30 kV30 dc30 pm30 cd30 ct30 : Value}
    {A31 : Addr} {od31 an31 : Option Addr} {sl31 : Array (Option Value)} {oc31 kV31 dc31 pm31 cd31 ct31 : Value}
    {A32 : Addr} {od32 an32 : Option Addr} {sl32 : Array (Option Value)} {oc32 kV32 dc32 pm32 cd32 ct32 : Value}
    {A33 : Addr} {od33 an33 : Option Addr} {sl33 : Array (Option Value)} {oc33 kV33 dc33 pm33 cd33 ct33 : Value}
    {A34 : Addr} {od34 an34 : Option Addr} {sl34 : Array (Option Value)} {oc34 kV34 dc34 pm34 cd34 ct34 : Value}
    {A35 : Addr} {od35 an35 : Option Addr} {sl35 : Array (Option Value)} {oc35 kV35 dc35 pm35 cd35 ct35 : Value}
    {A36 : Addr} {od36 an36 : Option Addr} {sl36 : Array (Option Value)} {oc36 kV36 dc36 pm36 cd36 ct36 : Value}
    {A37 : Addr} {od37 an37 : Option Addr} {sl37 : Array (Option Value)} {oc37 kV37 dc37 pm37 ct37 : Value}
    {Kd37 Pt37 : Addr} {oe37 : Option Addr} {vs37 : Array Value} {se37 : Array (Option Value)}
    {A38 : Addr} {od38 an38 : Option Addr} {sl38 : Array (Option Value)} {oc38 kV38 dc38 pm38 cd38 ct38 : Value}
    {t_BOTH_MARKS : Tok}
    {S_MARKS : Addr} {nn_MARKS : Nat} {t0_MARKS u0_MARKS t1_MARKS u1_MARKS t2_MARKS u2_MARKS : Tok}
    {t_MOST_MEMBERS : Tok}
    {t_MOST_ROWS : Tok}
    {S_SIGNS : Addr} {od_SIGNS : Option Addr} {nn_SIGNS : Nat} {sl_SIGNS : Array (Option Value)} {t0_SIGNS t1_SIGNS t2_SIGNS : Tok}
    {fI : Addr} {odI anI : Option Addr} {slI : Array (Option Value)} {ocI dcI pmI cdI ctI : Value}
    {C_BadMany C_BadRow C_BadRows C_Refused : Addr}
    {nm_BadMany q_BadMany : Str} {N_BadMany : Addr} {bs_BadMany : List Value} {sn_BadMany : List Str} {sub_BadMany : List Value} {ab_BadMany : Bool} {col_BadMany : Option Bool} {dd_BadMany : Option Addr} {m0_BadMany m1_BadMany m3_BadMany m5_BadMany : Option Value} {tn_BadMany : Tok}
    {nm_BadRow q_BadRow : Str} {N_BadRow : Addr} {bs_BadRow : List Value} {sn_BadRow : List Str} {sub_BadRow : List Value} {ab_BadRow : Bool} {col_BadRow : Option Bool} {dd_BadRow : Option Addr} {m0_BadRow m1_BadRow m3_BadRow m5_BadRow : Option Value} {tn_BadRow : Tok}
    {nm_BadRows q_BadRows : Str} {N_BadRows : Addr} {bs_BadRows : List Value} {sn_BadRows : List Str} {sub_BadRows : List Value} {ab_BadRows : Bool} {col_BadRows : Option Bool} {dd_BadRows : Option Addr} {m0_BadRows m1_BadRows m3_BadRows m5_BadRows : Option Value} {tn_BadRows : Tok}
    (a9 : PySem.W.nsIn K mainGlobals "is_number" = some (some (.ref A9))) (l9 : K.lookup A9 = some ⟨oc9, od9, .func (PySem.W.fnOf "is_number" "is_number" (defArgs (top 9)) (defBody (top 9)) (defScope (top 9)) .none kV9 dc9 pm9 an9 cd9 ct9), sl9⟩) (c9 : PySem.W.codeIn K cd9 "is_number" = true) (k9 : PySem.W.keepIn K (.ref A9) = true)
    (a10 : PySem.W.nsIn K mainGlobals "is_many" = some (some (.ref A10))) (l10 : K.lookup A10 = some ⟨oc10, od10, .func (PySem.W.fnOf "is_many" "is_many" (defArgs (top 10)) (defBody (top 10)) (defScope (top 10)) .none kV10 dc10 pm10 an10 cd10 ct10), sl10⟩) (c10 : PySem.W.codeIn K cd10 "is_many" = true) (k10 : PySem.W.keepIn K (.ref A10) = true)
    (a11 : PySem.W.nsIn K mainGlobals "ask_many" = some (some (.ref A11))) (l11 : K.lookup A11 = some ⟨oc11, od11, .func (PySem.W.fnOf "ask_many" "ask_many" (defArgs (top 11)) (defBody (top 11)) (defScope (top 11)) .none kV11 dc11 pm11 an11 cd11 ct11), sl11⟩) (c11 : PySem.W.codeIn K cd11 "ask_many" = true) (k11 : PySem.W.keepIn K (.ref A11) = true)
    (a12 : PySem.W.nsIn K mainGlobals "row_fault" = some (some (.ref A12))) (l12 : K.lookup A12 = some ⟨oc12, od12, .func (PySem.W.fnOf "row_fault" "row_fault" (defArgs (top 12)) (defBody (top 12)) (defScope (top 12)) .none kV12 dc12 pm12 an12 cd12 ct12), sl12⟩) (c12 : PySem.W.codeIn K cd12 "row_fault" = true) (k12 : PySem.W.keepIn K (.ref A12) = true)
    (a13 : PySem.W.nsIn K mainGlobals "made_row" = some (some (.ref A13))) (l13 : K.lookup A13 = some ⟨oc13, od13, .func (PySem.W.fnOf "made_row" "made_row" (defArgs (top 13)) (defBody (top 13)) (defScope (top 13)) .none kV13 dc13 pm13 an13 cd13 ct13), sl13⟩) (c13 : PySem.W.codeIn K cd13 "made_row" = true) (k13 : PySem.W.keepIn K (.ref A13) = true)
    (a14 : PySem.W.nsIn K mainGlobals "made_rows" = some (some (.ref A14))) (l14 : K.lookup A14 = some ⟨oc14, od14, .func (PySem.W.fnOf "made_rows" "made_rows" (defArgs (top 14)) (defBody (top 14)) (defScope (top 14)) .none kV14 dc14 pm14 an14 cd14 ct14), sl14⟩) (c14 : PySem.W.codeIn K cd14 "made_rows" = true) (k14 : PySem.W.keepIn K (.ref A14) = true)
    (a18 : PySem.W.nsIn K mainGlobals "marks_of" = some (some (.ref A18))) (l18 : K.lookup A18 = some ⟨oc18, od18, .func (PySem.W.fnOf "marks_of" "marks_of" (defArgs (top 18)) (defBody (top 18)) (defScope (top 18)) .none kV18 dc18 pm18 an18 cd18 ct18), sl18⟩) (c18 : PySem.W.codeIn K cd18 "marks_of" = true) (k18 : PySem.W.keepIn K (.ref A18) = true)
    (a19 : PySem.W.nsIn K mainGlobals "marks_lead" = some (some (.ref A19))) (l19 : K.lookup A19 = some ⟨oc19, od19, .func (PySem.W.fnOf "marks_lead" "marks_lead" (defArgs (top 19)) (defBody (top 19)) (defScope (top 19)) .none kV19 dc19 pm19 an19 cd19 ct19), sl19⟩) (c19 : PySem.W.codeIn K cd19 "marks_lead" = true) (k19 : PySem.W.keepIn K (.ref A19) = true)
    (a20 : PySem.W.nsIn K mainGlobals "leads" = some (some (.ref A20))) (l20 : K.lookup A20 = some ⟨oc20, od20, .func (PySem.W.fnOf "leads" "leads" (defArgs (top 20)) (defBody (top 20)) (defScope (top 20)) .none kV20 dc20 pm20 an20 cd20 ct20), sl20⟩) (c20 : PySem.W.codeIn K cd20 "leads" = true) (k20 : PySem.W.keepIn K (.ref A20) = true)
    (a22 : PySem.W.nsIn K mainGlobals "_law_pool" = some (some (.ref A22))) (l22 : K.lookup A22 = some ⟨oc22, od22, .func (PySem.W.fnOf "_law_pool" "_law_pool" (defArgs (top 22)) (defBody (top 22)) (defScope (top 22)) .none kV22 dc22 pm22 an22 cd22 ct22), sl22⟩) (c22 : PySem.W.codeIn K cd22 "_law_pool" = true) (k22 : PySem.W.keepIn K (.ref A22) = true)
    (a23 : PySem.W.nsIn K mainGlobals "_law_take" = some (some (.ref A23))) (l23 : K.lookup A23 = some ⟨oc23, od23, .func (PySem.W.fnOf "_law_take" "_law_take" (defArgs (top 23)) (defBody (top 23)) (defScope (top 23)) .none kV23 dc23 pm23 an23 cd23 ct23), sl23⟩) (c23 : PySem.W.codeIn K cd23 "_law_take" = true) (k23 : PySem.W.keepIn K (.ref A23) = true)
    (a24 : PySem.W.nsIn K mainGlobals "_law_one" = some (some (.ref A24))) (l24 : K.lookup A24 = some ⟨oc24, od24, .func (PySem.W.fnOf "_law_one" "_law_one" (defArgs (top 24)) (defBody (top 24)) (defScope (top 24)) .none kV24 dc24 pm24 an24 cd24 ct24), sl24⟩) (c24 : PySem.W.codeIn K cd24 "_law_one" = true) (k24 : PySem.W.keepIn K (.ref A24) = true)
    (a25 : PySem.W.nsIn K mainGlobals "_law_mixed" = some (some (.ref A25))) (l25 : K.lookup A25 = some ⟨oc25, od25, .func (PySem.W.fnOf "_law_mixed" "_law_mixed" (defArgs (top 25)) (defBody (top 25)) (defScope (top 25)) .none kV25 dc25 pm25 an25 cd25 ct25), sl25⟩) (c25 : PySem.W.codeIn K cd25 "_law_mixed" = true) (k25 : PySem.W.keepIn K (.ref A25) = true)
    (a26 : PySem.W.nsIn K mainGlobals "_law_level" = some (some (.ref A26))) (l26 : K.lookup A26 = some ⟨oc26, od26, .func (PySem.W.fnOf "_law_level" "_law_level" (defArgs (top 26)) (defBody (top 26)) (defScope (top 26)) .none kV26 dc26 pm26 an26 cd26 ct26), sl26⟩) (c26 : PySem.W.codeIn K cd26 "_law_level" = true) (k26 : PySem.W.keepIn K (.ref A26) = true)
    (a27 : PySem.W.nsIn K mainGlobals "_law_sums_of" = some (some (.ref A27))) (l27 : K.lookup A27 = some ⟨oc27, od27, .func (PySem.W.fnOf "_law_sums_of" "_law_sums_of" (defArgs (top 27)) (defBody (top 27)) (defScope (top 27)) .none kV27 dc27 pm27 an27 cd27 ct27), sl27⟩) (c27 : PySem.W.codeIn K cd27 "_law_sums_of" = true) (k27 : PySem.W.keepIn K (.ref A27) = true)
    (a28 : PySem.W.nsIn K mainGlobals "_law_any_row" = some (some (.ref A28))) (l28 : K.lookup A28 = some ⟨oc28, od28, .func (PySem.W.fnOf "_law_any_row" "_law_any_row" (defArgs (top 28)) (defBody (top 28)) (defScope (top 28)) .none kV28 dc28 pm28 an28 cd28 ct28), sl28⟩) (c28 : PySem.W.codeIn K cd28 "_law_any_row" = true) (k28 : PySem.W.keepIn K (.ref A28) = true)
    (a29 : PySem.W.nsIn K mainGlobals "_law_line_row" = some (some (.ref A29))) (l29 : K.lookup A29 = some ⟨oc29, od29, .func (PySem.W.fnOf "_law_line_row" "_law_line_row" (defArgs (top 29)) (defBody (top 29)) (defScope (top 29)) .none kV29 dc29 pm29 an29 cd29 ct29), sl29⟩) (c29 : PySem.W.codeIn K cd29 "_law_line_row" = true) (k29 : PySem.W.keepIn K (.ref A29) = true)
    (a30 : PySem.W.nsIn K mainGlobals "_law_leads" = some (some (.ref A30))) (l30 : K.lookup A30 = some ⟨oc30, od30, .func (PySem.W.fnOf "_law_leads" "_law_leads" (defArgs (top 30)) (defBody (top 30)) (defScope (top 30)) .none kV30 dc30 pm30 an30 cd30 ct30), sl30⟩) (c30 : PySem.W.codeIn K cd30 "_law_leads" = true) (k30 : PySem.W.keepIn K (.ref A30) = true)
    (a31 : PySem.W.nsIn K mainGlobals "_law_heard" = some (some (.ref A31))) (l31 : K.lookup A31 = some ⟨oc31, od31, .func (PySem.W.fnOf "_law_heard" "_law_heard" (defArgs (top 31)) (defBody (top 31)) (defScope (top 31)) .none kV31 dc31 pm31 an31 cd31 ct31), sl31⟩) (c31 : PySem.W.codeIn K cd31 "_law_heard" = true) (k31 : PySem.W.keepIn K (.ref A31) = true)
    (a32 : PySem.W.nsIn K mainGlobals "_law_all_sums" = some (some (.ref A32))) (l32 : K.lookup A32 = some ⟨oc32, od32, .func (PySem.W.fnOf "_law_all_sums" "_law_all_sums" (defArgs (top 32)) (defBody (top 32)) (defScope (top 32)) .none kV32 dc32 pm32 an32 cd32 ct32), sl32⟩) (c32 : PySem.W.codeIn K cd32 "_law_all_sums" = true) (k32 : PySem.W.keepIn K (.ref A32) = true)
    (a33 : PySem.W.nsIn K mainGlobals "_law_drawn_rows" = some (some (.ref A33))) (l33 : K.lookup A33 = some ⟨oc33, od33, .func (PySem.W.fnOf "_law_drawn_rows" "_law_drawn_rows" (defArgs (top 33)) (defBody (top 33)) (defScope (top 33)) .none kV33 dc33 pm33 an33 cd33 ct33), sl33⟩) (c33 : PySem.W.codeIn K cd33 "_law_drawn_rows" = true) (k33 : PySem.W.keepIn K (.ref A33) = true)
    (a34 : PySem.W.nsIn K mainGlobals "_law_small_right" = some (some (.ref A34))) (l34 : K.lookup A34 = some ⟨oc34, od34, .func (PySem.W.fnOf "_law_small_right" "_law_small_right" (defArgs (top 34)) (defBody (top 34)) (defScope (top 34)) .none kV34 dc34 pm34 an34 cd34 ct34), sl34⟩) (c34 : PySem.W.codeIn K cd34 "_law_small_right" = true) (k34 : PySem.W.keepIn K (.ref A34) = true)
    (a35 : PySem.W.nsIn K mainGlobals "_law_wide_right" = some (some (.ref A35))) (l35 : K.lookup A35 = some ⟨oc35, od35, .func (PySem.W.fnOf "_law_wide_right" "_law_wide_right" (defArgs (top 35)) (defBody (top 35)) (defScope (top 35)) .none kV35 dc35 pm35 an35 cd35 ct35), sl35⟩) (c35 : PySem.W.codeIn K cd35 "_law_wide_right" = true) (k35 : PySem.W.keepIn K (.ref A35) = true)
    (a36 : PySem.W.nsIn K mainGlobals "_law_deep_thing" = some (some (.ref A36))) (l36 : K.lookup A36 = some ⟨oc36, od36, .func (PySem.W.fnOf "_law_deep_thing" "_law_deep_thing" (defArgs (top 36)) (defBody (top 36)) (defScope (top 36)) .none kV36 dc36 pm36 an36 cd36 ct36), sl36⟩) (c36 : PySem.W.codeIn K cd36 "_law_deep_thing" = true) (k36 : PySem.W.keepIn K (.ref A36) = true)
    (a37 : PySem.W.nsIn K mainGlobals "_law_doors_right" = some (some (.ref A37))) (l37 : K.lookup A37 = some ⟨oc37, od37, .func (PySem.W.fnOf "_law_doors_right" "_law_doors_right" (defArgs (top 37)) (defBody (top 37)) (defScope (top 37)) .none kV37 dc37 pm37 an37 (.ref Kd37) ct37), sl37⟩) (c37 : PySem.W.codeIn K (.ref Kd37) "_law_doors_right" = true) (k37 : PySem.W.keepIn K (.ref A37) = true)
    (jo37 : K.lookup Kd37 = some ⟨.type "code", oe37, .fields vs37, se37⟩) (jt37 : (vs37[11]? : Option Value) = some (.ref Pt37)) (ju37 : PySem.W.codeHdIn K Kd37 Pt37 = true) (jv37 : K.lookup Pt37 = none) (jh37 : h.get? Pt37 = some tab0)
    (a38 : PySem.W.nsIn K mainGlobals "law" = some (some (.ref A38))) (l38 : K.lookup A38 = some ⟨oc38, od38, .func (PySem.W.fnOf "law" "law" (defArgs (top 38)) (defBody (top 38)) (defScope (top 38)) .none kV38 dc38 pm38 an38 cd38 ct38), sl38⟩) (c38 : PySem.W.codeIn K cd38 "law" = true) (k38 : PySem.W.keepIn K (.ref A38) = true)
    (z_bool : PySem.W.nsIn K mainGlobals "bool" = some none)
    (z_enumerate : PySem.W.nsIn K mainGlobals "enumerate" = some none)
    (z_int : PySem.W.nsIn K mainGlobals "int" = some none)
    (z_isinstance : PySem.W.nsIn K mainGlobals "isinstance" = some none)
    (z_len : PySem.W.nsIn K mainGlobals "len" = some none)
    (z_list : PySem.W.nsIn K mainGlobals "list" = some none)
    (z_max : PySem.W.nsIn K mainGlobals "max" = some none)
    (z_min : PySem.W.nsIn K mainGlobals "min" = some none)
    (z_range : PySem.W.nsIn K mainGlobals "range" = some none)
    (z_repr : PySem.W.nsIn K mainGlobals "repr" = some none)
    (z_sorted : PySem.W.nsIn K mainGlobals "sorted" = some none)
    (z_tuple : PySem.W.nsIn K mainGlobals "tuple" = some none)
    (z_BOTH_MARKS : PySem.W.nsIn K mainGlobals "BOTH_MARKS" = some (some (.int 3 t_BOTH_MARKS)))
    (z_MARKS : PySem.W.nsIn K mainGlobals "MARKS" = some (some (.ref S_MARKS))) (y_MARKS : K.lookup S_MARKS = some ⟨.type "dict", none, .dict #[⟨hashInt  0, .int  0 t0_MARKS, .int  0 u0_MARKS⟩, ⟨hashInt  1, .int  1 t1_MARKS, .int  1 u1_MARKS⟩, ⟨hashInt  (-1), .int  (-1) t2_MARKS, .int  2 u2_MARKS⟩] nn_MARKS, #[]⟩)
    (z_MOST_MEMBERS : PySem.W.nsIn K mainGlobals "MOST_MEMBERS" = some (some (.int 6 t_MOST_MEMBERS)))
    (z_MOST_ROWS : PySem.W.nsIn K mainGlobals "MOST_ROWS" = some (some (.int 14 t_MOST_ROWS)))
    (z_SIGNS : PySem.W.nsIn K mainGlobals "SIGNS" = some (some (.ref S_SIGNS))) (y_SIGNS : K.lookup S_SIGNS = some ⟨.type "tuple", od_SIGNS, .seq #[.int  (-1) t0_SIGNS, .int  0 t1_SIGNS, .int  1 t2_SIGNS] nn_SIGNS, sl_SIGNS⟩)
    (tI : PySem.W.typeIn K (.ref fI) = some (.type "function")) (lI : K.lookup fI = some ⟨ocI, odI, .func (PySem.W.fnOf "__init__" "Refused.__init__" (PySem.RolX.iA ⟨4, 17, 4, 21⟩ ⟨4, 23, 4, 27⟩) (PySem.RolX.iB ⟨5, 8, 5, 12⟩ ⟨5, 8, 5, 17⟩ ⟨5, 20, 5, 24⟩ ⟨5, 8, 5, 24⟩ ⟨6, 8, 6, 12⟩ ⟨6, 8, 6, 17⟩ ⟨6, 20, 6, 24⟩ ⟨6, 20, 6, 34⟩ ⟨6, 20, 6, 43⟩ ⟨6, 8, 6, 43⟩) PySem.RolX.iS .none .none dcI pmI anI cdI ctI), slI⟩) (cI : PySem.W.codeIn K cdI "Refused.__init__" = true)
    (xN : PySem.W.specialIn K (.builtin "object.__class__") "__get__" = some (some (.builtin "getset_descriptor.__get__"))) (xTk : PySem.W.takesIn K (.builtin "object.__class__") = some true)
    (xA_BadMany : PySem.W.nsIn K mainGlobals "BadMany" = some (some (.ref C_BadMany))) (xL_BadMany : K.lookup C_BadMany = some (excClassObj nm_BadMany q_BadMany C_BadMany N_BadMany bs_BadMany [.ref C_Refused, .type "ValueError", .type "Exception", .type "BaseException", .type "object"] true sn_BadMany sub_BadMany ab_BadMany col_BadMany dd_BadMany m0_BadMany m1_BadMany (some (.str "BadMany" tn_BadMany)) m3_BadMany m5_BadMany "ValueError.__new__"))
    (xS_BadMany : PySem.W.findIn K (.ref C_BadMany) "__setattr__" = some (some (.builtin "object.__setattr__"))) (xG_BadMany : PySem.W.findIn K (.ref C_BadMany) "__getattribute__" = some (some (.builtin "BaseException.__getattribute__"))) (xg_BadMany : PySem.W.findIn K (.ref C_BadMany) "__getattr__" = some none) (xn_BadMany : PySem.W.findIn K (.ref C_BadMany) "what" = some none) (xi_BadMany : PySem.W.findIn K (.ref C_BadMany) "__init__" = some (some (.ref fI)))
    (xk_BadMany : PySem.W.keepIn K (.ref C_BadMany) = true) (xe_BadMany : PySem.W.subIn K (.ref C_BadMany) (.type "BaseException") = some true) (xt_BadMany : PySem.W.typeIn K (.ref C_BadMany) = some (.type "type")) (xh_BadMany : PySem.W.hasDictIn K C_BadMany = true) (xc_BadMany : PySem.W.isClsIn K C_BadMany = true) (xs_BadMany : PySem.W.subIn K (.ref C_BadMany) (.ref C_BadMany) = some true)
    (xK_BadMany : PySem.W.findIn K (.ref C_BadMany) "kind" = some none) (xr_BadMany : PySem.W.readsIn K C_BadMany (.type "type") = true) (xf_BadMany : PySem.W.findCls K (.ref C_BadMany) (.type "type") "__name__" = some (.get (.builtin "getset_descriptor.__get__") (.builtin "type.__name__") (.ref C_BadMany) (.type "type"))) (xw_BadMany : PySem.W.findIn K (.ref C_BadMany) "__class__" = some (some (.builtin "object.__class__"))) (xm_BadMany : PySem.W.mroIn K C_BadMany (.type "object") = some true)
    (xA_BadRow : PySem.W.nsIn K mainGlobals "BadRow" = some (some (.ref C_BadRow))) (xL_BadRow : K.lookup C_BadRow = some (excClassObj nm_BadRow q_BadRow C_BadRow N_BadRow bs_BadRow [.ref C_Refused, .type "ValueError", .type "Exception", .type "BaseException", .type "object"] true sn_BadRow sub_BadRow ab_BadRow col_BadRow dd_BadRow m0_BadRow m1_BadRow (some (.str "BadRow" tn_BadRow)) m3_BadRow m5_BadRow "ValueError.__new__"))
    (xS_BadRow : PySem.W.findIn K (.ref C_BadRow) "__setattr__" = some (some (.builtin "object.__setattr__"))) (xG_BadRow : PySem.W.findIn K (.ref C_BadRow) "__getattribute__" = some (some (.builtin "BaseException.__getattribute__"))) (xg_BadRow : PySem.W.findIn K (.ref C_BadRow) "__getattr__" = some none) (xn_BadRow : PySem.W.findIn K (.ref C_BadRow) "what" = some none) (xi_BadRow : PySem.W.findIn K (.ref C_BadRow) "__init__" = some (some (.ref fI)))
    (xk_BadRow : PySem.W.keepIn K (.ref C_BadRow) = true) (xe_BadRow : PySem.W.subIn K (.ref C_BadRow) (.type "BaseException") = some true) (xt_BadRow : PySem.W.typeIn K (.ref C_BadRow) = some (.type "type")) (xh_BadRow : PySem.W.hasDictIn K C_BadRow = true) (xc_BadRow : PySem.W.isClsIn K C_BadRow = true) (xs_BadRow : PySem.W.subIn K (.ref C_BadRow) (.ref C_BadRow) = some true)
    (xK_BadRow : PySem.W.findIn K (.ref C_BadRow) "kind" = some none) (xr_BadRow : PySem.W.readsIn K C_BadRow (.type "type") = true) (xf_BadRow : PySem.W.findCls K (.ref C_BadRow) (.type "type") "__name__" = some (.get (.builtin "getset_descriptor.__get__") (.builtin "type.__name__") (.ref C_BadRow) (.type "type"))) (xw_BadRow : PySem.W.findIn K (.ref C_BadRow) "__class__" = some (some (.builtin "object.__class__"))) (xm_BadRow : PySem.W.mroIn K C_BadRow (.type "object") = some true)
    (xA_BadRows : PySem.W.nsIn K mainGlobals "BadRows" = some (some (.ref C_BadRows))) (xL_BadRows : K.lookup C_BadRows = some (excClassObj nm_BadRows q_BadRows C_BadRows N_BadRows bs_BadRows [.ref C_Refused, .type "ValueError", .type "Exception", .type "BaseException", .type "object"] true sn_BadRows sub_BadRows ab_BadRows col_BadRows dd_BadRows m0_BadRows m1_BadRows (some (.str "BadRows" tn_BadRows)) m3_BadRows m5_BadRows "ValueError.__new__"))
    (xS_BadRows : PySem.W.findIn K (.ref C_BadRows) "__setattr__" = some (some (.builtin "object.__setattr__"))) (xG_BadRows : PySem.W.findIn K (.ref C_BadRows) "__getattribute__" = some (some (.builtin "BaseException.__getattribute__"))) (xg_BadRows : PySem.W.findIn K (.ref C_BadRows) "__getattr__" = some none) (xn_BadRows : PySem.W.findIn K (.ref C_BadRows) "what" = some none) (xi_BadRows : PySem.W.findIn K (.ref C_BadRows) "__init__" = some (some (.ref fI)))
    (xk_BadRows : PySem.W.keepIn K (.ref C_BadRows) = true) (xe_BadRows : PySem.W.subIn K (.ref C_BadRows) (.type "BaseException") = some true) (xt_BadRows : PySem.W.typeIn K (.ref C_BadRows) = some (.type "type")) (xh_BadRows : PySem.W.hasDictIn K C_BadRows = true) (xc_BadRows : PySem.W.isClsIn K C_BadRows = true) (xs_BadRows : PySem.W.subIn K (.ref C_BadRows) (.ref C_BadRows) = some true)
    (xK_BadRows : PySem.W.findIn K (.ref C_BadRows) "kind" = some none) (xr_BadRows : PySem.W.readsIn K C_BadRows (.type "type") = true) (xf_BadRows : PySem.W.findCls K (.ref C_BadRows) (.type "type") "__name__" = some (.get (.builtin "getset_descriptor.__get__") (.builtin "type.__name__") (.ref C_BadRows) (.type "type"))) (xw_BadRows : PySem.W.findIn K (.ref C_BadRows) "__class__" = some (some (.builtin "object.__class__"))) (xm_BadRows : PySem.W.mroIn K C_BadRows (.type "object") = some true)
    (xA_Refused : PySem.W.nsIn K mainGlobals "Refused" = some (some (.ref C_Refused))) (xe_Refused : PySem.W.subIn K (.ref C_Refused) (.type "BaseException") = some true) (xt_Refused : PySem.W.typeIn K (.ref C_Refused) = some (.type "type")) (xh_Refused : PySem.W.hasDictIn K C_Refused = true)
    (xp_BadMany_BadMany : PySem.W.subIn K (.ref C_BadMany) (.ref C_BadMany) = some true)
    (xp_BadMany_BadRow : PySem.W.subIn K (.ref C_BadMany) (.ref C_BadRow) = some false)
    (xp_BadMany_BadRows : PySem.W.subIn K (.ref C_BadMany) (.ref C_BadRows) = some false)
    (xp_BadMany_Refused : PySem.W.subIn K (.ref C_BadMany) (.ref C_Refused) = some true)
    (xp_BadRow_BadMany : PySem.W.subIn K (.ref C_BadRow) (.ref C_BadMany) = some false)
    (xp_BadRow_BadRow : PySem.W.subIn K (.ref C_BadRow) (.ref C_BadRow) = some true)
    (xp_BadRow_BadRows : PySem.W.subIn K (.ref C_BadRow) (.ref C_BadRows) = some false)
    (xp_BadRow_Refused : PySem.W.subIn K (.ref C_BadRow) (.ref C_Refused) = some true)
    (xp_BadRows_BadMany : PySem.W.subIn K (.ref C_BadRows) (.ref C_BadMany) = some false)
    (xp_BadRows_BadRow : PySem.W.subIn K (.ref C_BadRows) (.ref C_BadRow) = some false)
    (xp_BadRows_BadRows : PySem.W.subIn K (.ref C_BadRows) (.ref C_BadRows) = some true)
    (xp_BadRows_Refused : PySem.W.subIn K (.ref C_BadRows) (.ref C_Refused) = some true)
    (jn : List.Nodup [Pt37]) :
    ∃ (fd : FuncData) (cm : CM) (cs : List (Addr × Addr)), Tabs0 K h cs ∧ (∀ p ∈ cm.T.l, ∃ c, (c, p.1) ∈ cs) ∧ (∀ (s : Shared) (u : Value), BindsTo s fd ⟨[u], []⟩ [("script", u)]) ∧ ∀ base : Heap, K.In base → base.Ns mainGlobals mg → (∀ p ∈ cs, LamX.TabB base mg p.1 p.2) → FnG l.prog w K mg base 9 fa fd ["script"] (spD K cm 1 d_law) := by
  have e := hfa.symm.trans (PySem.W.mg_of X G a38)
  cases e
  have F9 := fun_mk (st := top 9) l9 c9 k9
  have b9 := F9.binds (ps := ["thing"]) fun _ _ _ _ _ _ us hl => match us, hl with | [_], _ => rfl
  have F10 := fun_mk (st := top 10) l10 c10 k10
  have b10 := F10.binds (ps := ["n"]) fun _ _ _ _ _ _ us hl => match us, hl with | [_], _ => rfl
  have F11 := fun_mk (st := top 11) l11 c11 k11
  have b11 := F11.binds (ps := ["n"]) fun _ _ _ _ _ _ us hl => match us, hl with | [_], _ => rfl
  have F12 := fun_mk (st := top 12) l12 c12 k12
  have b12 := F12.binds (ps := ["n", "thing"]) fun _ _ _ _ _ _ us hl => match us, hl with | [_, _], _ => rfl
  have F13 := fun_mk (st := top 13) l13 c13 k13
  have b13 := F13.binds (ps := ["n", "thing"]) fun _ _ _ _ _ _ us hl => match us, hl with | [_, _], _ => rfl
  have F14 := fun_mk (st := top 14) l14 c14 k14
  have b14 := F14.binds (ps := ["n", "thing"]) fun _ _ _ _ _ _ us hl => match us, hl with | [_, _], _ => rfl
  have F18 := fun_mk (st := top 18) l18 c18 k18
  have b18 := F18.binds (ps := ["row"]) fun _ _ _ _ _ _ us hl => match us, hl with | [_], _ => rfl
  have F19 := fun_mk (st := top 19) l19 c19 k19
  have b19 := F19.binds (ps := ["marks", "row"]) fun _ _ _ _ _ _ us hl => match us, hl with | [_, _], _ => rfl
  have F20 := fun_mk (st := top 20) l20 c20 k20
  have b20 := F20.binds (ps := ["n", "rows", "row"]) fun _ _ _ _ _ _ us hl => match us, hl with | [_, _, _], _ => rfl
  have F22 := fun_mk (st := top 22) l22 c22 k22
  have b22 := F22.binds (ps := ["script", "k"]) fun _ _ _ _ _ _ us hl => match us, hl with | [_, _], _ => rfl
  have F23 := fun_mk (st := top 23) l23 c23 k23
  have b23 := F23.binds (ps := ["jar", "top"]) fun _ _ _ _ _ _ us hl => match us, hl with | [_, _], _ => rfl
  have F24 := fun_mk (st := top 24) l24 c24 k24
  have b24 := F24.binds (ps := ["jar", "things"]) fun _ _ _ _ _ _ us hl => match us, hl with | [_, _], _ => rfl
  have F25 := fun_mk (st := top 25) l25 c25 k25
  have b25 := F25.binds (ps := ["jar", "things"]) fun _ _ _ _ _ _ us hl => match us, hl with | [_, _], _ => rfl
  have F26 := fun_mk (st := top 26) l26 c26 k26
  have b26 := F26.binds (ps := ["n"]) fun _ _ _ _ _ _ us hl => match us, hl with | [_], _ => rfl
  have F27 := fun_mk (st := top 27) l27 c27 k27
  have b27 := F27.binds (ps := ["one", "two"]) fun _ _ _ _ _ _ us hl => match us, hl with | [_, _], _ => rfl
  have F28 := fun_mk (st := top 28) l28 c28 k28
  have b28 := F28.binds (ps := ["jar", "n"]) fun _ _ _ _ _ _ us hl => match us, hl with | [_, _], _ => rfl
  have F29 := fun_mk (st := top 29) l29 c29 k29
  have b29 := F29.binds (ps := ["jar", "row", "line"]) fun _ _ _ _ _ _ us hl => match us, hl with | [_, _, _], _ => rfl
  have F30 := fun_mk (st := top 30) l30 c30 k30
  have b30 := F30.binds (ps := ["rows", "row"]) fun _ _ _ _ _ _ us hl => match us, hl with | [_, _], _ => rfl
  have F31 := fun_mk (st := top 31) l31 c31 k31
  have b31 := F31.binds (ps := ["call"]) fun _ _ _ _ _ _ us hl => match us, hl with | [_], _ => rfl
  have F32 := fun_mk (st := top 32) l32 c32 k32
  have b32 := F32.binds (ps := ["rows"]) fun _ _ _ _ _ _ us hl => match us, hl with | [_], _ => rfl
  have F33 := fun_mk (st := top 33) l33 c33 k33
  have b33 := F33.binds (ps := ["jar", "n", "most"]) fun _ _ _ _ _ _ us hl => match us, hl with | [_, _, _], _ => rfl
  have F34 := fun_mk (st := top 34) l34 c34 k34
  have b34 := F34.binds (ps := ["jar", "n"]) fun _ _ _ _ _ _ us hl => match us, hl with | [_, _], _ => rfl
  have F35 := fun_mk (st := top 35) l35 c35 k35
  have b35 := F35.binds (ps := ["jar", "n"]) fun _ _ _ _ _ _ us hl => match us, hl with | [_, _], _ => rfl
  have F36 := fun_mk (st := top 36) l36 c36 k36
  have b36 := F36.binds (ps := ["jar"]) fun _ _ _ _ _ _ us hl => match us, hl with | [_], _ => rfl
  have F37 := fun_mk (st := top 37) l37 c37 k37
  have b37 := F37.binds (ps := ["jar", "n"]) fun _ _ _ _ _ _ us hl => match us, hl with | [_, _], _ => rfl
  have F38 := fun_mk (st := top 38) l38 c38 k38
  have b38 := F38.binds (ps := ["script"]) fun _ _ _ _ _ _ us hl => match us, hl with | [_], _ => rfl
  have T : Tx K mg (adOf A9 A10 A11 A12 A13 A14 A18 A19 A20 A22 A23 A24 A25 A26 A27 A28 A29 A30 A31 A32 A33 A34 A35 A36 A37 fa) (fdOf (PySem.W.fnOf "is_number" "is_number" (defArgs (top 9)) (defBody (top 9)) (defScope (top 9)) .none kV9 dc9 pm9 an9 cd9 ct9) (PySem.W.fnOf "is_many" "is_many" (defArgs (top 10)) (defBody (top 10)) (defScope (top 10)) .none kV10 dc10 pm10 an10 cd10 ct10) (PySem.W.fnOf "ask_many" "ask_many" (defArgs (top 11)) (defBody (top 11)) (defScope (top 11)) .none kV11 dc11 pm11 an11 cd11 ct11) (PySem.W.fnOf "row_fault" "row_fault" (defArgs (top 12)) (defBody (top 12)) (defScope (top 12)) .none kV12 dc12 pm12 an12 cd12 ct12) (PySem.W.fnOf "made_row" "made_row" (defArgs (top 13)) (defBody (top 13)) (defScope (top 13)) .none kV13 dc13 pm13 an13 cd13 ct13) (PySem.W.fnOf "made_rows" "made_rows" (defArgs (top 14)) (defBody (top 14)) (defScope (top 14)) .none kV14 dc14 pm14 an14 cd14 ct14) (PySem.W.fnOf "marks_of" "marks_of" (defArgs (top 18)) (defBody (top 18)) (defScope (top 18)) .none kV18 dc18 pm18 an18 cd18 ct18) (PySem.W.fnOf "marks_lead" "marks_lead" (defArgs (top 19)) (defBody (top 19)) (defScope (top 19)) .none kV19 dc19 pm19 an19 cd19 ct19) (PySem.W.fnOf "leads" "leads" (defArgs (top 20)) (defBody (top 20)) (defScope (top 20)) .none kV20 dc20 pm20 an20 cd20 ct20) (PySem.W.fnOf "_law_pool" "_law_pool" (defArgs (top 22)) (defBody (top 22)) (defScope (top 22)) .none kV22 dc22 pm22 an22 cd22 ct22) (PySem.W.fnOf "_law_take" "_law_take" (defArgs (top 23)) (defBody (top 23)) (defScope (top 23)) .none kV23 dc23 pm23 an23 cd23 ct23) (PySem.W.fnOf "_law_one" "_law_one" (defArgs (top 24)) (defBody (top 24)) (defScope (top 24)) .none kV24 dc24 pm24 an24 cd24 ct24) (PySem.W.fnOf "_law_mixed" "_law_mixed" (defArgs (top 25)) (defBody (top 25)) (defScope (top 25)) .none kV25 dc25 pm25 an25 cd25 ct25) (PySem.W.fnOf "_law_level" "_law_level" (defArgs (top 26)) (defBody (top 26)) (defScope (top 26)) .none kV26 dc26 pm26 an26 cd26 ct26) (PySem.W.fnOf "_law_sums_of" "_law_sums_of" (defArgs (top 27)) (defBody (top 27)) (defScope (top 27)) .none kV27 dc27 pm27 an27 cd27 ct27) (PySem.W.fnOf "_law_any_row" "_law_any_row" (defArgs (top 28)) (defBody (top 28)) (defScope (top 28)) .none kV28 dc28 pm28 an28 cd28 ct28) (PySem.W.fnOf "_law_line_row" "_law_line_row" (defArgs (top 29)) (defBody (top 29)) (defScope (top 29)) .none kV29 dc29 pm29 an29 cd29 ct29) (PySem.W.fnOf "_law_leads" "_law_leads" (defArgs (top 30)) (defBody (top 30)) (defScope (top 30)) .none kV30 dc30 pm30 an30 cd30 ct30) (PySem.W.fnOf "_law_heard" "_law_heard" (defArgs (top 31)) (defBody (top 31)) (defScope (top 31)) .none kV31 dc31 pm31 an31 cd31 ct31) (PySem.W.fnOf "_law_all_sums" "_law_all_sums" (defArgs (top 32)) (defBody (top 32)) (defScope (top 32)) .none kV32 dc32 pm32 an32 cd32 ct32) (PySem.W.fnOf "_law_drawn_rows" "_law_drawn_rows" (defArgs (top 33)) (defBody (top 33)) (defScope (top 33)) .none kV33 dc33 pm33 an33 cd33 ct33) (PySem.W.fnOf "_law_small_right" "_law_small_right" (defArgs (top 34)) (defBody (top 34)) (defScope (top 34)) .none kV34 dc34 pm34 an34 cd34 ct34) (PySem.W.fnOf "_law_wide_right" "_law_wide_right" (defArgs (top 35)) (defBody (top 35)) (defScope (top 35)) .none kV35 dc35 pm35 an35 cd35 ct35) (PySem.W.fnOf "_law_deep_thing" "_law_deep_thing" (defArgs (top 36)) (defBody (top 36)) (defScope (top 36)) .none kV36 dc36 pm36 an36 cd36 ct36) (PySem.W.fnOf "_law_doors_right" "_law_doors_right" (defArgs (top 37)) (defBody (top 37)) (defScope (top 37)) .none kV37 dc37 pm37 an37 (.ref Kd37) ct37) (PySem.W.fnOf "law" "law" (defArgs (top 38)) (defBody (top 38)) (defScope (top 38)) .none kV38 dc38 pm38 an38 cd38 ct38)) := ⟨PySem.W.mg_of X G a9,
    F9,
    b9,
    PySem.W.mg_of X G a10,
    F10,
    b10,
    PySem.W.mg_of X G a11,
    F11,
    b11,
    PySem.W.mg_of X G a12,
    F12,
    b12,
    PySem.W.mg_of X G a13,
    F13,
    b13,
    PySem.W.mg_of X G a14,
    F14,
    b14,
    PySem.W.mg_of X G a18,
    F18,
    b18,
    PySem.W.mg_of X G a19,
    F19,
    b19,
    PySem.W.mg_of X G a20,
    F20,
    b20,
    PySem.W.mg_of X G a22,
    F22,
    b22,
    PySem.W.mg_of X G a23,
    F23,
    b23,
    PySem.W.mg_of X G a24,
    F24,
    b24,
    PySem.W.mg_of X G a25,
    F25,
    b25,
    PySem.W.mg_of X G a26,
    F26,
    b26,
    PySem.W.mg_of X G a27,
    F27,
    b27,
    PySem.W.mg_of X G a28,
    F28,
    b28,
    PySem.W.mg_of X G a29,
    F29,
    b29,
    PySem.W.mg_of X G a30,
    F30,
    b30,
    PySem.W.mg_of X G a31,
    F31,
    b31,
    PySem.W.mg_of X G a32,
    F32,
    b32,
    PySem.W.mg_of X G a33,
    F33,
    b33,
    PySem.W.mg_of X G a34,
    F34,
    b34,
    PySem.W.mg_of X G a35,
    F35,
    b35,
    PySem.W.mg_of X G a36,
    F36,
    b36,
    PySem.W.mg_of X G a37,
    F37,
    b37,
    PySem.W.mg_of X G a38,
    F38,
    b38,
    (fun ws hl => match ws, hl with | [_, _, _], _ => rfl),
    (fun ws hl => match ws, hl with | [_, _, _], _ => rfl),
    PySem.W.mg_none_of X G z_bool,
    PySem.W.mg_none_of X G z_enumerate,
    PySem.W.mg_none_of X G z_int,
    PySem.W.mg_none_of X G z_isinstance,
    PySem.W.mg_none_of X G z_len,
    PySem.W.mg_none_of X G z_list,
    PySem.W.mg_none_of X G z_max,
    PySem.W.mg_none_of X G z_min,
    PySem.W.mg_none_of X G z_range,
    PySem.W.mg_none_of X G z_repr,
    PySem.W.mg_none_of X G z_sorted,
    PySem.W.mg_none_of X G z_tuple,
    ⟨_, PySem.W.mg_of X G z_BOTH_MARKS⟩,
    ⟨S_MARKS, PySem.W.mg_of X G z_MARKS, [(.inl  0, .int  0), (.inl  1, .int  1), (.inl  (-1), .int  2)], wd_of (es := [⟨hashInt  0, .int  0 t0_MARKS, .int  0 u0_MARKS⟩, ⟨hashInt  1, .int  1 t1_MARKS, .int  1 u1_MARKS⟩, ⟨hashInt  (-1), .int  (-1) t2_MARKS, .int  2 u2_MARKS⟩]) y_MARKS rfl (.cons ⟨_, rfl⟩ (.cons ⟨_, rfl⟩ (.cons ⟨_, rfl⟩ .nil))) (by decide), fun φ H => (.cons (.int _) (.cons (.int _) (.cons (.int _) .nil)))⟩,
    ⟨_, PySem.W.mg_of X G z_MOST_MEMBERS⟩,
    ⟨_, PySem.W.mg_of X G z_MOST_ROWS⟩,
    ⟨S_SIGNS, PySem.W.mg_of X G z_SIGNS, fun φ H => .tup (vs := [V.int  (-1), V.int  0, V.int  1]) (.inr ⟨_, _, _, y_SIGNS, rfl, rfl, (by show 3 ≤ sizeLine; decide), (.cons ⟨_, rfl⟩ (.cons ⟨_, rfl⟩ (.cons ⟨_, rfl⟩ .nil)))⟩) (.cons (.int _) (.cons (.int _) (.cons (.int _) .nil)))⟩⟩
  have low_BadMany : PySem.RolX.LowTxt "BadMany" K mg C_BadMany fI := { gC := PySem.W.mg_of X G xA_BadMany, cls := ⟨nm_BadMany, q_BadMany, N_BadMany, bs_BadMany, _, sn_BadMany, sub_BadMany, ab_BadMany, col_BadMany, dd_BadMany, m0_BadMany, m1_BadMany, tn_BadMany, m3_BadMany, m5_BadMany, xL_BadMany, rfl⟩, sa := xS_BadMany, ga := xG_BadMany, gg := xg_BadMany, noN := xn_BadMany, iC := xi_BadMany, tC := tI, kC := xk_BadMany, exC := xe_BadMany, tyC := xt_BadMany, hdC := xh_BadMany, te := Rol.exm_self xe_BadMany xc_BadMany xt_BadMany xs_BadMany, noK := xK_BadMany, rdC := xr_BadMany, fcN := xf_BadMany, haC := xw_BadMany, hnC := xN, htC := xTk, hmC := xm_BadMany, fn := ⟨_, _, _, _, _, _, _, _, _, _, _, _, _, _, _, _, _, _, _, _, lI, cI⟩ }
  have low_BadRow : PySem.RolX.LowTxt "BadRow" K mg C_BadRow fI := { gC := PySem.W.mg_of X G xA_BadRow, cls := ⟨nm_BadRow, q_BadRow, N_BadRow, bs_BadRow, _, sn_BadRow, sub_BadRow, ab_BadRow, col_BadRow, dd_BadRow, m0_BadRow, m1_BadRow, tn_BadRow, m3_BadRow, m5_BadRow, xL_BadRow, rfl⟩, sa := xS_BadRow, ga := xG_BadRow, gg := xg_BadRow, noN := xn_BadRow, iC := xi_BadRow, tC := tI, kC := xk_BadRow, exC := xe_BadRow, tyC := xt_BadRow, hdC := xh_BadRow, te := Rol.exm_self xe_BadRow xc_BadRow xt_BadRow xs_BadRow, noK := xK_BadRow, rdC := xr_BadRow, fcN := xf_BadRow, haC := xw_BadRow, hnC := xN, htC := xTk, hmC := xm_BadRow, fn := ⟨_, _, _, _, _, _, _, _, _, _, _, _, _, _, _, _, _, _, _, _, lI, cI⟩ }
  have low_BadRows : PySem.RolX.LowTxt "BadRows" K mg C_BadRows fI := { gC := PySem.W.mg_of X G xA_BadRows, cls := ⟨nm_BadRows, q_BadRows, N_BadRows, bs_BadRows, _, sn_BadRows, sub_BadRows, ab_BadRows, col_BadRows, dd_BadRows, m0_BadRows, m1_BadRows, tn_BadRows, m3_BadRows, m5_BadRows, xL_BadRows, rfl⟩, sa := xS_BadRows, ga := xG_BadRows, gg := xg_BadRows, noN := xn_BadRows, iC := xi_BadRows, tC := tI, kC := xk_BadRows, exC := xe_BadRows, tyC := xt_BadRows, hdC := xh_BadRows, te := Rol.exm_self xe_BadRows xc_BadRows xt_BadRows xs_BadRows, noK := xK_BadRows, rdC := xr_BadRows, fcN := xf_BadRows, haC := xw_BadRows, hnC := xN, htC := xTk, hmC := xm_BadRows, fn := ⟨_, _, _, _, _, _, _, _, _, _, _, _, _, _, _, _, _, _, _, _, lI, cI⟩ }
  have cm_BadMany : cmOf l.prog w Pt37 C_BadMany C_BadRow C_BadRows C_Refused "BadMany" = C_BadMany := by unfold cmOf; dsimp only; repeat (first | rw [if_pos rfl] | rw [if_neg (by decide +kernel)])
  have cm_BadRow : cmOf l.prog w Pt37 C_BadMany C_BadRow C_BadRows C_Refused "BadRow" = C_BadRow := by unfold cmOf; dsimp only; repeat (first | rw [if_pos rfl] | rw [if_neg (by decide +kernel)])
  have cm_BadRows : cmOf l.prog w Pt37 C_BadMany C_BadRow C_BadRows C_Refused "BadRows" = C_BadRows := by unfold cmOf; dsimp only; repeat (first | rw [if_pos rfl] | rw [if_neg (by decide +kernel)])
  have cm_Refused : cmOf l.prog w Pt37 C_BadMany C_BadRow C_BadRows C_Refused "Refused" = C_Refused := by unfold cmOf; dsimp only; repeat (first | rw [if_pos rfl] | rw [if_neg (by decide +kernel)])
  have em_ : ∀ c x b, emx c x = some b → PySem.W.exmOne K (.ref (cmOf l.prog w Pt37 C_BadMany C_BadRow C_BadRows C_Refused c)) (.ref (cmOf l.prog w Pt37 C_BadMany C_BadRow C_BadRows C_Refused x)) = some b := by
    intro c x b h
    unfold emx at h
    by_cases ha0 : c = "BadMany"
    · subst ha0
      rw [if_pos rfl] at h
      by_cases hb0 : x = "BadMany"
      · subst hb0
        rw [if_pos rfl] at h
        cases h
        simp only [cm_BadMany, cm_BadMany]
        exact PySem.W.exm_ref xe_BadMany xh_BadMany xt_BadMany xp_BadMany_BadMany
      rw [if_neg hb0] at h
      by_cases hb1 : x = "BadRow"
      · subst hb1
        rw [if_pos rfl] at h
        cases h
        simp only [cm_BadMany, cm_BadRow]
        exact PySem.W.exm_ref xe_BadRow xh_BadRow xt_BadRow xp_BadMany_BadRow
      rw [if_neg hb1] at h
      by_cases hb2 : x = "BadRows"
      · subst hb2
        rw [if_pos rfl] at h
        cases h
        simp only [cm_BadMany, cm_BadRows]
        exact PySem.W.exm_ref xe_BadRows xh_BadRows xt_BadRows xp_BadMany_BadRows
      rw [if_neg hb2] at h
      by_cases hb3 : x = "Refused"
      · subst hb3
        rw [if_pos rfl] at h
        cases h
        simp only [cm_BadMany, cm_Refused]
        exact PySem.W.exm_ref xe_Refused xh_Refused xt_Refused xp_BadMany_Refused
      rw [if_neg hb3] at h
      cases h
    rw [if_neg ha0] at h
    by_cases ha1 : c = "BadRow"
    · subst ha1
      rw [if_pos rfl] at h
      by_cases hb0 : x = "BadMany"
      · subst hb0
        rw [if_pos rfl] at h
        cases h
        simp only [cm_BadRow, cm_BadMany]
        exact PySem.W.exm_ref xe_BadMany xh_BadMany xt_BadMany xp_BadRow_BadMany
      rw [if_neg hb0] at h
      by_cases hb1 : x = "BadRow"
      · subst hb1
        rw [if_pos rfl] at h
        cases h
        simp only [cm_BadRow, cm_BadRow]
        exact PySem.W.exm_ref xe_BadRow xh_BadRow xt_BadRow xp_BadRow_BadRow
      rw [if_neg hb1] at h
      by_cases hb2 : x = "BadRows"
      · subst hb2
        rw [if_pos rfl] at h
        cases h
        simp only [cm_BadRow, cm_BadRows]
        exact PySem.W.exm_ref xe_BadRows xh_BadRows xt_BadRows xp_BadRow_BadRows
      rw [if_neg hb2] at h
      by_cases hb3 : x = "Refused"
      · subst hb3
        rw [if_pos rfl] at h
        cases h
        simp only [cm_BadRow, cm_Refused]
        exact PySem.W.exm_ref xe_Refused xh_Refused xt_Refused xp_BadRow_Refused
      rw [if_neg hb3] at h
      cases h
    rw [if_neg ha1] at h
    by_cases ha2 : c = "BadRows"
    · subst ha2
      rw [if_pos rfl] at h
      by_cases hb0 : x = "BadMany"
      · subst hb0
        rw [if_pos rfl] at h
        cases h
        simp only [cm_BadRows, cm_BadMany]
        exact PySem.W.exm_ref xe_BadMany xh_BadMany xt_BadMany xp_BadRows_BadMany
      rw [if_neg hb0] at h
      by_cases hb1 : x = "BadRow"
      · subst hb1
        rw [if_pos rfl] at h
        cases h
        simp only [cm_BadRows, cm_BadRow]
        exact PySem.W.exm_ref xe_BadRow xh_BadRow xt_BadRow xp_BadRows_BadRow
      rw [if_neg hb1] at h
      by_cases hb2 : x = "BadRows"
      · subst hb2
        rw [if_pos rfl] at h
        cases h
        simp only [cm_BadRows, cm_BadRows]
        exact PySem.W.exm_ref xe_BadRows xh_BadRows xt_BadRows xp_BadRows_BadRows
      rw [if_neg hb2] at h
      by_cases hb3 : x = "Refused"
      · subst hb3
        rw [if_pos rfl] at h
        cases h
        simp only [cm_BadRows, cm_Refused]
        exact PySem.W.exm_ref xe_Refused xh_Refused xt_Refused xp_BadRows_Refused
      rw [if_neg hb3] at h
      cases h
    rw [if_neg ha2] at h
    cases h
  have et_ : ∀ c x, emx c x = some true → ∃ fI, PySem.RolX.LowTxt c K mg (cmOf l.prog w Pt37 C_BadMany C_BadRow C_BadRows C_Refused c) fI := by
    intro c x h
    unfold emx at h
    by_cases ha0 : c = "BadMany"
    · subst ha0
      exact ⟨fI, by rw [cm_BadMany]; exact low_BadMany⟩
    rw [if_neg ha0] at h
    by_cases ha1 : c = "BadRow"
    · subst ha1
      exact ⟨fI, by rw [cm_BadRow]; exact low_BadRow⟩
    rw [if_neg ha1] at h
    by_cases ha2 : c = "BadRows"
    · subst ha2
      exact ⟨fI, by rw [cm_BadRows]; exact low_BadRows⟩
    rw [if_neg ha2] at h
    cases h
  have Z : Ex l.prog w K mg (cmOf l.prog w Pt37 C_BadMany C_BadRow C_BadRows C_Refused) fI (fdOf (PySem.W.fnOf "is_number" "is_number" (defArgs (top 9)) (defBody (top 9)) (defScope (top 9)) .none kV9 dc9 pm9 an9 cd9 ct9) (PySem.W.fnOf "is_many" "is_many" (defArgs (top 10)) (defBody (top 10)) (defScope (top 10)) .none kV10 dc10 pm10 an10 cd10 ct10) (PySem.W.fnOf "ask_many" "ask_many" (defArgs (top 11)) (defBody (top 11)) (defScope (top 11)) .none kV11 dc11 pm11 an11 cd11 ct11) (PySem.W.fnOf "row_fault" "row_fault" (defArgs (top 12)) (defBody (top 12)) (defScope (top 12)) .none kV12 dc12 pm12 an12 cd12 ct12) (PySem.W.fnOf "made_row" "made_row" (defArgs (top 13)) (defBody (top 13)) (defScope (top 13)) .none kV13 dc13 pm13 an13 cd13 ct13) (PySem.W.fnOf "made_rows" "made_rows" (defArgs (top 14)) (defBody (top 14)) (defScope (top 14)) .none kV14 dc14 pm14 an14 cd14 ct14) (PySem.W.fnOf "marks_of" "marks_of" (defArgs (top 18)) (defBody (top 18)) (defScope (top 18)) .none kV18 dc18 pm18 an18 cd18 ct18) (PySem.W.fnOf "marks_lead" "marks_lead" (defArgs (top 19)) (defBody (top 19)) (defScope (top 19)) .none kV19 dc19 pm19 an19 cd19 ct19) (PySem.W.fnOf "leads" "leads" (defArgs (top 20)) (defBody (top 20)) (defScope (top 20)) .none kV20 dc20 pm20 an20 cd20 ct20) (PySem.W.fnOf "_law_pool" "_law_pool" (defArgs (top 22)) (defBody (top 22)) (defScope (top 22)) .none kV22 dc22 pm22 an22 cd22 ct22) (PySem.W.fnOf "_law_take" "_law_take" (defArgs (top 23)) (defBody (top 23)) (defScope (top 23)) .none kV23 dc23 pm23 an23 cd23 ct23) (PySem.W.fnOf "_law_one" "_law_one" (defArgs (top 24)) (defBody (top 24)) (defScope (top 24)) .none kV24 dc24 pm24 an24 cd24 ct24) (PySem.W.fnOf "_law_mixed" "_law_mixed" (defArgs (top 25)) (defBody (top 25)) (defScope (top 25)) .none kV25 dc25 pm25 an25 cd25 ct25) (PySem.W.fnOf "_law_level" "_law_level" (defArgs (top 26)) (defBody (top 26)) (defScope (top 26)) .none kV26 dc26 pm26 an26 cd26 ct26) (PySem.W.fnOf "_law_sums_of" "_law_sums_of" (defArgs (top 27)) (defBody (top 27)) (defScope (top 27)) .none kV27 dc27 pm27 an27 cd27 ct27) (PySem.W.fnOf "_law_any_row" "_law_any_row" (defArgs (top 28)) (defBody (top 28)) (defScope (top 28)) .none kV28 dc28 pm28 an28 cd28 ct28) (PySem.W.fnOf "_law_line_row" "_law_line_row" (defArgs (top 29)) (defBody (top 29)) (defScope (top 29)) .none kV29 dc29 pm29 an29 cd29 ct29) (PySem.W.fnOf "_law_leads" "_law_leads" (defArgs (top 30)) (defBody (top 30)) (defScope (top 30)) .none kV30 dc30 pm30 an30 cd30 ct30) (PySem.W.fnOf "_law_heard" "_law_heard" (defArgs (top 31)) (defBody (top 31)) (defScope (top 31)) .none kV31 dc31 pm31 an31 cd31 ct31) (PySem.W.fnOf "_law_all_sums" "_law_all_sums" (defArgs (top 32)) (defBody (top 32)) (defScope (top 32)) .none kV32 dc32 pm32 an32 cd32 ct32) (PySem.W.fnOf "_law_drawn_rows" "_law_drawn_rows" (defArgs (top 33)) (defBody (top 33)) (defScope (top 33)) .none kV33 dc33 pm33 an33 cd33 ct33) (PySem.W.fnOf "_law_small_right" "_law_small_right" (defArgs (top 34)) (defBody (top 34)) (defScope (top 34)) .none kV34 dc34 pm34 an34 cd34 ct34) (PySem.W.fnOf "_law_wide_right" "_law_wide_right" (defArgs (top 35)) (defBody (top 35)) (defScope (top 35)) .none kV35 dc35 pm35 an35 cd35 ct35) (PySem.W.fnOf "_law_deep_thing" "_law_deep_thing" (defArgs (top 36)) (defBody (top 36)) (defScope (top 36)) .none kV36 dc36 pm36 an36 cd36 ct36) (PySem.W.fnOf "_law_doors_right" "_law_doors_right" (defArgs (top 37)) (defBody (top 37)) (defScope (top 37)) .none kV37 dc37 pm37 an37 (.ref Kd37) ct37) (PySem.W.fnOf "law" "law" (defArgs (top 38)) (defBody (top 38)) (defScope (top 38)) .none kV38 dc38 pm38 an38 cd38 ct38)) (cdOf Kd37) (tbOf Pt37) := ⟨trivial, rfl, rfl, rfl, (.head _), tab_one (l := [(Pt37, ("_law_doors_right" : Str) ++ ".<locals>." ++ "<lambda>")]) jn (.head _), (by rw [show cmOf l.prog w Pt37 C_BadMany C_BadRow C_BadRows C_Refused "BadMany" = C_BadMany from (by unfold cmOf; dsimp only; repeat (first | rw [if_pos rfl] | rw [if_neg (by decide +kernel)]))]; exact low_BadMany), (by rw [show cmOf l.prog w Pt37 C_BadMany C_BadRow C_BadRows C_Refused "BadRow" = C_BadRow from (by unfold cmOf; dsimp only; repeat (first | rw [if_pos rfl] | rw [if_neg (by decide +kernel)]))]; exact low_BadRow), (by rw [show cmOf l.prog w Pt37 C_BadMany C_BadRow C_BadRows C_Refused "BadRows" = C_BadRows from (by unfold cmOf; dsimp only; repeat (first | rw [if_pos rfl] | rw [if_neg (by decide +kernel)]))]; exact low_BadRows), em_, et_, (by rw [cm_BadMany]; exact PySem.W.mg_of X G xA_BadMany), (by rw [cm_BadRow]; exact PySem.W.mg_of X G xA_BadRow), (by rw [cm_BadRows]; exact PySem.W.mg_of X G xA_BadRows), (by rw [cm_Refused]; exact PySem.W.mg_of X G xA_Refused)⟩
  exact ⟨(PySem.W.fnOf "law" "law" (defArgs (top 38)) (defBody (top 38)) (defScope (top 38)) .none kV38 dc38 pm38 an38 cd38 ct38), (cmOf l.prog w Pt37 C_BadMany C_BadRow C_BadRows C_Refused), [(Kd37, Pt37)], (tabs0_cons X ju37 jv37 jh37 tabs0_nil), (List.forall_mem_cons.mpr ⟨⟨Kd37, by simp⟩, (fun _ z => nomatch z)⟩), fun s v => .of_eq rfl, fun base _ _ tB => ok_law T Z ⟨trivial, tB (Kd37, Pt37) (.head _)⟩⟩
end Rol.G
open PySem PySem.W PyProof.Rows in
set_option maxRecDepth 100000 in
set_option maxHeartbeats 0 in
theorem PySem.Challenge.cw_roundorlist_k07_rows_that_lead_to_a_row_holds : PySem.Challenge.rw_roundorlist_k07_rows_that_lead_to_a_row.Holds := by
  w_on; o_law; k_head; (case hw => w_witness2)
  k_fill
  refine Rol.walk_GT (l := PySem.Challenge.rw_roundorlist_k07_rows_that_lead_to_a_row) (n := 63) (k := 9) (x := "script") (m := Rol.G.d_law) rfl (by decide) rfl ⟨rfl, by decide, by decide⟩ (fun w h Y => PySem.W.km_in_of Y) ?F Rol.G.law_pure
  case F =>
    intro w mg fa h Y KX G hmg
    have hT8 := PySem.W.km_tabs_of Y
    refine' Rol.G.all_mk KX G hmg ?a9 ?l9 ?c9 ?k9 ?a10 ?l10 ?c10 ?k10 ?a11 ?l11 ?c11 ?k11 ?a12 ?l12 ?c12 ?k12 ?a13 ?l13 ?c13 ?k13 ?a14 ?l14 ?c14 ?k14 ?a18 ?l18 ?c18 ?k18 ?a19 ?l19 ?c19 ?k19 ?a20 ?l20 ?c20 ?k20 ?a22 ?l22 ?c22 ?k22 ?a23 ?l23 ?c23 ?k23 ?a24 ?l24 ?c24 ?k24 ?a25 ?l25 ?c25 ?k25 ?a26 ?l26 ?c26 ?k26 ?a27 ?l27 ?c27 ?k27 ?a28 ?l28 ?c28 ?k28 ?a29 ?l29 ?c29 ?k29 ?a30 ?l30 ?c30 ?k30 ?a31 ?l31 ?c31 ?k31 ?a32 ?l32 ?c32 ?k32 ?a33 ?l33 ?c33 ?k33 ?a34 ?l34 ?c34 ?k34 ?a35 ?l35 ?c35 ?k35 ?a36 ?l36 ?c36 ?k36 ?a37 ?l37 ?c37 ?k37 ?jo37 ?jt37 ?ju37 ?jv37 ?jh37 ?a38 ?l38 ?c38 ?k38 ?z_bool ?z_enumerate ?z_int ?z_isinstance ?z_len ?z_list ?z_max ?z_min ?z_range ?z_repr ?z_sorted ?z_tuple ?z_BOTH_MARKS ?z_MARKS ?y_MARKS ?z_MOST_MEMBERS ?z_MOST_ROWS ?z_SIGNS ?y_SIGNS ?tI ?lI ?cI ?xN ?xTk ?xA_BadMany ?xL_BadMany ?xS_BadMany ?xG_BadMany ?xg_BadMany ?xn_BadMany ?xi_BadMany ?xk_BadMany ?xe_BadMany ?xt_BadMany ?xh_BadMany ?xc_BadMany ?xs_BadMany ?xK_BadMany ?xr_BadMany ?xf_BadMany ?xw_BadMany ?xm_BadMany ?xA_BadRow ?xL_BadRow ?xS_BadRow ?xG_BadRow ?xg_BadRow ?xn_BadRow ?xi_BadRow ?xk_BadRow ?xe_BadRow ?xt_BadRow ?xh_BadRow ?xc_BadRow ?xs_BadRow ?xK_BadRow ?xr_BadRow ?xf_BadRow ?xw_BadRow ?xm_BadRow ?xA_BadRows ?xL_BadRows ?xS_BadRows ?xG_BadRows ?xg_BadRows ?xn_BadRows ?xi_BadRows ?xk_BadRows ?xe_BadRows ?xt_BadRows ?xh_BadRows ?xc_BadRows ?xs_BadRows ?xK_BadRows ?xr_BadRows ?xf_BadRows ?xw_BadRows ?xm_BadRows ?xA_Refused ?xe_Refused ?xt_Refused ?xh_Refused ?xp_BadMany_BadMany ?xp_BadMany_BadRow ?xp_BadMany_BadRows ?xp_BadMany_Refused ?xp_BadRow_BadMany ?xp_BadRow_BadRow ?xp_BadRow_BadRows ?xp_BadRow_Refused ?xp_BadRows_BadMany ?xp_BadRows_BadRow ?xp_BadRows_BadRows ?xp_BadRows_Refused ?jn
    (case a9 => k_is)
    (case l9 => k_is)
    (case c9 => k_is)
    (case k9 => k_is)
    (case a10 => k_is)
    (case l10 => k_is)
    (case c10 => k_is)
    (case k10 => k_is)
    (case a11 => k_is)
    (case l11 => k_is)
    (case c11 => k_is)
    (case k11 => k_is)
    (case a12 => k_is)
    (case l12 => k_is)
    (case c12 => k_is)
    (case k12 => k_is)
    (case a13 => k_is)
    (case l13 => k_is)
    (case c13 => k_is)
    (case k13 => k_is)
    (case a14 => k_is)
    (case l14 => k_is)
    (case c14 => k_is)
    (case k14 => k_is)
    (case a18 => k_is)
    (case l18 => k_is)
    (case c18 => k_is)
    (case k18 => k_is)
    (case a19 => k_is)
    (case l19 => k_is)
    (case c19 => k_is)
    (case k19 => k_is)
    (case a20 => k_is)
    (case l20 => k_is)
    (case c20 => k_is)
    (case k20 => k_is)
    (case a22 => k_is)
    (case l22 => k_is)
    (case c22 => k_is)
    (case k22 => k_is)
    (case a23 => k_is)
    (case l23 => k_is)
    (case c23 => k_is)
    (case k23 => k_is)
    (case a24 => k_is)
    (case l24 => k_is)
    (case c24 => k_is)
    (case k24 => k_is)
    (case a25 => k_is)
    (case l25 => k_is)
    (case c25 => k_is)
    (case k25 => k_is)
    (case a26 => k_is)
    (case l26 => k_is)
    (case c26 => k_is)
    (case k26 => k_is)
    (case a27 => k_is)
    (case l27 => k_is)
    (case c27 => k_is)
    (case k27 => k_is)
    (case a28 => k_is)
    (case l28 => k_is)
    (case c28 => k_is)
    (case k28 => k_is)
    (case a29 => k_is)
    (case l29 => k_is)
    (case c29 => k_is)
    (case k29 => k_is)
    (case a30 => k_is)
    (case l30 => k_is)
    (case c30 => k_is)
    (case k30 => k_is)
    (case a31 => k_is)
    (case l31 => k_is)
    (case c31 => k_is)
    (case k31 => k_is)
    (case a32 => k_is)
    (case l32 => k_is)
    (case c32 => k_is)
    (case k32 => k_is)
    (case a33 => k_is)
    (case l33 => k_is)
    (case c33 => k_is)
    (case k33 => k_is)
    (case a34 => k_is)
    (case l34 => k_is)
    (case c34 => k_is)
    (case k34 => k_is)
    (case a35 => k_is)
    (case l35 => k_is)
    (case c35 => k_is)
    (case k35 => k_is)
    (case a36 => k_is)
    (case l36 => k_is)
    (case c36 => k_is)
    (case k36 => k_is)
    (case a37 => k_is)
    (case l37 => k_is)
    (case c37 => k_is)
    (case k37 => k_is)
    (case jo37 => k_is)
    (case jt37 => exact rfl)
    (case ju37 => kernel_rfl)
    (case jv37 => kernel_rfl)
    (case jh37 => exact hT8 _ (by k_mem))
    (case a38 => k_is)
    (case l38 => k_is)
    (case c38 => k_is)
    (case k38 => k_is)
    (case z_bool => k_is)
    (case z_enumerate => k_is)
    (case z_int => k_is)
    (case z_isinstance => k_is)
    (case z_len => k_is)
    (case z_list => k_is)
    (case z_max => k_is)
    (case z_min => k_is)
    (case z_range => k_is)
    (case z_repr => k_is)
    (case z_sorted => k_is)
    (case z_tuple => k_is)
    (case z_BOTH_MARKS => k_is)
    (case z_MARKS => k_is)
    (case y_MARKS => k_is)
    (case z_MOST_MEMBERS => k_is)
    (case z_MOST_ROWS => k_is)
    (case z_SIGNS => k_is)
    (case y_SIGNS => k_is)
    (case xN => k_is)
    (case xTk => k_is)
    (case xA_BadMany => k_is)
    (case xL_BadMany => k_is)
    (case xS_BadMany => k_is)
    (case xG_BadMany => k_is)
    (case xg_BadMany => k_is)
    (case xn_BadMany => k_is)
    (case xi_BadMany => k_is)
    (case xk_BadMany => k_is)
    (case xe_BadMany => k_is)
    (case xt_BadMany => k_is)
    (case xh_BadMany => k_is)
    (case xc_BadMany => k_is)
    (case xs_BadMany => k_is)
    (case xK_BadMany => k_is)
    (case xr_BadMany => k_is)
    (case xf_BadMany => k_is)
    (case xw_BadMany => k_is)
    (case xm_BadMany => k_is)
    (case xA_BadRow => k_is)
    (case xL_BadRow => k_is)
    (case xS_BadRow => k_is)
    (case xG_BadRow => k_is)
    (case xg_BadRow => k_is)
    (case xn_BadRow => k_is)
    (case xi_BadRow => k_is)
    (case xk_BadRow => k_is)
    (case xe_BadRow => k_is)
    (case xt_BadRow => k_is)
    (case xh_BadRow => k_is)
    (case xc_BadRow => k_is)
    (case xs_BadRow => k_is)
    (case xK_BadRow => k_is)
    (case xr_BadRow => k_is)
    (case xf_BadRow => k_is)
    (case xw_BadRow => k_is)
    (case xm_BadRow => k_is)
    (case xA_BadRows => k_is)
    (case xL_BadRows => k_is)
    (case xS_BadRows => k_is)
    (case xG_BadRows => k_is)
    (case xg_BadRows => k_is)
    (case xn_BadRows => k_is)
    (case xi_BadRows => k_is)
    (case xk_BadRows => k_is)
    (case xe_BadRows => k_is)
    (case xt_BadRows => k_is)
    (case xh_BadRows => k_is)
    (case xc_BadRows => k_is)
    (case xs_BadRows => k_is)
    (case xK_BadRows => k_is)
    (case xr_BadRows => k_is)
    (case xf_BadRows => k_is)
    (case xw_BadRows => k_is)
    (case xm_BadRows => k_is)
    (case xA_Refused => k_is)
    (case xe_Refused => k_is)
    (case xt_Refused => k_is)
    (case xh_Refused => k_is)
    (case xp_BadMany_BadMany => k_is)
    (case xp_BadMany_BadRow => k_is)
    (case xp_BadMany_BadRows => k_is)
    (case xp_BadMany_Refused => k_is)
    (case xp_BadRow_BadMany => k_is)
    (case xp_BadRow_BadRow => k_is)
    (case xp_BadRow_BadRows => k_is)
    (case xp_BadRow_Refused => k_is)
    (case xp_BadRows_BadMany => k_is)
    (case xp_BadRows_BadRow => k_is)
    (case xp_BadRows_BadRows => k_is)
    (case xp_BadRows_Refused => k_is)
    (case jn => decide)
    (case tI => k_is)
    (case lI => k_is)
    (case cI => k_is)

