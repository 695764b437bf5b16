import PyProof.Rows.All
import Wide.All
import OpenK.AllK
import Wide.FinOn
import HandS.ForMost
import HandS.ForExc
import HandS.IsInst
import HandS.More
import KE.DataEq
import HandS.CallSlots
import HandS.Conv
import HandS.SortRule
import HandS.MakeKwOnly
import HandS.Property
import HandS.FStr
import KE.KOpsOwn
import HandS.Star
import HandS.Strs
import HandS.SetFor
import HandS.SetTxt0
import HandS.RaiseMore
import HandS.TryOnly
import HandS.ExcField
import HandS.ExcIs
import KE.KExcIs
import HandS.OwnEq
import KE.KExcSuper
import HandS.Nested
import HandS.ExcInit
import HandS.Gcd
import PyProof.FitsBits
import KE.IntBitsLaws
import HandS.Zip
import OpenK.KMeth
import HandS.Rev
import HandS.RevTup
import PyProof.ListNew
import PyProof.ListRange
import HandS.DictSubView
import HandS.SortKw
import KE.KDictSum
import KE.DatumOrd
import HandS.TupMul
import HandS.TupAny
import KE.GoesZip
import KE.GoesMore
import PyProof.ListIndex
import PyProof.ListIndexNeg
import KE.GoesEnum
import HandS.ListItems
import HandS.HotCalls
import PySem.Challenge.RW_mixpace_k10_kitchen_fields
set_option Elab.async false
set_option linter.all false
set_option maxRecDepth 100000
set_option maxHeartbeats 4000000
namespace Mx
open PySem PySem.Spec PyProof.Rows L2

/-! ### data -/
inductive Dt where
  | non | bl (b : Bool) | int (i : Int) | str (s : Str) | ty (n : String)
  | tup (l : List Dt) | lst (l : List Dt) | frl (l : List Dt)
  | ins (c : Str) (fs : List (Str × Dt))
  | dk (kvs : List (Key × Dt)) | dt (kvs : List (List Key × Dt)) | ftp (l : List Str)

/-- the classes' addresses, by name -/
abbrev Cf := Str → Option Addr
/-- these, and the exception that is handled: its address, its class, its dict -/
structure Cl where
  of : Cf
  xc : Option (Addr × Value × Option Addr)
instance : CoeFun Cl (fun _ => Cf) := ⟨Cl.of⟩
instance : Coe Cl Cf := ⟨Cl.of⟩
abbrev Fr := PySem.W.Frag

mutual
inductive Rep (K : Fr) (cl : Cf) (H : Hp) : V → Dt → Prop
  | non : Rep K cl H .non .non
  | bl (b : Bool) : Rep K cl H (.bl b) (.bl b)
  | int (i : Int) : Rep K cl H (.int i) (.int i)
  | str (x : Str) : Rep K cl H (.str x) (.str x)
  | ty (n : String) : Rep K cl H (.ty n) (.ty n)
  | tup {a : Addr} {xs : List V} {ds : List Dt} : H a = some (.tup xs) → RepL K cl H xs ds → Rep K cl H (.ref a) (.tup ds)
  | lst {a : Addr} {xs : List V} {ds : List Dt} : H a = some (.lst xs) → RepL K cl H xs ds → Rep K cl H (.ref a) (.lst ds)
  | frl {a : Addr} {xs : List V} {ds : List Dt} : SqL K H a xs → RepL K cl H xs ds → Rep K cl H (.ref a) (.frl ds)
  | ins {a C dx : Addr} {c : Str} {fv : List (Str × V)} {fs : List (Str × Dt)} : cl c = some C → H a = some (.ins C dx fv) → fv.map (·.1) = fs.map (·.1) → RepL K cl H (fv.map (·.2)) (fs.map (·.2)) → Rep K cl H (.ref a) (.ins c fs)
  | dk {a : Addr} {kv : List (Key × V)} {kvs : List (Key × Dt)} : H a = some (.dK kv) → kv.map (·.1) = kvs.map (·.1) → RepL K cl H (kv.map (·.2)) (kvs.map (·.2)) → Rep K cl H (.ref a) (.dk kvs)
  | dt {a : Addr} {kv : List (List Key × V)} {kvs : List (List Key × Dt)} : H a = some (.dT kv) → kv.map (·.1) = kvs.map (·.1) → RepL K cl H (kv.map (·.2)) (kvs.map (·.2)) → Rep K cl H (.ref a) (.dt kvs)
  | ftp {a : Addr} {o : Obj} {l : List Str} : H a = some (.frz o (.tup (l.map V.str))) → o.cls = .type "tuple" → o.dict = none → Rep K cl H (.ref a) (.ftp l)
inductive RepL (K : Fr) (cl : Cf) (H : Hp) : List V → List Dt → Prop
  | nil : RepL K cl H [] []
  | cons {v : V} {d : Dt} {vs : List V} {ds : List Dt} : Rep K cl H v d → RepL K cl H vs ds → RepL K cl H (v :: vs) (d :: ds)
end

section
variable {K : Fr} {cl : Cf} {H H' H1 : Hp}
mutual
theorem Rep.mono (e : Same H H') : ∀ {v : V} {d : Dt}, Rep K cl H v d → Rep K cl H' v d
  | _, _, .non => .non
  | _, _, .bl b => .bl b
  | _, _, .int i => .int i
  | _, _, .str x => .str x
  | _, _, .ty n => .ty n
  | _, _, .tup h r => .tup (e _ _ h) (RepL.mono e r)
  | _, _, .lst h r => .lst (e _ _ h) (RepL.mono e r)
  | _, _, .frl h r => .frl (e.seq h) (RepL.mono e r)
  | _, _, .ins c h k r => .ins c (e _ _ h) k (RepL.mono e r)
  | _, _, .dk h k r => .dk (e _ _ h) k (RepL.mono e r)
  | _, _, .dt h k r => .dt (e _ _ h) k (RepL.mono e r)
  | _, _, .ftp h c d => .ftp (e _ _ h) c d
theorem RepL.mono (e : Same H H') : ∀ {vs : List V} {ds : List Dt}, RepL K cl H vs ds → RepL K cl H' vs ds
  | _, _, .nil => .nil
  | _, _, .cons h r => .cons (Rep.mono e h) (RepL.mono e r)
end
theorem RepL.len : ∀ {vs : List V} {ds : List Dt}, RepL K cl H vs ds → vs.length = ds.length
  | _, _, .nil => rfl
  | _, _, .cons _ r => by rw [List.length_cons, List.length_cons, r.len]
theorem RepL.get : ∀ {vs : List V} {ds : List Dt} {i : Nat} {d : Dt}, RepL K cl H vs ds → ds[i]? = some d → ∃ v, vs[i]? = some v ∧ Rep K cl H v d
  | _, _, _, _, .nil, e => by simp at e
  | _, _, 0, _, .cons h _, e => by simp at e; subst e; exact ⟨_, rfl, h⟩
  | _, _, i + 1, _, .cons _ r, e => by simpa using r.get (i := i) (by simpa using e)
theorem RepL.getV : ∀ {vs : List V} {ds : List Dt} {i : Nat} {v : V}, RepL K cl H vs ds → vs[i]? = some v → ∃ d, ds[i]? = some d ∧ Rep K cl H v d
  | _, _, _, _, .nil, e => by simp at e
  | _, _, 0, _, .cons h _, e => by simp at e; subst e; exact ⟨_, rfl, h⟩
  | _, _, i + 1, _, .cons _ r, e => by simpa using r.getV (i := i) (by simpa using e)
theorem RepL.app : ∀ {vs ws : List V} {ds es : List Dt}, RepL K cl H vs ds → RepL K cl H ws es → RepL K cl H (vs ++ ws) (ds ++ es)
  | _, _, _, _, .nil, s => s
  | _, _, _, _, .cons h r, s => .cons h (r.app s)
theorem RepL.take : ∀ {vs : List V} {ds : List Dt} (n : Nat), RepL K cl H vs ds → RepL K cl H (vs.take n) (ds.take n)
  | _, _, 0, r => by simpa using RepL.nil
  | _, _, _ + 1, .nil => .nil
  | _, _, n + 1, .cons h r => .cons h (r.take n)
theorem RepL.drop : ∀ {vs : List V} {ds : List Dt} (n : Nat), RepL K cl H vs ds → RepL K cl H (vs.drop n) (ds.drop n)
  | _, _, 0, r => r
  | _, _, _ + 1, .nil => .nil
  | _, _, n + 1, .cons h r => r.drop n
theorem RepL.set {v : V} {d : Dt} (h : Rep K cl H v d) : ∀ {vs : List V} {ds : List Dt} (i : Nat), RepL K cl H vs ds → RepL K cl H (vs.set i v) (ds.set i d)
  | _, _, _, .nil => .nil
  | _, _, 0, .cons _ r => .cons h r
  | _, _, i + 1, .cons g r => .cons g (RepL.set h i r)
theorem RepL.one {v : V} {d : Dt} (h : Rep K cl H v d) : RepL K cl H [v] [d] := .cons h .nil
theorem RepL.rev : ∀ {vs : List V} {ds : List Dt}, RepL K cl H vs ds → RepL K cl H vs.reverse ds.reverse
  | _, _, .nil => .nil
  | _, _, .cons h r => by
    rw [List.reverse_cons, List.reverse_cons]
    exact r.rev.app (RepL.one h)
theorem RepL.ints : ∀ {vs : List V} {ns : List Int}, RepL K cl H vs (ns.map Dt.int) → vs = ns.map V.int
  | _, [], .nil => rfl
  | _, n :: ns, .cons (.int _) r => by rw [r.ints]; rfl
theorem RepL.ofInts : ∀ (ns : List Int), RepL K cl H (ns.map V.int) (ns.map Dt.int)
  | [] => .nil
  | n :: ns => .cons (.int n) (RepL.ofInts ns)
theorem RepL.bools : ∀ {vs : List V} {ns : List Bool}, RepL K cl H vs (ns.map Dt.bl) → vs = ns.map V.bl
  | _, [], .nil => rfl
  | _, n :: ns, .cons (.bl _) r => by rw [r.bools]; rfl
theorem RepL.strs : ∀ {vs : List V} {ns : List Str}, RepL K cl H vs (ns.map Dt.str) → vs = ns.map V.str
  | _, [], .nil => rfl
  | _, n :: ns, .cons (.str _) r => by rw [r.strs]; rfl
theorem RepL.ofStrs : ∀ (ns : List Str), RepL K cl H (ns.map V.str) (ns.map Dt.str)
  | [] => .nil
  | n :: ns => .cons (.str n) (RepL.ofStrs ns)
end

/-! ### results -/
inductive R (α : Type) where
  | bad | ex (c : Str) (fs : List (Str × Dt)) | ok (a : α)
def R.bind {α β : Type} : R α → (α → R β) → R β
  | .bad, _ => .bad
  | .ex c fs, _ => .ex c fs
  | .ok a, f => f a

@[simp] theorem bind_ok {α β : Type} (a : α) (f : α → R β) : R.bind (.ok a) f = f a := rfl
@[simp] theorem bind_bad {α β : Type} (f : α → R β) : R.bind (.bad : R α) f = .bad := rfl
@[simp] theorem bind_ex {α β : Type} (c : Str) (fs : List (Str × Dt)) (f : α → R β) : R.bind (.ex c fs : R α) f = .ex c fs := rfl
/-! ### slots -/
/-- an owned tree: shared data, own lists, own instances -/
inductive Ow where
  | sh (d : Dt) | ol (l : List Ow) | oi (c : Str) (fs : List (Str × Ow))
inductive Sl where
  | no | sh (d : Dt) | ol (l : List Dt) | oi (x : Addr) (c : Str) (fs : List (Str × Dt)) | ok (kvs : List (Key × Dt)) | ot (kvs : List (List Key × Dt)) | xc (c : Str) (fs : List (Str × Dt)) | br (l : List Dt) | ow (t : Ow)
abbrev Ds := List Sl
/-- what an owned object is: a list, an instance, a dict -/
def MutO : Option HO → Bool
  | some (.lst _) => true
  | some (.ins _ _ _) => true
  | some (.dK _) => true
  | some (.dT _) => true
  | _ => false
theorem mutO_none (h : MutO none = true) : False := Bool.noConfusion h
theorem mutO_some {o : Option HO} (h : MutO o = true) : ∃ u, o = some u := by
  cases o with
  | none => exact (mutO_none h).elim
  | some u => exact ⟨u, rfl⟩
def hid (O : List Addr) (H : Hp) : Hp := fun a => if a ∈ O then none else H a
def Sl.own : Sl → Bool
  | .no => false | .sh _ => false | .xc _ _ => false | .br _ => false | .ow _ => false | _ => true
theorem hid_same (O : List Addr) (H : Hp) : Same (hid O H) H := fun b o e => by
  unfold hid at e
  split at e
  · cases e
  · exact e
theorem hid_nin {O : List Addr} {H : Hp} {a : Addr} (h : a ∉ O) : hid O H a = H a := by unfold hid; rw [if_neg h]
theorem hid_mono {O : List Addr} {H H' : Hp} (e : Same H H') : Same (hid O H) (hid O H') := fun b o h => by
  unfold hid at h ⊢
  split at h
  · cases h
  · rename_i q
    rw [if_neg q]
    exact e b o h
theorem hid_sub {O O' : List Addr} {H : Hp} (s : ∀ a, a ∈ O' → a ∈ O) : Same (hid O H) (hid O' H) := fun b o h => by
  unfold hid at h ⊢
  split at h
  · cases h
  · rename_i q
    rw [if_neg fun z => q (s b z)]
    exact h
theorem hid_upd {O : List Addr} {H : Hp} {a : Addr} {o : HO} (h : a ∈ O) : hid O (upd H a o) = hid O H := by
  funext b
  unfold hid
  split
  · rfl
  · rename_i q
    rw [upd_ne (fun e : b = a => q (e ▸ h))]
theorem hid_new {O : List Addr} {H H' : Hp} {p : Addr} (e : Same H H') (n : H p = none) : Same (hid O H) (hid (p :: O) H') := fun b o h => by
  unfold hid at h ⊢
  split at h
  · cases h
  · rename_i q
    have bp : b ≠ p := fun z => by rw [z, n] at h; cases h
    rw [if_neg (fun z => (List.mem_cons.mp z).elim bp q)]
    exact e b o h

section
variable (K : Fr) (cl : Cl)
def OwnAt (H Hh : Hp) (a : Addr) : Sl → Prop
  | .ol l => ∃ vs, H a = some (.lst vs) ∧ RepL K cl Hh vs l
  | .oi x c fs => ∃ C dx fv, (cl c = some C ∧ a = x) ∧ H a = some (.ins C dx fv) ∧ fv.map (·.1) = fs.map (·.1) ∧ RepL K cl Hh (fv.map (·.2)) (fs.map (·.2))
  | .ok kvs => ∃ kv, H a = some (.dK kv) ∧ kv.map (·.1) = kvs.map (·.1) ∧ RepL K cl Hh (kv.map (·.2)) (kvs.map (·.2))
  | .ot kvs => ∃ kv, H a = some (.dT kv) ∧ kv.map (·.1) = kvs.map (·.1) ∧ RepL K cl Hh (kv.map (·.2)) (kvs.map (·.2))
  | _ => False
/-- the exception that is handled, as a slot's value -/
def XcAt (Hh : Hp) (v : Option (Option V)) (c : Str) (fs : List (Str × Dt)) : Prop := ∃ a C d, cl.xc = some (a, .ref C, d) ∧ v = some (some (.ref a)) ∧ cl c = some C ∧
  ((d = none ∧ fs = []) ∨ ∃ dd fv, d = some dd ∧ Hh dd = some (.xd fv) ∧ fv.map (·.1) = fs.map (·.1) ∧ RepL K cl Hh (fv.map (·.2)) (fs.map (·.2)))
/-- a list that is lent to the def: it belongs to the caller -/
def BrAt (H0 : Hp) (O : List Addr) (Hh : Hp) (v : Option (Option V)) (l : List Dt) : Prop := ∃ a xs, v = some (some (.ref a)) ∧ a ∈ O ∧ H0 a = some (.lst xs) ∧ RepL K cl Hh xs l
def SlotOk (H0 : Hp) (O : List Addr) (H : Hp) (v : Option (Option V)) (s : Sl) : Prop :=
  match s with
  | .no => True
  | .sh d => ∃ x, v = some (some x) ∧ Rep K cl (hid O H) x d
  | .xc c fs => XcAt K cl (hid O H) v c fs
  | .br l => BrAt K cl H0 O (hid O H) v l
  | .ow _ => True
  | s => ∃ a, v = some (some (.ref a)) ∧ (a ∈ O ∧ H0 a = none) ∧ OwnAt K cl H (hid O H) a s
mutual
/-- an owned tree in the heap; F: the addresses of its own objects -/
inductive Tr (H Hh : Hp) : V → Ow → List Addr → Prop
  | sh {v : V} {d : Dt} : Rep K cl Hh v d → Tr H Hh v (.sh d) []
  | ol {a : Addr} {vs : List V} {l : List Ow} {F : List Addr} : H a = some (.lst vs) → TrL H Hh vs l F → Tr H Hh (.ref a) (.ol l) (a :: F)
  | oi {a C dx : Addr} {c : Str} {fv : List (Str × V)} {fs : List (Str × Ow)} {F : List Addr} : cl c = some C → H a = some (.ins C dx fv) → fv.map (·.1) = fs.map (·.1) → TrL H Hh (fv.map (·.2)) (fs.map (·.2)) F → Tr H Hh (.ref a) (.oi c fs) (a :: F)
inductive TrL (H Hh : Hp) : List V → List Ow → List Addr → Prop
  | nil : TrL H Hh [] [] []
  | cons {v : V} {t : Ow} {vs : List V} {ts : List Ow} {F G : List Addr} : Tr H Hh v t F → TrL H Hh vs ts G → TrL H Hh (v :: vs) (t :: ts) (F ++ G)
end
/-- the owned trees of the slots -/
def Inn (H0 : Hp) (O : List Addr) (σ : L2.St) (D : Ds) (H : Hp) : Prop := ∃ Fs : Nat → List Addr, ∀ (i : Nat) (t : Ow), D[i]? = some (.ow t) →
  (∃ v, σ[i]? = some (some v) ∧ Tr K cl H (hid O H) v t (Fs i)) ∧ (Fs i).Nodup ∧ (∀ a, a ∈ Fs i → a ∈ O ∧ H0 a = none) ∧
  (∀ (j : Nat) (s : Sl) (a : Addr), D[j]? = some s → s.own = true → σ[j]? = some (some (.ref a)) → a ∉ Fs i) ∧
  (∀ (j : Nat) (t2 : Ow), j ≠ i → D[j]? = some (.ow t2) → ∀ a, a ∈ Fs i → a ∉ Fs j)
structure RS (B : List Addr) (H0 : Hp) (O : List Addr) (σ : L2.St) (D : Ds) (H : Hp) : Prop where
  same : Same H0 H
  bas : ∀ a, a ∈ B → a ∈ O ∧ MutO (H0 a) = true
  own : ∀ a, a ∈ O → (a ∈ B ∨ H0 a = none) ∧ MutO (H a) = true
  len : σ.length = D.length
  slot : ∀ (i : Nat) s, D[i]? = some s → SlotOk K cl H0 O H σ[i]? s
  inj : ∀ (i j : Nat) (s t : Sl) (a : Addr), i ≠ j → D[i]? = some s → D[j]? = some t → s.own = true → t.own = true → σ[i]? = some (some (.ref a)) → σ[j]? ≠ some (some (.ref a))
  inn : Inn K cl H0 O σ D H

def ExOk (E : XK) (O : List Addr) (c : Str) (fs : List (Str × Dt)) (H : Hp) : Prop := ∀ C, cl c = some C →
  (fs = [] → ∀ H', Same H H' → E (.ref C) none H') ∧ (∀ H' d fv, Same H H' → H' d = some (.xd fv) → fv.map (·.1) = fs.map (·.1) → RepL K cl (hid O H') (fv.map (·.2)) (fs.map (·.2)) → E (.ref C) (some d) H')
def PostE (E : XK) (O : List Addr) (H : Hp) (Q : VK) : R Dt → Prop
  | .bad => False
  | .ex c fs => ExOk K cl E O c fs H
  | .ok d => ∀ v H', Same H H' → Rep K cl (hid O H') v d → Q v H'
def PostA (E : XK) (O : List Addr) (H : Hp) (Q : List V → Hp → Prop) : R (List Dt) → Prop
  | .bad => False
  | .ex c fs => ExOk K cl E O c fs H
  | .ok ds => ∀ vs H', Same H H' → RepL K cl (hid O H') vs ds → Q vs H'
def PostT (E : XK) (O : List Addr) (H : Hp) (Q : Bool → Hp → Prop) : R Bool → Prop
  | .bad => False
  | .ex c fs => ExOk K cl E O c fs H
  | .ok b => ∀ H', Same H H' → Q b H'
/-- a new list (its address is told to be new) -/
def PostL (E : XK) (O : List Addr) (H : Hp) (Q : VK) : R (List Dt) → Prop
  | .bad => False
  | .ex c fs => ExOk K cl E O c fs H
  | .ok ds => ∀ p vs H', Same H H' → H p = none → H' p = some (.lst vs) → RepL K cl (hid (p :: O) H') vs ds → Q (.ref p) H'
end

abbrev XE := Ds → R Dt
abbrev XT := Ds → R Bool
abbrev XA := Ds → R (List Dt)
section
variable (K : Fr) (cl : Cl) (E : L2.St → XK)
def Sim (te : TE) (xe : XE) : Prop := ∀ B H0 O σ D H, RS K cl B H0 O σ D H → ∀ Q : VK, PostE K cl (E σ) O H Q (xe D) → te σ H Q
def SimA (ta : TA) (xa : XA) : Prop := ∀ B H0 O σ D H, RS K cl B H0 O σ D H → ∀ Q : List V → Hp → Prop, PostA K cl (E σ) O H Q (xa D) → ta σ H Q
def SimT (tt : TT) (xt : XT) : Prop := ∀ B H0 O σ D H, RS K cl B H0 O σ D H → ∀ Q : Bool → Hp → Prop, PostT K cl (E σ) O H Q (xt D) → tt σ H Q
def SimL (te : TE) (xl : XA) : Prop := ∀ B H0 O σ D H, RS K cl B H0 O σ D H → ∀ Q : VK, PostL K cl (E σ) O H Q (xl D) → te σ H Q
end

section
variable {K : Fr} {cl : Cl} {H0 H H' : Hp} {O : List Addr} {σ : L2.St} {D : Ds}
theorem OwnAt.mono {a : Addr} {Hh Hh' : Hp} (e : Same H H') (e2 : Same Hh Hh') : ∀ {s : Sl}, OwnAt K cl H Hh a s → OwnAt K cl H' Hh' a s
  | .ol _, ⟨vs, h, r⟩ => ⟨vs, e _ _ h, r.mono e2⟩
  | .oi _ _ _, ⟨C, dx, fv, c, h, k, r⟩ => ⟨C, dx, fv, c, e _ _ h, k, r.mono e2⟩
  | .ok _, ⟨kv, h, k, r⟩ => ⟨kv, e _ _ h, k, r.mono e2⟩
  | .ot _, ⟨kv, h, k, r⟩ => ⟨kv, e _ _ h, k, r.mono e2⟩
theorem OwnAt.own {a : Addr} {Hh : Hp} : ∀ {s : Sl}, OwnAt K cl H Hh a s → s.own = true
  | .ol _, _ => rfl
  | .oi _ _ _, _ => rfl
  | .ok _, _ => rfl
  | .ot _, _ => rfl
theorem OwnAt.mutO {a : Addr} {Hh : Hp} : ∀ {s : Sl}, OwnAt K cl H Hh a s → MutO (H a) = true
  | .ol _, ⟨_, h, _⟩ => by rw [h]; rfl
  | .oi _ _ _, ⟨_, _, _, _, h, _⟩ => by rw [h]; rfl
  | .ok _, ⟨_, h, _⟩ => by rw [h]; rfl
  | .ot _, ⟨_, h, _⟩ => by rw [h]; rfl
theorem XcAt.mono {Hh Hh' : Hp} {v : Option (Option V)} {c : Str} {fs : List (Str × Dt)} (e : Same Hh Hh') (h : XcAt K cl Hh v c fs) : XcAt K cl Hh' v c fs := by
  obtain ⟨a, C, d, e1, e2, e3, h⟩ := h
  exact ⟨a, C, d, e1, e2, e3, h.imp id fun ⟨dd, fv, q1, q2, q3, q4⟩ => ⟨dd, fv, q1, e _ _ q2, q3, q4.mono e⟩⟩
mutual
theorem Tr.mono {Hh Hh' : Hp} (e : Same H H') (e2 : Same Hh Hh') : ∀ {v : V} {t : Ow} {F : List Addr}, Tr K cl H Hh v t F → Tr K cl H' Hh' v t F
  | _, _, _, .sh r => .sh (r.mono e2)
  | _, _, _, .ol h r => .ol (e _ _ h) (TrL.mono e e2 r)
  | _, _, _, .oi c h k r => .oi c (e _ _ h) k (TrL.mono e e2 r)
theorem TrL.mono {Hh Hh' : Hp} (e : Same H H') (e2 : Same Hh Hh') : ∀ {vs : List V} {ts : List Ow} {F : List Addr}, TrL K cl H Hh vs ts F → TrL K cl H' Hh' vs ts F
  | _, _, _, .nil => .nil
  | _, _, _, .cons h r => .cons (Tr.mono e e2 h) (TrL.mono e e2 r)
end
mutual
/-- the heap may change elsewhere -/
theorem Tr.agree {Hh : Hp} : ∀ {v : V} {t : Ow} {F : List Addr}, (∀ a, a ∈ F → H' a = H a) → Tr K cl H Hh v t F → Tr K cl H' Hh v t F
  | _, _, _, _, .sh r => .sh r
  | _, _, _, g, .ol h r => .ol ((g _ List.mem_cons_self).trans h) (TrL.agree (fun a m => g a (List.mem_cons_of_mem _ m)) r)
  | _, _, _, g, .oi c h k r => .oi c ((g _ List.mem_cons_self).trans h) k (TrL.agree (fun a m => g a (List.mem_cons_of_mem _ m)) r)
theorem TrL.agree {Hh : Hp} : ∀ {vs : List V} {ts : List Ow} {F : List Addr}, (∀ a, a ∈ F → H' a = H a) → TrL K cl H Hh vs ts F → TrL K cl H' Hh vs ts F
  | _, _, _, _, .nil => .nil
  | _, _, _, g, .cons h r => .cons (Tr.agree (fun a m => g a (List.mem_append_left _ m)) h) (TrL.agree (fun a m => g a (List.mem_append_right _ m)) r)
end
theorem Tr.upd {Hh : Hp} {v : V} {t : Ow} {F : List Addr} {b : Addr} {o : HO} (n : b ∉ F) (h : Tr K cl H Hh v t F) : Tr K cl (upd H b o) Hh v t F :=
  h.agree fun a m => upd_ne fun e => n (e ▸ m)
theorem Inn.none {σ : L2.St} {D : Ds} (h : ∀ (i : Nat) (t : Ow), D[i]? ≠ some (.ow t)) : Inn K cl H0 O σ D H := ⟨fun _ => [], fun i t e => absurd e (h i t)⟩
/-- a heap that knows more, and more that is owned -/
theorem Inn.grow {H0 : Hp} {O' : List Addr} {σ : L2.St} {D : Ds} (h : Inn K cl H0 O σ D H) (e : Same H H') (eh : Same (hid O H) (hid O' H')) (sub : ∀ a, a ∈ O → a ∈ O') : Inn K cl H0 O' σ D H' := by
  obtain ⟨Fs, h⟩ := h
  refine ⟨Fs, fun i t ei => ?_⟩
  obtain ⟨⟨v, hv, tr⟩, nd, fo, ow, dj⟩ := h i t ei
  exact ⟨⟨v, hv, tr.mono e eh⟩, nd, fun a m => ⟨sub a (fo a m).1, (fo a m).2⟩, ow, dj⟩
/-- another slot is stored -/
theorem Inn.put {σ : L2.St} {D : Ds} (h : Inn K cl H0 O σ D H) (i : Nat) (v : Option V) (s : Sl) (hs : ∀ t, s ≠ .ow t) (hn : s.own = true → ∀ a, v = some (.ref a) → a ∉ O) : Inn K cl H0 O (σ.set i v) (D.set i s) H := by
  obtain ⟨Fs, h⟩ := h
  have old : ∀ {j : Nat} {t : Ow}, (D.set i s)[j]? = some (.ow t) → j ≠ i ∧ D[j]? = some (.ow t) := fun {j t} e => by
    by_cases c : i = j
    · subst c
      by_cases hl : i < D.length
      · rw [List.getElem?_set_self hl] at e
        exact absurd (Option.some.inj e) (hs t)
      · rw [List.getElem?_eq_none (by simpa using hl)] at e; cases e
    · rw [List.getElem?_set_ne c] at e; exact ⟨Ne.symm c, e⟩
  refine ⟨Fs, fun j t ej => ?_⟩
  obtain ⟨hj, ej'⟩ := old ej
  obtain ⟨⟨w, hv, tr⟩, nd, fo, ow, dj⟩ := h j t ej'
  refine ⟨⟨w, by rw [List.getElem?_set_ne (Ne.symm hj)]; exact hv, tr⟩, nd, fo, fun k s' a ek os ha m => ?_, fun k t' hk ek => dj k t' hk (old ek).2⟩
  by_cases c : i = k
  · subst c
    by_cases hl : i < D.length
    · rw [List.getElem?_set_self hl] at ek
      cases Option.some.inj ek
      by_cases hl2 : i < σ.length
      · rw [List.getElem?_set_self hl2] at ha
        exact hn os a (Option.some.inj ha) (fo a m).1
      · rw [List.getElem?_eq_none (by simpa using hl2)] at ha; cases ha
    · rw [List.getElem?_eq_none (by simpa using hl)] at ek; cases ek
  · rw [List.getElem?_set_ne c] at ek ha
    exact ow k s' a ek os ha m
theorem SlotOk.mono {v : Option (Option V)} (e : Same H H') {s : Sl} (h : SlotOk K cl H0 O H v s) : SlotOk K cl H0 O H' v s := by
  cases s with
  | no => trivial
  | sh d => obtain ⟨x, e1, r⟩ := h; exact ⟨x, e1, r.mono (hid_mono e)⟩
  | ol l => obtain ⟨a, e1, m, o⟩ := h; exact ⟨a, e1, m, o.mono e (hid_mono e)⟩
  | oi x0 c l => obtain ⟨a, e1, m, o⟩ := h; exact ⟨a, e1, m, o.mono e (hid_mono e)⟩
  | ok l => obtain ⟨a, e1, m, o⟩ := h; exact ⟨a, e1, m, o.mono e (hid_mono e)⟩
  | ot l => obtain ⟨a, e1, m, o⟩ := h; exact ⟨a, e1, m, o.mono e (hid_mono e)⟩
  | xc c l => exact XcAt.mono (hid_mono e) h
  | br l => obtain ⟨a, xs, e1, m, h0, r⟩ := h; exact ⟨a, xs, e1, m, h0, r.mono (hid_mono e)⟩
  | ow t => trivial
variable {B : List Addr}
theorem RS.mono (r : RS K cl B H0 O σ D H) (e : Same H H') : RS K cl B H0 O σ D H' where
  same := r.same.trans e
  bas := r.bas
  own := fun a m => ⟨(r.own a m).1, by
    obtain ⟨o, h⟩ := mutO_some (r.own a m).2
    have q := (r.own a m).2
    rw [h] at q
    rw [e a o h]; exact q⟩
  len := r.len
  slot := fun i s h => (r.slot i s h).mono e
  inj := r.inj
  inn := r.inn.grow e (hid_mono e) fun _ m => m
theorem SlotOk.owned {v : Option (Option V)} {s : Sl} (h : SlotOk K cl H0 O H v s) (o : s.own = true) : ∃ a, v = some (some (.ref a)) ∧ (a ∈ O ∧ H0 a = none) ∧ OwnAt K cl H (hid O H) a s := by
  cases s with
  | no => cases o
  | sh d => cases o
  | ol l => exact h
  | oi x0 c l => exact h
  | ok l => exact h
  | ot l => exact h
  | xc c l => cases o
  | br l => cases o
  | ow t => cases o
theorem SlotOk.of_owned {v : Option (Option V)} {s : Sl} {a : Addr} (e : v = some (some (.ref a))) (m : a ∈ O ∧ H0 a = none) (h : OwnAt K cl H (hid O H) a s) : SlotOk K cl H0 O H v s := by
  cases s with
  | no => exact h.elim
  | sh d => exact h.elim
  | ol l => exact ⟨a, e, m, h⟩
  | oi x0 c l => exact ⟨a, e, m, h⟩
  | ok l => exact ⟨a, e, m, h⟩
  | ot l => exact ⟨a, e, m, h⟩
  | xc c l => exact h.elim
  | br l => exact h.elim
  | ow t => exact h.elim
theorem own_ne {a b : Addr} {Hh : Hp} {s : Sl} {o : HO} (h : OwnAt K cl H Hh a s) (k : b ≠ a) : OwnAt K cl (upd H b o) Hh a s := by
  have e : upd H b o a = H a := upd_ne (Ne.symm k)
  cases s with
  | no => exact h.elim
  | sh d => exact h.elim
  | ol l => obtain ⟨vs, h1, r⟩ := h; exact ⟨vs, e.trans h1, r⟩
  | oi x0 c l => obtain ⟨C, dx, vs, q, h1, r⟩ := h; exact ⟨C, dx, vs, q, e.trans h1, r⟩
  | ok l => obtain ⟨vs, h1, r⟩ := h; exact ⟨vs, e.trans h1, r⟩
  | ot l => obtain ⟨vs, h1, r⟩ := h; exact ⟨vs, e.trans h1, r⟩
  | xc c l => exact h.elim
  | br l => exact h.elim
  | ow t => exact h.elim
theorem set_get {α : Type} {l : List α} {i j : Nat} {x y : α} (h : (l.set i x)[j]? = some y) : (j = i ∧ y = x ∧ i < l.length) ∨ (j ≠ i ∧ l[j]? = some y) := by
  by_cases e : i = j
  · subst e
    by_cases hl : i < l.length
    · rw [List.getElem?_set_self hl] at h
      exact .inl ⟨rfl, (Option.some.inj h).symm, hl⟩
    · rw [List.getElem?_eq_none (by simpa using hl)] at h; cases h
  · rw [List.getElem?_set_ne e] at h
    exact .inr ⟨Ne.symm e, h⟩
/-- a slot is stored: a shared value -/
theorem RS.setSh (r : RS K cl B H0 O σ D H) (i : Nat) {v : V} {d : Dt} (h : Rep K cl (hid O H) v d) : RS K cl B H0 O (σ.set i (some v)) (D.set i (.sh d)) H where
  same := r.same
  bas := r.bas
  own := r.own
  len := by rw [List.length_set, List.length_set]; exact r.len
  slot := fun j s e => by
    rcases set_get e with ⟨rfl, rfl, hl⟩ | ⟨hj, e'⟩
    · exact ⟨v, by rw [List.getElem?_set_self (by rw [r.len]; exact hl)], h⟩
    · rw [List.getElem?_set_ne (Ne.symm hj)]
      exact r.slot j s e'
  inj := fun j k s t a hjk e1 e2 o1 o2 h1 => by
    rcases set_get e1 with ⟨rfl, rfl, _⟩ | ⟨hj, e1'⟩
    · cases o1
    · rcases set_get e2 with ⟨rfl, rfl, _⟩ | ⟨hk, e2'⟩
      · cases o2
      · rw [List.getElem?_set_ne (Ne.symm hj)] at h1
        rw [List.getElem?_set_ne (Ne.symm hk)]
        exact r.inj j k s t a hjk e1' e2' o1 o2 h1
  inn := r.inn.put i (some v) (.sh d) (fun t e => by cases e) (fun e => by cases e)
/-- a slot is forgotten -/
theorem RS.setNo (r : RS K cl B H0 O σ D H) (i : Nat) (v : Option V) : RS K cl B H0 O (σ.set i v) (D.set i .no) H where
  same := r.same
  bas := r.bas
  own := r.own
  len := by rw [List.length_set, List.length_set]; exact r.len
  slot := fun j s e => by
    rcases set_get e with ⟨rfl, rfl, hl⟩ | ⟨hj, e'⟩
    · trivial
    · rw [List.getElem?_set_ne (Ne.symm hj)]
      exact r.slot j s e'
  inj := fun j k s t a hjk e1 e2 o1 o2 h1 => by
    rcases set_get e1 with ⟨rfl, rfl, _⟩ | ⟨hj, e1'⟩
    · cases o1
    · rcases set_get e2 with ⟨rfl, rfl, _⟩ | ⟨hk, e2'⟩
      · cases o2
      · rw [List.getElem?_set_ne (Ne.symm hj)] at h1
        rw [List.getElem?_set_ne (Ne.symm hk)]
        exact r.inj j k s t a hjk e1' e2' o1 o2 h1
  inn := r.inn.put i v .no (fun t e => by cases e) (fun e => by cases e)
/-- a slot is stored: a new owned object -/
theorem RS.setOwn (r : RS K cl B H0 O σ D H) (i : Nat) {p : Addr} {s : Sl} (e : Same H H') (n : H p = none) (h : OwnAt K cl H' (hid (p :: O) H') p s) (hs : MutO (H' p) = true) : RS K cl B H0 (p :: O) (σ.set i (some (.ref p))) (D.set i s) H' where
  same := r.same.trans e
  bas := fun a m => ⟨List.mem_cons_of_mem _ (r.bas a m).1, (r.bas a m).2⟩
  own := fun a m => by
    rcases List.mem_cons.mp m with rfl | m
    · exact ⟨.inr (r.same.free n), hs⟩
    · exact (r.mono e).own a m
  len := by rw [List.length_set, List.length_set]; exact r.len
  slot := fun j t et => by
    rcases set_get et with ⟨rfl, rfl, hl⟩ | ⟨hj, e'⟩
    · exact SlotOk.of_owned (by rw [List.getElem?_set_self (by rw [r.len]; exact hl)]) ⟨List.mem_cons_self, r.same.free n⟩ h
    · rw [List.getElem?_set_ne (Ne.symm hj)]
      have q := r.slot j t e'
      cases ho : t.own with
      | true =>
        obtain ⟨a, e1, m, o⟩ := q.owned ho
        exact SlotOk.of_owned e1 ⟨List.mem_cons_of_mem _ m.1, m.2⟩ (o.mono e (hid_new e n))
      | false =>
        cases t with
        | no => trivial
        | sh d => obtain ⟨x, e1, rr⟩ := q; exact ⟨x, e1, rr.mono (hid_new e n)⟩
        | ol l => cases ho
        | oi x0 c l => cases ho
        | ok l => cases ho
        | ot l => cases ho
        | xc c l => exact XcAt.mono (hid_new e n) q
        | br l => obtain ⟨a, xs, e1, m, h0, rr⟩ := q; exact ⟨a, xs, e1, List.mem_cons_of_mem _ m, h0, rr.mono (hid_new e n)⟩
        | ow t => trivial
  inj := fun j k s' t a hjk e1 e2 o1 o2 h1 => by
    have fresh : ∀ (j : Nat) (t : Sl), D[j]? = some t → t.own = true → σ[j]? ≠ some (some (.ref p)) := fun j t ej oj q => by
      obtain ⟨b, e3, m, _⟩ := (r.slot j t ej).owned oj
      rw [q] at e3
      cases e3
      have := (r.own p m.1).2
      rw [n] at this
      exact (mutO_none this).elim
    rcases set_get e1 with ⟨rfl, rfl, hl⟩ | ⟨hj, e1'⟩
    · rcases set_get e2 with ⟨rfl, _, _⟩ | ⟨hk, e2'⟩
      · exact absurd rfl hjk
      · rw [List.getElem?_set_self (by rw [r.len]; exact hl)] at h1
        cases h1
        rw [List.getElem?_set_ne (Ne.symm hk)]
        exact fresh k t e2' o2
    · rw [List.getElem?_set_ne (Ne.symm hj)] at h1
      rcases set_get e2 with ⟨rfl, rfl, hl⟩ | ⟨hk, e2'⟩
      · rw [List.getElem?_set_self (by rw [r.len]; exact hl)]
        intro q
        cases q
        exact fresh j s' e1' o1 h1
      · rw [List.getElem?_set_ne (Ne.symm hk)]
        exact r.inj j k s' t a hjk e1' e2' o1 o2 h1
  inn := by
    have np : p ∉ O := fun m => by
      have := (r.own p m).2
      rw [n] at this
      exact mutO_none this
    exact (r.inn.put i (some (.ref p)) s (fun t e' => by subst e'; exact h) (fun _ a ea => by cases ea; exact np)).grow e (hid_new e n) fun a m => List.mem_cons_of_mem _ m
/-- the owned object of a slot is changed -/
theorem RS.mut (r : RS K cl B H0 O σ D H) {i : Nat} {s s' : Sl} {a : Addr} {o : HO} (hi : D[i]? = some s) (ho : s.own = true) (ha : σ[i]? = some (some (.ref a)))
    (h : OwnAt K cl (upd H a o) (hid O H) a s') : RS K cl B H0 O σ (D.set i s') (upd H a o) := by
  obtain ⟨b, e1, m, ow⟩ := (r.slot i s hi).owned ho
  rw [ha] at e1
  cases e1
  have hn := m.2
  refine ⟨fun b o' e => by rw [upd_ne (ne_of_none e hn)]; exact r.same b o' e, r.bas, fun b mb => ⟨(r.own b mb).1, ?_⟩, by rw [List.length_set]; exact r.len, fun j t et => ?_, fun j k s1 t b hjk e1 e2 o1 o2 h1 => ?_, ?_⟩
  · by_cases e : b = a
    · subst e; exact h.mutO
    · rw [upd_ne e]; exact (r.own b mb).2
  · rcases set_get et with ⟨rfl, rfl, hl⟩ | ⟨hj, e'⟩
    · exact SlotOk.of_owned ha m (by rw [hid_upd m.1]; exact h)
    · have q := r.slot j t e'
      cases ho2 : t.own with
      | true =>
        obtain ⟨c, e1, mc, oc⟩ := q.owned ho2
        have hca : a ≠ c := fun z => by
          subst z
          exact r.inj i j s t a (Ne.symm hj) hi e' ho ho2 ha e1
        exact SlotOk.of_owned e1 mc (by rw [hid_upd m.1]; exact own_ne oc hca)
      | false =>
        cases t with
        | no => trivial
        | sh d => obtain ⟨x, e1, rr⟩ := q; exact ⟨x, e1, by rw [hid_upd m.1]; exact rr⟩
        | ol l => cases ho2
        | oi x0 c l => cases ho2
        | ok l => cases ho2
        | ot l => cases ho2
        | xc c l => exact XcAt.mono (by rw [hid_upd m.1]; exact Same.refl _) q
        | br l => obtain ⟨c, xs, e1, mc, h0, rr⟩ := q; exact ⟨c, xs, e1, mc, h0, by rw [hid_upd m.1]; exact rr⟩
        | ow t => trivial
  · have f : ∀ (j : Nat) (t : Sl), (D.set i s')[j]? = some t → t.own = true → ∃ t', D[j]? = some t' ∧ t'.own = true := fun j t ej oj => by
      rcases set_get ej with ⟨rfl, rfl, hl⟩ | ⟨hj, e'⟩
      · exact ⟨s, hi, ho⟩
      · exact ⟨t, e', oj⟩
    obtain ⟨s1', q1, q2⟩ := f j s1 e1 o1
    obtain ⟨t', q3, q4⟩ := f k t e2 o2
    exact r.inj j k s1' t' b hjk q1 q3 q2 q4 h1
  · obtain ⟨Fs, q⟩ := r.inn
    have old : ∀ {j : Nat} {t : Ow}, (D.set i s')[j]? = some (.ow t) → D[j]? = some (.ow t) := fun {j t} e => by
      rcases set_get e with ⟨rfl, rfl, hl⟩ | ⟨hj, e'⟩
      · exact h.elim
      · exact e'
    refine ⟨Fs, fun j t ej => ?_⟩
    obtain ⟨⟨w, hv, tr⟩, nd, fo, own, dj⟩ := q j t (old ej)
    have na : a ∉ Fs j := own i s a hi ho ha
    refine ⟨⟨w, hv, by rw [hid_upd m.1]; exact tr.upd na⟩, nd, fo, fun k s1 b ek os hb => ?_, fun k t' hk ek => dj k t' hk (old ek)⟩
    rcases set_get ek with ⟨rfl, rfl, hl⟩ | ⟨hk, e'⟩
    · rw [ha] at hb
      cases hb
      exact na
    · exact own k s1 b e' os hb
/-- a slot's owned object becomes shared -/
def Sl.frz : Sl → Sl
  | .ol l => .sh (.lst l)
  | .oi _ c fs => .sh (.ins c fs)
  | .ok kvs => .sh (.dk kvs)
  | .ot kvs => .sh (.dt kvs)
  | s => s
def Frz (i : Nat) (D : Ds) : Ds := D.set i ((D.getD i .no).frz)
theorem RS.frz' (r : RS K cl B H0 O σ D H) (i : Nat) : ∃ O', RS K cl B H0 O' σ (Frz i D) H ∧ (∀ a, a ∈ O' → a ∈ O) ∧ ∀ a, a ∈ O → a ∈ O' ∨ ∃ s, D[i]? = some s ∧ OwnAt K cl H (hid O H) a s := by
  unfold Frz
  cases hi : D[i]? with
  | none => exact ⟨O, by rw [List.set_eq_of_length_le (List.getElem?_eq_none_iff.mp hi)]; exact r, fun a m => m, fun a m => .inl m⟩
  | some s =>
    have hg : D.getD i .no = s := by rw [List.getD_eq_getElem?_getD, hi]; rfl
    rw [hg]
    cases ho : s.own with
    | false =>
      have : s.frz = s := by cases s <;> first | rfl | cases ho
      rw [this]
      have hD : D.set i s = D := by
        obtain ⟨hl, e⟩ := List.getElem?_eq_some_iff.mp hi
        rw [← e]; exact List.set_getElem_self hl
      rw [hD]
      exact ⟨O, r, fun a m => m, fun a m => .inl m⟩
    | true =>
      obtain ⟨a, ha, m, ow⟩ := (r.slot i s hi).owned ho
      have hB : a ∉ B := fun z => by
        have := (r.bas a z).2
        rw [m.2] at this; exact (mutO_none this).elim
      refine ⟨O.filter (· ≠ a), ⟨r.same, fun b mb => ⟨List.mem_filter.mpr ⟨(r.bas b mb).1, by simp; rintro rfl; exact hB mb⟩, (r.bas b mb).2⟩, fun b mb => r.own b (List.mem_filter.mp mb).1, by rw [List.length_set]; exact r.len, fun j t et => ?_, fun j k s1 t b hjk e1 e2 o1 o2 h1 => ?_, ?_⟩, fun b m => (List.mem_filter.mp m).1, fun b m => if e : b = a then .inr ⟨s, rfl, e ▸ ow⟩ else .inl (List.mem_filter.mpr ⟨m, by simpa using e⟩)⟩
      · have sub : Same (hid O H) (hid (O.filter (· ≠ a)) H) := hid_sub fun b mb => (List.mem_filter.mp mb).1
        have hna : a ∉ O.filter (· ≠ a) := fun z => by simpa using (List.mem_filter.mp z).2
        have hha : hid (O.filter (· ≠ a)) H a = H a := hid_nin hna
        rcases set_get et with ⟨rfl, rfl, hl⟩ | ⟨hj, e'⟩
        · cases s with
          | no => cases ho
          | sh d => cases ho
          | ol l => obtain ⟨vs, h1, rr⟩ := ow; exact ⟨.ref a, ha, .lst (hha.trans h1) (rr.mono sub)⟩
          | oi x0 c l => obtain ⟨C, dx, fv, c1, h1, k1, rr⟩ := ow; exact ⟨.ref a, ha, .ins c1.1 (hha.trans h1) k1 (rr.mono sub)⟩
          | ok l => obtain ⟨vs, h1, k1, rr⟩ := ow; exact ⟨.ref a, ha, .dk (hha.trans h1) k1 (rr.mono sub)⟩
          | ot l => obtain ⟨vs, h1, k1, rr⟩ := ow; exact ⟨.ref a, ha, .dt (hha.trans h1) k1 (rr.mono sub)⟩
          | xc c l => cases ho
          | br l => cases ho
          | ow t => cases ho
        · have q := r.slot j t e'
          cases ho2 : t.own with
          | true =>
            obtain ⟨c, e1, mc, oc⟩ := q.owned ho2
            have hca : c ≠ a := fun z => by
              subst z
              exact r.inj i j s t c (Ne.symm hj) hi e' ho ho2 ha e1
            exact SlotOk.of_owned e1 ⟨List.mem_filter.mpr ⟨mc.1, by simpa using hca⟩, mc.2⟩ (oc.mono (fun _ _ z => z) sub)
          | false =>
            cases t with
            | no => trivial
            | sh d => obtain ⟨x, e1, rr⟩ := q; exact ⟨x, e1, rr.mono sub⟩
            | ol l => cases ho2
            | oi x0 c l => cases ho2
            | ok l => cases ho2
            | ot l => cases ho2
            | xc c l => exact XcAt.mono sub q
            | br l => obtain ⟨c, xs, e1, mc, h0, rr⟩ := q; exact ⟨c, xs, e1, List.mem_filter.mpr ⟨mc, by simp; rintro rfl; rw [m.2] at h0; cases h0⟩, h0, rr.mono sub⟩
            | ow t => trivial
      · rcases set_get e1 with ⟨rfl, rfl, hl⟩ | ⟨hj, e1'⟩
        · have : s.frz.own = false := by cases s <;> first | rfl | cases ho
          rw [this] at o1; cases o1
        · rcases set_get e2 with ⟨rfl, rfl, hl⟩ | ⟨hk, e2'⟩
          · have : s.frz.own = false := by cases s <;> first | rfl | cases ho
            rw [this] at o2; cases o2
          · exact r.inj j k s1 t b hjk e1' e2' o1 o2 h1
      · obtain ⟨Fs, q⟩ := r.inn
        have sub : Same (hid O H) (hid (O.filter (· ≠ a)) H) := hid_sub fun b mb => (List.mem_filter.mp mb).1
        have old : ∀ {j : Nat} {t : Ow}, (D.set i s.frz)[j]? = some (.ow t) → D[j]? = some (.ow t) := fun {j t} e => by
          rcases set_get e with ⟨rfl, e2, hl⟩ | ⟨hj, e'⟩
          · cases s <;> simp [Sl.frz, Sl.own] at e2 ho
          · exact e'
        refine ⟨Fs, fun j t ej => ?_⟩
        obtain ⟨⟨w, hv, tr⟩, nd, fo, own, dj⟩ := q j t (old ej)
        have na : a ∉ Fs j := own i s a hi ho ha
        refine ⟨⟨w, hv, tr.mono (Same.refl _) sub⟩, nd, fun b m => ⟨List.mem_filter.mpr ⟨(fo b m).1, by simpa using fun e : b = a => na (e ▸ m)⟩, (fo b m).2⟩, fun k s1 b ek os hb => ?_, fun k t' hk ek => dj k t' hk (old ek)⟩
        rcases set_get ek with ⟨rfl, rfl, hl⟩ | ⟨hk, e'⟩
        · have : s.frz.own = false := by cases s <;> first | rfl | cases ho
          rw [this] at os; cases os
        · exact own k s1 b e' os hb
theorem RS.frz (r : RS K cl B H0 O σ D H) (i : Nat) : ∃ O', RS K cl B H0 O' σ (Frz i D) H ∧ ∀ a, a ∈ O' → a ∈ O := by
  obtain ⟨O', h, s, _⟩ := r.frz' i
  exact ⟨O', h, s⟩
end
end Mx
namespace Mx
open PySem PySem.Spec PyProof.Rows L2

section
variable (K : Fr) (cl : Cl)
/-- a value whose outermost object may be owned -/
def RepB (O : List Addr) (H : Hp) (v : V) : Dt → Prop
  | .lst ds => ∃ a vs, v = .ref a ∧ H a = some (.lst vs) ∧ RepL K cl (hid O H) vs ds
  | .tup ds => ∃ a vs, v = .ref a ∧ H a = some (.tup vs) ∧ RepL K cl (hid O H) vs ds
  | .frl ds => ∃ a vs, v = .ref a ∧ SqL K H a vs ∧ RepL K cl (hid O H) vs ds
  | .ins c fs => ∃ a C dx fv, v = .ref a ∧ cl c = some C ∧ H a = some (.ins C dx fv) ∧ fv.map (·.1) = fs.map (·.1) ∧ RepL K cl (hid O H) (fv.map (·.2)) (fs.map (·.2))
  | .dk kvs => ∃ a kv, v = .ref a ∧ H a = some (.dK kv) ∧ kv.map (·.1) = kvs.map (·.1) ∧ RepL K cl (hid O H) (kv.map (·.2)) (kvs.map (·.2))
  | .dt kvs => ∃ a kv, v = .ref a ∧ H a = some (.dT kv) ∧ kv.map (·.1) = kvs.map (·.1) ∧ RepL K cl (hid O H) (kv.map (·.2)) (kvs.map (·.2))
  | d => Rep K cl (hid O H) v d
inductive RepBL (O : List Addr) (H : Hp) : List V → List Dt → Prop
  | nil : RepBL O H [] []
  | cons {v : V} {d : Dt} {vs : List V} {ds : List Dt} : RepB K cl O H v d → RepBL O H vs ds → RepBL O H (v :: vs) (d :: ds)
def PostB (E : XK) (O : List Addr) (H : Hp) (Q : VK) : R Dt → Prop
  | .bad => False
  | .ex c fs => ExOk K cl E O c fs H
  | .ok d => ∀ v H', Same H H' → RepB K cl O H' v d → Q v H'
def PostBA (E : XK) (O : List Addr) (H : Hp) (Q : List V → Hp → Prop) : R (List Dt) → Prop
  | .bad => False
  | .ex c fs => ExOk K cl E O c fs H
  | .ok ds => ∀ vs H', Same H H' → RepBL K cl O H' vs ds → Q vs H'
variable (E : L2.St → XK)
def SimB (te : TE) (xe : XE) : Prop := ∀ B H0 O σ D H, RS K cl B H0 O σ D H → ∀ Q : VK, PostB K cl (E σ) O H Q (xe D) → te σ H Q
def SimBA (ta : TA) (xa : XA) : Prop := ∀ B H0 O σ D H, RS K cl B H0 O σ D H → ∀ Q : List V → Hp → Prop, PostBA K cl (E σ) O H Q (xa D) → ta σ H Q
/-- an operation on values; what is raised is not its own -/
def Trk (O : List Addr) (H : Hp) : Prop := ∀ a, a ∈ O → MutO (H a) = true
def OpS (r : R2) (f : Dt → Dt → R Dt) : Prop := ∀ O H x y a b E, Trk O H → RepB K cl O H x a → RepB K cl O H y b → ∀ Q : VK, PostE K cl E O H Q (f a b) → r x y H Q
def UnS (r : V → Hp → VK → Prop) (f : Dt → R Dt) : Prop := ∀ O H x a E, Trk O H → RepB K cl O H x a → ∀ Q : VK, PostE K cl E O H Q (f a) → r x H Q
def CaS (r : List V → Hp → VK → Prop) (f : List Dt → R Dt) : Prop := ∀ O H xs ds E, Trk O H → RepBL K cl O H xs ds → ∀ Q : VK, PostE K cl E O H Q (f ds) → r xs H Q
def CaL (r : List V → Hp → VK → Prop) (f : List Dt → R (List Dt)) : Prop := ∀ O H xs ds E, Trk O H → RepBL K cl O H xs ds → ∀ Q : VK, PostL K cl E O H Q (f ds) → r xs H Q
end

section
variable {K : Fr} {cl : Cl} {E : L2.St → XK} {H H' H1 : Hp} {O : List Addr}
theorem RepB.of {v : V} {d : Dt} (h : Rep K cl (hid O H) v d) : RepB K cl O H v d := by
  cases h with
  | non => exact .non
  | bl b => exact .bl b
  | int i => exact .int i
  | str x => exact .str x
  | ty n => exact .ty n
  | tup h r => exact ⟨_, _, rfl, hid_same O H _ _ h, r⟩
  | lst h r => exact ⟨_, _, rfl, hid_same O H _ _ h, r⟩
  | frl h r => exact ⟨_, _, rfl, (hid_same O H).seq h, r⟩
  | ins c h k r => exact ⟨_, _, _, _, rfl, c, hid_same O H _ _ h, k, r⟩
  | dk h k r => exact ⟨_, _, rfl, hid_same O H _ _ h, k, r⟩
  | dt h k r => exact ⟨_, _, rfl, hid_same O H _ _ h, k, r⟩
  | ftp h c d => exact .ftp h c d
theorem RepB.mono (e : Same H H') {v : V} {d : Dt} (h : RepB K cl O H v d) : RepB K cl O H' v d := by
  cases d with
  | lst ds => obtain ⟨a, vs, rfl, h1, r⟩ := h; exact ⟨a, vs, rfl, e _ _ h1, r.mono (hid_mono e)⟩
  | tup ds => obtain ⟨a, vs, rfl, h1, r⟩ := h; exact ⟨a, vs, rfl, e _ _ h1, r.mono (hid_mono e)⟩
  | frl ds => obtain ⟨a, vs, rfl, h1, r⟩ := h; exact ⟨a, vs, rfl, e.seq h1, r.mono (hid_mono e)⟩
  | ins c fs => obtain ⟨a, C, dx, fv, rfl, c1, h1, k, r⟩ := h; exact ⟨a, C, dx, fv, rfl, c1, e _ _ h1, k, r.mono (hid_mono e)⟩
  | dk ds => obtain ⟨a, vs, rfl, h1, k, r⟩ := h; exact ⟨a, vs, rfl, e _ _ h1, k, r.mono (hid_mono e)⟩
  | dt ds => obtain ⟨a, vs, rfl, h1, k, r⟩ := h; exact ⟨a, vs, rfl, e _ _ h1, k, r.mono (hid_mono e)⟩
  | non => exact Rep.mono (hid_mono e) h
  | bl b => exact Rep.mono (hid_mono e) h
  | int i => exact Rep.mono (hid_mono e) h
  | str s => exact Rep.mono (hid_mono e) h
  | ty n => exact Rep.mono (hid_mono e) h
  | ftp l => exact Rep.mono (hid_mono e) h
theorem RepBL.mono (e : Same H H') : ∀ {vs : List V} {ds : List Dt}, RepBL K cl O H vs ds → RepBL K cl O H' vs ds
  | _, _, .nil => .nil
  | _, _, .cons h r => .cons (h.mono e) (r.mono e)
theorem RepB.full {v : V} {d : Dt} (h : RepB K cl O H v d) : Rep K cl H v d := by
  cases d with
  | lst ds => obtain ⟨a, vs, rfl, h1, r⟩ := h; exact .lst h1 (r.mono (hid_same O H))
  | tup ds => obtain ⟨a, vs, rfl, h1, r⟩ := h; exact .tup h1 (r.mono (hid_same O H))
  | frl ds => obtain ⟨a, vs, rfl, h1, r⟩ := h; exact .frl h1 (r.mono (hid_same O H))
  | ins c fs => obtain ⟨a, C, dx, fv, rfl, c1, h1, k, r⟩ := h; exact .ins c1 h1 k (r.mono (hid_same O H))
  | dk ds => obtain ⟨a, vs, rfl, h1, k, r⟩ := h; exact .dk h1 k (r.mono (hid_same O H))
  | dt ds => obtain ⟨a, vs, rfl, h1, k, r⟩ := h; exact .dt h1 k (r.mono (hid_same O H))
  | non => exact Rep.mono (hid_same O H) h
  | bl b => exact Rep.mono (hid_same O H) h
  | int i => exact Rep.mono (hid_same O H) h
  | str s => exact Rep.mono (hid_same O H) h
  | ty n => exact Rep.mono (hid_same O H) h
  | ftp l => exact Rep.mono (hid_same O H) h
theorem RepB.int_ {v : V} {i : Int} (h : RepB K cl O H v (.int i)) : v = .int i := by cases h; rfl
theorem RepB.str_ {v : V} {i : Str} (h : RepB K cl O H v (.str i)) : v = .str i := by cases h; rfl
theorem RepB.bl_ {v : V} {i : Bool} (h : RepB K cl O H v (.bl i)) : v = .bl i := by cases h; rfl
theorem RepB.non_ {v : V} (h : RepB K cl O H v .non) : v = .non := by cases h; rfl
theorem RepB.ty_ {v : V} {n : String} (h : RepB K cl O H v (.ty n)) : v = .ty n := by cases h; rfl
theorem ExOk.mono {E : XK} {c : Str} {fs : List (Str × Dt)} (e : Same H H') (h : ExOk K cl E O c fs H) : ExOk K cl E O c fs H' := fun C hc =>
  ⟨fun z H2 e2 => (h C hc).1 z H2 (e.trans e2), fun H2 d fv e2 => (h C hc).2 H2 d fv (e.trans e2)⟩
theorem ExOk.sub {E : XK} {O' : List Addr} {c : Str} {fs : List (Str × Dt)} (i : ∀ a, a ∈ O → a ∈ O') (h : ExOk K cl E O c fs H) : ExOk K cl E O' c fs H := fun C hc =>
  ⟨(h C hc).1, fun H2 d fv e2 hd hk r => (h C hc).2 H2 d fv e2 hd hk (r.mono (hid_sub i))⟩

/-! the ways of two steps -/
theorem simB_of {te : TE} {xe : XE} (h : Sim K cl E te xe) : SimB K cl E te xe := fun B H0 O σ D H r Q q => h B H0 O σ D H r Q (by
  revert q
  cases xe D with
  | bad => exact id
  | ex c fs => exact id
  | ok d => exact fun q v H' e h => q v H' e (.of h))
def xVar (i : Nat) : XE := fun D => match D[i]? with
  | some (.sh d) => .ok d
  | _ => .bad
def Sl.dat : Sl → R Dt
  | .no => .bad | .sh d => .ok d | .ol l => .ok (.lst l) | .oi _ c fs => .ok (.ins c fs) | .ok kvs => .ok (.dk kvs) | .ot kvs => .ok (.dt kvs) | .xc _ _ => .bad | .br l => .ok (.lst l) | .ow _ => .bad
def xVarB (i : Nat) : XE := fun D => match D[i]? with
  | some s => s.dat
  | none => .bad
def shO : Option Sl → R Dt
  | some (.sh d) => .ok d
  | _ => .bad
@[simp] theorem shO_sh (d : Dt) : shO (some (.sh d)) = .ok d := rfl
@[simp] theorem xVar_ap (i : Nat) (D : Ds) : xVar i D = shO D[i]? := rfl
def datO : Option Sl → R Dt
  | some s => s.dat
  | none => .bad
@[simp] theorem datO_some (s : Sl) : datO (some s) = s.dat := rfl
@[simp] theorem xVarB_ap (i : Nat) (D : Ds) : xVarB i D = datO D[i]? := rfl
@[simp] theorem dat_sh (d : Dt) : (Sl.sh d).dat = .ok d := rfl
@[simp] theorem dat_ol (l : List Dt) : (Sl.ol l).dat = .ok (.lst l) := rfl
@[simp] theorem dat_oi (x : Addr) (c : Str) (fs : List (Str × Dt)) : (Sl.oi x c fs).dat = .ok (.ins c fs) := rfl
@[simp] theorem dat_ok (l : List (Key × Dt)) : (Sl.ok l).dat = .ok (.dk l) := rfl
@[simp] theorem dat_br (l : List Dt) : (Sl.br l).dat = .ok (.lst l) := rfl
@[simp] theorem dat_ot (l : List (List Key × Dt)) : (Sl.ot l).dat = .ok (.dt l) := rfl
theorem sim_var {i : Nat} : Sim K cl E (tVar i) (xVar i) := fun B H0 O σ D H r Q q => by
  unfold xVar at q
  split at q
  · rename_i d h
    obtain ⟨x, e, rr⟩ := r.slot i _ h
    exact ⟨x, e, q x H (Same.refl H) rr⟩
  · exact q.elim
theorem simB_var {i : Nat} : SimB K cl E (tVar i) (xVarB i) := fun B H0 O σ D H r Q q => by
  unfold xVarB at q
  split at q
  · rename_i s h
    have z := r.slot i _ h
    cases s with
    | no => exact q.elim
    | sh d => obtain ⟨x, e, rr⟩ := z; exact ⟨x, e, q x H (Same.refl H) (.of rr)⟩
    | ol l => obtain ⟨a, e, m, vs, h1, rr⟩ := z; exact ⟨_, e, q _ H (Same.refl H) ⟨a, vs, rfl, h1, rr⟩⟩
    | oi x0 c fs => obtain ⟨a, e, m, C, dx, fv, c1, h1, k, rr⟩ := z; exact ⟨_, e, q _ H (Same.refl H) ⟨a, C, dx, fv, rfl, c1.1, h1, k, rr⟩⟩
    | ok l => obtain ⟨a, e, m, vs, h1, k, rr⟩ := z; exact ⟨_, e, q _ H (Same.refl H) ⟨a, vs, rfl, h1, k, rr⟩⟩
    | ot l => obtain ⟨a, e, m, vs, h1, k, rr⟩ := z; exact ⟨_, e, q _ H (Same.refl H) ⟨a, vs, rfl, h1, k, rr⟩⟩
    | xc c l => exact q.elim
    | br l => obtain ⟨a, xs, e, m, h0, rr⟩ := z; exact ⟨_, e, q _ H (Same.refl H) ⟨a, xs, rfl, r.same _ _ h0, rr⟩⟩
    | ow t => exact q.elim
  · exact q.elim
@[simp] def xC (d : Dt) : XE := fun _ => .ok d
theorem sim_int {i : Int} : Sim K cl E (tC (.int i)) (xC (.int i)) := fun B H0 O σ D H r Q q => q _ H (Same.refl H) (.int i)
theorem sim_str {i : Str} : Sim K cl E (tC (.str i)) (xC (.str i)) := fun B H0 O σ D H r Q q => q _ H (Same.refl H) (.str i)
theorem sim_bl {i : Bool} : Sim K cl E (tC (.bl i)) (xC (.bl i)) := fun B H0 O σ D H r Q q => q _ H (Same.refl H) (.bl i)
theorem sim_ty {i : String} : Sim K cl E (tC (.ty i)) (xC (.ty i)) := fun B H0 O σ D H r Q q => q _ H (Same.refl H) (.ty i)
theorem sim_non : Sim K cl E (tC .non) (xC .non) := fun B H0 O σ D H r Q q => q _ H (Same.refl H) .non

@[simp] def x2 (f : Dt → Dt → R Dt) (xa xb : XE) : XE := fun D => (xa D).bind fun a => (xb D).bind fun b => f a b
theorem sim_op {r : R2} {f : Dt → Dt → R Dt} {ta tb : TE} {xa xb : XE} (ho : OpS K cl r f) (ha : SimB K cl E ta xa) (hb : SimB K cl E tb xb) : Sim K cl E (tOp r ta tb) (x2 f xa xb) := fun B H0 O σ D H s Q q => by
  unfold x2 at q
  refine ha B H0 O σ D H s _ ?_
  cases ea : xa D with
  | bad => rw [ea] at q; exact q.elim
  | ex c fs => rw [ea] at q; exact q
  | ok a =>
    rw [ea] at q
    intro x H1 e1 rx
    refine hb B H0 O σ D H1 (s.mono e1) _ ?_
    simp only [R.bind] at q
    cases eb : xb D with
    | bad => rw [eb] at q; exact q.elim
    | ex c fs => rw [eb] at q; exact ExOk.mono e1 q
    | ok b =>
      rw [eb] at q
      intro y H2 e2 ry
      refine ho O H2 x y a b (E σ) (fun a m => (((s.mono e1).mono e2).own a m).2) (rx.mono e2) ry Q ?_
      simp only [R.bind] at q
      revert q
      cases f a b with
      | bad => exact id
      | ex c fs => exact fun q => ExOk.mono (e1.trans e2) q
      | ok d => exact fun q v H' e h => q v H' ((e1.trans e2).trans e) h
@[simp] def x1 (f : Dt → R Dt) (xa : XE) : XE := fun D => (xa D).bind f
theorem sim_un {r : V → Hp → VK → Prop} {f : Dt → R Dt} {ta : TE} {xa : XE} (ho : UnS K cl r f) (ha : SimB K cl E ta xa) : Sim K cl E (tUn r ta) (x1 f xa) := fun B H0 O σ D H s Q q => by
  unfold x1 at q
  refine ha B H0 O σ D H s _ ?_
  cases ea : xa D with
  | bad => rw [ea] at q; exact q.elim
  | ex c fs => rw [ea] at q; exact q
  | ok a =>
    rw [ea] at q
    intro x H1 e1 rx
    refine ho O H1 x a (E σ) (fun a m => ((s.mono e1).own a m).2) rx Q ?_
    simp only [R.bind] at q
    revert q
    cases f a with
    | bad => exact id
    | ex c fs => exact fun q => ExOk.mono e1 q
    | ok d => exact fun q v H' e h => q v H' (e1.trans e) h

/-! arguments -/
@[simp] def xNil : XA := fun _ => .ok []
@[simp] def xCons (xa : XE) (xr : XA) : XA := fun D => (xa D).bind fun a => (xr D).bind fun r => .ok (a :: r)
theorem sa_nil : SimA K cl E tNil xNil := fun B H0 O σ D H r Q q => q _ H (Same.refl H) .nil
theorem sa_cons {ta : TE} {tr : TA} {xa : XE} {xr : XA} (ha : Sim K cl E ta xa) (hr : SimA K cl E tr xr) : SimA K cl E (tCons ta tr) (xCons xa xr) := fun B H0 O σ D H s Q q => by
  unfold xCons at q
  refine ha B H0 O σ D H s _ ?_
  cases ea : xa D with
  | bad => rw [ea] at q; exact q.elim
  | ex c fs => rw [ea] at q; exact q
  | ok a =>
    rw [ea] at q
    intro x H1 e1 rx
    refine hr B H0 O σ D H1 (s.mono e1) _ ?_
    simp only [R.bind] at q
    cases eb : xr D with
    | bad => rw [eb] at q; exact q.elim
    | ex c fs => rw [eb] at q; exact ExOk.mono e1 q
    | ok b =>
      rw [eb] at q
      intro y H2 e2 ry
      exact q _ H2 (e1.trans e2) (.cons (rx.mono (hid_mono e2)) ry)
theorem sba_nil : SimBA K cl E tNil xNil := fun B H0 O σ D H r Q q => q _ H (Same.refl H) .nil
theorem sba_cons {ta : TE} {tr : TA} {xa : XE} {xr : XA} (ha : SimB K cl E ta xa) (hr : SimBA K cl E tr xr) : SimBA K cl E (tCons ta tr) (xCons xa xr) := fun B H0 O σ D H s Q q => by
  unfold xCons at q
  refine ha B H0 O σ D H s _ ?_
  cases ea : xa D with
  | bad => rw [ea] at q; exact q.elim
  | ex c fs => rw [ea] at q; exact q
  | ok a =>
    rw [ea] at q
    intro x H1 e1 rx
    refine hr B H0 O σ D H1 (s.mono e1) _ ?_
    simp only [R.bind] at q
    cases eb : xr D with
    | bad => rw [eb] at q; exact q.elim
    | ex c fs => rw [eb] at q; exact ExOk.mono e1 q
    | ok b =>
      rw [eb] at q
      intro y H2 e2 ry
      exact q _ H2 (e1.trans e2) (.cons (rx.mono e2) ry)
@[simp] def xCB (f : List Dt → R Dt) (xa : XA) : XE := fun D => (xa D).bind f
@[simp] def xCBL (f : List Dt → R (List Dt)) (xa : XA) : XA := fun D => (xa D).bind f
theorem sim_cb {r : List V → Hp → VK → Prop} {f : List Dt → R Dt} {ta : TA} {xa : XA} (hr : CaS K cl r f) (ha : SimBA K cl E ta xa) : Sim K cl E (tCB r ta) (xCB f xa) := fun B H0 O σ D H s Q q => by
  refine ha B H0 O σ D H s _ ?_
  cases ea : xa D with
  | bad => simp only [xCB, xCBL, ea] at q; exact q.elim
  | ex c fs => simp only [xCB, xCBL, ea] at q; exact q
  | ok a =>
    simp only [xCB, xCBL, ea] at q
    intro x H1 e1 rx
    refine hr O H1 x a (E σ) (fun a m => ((s.mono e1).own a m).2) rx Q ?_
    simp only [R.bind] at q
    revert q
    cases f a with
    | bad => exact id
    | ex c fs => exact fun q => ExOk.mono e1 q
    | ok d => exact fun q v H' e h => q v H' (e1.trans e) h
theorem simL_cb {r : List V → Hp → VK → Prop} {f : List Dt → R (List Dt)} {ta : TA} {xa : XA} (hr : CaL K cl r f) (ha : SimBA K cl E ta xa) : SimL K cl E (tCB r ta) (xCBL f xa) := fun B H0 O σ D H s Q q => by
  refine ha B H0 O σ D H s _ ?_
  cases ea : xa D with
  | bad => simp only [xCB, xCBL, ea] at q; exact q.elim
  | ex c fs => simp only [xCB, xCBL, ea] at q; exact q
  | ok a =>
    simp only [xCB, xCBL, ea] at q
    intro x H1 e1 rx
    refine hr O H1 x a (E σ) (fun a m => ((s.mono e1).own a m).2) rx Q ?_
    simp only [R.bind] at q
    revert q
    cases f a with
    | bad => exact id
    | ex c fs => exact fun q => ExOk.mono e1 q
    | ok d => exact fun q p vs H' e n h1 h => q p vs H' (e1.trans e) (e1.free n) h1 h
/-- a new list as a shared value -/
@[simp] def xL (xl : XA) : XE := fun D => (xl D).bind fun l => .ok (.lst l)
theorem sim_L {te : TE} {xl : XA} (h : SimL K cl E te xl) : Sim K cl E te (xL xl) := fun B H0 O σ D H s Q q => by
  unfold xL at q
  refine h B H0 O σ D H s _ ?_
  cases ea : xl D with
  | bad => rw [ea] at q; exact q.elim
  | ex c fs => rw [ea] at q; exact q
  | ok a =>
    rw [ea] at q
    intro p vs H' e n h1 r
    have hp : p ∉ O := fun m => by
      have := (s.own p m).2
      rw [n] at this; exact mutO_none this
    exact q _ H' e (.lst ((hid_nin hp).trans h1) (r.mono (hid_sub fun a m => List.mem_cons_of_mem _ m)))

/-! displays -/
def capL {α : Type} (l : List α) (r : R β) : R β := if l.length ≤ 1000000 then r else .bad
theorem sz_of {n : Nat} (h : n ≤ 1000000) : n ≤ sizeLine := by rw [sizeLine_eq]; omega
theorem sz_lt {n : Nat} (h : n < 1000000) : n < sizeLine := by rw [sizeLine_eq]; omega
@[simp] def xTup (xa : XA) : XE := fun D => (xa D).bind fun l => if l.length ≤ 1000000 then .ok (.tup l) else .bad
@[simp] def xLst (xa : XA) : XA := fun D => (xa D).bind fun l => if l.length ≤ 1000000 then .ok l else .bad
theorem new_hid {H H1 : Hp} {p : Addr} {o : HO} (n : H1 p = none) {B : List Addr} {H0 : Hp} {σ : L2.St} {D : Ds} (s : RS K cl B H0 O σ D H) (e : Same H H1) : hid O (upd H1 p o) p = some o := by
  have hp : p ∉ O := fun m => by
    have := (s.own p m).2
    rw [e.free n] at this; exact mutO_none this
  rw [hid_nin hp, upd_same]
theorem same_upd {H : Hp} {p : Addr} {o : HO} (h : H p = none) : Same H (upd H p o) := fun b x e => by
  rw [upd_ne (ne_of_none e h)]
  exact e
theorem sim_tup {ta : TA} {xa : XA} (ha : SimA K cl E ta xa) : Sim K cl E (tTup ta) (xTup xa) := fun B H0 O σ D H s Q q => by
  unfold xTup at q
  refine ha B H0 O σ D H s _ ?_
  cases ea : xa D with
  | bad => rw [ea] at q; exact q.elim
  | ex c fs => rw [ea] at q; exact q
  | ok a =>
    rw [ea] at q
    intro vs H1 e1 r
    simp only [R.bind] at q
    split at q
    · rename_i hl
      refine ⟨by rw [r.len]; exact sz_of hl, fun p n => q _ _ (e1.trans (same_upd n)) (.tup (new_hid n s e1) (r.mono (hid_mono (same_upd n))))⟩
    · exact q.elim
theorem simL_lst {ta : TA} {xa : XA} (ha : SimA K cl E ta xa) : SimL K cl E (tLst ta) (xLst xa) := fun B H0 O σ D H s Q q => by
  unfold xLst at q
  refine ha B H0 O σ D H s _ ?_
  cases ea : xa D with
  | bad => rw [ea] at q; exact q.elim
  | ex c fs => rw [ea] at q; exact q
  | ok a =>
    rw [ea] at q
    intro vs H1 e1 r
    simp only [R.bind] at q
    split at q
    · rename_i hl
      refine ⟨by rw [r.len]; exact sz_of hl, fun p n => q p vs _ (e1.trans (same_upd n)) (e1.free n) upd_same (r.mono (hid_new (same_upd n) n))⟩
    · exact q.elim

/-! tests and truth of bools -/
def dTest : Dt → R Bool
  | .bl b => .ok b
  | _ => .bad
@[simp] theorem dTest_bl (b : Bool) : dTest (.bl b) = .ok b := rfl
@[simp] def xTest (xe : XE) : XT := fun D => (xe D).bind dTest
theorem st_test {te : TE} {xe : XE} (h : Sim K cl E te xe) : SimT K cl E (tTest te) (xTest xe) := fun B H0 O σ D H s Q q => by
  unfold xTest at q
  refine h B H0 O σ D H s _ ?_
  cases ea : xe D with
  | bad => rw [ea] at q; exact q.elim
  | ex c fs => rw [ea] at q; exact q
  | ok d =>
    rw [ea] at q
    cases d with
    | bl b =>
      intro v H' e r
      cases r
      exact ⟨b, rfl, q H' e⟩
    | _ => exact q.elim
theorem st_B {te : TE} {xe : XE} (h : Sim K cl E te xe) : SimT K cl E (tB te) (xTest xe) := st_test h
@[simp] def xAnd (xa xb : XT) : XT := fun D => (xa D).bind fun a => if a = true then xb D else .ok false
@[simp] def xOr (xa xb : XT) : XT := fun D => (xa D).bind fun a => if a = true then .ok true else xb D
@[simp] def xNot (xa : XT) : XT := fun D => (xa D).bind fun a => .ok (!a)
theorem post_T {E : XK} {Q : Bool → Hp → Prop} (e : Same H H') {x : R Bool} (q : PostT K cl E O H Q x) : PostT K cl E O H' Q x := by
  cases x with
  | bad => exact q
  | ex c fs => exact ExOk.mono e q
  | ok b => exact fun H2 e2 => q H2 (e.trans e2)
theorem post_E {E : XK} {Q : VK} (e : Same H H') {x : R Dt} (q : PostE K cl E O H Q x) : PostE K cl E O H' Q x := by
  cases x with
  | bad => exact q
  | ex c fs => exact ExOk.mono e q
  | ok b => exact fun v H2 e2 => q v H2 (e.trans e2)
theorem post_L {E : XK} {Q : VK} (e : Same H H') {x : R (List Dt)} (q : PostL K cl E O H Q x) : PostL K cl E O H' Q x := by
  cases x with
  | bad => exact q
  | ex c fs => exact ExOk.mono e q
  | ok b => exact fun p vs H2 e2 n => q p vs H2 (e.trans e2) (e.free n)
theorem st_and {ta tb : TT} {xa xb : XT} (ha : SimT K cl E ta xa) (hb : SimT K cl E tb xb) : SimT K cl E (tAnd ta tb) (xAnd xa xb) := fun B H0 O σ D H s Q q => by
  unfold xAnd at q
  refine ha B H0 O σ D H s _ ?_
  cases ea : xa D with
  | bad => rw [ea] at q; exact q.elim
  | ex c fs => rw [ea] at q; exact q
  | ok a =>
    rw [ea] at q
    intro H1 e1
    cases a with
    | true => exact hb B H0 O σ D H1 (s.mono e1) Q (post_T e1 q)
    | false => exact q H1 e1
theorem st_or {ta tb : TT} {xa xb : XT} (ha : SimT K cl E ta xa) (hb : SimT K cl E tb xb) : SimT K cl E (tOr ta tb) (xOr xa xb) := fun B H0 O σ D H s Q q => by
  unfold xOr at q
  refine ha B H0 O σ D H s _ ?_
  cases ea : xa D with
  | bad => rw [ea] at q; exact q.elim
  | ex c fs => rw [ea] at q; exact q
  | ok a =>
    rw [ea] at q
    intro H1 e1
    cases a with
    | false => exact hb B H0 O σ D H1 (s.mono e1) Q (post_T e1 q)
    | true => exact q H1 e1
theorem st_not {ta : TT} {xa : XT} (ha : SimT K cl E ta xa) : SimT K cl E (tNot ta) (xNot xa) := fun B H0 O σ D H s Q q => by
  unfold xNot at q
  refine ha B H0 O σ D H s _ ?_
  cases ea : xa D with
  | bad => rw [ea] at q; exact q.elim
  | ex c fs => rw [ea] at q; exact q
  | ok a => rw [ea] at q; exact fun H1 e1 => q H1 e1
def dAndV (r : R Dt) : Dt → R Dt
  | .bl true => r
  | .bl false => .ok (.bl false)
  | _ => .bad
@[simp] theorem dAndV_bl (r : R Dt) (b : Bool) : dAndV r (.bl b) = if b = true then r else .ok (.bl false) := by cases b <;> rfl
@[simp] def xAndV (xa xb : XE) : XE := fun D => (xa D).bind (dAndV (xb D))
def dOrV (r : R Dt) : Dt → R Dt
  | .bl false => r
  | .bl true => .ok (.bl true)
  | _ => .bad
@[simp] theorem dOrV_bl (r : R Dt) (b : Bool) : dOrV r (.bl b) = if b = true then .ok (.bl true) else r := by cases b <;> rfl
@[simp] def xOrV (xa xb : XE) : XE := fun D => (xa D).bind (dOrV (xb D))
def dNotV : Dt → R Dt
  | .bl b => .ok (.bl (!b))
  | _ => .bad
@[simp] theorem dNotV_bl (b : Bool) : dNotV (.bl b) = .ok (.bl (!b)) := rfl
@[simp] def xNotV (xa : XE) : XE := fun D => (xa D).bind dNotV
theorem sim_and {ta tb : TE} {xa xb : XE} (ha : Sim K cl E ta xa) (hb : Sim K cl E tb xb) : Sim K cl E (tAndV ta tb) (xAndV xa xb) := fun B H0 O σ D H s Q q => by
  unfold xAndV at q
  refine ha B H0 O σ D H s _ ?_
  cases ea : xa D with
  | bad => rw [ea] at q; exact q.elim
  | ex c fs => rw [ea] at q; exact q
  | ok a =>
    rw [ea] at q
    intro v H1 e1 r
    cases a with
    | bl b =>
      cases r
      refine ⟨b, rfl, ?_⟩
      cases b with
      | true => exact hb B H0 O σ D H1 (s.mono e1) Q (post_E e1 q)
      | false => exact q _ H1 e1 (.bl _)
    | _ => exact q.elim
theorem sim_or {ta tb : TE} {xa xb : XE} (ha : Sim K cl E ta xa) (hb : Sim K cl E tb xb) : Sim K cl E (tOrV ta tb) (xOrV xa xb) := fun B H0 O σ D H s Q q => by
  unfold xOrV at q
  refine ha B H0 O σ D H s _ ?_
  cases ea : xa D with
  | bad => rw [ea] at q; exact q.elim
  | ex c fs => rw [ea] at q; exact q
  | ok a =>
    rw [ea] at q
    intro v H1 e1 r
    cases a with
    | bl b =>
      cases r
      refine ⟨b, rfl, ?_⟩
      cases b with
      | false => exact hb B H0 O σ D H1 (s.mono e1) Q (post_E e1 q)
      | true => exact q _ H1 e1 (.bl _)
    | _ => exact q.elim
theorem sim_not {ta : TE} {xa : XE} (ha : Sim K cl E ta xa) : Sim K cl E (tNotV ta) (xNotV xa) := fun B H0 O σ D H s Q q => by
  unfold xNotV at q
  refine ha B H0 O σ D H s _ ?_
  cases ea : xa D with
  | bad => rw [ea] at q; exact q.elim
  | ex c fs => rw [ea] at q; exact q
  | ok a =>
    rw [ea] at q
    intro v H1 e1 r
    cases a with
    | bl b => cases r; exact ⟨b, rfl, q _ H1 e1 (.bl _)⟩
    | _ => exact q.elim
@[simp] def xIf (xt : XT) (xa xb : XE) : XE := fun D => (xt D).bind fun b => if b = true then xa D else xb D
theorem sim_if {tt : TT} {ta tb : TE} {xt : XT} {xa xb : XE} (ht : SimT K cl E tt xt) (ha : Sim K cl E ta xa) (hb : Sim K cl E tb xb) : Sim K cl E (tIf tt ta tb) (xIf xt xa xb) := fun B H0 O σ D H s Q q => by
  unfold xIf at q
  refine ht B H0 O σ D H s _ ?_
  cases ea : xt D with
  | bad => rw [ea] at q; exact q.elim
  | ex c fs => rw [ea] at q; exact q
  | ok b =>
    rw [ea] at q
    intro H1 e1
    cases b with
    | true => exact ha B H0 O σ D H1 (s.mono e1) Q (post_E e1 q)
    | false => exact hb B H0 O σ D H1 (s.mono e1) Q (post_E e1 q)

/-! calls of own defs -/
def PureSp (K : Fr) (cl : Cl) (f : List Dt → R Dt) : Sp := fun vs H Q E => ∃ B ds, (∀ a, a ∈ B → MutO (H a) = true) ∧ RepL K cl (hid B H) vs ds ∧ PostE K cl E B H Q (f ds)
theorem sim_call {f : List Dt → R Dt} {ta : TA} {xa : XA} {E0 : XK} (ha : SimA K cl (fun _ => E0) ta xa) : Sim K cl (fun _ => E0) (tCall (PureSp K cl f) [] E0 ta) (fun D => (xa D).bind f) := fun B H0 O σ D H s Q q => by
  refine ha B H0 O σ D H s _ ?_
  cases ea : xa D with
  | bad => simp only [ea] at q; exact q.elim
  | ex c fs => simp only [ea] at q; exact q
  | ok ds =>
    simp only [ea] at q
    intro vs H1 e1 r
    exact ⟨O, ds, fun a m => ((s.mono e1).own a m).2, by rw [List.append_nil]; exact r, post_E e1 q⟩
end
end Mx
namespace Mx
open PySem PySem.Spec PyProof.Rows L2

section
variable {K : Fr} {cl : Cl} {H H' H1 : Hp} {O : List Addr}
theorem ok_ret {E : XK} {Q : VK} {v : V} {d : Dt} (q : PostE K cl E O H Q (.ok d)) (h : Rep K cl (hid O H) v d) : Q v H := q v H (Same.refl H) h

/-! ### two ints -/
@[simp] def dI (f : Int → Int → R Dt) : Dt → Dt → R Dt
  | .int i, .int j => f i j
  | _, _ => .bad
theorem os_I0 {g : Int → Int → V} {f : Int → Int → Dt} (hg : ∀ i j (H : Hp), Rep K cl H (g i j) (f i j)) : OpS K cl (rI0 g) (dI fun i j => .ok (f i j)) := fun O H x y a b E ho rx ry Q q => by
  cases a with
  | int i =>
    cases b with
    | int j =>
      cases rx.int_; cases ry.int_
      exact ⟨i, j, rfl, rfl, ok_ret q (hg i j _)⟩
    | _ => exact q.elim
  | _ => exact q.elim
theorem os_I {C : Int → Int → Prop} [∀ i j, Decidable (C i j)] {g : Int → Int → V} {f : Int → Int → Dt} (hg : ∀ i j (H : Hp), Rep K cl H (g i j) (f i j)) : OpS K cl (rI C g) (dI fun i j => if C i j then .ok (f i j) else .bad) := fun O H x y a b E ho rx ry Q q => by
  cases a with
  | int i =>
    cases b with
    | int j =>
      cases rx.int_; cases ry.int_
      simp only [dI] at q
      split at q
      · rename_i h
        exact ⟨i, j, rfl, rfl, h, ok_ret q (hg i j _)⟩
      · exact q.elim
    | _ => exact q.elim
  | _ => exact q.elim
theorem OpS.alt {r r' : R2} {f g h : Dt → Dt → R Dt} (a : OpS K cl r f) (b : OpS K cl r' g) (e : ∀ x y, h x y = f x y ∨ h x y = g x y) : OpS K cl (fun x y H Q => r x y H Q ∨ r' x y H Q) h := fun O H x y u v E ho rx ry Q q => by
  rcases e u v with e | e
  · rw [e] at q; exact .inl (a O H x y u v E ho rx ry Q q)
  · rw [e] at q; exact .inr (b O H x y u v E ho rx ry Q q)

/-! ### + -/
def rAddS : R2 := fun x y H Q => ∃ i j, x = .str i ∧ y = .str j ∧ i.length + j.length ≤ sizeLine ∧ Q (.str (i ++ j)) H
@[simp] def dAddS : Dt → Dt → R Dt
  | .str i, .str j => if i.length + j.length ≤ 1000000 then .ok (.str (i ++ j)) else .bad
  | _, _ => .bad
theorem os_addS : OpS K cl rAddS dAddS := fun O H x y a b E ho rx ry Q q => by
  cases a with
  | str i =>
    cases b with
    | str j =>
      cases rx.str_; cases ry.str_
      simp only [dAddS] at q
      split at q
      · rename_i h
        exact ⟨i, j, rfl, rfl, sz_of h, ok_ret q (.str _)⟩
      · exact q.elim
    | _ => exact q.elim
  | _ => exact q.elim
theorem hid_upd_new {p : Addr} {o : HO} (n : H p = none) : Same (hid O H) (hid O (upd H p o)) := hid_mono (same_upd n)
theorem hid_at {p : Addr} {o : HO} (h : p ∉ O) : hid O (upd H p o) p = some o := by rw [hid_nin h, upd_same]
def dCat : Dt → Dt → R (List Dt)
  | .lst x, .lst y => if x.length + y.length ≤ 1000000 then .ok (x ++ y) else .bad
  | _, _ => .bad
def dAdd : Dt → Dt → R Dt
  | .int i, .int j => .ok (.int (i + j))
  | .str i, .str j => if i.length + j.length ≤ 1000000 then .ok (.str (i ++ j)) else .bad
  | _, _ => .bad
@[simp] theorem dAdd_int (i j : Int) : dAdd (.int i) (.int j) = .ok (.int (i + j)) := rfl
@[simp] theorem dAdd_str (i j : Str) : dAdd (.str i) (.str j) = if i.length + j.length ≤ 1000000 then .ok (.str (i ++ j)) else .bad := rfl
def rAdd : R2 := fun x y H Q => rI0 (fun i j => .int (i + j)) x y H Q ∨ rAddS x y H Q
theorem op_addA {X : Cx} : OpR X (binaryOp .Add) rAdd := OpR.or op_add op_add_str
theorem os_add : OpS K cl rAdd dAdd := OpS.alt (os_I0 (f := fun i j => .int (i + j)) fun i j H => .int _) os_addS fun x y => by
  cases x <;> cases y <;> first | exact .inl rfl | exact .inr rfl
abbrev rSub : R2 := rI0 fun i j => .int (i - j)
def dSub : Dt → Dt → R Dt := dI fun i j => .ok (.int (i - j))
@[simp] theorem dSub_int (i j : Int) : dSub (.int i) (.int j) = .ok (.int (i - j)) := rfl
theorem os_sub : OpS K cl rSub dSub := os_I0 fun i j H => .int _
/-! ### times -/
instance (i j : Int) : Decidable (CMul i j) := by unfold CMul; infer_instance
instance (i j : Int) : Decidable (CDiv i j) := by unfold CDiv; infer_instance
instance (i j : Int) : Decidable (CDivN i j) := by unfold CDivN; infer_instance
instance (i j : Int) : Decidable (CPow i j) := by unfold CPow; infer_instance
abbrev rMul : R2 := rI CMul fun i j => .int (i * j)
def dMul : Dt → Dt → R Dt := dI fun i j => if CMul i j then .ok (.int (i * j)) else .bad
@[simp] theorem dMul_int (i j : Int) : dMul (.int i) (.int j) = if CMul i j then .ok (.int (i * j)) else .bad := rfl
theorem os_mul : OpS K cl rMul dMul := os_I fun i j H => .int _
abbrev rFdiv : R2 := rI CDivN fun i j => .int (i.fdiv j)
def dFdiv : Dt → Dt → R Dt := dI fun i j => if CDivN i j then .ok (.int (i.fdiv j)) else .bad
@[simp] theorem dFdiv_int (i j : Int) : dFdiv (.int i) (.int j) = if CDivN i j then .ok (.int (i.fdiv j)) else .bad := rfl
theorem os_fdiv : OpS K cl rFdiv dFdiv := os_I fun i j H => .int _
abbrev rMod : R2 := rI (fun _ j => j ≠ 0) fun i j => .int (i.fmod j)
def dMod : Dt → Dt → R Dt := dI fun i j => if j ≠ 0 then .ok (.int (i.fmod j)) else .bad
@[simp] theorem dMod_int (i j : Int) : dMod (.int i) (.int j) = if j ≠ 0 then .ok (.int (i.fmod j)) else .bad := rfl
theorem os_mod : OpS K cl rMod dMod := os_I (C := fun _ j => j ≠ 0) fun i j H => .int _
abbrev rPow : R2 := rI CPow fun i j => .int (i ^ j.toNat)
def dPow : Dt → Dt → R Dt := dI fun i j => if CPow i j then .ok (.int (i ^ j.toNat)) else .bad
@[simp] theorem dPow_int (i j : Int) : dPow (.int i) (.int j) = if CPow i j then .ok (.int (i ^ j.toNat)) else .bad := rfl
theorem os_pow : OpS K cl rPow dPow := os_I fun i j H => .int _
abbrev rNeg : V → Hp → VK → Prop := rU fun i => .int (-i)
def dNeg : Dt → R Dt
  | .int i => .ok (.int (-i))
  | _ => .bad
@[simp] theorem dNeg_int (i : Int) : dNeg (.int i) = .ok (.int (-i)) := rfl
theorem us_neg : UnS K cl rNeg dNeg := fun O H x a E ho rx Q q => by
  cases a with
  | int i => cases rx.int_; exact ⟨i, rfl, ok_ret q (.int _)⟩
  | _ => exact q.elim
/-! ### order -/
abbrev rLtI : R2 := rI0 fun i j => .bl (decide (i < j))
abbrev rLe : R2 := rI0 fun i j => .bl (decide (i ≤ j))
abbrev rGt : R2 := rI0 fun i j => .bl (decide (j < i))
abbrev rGe : R2 := rI0 fun i j => .bl (decide (j ≤ i))
def dLtI : Dt → Dt → R Dt := dI fun i j => .ok (.bl (decide (i < j)))
@[simp] theorem dLtI_int (i j : Int) : dLtI (.int i) (.int j) = .ok (.bl (decide (i < j))) := rfl
def dLe : Dt → Dt → R Dt := dI fun i j => .ok (.bl (decide (i ≤ j)))
@[simp] theorem dLe_int (i j : Int) : dLe (.int i) (.int j) = .ok (.bl (decide (i ≤ j))) := rfl
def dGt : Dt → Dt → R Dt := dI fun i j => .ok (.bl (decide (j < i)))
@[simp] theorem dGt_int (i j : Int) : dGt (.int i) (.int j) = .ok (.bl (decide (j < i))) := rfl
def dGe : Dt → Dt → R Dt := dI fun i j => .ok (.bl (decide (j ≤ i)))
@[simp] theorem dGe_int (i j : Int) : dGe (.int i) (.int j) = .ok (.bl (decide (j ≤ i))) := rfl
theorem os_ltI : OpS K cl rLtI dLtI := os_I0 fun i j H => .bl _
theorem os_le : OpS K cl rLe dLe := os_I0 fun i j H => .bl _
theorem os_gt : OpS K cl rGt dGt := os_I0 fun i j H => .bl _
theorem os_ge : OpS K cl rGe dGe := os_I0 fun i j H => .bl _
/-! ### == -/
mutual
def Dt.py : Dt → PyData
  | .non => .none | .bl b => .bool b | .int i => .int i | .str s => .str s | .ty _ => .none
  | .tup l => .tuple (pyL l) | .lst l => .list (pyL l) | .frl l => .list (pyL l)
  | .ins _ _ => .none | .dk _ => .none | .dt _ => .none | .ftp _ => .none
def pyL : List Dt → List PyData
  | [] => []
  | d :: l => Dt.py d :: pyL l
end
mutual
def Dt.plain : Dt → Bool
  | .non => true | .bl _ => true | .int _ => true | .str _ => true | .ty _ => false
  | .tup l => plainL l | .lst l => plainL l | .frl l => plainL l
  | .ins _ _ => false | .dk _ => false | .dt _ => false | .ftp _ => false
def plainL : List Dt → Bool
  | [] => true
  | d :: l => Dt.plain d && plainL l
end
mutual
theorem Rep.dp : ∀ {v : V} {d : Dt}, Rep K cl H v d → d.plain = true → Dp K H v d.py
  | _, _, .non, _ => .non
  | _, _, .bl b, _ => .bl b
  | _, _, .int i, _ => .int i
  | _, _, .str s, _ => .str s
  | _, _, .tup h r, p => .tup (SqT.of h) (RepL.dp r (by simpa [Dt.plain] using p))
  | _, _, .lst h r, p => .lst (SqL.of h) (RepL.dp r (by simpa [Dt.plain] using p))
  | _, _, .frl h r, p => .lst h (RepL.dp r (by simpa [Dt.plain] using p))
  | _, _, .ty n, p => by simp [Dt.plain] at p
  | _, _, .ins .., p => by simp [Dt.plain] at p
  | _, _, .dk .., p => by simp [Dt.plain] at p
  | _, _, .dt .., p => by simp [Dt.plain] at p
  | _, _, .ftp .., p => by simp [Dt.plain] at p
theorem RepL.dp : ∀ {vs : List V} {ds : List Dt}, RepL K cl H vs ds → plainL ds = true → DpAll K H vs (pyL ds)
  | _, _, .nil, _ => .nil
  | _, _, .cons h r, p => by
    simp only [plainL, Bool.and_eq_true] at p
    exact .cons (Rep.dp h p.1) (RepL.dp r p.2)
end
/-! a comparison of data; nothing is asked of the signs of a text -/
mutual
theorem py_plain : ∀ (d : Dt), PyData.plain d.py = true
  | .non => rfl
  | .bl _ => rfl
  | .int _ => rfl
  | .str _ => rfl
  | .ty _ => rfl
  | .tup l => by simp only [Dt.py, PyData.plain]; exact pyL_plain l
  | .lst l => by simp only [Dt.py, PyData.plain]; exact pyL_plain l
  | .frl l => by simp only [Dt.py, PyData.plain]; exact pyL_plain l
  | .ins _ _ => rfl
  | .dk _ => rfl
  | .dt _ => rfl
  | .ftp _ => rfl
theorem pyL_plain : ∀ (l : List Dt), PyData.plainAll (pyL l) = true
  | [] => rfl
  | d :: l => by simp only [pyL, PyData.plainAll]; rw [py_plain d, pyL_plain l]; rfl
end
def rEqP (K : PySem.W.Frag) : R2 := fun x y H Q => ∃ d e, Dp K H x d ∧ Dp K H y e ∧ (PyData.plain d = true ∧ PyData.plain e = true) ∧ d.depth ≤ 64 ∧ Q (.bl (PyData.eqv d e)) H
def rNeP (K : PySem.W.Frag) : R2 := fun x y H Q => ∃ d e, Dp K H x d ∧ Dp K H y e ∧ (PyData.plain d = true ∧ PyData.plain e = true) ∧ d.depth ≤ 64 ∧ Q (.bl (!PyData.eqv d e)) H
theorem op_eqP {X : Cx} (hu : X.A.units + 64 < cLine) : OpR X (compareOp .Eq) (rEqP X.K) := by
  intro pins s σ H x y v u Q I rx ry h
  obtain ⟨d, e, hd, he, ⟨pd, pe⟩, sd, q⟩ := h
  obtain ⟨as, r1⟩ := Dp.reads I d x v hd rx
  obtain ⟨bs, r2⟩ := Dp.reads I e y u he ry
  exact SeqAt.eq_plain r1 r2 pd pe (by omega) ⟨.bl _, H, I, rfl, q⟩
theorem op_neP {X : Cx} (hu : X.A.units + 64 < cLine) : OpR X (compareOp .NotEq) (rNeP X.K) := by
  intro pins s σ H x y v u Q I rx ry h
  obtain ⟨d, e, hd, he, ⟨pd, pe⟩, sd, q⟩ := h
  obtain ⟨as, r1⟩ := Dp.reads I d x v hd rx
  obtain ⟨bs, r2⟩ := Dp.reads I e y u he ry
  exact SeqAt.ne_plain r1 r2 pd pe (by omega) ⟨.bl _, H, I, rfl, q⟩
/-- may be compared by == -/
def cmpOk (d : Dt) : Bool := d.plain && decide (d.py.depth ≤ 64)
def dEqv (a b : Dt) : Bool := PyData.eqv a.py b.py
def dEq (a b : Dt) : R Dt := if cmpOk a = true ∧ cmpOk b = true then .ok (.bl (dEqv a b)) else .bad
def dNe (a b : Dt) : R Dt := if cmpOk a = true ∧ cmpOk b = true then .ok (.bl (!dEqv a b)) else .bad
theorem os_eq : OpS K cl (rEqP K) dEq := fun O H x y a b E ho rx ry Q q => by
  unfold dEq at q
  split at q
  · rename_i h
    simp only [cmpOk, Bool.and_eq_true, decide_eq_true_iff] at h
    exact ⟨a.py, b.py, rx.full.dp h.1.1, ry.full.dp h.2.1, ⟨py_plain a, py_plain b⟩, h.1.2, ok_ret q (.bl _)⟩
  · exact q.elim
theorem os_ne : OpS K cl (rNeP K) dNe := fun O H x y a b E ho rx ry Q q => by
  unfold dNe at q
  split at q
  · rename_i h
    simp only [cmpOk, Bool.and_eq_true, decide_eq_true_iff] at h
    exact ⟨a.py, b.py, rx.full.dp h.1.1, ry.full.dp h.2.1, ⟨py_plain a, py_plain b⟩, h.1.2, ok_ret q (.bl _)⟩
  · exact q.elim
@[simp] theorem cmpOk_str (i : Str) : cmpOk (.str i) = true := rfl
@[simp] theorem cmpOk_non : cmpOk .non = true := rfl
/-- plain, and of no more than this depth -/
def Dt.fl (n : Nat) (d : Dt) : Prop := d.plain = true ∧ d.py.depth ≤ n
theorem fl_all {n : Nat} : ∀ {l : List Dt}, (∀ d ∈ l, d.fl n) → plainL l = true ∧ PyData.depthAll (pyL l) ≤ n
  | [], _ => ⟨rfl, Nat.zero_le _⟩
  | d :: l, h => by
    obtain ⟨h1, h2⟩ := h d List.mem_cons_self
    obtain ⟨h3, h4⟩ := fl_all fun x m => h x (List.mem_cons_of_mem _ m)
    simp only [plainL, pyL, PyData.depthAll, h1, h3]
    exact ⟨rfl, by omega⟩
theorem fl_tup {n : Nat} {l : List Dt} (h : ∀ d ∈ l, d.fl n) : (Dt.tup l).fl (n + 1) := by
  obtain ⟨h1, h2⟩ := fl_all h
  exact ⟨by simp only [Dt.plain]; exact h1, by simp only [Dt.py, PyData.depth]; omega⟩
theorem fl_lst {n : Nat} {l : List Dt} (h : ∀ d ∈ l, d.fl n) : (Dt.lst l).fl (n + 1) := by
  obtain ⟨h1, h2⟩ := fl_all h
  exact ⟨by simp only [Dt.plain]; exact h1, by simp only [Dt.py, PyData.depth]; omega⟩
theorem fl_int (i : Int) (n : Nat) : (Dt.int i).fl n := ⟨rfl, Nat.zero_le _⟩
theorem fl_str (i : Str) (n : Nat) : (Dt.str i).fl n := ⟨rfl, Nat.zero_le _⟩
theorem fl_cmp {n : Nat} {d : Dt} (h : d.fl n) (hn : n ≤ 64) : cmpOk d = true := by
  unfold cmpOk
  rw [h.1, decide_eq_true (Nat.le_trans h.2 hn)]; rfl
@[simp] theorem cmpOk_int (i : Int) : cmpOk (.int i) = true := rfl
@[simp] theorem cmpOk_bl (i : Bool) : cmpOk (.bl i) = true := rfl
@[simp] theorem dEqv_int (i j : Int) : dEqv (.int i) (.int j) = (i == j) := by simp [dEqv, Dt.py, PyData.eqv]
@[simp] theorem dEqv_str (i j : Str) : dEqv (.str i) (.str j) = (i == j) := by simp [dEqv, Dt.py, PyData.eqv]
/-! ### is None -/
def rIsN : R2 := fun x y H Q => y = .non ∧ Q (.bl (decide (x = .non))) H
def rNotN : R2 := fun x y H Q => y = .non ∧ Q (.bl (!decide (x = .non))) H
@[simp] def Dt.isNon : Dt → Bool
  | .non => true
  | _ => false
@[simp] def dIsN : Dt → Dt → R Dt
  | a, .non => .ok (.bl a.isNon)
  | _, _ => .bad
@[simp] def dNotN : Dt → Dt → R Dt
  | a, .non => .ok (.bl (!a.isNon))
  | _, _ => .bad
theorem RepB.isN {v : V} {d : Dt} (h : RepB K cl O H v d) : decide (v = .non) = d.isNon := by
  cases d with
  | non => cases h; rfl
  | lst l => obtain ⟨a, vs, rfl, _⟩ := h; rfl
  | tup l => obtain ⟨a, vs, rfl, _⟩ := h; rfl
  | frl l => obtain ⟨a, vs, rfl, _⟩ := h; rfl
  | ins c l => obtain ⟨a, C, dx, vs, rfl, _⟩ := h; rfl
  | dk l => obtain ⟨a, vs, rfl, _⟩ := h; rfl
  | dt l => obtain ⟨a, vs, rfl, _⟩ := h; rfl
  | ftp l => cases h; rfl
  | bl b => cases h; rfl
  | int b => cases h; rfl
  | str b => cases h; rfl
  | ty b => cases h; rfl
theorem os_isN : OpS K cl rIsN dIsN := fun O H x y a b E ho rx ry Q q => by
  cases b with
  | non => cases ry.non_; exact ⟨rfl, by rw [rx.isN]; exact ok_ret q (.bl _)⟩
  | _ => cases a <;> exact q.elim
theorem os_notN : OpS K cl rNotN dNotN := fun O H x y a b E ho rx ry Q q => by
  cases b with
  | non => cases ry.non_; exact ⟨rfl, by rw [rx.isN]; exact ok_ret q (.bl _)⟩
  | _ => cases a <;> exact q.elim
theorem op_isNA {X : Cx} : OpR X (compareOp .Is) rIsN := op_isN
theorem op_notNA {X : Cx} : OpR X (compareOp .IsNot) rNotN := op_notN

/-! ### index -/
theorem atI_rep {vs : List V} {ds : List Dt} (r : RepL K cl H vs ds) {i : Int} {d : Dt} (h : atI ds i = some d) : ∃ v, atI vs i = some v ∧ Rep K cl H v d := by
  unfold atI at h ⊢
  rw [r.len]
  obtain ⟨j, e, h⟩ := Option.bind_eq_some_iff.mp h
  obtain ⟨v, h1, h2⟩ := r.get h
  exact ⟨v, by rw [e]; exact h1, h2⟩
def opt {α : Type} : Option α → R α
  | some a => .ok a
  | none => .bad
@[simp] theorem opt_some {α : Type} (a : α) : opt (some a) = .ok a := rfl
@[simp] theorem opt_none {α : Type} : opt (none : Option α) = .bad := rfl
def dIx : Dt → Dt → R Dt
  | .lst l, .int i => opt (atI l i)
  | .tup l, .int i => opt (atI l i)
  | .frl l, .int i => opt (atI l i)
  | .str z, .int i => if z.length ≤ 1000000 then (opt (atI z.cps.toList i)).bind fun c => .ok (.str ⟨#[c]⟩) else .bad
  | _, _ => .bad
@[simp] theorem dIx_lst (l : List Dt) (i : Int) : dIx (.lst l) (.int i) = opt (atI l i) := rfl
@[simp] theorem dIx_tup (l : List Dt) (i : Int) : dIx (.tup l) (.int i) = opt (atI l i) := rfl
@[simp] theorem dIx_frl (l : List Dt) (i : Int) : dIx (.frl l) (.int i) = opt (atI l i) := rfl
theorem os_ix : OpS K cl (rIx K) dIx := fun O H x y a b E ho rx ry Q q => by
  cases b with
  | int i =>
    cases ry.int_
    cases a with
    | lst l =>
      obtain ⟨p, vs, rfl, h, r⟩ := rx
      simp only [dIx_lst] at q
      cases e : atI l i with
      | none => rw [e] at q; exact q.elim
      | some d =>
        rw [e] at q
        obtain ⟨v, e1, rv⟩ := atI_rep r e
        exact .inl ⟨p, vs, i, v, rfl, rfl, SqL.of h, e1, ok_ret q rv⟩
    | frl l =>
      obtain ⟨p, vs, rfl, h, r⟩ := rx
      simp only [dIx_frl] at q
      cases e : atI l i with
      | none => rw [e] at q; exact q.elim
      | some d =>
        rw [e] at q
        obtain ⟨v, e1, rv⟩ := atI_rep r e
        exact .inl ⟨p, vs, i, v, rfl, rfl, h, e1, ok_ret q rv⟩
    | tup l =>
      obtain ⟨p, vs, rfl, h, r⟩ := rx
      simp only [dIx_tup] at q
      cases e : atI l i with
      | none => rw [e] at q; exact q.elim
      | some d =>
        rw [e] at q
        obtain ⟨v, e1, rv⟩ := atI_rep r e
        exact .inr (.inl ⟨p, vs, i, v, rfl, rfl, SqT.of h, e1, ok_ret q rv⟩)
    | str z =>
      cases rx.str_
      simp only [dIx] at q
      split at q
      · rename_i hz
        cases e : atI z.cps.toList i with
        | none => rw [e] at q; exact q.elim
        | some c =>
          rw [e] at q
          exact .inr (.inr ⟨z, i, c, rfl, rfl, sz_of hz, e, ok_ret q (.str _)⟩)
      · exact q.elim
    | _ => exact q.elim
  | _ => cases a <;> exact q.elim
/-! ### slices -/
@[simp] def xNo : Ds → R (Option Int) := fun _ => .ok none
def dPart : Dt → R (Option Int)
  | .int i => .ok (some i)
  | _ => .bad
@[simp] theorem dPart_int (i : Int) : dPart (.int i) = .ok (some i) := rfl
@[simp] def xPart (xe : XE) : Ds → R (Option Int) := fun D => (xe D).bind dPart
def SimO (K : Fr) (cl : Cl) (E : L2.St → XK) (to : TO) (xo : Ds → R (Option Int)) : Prop := ∀ B H0 O σ D H, RS K cl B H0 O σ D H → ∀ Q : Option Int → Hp → Prop,
  (match xo D with
   | .bad => False
   | .ex c fs => ExOk K cl (E σ) O c fs H
   | .ok o => ∀ H', Same H H' → Q o H') → to σ H Q
theorem so_no {E : L2.St → XK} : SimO K cl E tNoPart xNo := fun B H0 O σ D H r Q q => q H (Same.refl H)
theorem so_part {E : L2.St → XK} {te : TE} {xe : XE} (h : Sim K cl E te xe) : SimO K cl E (tPart te) (xPart xe) := fun B H0 O σ D H s Q q => by
  unfold xPart at q
  refine h B H0 O σ D H s _ ?_
  cases ea : xe D with
  | bad => rw [ea] at q; exact q.elim
  | ex c fs => rw [ea] at q; exact q
  | ok d =>
    rw [ea] at q
    cases d with
    | int b =>
      intro v H' e r
      cases r
      exact ⟨b, rfl, q H' e⟩
    | _ => exact q.elim
def cutD (xs : List Dt) (lo hi : Option Int) : List Dt := (xs.drop (HT.sIx xs.length 0 lo)).take (HT.sIx xs.length xs.length hi - HT.sIx xs.length 0 lo)
theorem cut_rep {vs : List V} {ds : List Dt} (r : RepL K cl H vs ds) (lo hi : Option Int) : RepL K cl H (cutV vs lo hi) (cutD ds lo hi) := by
  unfold cutV cutD
  rw [r.len]
  exact (r.drop _).take _
/-- slices of texts -/
@[simp] def xSlS (xe : XE) (xl xh : Ds → R (Option Int)) : XE := fun D => (xe D).bind fun a => (xl D).bind fun l => (xh D).bind fun h => match a with
  | .str z => if z.length ≤ 1000000 then .ok (.str (cutS z l h)) else .bad
  | _ => .bad
theorem sim_slS {E : L2.St → XK} {te : TE} {tl th : TO} {xe : XE} {xl xh : Ds → R (Option Int)} (he : SimB K cl E te xe) (hl : SimO K cl E tl xl) (hh : SimO K cl E th xh) : Sim K cl E (tSl rSlS te tl th) (xSlS xe xl xh) := fun B H0 O σ D H s Q q => by
  unfold xSlS at q
  refine he B H0 O σ D H s _ ?_
  cases ea : xe D with
  | bad => rw [ea] at q; exact q.elim
  | ex c fs => rw [ea] at q; exact q
  | ok a =>
    rw [ea] at q
    intro x H1 e1 rx
    refine hl B H0 O σ D H1 (s.mono e1) _ ?_
    simp only [R.bind] at q
    cases el : xl D with
    | bad => rw [el] at q; exact q.elim
    | ex c fs => rw [el] at q; exact ExOk.mono e1 q
    | ok l =>
      rw [el] at q
      intro H2 e2
      refine hh B H0 O σ D H2 ((s.mono e1).mono e2) _ ?_
      simp only [R.bind] at q
      cases eh : xh D with
      | bad => rw [eh] at q; exact q.elim
      | ex c fs => rw [eh] at q; exact ExOk.mono (e1.trans e2) q
      | ok h =>
        rw [eh] at q
        intro H3 e3
        cases a with
        | str z =>
          cases rx.str_
          simp only at q
          split at q
          · rename_i hz
            exact ⟨z, rfl, sz_of hz, q _ H3 ((e1.trans e2).trans e3) (.str _)⟩
          · exact q.elim
        | _ => exact q.elim
/-- slices of lists -/
@[simp] def xSlL (xe : XE) (xl xh : Ds → R (Option Int)) : XA := fun D => (xe D).bind fun a => (xl D).bind fun l => (xh D).bind fun h => match a with
  | .lst z => .ok (cutD z l h)
  | .frl z => .ok (cutD z l h)
  | _ => .bad
theorem simL_sl {E : L2.St → XK} {te : TE} {tl th : TO} {xe : XE} {xl xh : Ds → R (Option Int)} (he : SimB K cl E te xe) (hl : SimO K cl E tl xl) (hh : SimO K cl E th xh) : SimL K cl E (tSl (rSlL K) te tl th) (xSlL xe xl xh) := fun B H0 O σ D H s Q q => by
  unfold xSlL at q
  refine he B H0 O σ D H s _ ?_
  cases ea : xe D with
  | bad => rw [ea] at q; exact q.elim
  | ex c fs => rw [ea] at q; exact q
  | ok a =>
    rw [ea] at q
    intro x H1 e1 rx
    refine hl B H0 O σ D H1 (s.mono e1) _ ?_
    simp only [R.bind] at q
    cases el : xl D with
    | bad => rw [el] at q; exact q.elim
    | ex c fs => rw [el] at q; exact ExOk.mono e1 q
    | ok l =>
      rw [el] at q
      intro H2 e2
      refine hh B H0 O σ D H2 ((s.mono e1).mono e2) _ ?_
      simp only [R.bind] at q
      cases eh : xh D with
      | bad => rw [eh] at q; exact q.elim
      | ex c fs => rw [eh] at q; exact ExOk.mono (e1.trans e2) q
      | ok h =>
        rw [eh] at q
        intro H3 e3
        have e123 := (e1.trans e2).trans e3
        cases a with
        | lst z =>
          obtain ⟨p, vs, rfl, h1, r⟩ := rx.mono (e2.trans e3)
          refine ⟨p, vs, rfl, SqL.of h1, fun p n => q p _ _ (e123.trans (same_upd n)) (e123.free n) upd_same ((cut_rep r l h).mono (hid_new (same_upd n) n))⟩
        | frl z =>
          obtain ⟨p, vs, rfl, h1, r⟩ := rx.mono (e2.trans e3)
          refine ⟨p, vs, rfl, h1, fun p n => q p _ _ (e123.trans (same_upd n)) (e123.free n) upd_same ((cut_rep r l h).mono (hid_new (same_upd n) n))⟩
        | _ => exact q.elim

/-! ### calls of built-ins -/
def dLen : List Dt → R Dt
  | [.lst l] => .ok (.int (l.length : Nat))
  | [.tup l] => .ok (.int (l.length : Nat))
  | [.frl l] => .ok (.int (l.length : Nat))
  | [.str z] => if z.length ≤ 1000000 then .ok (.int (z.length : Nat)) else .bad
  | _ => .bad
@[simp] theorem dLen_lst (l : List Dt) : dLen [.lst l] = .ok (.int (l.length : Nat)) := rfl
@[simp] theorem dLen_tup (l : List Dt) : dLen [.tup l] = .ok (.int (l.length : Nat)) := rfl
@[simp] theorem dLen_frl (l : List Dt) : dLen [.frl l] = .ok (.int (l.length : Nat)) := rfl
@[simp] theorem dLen_str (z : Str) : dLen [.str z] = if z.length ≤ 1000000 then .ok (.int (z.length : Nat)) else .bad := rfl
def rLen (K : Fr) : List V → Hp → VK → Prop := fun xs H Q => ∃ x n, xs = [x] ∧ LenV K x H n ∧ Q (.int n) H
theorem call_lenA {X : Cx} : CallR X (.builtin "len") (rLen X.K) := call_len
theorem RepBL.one {vs : List V} {d : Dt} (h : RepBL K cl O H vs [d]) : ∃ v, vs = [v] ∧ RepB K cl O H v d := by
  cases h with
  | cons a b => cases b; exact ⟨_, rfl, a⟩
theorem RepBL.two {vs : List V} {d e : Dt} (h : RepBL K cl O H vs [d, e]) : ∃ v w, vs = [v, w] ∧ RepB K cl O H v d ∧ RepB K cl O H w e := by
  cases h with
  | cons a b => cases b with | cons b c => cases c; exact ⟨_, _, rfl, a, b⟩
theorem cs_len : CaS K cl (rLen K) dLen := fun O H xs ds E ho r Q q => by
  match ds, r, q with
  | [.lst l], r, q =>
    obtain ⟨v, rfl, a, vs, rfl, h, rr⟩ := r.one
    exact ⟨_, _, rfl, .inl ⟨vs, SqL.of h, rfl⟩, by rw [rr.len]; exact ok_ret q (.int _)⟩
  | [.frl l], r, q =>
    obtain ⟨v, rfl, a, vs, rfl, h, rr⟩ := r.one
    exact ⟨_, _, rfl, .inl ⟨vs, h, rfl⟩, by rw [rr.len]; exact ok_ret q (.int _)⟩
  | [.tup l], r, q =>
    obtain ⟨v, rfl, a, vs, rfl, h, rr⟩ := r.one
    exact ⟨_, _, rfl, .inr ⟨vs, SqT.of h, rfl⟩, by rw [rr.len]; exact ok_ret q (.int _)⟩
  | [.str z], r, q =>
    obtain ⟨v, rfl, h⟩ := r.one
    cases h.str_
    simp only [dLen] at q
    split at q
    · rename_i hz
      exact ⟨_, _, rfl, ⟨sz_of hz, rfl⟩, ok_ret q (.int _)⟩
    · exact q.elim
  | [], _, q => exact q.elim
  | [.non], _, q => exact q.elim
  | [.bl _], _, q => exact q.elim
  | [.int _], _, q => exact q.elim
  | [.ty _], _, q => exact q.elim
  | [.ins _ _], _, q => exact q.elim
  | [.dk _], _, q => exact q.elim
  | [.dt _], _, q => exact q.elim
  | _ :: _ :: _, _, q => simp only [dLen] at q; exact q.elim
def rInt : List V → Hp → VK → Prop := fun xs H Q => (∃ i, xs = [.int i] ∧ Q (.int i) H) ∨ ∃ k, xs = [.bl k] ∧ Q (.int (if k then 1 else 0)) H
theorem call_intA {X : Cx} : CallR X (.type "int") rInt := call_int1
@[simp] def dInt : List Dt → R Dt
  | [.int i] => .ok (.int i)
  | [.bl k] => .ok (.int (if k then 1 else 0))
  | _ => .bad
theorem cs_int : CaS K cl rInt dInt := fun O H xs ds E ho r Q q => by
  unfold dInt at q
  split at q
  · obtain ⟨v, rfl, h⟩ := r.one
    cases h.int_
    exact .inl ⟨_, rfl, ok_ret q (.int _)⟩
  · obtain ⟨v, rfl, h⟩ := r.one
    cases h.bl_
    exact .inr ⟨_, rfl, ok_ret q (.int _)⟩
  · exact q.elim
def rStrI : List V → Hp → VK → Prop := fun xs H Q => ∃ i, xs = [.int i] ∧ i.natAbs.log2 < 1920 ∧ Q (.str (toString i)) H
@[simp] def dStr : List Dt → R Dt
  | [.int i] => if i.natAbs.log2 < 1920 then .ok (.str (toString i)) else .bad
  | _ => .bad
theorem call_strA {X : Cx} : CallR X (.type "str") rStrI := call_str_int
theorem cs_str : CaS K cl rStrI dStr := fun O H xs ds E ho r Q q => by
  unfold dStr at q
  split at q
  · obtain ⟨v, rfl, h⟩ := r.one
    cases h.int_
    split at q
    · rename_i hl
      exact ⟨_, rfl, hl, ok_ret q (.str _)⟩
    · exact q.elim
  · exact q.elim
def rAbs : List V → Hp → VK → Prop := fun xs H Q => ∃ i, xs = [.int i] ∧ Q (.int (if i < 0 then -i else i)) H
@[simp] def dAbs : List Dt → R Dt
  | [.int i] => .ok (.int (if i < 0 then -i else i))
  | _ => .bad
theorem call_absA {X : Cx} : CallR X (.builtin "abs") rAbs := call_abs
theorem cs_abs : CaS K cl rAbs dAbs := fun O H xs ds E ho r Q q => by
  unfold dAbs at q
  split at q
  · obtain ⟨v, rfl, h⟩ := r.one
    cases h.int_
    exact ⟨_, rfl, ok_ret q (.int _)⟩
  · exact q.elim
def rMax2 : List V → Hp → VK → Prop := fun xs H Q => ∃ i j, xs = [.int i, .int j] ∧ Q (.int (if j > i then j else i)) H
def rMin2 : List V → Hp → VK → Prop := fun xs H Q => ∃ i j, xs = [.int i, .int j] ∧ Q (.int (if j < i then j else i)) H
@[simp] def dMax2 : List Dt → R Dt
  | [.int i, .int j] => .ok (.int (if j > i then j else i))
  | _ => .bad
@[simp] def dMin2 : List Dt → R Dt
  | [.int i, .int j] => .ok (.int (if j < i then j else i))
  | _ => .bad
theorem call_max2A {X : Cx} (h : X.calm = true) : CallR X (.builtin "max") rMax2 := call_max2 h
theorem call_min2A {X : Cx} (h : X.calm = true) : CallR X (.builtin "min") rMin2 := call_min2 h
theorem cs_max2 : CaS K cl rMax2 dMax2 := fun O H xs ds E ho r Q q => by
  unfold dMax2 at q
  split at q
  · obtain ⟨v, w, rfl, h, h'⟩ := r.two
    cases h.int_; cases h'.int_
    exact ⟨_, _, rfl, ok_ret q (.int _)⟩
  · exact q.elim
theorem cs_min2 : CaS K cl rMin2 dMin2 := fun O H xs ds E ho r Q q => by
  unfold dMin2 at q
  split at q
  · obtain ⟨v, w, rfl, h, h'⟩ := r.two
    cases h.int_; cases h'.int_
    exact ⟨_, _, rfl, ok_ret q (.int _)⟩
  · exact q.elim
/-- all of a list of bools -/
def bools : List Dt → Option (List Bool)
  | [] => some []
  | .bl b :: l => (bools l).map fun r => b :: r
  | _ :: _ => none
@[simp] theorem bools_map : ∀ l : List Bool, bools (l.map Dt.bl) = some l
  | [] => rfl
  | b :: l => by rw [List.map_cons]; unfold bools; rw [bools_map l]; rfl
theorem bools_rep : ∀ {vs : List V} {ds : List Dt} {bs : List Bool}, RepL K cl H vs ds → bools ds = some bs → vs = bs.map V.bl
  | _, _, _, .nil, e => by simp only [bools, Option.some.injEq] at e; subst e; rfl
  | _, _, bs, .cons (d := d) (ds := ds) h r, e => by
    cases d with
    | bl b =>
      cases h
      unfold bools at e
      obtain ⟨l, e2, rfl⟩ := Option.map_eq_some_iff.mp e
      rw [bools_rep r e2]; rfl
    | _ => simp [bools] at e
@[simp] def dAll : List Dt → R Dt
  | [.lst l] => (opt (bools l)).bind fun bs => .ok (.bl (bs.all id))
  | _ => .bad
@[simp] def dAny : List Dt → R Dt
  | [.lst l] => (opt (bools l)).bind fun bs => .ok (.bl (bs.any id))
  | _ => .bad
theorem cs_all : CaS K cl (rAll K) dAll := fun O H xs ds E ho r Q q => by
  unfold dAll at q
  split at q
  · obtain ⟨v, rfl, a, vs, rfl, h, rr⟩ := r.one
    rename_i l
    cases e : bools l with
    | none => rw [e] at q; exact q.elim
    | some bs =>
      rw [e] at q
      exact ⟨a, bs, rfl, by rw [← bools_rep rr e]; exact SqL.of h, ok_ret q (.bl _)⟩
  · exact q.elim
theorem cs_any : CaS K cl (rAny K) dAny := fun O H xs ds E ho r Q q => by
  unfold dAny at q
  split at q
  · obtain ⟨v, rfl, a, vs, rfl, h, rr⟩ := r.one
    rename_i l
    cases e : bools l with
    | none => rw [e] at q; exact q.elim
    | some bs =>
      rw [e] at q
      exact ⟨a, bs, rfl, by rw [← bools_rep rr e]; exact SqL.of h, ok_ret q (.bl _)⟩
  · exact q.elim
/-! ### isinstance with a built-in class -/
def Dt.tyN : Dt → Option String
  | .non => some "NoneType" | .bl _ => some "bool" | .int _ => some "int" | .str _ => some "str"
  | .tup _ => some "tuple" | .lst _ => some "list" | .dk _ => some "dict" | .dt _ => some "dict" | _ => none
def dIsi : List Dt → R Dt
  | [d, .ty n] => (opt (d.tyN.bind fun t => kitB t n)).bind fun b => .ok (.bl b)
  | _ => .bad
theorem cs_isi : CaS K cl (rIsi K) dIsi := fun O H xs ds E ho r Q q => by
  unfold dIsi at q
  split at q
  · rename_i d n
    obtain ⟨v, w, rfl, h, h'⟩ := r.two
    cases h'.ty_
    cases e : d.tyN with
    | none => rw [e] at q; exact q.elim
    | some t =>
      rw [e] at q
      simp only [Option.bind_some] at q
      cases e2 : kitB t n with
      | none => rw [e2] at q; exact q.elim
      | some b =>
        rw [e2] at q
        refine ⟨v, .ty n, .type t, .type n, b, rfl, .ty n, ?_, kit_ty e2, ok_ret q (.bl _)⟩
        cases d with
        | non => cases h; cases e; exact .base .non
        | bl b => cases h; cases e; exact .base (.bl _)
        | int b => cases h; cases e; exact .base (.int _)
        | str b => cases h; cases e; exact .base (.str _)
        | tup l => obtain ⟨a, vs, rfl, h, _⟩ := h; cases e; exact .base (.tup h)
        | lst l => obtain ⟨a, vs, rfl, h, _⟩ := h; cases e; exact .base (.lst h)
        | dk l => obtain ⟨a, vs, rfl, h, _⟩ := h; cases e; exact .base (.dK h)
        | dt l => obtain ⟨a, vs, rfl, h, _⟩ := h; cases e; exact .base (.dT h)
        | _ => cases e
  · exact q.elim
/-! ### list(x), tuple(x) -/
def rListOf (K : Fr) : List V → Hp → VK → Prop := fun xs H Q => ∃ p ys, xs = [.ref p] ∧ (SqL K H p ys ∨ SqT K H p ys) ∧ ∀ l, H l = none → Q (.ref l) (upd H l (.lst ys))
theorem call_listA {X : Cx} : CallR X (.type "list") (rListOf X.K) := call_list_of
@[simp] def dList : List Dt → R (List Dt)
  | [.lst l] => .ok l
  | [.tup l] => .ok l
  | [.frl l] => .ok l
  | _ => .bad
theorem new_post {E : XK} {Q : VK} {ds : List Dt} {vs : List V} (q : PostL K cl E O H Q (.ok ds)) (r : RepL K cl (hid O H) vs ds) : ∀ l, H l = none → Q (.ref l) (upd H l (.lst vs)) := fun p n =>
  q p vs _ (same_upd n) n upd_same (r.mono (hid_new (same_upd n) n))
theorem cl_list : CaL K cl (rListOf K) dList := fun O H xs ds E ho r Q q => by
  unfold dList at q
  split at q
  · obtain ⟨v, rfl, a, vs, rfl, h, rr⟩ := r.one
    exact ⟨a, vs, rfl, .inl (SqL.of h), new_post q rr⟩
  · obtain ⟨v, rfl, a, vs, rfl, h, rr⟩ := r.one
    exact ⟨a, vs, rfl, .inr (SqT.of h), new_post q rr⟩
  · obtain ⟨v, rfl, a, vs, rfl, h, rr⟩ := r.one
    exact ⟨a, vs, rfl, .inl h, new_post q rr⟩
  · exact q.elim
def rTupleOf (K : Fr) : List V → Hp → VK → Prop := fun xs H Q => ∃ p ys, xs = [.ref p] ∧ ((SqL K H p ys ∧ ∀ l, H l = none → Q (.ref l) (upd H l (.tup ys))) ∨ (SqT K H p ys ∧ Q (.ref p) H))
theorem call_tupleA {X : Cx} : CallR X (.type "tuple") (rTupleOf X.K) := call_tuple_of
@[simp] def dTuple : List Dt → R Dt
  | [.lst l] => .ok (.tup l)
  | [.frl l] => .ok (.tup l)
  | _ => .bad
theorem trk_nin (ho : Trk O H) {p : Addr} (n : H p = none) : p ∉ O := fun m => by
  have := ho p m
  rw [n] at this; exact mutO_none this
theorem new_tup {E : XK} {Q : VK} {ds : List Dt} {vs : List V} (ho : Trk O H) (q : PostE K cl E O H Q (.ok (.tup ds))) (r : RepL K cl (hid O H) vs ds) : ∀ l, H l = none → Q (.ref l) (upd H l (.tup vs)) := fun p n =>
  q _ _ (same_upd n) (.tup (hid_at (trk_nin ho n)) (r.mono (hid_upd_new n)))
theorem cs_tuple : CaS K cl (rTupleOf K) dTuple := fun O H xs ds E ho r Q q => by
  unfold dTuple at q
  split at q
  · obtain ⟨v, rfl, a, vs, rfl, h, rr⟩ := r.one
    exact ⟨a, vs, rfl, .inl ⟨SqL.of h, new_tup ho q rr⟩⟩
  · obtain ⟨v, rfl, a, vs, rfl, h, rr⟩ := r.one
    exact ⟨a, vs, rfl, .inl ⟨h, new_tup ho q rr⟩⟩
  · exact q.elim
/-! ### methods of texts -/
@[simp] def xBM (f : Dt → List Dt → R Dt) (xo : XE) (xa : XA) : XE := fun D => (xo D).bind fun o => (xa D).bind fun a => f o a
def MtS (K : Fr) (cl : Cl) (T : String) (r : V → List V → Hp → VK → Prop) (f : Dt → List Dt → R Dt) : Prop := ∀ O H H' x xs a ds E, Same H H' → Trk O H' → RepB K cl O H x a → RepBL K cl O H' xs ds → ∀ Q : VK, PostE K cl E O H' Q (f a ds) → tyV K T x H ∧ r x xs H' Q
/-- the receiver's type is asked ahead of the arguments: a value that says it -/
def TyS (K : Fr) (cl : Cl) (T : String) (g : Dt → Bool) : Prop := ∀ O H x a, RepB K cl O H x a → g a = true → tyV K T x H
@[simp] def xBMg (g : Dt → Bool) (f : Dt → List Dt → R Dt) (xo : XE) (xa : XA) : XE := fun D => (xo D).bind fun o => if g o = true then (xa D).bind fun a => f o a else .bad
theorem sim_bm {E : L2.St → XK} {T : String} {r : V → List V → Hp → VK → Prop} {f : Dt → List Dt → R Dt} {g : Dt → Bool} {to : TE} {t : TA} {xo : XE} {xa : XA} (ht : TyS K cl T g)
    (hr : ∀ O H x xs a ds E, Trk O H → RepB K cl O H x a → RepBL K cl O H xs ds → ∀ Q : VK, PostE K cl E O H Q (f a ds) → r x xs H Q) (ho : SimB K cl E to xo) (ha : SimBA K cl E t xa) :
    Sim K cl E (tBM K T r to t) (xBMg g f xo xa) := fun B H0 O σ D H s Q q => by
  refine ho B H0 O σ D H s _ ?_
  cases ea : xo D with
  | bad => simp only [xBMg, ea] at q; exact q.elim
  | ex c fs => simp only [xBMg, ea] at q; exact q
  | ok o =>
    simp only [xBMg, ea, R.bind] at q
    intro x H1 e1 rx
    split at q
    · rename_i hg
      refine ⟨ht O H1 x o rx hg, ?_⟩
      refine ha B H0 O σ D H1 (s.mono e1) _ ?_
      cases eb : xa D with
      | bad => simp only [eb] at q; exact q.elim
      | ex c fs => simp only [eb] at q; exact ExOk.mono e1 q
      | ok ds =>
        simp only [eb] at q
        intro vs H2 e2 rv
        exact hr O H2 x vs o ds (E σ) (fun a m => (((s.mono e1).mono e2).own a m).2) (rx.mono e2) rv Q (post_E (e1.trans e2) q)
    · exact q.elim
@[simp] def Dt.isStr : Dt → Bool
  | .str _ => true
  | _ => false
theorem ty_str : TyS K cl "str" Dt.isStr := fun O H x a h g => by
  cases a with
  | str z => cases h.str_; rfl
  | _ => cases g
def dstrs : List Dt → Option (List Str)
  | [] => some []
  | .str b :: l => (dstrs l).map fun r => b :: r
  | _ :: _ => none
@[simp] theorem dstrs_map : ∀ l : List Str, dstrs (l.map Dt.str) = some l
  | [] => rfl
  | b :: l => by rw [List.map_cons]; unfold dstrs; rw [dstrs_map l]; rfl
theorem dstrs_rep : ∀ {vs : List V} {ds : List Dt} {bs : List Str}, RepL K cl H vs ds → dstrs ds = some bs → vs = bs.map V.str
  | _, _, _, .nil, e => by simp only [dstrs, Option.some.injEq] at e; subst e; rfl
  | _, _, bs, .cons (d := d) (ds := ds) h r, e => by
    cases d with
    | str b =>
      cases h
      unfold dstrs at e
      obtain ⟨l, e2, rfl⟩ := Option.map_eq_some_iff.mp e
      rw [dstrs_rep r e2]; rfl
    | _ => simp [dstrs] at e
def rJoin (K : Fr) : V → List V → Hp → VK → Prop := fun x xs H Q => ∃ a p, ∃ ys : List Str, x = .str a ∧ xs = [.ref p] ∧ (SqL K H p (ys.map V.str) ∨ SqT K H p (ys.map V.str)) ∧ (ys.map (·.length)).sum + ys.length * a.length ≤ 16777216 ∧ Q (.str (Txt.join a ys)) H
theorem mt_joinA {X : Cx} : MtR X "str.join" (rJoin X.K) := mt_join
def dJoin : Dt → List Dt → R Dt
  | .str a, [.lst l] => (opt (dstrs l)).bind fun ys => if (ys.map (·.length)).sum + ys.length * a.length ≤ 16777216 then .ok (.str (Txt.join a ys)) else .bad
  | _, _ => .bad
theorem ms_join : ∀ O H x xs a ds E, Trk O H → RepB K cl O H x a → RepBL K cl O H xs ds → ∀ Q : VK, PostE K cl E O H Q (dJoin a ds) → rJoin K x xs H Q := fun O H x xs a ds E ho rx r Q q => by
  unfold dJoin at q
  split at q
  · obtain ⟨v, rfl, a, vs, rfl, h, rr⟩ := r.one
    cases rx.str_
    rename_i l
    cases e : dstrs l with
    | none => rw [e] at q; exact q.elim
    | some ys =>
      rw [e] at q
      simp only [opt_some, R.bind] at q
      split at q
      · rename_i hz
        have ev := dstrs_rep rr e
        subst ev
        exact ⟨_, a, ys, rfl, rfl, .inl (SqL.of h), hz, ok_ret q (.str _)⟩
      · exact q.elim
  · exact q.elim
/-! ### in, of one sign in a text -/
def rInS : R2 := fun x y H Q => ∃ (c : Nat) (z : Str), x = .str ⟨#[c]⟩ ∧ y = .str z ∧ Q (.bl (decide (c ∈ z.cps.toList))) H
def rNotInS : R2 := fun x y H Q => ∃ (c : Nat) (z : Str), x = .str ⟨#[c]⟩ ∧ y = .str z ∧ Q (.bl (!decide (c ∈ z.cps.toList))) H
theorem op_inS {X : Cx} : OpR X (compareOp .In) rInS := op_in_sign
theorem op_notInS {X : Cx} : OpR X (compareOp .NotIn) rNotInS := op_notIn_sign
def sign (x : Str) : Option Nat := match x.cps.toList with
  | [c] => some c
  | _ => none
theorem sign_eq {x : Str} {c : Nat} (h : sign x = some c) : x = ⟨#[c]⟩ := by
  unfold sign at h
  split at h
  · rename_i d e
    cases h
    cases x with
    | mk cps => congr 1; exact Array.toList_inj.mp (by simpa using e)
  · cases h
@[simp] theorem sign_mk (c : Nat) : sign ⟨#[c]⟩ = some c := rfl
def dInS : Dt → Dt → R Dt
  | .str x, .str z => (opt (sign x)).bind fun c => .ok (.bl (decide (c ∈ z.cps.toList)))
  | _, _ => .bad
def dNotInS : Dt → Dt → R Dt
  | .str x, .str z => (opt (sign x)).bind fun c => .ok (.bl (!decide (c ∈ z.cps.toList)))
  | _, _ => .bad
theorem os_inS : OpS K cl rInS dInS := fun O H x y a b E ho rx ry Q q => by
  unfold dInS at q
  split at q
  · rename_i x z
    cases rx.str_; cases ry.str_
    cases e : sign x with
    | none => rw [e] at q; exact q.elim
    | some c =>
      rw [e] at q
      exact ⟨c, z, by rw [sign_eq e], rfl, ok_ret q (.bl _)⟩
  · exact q.elim
theorem os_notInS : OpS K cl rNotInS dNotInS := fun O H x y a b E ho rx ry Q q => by
  unfold dNotInS at q
  split at q
  · rename_i x z
    cases rx.str_; cases ry.str_
    cases e : sign x with
    | none => rw [e] at q; exact q.elim
    | some c =>
      rw [e] at q
      exact ⟨c, z, by rw [sign_eq e], rfl, ok_ret q (.bl _)⟩
  · exact q.elim
/-! ### chains -/
@[simp] def xChain (f g : Dt → Dt → R Dt) (xa xb xc : XE) : XE := fun D => (xa D).bind fun a => (xb D).bind fun b => (f a b).bind (dAndV ((xc D).bind fun c => g b c))
end
end Mx
namespace Mx
open PySem PySem.Spec PyProof.Rows L2

section
variable {K : Fr} {cl : Cl} {E : L2.St → XK} {H H' H1 H0 : Hp} {O O' : List Addr} {σ : L2.St} {D : Ds} {B : List Addr}
theorem RS.trk (s : RS K cl B H0 O σ D H) : Trk O H := fun a m => (s.own a m).2
theorem sim_chain {f g : Dt → Dt → R Dt} {r r' : R2} {ta tb tc : TE} {xa xb xc : XE} (hf : OpS K cl r f) (hg : OpS K cl r' g) (ha : SimB K cl E ta xa) (hb : SimB K cl E tb xb) (hc : SimB K cl E tc xc) : Sim K cl E (tChain r r' ta tb tc) (xChain f g xa xb xc) := fun B H0 O σ D H s Q q => by
  unfold xChain at q
  refine ha B H0 O σ D H s _ ?_
  cases ea : xa D with
  | bad => rw [ea] at q; exact q.elim
  | ex c fs => rw [ea] at q; exact q
  | ok a =>
    rw [ea] at q
    intro x H1 e1 rx
    refine hb B H0 O σ D H1 (s.mono e1) _ ?_
    simp only [R.bind] at q
    cases eb : xb D with
    | bad => rw [eb] at q; exact q.elim
    | ex c fs => rw [eb] at q; exact ExOk.mono e1 q
    | ok b =>
      rw [eb] at q
      intro y H2 e2 ry
      have s2 := (s.mono e1).mono e2
      refine hf O H2 x y a b (E σ) s2.trk (rx.mono e2) ry _ ?_
      simp only [R.bind] at q
      cases ef : f a b with
      | bad => rw [ef] at q; exact q.elim
      | ex c fs => rw [ef] at q; exact ExOk.mono (e1.trans e2) q
      | ok k =>
        rw [ef] at q
        intro z H3 e3 rz
        cases k with
        | bl k =>
          cases rz
          refine ⟨k, rfl, ?_⟩
          cases k with
          | false => exact q _ H3 ((e1.trans e2).trans e3) (.bl _)
          | true =>
            rw [if_pos rfl]
            refine hc B H0 O σ D H3 (s2.mono e3) _ ?_
            simp only [R.bind] at q
            cases ec : xc D with
            | bad => rw [ec] at q; exact q.elim
            | ex c fs => rw [ec] at q; exact ExOk.mono ((e1.trans e2).trans e3) q
            | ok c =>
              rw [ec] at q
              intro w H4 e4 rw'
              refine hg O H4 y w b c (E σ) ((s2.mono e3).mono e4).trk (ry.mono (e3.trans e4)) rw' _ ?_
              exact post_E (((e1.trans e2).trans e3).trans e4) q
        | _ => exact q.elim

/-! ### statements -/
inductive Out where
  | bad | nx (D : Ds) | rt (d : Dt) | bk (D : Ds) | ct (D : Ds) | ex (c : Str) (fs : List (Str × Dt)) (D : Ds)
abbrev XS := Ds → Out
def PostS (K : Fr) (cl : Cl) (B : List Addr) (H0 : Hp) (E : L2.St → XK) (En : Ends) (O : List Addr) (H : Hp) : Out → Prop
  | .bad => False
  | .nx D => ∀ O' σ' H', RS K cl B H0 O' σ' D H' → Same (hid O H) (hid O' H') → En.nx σ' H'
  | .bk D => ∀ O' σ' H', RS K cl B H0 O' σ' D H' → Same (hid O H) (hid O' H') → En.bk σ' H'
  | .ct D => ∀ O' σ' H', RS K cl B H0 O' σ' D H' → Same (hid O H) (hid O' H') → En.ct σ' H'
  | .rt d => ∀ v H', Same H0 H' → Rep K cl (hid B H') v d → En.rt v H'
  | .ex c fs D => ∀ O' σ' H', RS K cl B H0 O' σ' D H' → Same (hid O H) (hid O' H') → ExOk K cl (E σ') O' c fs H'
def SimS (K : Fr) (cl : Cl) (E : L2.St → XK) (ts : TS) (xs : XS) : Prop := ∀ B H0 O σ D H, RS K cl B H0 O σ D H → ∀ En, PostS K cl B H0 E En O H (xs D) → ts En σ H
theorem PostS.fw {En : Ends} (e : Same (hid O H) (hid O' H')) {o : Out} (q : PostS K cl B H0 E En O H o) : PostS K cl B H0 E En O' H' o := by
  cases o with
  | bad => exact q
  | nx D => exact fun O2 σ2 H2 r f => q O2 σ2 H2 r (e.trans f)
  | bk D => exact fun O2 σ2 H2 r f => q O2 σ2 H2 r (e.trans f)
  | ct D => exact fun O2 σ2 H2 r f => q O2 σ2 H2 r (e.trans f)
  | rt d => exact q
  | ex c fs D => exact fun O2 σ2 H2 r f => q O2 σ2 H2 r (e.trans f)
theorem Same.rfl' {H : Hp} : Same H H := Same.refl H
@[simp] def xsNext : XS := fun D => .nx D
def Out.seq (o : Out) (ys : XS) : Out := match o with
  | .nx D => ys D
  | o => o
@[simp] theorem seq_nx (D : Ds) (ys : XS) : Out.seq (.nx D) ys = ys D := rfl
@[simp] theorem seq_rt (d : Dt) (ys : XS) : Out.seq (.rt d) ys = .rt d := rfl
@[simp] theorem seq_bk (D : Ds) (ys : XS) : Out.seq (.bk D) ys = .bk D := rfl
@[simp] theorem seq_ct (D : Ds) (ys : XS) : Out.seq (.ct D) ys = .ct D := rfl
@[simp] theorem seq_ex (c : Str) (fs : List (Str × Dt)) (D : Ds) (ys : XS) : Out.seq (.ex c fs D) ys = .ex c fs D := rfl
@[simp] theorem seq_bad (ys : XS) : Out.seq .bad ys = .bad := rfl
@[simp] def xsSeq (xs ys : XS) : XS := fun D => (xs D).seq ys
theorem ss_next : SimS K cl E tNext xsNext := fun B H0 O σ D H s En q => q O σ H s (Same.refl _)
theorem ss_seq {t u : TS} {xs ys : XS} (h1 : SimS K cl E t xs) (h2 : SimS K cl E u ys) : SimS K cl E (tSeq t u) (xsSeq xs ys) := fun B H0 O σ D H s En q => by
  refine h1 B H0 O σ D H s _ ?_
  unfold xsSeq at q
  cases e : xs D with
  | nx D1 =>
    rw [e] at q
    exact fun O' σ' H' r f => h2 B H0 O' σ' D1 H' r En (PostS.fw f q)
  | bad => rw [e] at q; exact q
  | rt d => rw [e] at q; exact q
  | bk D => rw [e] at q; exact q
  | ct D => rw [e] at q; exact q
  | ex c fs D => rw [e] at q; exact q
@[simp] def xsBrk : XS := fun D => .bk D
@[simp] def xsCnt : XS := fun D => .ct D
theorem ss_brk : SimS K cl E tBreak xsBrk := fun B H0 O σ D H s En q => q O σ H s (Same.refl _)
theorem ss_cnt : SimS K cl E tCont xsCnt := fun B H0 O σ D H s En q => q O σ H s (Same.refl _)
theorem ss_never {ts : TS} : SimS K cl E ts (fun _ => .bad) := fun B H0 O σ D H s En q => q.elim
@[simp] def xsFrz (i : Nat) (xs : XS) : XS := fun D => xs (Frz i D)
theorem ss_frz {i : Nat} {ts : TS} {xs : XS} (h : SimS K cl E ts xs) : SimS K cl E ts (xsFrz i xs) := fun B H0 O σ D H s En q => by
  obtain ⟨O', r, sub⟩ := s.frz i
  exact h B H0 O' σ _ H r En (PostS.fw (hid_sub sub) q)
def R.out (D : Ds) {α : Type} : R α → (α → Out) → Out
  | .bad, _ => .bad
  | .ex c fs, _ => .ex c fs D
  | .ok a, f => f a
@[simp] theorem out_bad {D : Ds} {α : Type} {f : α → Out} : R.out D .bad f = .bad := rfl
@[simp] theorem out_ex {D : Ds} {α : Type} {c : Str} {fs : List (Str × Dt)} {f : α → Out} : R.out D (.ex c fs) f = .ex c fs D := rfl
@[simp] theorem out_ok {D : Ds} {α : Type} {a : α} {f : α → Out} : R.out D (.ok a) f = f a := rfl
theorem fw_new (s : RS K cl B H0 O σ D H) (e : Same H H') : Same (hid O H) (hid O H') := hid_mono e
@[simp] def xsAsg (i : Nat) (xe : XE) : XS := fun D => (xe D).out D fun d => .nx (D.set i (.sh d))
theorem ss_asg {i : Nat} {te : TE} {xe : XE} (h : Sim K cl E te xe) : SimS K cl E (tAsg te (gName i)) (xsAsg i xe) := fun B H0 O σ D H s En q => by
  unfold xsAsg at q
  refine h B H0 O σ D H s _ ?_
  cases e : xe D with
  | bad => rw [e] at q; exact q.elim
  | ex c fs => rw [e] at q; exact q O σ H s (Same.refl _)
  | ok d =>
    rw [e] at q
    exact fun v H1 e1 r => q O _ H1 ((s.mono e1).setSh i r) (hid_mono e1)
@[simp] def xsAsgL (i : Nat) (xl : XA) : XS := fun D => (xl D).out D fun l => .nx (D.set i (.ol l))
theorem ss_asgL {i : Nat} {te : TE} {xl : XA} (h : SimL K cl E te xl) : SimS K cl E (tAsg te (gName i)) (xsAsgL i xl) := fun B H0 O σ D H s En q => by
  unfold xsAsgL at q
  refine h B H0 O σ D H s _ ?_
  cases e : xl D with
  | bad => rw [e] at q; exact q.elim
  | ex c fs => rw [e] at q; exact q O σ H s (Same.refl _)
  | ok d =>
    rw [e] at q
    exact fun p vs H1 e1 n h1 r => q _ _ H1 (s.setOwn i e1 n ⟨vs, h1, r⟩ (by rw [h1]; rfl)) (hid_new e1 n)
@[simp] def xsRet (xe : XE) : XS := fun D => (xe D).out D fun d => .rt d
theorem hidB (s : RS K cl B H0 O σ D H) {v : V} {d : Dt} (r : Rep K cl (hid O H) v d) : Rep K cl (hid B H) v d := r.mono (hid_sub fun a m => (s.bas a m).1)
theorem ss_ret {te : TE} {xe : XE} (h : Sim K cl E te xe) : SimS K cl E (tRet te) (xsRet xe) := fun B H0 O σ D H s En q => by
  unfold xsRet at q
  refine h B H0 O σ D H s _ ?_
  cases e : xe D with
  | bad => rw [e] at q; exact q.elim
  | ex c fs => rw [e] at q; exact q O σ H s (Same.refl _)
  | ok d =>
    rw [e] at q
    exact fun v H1 e1 r => q v H1 (s.same.trans e1) (hidB (s.mono e1) r)
@[simp] def xsRetN : XS := fun D => .rt .non
theorem ss_retN : SimS K cl E tRetN xsRetN := fun B H0 O σ D H s En q => q _ H s.same .non
@[simp] def xsDrop (xe : XE) : XS := fun D => (xe D).out D fun _ => .nx D
theorem ss_drop {te : TE} {xe : XE} (h : Sim K cl E te xe) : SimS K cl E (tDrop te) (xsDrop xe) := fun B H0 O σ D H s En q => by
  unfold xsDrop at q
  refine h B H0 O σ D H s _ ?_
  cases e : xe D with
  | bad => rw [e] at q; exact q.elim
  | ex c fs => rw [e] at q; exact q O σ H s (Same.refl _)
  | ok d =>
    rw [e] at q
    exact fun v H1 e1 r => q O σ H1 (s.mono e1) (hid_mono e1)
@[simp] def xsIf (xt : XT) (xs ys : XS) : XS := fun D => (xt D).out D fun b => if b = true then xs D else ys D
theorem ss_if {tt : TT} {t u : TS} {xt : XT} {xs ys : XS} (ht : SimT K cl E tt xt) (h1 : SimS K cl E t xs) (h2 : SimS K cl E u ys) : SimS K cl E (tIfS tt t u) (xsIf xt xs ys) := fun B H0 O σ D H s En q => by
  unfold xsIf at q
  refine ht B H0 O σ D H s _ ?_
  cases e : xt D with
  | bad => rw [e] at q; exact q.elim
  | ex c fs => rw [e] at q; exact q O σ H s (Same.refl _)
  | ok b =>
    rw [e] at q
    intro H1 e1
    cases b with
    | true => exact h1 B H0 O σ D H1 (s.mono e1) En (PostS.fw (hid_mono e1) q)
    | false => exact h2 B H0 O σ D H1 (s.mono e1) En (PostS.fw (hid_mono e1) q)

def R.get {α : Type} : R α → (α → Out) → Out
  | .ok a, f => f a
  | _, _ => .bad
@[simp] theorem get_ok {α : Type} {a : α} {f : α → Out} : R.get (.ok a) f = f a := rfl
/-! ### a list of one's own is changed -/
theorem own_at (s : RS K cl B H0 O σ D H) {i : Nat} {t : Sl} (hi : D[i]? = some t) (ho : t.own = true) : ∃ a, σ[i]? = some (some (.ref a)) ∧ a ∈ O ∧ OwnAt K cl H (hid O H) a t := by
  obtain ⟨a, e, m, h⟩ := (s.slot i t hi).owned ho
  exact ⟨a, e, m.1, h⟩
def Sl.lst? : Option Sl → R (List Dt)
  | some (.ol l) => .ok l
  | _ => .bad
@[simp] theorem lst?_ol (l : List Dt) : Sl.lst? (some (.ol l)) = .ok l := rfl
theorem lst?_eq {o : Option Sl} {l : List Dt} (h : Sl.lst? o = .ok l) : o = some (.ol l) := by
  unfold Sl.lst? at h
  split at h
  · simp only [R.ok.injEq] at h; subst h; rfl
  · cases h
theorem lst?_ex {o : Option Sl} {c : Str} {fs : List (Str × Dt)} (h : Sl.lst? o = .ex c fs) : False := by
  unfold Sl.lst? at h
  split at h <;> cases h
/-- xs.m(e) -/
@[simp] def xsApp (i : Nat) (xe : XE) : XS := fun D => (Sl.lst? D[i]?).out D fun l => (xe D).out D fun d => if l.length < 1000000 then .nx (D.set i (.ol (l ++ [d]))) else .bad
theorem ss_app {i : Nat} {te : TE} {xe : XE} (h : Sim K cl E te xe) : SimS K cl E (tDrop (tBM K "list" rAppend (tVar i) (tCons te tNil))) (xsApp i xe) := fun B H0 O σ D H s En q => by
  unfold xsApp at q
  cases el : Sl.lst? D[i]? with
  | bad => rw [el] at q; exact q.elim
  | ex c fs => exact (lst?_ex el).elim
  | ok l =>
    rw [el] at q
    have hi := lst?_eq el
    obtain ⟨a, ea, ma, vs, ha, ra⟩ := own_at s hi rfl
    refine ⟨.ref a, ea, .inl ⟨rfl, vs, SqL.of ha⟩, ?_⟩
    refine h B H0 O σ D H s _ ?_
    cases e : xe D with
    | bad => rw [e] at q; exact q.elim
    | ex c fs => rw [e] at q; exact q O σ H s (Same.refl _)
    | ok d =>
      rw [e] at q
      simp only [out_ok] at q
      intro v H1 e1 rv
      split at q
      · rename_i hz
        refine ⟨a, vs, v, rfl, rfl, e1 _ _ ha, sz_lt (by rw [ra.len]; exact hz), ?_⟩
        refine q O σ _ ((s.mono e1).mut hi rfl ea ⟨_, upd_same, (ra.mono (hid_mono e1)).app (RepL.one rv)⟩) ?_
        rw [hid_upd ma]
        exact hid_mono e1
      · exact q.elim
def rInsert : V → List V → Hp → VK → Prop := fun x vs H Q => ∃ (l : Addr) (xs : List V) (i : Int) (y : V), x = .ref l ∧ vs = [.int i, y] ∧ H l = some (.lst xs) ∧ xs.length < sizeLine ∧ 0 ≤ i ∧ i < 2 ^ 63 ∧ Q .non (upd H l (.lst (xs.take i.toNat ++ [y] ++ xs.drop i.toNat)))
theorem mt_insertA {X : Cx} : MtM X "list.insert" rInsert := mt_insert
def insO (D : Ds) (i : Nat) (l : List Dt) (d : Dt) : Dt → Out
  | .int k => if l.length < 1000000 ∧ 0 ≤ k ∧ k < 2 ^ 63 then .nx (D.set i (.ol (l.take k.toNat ++ [d] ++ l.drop k.toNat))) else .bad
  | _ => .bad
@[simp] theorem insO_int (D : Ds) (i : Nat) (l : List Dt) (d : Dt) (k : Int) : insO D i l d (.int k) = if l.length < 1000000 ∧ 0 ≤ k ∧ k < 2 ^ 63 then .nx (D.set i (.ol (l.take k.toNat ++ [d] ++ l.drop k.toNat))) else .bad := rfl
@[simp] def xsIns (i : Nat) (xk xe : XE) : XS := fun D => (Sl.lst? D[i]?).out D fun l => (xk D).out D fun k => (xe D).out D fun d => insO D i l d k
theorem ss_ins {i : Nat} {tk te : TE} {xk xe : XE} (hk : Sim K cl E tk xk) (h : Sim K cl E te xe) : SimS K cl E (tDrop (tBM K "list" rInsert (tVar i) (tCons tk (tCons te tNil)))) (xsIns i xk xe) := fun B H0 O σ D H s En q => by
  unfold xsIns at q
  cases el : Sl.lst? D[i]? with
  | bad => rw [el] at q; exact q.elim
  | ex c fs => exact (lst?_ex el).elim
  | ok l =>
    rw [el] at q
    have hi := lst?_eq el
    obtain ⟨a, ea, ma, vs, ha, ra⟩ := own_at s hi rfl
    refine ⟨.ref a, ea, .inl ⟨rfl, vs, SqL.of ha⟩, ?_⟩
    refine hk B H0 O σ D H s _ ?_
    cases ek : xk D with
    | bad => rw [ek] at q; exact q.elim
    | ex c fs => rw [ek] at q; exact q O σ H s (Same.refl _)
    | ok k =>
      rw [ek] at q
      simp only [out_ok] at q
      intro w H1 e1 rw'
      refine h B H0 O σ D H1 (s.mono e1) _ ?_
      cases e : xe D with
      | bad => rw [e] at q; exact q.elim
      | ex c fs => rw [e] at q; exact q O σ H1 (s.mono e1) (hid_mono e1)
      | ok d =>
        rw [e] at q
        simp only [out_ok] at q
        intro v H2 e2 rv
        cases k with
        | int k =>
          cases rw'
          simp only [insO_int] at q
          split at q
          · rename_i hz
            have e12 := e1.trans e2
            refine ⟨a, vs, k, v, rfl, rfl, e12 _ _ ha, sz_lt (by rw [ra.len]; exact hz.1), hz.2.1, hz.2.2, ?_⟩
            have ra' := ra.mono (hid_mono (O := O) e12)
            refine q O σ _ ((s.mono e12).mut hi rfl ea ⟨_, upd_same, ((ra'.take _).app (RepL.one rv)).app (ra'.drop _)⟩) ?_
            rw [hid_upd ma]
            exact hid_mono e12
          · exact q.elim
        | _ => exact q.elim
/-- xs[k] = e -/
def setO (D : Ds) (i : Nat) (l : List Dt) (d : Dt) : Dt → Out
  | .int k => (opt (ixN l.length k)).get fun j => .nx (D.set i (.ol (l.set j d)))
  | _ => .bad
@[simp] theorem setO_int (D : Ds) (i : Nat) (l : List Dt) (d : Dt) (k : Int) : setO D i l d (.int k) = (opt (ixN l.length k)).get fun j => .nx (D.set i (.ol (l.set j d))) := rfl
@[simp] def xsSetL (i : Nat) (xk xe : XE) : XS := fun D => (xe D).out D fun d => (Sl.lst? D[i]?).out D fun l => (xk D).out D fun k => setO D i l d k
theorem ss_setL {i : Nat} {tk te : TE} {xk xe : XE} (hk : Sim K cl E tk xk) (h : Sim K cl E te xe) : SimS K cl E (tAsg te (gSub (tVar i) tk rSetL)) (xsSetL i xk xe) := fun B H0 O σ D H s En q => by
  unfold xsSetL at q
  refine h B H0 O σ D H s _ ?_
  cases e : xe D with
  | bad => rw [e] at q; exact q.elim
  | ex c fs => rw [e] at q; exact q O σ H s (Same.refl _)
  | ok d =>
    rw [e] at q
    simp only [out_ok] at q
    intro v H1 e1 rv
    cases el : Sl.lst? D[i]? with
    | bad => rw [el] at q; exact q.elim
    | ex c fs => exact (lst?_ex el).elim
    | ok l =>
      rw [el] at q
      simp only [out_ok] at q
      have hi := lst?_eq el
      obtain ⟨a, ea, ma, vs, ha, ra⟩ := own_at (s.mono e1) hi rfl
      refine ⟨.ref a, ea, ?_⟩
      refine hk B H0 O σ D H1 (s.mono e1) _ ?_
      cases ek : xk D with
      | bad => rw [ek] at q; exact q.elim
      | ex c fs => rw [ek] at q; exact q O σ H1 (s.mono e1) (hid_mono e1)
      | ok k =>
        rw [ek] at q
        simp only [out_ok] at q
        intro w H2 e2 rw'
        cases k with
        | int k =>
          cases rw'
          simp only [setO_int] at q
          cases ej : ixN l.length k with
          | none => rw [ej] at q; exact q.elim
          | some j =>
            rw [ej] at q
            simp only [opt_some, get_ok] at q
            refine ⟨a, vs, k, j, rfl, rfl, e2 _ _ ha, by rw [ra.len]; exact ej, ?_⟩
            refine q O σ _ ((s.mono (e1.trans e2)).mut hi rfl ea ⟨_, upd_same, RepL.set (rv.mono (hid_mono e2)) j (ra.mono (hid_mono e2))⟩) ?_
            rw [hid_upd ma]
            exact hid_mono (e1.trans e2)
        | _ => exact q.elim
/-- xs.m() -/
theorem ss_own0 {i : Nat} {r : V → List V → Hp → VK → Prop} {g : List Dt → R (List Dt)}
    (hr : ∀ (a : Addr) (H Hh : Hp) vs l, H a = some (.lst vs) → RepL K cl Hh vs l → ∀ l', g l = .ok l' → ∃ vs', RepL K cl Hh vs' l' ∧ ∀ Q : VK, (∀ v, Q v (upd H a (.lst vs'))) → r (.ref a) [] H Q) (hx : ∀ l c fs, g l ≠ .ex c fs) :
    SimS K cl E (tDrop (tBM0 K "list" r (tVar i))) (fun D => (Sl.lst? D[i]?).out D fun l => (g l).out D fun l' => .nx (D.set i (.ol l'))) := fun B H0 O σ D H s En q => by
  cases el : Sl.lst? D[i]? with
  | bad => simp only [el] at q; exact q.elim
  | ex c fs => exact (lst?_ex el).elim
  | ok l =>
    simp only [el, out_ok] at q
    have hi := lst?_eq el
    obtain ⟨a, ea, ma, vs, ha, ra⟩ := own_at s hi rfl
    cases eg : g l with
    | bad => rw [eg] at q; exact q.elim
    | ex c fs => exact (hx l c fs eg).elim
    | ok l' =>
      rw [eg] at q
      obtain ⟨vs', r', k⟩ := hr a H _ vs l ha ra l' eg
      refine ⟨.ref a, ea, .inl ⟨rfl, vs, SqL.of ha⟩, k _ fun v => q O σ _ (s.mut hi rfl ea ⟨_, upd_same, r'⟩) ?_⟩
      rw [hid_upd ma]
      exact Same.refl _
@[simp] def xsClear (i : Nat) : XS := fun D => (Sl.lst? D[i]?).out D fun l => (R.ok []).out D fun l' => .nx (D.set i (.ol l'))
theorem ss_clear {i : Nat} : SimS K cl E (tDrop (tBM0 K "list" rClear (tVar i))) (xsClear i) := ss_own0 (g := fun _ => .ok []) (fun a H Hh vs l ha ra l' e => by
  cases e; exact ⟨[], .nil, fun Q q => ⟨a, vs, rfl, rfl, ha, q _⟩⟩) fun l c fs => by simp
@[simp] def xsRev (i : Nat) : XS := fun D => (Sl.lst? D[i]?).out D fun l => (R.ok l.reverse).out D fun l' => .nx (D.set i (.ol l'))
theorem ss_rev {i : Nat} : SimS K cl E (tDrop (tBM0 K "list" rReverse (tVar i))) (xsRev i) := ss_own0 (g := fun l => .ok l.reverse) (fun a H Hh vs l ha ra l' e => by
  cases e; exact ⟨_, ra.rev, fun Q q => ⟨a, vs, rfl, rfl, ha, q _⟩⟩) fun l c fs => by simp

/-! ### targets -/
abbrev XG := Dt → Ds → R Ds
def SimG (K : Fr) (cl : Cl) (g : TG) (xg : XG) : Prop := ∀ B H0 O σ D H, RS K cl B H0 O σ D H → ∀ v d, Rep K cl (hid O H) v d → ∀ (Q : L2.St → Hp → Prop) D', xg d D = .ok D' → (∀ σ', RS K cl B H0 O σ' D' H → Q σ' H) → g v σ H Q
@[simp] def xgName (i : Nat) : XG := fun d D => .ok (D.set i (.sh d))
theorem sg_name {i : Nat} : SimG K cl (gName i) (xgName i) := fun B H0 O σ D H s v d r Q D' e q => by
  simp only [xgName, R.ok.injEq] at e
  subst e
  exact q _ (s.setSh i r)
def SimGs (K : Fr) (cl : Cl) (g : TGs) (xg : List Dt → Ds → R Ds) : Prop := ∀ B H0 O σ D H, RS K cl B H0 O σ D H → ∀ vs ds, RepL K cl (hid O H) vs ds → ∀ (Q : L2.St → Hp → Prop) D', xg ds D = .ok D' → (∀ σ', RS K cl B H0 O σ' D' H → Q σ' H) → g vs σ H Q
@[simp] def xgNil : List Dt → Ds → R Ds
  | [], D => .ok D
  | _ :: _, _ => .bad
@[simp] def xgCons (x : XG) (xs : List Dt → Ds → R Ds) : List Dt → Ds → R Ds
  | d :: r, D => (x d D).bind fun D1 => xs r D1
  | [], _ => .bad
theorem sgs_nil : SimGs K cl gNil xgNil := fun B H0 O σ D H s vs ds r Q D' e q => by
  cases r with
  | nil => simp only [xgNil, R.ok.injEq] at e; subst e; exact ⟨rfl, q σ s⟩
  | cons h r => cases e
theorem sgs_cons {g : TG} {gs : TGs} {x : XG} {xs : List Dt → Ds → R Ds} (h1 : SimG K cl g x) (h2 : SimGs K cl gs xs) : SimGs K cl (gCons g gs) (xgCons x xs) := fun B H0 O σ D H s vs ds r Q D' e q => by
  cases r with
  | nil => cases e
  | cons h r =>
    rename_i v d vs ds
    simp only [xgCons] at e
    cases e1 : x d D with
    | bad => rw [e1] at e; cases e
    | ex c fs => rw [e1] at e; cases e
    | ok D1 =>
      rw [e1] at e
      refine ⟨v, vs, rfl, h1 B H0 O σ D H s v d h _ D1 e1 fun σ1 s1 => ?_⟩
      exact h2 B H0 O σ1 D1 H s1 vs ds r Q D' e q
@[simp] def xgTup (n : Nat) (xs : List Dt → Ds → R Ds) : XG := fun d D => match d with
  | .tup l => if l.length = n then xs l D else .bad
  | _ => .bad
theorem sg_tup {n : Nat} {gs : TGs} {xs : List Dt → Ds → R Ds} (h : SimGs K cl gs xs) : SimG K cl (gTup K n gs) (xgTup n xs) := fun B H0 O σ D H s v d r Q D' e q => by
  unfold xgTup at e
  split at e
  · split at e
    · rename_i l hl
      cases r with
      | tup ha ra =>
        exact ⟨_, _, rfl, SqT.of (hid_same _ _ _ _ ha), by rw [ra.len]; exact hl, h B H0 O σ D H s _ _ ra Q D' e q⟩
    · cases e
  · cases e
/-- target = value, any target -/
@[simp] def xsAsgG (xg : XG) (xe : XE) : XS := fun D => (xe D).out D fun d => (xg d D).get fun D' => .nx D'
theorem ss_asgG {g : TG} {xg : XG} {te : TE} {xe : XE} (hg : SimG K cl g xg) (h : Sim K cl E te xe) : SimS K cl E (tAsg te g) (xsAsgG xg xe) := fun B H0 O σ D H s En q => by
  unfold xsAsgG at q
  refine h B H0 O σ D H s _ ?_
  cases e : xe D with
  | bad => rw [e] at q; exact q.elim
  | ex c fs => rw [e] at q; exact q O σ H s (Same.refl _)
  | ok d =>
    rw [e] at q
    intro v H1 e1 r
    simp only [out_ok] at q
    cases eg : xg d D with
    | bad => rw [eg] at q; exact q.elim
    | ex c fs => rw [eg] at q; exact q.elim
    | ok D' =>
      rw [eg] at q
      simp only [get_ok] at q
      exact hg B H0 O σ D H1 (s.mono e1) v d r _ D' eg fun σ' s' => q O σ' H1 s' (hid_mono e1)

/-! ### what is walked -/
/-- the iterator J gives the items l, as long as what is visible now stays so -/
def Goes (K : Fr) (cl : Cl) (J : It) (l : List Dt) (O : List Addr) (H H0 : Hp) : Prop := ∀ (i : Nat) O' H', Same H0 H' → Same (hid O H) (hid O' H') → Trk O' H' →
  (∀ d, l[i]? = some d → J.go i H' ∧ ∀ x H2, J.yld i H' x H2 → Same H' H2 ∧ Rep K cl (hid O' H2) x d) ∧ (i = l.length → J.stop i H')
def SimI (K : Fr) (cl : Cl) (E : L2.St → XK) (wi : TI) (xi : XA) : Prop := ∀ B H0 O σ D H, RS K cl B H0 O σ D H → ∀ R : It → Hp → Prop, (match xi D with
  | .bad => False
  | .ex c fs => ExOk K cl (E σ) O c fs H
  | .ok l => ∀ J H1, Same H H1 → Goes K cl J l O H1 H0 → R J H1) → wi σ H R
theorem rep_at {vs : List V} {ds : List Dt} (r : RepL K cl H vs ds) {i : Nat} {d : Dt} {v : V} (hd : ds[i]? = some d) (hv : vs[i]? = some v) : Rep K cl H v d := by
  obtain ⟨w, e, h⟩ := r.get hd
  rw [hv] at e
  cases e
  exact h
/-- over a list or a tuple -/
def dItems : Dt → R (List Dt)
  | .lst l => .ok l
  | .frl l => .ok l
  | _ => .bad
@[simp] theorem dItems_lst (l : List Dt) : dItems (.lst l) = .ok l := rfl
@[simp] theorem dItems_frl (l : List Dt) : dItems (.frl l) = .ok l := rfl
@[simp] def xItems (xe : XE) : XA := fun D => (xe D).bind dItems
def dItemsT : Dt → R (List Dt)
  | .tup l => .ok l
  | _ => .bad
@[simp] theorem dItemsT_tup (l : List Dt) : dItemsT (.tup l) = .ok l := rfl
@[simp] def xItemsT (xe : XE) : XA := fun D => (xe D).bind dItemsT
theorem goes_list {a : Addr} {vs : List V} {ds : List Dt} (h : SqL K (hid O H) a vs) (r : RepL K cl (hid O H) vs ds) : Goes K cl (Itl K a) ds O H H0 := fun i O' H' _ e t => by
  have h' : SqL K H' a vs := (hid_same O' H').seq (e.seq h)
  refine ⟨fun d hd => ?_, fun hi => ⟨vs, h', by rw [r.len, hi]; exact Nat.le_refl _⟩⟩
  obtain ⟨v, hv, rv⟩ := r.get hd
  exact ⟨⟨vs, v, h', hv⟩, fun x H2 y => by
    obtain ⟨rfl, y⟩ := y
    have := y vs h'
    rw [hv] at this
    cases this
    exact ⟨Same.refl _, rv.mono e⟩⟩
theorem goes_tup {a : Addr} {vs : List V} {ds : List Dt} (h : SqT K (hid O H) a vs) (hm : ∀ H H' : Hp, Same H H' → SqT K H a vs → SqT K H' a vs) (r : RepL K cl (hid O H) vs ds) : Goes K cl (Itt K a) ds O H H0 := fun i O' H' _ e t => by
  have h' : SqT K H' a vs := hm _ _ (hid_same O' H') (hm _ _ e h)
  refine ⟨fun d hd => ?_, fun hi => ⟨vs, h', by rw [r.len, hi]; exact Nat.le_refl _⟩⟩
  obtain ⟨v, hv, rv⟩ := r.get hd
  exact ⟨⟨vs, v, h', hv⟩, fun x H2 y => by
    obtain ⟨rfl, y⟩ := y
    have := y vs h'
    rw [hv] at this
    cases this
    exact ⟨Same.refl _, rv.mono e⟩⟩
theorem si_list {te : TE} {xe : XE} (h : Sim K cl E te xe) : SimI K cl E (iList K te) (xItems xe) := fun B H0 O σ D H s Rk q => by
  unfold xItems at q
  refine h B H0 O σ D H s _ ?_
  cases e : xe D with
  | bad => rw [e] at q; exact q.elim
  | ex c fs => rw [e] at q; exact q
  | ok d =>
    rw [e] at q
    intro v H1 e1 r
    cases d with
    | lst l =>
      cases r with
      | lst ha ra => exact ⟨_, rfl, ⟨_, SqL.of (hid_same _ _ _ _ ha)⟩, q _ H1 e1 (goes_list (SqL.of ha) ra)⟩
    | frl l =>
      cases r with
      | frl ha ra => exact ⟨_, rfl, ⟨_, (hid_same _ _).seq ha⟩, q _ H1 e1 (goes_list ha ra)⟩
    | _ => exact q.elim
theorem sqt_of_mono {a : Addr} {vs : List V} : ∀ H H' : Hp, Same H H' → H a = some (.tup vs) → SqT K H' a vs := fun H H' e h => SqT.of (e _ _ h)
theorem si_tup {te : TE} {xe : XE} (h : Sim K cl E te xe) : SimI K cl E (iTup K te) (xItemsT xe) := fun B H0 O σ D H s Rk q => by
  unfold xItemsT at q
  refine h B H0 O σ D H s _ ?_
  cases e : xe D with
  | bad => rw [e] at q; exact q.elim
  | ex c fs => rw [e] at q; exact q
  | ok d =>
    rw [e] at q
    intro v H1 e1 r
    cases d with
    | tup l =>
      cases r with
      | @tup a vs _ ha ra =>
        refine ⟨_, rfl, ⟨_, SqT.of (hid_same _ _ _ _ ha)⟩, q _ H1 e1 fun i O' H' _ e t => ?_⟩
        have h' : SqT K H' a vs := SqT.of (hid_same O' H' _ _ (e _ _ ha))
        refine ⟨fun d hd => ?_, fun hi => ⟨vs, h', by rw [ra.len, hi]; exact Nat.le_refl _⟩⟩
        obtain ⟨v, hv, rv⟩ := ra.get hd
        exact ⟨⟨vs, v, h', hv⟩, fun x H2 y => by
          obtain ⟨rfl, y⟩ := y
          have := y vs h'
          rw [hv] at this
          cases this
          exact ⟨Same.refl _, rv.mono e⟩⟩
    | _ => exact q.elim
/-- over range(n), range(a, b) -/
def rgD (lo : Int) (n : Nat) : List Dt := (List.range n).map fun i => .int (lo + (i : Nat))
theorem goes_rng {lo : Int} {n : Nat} : Goes K cl (Itr lo n) (rgD lo n) O H H0 := fun i O' H' _ e t => by
  refine ⟨fun d hd => ?_, fun hi => ?_⟩
  · unfold rgD at hd
    rw [List.getElem?_map] at hd
    obtain ⟨j, hj, rfl⟩ := Option.map_eq_some_iff.mp hd
    obtain ⟨hl, e2⟩ := List.getElem?_eq_some_iff.mp hj
    rw [List.getElem_range] at e2
    subst e2
    exact ⟨by show i < n; simpa using hl, fun x H2 y => by
      obtain ⟨rfl, rfl⟩ := y
      exact ⟨Same.refl _, .int _⟩⟩
  · show n ≤ i
    rw [hi]; unfold rgD; simp
def dRng1 : List Dt → R (List Dt)
  | [.int j] => if -(2 ^ 62) ≤ j ∧ j < 2 ^ 62 then .ok (rgD 0 j.toNat) else .bad
  | _ => .bad
theorem dRng1_int {j : Int} (h : -(2 ^ 62) ≤ j ∧ j < 2 ^ 62) : dRng1 [.int j] = .ok (rgD 0 j.toNat) := if_pos h
@[simp] def xRng1 (xa : XA) : XA := fun D => (xa D).bind dRng1
theorem RepL.one_ {vs : List V} {d : Dt} (h : RepL K cl H vs [d]) : ∃ v, vs = [v] ∧ Rep K cl H v d := by
  cases h with
  | cons a b => cases b; exact ⟨_, rfl, a⟩
theorem RepL.two_ {vs : List V} {d e : Dt} (h : RepL K cl H vs [d, e]) : ∃ v w, vs = [v, w] ∧ Rep K cl H v d ∧ Rep K cl H w e := by
  cases h with
  | cons a b => cases b with | cons b c => cases c; exact ⟨_, _, rfl, a, b⟩
theorem si_rng1 {ta : TA} {xa : XA} (h : SimA K cl E ta xa) : SimI K cl E (iRng1 ta) (xRng1 xa) := fun B H0 O σ D H s Rk q => by
  unfold xRng1 at q
  refine h B H0 O σ D H s _ ?_
  cases e : xa D with
  | bad => rw [e] at q; exact q.elim
  | ex c fs => rw [e] at q; exact q
  | ok ds =>
    rw [e] at q
    intro vs H1 e1 r
    match ds, r, q with
    | [.int j], r, q =>
      by_cases hb : -(2 ^ 62) ≤ j ∧ j < 2 ^ 62
      · simp only [bind_ok, dRng1_int hb] at q
        obtain ⟨v, rfl, rv⟩ := r.one_
        cases rv
        exact ⟨j, rfl, hb.1, hb.2, q _ H1 e1 goes_rng⟩
      · simp only [bind_ok, dRng1, if_neg hb] at q
    | [], r, q => exact q.elim
    | .non :: l, r, q => cases l <;> exact q.elim
    | .bl _ :: l, r, q => cases l <;> exact q.elim
    | .str _ :: l, r, q => cases l <;> exact q.elim
    | .ty _ :: l, r, q => cases l <;> exact q.elim
    | .tup _ :: l, r, q => cases l <;> exact q.elim
    | .lst _ :: l, r, q => cases l <;> exact q.elim
    | .frl _ :: l, r, q => cases l <;> exact q.elim
    | .ins _ _ :: l, r, q => cases l <;> exact q.elim
    | .dk _ :: l, r, q => cases l <;> exact q.elim
    | .dt _ :: l, r, q => cases l <;> exact q.elim
    | .int _ :: _ :: _, r, q => exact q.elim
def ints2 : List Dt → Option (Int × Int)
  | [.int i, .int j] => some (i, j)
  | _ => none
theorem ints2_eq {l : List Dt} {p : Int × Int} (h : ints2 l = some p) : l = [.int p.1, .int p.2] := by
  unfold ints2 at h
  split at h
  · cases h; rfl
  · cases h
@[simp] def xRng2 (xa : XA) : XA := fun D => (xa D).bind fun l => (opt (ints2 l)).bind fun p => if (-(2 ^ 62) ≤ p.1 ∧ p.1 < 2 ^ 62) ∧ -(2 ^ 62) ≤ p.2 ∧ p.2 < 2 ^ 62 then .ok (rgD p.1 (p.2 - p.1).toNat) else .bad
theorem si_rng2 {ta : TA} {xa : XA} (h : SimA K cl E ta xa) : SimI K cl E (iRng2 ta) (xRng2 xa) := fun B H0 O σ D H s Rk q => by
  unfold xRng2 at q
  refine h B H0 O σ D H s _ ?_
  cases e : xa D with
  | bad => rw [e] at q; exact q.elim
  | ex c fs => rw [e] at q; exact q
  | ok ds =>
    rw [e] at q
    intro vs H1 e1 r
    simp only [R.bind] at q
    cases e2 : ints2 ds with
    | none => rw [e2] at q; exact q.elim
    | some p =>
      rw [e2] at q
      have := ints2_eq e2
      subst this
      simp only [opt_some, R.bind] at q
      by_cases hb : (-(2 ^ 62) ≤ p.1 ∧ p.1 < 2 ^ 62) ∧ -(2 ^ 62) ≤ p.2 ∧ p.2 < 2 ^ 62
      · rw [if_pos hb] at q
        obtain ⟨v, w, rfl, rv, rw'⟩ := r.two_
        cases rv; cases rw'
        exact ⟨_, _, rfl, ⟨hb.1.1, hb.1.2, hb.2.1, hb.2.2⟩, q _ H1 e1 goes_rng⟩
      · rw [if_neg hb] at q
        exact q.elim
/-- over a text -/
def sgD (x : Str) : List Dt := x.cps.toList.map fun c => .str ⟨#[c]⟩
def dSigns : Dt → R (List Dt)
  | .str x => .ok (sgD x)
  | _ => .bad
@[simp] theorem dSigns_str (x : Str) : dSigns (.str x) = .ok (sgD x) := rfl
@[simp] def xSigns (xe : XE) : XA := fun D => (xe D).bind dSigns
theorem si_str {te : TE} {xe : XE} (h : Sim K cl E te xe) : SimI K cl E (iStr te) (xSigns xe) := fun B H0 O σ D H s Rk q => by
  unfold xSigns at q
  refine h B H0 O σ D H s _ ?_
  cases e : xe D with
  | bad => rw [e] at q; exact q.elim
  | ex c fs => rw [e] at q; exact q
  | ok d =>
    rw [e] at q
    intro v H1 e1 r
    cases d with
    | str x =>
      cases r
      refine ⟨x, rfl, q _ H1 e1 fun i O' H' _ e t => ⟨fun d hd => ?_, fun hi => ?_⟩⟩
      · unfold sgD at hd
        rw [List.getElem?_map] at hd
        obtain ⟨c, hc, rfl⟩ := Option.map_eq_some_iff.mp hd
        obtain ⟨hl, _⟩ := List.getElem?_eq_some_iff.mp hc
        exact ⟨by show i < x.cps.size; simpa using hl, fun y H2 z => by
          obtain ⟨rfl, c', h1, rfl⟩ := z
          rw [← Array.getElem?_toList, hc] at h1
          cases h1
          exact ⟨Same.refl _, .str _⟩⟩
      · show x.cps.size ≤ i
        rw [hi]; unfold sgD; simp
    | _ => exact q.elim

/-! ### loops -/
def xLoop (xg : XG) (xb : XS) : List Dt → Ds → Out
  | [], D => .nx D
  | d :: r, D => (xg d D).get fun D1 => match xb D1 with
    | .nx D2 => xLoop xg xb r D2
    | .ct D2 => xLoop xg xb r D2
    | .bk D2 => .nx D2
    | o => o
@[simp] def xsFor (xi : XA) (xg : XG) (xb : XS) : XS := fun D => (xi D).out D fun l => xLoop xg xb l D
theorem ss_for {wi : TI} {g : TG} {tb : TS} {xi : XA} {xg : XG} {xb : XS} (hi : SimI K cl E wi xi) (hg : SimG K cl g xg) (hb : SimS K cl E tb xb) : SimS K cl E (tFor wi g tb) (xsFor xi xg xb) := fun B H0 O σ D H s En q => by
  unfold xsFor at q
  refine hi B H0 O σ D H s _ ?_
  cases e : xi D with
  | bad => rw [e] at q; exact q.elim
  | ex c fs => rw [e] at q; exact q O σ H s (Same.refl _)
  | ok l =>
    rw [e] at q
    intro J H1 e1 go
    refine ⟨fun i m σ' H' => m = l.length - i ∧ i ≤ l.length ∧ ∃ O' D', RS K cl B H0 O' σ' D' H' ∧ Same (hid O H1) (hid O' H') ∧ PostS K cl B H0 E En O' H' (xLoop xg xb (l.drop i) D'),
      ⟨l.length, rfl, Nat.zero_le _, O, D, s.mono e1, Same.refl _, PostS.fw (hid_mono e1) q⟩, ?_⟩
    rintro i m σ' H' ⟨rfl, hle, O', D', s', f', q'⟩
    have g' := go i O' H' s'.same f' s'.trk
    by_cases hlt : i < l.length
    · refine .inr ⟨(g'.1 _ (List.getElem?_eq_getElem hlt)).1, fun σ2 H2 => ∃ O2 D2, RS K cl B H0 O2 σ2 D2 H2 ∧ Same (hid O H1) (hid O2 H2) ∧ PostS K cl B H0 E En O2 H2 (xLoop xg xb (l.drop (i + 1)) D2), ?_, ?_⟩
      · rintro σ2 H2 ⟨O2, D2, a, b, c⟩
        exact ⟨_, by omega, rfl, hlt, O2, D2, a, b, c⟩
      · intro x H2 y
        obtain ⟨e2, rx⟩ := (g'.1 _ (List.getElem?_eq_getElem hlt)).2 x H2 y
        have hd : l.drop i = l[i] :: l.drop (i + 1) := List.drop_eq_getElem_cons hlt
        rw [hd] at q'
        unfold xLoop at q'
        cases eg : xg l[i] D' with
        | bad => rw [eg] at q'; exact q'.elim
        | ex c fs => rw [eg] at q'; exact q'.elim
        | ok D1 =>
          rw [eg] at q'
          simp only [get_ok] at q'
          refine hg B H0 O' σ' D' H2 (s'.mono e2) x _ rx _ D1 eg fun σ3 s3 => ?_
          have f3 : Same (hid O' H') (hid O' H2) := hid_mono e2
          refine hb B H0 O' σ3 D1 H2 s3 _ ?_
          cases eb : xb D1 with
          | bad => rw [eb] at q'; exact q'
          | nx D2 =>
            rw [eb] at q'
            exact fun O4 σ4 H4 s4 f4 => ⟨O4, D2, s4, (f'.trans f3).trans f4, PostS.fw (f3.trans f4) q'⟩
          | ct D2 =>
            rw [eb] at q'
            exact fun O4 σ4 H4 s4 f4 => ⟨O4, D2, s4, (f'.trans f3).trans f4, PostS.fw (f3.trans f4) q'⟩
          | bk D2 =>
            rw [eb] at q'
            exact fun O4 σ4 H4 s4 f4 => q' O4 σ4 H4 s4 (f3.trans f4)
          | rt d => rw [eb] at q'; exact q'
          | ex c fs D2 =>
            rw [eb] at q'
            exact fun O4 σ4 H4 s4 f4 => q' O4 σ4 H4 s4 (f3.trans f4)
    · have hi' : i = l.length := by omega
      refine .inl ⟨g'.2 hi', ?_⟩
      rw [hi', List.drop_length] at q'
      exact q' O' σ' H' s' (Same.refl _)
def xWh (xt : XT) (xb : XS) : Nat → Ds → Out
  | 0, _ => .bad
  | n + 1, D => (xt D).out D fun b => if b = true then (match xb D with
    | .nx D2 => xWh xt xb n D2
    | .ct D2 => xWh xt xb n D2
    | .bk D2 => .nx D2
    | o => o) else .nx D
theorem ss_while {tt : TT} {tb : TS} {xt : XT} {xb : XS} (n : Nat) (ht : SimT K cl E tt xt) (hb : SimS K cl E tb xb) : SimS K cl E (tWhile tt tb) (xWh xt xb n) := fun B H0 O σ D H s En q => by
  refine ⟨fun m σ' H' => ∃ O' D', RS K cl B H0 O' σ' D' H' ∧ PostS K cl B H0 E En O' H' (xWh xt xb m D'), ⟨n, O, D, s, q⟩, ?_⟩
  rintro m σ' H' ⟨O', D', s', q'⟩
  cases m with
  | zero => exact q'.elim
  | succ m =>
    unfold xWh at q'
    refine ht B H0 O' σ' D' H' s' _ ?_
    cases e : xt D' with
    | bad => rw [e] at q'; exact q'.elim
    | ex c fs => rw [e] at q'; exact q' O' σ' H' s' (Same.refl _)
    | ok b =>
      rw [e] at q'
      intro H1 e1
      simp only [out_ok] at q'
      cases b with
      | false => exact q' O' σ' H1 (s'.mono e1) (hid_mono e1)
      | true =>
        rw [if_pos rfl] at q' ⊢
        refine ⟨fun σ2 H2 => ∃ O2 D2, RS K cl B H0 O2 σ2 D2 H2 ∧ PostS K cl B H0 E En O2 H2 (xWh xt xb m D2), fun σ2 H2 ⟨O2, D2, a, c⟩ => ⟨m, Nat.lt_succ_self m, O2, D2, a, c⟩, ?_⟩
        refine hb B H0 O' σ' D' H1 (s'.mono e1) _ ?_
        have f1 : Same (hid O' H') (hid O' H1) := hid_mono e1
        cases eb : xb D' with
        | bad => rw [eb] at q'; exact q'
        | nx D2 => rw [eb] at q'; exact fun O4 σ4 H4 s4 f4 => ⟨O4, D2, s4, PostS.fw (f1.trans f4) q'⟩
        | ct D2 => rw [eb] at q'; exact fun O4 σ4 H4 s4 f4 => ⟨O4, D2, s4, PostS.fw (f1.trans f4) q'⟩
        | bk D2 => rw [eb] at q'; exact fun O4 σ4 H4 s4 f4 => q' O4 σ4 H4 s4 (f1.trans f4)
        | rt d => rw [eb] at q'; exact q'
        | ex c fs D2 => rw [eb] at q'; exact fun O4 σ4 H4 s4 f4 => q' O4 σ4 H4 s4 (f1.trans f4)
end
end Mx
namespace Mx
open PySem PySem.Spec PyProof.Rows L2

section
variable {K : Fr} {cl : Cl} {E : L2.St → XK} {H H' H1 H0 : Hp} {O O' : List Addr} {σ : L2.St} {D : Ds} {B : List Addr}
/-! ### comprehensions -/
def wipeD (D : Ds) : List Nat → Ds
  | [] => D
  | v :: vs => (wipeD D vs).set v .no
theorem RS.wipe (s : RS K cl B H0 O σ D H) : ∀ vs : List Nat, RS K cl B H0 O (L2.wipe σ vs) (wipeD D vs) H
  | [] => s
  | v :: vs => (s.wipe vs).setNo v none
theorem wipe_get (σ : L2.St) : ∀ (vs : List Nat) (j : Nat), (L2.wipe σ vs)[j]? = if j ∈ vs then σ[j]?.map (fun _ => none) else σ[j]?
  | [], j => by simp [L2.wipe]
  | v :: vs, j => by
    unfold L2.wipe
    rw [List.getElem?_set, wipe_get σ vs j]
    by_cases e : v = j
    · subst e
      rw [if_pos rfl, if_pos List.mem_cons_self]
      by_cases hl : v < (L2.wipe σ vs).length
      · rw [if_pos hl]
        rw [L2.wipe_length] at hl
        rw [List.getElem?_eq_getElem hl]; rfl
      · rw [if_neg hl]
        rw [L2.wipe_length] at hl
        rw [List.getElem?_eq_none (by omega)]; rfl
    · rw [if_neg e]
      by_cases hm : j ∈ vs
      · rw [if_pos hm, if_pos (List.mem_cons_of_mem _ hm)]
      · rw [if_neg hm, if_neg (fun z => (List.mem_cons.mp z).elim (fun z => e z.symm) hm)]
theorem wipe_idem (σ : L2.St) (vs : List Nat) : L2.wipe (L2.wipe σ vs) vs = L2.wipe σ vs := by
  apply List.ext_getElem?
  intro j
  rw [wipe_get, wipe_get]
  by_cases hm : j ∈ vs
  · rw [if_pos hm, if_pos hm]; cases σ[j]? <;> rfl
  · rw [if_neg hm, if_neg hm]
theorem wipe_set (σ : L2.St) (vs : List Nat) {i : Nat} {x : Option V} (h : i ∈ vs) : L2.wipe (σ.set i x) vs = L2.wipe σ vs := by
  apply List.ext_getElem?
  intro j
  rw [wipe_get, wipe_get]
  by_cases hm : j ∈ vs
  · rw [if_pos hm, if_pos hm, List.getElem?_set]
    by_cases e : i = j
    · subst e
      by_cases hl : i < σ.length
      · rw [if_pos rfl, if_pos hl, List.getElem?_eq_getElem hl]; rfl
      · rw [if_pos rfl, if_neg hl, List.getElem?_eq_none (by omega)]
    · rw [if_neg e]
  · rw [if_neg hm, if_neg hm, List.getElem?_set_ne (fun z : i = j => hm (z ▸ h))]
def SimGW (K : Fr) (cl : Cl) (vs : List Nat) (g : TG) (xg : XG) : Prop := ∀ B H0 O σ D H, RS K cl B H0 O σ D H → ∀ v d, Rep K cl (hid O H) v d → ∀ (Q : L2.St → Hp → Prop) D', xg d D = .ok D' → (∀ σ', RS K cl B H0 O σ' D' H → L2.wipe σ' vs = L2.wipe σ vs → Q σ' H) → g v σ H Q
theorem sgw_name {i : Nat} {vs : List Nat} (h : i ∈ vs) : SimGW K cl vs (gName i) (xgName i) := fun B H0 O σ D H s v d r Q D' e q => by
  simp only [xgName, R.ok.injEq] at e
  subst e
  exact q _ (s.setSh i r) (wipe_set σ vs h)
def SimGsW (K : Fr) (cl : Cl) (vs : List Nat) (g : TGs) (xg : List Dt → Ds → R Ds) : Prop := ∀ B H0 O σ D H, RS K cl B H0 O σ D H → ∀ ws ds, RepL K cl (hid O H) ws ds → ∀ (Q : L2.St → Hp → Prop) D', xg ds D = .ok D' → (∀ σ', RS K cl B H0 O σ' D' H → L2.wipe σ' vs = L2.wipe σ vs → Q σ' H) → g ws σ H Q
theorem sgsw_nil {vs : List Nat} : SimGsW K cl vs gNil xgNil := fun B H0 O σ D H s ws ds r Q D' e q => by
  cases r with
  | nil => simp only [xgNil, R.ok.injEq] at e; subst e; exact ⟨rfl, q σ s rfl⟩
  | cons h r => cases e
theorem sgsw_cons {vs : List Nat} {g : TG} {gs : TGs} {x : XG} {xs : List Dt → Ds → R Ds} (h1 : SimGW K cl vs g x) (h2 : SimGsW K cl vs gs xs) : SimGsW K cl vs (gCons g gs) (xgCons x xs) := fun B H0 O σ D H s ws ds r Q D' e q => by
  cases r with
  | nil => cases e
  | cons h r =>
    rename_i v d ws ds
    simp only [xgCons] at e
    cases e1 : x d D with
    | bad => rw [e1] at e; cases e
    | ex c fs => rw [e1] at e; cases e
    | ok D1 =>
      rw [e1] at e
      refine ⟨v, ws, rfl, h1 B H0 O σ D H s v d h _ D1 e1 fun σ1 s1 w1 => ?_⟩
      exact h2 B H0 O σ1 D1 H s1 ws ds r Q D' e fun σ' s' w' => q σ' s' (w'.trans w1)
theorem sgw_tup {vs : List Nat} {n : Nat} {gs : TGs} {xs : List Dt → Ds → R Ds} (h : SimGsW K cl vs gs xs) : SimGW K cl vs (gTup K n gs) (xgTup n xs) := fun B H0 O σ D H s v d r Q D' e q => by
  unfold xgTup at e
  split at e
  · split at e
    · rename_i l hl
      cases r with
      | tup ha ra => exact ⟨_, _, rfl, SqT.of (hid_same _ _ _ _ ha), by rw [ra.len]; exact hl, h B H0 O σ D H s _ _ ra Q D' e q⟩
    · cases e
  · cases e
def xComp (xg : XG) (xt : XT) (xe : XE) (D0 : Ds) : List Dt → List Dt → R (List Dt)
  | [], acc => .ok acc
  | d :: r, acc => match xg d D0 with
    | .ok D1 => match xt D1 with
      | .ok true => match xe D1 with
        | .ok y => if acc.length < 1000000 then xComp xg xt xe D0 r (acc ++ [y]) else .bad
        | _ => .bad
      | .ok false => xComp xg xt xe D0 r acc
      | _ => .bad
    | _ => .bad
@[simp] def xLc (xi : XA) (xg : XG) (xt : XT) (xe : XE) (vs : List Nat) : XA := fun D => (xi D).bind fun l => xComp xg xt xe (wipeD D vs) l []
theorem hid_cons {L : Addr} : hid (L :: O) H = hid O (hid [L] H) := by
  funext a
  unfold hid
  by_cases h : a ∈ O
  · rw [if_pos h, if_pos (List.mem_cons_of_mem _ h)]
  · rw [if_neg h]
    by_cases e : a = L
    · rw [if_pos (by rw [e]; exact List.mem_cons_self), if_pos (by rw [e]; exact List.mem_singleton.mpr rfl)]
    · rw [if_neg (fun z => (List.mem_cons.mp z).elim e h), if_neg (fun z => e (List.mem_singleton.mp z))]
theorem hid_self {L : Addr} : hid [L] H L = none := by unfold hid; rw [if_pos (List.mem_singleton.mpr rfl)]
theorem RS.addOwn {L : Addr} {acc : List V} {ds : List Dt} (s : RS K cl B H0 O σ D (hid [L] H)) (h : H L = some (.lst acc)) (r : RepL K cl (hid (L :: O) H) acc ds) : RS K cl B H0 (L :: O) σ D H := by
  have q := s.setOwn D.length (s := .ol ds) (hid_same [L] H) hid_self ⟨acc, h, r⟩ (by rw [h]; rfl)
  rw [List.set_eq_of_length_le (by rw [s.len]; exact Nat.le_refl _), List.set_eq_of_length_le (Nat.le_refl _)] at q
  exact q
@[simp] def xYes : XT := fun _ => .ok true
theorem st_yes : SimT K cl E tYes xYes := fun B H0 O σ D H s Q q => q H (Same.refl H)
theorem simL_lc {wi : TI} {g : TG} {tt : TT} {te : TE} {vs : List Nat} {xi : XA} {xg : XG} {xt : XT} {xe : XE} (hi : SimI K cl E wi xi) (hg : SimGW K cl vs g xg) (ht : SimT K cl (fun _ => E0) tt xt) (he : Sim K cl (fun _ => E0) te xe) :
    SimL K cl E (tLc wi g tt te vs) (xLc xi xg xt xe vs) := fun B H0 O σ D H s Q q => by
  unfold xLc at q
  refine hi B H0 O σ D H s _ ?_
  cases e : xi D with
  | bad => rw [e] at q; exact q.elim
  | ex c fs => rw [e] at q; exact q
  | ok l =>
    rw [e] at q
    simp only [Mx.R.bind] at q
    intro J H1 e1 go L nL
    cases ec : xComp xg xt xe (wipeD D vs) l [] with
    | bad => rw [ec] at q; exact q.elim
    | ex c fs =>
      exfalso
      have : ∀ (l acc : List Dt), xComp xg xt xe (wipeD D vs) l acc ≠ .ex c fs := by
        intro l
        induction l with
        | nil => intro acc h; cases h
        | cons d r ih =>
          intro acc h
          unfold xComp at h
          split at h
          · split at h
            · split at h
              · split at h
                · exact ih _ h
                · cases h
              · cases h
            · exact ih _ h
            · cases h
          · cases h
      exact this _ _ ec
    | ok res =>
      rw [ec] at q
      have s1 := (s.mono e1).wipe vs
      have hu : hid [L] (upd H1 L (.lst [])) = hid [L] H1 := hid_upd (List.mem_singleton.mpr rfl)
      have hH1 : hid [L] H1 = H1 := by
        funext a
        unfold hid
        split
        · rename_i h; rw [List.mem_singleton.mp h, nL]
        · rfl
      refine ⟨fun i m H2 => m = l.length - i ∧ i ≤ l.length ∧ ∃ acc ds, RS K cl B H0 O (L2.wipe σ vs) (wipeD D vs) (hid [L] H2) ∧ Same H1 H2 ∧ H2 L = some (.lst acc) ∧ RepL K cl (hid (L :: O) H2) acc ds ∧ xComp xg xt xe (wipeD D vs) (l.drop i) ds = .ok res,
        ⟨l.length, rfl, Nat.zero_le _, [], [], by rw [hu, hH1]; exact s1, same_upd nL, upd_same, .nil, ec⟩, ?_⟩
      rintro i m H2 ⟨rfl, hle, acc, ds, s2, f2, hL, ra, c2⟩
      have sO := s2.addOwn hL ra
      have fO : Same (hid O H1) (hid (L :: O) H2) := hid_new f2 nL
      have g' := go i (L :: O) H2 sO.same fO sO.trk
      by_cases hlt : i < l.length
      · have hd : l.drop i = l[i] :: l.drop (i + 1) := List.drop_eq_getElem_cons hlt
        rw [hd] at c2
        unfold xComp at c2
        refine .inr ⟨(g'.1 _ (List.getElem?_eq_getElem hlt)).1, fun H3 => ∃ acc ds, RS K cl B H0 O (L2.wipe σ vs) (wipeD D vs) (hid [L] H3) ∧ Same H1 H3 ∧ H3 L = some (.lst acc) ∧ RepL K cl (hid (L :: O) H3) acc ds ∧ xComp xg xt xe (wipeD D vs) (l.drop (i + 1)) ds = .ok res, ?_, ?_⟩
        · rintro H3 ⟨acc, ds, a, b, c, d, f⟩
          exact ⟨_, by omega, rfl, hlt, acc, ds, a, b, c, d, f⟩
        · intro x H3 y
          obtain ⟨e3, rx⟩ := (g'.1 _ (List.getElem?_eq_getElem hlt)).2 x H3 y
          cases eg : xg l[i] (wipeD D vs) with
          | bad => rw [eg] at c2; cases c2
          | ex c fs => rw [eg] at c2; cases c2
          | ok D1 =>
            rw [eg] at c2
            simp only at c2
            refine hg B H0 (L :: O) _ _ H3 (sO.mono e3) x _ rx _ D1 eg fun σ3 s3 w3 => ⟨by rw [w3, wipe_idem], ?_⟩
            refine ht B H0 (L :: O) σ3 D1 H3 s3 _ ?_
            cases et : xt D1 with
            | bad => rw [et] at c2; cases c2
            | ex c fs => rw [et] at c2; cases c2
            | ok b =>
              rw [et] at c2
              intro H4 e4
              cases b with
              | false =>
                simp only at c2
                have e34 := e3.trans e4
                exact ⟨acc, ds, s2.mono (hid_mono e34), f2.trans e34, e34 _ _ hL, ra.mono (hid_mono e34), c2⟩
              | true =>
                simp only at c2
                rw [if_pos rfl]
                refine he B H0 (L :: O) σ3 D1 H4 (s3.mono e4) _ ?_
                cases ee : xe D1 with
                | bad => rw [ee] at c2; cases c2
                | ex c fs => rw [ee] at c2; cases c2
                | ok y =>
                  rw [ee] at c2
                  simp only at c2
                  intro v H5 e5 ry
                  split at c2
                  · rename_i hz
                    have e345 := (e3.trans e4).trans e5
                    have hup : hid [L] (upd H5 L (.lst (acc ++ [v]))) = hid [L] H5 := hid_upd (List.mem_singleton.mpr rfl)
                    have hup2 : hid (L :: O) (upd H5 L (.lst (acc ++ [v]))) = hid (L :: O) H5 := hid_upd List.mem_cons_self
                    refine ⟨acc, e345 _ _ hL, sz_lt (by rw [ra.len]; exact hz), acc ++ [v], ds ++ [y], by rw [hup]; exact s2.mono (hid_mono e345), ?_, upd_same, by rw [hup2]; exact (ra.mono (hid_mono e345)).app (RepL.one ry), c2⟩
                    intro a o ha
                    rw [upd_ne (ne_of_none ha nL)]
                    exact e345 _ _ (f2 _ _ ha)
                  · cases c2
      · have hi' : i = l.length := by omega
        refine .inl ⟨g'.2 hi', ?_⟩
        rw [hi', List.drop_length] at c2
        simp only [xComp, R.ok.injEq] at c2
        subst c2
        exact q L acc H2 (e1.trans f2) (e1.free nL) hL ra

/-! ### calls -/
@[simp] def xCall (f : List Dt → R Dt) (xa : XA) : XE := fun D => (xa D).bind f
theorem simS_call {f : List Dt → R Dt} {ta : TA} {xa : XA} (ha : SimA K cl E ta xa) : Sim K cl E (tCallSD (PureSp K cl f) [] E ta) (xCall f xa) := fun B H0 O σ D H s Q q => by
  refine ha B H0 O σ D H s _ ?_
  cases ea : xa D with
  | bad => simp only [xCall, ea] at q; exact q.elim
  | ex c fs => simp only [xCall, ea] at q; exact q
  | ok ds =>
    simp only [xCall, ea] at q
    intro vs H1 e1 r
    exact ⟨O, ds, (s.mono e1).trk, by rw [List.append_nil]; exact r, post_E e1 q⟩

/-! ### a def -/
theorem rs_start {N : List Str} {vs : List V} {ds : List Dt} (hB : ∀ a, a ∈ B → MutO (H a) = true) (r : RepL K cl (hid B H) vs ds) (hl : vs.length ≤ N.length) :
    RS K cl B H B (start N vs) (ds.map Sl.sh ++ List.replicate (N.length - ds.length) .no) H where
  same := Same.refl H
  bas := fun a m => ⟨m, hB a m⟩
  own := fun a m => ⟨.inl m, hB a m⟩
  len := by simp [L2.start, r.len]
  slot := fun i s h => by
    by_cases hi : i < ds.length
    · rw [List.getElem?_append_left (by simpa using hi), List.getElem?_map] at h
      obtain ⟨d, hd, rfl⟩ := Option.map_eq_some_iff.mp h
      obtain ⟨v, hv, rv⟩ := r.get hd
      refine ⟨v, ?_, rv⟩
      unfold L2.start
      rw [List.getElem?_append_left (by rw [List.length_map, r.len]; exact hi), List.getElem?_map, hv]
      rfl
    · rw [List.getElem?_append_right (by simpa using hi)] at h
      have := List.eq_of_mem_replicate (List.mem_of_getElem? h)
      subst this
      trivial
  inj := fun i j s t a hij e1 e2 o1 o2 h1 => by
    have hs : ∀ (i : Nat) s, (ds.map Sl.sh ++ List.replicate (N.length - ds.length) Sl.no)[i]? = some s → s.own = false := fun i s h => by
      have m := List.mem_of_getElem? h
      rcases List.mem_append.mp m with m | m
      · obtain ⟨d, _, rfl⟩ := List.mem_map.mp m; rfl
      · have := List.eq_of_mem_replicate m; subst this; rfl
    rw [hs i s e1] at o1
    cases o1
  inn := Inn.none fun i t h => by
    have m := List.mem_of_getElem? h
    rcases List.mem_append.mp m with m | m
    · obtain ⟨d, _, e⟩ := List.mem_map.mp m; cases e
    · have := List.eq_of_mem_replicate m; cases this
/-- what a def's body gives for the arguments ds; n names in all -/
def runD (n : Nat) (xs : XS) (ds : List Dt) : R Dt := match xs (ds.map Sl.sh ++ List.replicate (n - ds.length) .no) with
  | .rt d => .ok d
  | .nx _ => .ok .non
  | .ex c fs _ => .ex c fs
  | _ => .bad
def funD (k n : Nat) (xs : XS) (ds : List Dt) : R Dt := if ds.length = k then runD n xs ds else .bad
theorem body_ok {N : List Str} {ts : TS} {xs : XS} {vs : List V} {H : Hp} {Q : VK} {E : XK} {k : Nat} (hs : SimS K cl (fun _ => E) ts xs) (hk : vs.length = k) (hN : k ≤ N.length)
    (h : PureSp K cl (funD k N.length xs) vs H Q E) : ts { nx := fun _ H' => Q .non H', rt := Q } (start N vs) H := by
  obtain ⟨B, ds, hB, r, q⟩ := h
  unfold funD at q
  rw [if_pos (by rw [← r.len]; exact hk)] at q
  refine hs B H B _ _ H (rs_start hB r (by omega)) _ ?_
  unfold runD at q
  cases e : xs (ds.map Sl.sh ++ List.replicate (N.length - ds.length) .no) with
  | bad => rw [e] at q; exact q.elim
  | nx D => rw [e] at q; exact fun O' σ' H' s f => q _ H' s.same .non
  | rt d => rw [e] at q; exact fun v H' e1 r => q v H' e1 r
  | bk D => rw [e] at q; exact q.elim
  | ct D => rw [e] at q; exact q.elim
  | ex c fs D => rw [e] at q; exact fun O' σ' H' s f => (ExOk.mono s.same q).sub fun a m => (s.bas a m).1
theorem PureSp.len {k n : Nat} {xs : XS} {vs : List V} {H : Hp} {Q : VK} {E : XK} (h : PureSp K cl (funD k n xs) vs H Q E) : vs.length = k := by
  obtain ⟨B, ds, hB, r, q⟩ := h
  unfold funD at q
  split at q
  · rename_i e; rw [r.len]; exact e
  · exact q.elim
end
end Mx
namespace Mx
open PySem PySem.Spec PyProof.Rows L2
theorem passB {X : Cx} (σ : L2.St) : PassesAt (L2.CX X.prog X.w) X σ E0 := fun _ _ _ _ _ _ c => by
  obtain ⟨_, _, _, _, _, _, _, _, _, _, _, _, z⟩ := c
  exact z.elim
section
variable {K : Fr} {cl : Cl} {E : L2.St → XK} {H H' H1 H0 : Hp} {O O' : List Addr} {σ : L2.St} {D : Ds} {B : List Addr}
/-- a slice of a text or of a list, as a shared value -/
def rSlA (K : Fr) : V → Option Int → Option Int → Hp → VK → Prop := fun x lo hi H Q => rSlS x lo hi H Q ∨ rSlL K x lo hi H Q
theorem sl_A {X : Cx} : SlR X (rSlA X.K) := SlR.or sl_str sl_list
def dSlA (a : Dt) (l h : Option Int) : R Dt := match a with
  | .str z => if z.length ≤ 1000000 then .ok (.str (cutS z l h)) else .bad
  | .lst z => .ok (.lst (cutD z l h))
  | .frl z => .ok (.lst (cutD z l h))
  | _ => .bad
@[simp] def xSlA (xe : XE) (xl xh : Ds → R (Option Int)) : XE := fun D => (xe D).bind fun a => (xl D).bind fun l => (xh D).bind fun h => dSlA a l h
theorem sim_slA {te : TE} {tl th : TO} {xe : XE} {xl xh : Ds → R (Option Int)} (he : SimB K cl E te xe) (hl : SimO K cl E tl xl) (hh : SimO K cl E th xh) : Sim K cl E (tSl (rSlA K) te tl th) (xSlA xe xl xh) := fun B H0 O σ D H s Q q => by
  unfold xSlA at q
  refine he B H0 O σ D H s _ ?_
  cases ea : xe D with
  | bad => rw [ea] at q; exact q.elim
  | ex c fs => rw [ea] at q; exact q
  | ok a =>
    rw [ea] at q
    intro x H1 e1 rx
    refine hl B H0 O σ D H1 (s.mono e1) _ ?_
    simp only [Mx.R.bind] at q
    cases el : xl D with
    | bad => rw [el] at q; exact q.elim
    | ex c fs => rw [el] at q; exact ExOk.mono e1 q
    | ok l =>
      rw [el] at q
      intro H2 e2
      refine hh B H0 O σ D H2 ((s.mono e1).mono e2) _ ?_
      simp only [Mx.R.bind] at q
      cases eh : xh D with
      | bad => rw [eh] at q; exact q.elim
      | ex c fs => rw [eh] at q; exact ExOk.mono (e1.trans e2) q
      | ok h =>
        rw [eh] at q
        intro H3 e3
        have e123 := (e1.trans e2).trans e3
        have t3 : Trk O H3 := (s.mono e123).trk
        have new : ∀ {vs : List V} {ds : List Dt} {p : Addr}, RepL K cl (hid O H3) vs ds → H3 p = none → Rep K cl (hid O (upd H3 p (.lst vs))) (.ref p) (.lst ds) := fun r n => .lst (hid_at (trk_nin t3 n)) (r.mono (hid_upd_new n))
        cases a with
        | str z =>
          cases rx.str_
          simp only [dSlA, Mx.R.bind] at q
          split at q
          · rename_i hz
            exact .inl ⟨z, rfl, sz_of hz, q _ H3 e123 (.str _)⟩
          · exact q.elim
        | lst z =>
          obtain ⟨p, vs, rfl, h1, r⟩ := rx.mono (e2.trans e3)
          exact .inr ⟨p, vs, rfl, SqL.of h1, fun p n => q _ _ (e123.trans (same_upd n)) (new (cut_rep r l h) n)⟩
        | frl z =>
          obtain ⟨p, vs, rfl, h1, r⟩ := rx.mono (e2.trans e3)
          exact .inr ⟨p, vs, rfl, h1, fun p n => q _ _ (e123.trans (same_upd n)) (new (cut_rep r l h) n)⟩
        | _ => exact q.elim
end
end Mx
namespace MxT
open PySem PyProof.Rows L2
/-- values that are these keys -/
abbrev KeysAre (vs : List Value) (ks : List Key) : Prop := Paired (fun u k => keyIs k u = true) vs ks
def keyLt : Key → Key → Bool
  | .inl i, .inl j => decide (i < j)
  | .inr x, .inr y => decide (x.cps.toList < y.cps.toList)
  | _, _ => false
def alike : Key → Key → Bool
  | .inl _, .inl _ => true
  | .inr _, .inr _ => true
  | _, _ => false
def lexK : List Key → List Key → Bool
  | [], [] => false
  | [], _ :: _ => true
  | _ :: _, [] => false
  | x :: xs, y :: ys => if x = y then lexK xs ys else keyLt x y
def alikeL : List Key → List Key → Bool
  | x :: xs, y :: ys => alike x y && alikeL xs ys
  | _, _ => true
theorem eqAt_key (A : Around) (s : Shared) {u v : Value} {a b : Key} (hu : keyIs a u = true) (hv : keyIs b v = true) : ∃ e, SeqAt.EqAt A s u v e ∧ (e = true ↔ a = b) := by
  rcases keyIs_shape hu with ⟨i, t, rfl, rfl⟩ | ⟨x, t, rfl, rfl⟩
  · rcases keyIs_shape hv with ⟨j, t', rfl, rfl⟩ | ⟨y, t', rfl, rfl⟩
    · exact ⟨_, SeqAt.EqAt.int_int i t j t', by simp⟩
    · exact ⟨_, SeqAt.EqAt.int_str i t y t', by simp⟩
  · rcases keyIs_shape hv with ⟨j, t', rfl, rfl⟩ | ⟨y, t', rfl, rfl⟩
    · exact ⟨_, SeqAt.EqAt.str_int x t j t', by simp⟩
    · exact ⟨_, SeqAt.EqAt.str_str x t y t', by simp⟩
theorem rcLt_key (A : Around) (s : Shared) {u v : Value} {a b : Key} (hu : keyIs a u = true) (hv : keyIs b v = true) (al : alike a b = true) (prog : Program) (w : World) (E : Value → Shared → Prop) (Q : Value → Shared → Prop) (h : Q (.bool (keyLt a b)) s) :
    wpAny (model prog w) A (richCompare .Lt u v) Q E s := by
  rcases keyIs_shape hu with ⟨i, t, rfl, rfl⟩ | ⟨x, t, rfl, rfl⟩
  · rcases keyIs_shape hv with ⟨j, t', rfl, rfl⟩ | ⟨y, t', rfl, rfl⟩
    · exact (PyProof.Rows.lt_int h : wpAny (model prog w) A (compareOp .Lt (.int i t) (.int j t')) Q E s)
    · cases al
  · rcases keyIs_shape hv with ⟨j, t', rfl, rfl⟩ | ⟨y, t', rfl, rfl⟩
    · cases al
    · exact (lt_str h : wpAny (model prog w) A (compareOp .Lt (.str x t) (.str y t')) Q E s)
section
open PySem.SeqAt
open PySem.AutoSeq1 (wpAny_loadPart')
open PySem.MeetsSeq PySem.MeetsSeq2 PySem.MeetsSeq3
theorem tuple_lt_keys (l b : Addr) (items items2 : Array Value) (n n2 : Nat) (dd dd2 : Option Addr) (sl sl2 : Array (Option Value)) (ns ms : List Key) (hi : KeysAre items.toList ns) (hj : KeysAre items2.toList ms) (al : alikeL ns ms = true) :
    Meets (Builtin.«tuple.__lt__» ⟨[.ref l, .ref b], []⟩)
      (fun _ R s => s.heap.get? l = some { cls := .type "tuple", dict := dd, data := .seq items n, slots := sl } ∧ s.heap.get? b = some { cls := .type "tuple", dict := dd2, data := .seq items2 n2, slots := sl2 } ∧
        R (.ok (.ret (.bool (lexK ns ms)))) s) :=
  .of_wp fun prog w A R s h => by
    obtain ⟨hp, g, d, tk, os⟩ := s; obtain ⟨hl, hb, h⟩ := h
    have f2 := AutoSeq1.sub_tuple_tuple
    have z1 : items.size = ns.length := by rw [← hi.length]; simp
    have z2 : items2.size = ms.length := by rw [← hj.length]; simp
    wp_walk using wpAny_loadPart' hl, wpAny_loadPart' hb, wpAny_forIn_list _ (fun rest b s' => b.1 = none ∧ s' = ⟨hp, g, d, tk, os⟩ ∧ ∃ (vs ws : List Value) (ns' ms' : List Key), rest = vs.zip ws ∧
      KeysAre vs ns' ∧ KeysAre ws ms' ∧ alikeL ns' ms' = true ∧ ns'.length + items2.size = ms'.length + items.size ∧ R (.ok (.ret (.bool (lexK ns' ms')))) ⟨hp, g, d, tk, os⟩) _
    case turn =>
      rintro ⟨y, x⟩ rest b s' ⟨hb', rfl, vs, ws, ns', ms', hz, hvi, hwi, hal, hlen, hR⟩
      cases hvi with
      | nil => rw [List.zip_nil_left] at hz; cases hz
      | @cons v a vs' ns'' ha hvi' =>
        cases hwi with
        | nil => rw [List.zip_nil_right] at hz; cases hz
        | @cons v2 c ws' ms'' hc hwi' =>
          rw [List.zip_cons_cons] at hz
          injection hz with hyx hrest
          injection hyx with hy hx
          subst hy hx
          simp only [alikeL, Bool.and_eq_true] at hal
          simp only [lexK] at hR
          simp only [List.length_cons] at hlen
          obtain ⟨e, he, hiff⟩ := eqAt_key A.in1 ⟨hp, g, d, tk, os⟩ ha hc
          refine wpAny_bind (he prog w _ _ ?_)
          cases e with
          | true =>
            rw [if_pos (hiff.mp rfl)] at hR
            wp_walk
            exact ⟨rfl, rfl, _, _, _, _, hrest, hvi', hwi', hal.2, by omega, hR⟩
          | false =>
            rw [if_neg (fun q => absurd (hiff.mpr q) Bool.false_ne_true)] at hR
            have hri := rcLt_key A.in1 ⟨hp, g, d, tk, os⟩ ha hc hal.1 prog w
            wp_walk using hri
            exact ⟨_, rfl, by simpa using hR⟩
    case fin =>
      rintro ⟨b1, b2⟩ s' ⟨hb', rfl, vs, ws, ns', ms', hz, hvi, hwi, hal, hlen, hR⟩
      simp only at hb'
      subst hb'
      have hv : lexK ns' ms' = decide (items.size < items2.size) := by
        cases hvi with
        | nil =>
          cases hwi with
          | nil =>
            simp only [List.length_nil] at hlen
            show false = _
            exact (decide_eq_false (by omega)).symm
          | cons u hw =>
            simp only [List.length_nil, List.length_cons] at hlen
            show true = _
            exact (decide_eq_true (by omega)).symm
        | cons t hv =>
          cases hwi with
          | nil =>
            simp only [List.length_nil, List.length_cons] at hlen
            show false = _
            exact (decide_eq_false (by omega)).symm
          | cons u hw =>
            rw [List.zip_cons_cons] at hz
            cases hz
      rw [hv] at hR
      wp_walk
      exact ⟨_, rfl, by simpa [Builtin.Tuple.tupleCompareSizes] using hR⟩
    case h =>
      exact ⟨rfl, rfl, items.toList, items2.toList, ns, ms, rfl, hi, hj, al, by omega, h⟩
end
section
variable {prog : Program} {w : World} {A : Around} {E : Value → Shared → Prop} {s : Shared}
theorem lt_tupKeys {l b : Addr} {items items2 : Array Value} {ns ms : List Key} {Q : Value → Shared → Prop} (hl : IsTup s.heap l items) (hb : IsTup s.heap b items2) (hi : KeysAre items.toList ns) (hj : KeysAre items2.toList ms) (al : alikeL ns ms = true)
    (hu : A.units < cLine) (h : Q (.bool (lexK ns ms)) s) : wpAny (model prog w) A (compareOp .Lt (.ref l) (.ref b)) Q E s := by
  obtain ⟨⟨cls, dd, data, sl⟩, ho, hc, n, hd⟩ := id hl
  obtain ⟨⟨cls2, dd2, data2, sl2⟩, ho2, hc2, n2, hd2⟩ := id hb
  simp only at hc hd hc2 hd2
  subst hc hd hc2 hd2
  exact richCompare_meets_room (op := .Lt) ⟨_, ho, rfl⟩ ⟨_, ho2, rfl⟩ PySem.F.slot_tuple_lt PySem.F.entry_tuple_lt (PySem.F.args_tuple_lt_2 _ _) (tuple_lt_keys l b items items2 n n2 dd dd2 sl sl2 ns ms hi hj al)
    ⟨ho, ho2, show Value.bool (lexK ns ms) ≠ Value.notImplemented ∧ Q (.bool (lexK ns ms)) s from ⟨(fun x => nomatch x), h⟩⟩ hu
end
end MxT
namespace Mx
open PySem PySem.Spec PyProof.Rows L2
theorem keysAre_of : ∀ {ks : List Key} {us : List Value}, Vals (ks.map kV) us → MxT.KeysAre us ks
  | [], _, .nil => .nil
  | .inl i :: ks, _, .cons r t => by
    obtain ⟨tk, rfl⟩ := r
    exact .cons (keyIs_int i tk) (keysAre_of t)
  | .inr x :: ks, _, .cons r t => by
    obtain ⟨tk, rfl⟩ := r
    exact .cons (keyIs_str x tk) (keysAre_of t)
def rLtK (K : PySem.W.Frag) : R2 := fun x y H Q => ∃ (a b : Addr) (ns ms : List Key), x = .ref a ∧ y = .ref b ∧ SqT K H a (ns.map kV) ∧ SqT K H b (ms.map kV) ∧ MxT.alikeL ns ms = true ∧ Q (.bl (MxT.lexK ns ms)) H
theorem op_ltK {X : Cx} (hu : X.A.units < cLine) : OpR X (compareOp .Lt) (rLtK X.K) := by
  intro pins s σ H x y v u Q I rx ry h
  obtain ⟨a, b, ns, ms, rfl, rfl, ha, hb, al, q⟩ := h
  cases rx
  cases ry
  obtain ⟨its, r1, p1, _⟩ := I.tuple ha
  obtain ⟨its2, r2, p2, _⟩ := I.tuple hb
  exact MxT.lt_tupKeys p1 p2 (keysAre_of r1) (keysAre_of r2) al hu ⟨.bl (MxT.lexK ns ms), H, I, rfl, q⟩
def keyOf : Dt → Option Key
  | .int i => some (.inl i)
  | .str x => some (.inr x)
  | _ => none
def keysOf : List Dt → Option (List Key)
  | [] => some []
  | d :: l => (keyOf d).bind fun k => (keysOf l).map fun r => k :: r
def keyD : Key → Dt
  | .inl i => .int i
  | .inr x => .str x
section
variable {K : Fr} {cl : Cl} {E : L2.St → XK} {H H' H1 H0 : Hp} {O O' : List Addr} {σ : L2.St} {D : Ds} {B : List Addr}
theorem keyOf_rep {v : V} {d : Dt} {k : Key} (h : Rep K cl H v d) (e : keyOf d = some k) : v = kV k := by
  cases h <;> simp only [keyOf] at e <;> cases e <;> rfl
theorem keysOf_rep : ∀ {vs : List V} {ds : List Dt} {ks : List Key}, RepL K cl H vs ds → keysOf ds = some ks → vs = ks.map kV
  | _, _, _, .nil, e => by simp only [keysOf, Option.some.injEq] at e; subst e; rfl
  | _, _, ks, .cons h r, e => by
    unfold keysOf at e
    obtain ⟨k, e1, e2⟩ := Option.bind_eq_some_iff.mp e
    obtain ⟨l, e3, rfl⟩ := Option.map_eq_some_iff.mp e2
    rw [keyOf_rep h e1, keysOf_rep r e3]
    rfl
theorem keyD_rep (k : Key) : Rep K cl H (kV k) (keyD k) := by
  cases k with
  | inl i => exact .int i
  | inr x => exact .str x
theorem keysD_rep : ∀ (ks : List Key), RepL K cl H (ks.map kV) (ks.map keyD)
  | [] => .nil
  | k :: ks => .cons (keyD_rep k) (keysD_rep ks)
@[simp] theorem keyOf_int (i : Int) : keyOf (.int i) = some (.inl i) := rfl
@[simp] theorem keyOf_str (i : Str) : keyOf (.str i) = some (.inr i) := rfl
@[simp] theorem keyOf_D (k : Key) : keyOf (keyD k) = some k := by cases k <;> rfl
def dLtK : Dt → Dt → R Dt
  | .tup l, .tup m => (opt (keysOf l)).bind fun ns => (opt (keysOf m)).bind fun ms => if MxT.alikeL ns ms = true then .ok (.bl (MxT.lexK ns ms)) else .bad
  | _, _ => .bad
theorem os_ltK : OpS K cl (rLtK K) dLtK := fun O H x y a b E ho rx ry Q q => by
  unfold dLtK at q
  split at q
  · rename_i l m
    obtain ⟨p, vs, rfl, h1, r1⟩ := rx
    obtain ⟨p', vs', rfl, h2, r2⟩ := ry
    cases e1 : keysOf l with
    | none => rw [e1] at q; exact q.elim
    | some ns =>
      rw [e1] at q
      simp only [opt_some, Mx.R.bind] at q
      cases e2 : keysOf m with
      | none => rw [e2] at q; exact q.elim
      | some ms =>
        rw [e2] at q
        simp only [opt_some, Mx.R.bind] at q
        split at q
        · rename_i al
          have v1 := keysOf_rep r1 e1
          have v2 := keysOf_rep r2 e2
          subst v1 v2
          exact ⟨p, p', ns, ms, rfl, rfl, SqT.of h1, SqT.of h2, al, ok_ret q (.bl _)⟩
        · exact q.elim
  · exact q.elim
end
end Mx
namespace MxT
open PySem PyProof.Rows L2 Srt SrtO
abbrev IS := Int × List Nat
def lexIS (p q : IS) : Bool := if p.1 = q.1 then decide (p.2 < q.2) else decide (p.1 < q.1)
theorem ln_irrefl (a : List Nat) : ¬ a < a := List.lt_irrefl a
theorem ln_asymm {a b : List Nat} (h : a < b) : ¬ b < a := List.lt_asymm h
theorem ln_trans {a b c : List Nat} (h : ¬ a < b) (k : ¬ b < c) : ¬ a < c := by
  have h1 : b ≤ a := List.not_lt.mp h
  have h2 : c ≤ b := List.not_lt.mp k
  exact List.not_lt.mpr (List.le_trans h2 h1)
theorem lexIS_swo {α : Type} (k : α → IS) : Swo fun v u => lexIS (k v) (k u) := by
  refine ⟨fun x y h => ?_, fun x y z h1 h2 => ?_⟩
  · unfold lexIS at h ⊢
    by_cases e : (k x).1 = (k y).1
    · rw [if_pos e] at h
      rw [if_pos e.symm]
      exact decide_eq_false (ln_asymm (of_decide_eq_true h))
    · rw [if_neg e] at h
      rw [if_neg (Ne.symm e)]
      have := of_decide_eq_true h
      exact decide_eq_false (by omega)
  · unfold lexIS at h1 h2 ⊢
    by_cases e1 : (k y).1 = (k x).1
    · rw [if_pos e1] at h1
      by_cases e2 : (k z).1 = (k y).1
      · rw [if_pos e2] at h2
        rw [if_pos (e2.trans e1)]
        exact decide_eq_false (ln_trans (of_decide_eq_false h2) (of_decide_eq_false h1))
      · rw [if_neg e2] at h2
        have := of_decide_eq_false h2
        rw [if_neg (by omega)]
        exact decide_eq_false (by omega)
    · rw [if_neg e1] at h1
      have := of_decide_eq_false h1
      by_cases e2 : (k z).1 = (k y).1
      · rw [if_neg (by omega)]
        exact decide_eq_false (by omega)
      · rw [if_neg e2] at h2
        have := of_decide_eq_false h2
        rw [if_neg (by omega)]
        exact decide_eq_false (by omega)
def IsIS (h : Heap) (v : Value) (p : IS) : Prop := ∃ a o t u n x, v = .ref a ∧ h.get? a = some o ∧ o.cls = .type "tuple" ∧ o.data = .seq #[.int p.1 t, .str x u] n ∧ x.cps.toList = p.2
theorem IsIS.keeps {h h' : Heap} {v : Value} {q : IS} (p : IsIS h v q) (k : ∀ b o, h.get? b = some o → o.cls = .type "tuple" → h'.get? b = some o) : IsIS h' v q := by
  obtain ⟨a, o, t, u, n, x, e, ho, hc, hd, hx⟩ := p
  exact ⟨a, o, t, u, n, x, e, k _ _ ho hc, hc, hd, hx⟩
section
variable {prog : Program} {w : World} {A : Around} {E : Value → Shared → Prop} {s : Shared}
theorem IS_firsts {h : Heap} {k : Value → IS} : ∀ {vs : List Value}, (∀ v ∈ vs, IsIS h v (k v)) → ∃ fs : List Value, PySem.W.KatTups h vs fs ∧ fs.length = vs.length ∧ ∀ f ∈ fs, ∃ x t, f = Value.int x t
  | [], _ => ⟨[], PySem.W.KatTups.nil, rfl, fun _ hm => by simp at hm⟩
  | v :: vs, hp => by
    obtain ⟨fs, h1, h2, h3⟩ := IS_firsts (vs := vs) fun v' hm => hp v' (List.mem_cons_of_mem _ hm)
    obtain ⟨a, o, t, u, n, x, e, ho, hc, hd, hx⟩ := hp v (List.mem_cons_self ..)
    subst e
    refine ⟨.int _ t :: fs, PySem.W.KatTups.cons ho hc hd rfl h1, by rw [List.length_cons, List.length_cons, h2], fun f hm => ?_⟩
    rcases List.mem_cons.mp hm with rfl | hm
    · exact ⟨_, _, rfl⟩
    · exact h3 f hm
theorem IS_cmp {vs : List Value} {k : Value → IS} (hp : ∀ v ∈ vs, IsIS s.heap v (k v)) : Cmp prog w A s (tuples' true) (fun p => p.1 ∈ vs) (lt2 fun v u => lexIS (k v) (k u)) := by
  intro p q hm hm'
  have h1 := hp _ hm
  have h2 := hp _ hm'
  show wpAny (model prog w) A (keyLt' (tuples' true) p.1 q.1) (fun r s' => s' = s ∧ r = lexIS (k p.1) (k q.1)) (fun _ _ => False) s
  unfold lexIS
  obtain ⟨a, o, t, u, n, y, e, ho, hc, hd, hy⟩ := h1
  obtain ⟨a', o', t', u', n', y', e', ho', hc', hd', hy'⟩ := h2
  rw [← hy, ← hy']
  generalize (k p.1).1 = x at hd ⊢
  generalize (k q.1).1 = x' at hd' ⊢
  rw [e, e']
  refine PySem.W.kat_lt ho hd ho' hd' ?_
  show PySem.W.KatLex prog w A true (decide (2 < 2)) _ [(.int x t, .int x' t'), (.str y u, .str y' u')] 0 s
  refine PySem.W.kat_cons (SeqAt.EqAt.int_int x t x' t' prog w _ _ ?_)
  refine PySem.W.kat_go (fun e1 => ?_) (fun e1 => ?_)
  · have ex : x = x' := by simpa using e1
    refine PySem.W.kat_yes (PySem.W.kat_cons (SeqAt.EqAt.str_str y u y' u' prog w _ _ ?_))
    refine PySem.W.kat_go (fun e2 => ?_) (fun e2 => ?_)
    · have ey : y = y' := by simpa using e2
      have e3 : (if x = x' then decide (y.cps.toList < y'.cps.toList) else decide (x < x')) = false := by
        rw [if_pos ex, ey]
        exact decide_eq_false (ln_irrefl _)
      exact PySem.W.kat_yes (PySem.W.kat_nil ⟨rfl, e3.symm⟩)
    · have e3 : (if x = x' then decide (y.cps.toList < y'.cps.toList) else decide (x < x')) = decide (y.cps.toList < y'.cps.toList) := if_pos ex
      refine PySem.W.kat_no (PySem.W.kat_one _ _ (lt_str ?_))
      exact (show s = s ∧ decide (y.cps.toList < y'.cps.toList) = (if x = x' then decide (y.cps.toList < y'.cps.toList) else decide (x < x')) from ⟨rfl, e3.symm⟩)
  · have ex : ¬ x = x' := by simpa using e1
    have e3 : (if x = x' then decide (y.cps.toList < y'.cps.toList) else decide (x < x')) = decide (x < x') := if_neg ex
    exact PySem.W.kat_no (oneLt_int ⟨rfl, e3.symm⟩)
theorem IS_sortable {a : Addr} {vs : List Value} {k : Value → IS} (h0 : 0 < vs.length) (hp : ∀ v ∈ vs, IsIS s.heap v (k v)) (ha : ∀ o, s.heap.get? a = some o → o.cls ≠ .type "tuple") : SortableO prog w A s a vs fun v u => lexIS (k v) (k u) := by
  intro h' keep
  have hp' : ∀ v ∈ vs, IsIS h' v (k v) := fun v hm => (hp v hm).keeps fun b o e c => keep b o (fun z => by subst z; exact ha o e c) e
  obtain ⟨fs, h1, h2, h3⟩ := IS_firsts hp'
  refine ⟨tuples' true, fun Q E hq => ?_, IS_cmp hp'⟩
  refine PySem.W.kat_kind (T := .type "int") h1 (by omega) (fun f hm => ?_) (by rfl) ?_
  · obtain ⟨x, t, rfl⟩ := h3 f hm
    exact PySem.W.Looks.now
  · have e : (Value.type "int" != Value.type "tuple") = true := by first | decide +kernel | rfl | decide
    rw [e]
    exact hq
end
end MxT
namespace L2
open PySem PySem.Spec PyProof.Rows
/-- the int and the signs of a key (i, x) -/
def isK : List Key → MxT.IS
  | [.inl i, .inr x] => (i, x.cps.toList)
  | _ => (0, [])
def okIS (k : List Key) : Prop := ∃ i x, k = [.inl i, .inr x]
theorem pair_all {α β : Type} {F : α → β → Prop} : ∀ {l : List α} {m : List β}, Paired F l m → ∀ b ∈ m, ∃ a ∈ l, F a b
  | _, _, .cons h t, b, hb => by
    rcases List.mem_cons.mp hb with e | hb
    · exact ⟨_, List.mem_cons_self, e ▸ h⟩
    · obtain ⟨a, ha, hf⟩ := pair_all t b hb
      exact ⟨a, List.mem_cons_of_mem _ ha, hf⟩
def addrOf : Value → Addr
  | .ref a => a
  | _ => 0
/-- the key that stands at an address -/
def keyAt (H : Hp) (a : Addr) : List Key := match H a with
  | some (.tup [.int i, .str x]) => [.inl i, .inr x]
  | _ => []
theorem keyAt_eq {H : Hp} {b : Addr} {k : List Key} (h : H b = some (.tup (k.map kV))) (ok : okIS k) : keyAt H b = k := by
  obtain ⟨i, x, rfl⟩ := ok
  unfold keyAt
  rw [h]
  rfl
/-- sorted(d), the keys of d pairs of an int and a text -/
def rSortedDT : List V → Hp → VK → Prop := fun xs H Q => ∃ (a : Addr) (kvs : List (List Key × V)), xs = [.ref a] ∧ Rd H a (.dT kvs) ∧ (∀ p ∈ kvs, okIS p.1) ∧
  ∀ (p : Addr) (bs : List Addr) (ks : List (List Key)), Paired (fun k b => H b = some (.tup (k.map kV))) ks bs → ks.Perm (kvs.map (·.1)) → ks.Pairwise (fun k m => MxT.lexIS (isK m) (isK k) = false) → H p = none → Q (.ref p) (upd H p (.lst (bs.map V.ref)))
theorem paired_kat {H : Hp} : ∀ (bs : List Addr), (∀ b ∈ bs, okIS (keyAt H b) ∧ H b = some (.tup ((keyAt H b).map kV))) → Paired (fun k b => H b = some (.tup (k.map kV))) (bs.map (keyAt H)) bs
  | [], _ => .nil
  | b :: bs, h => .cons (h b List.mem_cons_self).2 (paired_kat bs fun c hc => h c (List.mem_cons_of_mem _ hc))
theorem cr_sortedDT {X : Cx} (hcalm : X.calm = true) : CallR X (.builtin "sorted") rSortedDT := by
  intro pins s σ H xs us Q I r q
  obtain ⟨d, kvs, ex, hd, hok, q⟩ := q
  subst ex
  obtain ⟨u, rfl, rx⟩ := r.one
  cases rx
  obtain ⟨z, hs, ks, pr, o, es, ep, ho, hx, hdt, he, hn⟩ := (show ObjOk X.prog X.w H s.heap d (.dT kvs) from hd.ok I.hok)
  have l1 : es.size = ks.length := size_of_entries he
  have l2 : kvs.length = ks.length := Paired.length pr
  have h16 : es.size ≤ sizeLine := by omega
  refine Calls.call_function_entry PyProof.Rows.kind_sorted PyProof.Rows.plain_sorted PyProof.Rows.entry_sorted (PyProof.Rows.args_sorted1 _) ?_
  unfold Builtin.«sorted»
  refine wpAny_bind (m := checkCount "sorted" 1 1 _) (wpAny_pure ?_)
  refine wpAny_bind (PySem.W.kdu_collect (A := X.A.in1) (kdl_raw hs hx hdt) (I.ok.hd hcalm) ho h16 fun h' tk acc hk it => ?_)
  have ea : acc.toList = (ks.map fun x => x.2.1).map Value.ref := by
    have hl : acc.toList.length = ks.length := by rw [Array.length_toList, it.1]; exact l1
    apply List.ext_getElem?
    intro j
    rw [List.getElem?_map, List.getElem?_map]
    cases hj : acc.toList[j]? with
    | none =>
      have h1 := List.getElem?_eq_none_iff.mp hj
      rw [List.getElem?_eq_none (by omega)]
      all_goals rfl
    | some v =>
      obtain ⟨en, hen, hv⟩ := it.2 j v (by rw [← Array.getElem?_toList]; exact hj)
      have qe := entry_at he j
      rw [hen] at qe
      cases hb : ks[j]? with
      | none =>
        rw [hb] at qe
        exact nomatch (show some en = none from qe)
      | some b =>
        rw [hb] at qe
        have e2 : en = entryOfKey (tupleKind (mixKind X.prog X.w)) b := Option.some.inj qe
        rw [hv, e2]
        all_goals rfl
  have hal : acc.toList.length = ks.length := by rw [ea, List.length_map, List.length_map]
  have I1 : Inv X pins σ H { s with heap := h', toks := tk } := I.kept hk
  refine wpAny_bind (wpAny_newList ?_ (by rw [hal, ← l2]; exact z))
  have hoL : (h'.push (seqObj "list" acc.toList.toArray 0)).get? h'.objs.size = some (seqObj "list" acc.toList.toArray 0) := Heap.get?_push_size _ rfl
  show wpAny _ _ _ _ _ { s with heap := h'.push (seqObj "list" acc.toList.toArray 0), toks := tk }
  have isk := isKeys_of pr
  have keys : ∀ b ∈ ks.map (fun x => x.2.1), okIS (keyAt H b) ∧ H b = some (.tup ((keyAt H b).map kV)) := fun b hb => by
    obtain ⟨p, hp, hH⟩ := pair_all isk b hb
    have ok := hok p hp
    rw [keyAt_eq hH ok]
    exact ⟨ok, hH⟩
  have mapk : (ks.map fun x => x.2.1).map (keyAt H) = kvs.map (·.1) := by
    have : ∀ {l : List (List Key × V)} {m : List Addr}, Paired (fun p b => H b = some (.tup (p.1.map kV))) l m → (∀ p ∈ l, okIS p.1) → m.map (keyAt H) = l.map (·.1) := by
      intro l m pr ok
      induction pr with
      | nil => rfl
      | cons h t ih =>
        rw [List.map_cons, List.map_cons, keyAt_eq h (ok _ List.mem_cons_self), ih fun p hp => ok p (List.mem_cons_of_mem _ hp)]
    exact this isk hok
  have kk : ∀ (v : Value), v ∈ acc.toList → MxT.IsIS (h'.push (seqObj "list" acc.toList.toArray 0)) v (isK (keyAt H (addrOf v))) := fun v hv => by
    rw [ea] at hv
    obtain ⟨b, hb, rfl⟩ := List.mem_map.mp hv
    obtain ⟨ok, hH⟩ := keys b hb
    show MxT.IsIS _ (.ref b) (isK (keyAt H b))
    obtain ⟨i, x, ek⟩ := ok
    rw [ek] at hH ⊢
    obtain ⟨_, its, rv, oT, hoT, hcT, n, hdT⟩ := (show ObjOk X.prog X.w H h' b _ from I1.hok _ _ hH)
    obtain ⟨u1, u2, rfl, ri, rj⟩ := vals2 rv
    obtain ⟨t1, rfl⟩ := ri
    obtain ⟨t2, rfl⟩ := rj
    exact ⟨b, oT, t1, t2, n, x, rfl, Heap.get?_push_of_some _ hoT, hcT, hdT, rfl⟩
  refine wpAny_bind (wpAny_holding (wpAny_call_entry PyProof.Rows.slot_list_sort ⟨_, hoL, rfl⟩ PyProof.Rows.entry_list_sort
    (SrtO.list_sort_ord (s := { s with heap := h'.push (seqObj "list" acc.toList.toArray 0), toks := tk }) (MxT.lexIS_swo fun v => isK (keyAt H (addrOf v))) hoL (by rw [hal, ← l2]; exact z)
      (fun h2 => MxT.IS_sortable (s := { s with heap := h'.push (seqObj "list" acc.toList.toArray 0), toks := tk }) (by omega) kk fun oo e => by
        have e' : some oo = some (seqObj "list" acc.toList.toArray 0) := e.symm.trans hoL
        cases e'
        intro c
        exact absurd (Value.type.inj c) (by decide)) fun out hs hb => ⟨_, rfl, ?_⟩)
    (PyProof.Rows.args_list_sort _)))
  refine wpAny_pure ⟨_, rfl, ?_⟩
  have hout : ∀ v ∈ out, ∃ b, v = Value.ref b ∧ b ∈ ks.map (fun x => x.2.1) := fun v hv => by
    have := hb.perm.mem_iff.mp hv
    rw [ea] at this
    obtain ⟨b, hb, rfl⟩ := List.mem_map.mp this
    exact ⟨b, rfl, hb⟩
  have eout : out = (out.map addrOf).map Value.ref := by
    rw [List.map_map]
    symm
    have : out.map (Value.ref ∘ addrOf) = out.map id := List.map_congr_left fun v hv => by
      obtain ⟨b, rfl, _⟩ := hout v hv
      rfl
    rw [this, List.map_id]
  have kp : ∀ b o, h'.get? b = some o → (sortedHeap (h'.push (seqObj "list" acc.toList.toArray 0)) h'.objs.size acc.toList out.toArray).get? b = some o := fun b o e1 => by
    have hlt := Heap.lt_size e1
    rw [sortedHeap_old (Nat.ne_of_lt hlt) (by rw [size_push']; exact Nat.lt_succ_of_lt hlt)]
    exact Heap.get?_push_of_some _ e1
  obtain ⟨e2, at2⟩ := sortedHeap_at (out := out.toArray) hoL
  have rv : Vals ((out.map addrOf).map V.ref) out := by
    have := vals_refs (out.map addrOf)
    rw [← eout] at this
    exact this
  have hlen : out.length = kvs.length := by rw [hb.len, hal, l2]
  refine ⟨.ref h'.objs.size, _, I1.laid (t' := tk) (o := .lst ((out.map addrOf).map V.ref)) kp (Nat.le_refl _) ⟨by rw [List.length_map, List.length_map, hlen]; exact z, out, e2, rv, at2⟩, rfl, ?_⟩
  refine q _ (out.map addrOf) ((out.map addrOf).map (keyAt H)) (paired_kat _ fun b hb' => ?_) ?_ ?_ (I1.hok.fresh (Nat.le_refl _))
  · obtain ⟨v, hv, rfl⟩ := List.mem_map.mp hb'
    obtain ⟨b, rfl, hb2⟩ := hout v hv
    exact keys b hb2
  · rw [← mapk]
    have p := hb.perm
    rw [ea] at p
    have p2 := p.map addrOf
    have e3 : ((ks.map fun x => x.2.1).map Value.ref).map addrOf = ks.map fun x => x.2.1 := by
      rw [List.map_map]
      have : (ks.map fun x => x.2.1).map (addrOf ∘ Value.ref) = (ks.map fun x => x.2.1).map id := List.map_congr_left fun _ _ => rfl
      rw [this, List.map_id]
    rw [e3] at p2
    exact p2.map _
  · rw [List.map_map]
    exact List.pairwise_map.mpr hs
end L2
namespace Mx
open PySem PySem.Spec PyProof.Rows L2

section
variable {K : Fr} {cl : Cl} {E : L2.St → XK} {H H' H1 H0 : Hp} {O O' : List Addr} {σ : L2.St} {D : Ds} {B : List Addr}
/-! ### pairs -/
section
variable {κ : Type} [DecidableEq κ]
def getG {α : Type} : List (κ × α) → κ → Option α
  | [], _ => none
  | p :: r, k => if p.1 = k then some p.2 else getG r k
def putG {α : Type} : List (κ × α) → κ → α → List (κ × α)
  | [], k, v => [(k, v)]
  | p :: r, k, v => if p.1 = k then (p.1, v) :: r else p :: putG r k v
theorem getG_valV : ∀ (l : List (κ × V)) (k : κ), valV l k = getG l k
  | [], _ => rfl
  | p :: r, k => by
    unfold getG
    by_cases e : p.1 = k
    · rw [if_pos e, valV_pos e]
    · rw [if_neg e, valV_neg e, getG_valV r k]
theorem getG_rep {α β : Type} {F : α → β → Prop} : ∀ {l : List (κ × α)} {m : List (κ × β)} {k : κ}, l.map (·.1) = m.map (·.1) → (∀ (i : Nat) a b, (l.map (·.2))[i]? = some a → (m.map (·.2))[i]? = some b → F a b) →
    (getG l k = none ∧ getG m k = none) ∨ ∃ a b, getG l k = some a ∧ getG m k = some b ∧ F a b
  | [], [], _, _, _ => .inl ⟨rfl, rfl⟩
  | [], _ :: _, _, e, _ => by cases e
  | _ :: _, [], _, e, _ => by cases e
  | p :: l, q :: m, k, e, h => by
    simp only [List.map_cons, List.cons.injEq] at e
    unfold getG
    by_cases c : p.1 = k
    · rw [if_pos c, if_pos (e.1 ▸ c)]
      exact .inr ⟨_, _, rfl, rfl, h 0 p.2 q.2 rfl rfl⟩
    · rw [if_neg c, if_neg (fun z => c (e.1.trans z))]
      exact getG_rep e.2 fun i a b ha hb => h (i + 1) a b (by simpa using ha) (by simpa using hb)
theorem getG_keys {α : Type} : ∀ {l : List (κ × α)} {k : κ}, k ∉ l.map (·.1) → getG l k = none
  | [], _, _ => rfl
  | p :: r, k, h => by
    simp only [List.map_cons, List.mem_cons, not_or] at h
    unfold getG
    rw [if_neg (fun e => h.1 e.symm)]
    exact getG_keys h.2
/-- the layer's store in a dict is this one, where no key stands twice -/
theorem putG_putK : ∀ (l : List (κ × V)) (k : κ) (v : V), (l.map (·.1)).Nodup → putK l k v = putG l k v
  | [], k, v, _ => by simp [putK, putG]
  | p :: r, k, v, hn => by
    obtain ⟨h1, h2⟩ := List.nodup_cons.mp (show (p.1 :: r.map (·.1)).Nodup from hn)
    have ih := putG_putK r k v h2
    unfold putG
    by_cases e : p.1 = k
    · rw [if_pos e]
      unfold putK
      have : ((p :: r).any fun kv => decide (kv.1 = k)) = true := by simp [e]
      rw [if_pos this, List.map_cons, if_pos e]
      congr 1
      have : ∀ q ∈ r, (if q.1 = k then (q.1, v) else q) = q := fun q hq => by
        rw [if_neg]
        intro z
        exact h1 (by rw [e, ← z]; exact List.mem_map_of_mem hq)
      rw [List.map_congr_left this]; simp
    · rw [if_neg e, ← ih]
      unfold putK
      have : ((p :: r).any fun kv => decide (kv.1 = k)) = (r.any fun kv => decide (kv.1 = k)) := by simp [e]
      rw [this]
      split
      · rw [List.map_cons, if_neg e]
      · rfl
theorem putG_keys {α β : Type} : ∀ {l : List (κ × α)} {m : List (κ × β)} {k : κ} {v : α} {w : β}, l.map (·.1) = m.map (·.1) → (putG l k v).map (·.1) = (putG m k w).map (·.1)
  | [], [], _, _, _, _ => rfl
  | [], _ :: _, _, _, _, e => by cases e
  | _ :: _, [], _, _, _, e => by cases e
  | p :: l, q :: m, k, v, w, e => by
    simp only [List.map_cons, List.cons.injEq] at e
    unfold putG
    by_cases c : p.1 = k
    · rw [if_pos c, if_pos (e.1 ▸ c), List.map_cons, List.map_cons, e.2, e.1]
    · rw [if_neg c, if_neg (fun z => c (e.1.trans z)), List.map_cons, List.map_cons, putG_keys e.2, e.1]
theorem putG_vals {k : κ} {v : V} {d : Dt} (hv : Rep K cl H v d) : ∀ {l : List (κ × V)} {m : List (κ × Dt)}, l.map (·.1) = m.map (·.1) → RepL K cl H (l.map (·.2)) (m.map (·.2)) → RepL K cl H ((putG l k v).map (·.2)) ((putG m k d).map (·.2))
  | [], [], _, _ => .cons hv .nil
  | [], _ :: _, e, _ => by cases e
  | _ :: _, [], e, _ => by cases e
  | p :: l, q :: m, e, r => by
    simp only [List.map_cons, List.cons.injEq] at e
    simp only [List.map_cons] at r
    cases r with
    | cons h r =>
      unfold putG
      by_cases c : p.1 = k
      · rw [if_pos c, if_pos (e.1 ▸ c)]; exact .cons hv r
      · rw [if_neg c, if_neg (fun z => c (e.1.trans z))]; exact .cons h (putG_vals hv e.2 r)
end
theorem repL_at {l : List V} {m : List Dt} (r : RepL K cl H l m) : ∀ (i : Nat) a b, l[i]? = some a → m[i]? = some b → Rep K cl H a b := fun i a b ha hb => rep_at r hb ha
/-! ### a dict of one's own, its keys tuples -/
@[simp] def xsNewT (i : Nat) : XS := fun D => .nx (D.set i (.ot []))
theorem ss_newT {i : Nat} : SimS K cl E (tAsg tDNewT (gName i)) (xsNewT i) := fun B H0 O σ D H s En q => fun p n =>
  q _ _ _ (s.setOwn i (same_upd n) n ⟨[], upd_same, rfl, .nil⟩ (by rw [upd_same]; rfl)) (hid_new (same_upd n) n)
def dKeyT : Dt → R (List Key)
  | .tup l => opt (keysOf l)
  | _ => .bad
@[simp] theorem dKeyT_tup (l : List Dt) : dKeyT (.tup l) = opt (keysOf l) := rfl
theorem dKeyT_rep {v : V} {d : Dt} {k : List Key} (h : Rep K cl H v d) (e : dKeyT d = .ok k) : ∃ b, v = .ref b ∧ H b = some (.tup (k.map kV)) := by
  cases d with
  | tup l =>
    simp only [dKeyT] at e
    cases e2 : keysOf l with
    | none => rw [e2] at e; cases e
    | some ks =>
      rw [e2] at e
      cases e
      cases h with
      | tup ha ra =>
        have := keysOf_rep ra e2
        subst this
        exact ⟨_, rfl, ha⟩
  | _ => cases e
theorem dKeyT_ex {d : Dt} {c : Str} {fs : List (Str × Dt)} : dKeyT d ≠ .ex c fs := by
  intro e
  cases d with
  | tup l => simp only [dKeyT] at e; cases e2 : keysOf l <;> rw [e2] at e <;> cases e
  | _ => cases e
def Sl.ot? : Option Sl → R (List (List Key × Dt))
  | some (.ot l) => .ok l
  | _ => .bad
@[simp] theorem ot?_ot (l : List (List Key × Dt)) : Sl.ot? (some (.ot l)) = .ok l := rfl
theorem ot?_eq {o : Option Sl} {l : List (List Key × Dt)} (h : Sl.ot? o = .ok l) : o = some (.ot l) := by
  unfold Sl.ot? at h
  split at h
  · simp only [R.ok.injEq] at h; subst h; rfl
  · cases h
theorem ot?_ex {o : Option Sl} {c : Str} {fs : List (Str × Dt)} (h : Sl.ot? o = .ex c fs) : False := by
  unfold Sl.ot? at h
  split at h <;> cases h
/-- d[k] = v -/
@[simp] def xsPutT (i : Nat) (xk xv : XE) : XS := fun D => (xv D).out D fun v => (Sl.ot? D[i]?).out D fun l => (xk D).out D fun k => (dKeyT k).get fun ks => if l.length < 1000000 ∧ (l.map (·.1)).Nodup then .nx (D.set i (.ot (putG l ks v))) else .bad
theorem ss_putT {i : Nat} {tk tv : TE} {xk xv : XE} (hk : Sim K cl E tk xk) (hv : Sim K cl E tv xv) : SimS K cl E (sDPut (tVar i) tk tv) (xsPutT i xk xv) := fun B H0 O σ D H s En q => by
  unfold xsPutT at q
  refine hv B H0 O σ D H s _ ?_
  cases e : xv D with
  | bad => rw [e] at q; exact q.elim
  | ex c fs => rw [e] at q; exact q O σ H s (Same.refl _)
  | ok d =>
    rw [e] at q
    simp only [out_ok] at q
    intro v H1 e1 rv
    cases el : Sl.ot? D[i]? with
    | bad => rw [el] at q; exact q.elim
    | ex c fs => exact (ot?_ex el).elim
    | ok l =>
      rw [el] at q
      simp only [out_ok] at q
      have hi := ot?_eq el
      obtain ⟨a, ea, ma, kv, ha, hkeys, ra⟩ := own_at (s.mono e1) hi rfl
      refine ⟨.ref a, ea, ?_⟩
      refine hk B H0 O σ D H1 (s.mono e1) _ ?_
      cases ek : xk D with
      | bad => rw [ek] at q; exact q.elim
      | ex c fs => rw [ek] at q; exact q O σ H1 (s.mono e1) (hid_mono e1)
      | ok k =>
        rw [ek] at q
        simp only [out_ok] at q
        intro w H2 e2 rk
        cases eK : dKeyT k with
        | bad => rw [eK] at q; exact q.elim
        | ex c fs => exact (dKeyT_ex eK).elim
        | ok ks =>
          rw [eK] at q
          simp only [get_ok] at q
          split at q
          · rename_i hz
            obtain ⟨b, rfl, hb⟩ := dKeyT_rep rk eK
            have hl : kv.length = l.length := by
              have := congrArg List.length hkeys
              simpa using this
            refine ⟨a, _, rfl, DPut.t (e2 _ _ ha) (hid_same _ _ _ _ hb) (sz_lt (by rw [hl]; exact hz.1)), ?_⟩
            rw [putG_putK kv ks v (by rw [hkeys]; exact hz.2)]
            refine q O σ _ ((s.mono (e1.trans e2)).mut hi rfl ea ⟨_, upd_same, putG_keys hkeys, putG_vals (rv.mono (hid_mono e2)) hkeys (ra.mono (hid_mono e2))⟩) ?_
            rw [hid_upd ma]
            exact hid_mono (e1.trans e2)
          · exact q.elim
def dDt : Dt → R (List (List Key × Dt))
  | .dt l => .ok l
  | _ => .bad
@[simp] theorem dDt_dt (l : List (List Key × Dt)) : dDt (.dt l) = .ok l := rfl
theorem dDt_eq {d : Dt} {l : List (List Key × Dt)} (h : dDt d = .ok l) : d = .dt l := by
  cases d <;> simp only [dDt] at h <;> cases h <;> rfl
theorem dDt_ex {d : Dt} {c : Str} {fs : List (Str × Dt)} (h : dDt d = .ex c fs) : False := by cases d <;> simp only [dDt] at h <;> cases h
/-- d.get(k, x) -/
@[simp] def xGetT (xd xk xx : XE) : XE := fun D => (xd D).bind fun d => (dDt d).bind fun l => (xk D).bind fun k => (xx D).bind fun x => (dKeyT k).bind fun ks => .ok ((getG l ks).getD x)
theorem sim_getT {td tk tx : TE} {xd xk xx : XE} (hd : SimB K cl E td xd) (hk : Sim K cl E tk xk) (hx : Sim K cl E tx xx) : Sim K cl E (tDGet2 td tk tx) (xGetT xd xk xx) := fun B H0 O σ D H s Q q => by
  unfold xGetT at q
  refine hd B H0 O σ D H s _ ?_
  cases e : xd D with
  | bad => rw [e] at q; exact q.elim
  | ex c fs => rw [e] at q; exact q
  | ok d =>
    rw [e] at q
    simp only [Mx.R.bind] at q
    cases edt : dDt d with
    | bad => rw [edt] at q; exact q.elim
    | ex c fs => exact (dDt_ex edt).elim
    | ok l =>
      rw [edt] at q
      simp only [Mx.R.bind] at q
      have := dDt_eq edt
      subst this
      intro v H1 e1 rd
      obtain ⟨a, kv, rfl, ha, hkeys, ra⟩ := rd
      refine ⟨a, rfl, .inr ⟨kv, .inl ha⟩, ?_⟩
      refine hk B H0 O σ D H1 (s.mono e1) _ ?_
      cases ek : xk D with
      | bad => rw [ek] at q; exact q.elim
      | ex c fs => rw [ek] at q; exact ExOk.mono e1 q
      | ok k =>
        rw [ek] at q
        simp only [Mx.R.bind] at q
        intro w H2 e2 rk
        refine hx B H0 O σ D H2 ((s.mono e1).mono e2) _ ?_
        cases ex : xx D with
        | bad => rw [ex] at q; exact q.elim
        | ex c fs => rw [ex] at q; exact ExOk.mono (e1.trans e2) q
        | ok x =>
          rw [ex] at q
          simp only [Mx.R.bind] at q
          intro z H3 e3 rz
          cases eK : dKeyT k with
          | bad => rw [eK] at q; exact q.elim
          | ex c fs => exact (dKeyT_ex eK).elim
          | ok ks =>
            rw [eK] at q
            simp only [Mx.R.bind] at q
            obtain ⟨b, rfl, hb⟩ := dKeyT_rep rk eK
            have ha3 := (e2.trans e3) _ _ ha
            have hb3 : H3 b = some (.tup (ks.map kV)) := e3 _ _ (hid_same _ _ _ _ hb)
            refine ⟨valV kv ks, DGet.t ha3 hb3, ?_⟩
            rw [getG_valV]
            rcases getG_rep (k := ks) hkeys (repL_at (ra.mono (hid_mono (e2.trans e3)))) with ⟨h1, h2⟩ | ⟨a', b', h1, h2, h3⟩
            · rw [h1]; rw [h2] at q; exact q _ H3 ((e1.trans e2).trans e3) rz
            · rw [h1]; rw [h2] at q; exact q _ H3 ((e1.trans e2).trans e3) h3
/-- d[k], there -/
@[simp] def xDget (xd xk : XE) : XE := fun D => (xd D).bind fun d => (dDt d).bind fun l => (xk D).bind fun k => (dKeyT k).bind fun ks => opt (getG l ks)
theorem sim_dget {td tk : TE} {xd xk : XE} (hd : SimB K cl E td xd) (hk : Sim K cl E tk xk) : Sim K cl E (tDGet td tk) (xDget xd xk) := fun B H0 O σ D H s Q q => by
  unfold xDget at q
  refine hd B H0 O σ D H s _ ?_
  cases e : xd D with
  | bad => rw [e] at q; exact q.elim
  | ex c fs => rw [e] at q; exact q
  | ok d =>
    rw [e] at q
    simp only [Mx.R.bind] at q
    cases edt : dDt d with
    | bad => rw [edt] at q; exact q.elim
    | ex c fs => exact (dDt_ex edt).elim
    | ok l =>
      rw [edt] at q
      simp only [Mx.R.bind] at q
      have := dDt_eq edt
      subst this
      intro v H1 e1 rd
      obtain ⟨a, kv, rfl, ha, hkeys, ra⟩ := rd
      refine hk B H0 O σ D H1 (s.mono e1) _ ?_
      cases ek : xk D with
      | bad => rw [ek] at q; exact q.elim
      | ex c fs => rw [ek] at q; exact ExOk.mono e1 q
      | ok k =>
        rw [ek] at q
        simp only [Mx.R.bind] at q
        intro w H2 e2 rk
        cases eK : dKeyT k with
        | bad => rw [eK] at q; exact q.elim
        | ex c fs => exact (dKeyT_ex eK).elim
        | ok ks =>
          rw [eK] at q
          simp only [Mx.R.bind] at q
          obtain ⟨b, rfl, hb⟩ := dKeyT_rep rk eK
          have ha3 := e2 _ _ ha
          have hb3 : H2 b = some (.tup (ks.map kV)) := hid_same _ _ _ _ hb
          rcases getG_rep (k := ks) hkeys (repL_at (ra.mono (hid_mono e2))) with ⟨h1, h2⟩ | ⟨a', b', h1, h2, h3⟩
          · rw [h2] at q; exact q.elim
          · rw [h2] at q
            exact ⟨a, a', rfl, by rw [← h1, ← getG_valV]; exact DGet.t ha3 hb3, q _ H2 (e1.trans e2) h3⟩
/-- sorted(d), the keys pairs of an int and a text -/
def okB : List Key → Bool
  | [.inl _, .inr _] => true
  | _ => false
theorem okB_ok {k : List Key} (h : okB k = true) : okIS k := by
  unfold okB at h
  split at h
  · exact ⟨_, _, rfl⟩
  · cases h
def leK (k m : List Key) : Bool := !MxT.lexIS (isK m) (isK k)
def sortK (l : List (List Key)) : List (List Key) := l.mergeSort leK
def dSortT : List Dt → R (List Dt)
  | [.dt l] => if (l.all fun p => okB p.1) = true then .ok ((sortK (l.map (·.1))).map fun k => .tup (k.map keyD)) else .bad
  | _ => .bad
theorem str_ext {x y : Str} (h : x.cps.toList = y.cps.toList) : x = y := by
  cases x; cases y; congr 1; exact Array.toList_inj.mp h
theorem isK_inj {k m : List Key} (h1 : okIS k) (h2 : okIS m) (e : isK k = isK m) : k = m := by
  obtain ⟨i, x, rfl⟩ := h1
  obtain ⟨j, y, rfl⟩ := h2
  simp only [isK, Prod.mk.injEq] at e
  rw [e.1, str_ext e.2]
theorem lexIS_eq {a b : MxT.IS} (h1 : MxT.lexIS a b = false) (h2 : MxT.lexIS b a = false) : a = b := by
  unfold MxT.lexIS at h1 h2
  by_cases e : a.1 = b.1
  · rw [if_pos e] at h1
    rw [if_pos e.symm] at h2
    have q1 := List.not_lt.mp (of_decide_eq_false h1)
    have q2 := List.not_lt.mp (of_decide_eq_false h2)
    exact Prod.ext e (List.le_antisymm q2 q1)
  · rw [if_neg e] at h1
    rw [if_neg (Ne.symm e)] at h2
    have := of_decide_eq_false h1
    have := of_decide_eq_false h2
    omega
theorem leK_trans (a b c : List Key) (h1 : leK a b = true) (h2 : leK b c = true) : leK a c = true := by
  unfold leK at *
  simp only [Bool.not_eq_true'] at *
  exact (MxT.lexIS_swo isK).tr a b c h1 h2
theorem leK_total (a b : List Key) : (leK a b || leK b a) = true := by
  unfold leK
  cases e : MxT.lexIS (isK b) (isK a) with
  | false => simp
  | true => simp [(MxT.lexIS_swo isK).asym b a e]
theorem sortK_uniq {l m : List (List Key)} (hp : m.Perm l) (hs : m.Pairwise fun k m => leK k m = true) (ok : ∀ k ∈ l, okIS k) : m = sortK l := by
  refine List.Perm.eq_of_pairwise (le := fun k m => leK k m = true) (fun a b ha hb h1 h2 => ?_) hs (List.pairwise_mergeSort leK_trans leK_total l) (hp.trans (List.mergeSort_perm l leK).symm)
  have oa := ok a (hp.mem_iff.mp ha)
  have ob := ok b ((List.mergeSort_perm l leK).mem_iff.mp hb)
  unfold leK at h1 h2
  simp only [Bool.not_eq_true'] at h1 h2
  exact isK_inj oa ob (lexIS_eq h2 h1)
theorem paired_rep : ∀ {ks : List (List Key)} {bs : List Addr}, Paired (fun k b => H b = some (.tup (k.map kV))) ks bs → (∀ b, b ∈ bs → H' b = H b) → RepL K cl H' (bs.map V.ref) (ks.map fun k => .tup (k.map keyD))
  | _, _, .nil, _ => .nil
  | _, _, .cons (b := b) h t, k => .cons (.tup ((k b List.mem_cons_self).trans h) (keysD_rep _)) (paired_rep t fun b hb => k b (List.mem_cons_of_mem _ hb))
theorem cl_sortT : CaL K cl rSortedDT dSortT := fun O H xs ds E ho r Q q => by
  unfold dSortT at q
  split at q
  · rename_i l
    split at q
    · rename_i hall
      obtain ⟨v, rfl, a, kv, rfl, h, hk, rr⟩ := r.one
      have okl : ∀ p ∈ l, okIS p.1 := fun p hp => okB_ok (List.all_eq_true.mp hall p hp)
      have okk : ∀ k ∈ l.map (·.1), okIS k := fun k hk' => by
        obtain ⟨p, hp, rfl⟩ := List.mem_map.mp hk'
        exact okl p hp
      refine ⟨a, kv, rfl, .inl h, fun p hp => okk _ (by rw [← hk]; exact List.mem_map_of_mem hp), fun p bs ks pr perm srt n => ?_⟩
      rw [hk] at perm
      have e := sortK_uniq perm (srt.imp fun {a b} z => by unfold leK; rw [z]; rfl) okk
      have hb : ∀ b, b ∈ bs → b ∉ p :: O := fun b hb m => by
        obtain ⟨k, hk2, hH⟩ := pair_all pr b hb
        rcases List.mem_cons.mp m with e2 | m
        · rw [e2, n] at hH; cases hH
        · have := ho b m
          rw [hH] at this
          cases this
      refine q p (bs.map V.ref) _ (same_upd n) n upd_same ?_
      rw [← e]
      refine paired_rep pr fun b hb' => ?_
      rw [hid_nin (hb b hb'), upd_ne (fun e2 : b = p => hb b hb' (by rw [e2]; exact List.mem_cons_self))]
    · exact q.elim
  · exact q.elim
end
end Mx
namespace Mx
open PySem PySem.Spec PyProof.Rows L2
section
variable {K : Fr} {cl : Cl} {E : L2.St → XK} {H H' H1 H0 : Hp} {O O' : List Addr} {σ : L2.St} {D : Ds} {B : List Addr}
/-! ### raise C('..'), C without a dict of its own -/
@[simp] def xsRaise (c : Str) : XS := fun D => .ex c [] D
theorem ss_raise {E0 : XK} {c : Str} {C : Addr} (hc : cl c = some C) : SimS K cl (fun _ => E0) (fun _ σ H => (fun (_ : L2.St) (H : Hp) (Q : XK) => Q (.ref C) none H) σ H fun cls d H' => (fun (cls : Value) (d : Option Addr) (_ : L2.St) (H : Hp) => E0 cls d H) cls d σ H') (xsRaise c) := fun B H0 O σ D H s En q =>
  (q O σ H s (Same.refl _) C hc).1 rfl H (Same.refl _)
/-! ### fields -/
theorem lookup_rep : ∀ {l : List (Str × V)} {m : List (Str × Dt)} {f : Str} {d : Dt}, l.map (·.1) = m.map (·.1) → RepL K cl H (l.map (·.2)) (m.map (·.2)) → m.lookup f = some d → ∃ v, l.lookup f = some v ∧ Rep K cl H v d
  | [], [], _, _, _, _, h => by cases h
  | [], _ :: _, _, _, e, _, _ => by cases e
  | _ :: _, [], _, _, e, _, _ => by cases e
  | p :: l, q :: m, f, d, e, r, h => by
    simp only [List.map_cons, List.cons.injEq] at e
    simp only [List.map_cons] at r
    cases r with
    | cons h1 r =>
      obtain ⟨p1, p2⟩ := p
      obtain ⟨q1, q2⟩ := q
      simp only at e h1
      rw [List.lookup_cons] at h ⊢
      rw [e.1]
      cases c : f == q1 with
      | true => rw [c] at h; cases h; exact ⟨_, rfl, h1⟩
      | false => rw [c] at h; exact lookup_rep e.2 r h
def dFld (c f : Str) : Dt → R Dt
  | .ins c' fs => if c' = c then opt (fs.lookup f) else .bad
  | _ => .bad
@[simp] theorem dFld_ins (c f c' : Str) (fs : List (Str × Dt)) : dFld c f (.ins c' fs) = if c' = c then opt (fs.lookup f) else .bad := rfl
theorem opt_ex {α : Type} {o : Option α} {c : Str} {fs : List (Str × Dt)} (h : opt o = .ex c fs) : False := by cases o <;> cases h
theorem sim_fld {ta : TE} {xa : XE} {c f : Str} {C : Addr} (hc : cl c = some C) (kc : Cls K C) (kn : NoAttr K C f) (ha : SimB K cl E ta xa) : Sim K cl E (tFld K ta f) (x1 (dFld c f) xa) := fun B H0 O σ D H s Q q => by
  unfold x1 at q
  refine ha B H0 O σ D H s _ ?_
  cases e : xa D with
  | bad => rw [e] at q; exact q.elim
  | ex c fs => rw [e] at q; exact q
  | ok d =>
    rw [e] at q
    simp only [Mx.R.bind] at q
    intro v H1 e1 rd
    cases d with
    | ins c' fs =>
      simp only [dFld_ins] at q
      split at q
      · rename_i ec
        subst ec
        obtain ⟨a, C', dx, fv, rfl, c1, h1, hk, rr⟩ := rd
        rw [hc] at c1
        cases c1
        cases el : fs.lookup f with
        | none => rw [el] at q; exact q.elim
        | some d =>
          rw [el] at q
          obtain ⟨v, lv, rv⟩ := lookup_rep hk rr el
          exact ⟨a, C, dx, fv, v, rfl, h1, kc, kn, lv, q v H1 e1 rv⟩
      · exact q.elim
    | _ => exact q.elim
def Sl.oi? : Option Sl → R (Addr × Str × List (Str × Dt))
  | some (.oi x c fs) => .ok (x, c, fs)
  | _ => .bad
@[simp] theorem oi?_oi (x : Addr) (c : Str) (fs : List (Str × Dt)) : Sl.oi? (some (.oi x c fs)) = .ok (x, c, fs) := rfl
theorem oi?_eq {o : Option Sl} {p : Addr × Str × List (Str × Dt)} (h : Sl.oi? o = .ok p) : o = some (.oi p.1 p.2.1 p.2.2) := by
  unfold Sl.oi? at h
  split at h
  · simp only [R.ok.injEq] at h; subst h; rfl
  · cases h
theorem oi?_ex {o : Option Sl} {c : Str} {fs : List (Str × Dt)} (h : Sl.oi? o = .ex c fs) : False := by
  unfold Sl.oi? at h
  split at h <;> cases h
theorem putF_G (f : Str) (v : V) : ∀ l : List (Str × V), putF f v l = putG l f v
  | [] => rfl
  | (g, x) :: r => by
    show (if g = f then (g, v) :: r else (g, x) :: putF f v r) = if g = f then (g, v) :: r else (g, x) :: putG r f v
    rw [putF_G f v r]
/-- self.f = e -/
@[simp] def xsFld (i : Nat) (c f : Str) (xe : XE) : XS := fun D => (xe D).out D fun d => (Sl.oi? D[i]?).out D fun p => if p.2.1 = c ∧ p.2.2.length < 1000 then .nx (D.set i (.oi p.1 p.2.1 (putG p.2.2 f d))) else .bad
theorem ss_fld {i : Nat} {c f : Str} {C : Addr} {te : TE} {xe : XE} (hc : cl c = some C) (kc : Cls K C) (kn : NoAttr K C f) (h : Sim K cl E te xe) : SimS K cl E (sFld K (tVar i) te f) (xsFld i c f xe) := fun B H0 O σ D H s En q => by
  unfold xsFld at q
  refine h B H0 O σ D H s _ ?_
  cases e : xe D with
  | bad => rw [e] at q; exact q.elim
  | ex c fs => rw [e] at q; exact q O σ H s (Same.refl _)
  | ok d =>
    rw [e] at q
    simp only [out_ok] at q
    intro v H1 e1 rv
    cases el : Sl.oi? D[i]? with
    | bad => rw [el] at q; exact q.elim
    | ex c fs => exact (oi?_ex el).elim
    | ok p =>
      rw [el] at q
      simp only [out_ok] at q
      have hi := oi?_eq el
      split at q
      · rename_i hz
        obtain ⟨a, ea, ma, C', dx, fv, c1, ha, hk, ra⟩ := own_at (s.mono e1) hi rfl
        have c0 := c1.1
        rw [hz.1, hc] at c0
        cases c0
        have hl : fv.length = p.2.2.length := by
          have := congrArg List.length hk
          simpa using this
        refine ⟨.ref a, ea, a, C, dx, fv, rfl, ha, kc, kn, by rw [hl]; exact hz.2, ?_⟩
        rw [putF_G]
        refine q O σ _ ((s.mono e1).mut hi rfl ea ⟨C, dx, _, c1, upd_same, putG_keys hk, putG_vals rv hk ra⟩) ?_
        rw [hid_upd ma]
        exact hid_mono e1
      · exact q.elim
/-! ### an __init__ and the making of an instance -/
def PostI (K : Fr) (cl : Cl) (E : XK) (B : List Addr) (H0 : Hp) (x C : Addr) (Q : VK) : R (List (Str × Dt)) → Prop
  | .bad => False
  | .ex c fs => ExOk K cl E B c fs H0
  | .ok fs => ∀ H' dx fv, Same H0 H' → H' x = some (.ins C dx fv) → fv.map (·.1) = fs.map (·.1) → RepL K cl (hid (x :: B) H') (fv.map (·.2)) (fs.map (·.2)) → Q .non H'
def InitSp (K : Fr) (cl : Cl) (c : Str) (f : List Dt → R (List (Str × Dt))) : Sp := fun vs H Q E => ∃ B ds H0 x dx C rest, cl c = some C ∧ vs = .ref x :: rest ∧ H = upd (upd H0 dx (.own x)) x (.ins C dx []) ∧ H0 x = none ∧ H0 dx = none ∧ dx ≠ x ∧
  (∀ a, a ∈ B → MutO (H0 a) = true) ∧ RepL K cl (hid B H0) rest ds ∧ PostI K cl E B H0 x C Q (f ds)
/-- what the body of an __init__ gives; self stands at x -/
def runI (c : Str) (n : Nat) (xs : XS) (x : Addr) (ds : List Dt) : R (List (Str × Dt)) := match xs (Sl.oi x c [] :: (ds.map Sl.sh ++ List.replicate (n - (ds.length + 1)) .no)) with
  | .nx D => match D[0]? with
    | some (Sl.oi y c' fs) => if y = x ∧ c' = c then .ok fs else .bad
    | _ => .bad
  | .ex c fs _ => .ex c fs
  | _ => .bad
theorem init_ok {N : List Str} {ts : TS} {xs : XS} {vs : List V} {H : Hp} {Q : VK} {E : XK} {c : Str} {k : Nat} {f : List Dt → R (List (Str × Dt))} (hs : SimS K cl (fun _ => E) ts xs) (hN : k + 1 ≤ N.length)
    (hf : ∀ x ds r, f ds = r → r ≠ .bad → ds.length = k ∧ runI c N.length xs x ds = r) (h : InitSp K cl c f vs H Q E) : ts { nx := fun _ H' => Q .non H', rt := Q } (L2.start N vs) H := by
  obtain ⟨B, ds, H0, x, dx, C, rest, hc, rfl, rfl, nx, nd, ne, hB, r, q⟩ := h
  have nb : f ds ≠ .bad := fun e => by rw [e] at q; exact q
  obtain ⟨hlen, hrun⟩ := hf x ds _ rfl nb
  have e1 : Same H0 (upd (upd H0 dx (.own x)) x (.ins C dx [])) := fun b o e => by
    rw [upd_ne (ne_of_none e nx), upd_ne (ne_of_none e nd)]; exact e
  have rs0 : RS K cl B H0 B (L2.start N (V.ref x :: rest)) (.no :: (ds.map Sl.sh ++ List.replicate (N.length - (ds.length + 1)) .no)) H0 := by
    refine ⟨Same.refl _, fun a m => ⟨m, hB a m⟩, fun a m => ⟨.inl m, hB a m⟩, ?_, fun i s h => ?_, fun i j s t a hij a1 a2 o1 o2 h1 => ?_, Inn.none fun i t h => ?_⟩
    · simp [L2.start, r.len]
    · cases i with
      | zero => simp at h; subst h; trivial
      | succ i =>
        rw [List.getElem?_cons_succ] at h
        by_cases hi : i < ds.length
        · rw [List.getElem?_append_left (by simpa using hi), List.getElem?_map] at h
          obtain ⟨d, hd, rfl⟩ := Option.map_eq_some_iff.mp h
          obtain ⟨v, hv, rv⟩ := r.get hd
          refine ⟨v, ?_, rv⟩
          unfold L2.start
          rw [List.getElem?_append_left (by rw [List.length_map, List.length_cons, r.len]; omega), List.getElem?_map, List.getElem?_cons_succ, hv]
          rfl
        · rw [List.getElem?_append_right (by simpa using hi)] at h
          have := List.eq_of_mem_replicate (List.mem_of_getElem? h)
          subst this
          trivial
    · have hs : ∀ (i : Nat) s, (Sl.no :: (ds.map Sl.sh ++ List.replicate (N.length - (ds.length + 1)) .no))[i]? = some s → s.own = false := fun i s h => by
        have m := List.mem_of_getElem? h
        rcases List.mem_cons.mp m with rfl | m
        · rfl
        rcases List.mem_append.mp m with m | m
        · obtain ⟨d, _, rfl⟩ := List.mem_map.mp m; rfl
        · have := List.eq_of_mem_replicate m; subst this; rfl
      rw [hs i s a1] at o1
      cases o1
    · have m := List.mem_of_getElem? h
      rcases List.mem_cons.mp m with e | m
      · cases e
      rcases List.mem_append.mp m with m | m
      · obtain ⟨d, _, e⟩ := List.mem_map.mp m; cases e
      · have := List.eq_of_mem_replicate m; cases this
  have rs1 := rs0.setOwn 0 (p := x) (s := .oi x c []) e1 nx ⟨C, dx, [], ⟨hc, rfl⟩, upd_same, rfl, .nil⟩ (by rw [upd_same]; rfl)
  have es : (L2.start N (V.ref x :: rest)).set 0 (some (.ref x)) = L2.start N (V.ref x :: rest) := by simp [L2.start]
  rw [es] at rs1
  refine hs B H0 (x :: B) _ _ _ rs1 _ ?_
  show PostS K cl B H0 (fun _ => E) _ _ _ (xs (Sl.oi x c [] :: (ds.map Sl.sh ++ List.replicate (N.length - (ds.length + 1)) .no)))
  rw [← hrun] at q
  unfold runI at q
  cases e : xs (Sl.oi x c [] :: (ds.map Sl.sh ++ List.replicate (N.length - (ds.length + 1)) .no)) with
  | bad => rw [e] at q; exact q.elim
  | nx D =>
    rw [e] at q
    simp only at q
    intro O' σ' H' s f
    split at q
    · rename_i y c' fs hD
      split at q
      · rename_i hy
        obtain ⟨rfl, rfl⟩ := hy
        obtain ⟨a, ea, ma, C', dx', fv, c1, ha, hk, ra⟩ := own_at s hD rfl
        obtain ⟨c2, rfl⟩ := c1
        rw [hc] at c2
        cases c2
        have hx' : H' a = some (.ins C dx' fv) := ha
        have sub : ∀ b, b ∈ a :: B → b ∈ O' := fun b m => by
          rcases List.mem_cons.mp m with rfl | m
          · exact ma
          · exact (s.bas b m).1
        exact q H' dx' fv s.same hx' hk (ra.mono (hid_sub sub))
      · exact q.elim
    · exact q.elim
  | rt d => rw [e] at q; exact q.elim
  | bk D => rw [e] at q; exact q.elim
  | ct D => rw [e] at q; exact q.elim
  | ex c fs D => rw [e] at q; exact fun O' σ' H' s f => (ExOk.mono s.same q).sub fun a m => (s.bas a m).1
theorem initSp_len {c : Str} {f : List Dt → R (List (Str × Dt))} {k : Nat} {vs : List V} {H : Hp} {Q : VK} {E : XK} (h : InitSp K cl c f vs H Q E) (hf : ∀ ds : List Dt, ¬ ds.length = k → f ds = .bad) : vs.length = k + 1 := by
  obtain ⟨B, ds, H0, x, dx, C, rest, hc, rfl, rfl, nx, nd, ne, hB, r, q⟩ := h
  by_cases e : ds.length = k
  · rw [List.length_cons, r.len, e]
  · rw [hf ds e] at q
    exact q.elim
/-- how the values of a call come to the parameters behind self, on both sides -/
def ArgsOk (n m : Nat) (gV : List V → List V → List V) (gD : List Dt → List Dt → List Dt) : Prop := ∀ (K : Fr) (cl : Cl) (H : Hp) (x : Addr) vs zs ds es, vs.length = n → zs.length = m → RepL K cl H vs ds → RepL K cl H zs es → ∃ rest, gV (.ref x :: vs) zs = .ref x :: rest ∧ RepL K cl H rest (gD ds es)
@[simp] def xMake (c : Str) (n m : Nat) (f : List Dt → R (List (Str × Dt))) (gD : List Dt → List Dt → List Dt) (xa xk : XA) : XE := fun D => (xa D).bind fun ds => (xk D).bind fun es => if ds.length = n ∧ es.length = m then (f (gD ds es)).bind fun fs => .ok (.ins c fs) else .bad
theorem sim_make {c : Str} {C : Addr} {n m : Nat} {f : List Dt → R (List (Str × Dt))} {gV : List V → List V → List V} {gD : List Dt → List Dt → List Dt} {E0 : XK} {ta tk : TA} {xa xk : XA} (hc : cl c = some C) (hg : ArgsOk n m gV gD)
    (ha : SimA K cl (fun _ => E0) ta xa) (hk : SimA K cl (fun _ => E0) tk xk) : Sim K cl (fun _ => E0) (tMakeK C n m (InitSp K cl c f) gV E0 ta tk) (xMake c n m f gD xa xk) := fun B H0 O σ D H s Q q => by
  unfold xMake at q
  refine ha B H0 O σ D H s _ ?_
  cases ea : xa D with
  | bad => rw [ea] at q; exact q.elim
  | ex c fs => rw [ea] at q; exact q
  | ok ds =>
    rw [ea] at q
    simp only [Mx.R.bind] at q
    intro vs H1 e1 r1
    refine hk B H0 O σ D H1 (s.mono e1) _ ?_
    cases ek : xk D with
    | bad => rw [ek] at q; exact q.elim
    | ex c fs => rw [ek] at q; exact ExOk.mono e1 q
    | ok es =>
      rw [ek] at q
      simp only [Mx.R.bind] at q
      intro zs H2 e2 r2
      by_cases hl : ds.length = n ∧ es.length = m
      · rw [if_pos hl] at q
        have e12 := e1.trans e2
        have s2 := s.mono e12
        refine ⟨by rw [r1.len]; exact hl.1, by rw [r2.len]; exact hl.2, fun x dx nx nd ne => ?_⟩
        obtain ⟨rest, eg, rr⟩ := hg K cl (hid O H2) x vs zs ds es (by rw [r1.len]; exact hl.1) (by rw [r2.len]; exact hl.2) (r1.mono (hid_mono e2)) r2
        rw [eg]
        refine ⟨O, gD ds es, H2, x, dx, C, rest, hc, rfl, rfl, nx, nd, ne, s2.trk, rr, ?_⟩
        cases ef : f (gD ds es) with
        | bad => rw [ef] at q; exact q.elim
        | ex c fs => rw [ef] at q; exact ExOk.mono e12 q
        | ok fs =>
          rw [ef] at q
          intro H' dx' fv e3 hx hkeys rf
          refine ⟨rfl, q _ H' (e12.trans e3) (.ins (dx := dx') hc (by rw [hid_nin (trk_nin s2.trk nx)]; exact hx) hkeys (rf.mono (hid_sub fun a m => List.mem_cons_of_mem _ m)))⟩
      · rw [if_neg hl] at q
        exact q.elim
/-! ### a property -/
def R.okOr {α : Type} : R α → R α
  | .ok a => .ok a
  | _ => .bad
@[simp] theorem okOr_ok {α : Type} (a : α) : R.okOr (.ok a) = .ok a := rfl
def dProp (c : Str) (f : List Dt → R Dt) (d : Dt) : R Dt := match d with
  | .ins c' fs => if c' = c then (f [.ins c' fs]).okOr else .bad
  | _ => .bad
@[simp] theorem dProp_ins (c : Str) (f : List Dt → R Dt) (fs : List (Str × Dt)) : dProp c f (.ins c fs) = (f [.ins c fs]).okOr := by simp [dProp]
theorem sim_prop {c : Str} {C : Addr} {f : List Dt → R Dt} {E1 : XK} {ta : TE} {xa : XE} (hc : cl c = some C) (ha : Sim K cl E ta xa) :
    Sim K cl E (tProp C (PureSp K cl f) [] E1 ta) (x1 (dProp c f) xa) := fun B H0 O σ D H s Q q => by
  unfold x1 at q
  refine ha B H0 O σ D H s _ ?_
  cases ea : xa D with
  | bad => rw [ea] at q; exact q.elim
  | ex c fs => rw [ea] at q; exact q
  | ok d =>
    rw [ea] at q
    simp only [Mx.R.bind] at q
    intro v H1 e1 r
    cases d with
    | ins c' fs =>
      simp only [dProp] at q
      by_cases hd : c' = c
      · rw [if_pos hd] at q
        subst hd
        have r' := r
        cases r with
        | ins c1 h1 hk rr =>
          rw [hc] at c1
          cases c1
          refine ⟨_, _, _, rfl, hid_same _ _ _ _ h1, O, [.ins c' fs], (s.mono e1).trk, RepL.one r', ?_⟩
          cases ef : f [.ins c' fs] with
          | bad => rw [ef] at q; exact q.elim
          | ex c2 fs2 => rw [ef] at q; exact q.elim
          | ok d => rw [ef] at q; exact fun v H' e h => q v H' (e1.trans e) h
      · rw [if_neg hd] at q
        exact q.elim
    | _ => exact q.elim
end
/-! ### the ends -/
/-- the classes by their names, as the top has left them -/
def clF (K : Fr) : Cf := fun s => match PySem.W.nsIn K mainGlobals s with
  | some (some (.ref C)) => some C
  | _ => none
def clK (K : Fr) : Cl := ⟨clF K, none⟩
theorem clK_of {K : Fr} {s : Str} {C : Addr} (h : PySem.W.nsIn K mainGlobals s = some (some (.ref C))) : clK K s = some C := by
  show clF K s = some C
  unfold clF
  rw [h]
theorem FnOk.imp {P : Program} {w : World} {K : Fr} {mg : Str → Option Value} {base : Heap} {CX : CXT} {k : Nat} {f : Addr} {fd : FuncData} {ps : List Str} {sp sp' : Sp} (F : FnOk P w K mg base CX k f fd ps sp) (h : ∀ vs H Q E, sp' vs H Q E → sp vs H Q E) : FnOk P w K mg base CX k f fd ps sp' :=
  ⟨fun vs H Q E q => F.len vs H Q E (h vs H Q E q), fun A outer s H args us vs Q E hr e b r q => F.run A outer s H args us vs Q E hr e b r (h vs H Q E q)⟩
def spLaw (K : Fr) : Sp := fun vs H Q _ => ∃ (a : Addr) (ns : List Int), vs = [.ref a] ∧ SqL K H a (ns.map V.int) ∧ ns.length ≤ 63 ∧ ∀ H', Q (.bl true) H'
theorem spLaw_of {K : Fr} {cl : Cl} {m : List Dt → R Dt} (hm : ∀ ns : List Int, ns.length ≤ 63 → m [.frl (ns.map Dt.int)] = .ok (.bl true)) (vs : List V) (H : Hp) (Q : VK) (E : XK) (h : spLaw K vs H Q E) : PureSp K cl m vs H Q E := by
  obtain ⟨a, ns, rfl, hS, hl, q⟩ := h
  have e : hid [] H = H := by funext b; unfold hid; rw [if_neg (by simp)]
  refine ⟨[], [.frl (ns.map Dt.int)], (fun b m => nomatch m), (by rw [e]; exact RepL.one (.frl hS (RepL.ofInts ns))), ?_⟩
  rw [hm ns hl]
  intro v H' e2 r
  cases r
  exact q H'
theorem noCX {P : Program} {w : World} (H : Hp) (s : Shared) (e : Value) (s' : Shared) (h : L2.CX P w [] H s (fun _ _ _ => False) e s') : False := by
  obtain ⟨_, _, _, _, _, _, _, _, _, _, _, _, z⟩ := h
  exact z
theorem kw_all1 {α : Type} {P : α → Prop} {a : α} (h : P a) : ∀ q ∈ [a], P q := fun q m => by rw [List.mem_singleton.mp m]; exact h
theorem kw_all2 {α : Type} {P : α → Prop} {a b : α} (h : P a) (k : P b) : ∀ q ∈ [a, b], P q := fun q m => by
  rcases List.mem_cons.mp m with e | m
  · rw [e]; exact h
  · exact kw_all1 k q m
end Mx
namespace Mx
open PySem PySem.Spec PyProof.Rows L2
/-! a value without lists and dicts; an own list is lent for a call that gives such a value -/
mutual
def Dt.cln : Dt → Bool
  | .lst _ => false | .frl _ => false | .dk _ => false | .dt _ => false | .ftp _ => false
  | .tup l => clnL l
  | .ins _ fs => clnF fs
  | _ => true
def clnL : List Dt → Bool
  | [] => true
  | d :: ds => d.cln && clnL ds
def clnF : List (Str × Dt) → Bool
  | [] => true
  | (_, d) :: fs => d.cln && clnF fs
end
@[simp] theorem cln_int (i : Int) : (Dt.int i).cln = true := by simp only [Dt.cln]
@[simp] theorem cln_str (i : Str) : (Dt.str i).cln = true := by simp only [Dt.cln]
@[simp] theorem cln_bl (i : Bool) : (Dt.bl i).cln = true := by simp only [Dt.cln]
@[simp] theorem cln_non : (Dt.non).cln = true := by simp only [Dt.cln]
@[simp] theorem cln_tup (l : List Dt) : (Dt.tup l).cln = clnL l := by simp only [Dt.cln]
@[simp] theorem cln_ins (c : Str) (l : List (Str × Dt)) : (Dt.ins c l).cln = clnF l := by simp only [Dt.cln]
@[simp] theorem clnL_nil : clnL [] = true := by simp only [clnL]
@[simp] theorem clnL_cons (d : Dt) (l : List Dt) : clnL (d :: l) = (d.cln && clnL l) := by simp only [clnL]
@[simp] theorem clnF_nil : clnF [] = true := by simp only [clnF]
@[simp] theorem clnF_cons (k : Str) (d : Dt) (l : List (Str × Dt)) : clnF ((k, d) :: l) = (d.cln && clnF l) := by simp only [clnF]
theorem clnL_all : ∀ {l : List Dt}, (∀ d, d ∈ l → d.cln = true) → clnL l = true
  | [], _ => clnL_nil
  | d :: l, h => by rw [clnL_cons, h d List.mem_cons_self, clnL_all fun x m => h x (List.mem_cons_of_mem _ m)]; rfl
theorem clnF_map : ∀ {fs : List (Str × Dt)}, clnF fs = true → clnL (fs.map (·.2)) = true
  | [], _ => clnL_nil
  | (k, d) :: fs, h => by
    rw [clnF_cons, Bool.and_eq_true] at h
    rw [List.map_cons, clnL_cons, h.1, clnF_map h.2]; rfl
theorem cln_lst {l : List Dt} (h : (Dt.lst l).cln = true) : False := by simp only [Dt.cln] at h; cases h
theorem cln_frl {l : List Dt} (h : (Dt.frl l).cln = true) : False := by simp only [Dt.cln] at h; cases h
theorem cln_dk {l : List (Key × Dt)} (h : (Dt.dk l).cln = true) : False := by simp only [Dt.cln] at h; cases h
theorem cln_dt {l : List (List Key × Dt)} (h : (Dt.dt l).cln = true) : False := by simp only [Dt.cln] at h; cases h
theorem cln_ftp {l : List Str} (h : (Dt.ftp l).cln = true) : False := by simp only [Dt.cln] at h; cases h
def isTI : HO → Bool
  | .tup _ => true
  | .ins _ _ _ => true
  | _ => false
section
variable {K : Fr} {cl : Cl} {E : L2.St → XK} {H1 H2 : Hp}
mutual
theorem Rep.cln (s : ∀ a o, H1 a = some o → isTI o = true → H2 a = some o) : ∀ {v : V} {d : Dt}, Rep K cl H1 v d → d.cln = true → Rep K cl H2 v d
  | _, _, .non, _ => .non
  | _, _, .bl b, _ => .bl b
  | _, _, .int i, _ => .int i
  | _, _, .str x, _ => .str x
  | _, _, .ty n, _ => .ty n
  | _, _, .tup h r, c => .tup (s _ _ h rfl) (RepL.cln s r (by rw [← cln_tup]; exact c))
  | _, _, .lst _ _, c => (cln_lst c).elim
  | _, _, .frl _ _, c => (cln_frl c).elim
  | _, _, .dk _ _ _, c => (cln_dk c).elim
  | _, _, .dt _ _ _, c => (cln_dt c).elim
  | _, _, .ftp _ _ _, c => (cln_ftp c).elim
  | _, _, .ins k h e r, c => .ins k (s _ _ h rfl) e (RepL.cln s r (clnF_map (by rw [cln_ins] at c; exact c)))
theorem RepL.cln (s : ∀ a o, H1 a = some o → isTI o = true → H2 a = some o) : ∀ {vs : List V} {ds : List Dt}, RepL K cl H1 vs ds → clnL ds = true → RepL K cl H2 vs ds
  | _, _, .nil, _ => .nil
  | _, _, .cons h r, c => .cons (Rep.cln s h (by rw [clnL_cons, Bool.and_eq_true] at c; exact c.1)) (RepL.cln s r (by rw [clnL_cons, Bool.and_eq_true] at c; exact c.2))
end
def Sl.lk : Sl → Bool
  | .ol _ => true
  | .ok _ => true
  | .ot _ => true
  | _ => false
@[simp] theorem lk_ol (l : List Dt) : (Sl.ol l).lk = true := rfl
def R.bor : R Dt → R Dt
  | .bad => .bad
  | .ex c fs => if clnL (fs.map (·.2)) = true then .ex c fs else .bad
  | .ok d => if d.cln = true then .ok d else .bad
@[simp] theorem bor_bad : R.bor .bad = .bad := rfl
@[simp] theorem bor_ex (c : Str) (fs : List (Str × Dt)) : R.bor (.ex c fs) = if clnL (fs.map (·.2)) = true then .ex c fs else .bad := rfl
@[simp] theorem bor_ok (d : Dt) : R.bor (.ok d) = if d.cln = true then .ok d else .bad := rfl
@[simp] def xBor (i : Nat) (xe : XE) : XE := fun D => if (D.getD i .no).lk = true then (xe (Frz i D)).bor else .bad
theorem sim_bor {i : Nat} {te : TE} {xe : XE} (h : Sim K cl E te xe) : Sim K cl E te (xBor i xe) := fun B H0 O σ D H s Q q => by
  unfold xBor at q
  split at q
  · rename_i hk
    obtain ⟨O', r, sub, oth⟩ := s.frz' i
    have up : ∀ H', Same H H' → ∀ b o, hid O' H' b = some o → isTI o = true → hid O H' b = some o := fun H' e1 b o hb ho => by
      by_cases hbO' : b ∈ O'
      · unfold hid at hb; rw [if_pos hbO'] at hb; cases hb
      · rw [hid_nin hbO'] at hb
        by_cases hbO : b ∈ O
        · rcases oth b hbO with z | ⟨t, et, ow⟩
          · exact absurd z hbO'
          · have hg : D.getD i .no = t := by rw [List.getD_eq_getElem?_getD, et]; rfl
            rw [hg] at hk
            cases t with
            | ol l => obtain ⟨vs, h1, _⟩ := ow; rw [e1 _ _ h1] at hb; cases hb; cases ho
            | ok l => obtain ⟨vs, h1, _⟩ := ow; rw [e1 _ _ h1] at hb; cases hb; cases ho
            | ot l => obtain ⟨vs, h1, _⟩ := ow; rw [e1 _ _ h1] at hb; cases hb; cases ho
            | no => cases hk
            | sh d => cases hk
            | oi x c l => cases hk
            | xc c l => cases hk
            | br l => cases hk
            | ow t => cases hk
        · rw [hid_nin hbO]; exact hb
    refine h B H0 O' σ _ H r Q ?_
    revert q
    cases xe (Frz i D) with
    | bad => exact id
    | ex c fs =>
      intro q
      rw [bor_ex] at q
      split at q
      · rename_i hc
        exact fun C hC => ⟨(q C hC).1, fun H2 d fv e2 hd hk2 rr => (q C hC).2 H2 d fv e2 hd hk2 (rr.cln (up H2 e2) hc)⟩
      · exact q.elim
    | ok d =>
      intro q
      rw [bor_ok] at q
      split at q
      · rename_i hc
        exact fun v H' e1 rv => q v H' e1 (rv.cln (up H' e1) hc)
      · exact q.elim
  · exact q.elim
end
end Mx
namespace Mx
open PySem PySem.Spec PyProof.Rows L2
section
variable {K : Fr} {cl : Cl} {E : L2.St → XK} {H H' H1 : Hp} {O : List Addr}
/-! ### operators that give a new list -/
def OpL (K : Fr) (cl : Cl) (r : R2) (f : Dt → Dt → R (List Dt)) : Prop := ∀ O H x y a b E, Trk O H → RepB K cl O H x a → RepB K cl O H y b → ∀ Q : VK, PostL K cl E O H Q (f a b) → r x y H Q
@[simp] def x2L (f : Dt → Dt → R (List Dt)) (xa xb : XE) : XA := fun D => (xa D).bind fun a => (xb D).bind fun b => f a b
theorem simL_op {r : R2} {f : Dt → Dt → R (List Dt)} {ta tb : TE} {xa xb : XE} (ho : OpL K cl r f) (ha : SimB K cl E ta xa) (hb : SimB K cl E tb xb) : SimL K cl E (tOp r ta tb) (x2L f xa xb) := fun B H0 O σ D H s Q q => by
  unfold x2L at q
  refine ha B H0 O σ D H s _ ?_
  cases ea : xa D with
  | bad => rw [ea] at q; exact q.elim
  | ex c fs => rw [ea] at q; exact q
  | ok a =>
    rw [ea] at q
    intro x H1 e1 rx
    refine hb B H0 O σ D H1 (s.mono e1) _ ?_
    simp only [R.bind] at q
    cases eb : xb D with
    | bad => rw [eb] at q; exact q.elim
    | ex c fs => rw [eb] at q; exact ExOk.mono e1 q
    | ok b =>
      rw [eb] at q
      intro y H2 e2 ry
      refine ho O H2 x y a b (E σ) (fun a m => (((s.mono e1).mono e2).own a m).2) (rx.mono e2) ry Q ?_
      simp only [R.bind] at q
      revert q
      cases f a b with
      | bad => exact id
      | ex c fs => exact fun q => ExOk.mono (e1.trans e2) q
      | ok d => exact fun q p vs H' e n h1 h => q p vs H' ((e1.trans e2).trans e) ((e1.trans e2).free n) h1 h
def dCatL : Dt → Dt → R (List Dt)
  | .lst l, .lst m => if l.length + m.length ≤ 1000000 then .ok (l ++ m) else .bad
  | _, _ => .bad
@[simp] theorem dCatL_lst (l m : List Dt) : dCatL (.lst l) (.lst m) = if l.length + m.length ≤ 1000000 then .ok (l ++ m) else .bad := rfl
theorem ol_catL : OpL K cl rCat dCatL := fun O H x y a b E ho rx ry Q q => by
  unfold dCatL at q
  split at q
  · split at q
    · rename_i l m hl
      obtain ⟨p, vs, rfl, h1, r1⟩ := rx
      obtain ⟨p', vs', rfl, h2, r2⟩ := ry
      refine ⟨p, p', vs, vs', rfl, rfl, h1, h2, by rw [r1.len, r2.len]; exact sz_of hl, fun c n => ?_⟩
      exact q c _ _ (same_upd n) n upd_same ((r1.app r2).mono (hid_new (same_upd n) n))
    · exact q.elim
  · exact q.elim
/-! ### f-strings -/
@[simp] def dFmt : Dt → R Dt
  | .str y => if y.length ≤ 1000000 then .ok (.str y) else .bad
  | .int i => if i.natAbs.log2 < 1920 then .ok (.str (toString i)) else .bad
  | _ => .bad
theorem sim_fmt {te : TE} {xe : XE} (h : Sim K cl E te xe) : Sim K cl E (tFmt te) (x1 dFmt xe) := fun B H0 O σ D H s Q q => by
  unfold x1 at q
  refine h B H0 O σ D H s _ ?_
  cases e : xe D with
  | bad => rw [e] at q; exact q.elim
  | ex c fs => rw [e] at q; exact q
  | ok d =>
    rw [e] at q
    simp only [R.bind] at q
    intro v H1 e1 r
    cases d with
    | str y =>
      cases r
      simp only [dFmt] at q
      split at q
      · rename_i hy
        exact .inl ⟨y, rfl, sz_of hy, q _ H1 e1 (.str _)⟩
      · exact q.elim
    | int i =>
      cases r
      simp only [dFmt] at q
      split at q
      · rename_i hy
        exact .inr ⟨i, rfl, hy, q _ H1 e1 (.str _)⟩
      · exact q.elim
    | _ => exact q.elim
inductive SimJ (K : Fr) (cl : Cl) (E : L2.St → XK) : List TE → List XE → Prop
  | nil : SimJ K cl E [] []
  | cons {te : TE} {xe : XE} {ts : List TE} {xs : List XE} : Sim K cl E te xe → SimJ K cl E ts xs → SimJ K cl E (te :: ts) (xe :: xs)
def xJs : List XE → Str → Ds → R Str
  | [], acc, _ => .ok acc
  | x :: xs, acc, D => (x D).bind fun d => match d with
    | .str y => if (acc ++ y).length ≤ 1000000 then xJs xs (acc ++ y) D else .bad
    | _ => .bad
@[simp] def xFst (xs : List XE) : XE := fun D => (xJs xs Str.empty D).bind fun s => .ok (.str s)
theorem simJ_run {ts : List TE} {xs : List XE} (h : SimJ K cl E ts xs) : ∀ (acc : Str) (B : List Addr) (H0 : Hp) (O : List Addr) (σ : L2.St) (D : Ds) (H : Hp), RS K cl B H0 O σ D H → ∀ Q : Str → Hp → Prop,
    (match xJs xs acc D with
      | .bad => False
      | .ex c fs => ExOk K cl (E σ) O c fs H
      | .ok s => ∀ H', Same H H' → Q s H') → tJs ts acc σ H Q := by
  induction h with
  | nil => exact fun acc B H0 O σ D H s Q q => q H (Same.refl H)
  | cons h r ih =>
    rename_i te xe ts xs
    intro acc B H0 O σ D H s Q q
    refine h B H0 O σ D H s _ ?_
    unfold xJs at q
    cases e : xe D with
    | bad => simp only [e, R.bind] at q
    | ex c fs => simp only [e, R.bind] at q; exact q
    | ok d =>
      simp only [e, R.bind] at q
      intro v H1 e1 rv
      cases d with
      | str y =>
        cases rv
        simp only at q
        split at q
        · exact q.elim
        · rename_i heq
          split at heq
          · rename_i hy
            refine ⟨y, rfl, sz_of hy, ih _ B H0 O σ D H1 (s.mono e1) Q ?_⟩
            rw [heq]; exact ExOk.mono e1 q
          · cases heq
        · rename_i heq
          split at heq
          · rename_i hy
            refine ⟨y, rfl, sz_of hy, ih _ B H0 O σ D H1 (s.mono e1) Q ?_⟩
            rw [heq]; exact fun H' e' => q H' (e1.trans e')
          · cases heq
      | _ => exact q.elim
theorem sim_fst {ts : List TE} {xs : List XE} (h : SimJ K cl E ts xs) : Sim K cl E (fun σ H Q => tJs ts Str.empty σ H fun out H1 => Q (.str out) H1) (xFst xs) := fun B H0 O σ D H s Q q => by
  refine simJ_run h Str.empty B H0 O σ D H s _ ?_
  unfold xFst at q
  revert q
  cases xJs xs Str.empty D with
  | bad => exact id
  | ex c fs => exact id
  | ok x => exact fun q H' e' => q _ H' e' (.str _)
end
end Mx
namespace L2
open PySem PySem.Spec PyProof.Rows
section
variable {X : Cx} {CX : CXT} {k : Nat} {C f : Addr} {fd : FuncData} {ps : List Str} {sp : Sp} {E : XK}
/-- an operator of one value that the value's own class answers -/
def rOwn1 (C : Addr) (sp : Sp) (E : XK) : V → Hp → VK → Prop := fun x H Q => ∃ a dx fs, x = .ref a ∧ H a = some (.ins C dx fs) ∧ sp [.ref a] H Q E
theorem un_invOwn (at_ : PySem.W.findIn X.K (.ref C) "__invert__" = some (some (.ref f))) (fn : PySem.W.isFn X.K (.ref f) = true) (F : FnOk X.prog X.w X.K X.mg X.base CX k f fd ps sp) (hr : Room k X.A) (hb : Binds X.K fd ps []) (hx : Passes CX X E) :
    UnR X (unaryOp .Invert) (rOwn1 C sp E) := by
  intro pins s σ H x v Q I rx q0
  obtain ⟨a, dx, fs, rfl, ea, q⟩ := q0
  obtain rfl : v = Value.ref a := rx
  obtain ⟨mA, ob, _, _, _, _⟩ := ins_get I.hok ea
  obtain ⟨od, J, _⟩ := ob.look
  have r := run_fn (ds := []) (dvs := []) F hr hb .nil hx I (us := [.ref a]) (vs := [.ref a]) (.cons rfl .nil) q
  unfold unaryOp
  refine wpAny_holding ?_
  refine wpAny_bind (PySem.W.special_fn I.kIn J at_ (beq_iff_eq.mp fn) ?_)
  exact wpAny_mono r (fun _ _ z => wpAny_pure z) fun _ _ z => z
end
end L2
namespace Mx
open PySem PySem.Spec PyProof.Rows L2
section
variable {K : Fr} {cl : Cl} {E : L2.St → XK} {H H' H1 : Hp} {O : List Addr}
theorem lookup_none_of : ∀ {l : List (Str × V)} {m : List (Str × Dt)} {f : Str}, l.map (·.1) = m.map (·.1) → m.lookup f = none → l.lookup f = none
  | [], _, _, _, _ => rfl
  | _ :: _, [], _, e, _ => by cases e
  | p :: l, q :: m, f, e, h => by
    obtain ⟨p1, p2⟩ := p
    obtain ⟨q1, q2⟩ := q
    simp only [List.map_cons, List.cons.injEq] at e
    obtain ⟨e1, e2⟩ := e
    subst e1
    simp only [List.lookup] at h ⊢
    split at h
    · cases h
    · exact lookup_none_of e2 h
/-- an operator of one object, by its class's own def -/
def dOwn (c : Str) (f : List Dt → R Dt) (o : Dt) : R Dt := match o with
  | .ins c' fs => if c' = c then f [.ins c' fs] else .bad
  | _ => .bad
theorem sim_own1 {c : Str} {C : Addr} {f : List Dt → R Dt} {E0 : XK} {ta : TE} {xa : XE} (hc : cl c = some C) (ha : Sim K cl (fun _ => E0) ta xa) :
    Sim K cl (fun _ => E0) (tUn (rOwn1 C (PureSp K cl f) E0) ta) (x1 (dOwn c f) xa) := fun B H0 O σ D H s Q q => by
  unfold x1 at q
  refine ha B H0 O σ D H s _ ?_
  cases e : xa D with
  | bad => rw [e] at q; exact q.elim
  | ex c' fs => rw [e] at q; exact q
  | ok d =>
    rw [e] at q
    simp only [R.bind] at q
    intro v H1 e1 r
    cases d with
    | ins c' fs =>
      simp only [dOwn] at q
      split at q
      · rename_i hcc
        subst hcc
        cases r with
        | ins k1 h1 k2 rr =>
          rw [hc] at k1
          cases k1
          exact ⟨_, _, _, rfl, hid_same O H1 _ _ h1, O, [.ins c' fs], (s.mono e1).trk, .cons (.ins hc h1 k2 rr) .nil, post_E e1 q⟩
      · exact q.elim
    | _ => exact q.elim
/-- a method of an object -/
def isM (c m : Str) (o : Dt) : Bool := match o with
  | .ins c' fs => decide (c' = c) && (fs.lookup m).isNone
  | _ => false
@[simp] def xMeth (c m : Str) (f : List Dt → R Dt) (xo : XE) (xa : XA) : XE := fun D => (xo D).bind fun o => if isM c m o = true then (xa D).bind fun l => f (o :: l) else .bad
theorem sim_meth {c m : Str} {C : Addr} {f : List Dt → R Dt} {E0 : XK} {to : TE} {ta : TA} {xo : XE} {xa : XA} (hc : cl c = some C) (ho : Sim K cl (fun _ => E0) to xo) (ha : SimA K cl (fun _ => E0) ta xa) :
    Sim K cl (fun _ => E0) (tMeth C m (PureSp K cl f) [] E0 to ta) (xMeth c m f xo xa) := fun B H0 O σ D H s Q q => by
  unfold xMeth at q
  refine ho B H0 O σ D H s _ ?_
  cases e : xo D with
  | bad => rw [e] at q; exact q.elim
  | ex c' fs => rw [e] at q; exact q
  | ok d =>
    rw [e] at q
    simp only [R.bind] at q
    intro v H1 e1 r
    split at q
    · rename_i hm
      cases d with
      | ins c' fs =>
        simp only [isM, Bool.and_eq_true, decide_eq_true_iff, Option.isNone_iff_eq_none] at hm
        obtain ⟨hcc, hl⟩ := hm
        subst hcc
        cases r with
        | ins k1 h1 k2 rr =>
          rw [hc] at k1
          cases k1
          refine ⟨_, _, _, rfl, hid_same O H1 _ _ h1, lookup_none_of k2 hl, ?_⟩
          refine ha B H0 O σ D H1 (s.mono e1) _ ?_
          cases ea : xa D with
          | bad => rw [ea] at q; exact q.elim
          | ex c2 fs2 => rw [ea] at q; exact ExOk.mono e1 q
          | ok ds =>
            rw [ea] at q
            simp only [R.bind] at q
            intro vs H2 e2 rv
            refine ⟨O, .ins c' fs :: ds, ((s.mono e1).mono e2).trk, ?_, post_E (e1.trans e2) q⟩
            rw [List.append_nil]
            exact .cons ((Rep.ins hc h1 k2 rr).mono (hid_mono e2)) rv
      | _ => cases hm
    · exact q.elim
end
end Mx
namespace L2
open PySem PySem.Spec PyProof.Rows PySem.W
section
variable {X : Cx} {CX : CXT} {k : Nat} {C f : Addr} {fd : FuncData} {ps : List Str} {sp : Sp} {E : XK}
/-- an operator of two objects of one class -/
theorem same_class {op : Operator} {b : Value} {s : Shared} {a : Addr} {ox : Obj} {od : Option Obj} {Q : Value → Shared → Prop} {E : Value → Shared → Prop} {A : Around} {K : Frag} {prog : Program} {w : World} (kin : K.In s.heap) (J : InstAt s.heap a ox C od)
    (tb : Looks (model prog w) s.heap (typeOf b) (.ref C)) (first : selfFirst K C = true) (at_ : findIn K (.ref C) (PySem.dunder op.info.2) = some (some (.ref f))) (fn : isFn K (.ref f) = true)
    (h : wpAny (model prog w) A (call (.ref f) [.ref a, b]) (PySem.W.CmpBack Q) E s) : wpAny (model prog w) A (binaryOp op (.ref a) b) Q E s := by
  obtain ⟨cd, more, e1, e2⟩ := ksp_first first
  rcases hi : op.info with ⟨sy, nm⟩
  rw [hi] at at_
  dsimp only at at_
  have run := ksp_try kin J at_ fn h
  obtain ⟨hp, g1, g2, g3, g4⟩ := s
  have t1 : Looks (model prog w) hp (typeOf (.ref a)) (.ref C) := J.type
  have t2 : Looks (model prog w) hp (fillsNumberSlot (.ref C) nm) true := fills_K kin e1 e2 at_
  simp only [binaryOp, hi]
  refine wpAny_holding (wpAny_bind ?_)
  unfold binaryOp1
  refine wpAny_bind (t1.at (wpAny_bind (tb.at (wpAny_bind (t2.at ?_)))))
  simp only [beq_self_eq_true, if_true]
  ksp_lk
  refine wpAny_mono run (fun r s' z => ?_) fun _ _ z => z
  obtain ⟨v, rfl, q⟩ := z
  ksp_lk
  exact q
theorem not_ni {v : V} {u : Value} {Q : Value → Shared → Prop} {s' : Shared} (r : RelV v u) (h : Q u s') : PySem.W.CmpBack Q u s' := by
  cases v <;> first | (obtain ⟨t, rfl⟩ := r; exact h) | (obtain rfl := r; exact h) | (cases r; exact h)
def rOwn2 (C : Addr) (sp : Sp) (E : XK) : R2 := fun x y H Q => ∃ a dx fs b dy gs, x = .ref a ∧ y = .ref b ∧ H a = some (.ins C dx fs) ∧ H b = some (.ins C dy gs) ∧ sp [.ref a, .ref b] H Q E
theorem op_own2 {op : Operator} {nm : Str} (hn : PySem.dunder op.info.2 = nm) (first : selfFirst X.K C = true) (at_ : findIn X.K (.ref C) nm = some (some (.ref f))) (fn : isFn X.K (.ref f) = true) (F : FnOk X.prog X.w X.K X.mg X.base CX k f fd ps sp) (hr : Room k X.A) (hb : Binds X.K fd ps []) (hx : Passes CX X E) :
    OpR X (binaryOp op) (rOwn2 C sp E) := by
  intro pins s σ H x y v u Q I rx ry q0
  obtain ⟨a, dx, fs, b, dy, gs, rfl, rfl, ea, eb, q⟩ := q0
  obtain rfl : v = Value.ref a := rx
  obtain rfl : u = Value.ref b := ry
  obtain ⟨mA, oa, _, _, _, _⟩ := ins_get I.hok ea
  obtain ⟨od, J, _⟩ := oa.look
  obtain ⟨mB, ob, _, _, _, _⟩ := ins_get I.hok eb
  obtain ⟨od2, J2, _⟩ := ob.look
  have r := run_fn (ds := []) (dvs := []) F hr hb .nil hx I (us := [.ref a, .ref b]) (vs := [.ref a, .ref b]) (.cons rfl (.cons rfl .nil)) q
  refine same_class I.kIn J J2.type first (hn ▸ at_) fn (wpAny_mono r (fun z s' hz => ?_) fun _ _ z => z)
  obtain ⟨v, H', I', rv, q'⟩ := hz
  exact not_ni rv ⟨v, H', I', rv, q'⟩
end
end L2
namespace Mx
open PySem PySem.Spec PyProof.Rows L2
section
variable {K : Fr} {cl : Cl} {H H' H1 : Hp} {O : List Addr}
def dOwn2 (c : Str) (f : List Dt → R Dt) (o p : Dt) : R Dt := match o, p with
  | .ins c1 fs, .ins c2 gs => if c1 = c ∧ c2 = c then f [.ins c1 fs, .ins c2 gs] else .bad
  | _, _ => .bad
theorem sim_own2 {c : Str} {C : Addr} {f : List Dt → R Dt} {E0 : XK} {ta tb : TE} {xa xb : XE} (hc : cl c = some C) (ha : Sim K cl (fun _ => E0) ta xa) (hb : Sim K cl (fun _ => E0) tb xb) :
    Sim K cl (fun _ => E0) (tOp (rOwn2 C (PureSp K cl f) E0) ta tb) (x2 (dOwn2 c f) xa xb) := fun B H0 O σ D H s Q q => by
  unfold x2 at q
  refine ha B H0 O σ D H s _ ?_
  cases ea : xa D with
  | bad => rw [ea] at q; exact q.elim
  | ex c' fs => rw [ea] at q; exact q
  | ok d =>
    rw [ea] at q
    simp only [R.bind] at q
    intro x H1 e1 rx
    refine hb B H0 O σ D H1 (s.mono e1) _ ?_
    cases eb : xb D with
    | bad => rw [eb] at q; exact q.elim
    | ex c' fs => rw [eb] at q; exact ExOk.mono e1 q
    | ok d2 =>
      rw [eb] at q
      simp only [R.bind] at q
      intro y H2 e2 ry
      unfold dOwn2 at q
      split at q
      · split at q
        · rename_i hcc
          obtain ⟨rfl, rfl⟩ := hcc
          have rx2 := rx.mono (hid_mono (O := O) e2)
          have rx3 := rx2
          have ry3 := ry
          cases rx2 with
          | ins k1 h1 k2 rr =>
            cases ry with
            | ins j1 g1 j2 rr2 =>
              rw [hc] at k1 j1
              cases k1; cases j1
              exact ⟨_, _, _, _, _, _, rfl, rfl, hid_same O H2 _ _ h1, hid_same O H2 _ _ g1, O, _, ((s.mono e1).mono e2).trk, .cons rx3 (.cons ry3 .nil), post_E (e1.trans e2) q⟩
        · exact q.elim
      · exact q.elim
/-- *e within a display -/
def dSpl (o : Dt) : R (List Dt) := match o with
  | .tup l => .ok l
  | .lst l => .ok l
  | _ => .bad
@[simp] theorem dSpl_tup (l : List Dt) : dSpl (.tup l) = .ok l := rfl
@[simp] theorem dSpl_lst (l : List Dt) : dSpl (.lst l) = .ok l := rfl
@[simp] def xStar (xe : XE) (xr : XA) : XA := fun D => (xe D).bind fun d => (dSpl d).bind fun l => (xr D).bind fun r => .ok (l ++ r)
theorem sa_star {E : L2.St → XK} {te : TE} {t : TA} {xe : XE} {xr : XA} (he : SimB K cl E te xe) (hr : SimA K cl E t xr) : SimA K cl E (StX.tStar K te t) (xStar xe xr) := fun B H0 O σ D H s Q q => by
  unfold xStar at q
  refine he B H0 O σ D H s _ ?_
  cases e : xe D with
  | bad => rw [e] at q; exact q.elim
  | ex c' fs => rw [e] at q; exact q
  | ok d =>
    rw [e] at q
    simp only [R.bind] at q
    intro v H1 e1 rv
    have fin : ∀ (xs : List V) (l : List Dt), RepL K cl (hid O H1) xs l → dSpl d = .ok l → t σ H1 fun ys H2 => Q (xs ++ ys) H2 := fun xs l rl hd => by
      rw [hd] at q
      refine hr B H0 O σ D H1 (s.mono e1) _ ?_
      cases er : xr D with
      | bad => rw [er] at q; exact q.elim
      | ex c' fs => rw [er] at q; exact ExOk.mono e1 q
      | ok r =>
        rw [er] at q
        intro ys H2 e2 ry
        exact q _ _ (e1.trans e2) ((rl.mono (hid_mono e2)).app ry)
    cases d with
    | tup l =>
      obtain ⟨a, vs, rfl, h1, rl⟩ := rv
      exact ⟨a, vs, rfl, .inl (SqT.of h1), fin vs l rl rfl⟩
    | lst l =>
      obtain ⟨a, vs, rfl, h1, rl⟩ := rv
      exact ⟨a, vs, rfl, .inr (SqL.of h1), fin vs l rl rfl⟩
    | _ => exact q.elim
end
end Mx
namespace MxZ
open PySem PySem.Spec PyProof.Rows L2 PySem.Froz
/-! ### a set of texts whose table can be walked -/
def GoodS (w : World) (e : Int × Value) : Prop := ∃ x t, e.2 = Value.str x t ∧ e.1 = hashStr w x
def keyS (e : Int × Value) : Str := strOf e.2
def TxR (w : World) (h : Heap) (a : Addr) (l : List Str) : Prop := ∃ D : SD, h.get? a = some (sObj "set" D) ∧ (∀ e ∈ D.1.toList, GoodS w e) ∧ (D.1.toList.map keyS).Perm l ∧ D.2.2.fits D.1.size = true ∧ Ris D.2.2.place.toList ∧
  (w.params.followText "set-order" = true ∨ D.2.2.led = true)
section
variable {P : Program} {w : World} {A : Around} {E : Value → Shared → Prop} {s : Shared} {h h' : Heap} {a : Addr} {l : List Str}
theorem TxR.at (R : TxR w h a l) (k : ∀ o, h.get? a = some o → h'.get? a = some o) : TxR w h' a l := let ⟨D, e, r⟩ := R; ⟨D, k _ e, r⟩
theorem goodS_is {e : Int × Value} (g : GoodS w e) (k : Str) : (strKind P w).is k e.2 = true ↔ keyS e = k := by
  obtain ⟨x, t, e1, _⟩ := g
  unfold keyS
  rw [e1]
  show Value.isStrOf k (Value.str x t) = true ↔ x = k
  simp [Value.isStrOf]
theorem goodS_el {l : List (Int × Value)} (g : ∀ e ∈ l, GoodS w e) : ElemsOf (strKind P w) l := fun e m => by
  obtain ⟨x, t, e1, e2⟩ := g e m
  refine ⟨⟨x, ?_, e2⟩, by rw [e1]; rfl⟩
  rw [e1]
  exact is_str x t
theorem txOk_of {D : SD} (g : ∀ e ∈ D.1.toList, GoodS w e) (p : (D.1.toList.map keyS).Perm l) (f : D.2.2.fits D.1.size = true) : TxOk P w D l where
  el := goodS_el g
  mem := fun k => by
    rw [← p.mem_iff, List.mem_map]
    exact ⟨fun ⟨e, m, q⟩ => ⟨e, m, (goodS_is (g e m) k).2 q⟩, fun ⟨e, m, q⟩ => ⟨e, m, (goodS_is (g e m) k).1 q⟩⟩
  sz := by rw [← p.length_eq, List.length_map, Array.length_toList]
  fit := f
/-- one more text, new -/
theorem tx_new {k : Str} {u : Tok} {Q : Bool → Shared → Prop} (R : TxR w s.heap a l) (hk : k ∉ l) (hb : l.length + 1 < scanBound)
    (hq : ∀ h2, (∀ b o, b ≠ a → s.heap.get? b = some o → h2.get? b = some o) → TxR w h2 a (k :: l) → Q true { s with heap := h2 }) : wpAny (model P w) A (setAddHashed a (.str k u) (hashStr w k)) Q E s := by
  obtain ⟨D, ho, g, p, f, r, ld⟩ := R
  obtain ⟨es, ep, t⟩ := D
  have F : TxOk P w (es, ep, t) l := txOk_of g p f
  refine add_x ho F hk hb (hq _ (fun b o hne e => ?_) ?_)
  · exact (Heap.get?_update_other _ _ (Ne.symm hne)).trans e
  · refine ⟨addTx (hashStr w k) (.str k u) (es, ep, t), get_upd _ ho rfl, ?_⟩
    have F2 := add_ok (P := P) (k := k) u F
    have pm := layNew_perm t es (hashStr w k) (.str k u)
    have r1 := layNew_ris t es (hashStr w k) (.str k u) r
    have l1 := layNew_led t es (hashStr w k) (.str k u)
    have fin : ∀ (es2 : Array (Int × Value)), es2.toList.Perm (es.push (hashStr w k, Value.str k u)).toList → (∀ e ∈ es2.toList, GoodS w e) ∧ (es2.toList.map keyS).Perm (k :: l) := fun es2 q => by
      rw [Array.toList_push] at q
      have q2 : es2.toList.Perm ((hashStr w k, Value.str k u) :: es.toList) := q.trans List.perm_append_comm
      refine ⟨fun e m => ?_, (q2.map keyS).trans (p.cons k)⟩
      rcases List.mem_cons.mp (q2.mem_iff.mp m) with z | z
      · exact ⟨k, u, by rw [z], by rw [z]⟩
      · exact g e z
    have ff := F2.fit
    unfold addTx tailTx at ff ⊢
    dsimp only at ff ⊢
    generalize layNew t es (hashStr w k) (Value.str k u) = L at pm r1 l1 ff ⊢
    obtain ⟨es1, t1, wd, gv⟩ := L
    dsimp only at pm r1 l1 ff ⊢
    have r2 : Ris (if t1.plain = true then { t1 with plain := false } else t1).place.toList := by split <;> exact r1
    have l2 : (if t1.plain = true then { t1 with plain := false } else t1).led = t.led := by split <;> exact l1
    generalize (if t1.plain = true then { t1 with plain := false } else t1) = t2 at r2 l2 ff ⊢
    by_cases c : (!wd && t2.tooFull) = true
    · rw [if_pos c] at ff ⊢
      have y := fin _ ((relayAll_perm t2 es1 (SetTable.grown es1.size)).trans pm)
      exact ⟨y.1, y.2, ff, relayAll_ris t2 es1 _, ld.imp id fun z => by rw [relayAll_led, l2]; exact z⟩
    · rw [if_neg c] at ff ⊢
      have y := fin _ pm
      exact ⟨y.1, y.2, ff, r2, ld.imp id fun z => by rw [l2]; exact z⟩
/-- a text that is there already -/
theorem tx_old {k : Str} {u : Tok} {Q : Bool → Shared → Prop} (R : TxR w s.heap a l) (hk : k ∈ l) (hb : l.length < scanBound) (hq : Q false s) : wpAny (model P w) A (setAddHashed a (.str k u) (hashStr w k)) Q E s := by
  obtain ⟨D, ho, g, p, f, r, ld⟩ := R
  obtain ⟨es, ep, t⟩ := D
  have F : TxOk P w (es, ep, t) l := txOk_of g p f
  have z0 : es.size < scanBound := by have := F.sz; dsimp only at this; omega
  have kk : (strKind P w).is k (.str k u) = true := is_str k u
  obtain ⟨e, me, qe⟩ := (F.mem k).1 hk
  obtain ⟨j, hj⟩ : ∃ j, List.findIdx? (fun e => (strKind P w).is k e.2) es.toList = some j := by
    cases c : List.findIdx? (fun e => (strKind P w).is k e.2) es.toList with
    | some j => exact ⟨j, rfl⟩
    | none =>
      have := List.findIdx?_eq_none_iff.mp c e me
      rw [qe] at this
      cases this
  have ww := wpAny_setScan_of (knd := strKind P w) (A := A) (E := E) (adding := true) (s := s) (Q := fun m s' => m = .found (0 + j) ∧ s' = s) kk ho (es := es) (ep := ep) (t := t) rfl F.fit F.el (by rw [hj]; exact ⟨rfl, rfl⟩)
  unfold setAddHashed; unfold setAddHashedIn
  refine wpAny_holding (wpAny_bind (wpAny_setState_of ho (es := es) (ep := ep) (t := t) rfl F.fit ?_))
  dsimp only; rw [byScan_of (knd := strKind P w) (x := Value.str k u) rfl z0 F.el]; simp only [↓reduceIte]; unfold setAddByScan
  refine wpAny_bind (wpAny_bind (wpAny_rule (wpAny_bind (wpAny_mono ww (fun m s' q => ?_) fun _ _ z => z))))
  obtain ⟨rfl, rfl⟩ := q
  dsimp only; exact wpAny_pure (wpAny_pure hq)
/-! ### set.update's loop over texts -/
def ddS : List Str → List Str
  | [] => []
  | x :: r => if x ∈ r then ddS r else x :: ddS r
theorem mem_ddS : ∀ (l : List Str) (k : Str), k ∈ ddS l ↔ k ∈ l
  | [], k => Iff.rfl
  | x :: r, k => by
    unfold ddS
    have ih := mem_ddS r k
    split
    · rename_i hx
      rw [ih, List.mem_cons]
      exact ⟨.inr, fun z => z.elim (fun e => e ▸ hx) id⟩
    · rw [List.mem_cons, List.mem_cons, ih]
theorem nd_ddS : ∀ (l : List Str), (ddS l).Nodup
  | [] => List.nodup_nil
  | x :: r => by
    unfold ddS
    split
    · exact nd_ddS r
    · rename_i hx
      exact List.nodup_cons.mpr ⟨fun z => hx ((mem_ddS r x).1 z), nd_ddS r⟩
theorem len_ddS : ∀ (l : List Str), (ddS l).length ≤ l.length
  | [] => Nat.le_refl _
  | x :: r => by
    unfold ddS
    have ih := len_ddS r
    split <;> simp <;> omega
theorem ddS_step {xs : List Str} {i : Nat} {z : Str} (h : xs[i]? = some z) : (xs.take (i + 1)).reverse = z :: (xs.take i).reverse := by
  rw [List.take_add_one, h]; simp
theorem upd_strs {I : Addr} {fp wr : List Addr} {G : Array GenState → Array GenState → Prop} {n : Nat} {Pv : Nat → Value → Prop} {St : Nat → Shared → Prop} {R : Result → Shared → Prop} (W : WalksS P w A.in1 I fp wr G n Pv St) (S : Addr)
    (hSf : S ∉ fp) (xs : List Str) (hn : n = xs.length) (hb : xs.length + 1 < scanBound) (hval : ∀ i v, Pv i v → ∃ k t, xs[i]? = some k ∧ v = .str k t) : ∀ (k i : Nat) (s : Shared), n - i = k → i ≤ n → St i s →
      TxR w s.heap S (ddS (xs.take i).reverse) → (∀ s', Moved (S :: wr) G s s' → TxR w s'.heap S (ddS xs.reverse) → R (.ok (.ret .none)) s') → codeAny (model P w) A (.builtin "set.update.loop" ⟨[.ref S, .ref I], []⟩) R s := by
  have nw : S ∉ wr := fun z => hSf (W.sub _ z)
  have inc : ∀ b ∈ wr, b ∈ S :: wr := fun b m => List.mem_cons_of_mem _ m
  intro k
  induction k with
  | zero =>
    intro i s ek hi st hS hR
    obtain rfl : i = n := by omega
    refine codeAny_builtin F.entry_set_update_loop (by
      rw [Around.under_plainId F.plain_set_update_loop _]
      show wpAny _ A.in1 (pyNext (.ref I) >>= _) _ _ _
      refine wpAny_bind (W.done s _ _ st fun s' hm => ?_)
      show wpAny _ A.in1 (ret Value.none) _ _ _
      have e : xs.take i = xs := List.take_of_length_le (by omega)
      rw [e] at hS
      exact wpAny_pure (hR s' (hm.mono inc) (hS.at fun o e => hm.heap S o nw e)))
  | succ k ih =>
    intro i s ek hi st hS hR
    have lt : i < n := by omega
    refine codeAny_builtin F.entry_set_update_loop (by
      rw [Around.under_plainId F.plain_set_update_loop _]
      show wpAny _ A.in1 (pyNext (.ref I) >>= _) _ _ _
      refine wpAny_bind (W.item i s _ _ lt st fun v s' hP st' hm => ?_)
      obtain ⟨z, t, hz, rfl⟩ := hval i v hP
      have hS1 : TxR w s'.heap S (ddS (xs.take i).reverse) := hS.at fun o e => hm.heap S o nw e
      have hlen : (ddS (xs.take i).reverse).length ≤ i := Nat.le_trans (len_ddS _) (by simp; omega)
      show wpAny _ A.in1 (holding [Value.str z t] (setAdd S (.str z t)) >>= _) _ _ _
      refine wpAny_bind (wpAny_holding ?_)
      unfold setAdd
      refine wpAny_holding (wpAny_bind ((strKind P w).pyHash (k := z) (is_str z t) ?_))
      have go : ∀ (h2 : Heap) (b : Bool), (∀ c o, c ≠ S → s'.heap.get? c = some o → h2.get? c = some o) → TxR w h2 S (ddS (xs.take (i + 1)).reverse) →
          codeAny (model P w) A (.builtin "set.update.loop" ⟨[.ref S, .ref I], []⟩) R { s' with heap := h2, toks := s'.toks + 1 } := fun h2 b keep r2 =>
        ih (i + 1) _ (by omega) lt (W.frame _ s' _ _ st' (Nat.le_succ _) fun c m o e => keep c o (fun q : c = S => hSf (by rw [← q]; exact m)) e) r2 fun s'' hm2 hS2 =>
          hR s'' (Moved.trans W.gtrans ((hm.mono inc).then_heap (Nat.le_succ _) fun c o m e => keep c o (fun q : c = S => m (by rw [q]; exact List.mem_cons_self)) e) hm2) hS2
      by_cases hmem : z ∈ ddS (xs.take i).reverse
      · refine tx_old (s := { s' with toks := s'.toks + 1 }) hS1 hmem (by omega) ?_
        refine wpAny_pure ⟨plainId_quiet F.plain_set_update_loop _, go s'.heap false (fun _ _ _ e => e) ?_⟩
        rw [ddS_step hz]
        unfold ddS
        rw [if_pos ((mem_ddS _ _).1 hmem)]
        exact hS1
      · refine tx_new (s := { s' with toks := s'.toks + 1 }) hS1 hmem (by omega) fun h2 keep r2 => ?_
        refine wpAny_pure ⟨plainId_quiet F.plain_set_update_loop _, go h2 true keep ?_⟩
        rw [ddS_step hz]
        unfold ddS
        rw [if_neg (fun q => hmem ((mem_ddS _ _).2 q))]
        exact r2)
end
end MxZ
namespace MxZ
open PySem PySem.Spec PyProof.Rows L2 PySem.Froz
abbrev set0 (w : World) : Obj := { cls := .type "set", dict := none, data := .set #[] 0 (.fresh 0 0 (!w.params.followText "set-order")) }
section
variable {P : Program} {w : World} {A : Around} {E : Value → Shared → Prop} {s : Shared}
/-- set(l), l a list: what its loop leaves -/
theorem set_shell {l : Addr} {items : Array Value} {Q : Value → Shared → Prop} (Z : Heap → Prop) (hh : A.handled = none) (hl : s.heap.IsList l items)
    (lp : ∀ (B : Around) (I : Addr) (s2 : Shared) (R : Result → Shared → Prop), B.handled = none → l ≠ I → s.heap.objs.size ∉ [I, l] → s2.heap.get? s.heap.objs.size = some (set0 w) → s2.heap.IsListIter I l 0 → s2.heap.IsList l items →
      (∀ s', Moved [s.heap.objs.size, I] (fun a b => b = a) s2 s' → Z s'.heap → R (.ok (.ret .none)) s') → codeAny (model P w) B (.builtin "set.update.loop" ⟨[.ref s.heap.objs.size, .ref I], []⟩) R s2)
    (h : ∀ (h' : Heap) (tk : Nat), Z h' → (∀ b o, s.heap.get? b = some o → h'.get? b = some o) → Q (.ref s.heap.objs.size) { s with heap := h', toks := tk }) : wpAny (model P w) A (call (.type "set") [.ref l]) Q E s := by
  obtain ⟨c, tl, hmro⟩ := F.called_set.mro; have hmade := F.called_set.made; have hsub := F.called_set.sub
  refine wpAny_call (codeAny_of_tree (by
    show wpAny _ _ (callAny (.type "set") _) _ _ _
    refine wpAny_pure ⟨Code.quiet_builtin _ (by decide +kernel), codeAny_builtin PySem.F.entry_type_call (by
      rw [Around.under_plain (weight_type_call_type "set" [.ref l] []) rfl]
      have h1 := PySem.F.called_set.notType; have h2 := PySem.F.called_set.canCreate; have hct := PySem.F.typeCall_set_1 (.ref l)
      repeat (any_goals (first | assumption | wp_step))
      refine codeAny_mono (code_set_led1 (.ref l) (E := E) (Q₁ := fun obj t => obj = .ref s.heap.objs.size ∧ t = { s with heap := s.heap.push (set0 w) }) ⟨rfl, rfl⟩) fun r t hr => ?_
      have kill : (∃ v, r = .ok (.ret v)) ∨ ¬ ∃ v, r = .ok (.ret v) := Classical.em _
      rcases kill with ⟨obj, rfl⟩ | no
      · obtain ⟨rfl, rfl⟩ := hr
        have gS : (s.heap.push (set0 w)).get? s.heap.objs.size = some (set0 w) := Heap.get?_push_size _ rfl
        have tS : Shared.TypeIs { s with heap := s.heap.push (set0 w) } (.ref s.heap.objs.size) "set" := ⟨_, gS, rfl⟩
        have hli := PySem.F.called_set.init.lookup; have hbi := PySem.F.called_set.init.bind (.ref s.heap.objs.size)
        repeat (any_goals (first | assumption | wp_step))
        refine codeAny_mono (codeAny_call_builtin (R := wants (fun r t => r = .none ∧ ∃ h' tk, t = { s with heap := h', toks := tk } ∧ Z h' ∧ (∀ b o, s.heap.get? b = some o → h'.get? b = some o)) E) PySem.F.called_set.init.plain PySem.F.entry_set_init
          (check_set_init_1 tS ?_)) fun r2 t2 hr2 => ?_
        · obtain ⟨ol, hol, hcl, nl, hdl⟩ := hl
          obtain ⟨ocls, odict, odata, oslots⟩ := ol
          simp only at hcl hdl
          subst hcl; subst hdl
          have hol2 : (s.heap.push (set0 w)).get? l = some { cls := .type "list", dict := odict, data := .seq items nl, slots := oslots } := Heap.get?_push_of_some _ hol
          have q1 := F.sub_list_set; have q2 := F.sub_list_frozenset
          have q3 : (Value.type "list" == Value.type "dict") = false := by decide
          have il : (s.heap.push (set0 w)).IsList l items := ⟨_, hol2, rfl, nl, rfl⟩
          unfold Builtin.«set.__init__» noKeywords; unfold Builtin.Frozenset.updateFrom; generalize ePI : pyIter = PI
          wp_walk
          subst ePI
          refine wpAny_pyIter_list il (wpAny_bind (wpAny_runValue ?_))
          have ls : l < s.heap.objs.size := Heap.lt_size hol
          have z1 : (s.heap.push (set0 w)).objs.size = s.heap.objs.size + 1 := Heap.size_push ..
          have gS2 : ((s.heap.push (set0 w)).push { cls := .type "list_iterator", data := .fields #[.ref l, .int 0 0] }).get? s.heap.objs.size = some (set0 w) := Heap.get?_push_of_some _ gS
          refine lp _ (s.heap.push (set0 w)).objs.size _ _ (by simp [hh]) (by rw [z1]; exact Nat.ne_of_lt (Nat.lt_succ_of_lt ls)) (by rw [z1]; simp only [List.mem_cons, List.not_mem_nil, or_false]; exact fun q => q.elim (fun q => absurd q (Nat.ne_of_lt (Nat.lt_succ_self _))) fun q => absurd q (Nat.ne_of_gt ls)) gS2 ⟨_, Heap.get?_push_size _ rfl, rfl, rfl⟩ (il.push _) fun s' hm hz => ?_
          rw [hm.eq_with]
          show wpAny _ _ _ _ _ _
          refine wpAny_pure ?_
          show wpAny _ _ (ret Value.none) _ _ _
          refine wpAny_pure ⟨rfl, s'.heap, s'.toks, rfl, hz, fun b o e => ?_⟩
          have lb : b < s.heap.objs.size := Heap.lt_size e
          refine hm.heap b o (fun q => ?_) (Heap.get?_push_of_some _ (Heap.get?_push_of_some _ e))
          rw [z1] at q
          simp only [List.mem_cons, List.not_mem_nil, or_false] at q; exact q.elim (fun q => Nat.ne_of_lt lb q) fun q => Nat.ne_of_lt (Nat.lt_succ_of_lt lb) q
        · have kill2 : (∃ v, r2 = .ok (.ret v)) ∨ ¬ ∃ v, r2 = .ok (.ret v) := Classical.em _
          rcases kill2 with ⟨v, rfl⟩ | no2
          · obtain ⟨rfl, h', tk, rfl, hz, hk⟩ := hr2
            repeat (any_goals (first | assumption | wp_step))
            exact h _ _ hz hk
          · match r2, hr2, no2 with
            | .error e, z, _ => exact z
            | .ok (.ret v), _, n => exact absurd ⟨v, rfl⟩ n
            | .ok .next, z, _ => exact z.elim
            | .ok .brk, z, _ => exact z.elim
            | .ok .cont, z, _ => exact z.elim
      · match r, hr, no with
        | .error e, z, _ => exact z
        | .ok (.ret v), _, n => exact absurd ⟨v, rfl⟩ n
        | .ok .next, z, _ => exact z.elim
        | .ok .brk, z, _ => exact z.elim
        | .ok .cont, z, _ => exact z.elim)⟩))
theorem set_of_strs {l : Addr} {items : Array Value} (xs : List Str) {Q : Value → Shared → Prop} (hh : A.handled = none) (hl : s.heap.IsList l items) (hi : StrsAre items.toList xs) (hb : xs.length + 1 < scanBound)
    (h : ∀ (h' : Heap) (tk : Nat), TxR w h' s.heap.objs.size (ddS xs.reverse) → (∀ b o, s.heap.get? b = some o → h'.get? b = some o) → Q (.ref s.heap.objs.size) { s with heap := h', toks := tk }) :
    wpAny (model P w) A (call (.type "set") [.ref l]) Q E s := by
  have hz : items.size = xs.length := by rw [← StrsAre.len_eq hi, Array.length_toList]
  refine set_shell (fun h' => TxR w h' s.heap.objs.size (ddS xs.reverse)) hh hl (fun B I s2 R hB hne hS g it il fin => ?_) h
  refine upd_strs ((Walks.list (A := B.in1) (by simp [hB]) I l hne items).toS) s.heap.objs.size hS xs hz hb (fun i v e => ?_) _ 0 s2 rfl (Nat.zero_le _) ⟨it, il⟩ ⟨(#[], 0, .fresh 0 0 (!w.params.followText "set-order")), g, fun e m => by simp at m, .nil, rfl, .nil, ?_⟩ fun s' hm r => fin s' hm r
  · obtain ⟨t, e2⟩ := SS.strs_at hi i v (by rw [Array.getElem?_toList]; exact e)
    have li : i < xs.length := by rw [← hz]; exact (Array.getElem?_eq_some_iff.mp e).1
    exact ⟨xs[i], t, List.getElem?_eq_getElem li, by rw [e2, List.getD_eq_getElem?_getD, List.getElem?_eq_getElem li]; rfl⟩
  · show _ ∨ (!w.params.followText "set-order") = true
    cases w.params.followText "set-order"
    · exact .inr rfl
    · exact .inl rfl
theorem set_of_ints {l : Addr} {items : Array Value} (ns : List Int) {Q : Value → Shared → Prop} (hh : A.handled = none) (hl : s.heap.IsList l items) (hi : IntsAre items.toList ns) (hb : ns.length + 1 < scanBound)
    (h : ∀ (h' : Heap) (tk : Nat), (∃ c, c ≤ ns.length ∧ SetR w h' s.heap.objs.size (fun j => decide (j ∈ ns)) c) → (∀ b o, s.heap.get? b = some o → h'.get? b = some o) → Q (.ref s.heap.objs.size) { s with heap := h', toks := tk }) :
    wpAny (model P w) A (call (.type "set") [.ref l]) Q E s := by
  have hz : items.size = ns.length := by have q := IntsAre.length hi; rw [Array.length_toList] at q; exact q
  refine set_shell (fun h' => ∃ c, c ≤ ns.length ∧ SetR w h' s.heap.objs.size (fun j => decide (j ∈ ns)) c) hh hl (fun B I s2 R hB hne hS g it il fin => ?_) h
  refine set_update_ints ((Walks.list (A := B.in1) (by simp [hB]) I l hne items).toS) s.heap.objs.size hS ns hz hb (fun i v e => ?_) _ 0 s2 rfl (Nat.zero_le _) ⟨it, il⟩ ⟨0, Nat.le_refl _, setR_new_at g⟩ fun s' c hm hc r => fin s' hm ⟨c, by omega, r⟩
  obtain ⟨t, e2⟩ := PyProof.Rows.IntsAre.int_at hi i v (by rw [Array.getElem?_toList]; exact e)
  have li : i < ns.length := by rw [← hz]; exact (Array.getElem?_eq_some_iff.mp e).1
  exact ⟨ns[i], t, List.getElem?_eq_getElem li, by rw [e2, List.getD_eq_getElem?_getD, List.getElem?_eq_getElem li]; rfl⟩
/-- sorted(set of texts) -/
theorem sorted_tx {a : Addr} {l : List Str} {Q : Value → Shared → Prop} (R : TxR w s.heap a l) (hh : A.handled = none) (h64 : l.length < 64)
    (hq : ∀ s' p (out : Array Value) (c : Nat) (ys : List Str), (∀ b o, s.heap.get? b = some o → s'.heap.get? b = some o) → s'.gens = s.gens → s'.os = s.os → s.heap.objs.size ≤ p → s'.heap.get? p = some (seqObj "list" out c) →
      StrsAre out.toList ys → ys.Perm l → sortedS ys = true → Q (.ref p) s') : wpAny (model P w) A (call (.builtin "sorted") [.ref a]) Q E s := by
  obtain ⟨D, ho, g, pl, f, r, ld⟩ := R
  obtain ⟨es, ep, t⟩ := D
  have sz : es.size = l.length := by rw [← pl.length_eq, List.length_map, Array.length_toList]
  refine Calls.call_function_entry kind_sorted plain_sorted entry_sorted (args_sorted1 _) (by
    unfold Builtin.«sorted»
    refine wpAny_bind (m := checkCount "sorted" 1 1 _) (wpAny_pure (wpAny_bind (collect_set (A := A.in1) (es := es) (ep := ep) (t := t) hh ⟨_, ho, rfl, rfl⟩ f (by unfold scanBound; omega) r ld fun s1 vs k1 hz g1 o1 pm => ?_)))
    have vl : vs.length = l.length := by rw [pm.length_eq, List.length_map, Array.length_toList, sz]
    have hS : StrsAre vs (vs.map strOf) := strsAre_map vs fun v hv => by
      obtain ⟨e, he, q⟩ := List.mem_map.mp (pm.mem_iff.mp hv)
      obtain ⟨x, tk, h1, _⟩ := g e he
      exact ⟨x, tk, by rw [← q]; exact h1⟩
    have pk : (vs.map strOf).Perm l := by
      have q := pm.map strOf
      rw [List.map_map] at q
      exact q.trans pl
    refine wpAny_bind (wpAny_newList ?_ (by rw [vl, sizeLine_eq]; omega))
    have hoL : (s1.heap.push (seqObj "list" vs.toArray 0)).get? s1.heap.objs.size = some (seqObj "list" vs.toArray 0) := Heap.get?_push_size _ rfl
    refine wpAny_bind (wpAny_holding (wpAny_call_entry slot_list_sort ⟨_, hoL, rfl⟩ entry_list_sort (list_sort_treeK strKind_oneLt hoL hS.keysOf (fun v1 v2 rest e => keyKind_strs (by rw [← e]; exact hS)) (by rw [vl]; exact h64) fun st a1 a2 => ⟨_, rfl, ?_⟩) (args_list_sort _)))
    obtain ⟨ys, y1, y2, y3⟩ := sorted_out_str hS a1 a2
    obtain ⟨c, hc⟩ := sortedHeap_at (vs := vs) (out := (arrOf st).map (·.2)) hoL
    refine wpAny_pure ⟨_, rfl, hq _ s1.heap.objs.size _ c ys (fun b u e => ?_) g1 o1 hz hc y1 (y2.trans pk) y3⟩
    have q := k1 b u e
    have lt := Heap.lt_size q
    show (sortedHeap (s1.heap.push (seqObj "list" vs.toArray 0)) s1.heap.objs.size vs _).get? b = some u
    rw [sortedHeap_old (Nat.ne_of_lt lt) (by rw [size_push']; exact Nat.lt_succ_of_lt lt)]; exact Heap.get?_push_of_some _ q)
end
end MxZ
namespace MxZ
open PySem PySem.Spec PyProof.Rows L2 PySem.Froz
/-- the set of texts at a -/
def TxO (w : World) (a : Addr) (l : List Str) : HO := .ext fun h => TxR w h a l
theorem txO_ok {w : World} {P : Program} {H : Hp} {h : Heap} {a : Addr} {l : List Str} (R : TxR w h a l) : ObjOk P w H h a (TxO w a l) := by
  have ⟨_, ho, _⟩ := R
  exact ⟨R, ⟨_, ho⟩, fun _ _ p _ => p.at ‹_›⟩
section
variable {X : Cx}
/-- set(l), l a list of ints or of texts -/
def rSetA (K : PySem.W.Frag) (w : World) : List V → Hp → VK → Prop := fun xs H Q => ∃ p : Addr, xs = [V.ref p] ∧
  ((∃ ns : List Int, SqL K H p (ns.map V.int) ∧ ns.length < 64 ∧ ∀ a c, H a = none → c ≤ ns.length → Q (.ref a) (upd H a (SetO w a (fun j => decide (j ∈ ns)) c))) ∨
    (∃ ts : List Str, SqL K H p (ts.map V.str) ∧ ts.length < 64 ∧ ∀ a, H a = none → Q (.ref a) (upd H a (TxO w a (ddS ts.reverse)))))
theorem cr_setA (hc : X.calm = true) : CallR X (.type "set") (rSetA X.K X.w) := by
  intro pins s σ H xs us Q I r h
  obtain ⟨p, rfl, h⟩ := h
  rw [Vals.ref1 r]
  rcases h with ⟨ns, hq, hl, q⟩ | ⟨ts, hq, hl, q⟩
  · obtain ⟨its, rv, pl, _⟩ := I.list hq
    refine set_of_ints ns (I.ok.hd hc) pl.isList (by simpa using rv.ints) (by unfold scanBound; omega) fun h' tk ⟨c, hcn, R⟩ k => ?_
    exact ⟨.ref _, _, I.laid (t' := tk) k (Nat.le_refl _) (setO_new R), rfl, q _ c (I.hok.fresh (Nat.le_refl _)) hcn⟩
  · obtain ⟨its, rv, pl, _⟩ := I.list hq
    refine set_of_strs ts (I.ok.hd hc) pl.isList (by simpa using rv.strs) (by unfold scanBound; omega) fun h' tk R k => ?_
    exact ⟨.ref _, _, I.laid (t' := tk) k (Nat.le_refl _) (txO_ok R), rfl, q _ (I.hok.fresh (Nat.le_refl _))⟩
/-- sorted(such a set) -/
def rSortA (w : World) : List V → Hp → VK → Prop := fun vs H Q => rSortedSet w vs H Q ∨ ∃ (a : Addr) (l : List Str), vs = [V.ref a] ∧ H a = some (TxO w a l) ∧ l.length < 64 ∧
  ∀ (ys : List Str) (p : Addr), ys.Perm l → sortedS ys = true → H p = none → Q (.ref p) (upd H p (.lst (ys.map V.str)))
theorem cr_sortA (hc : X.calm = true) : CallR X (.builtin "sorted") (rSortA X.w) := by
  intro pins s σ H vs us Q I r h
  rcases h with h | ⟨a, l, rfl, ha, h64, q⟩
  · exact cr_sortedSet hc pins s σ H vs us Q I r h
  · have R : TxR X.w s.heap a l := (I.hok a _ ha).1
    rw [Vals.ref1 r]
    refine sorted_tx R (I.ok.hd hc) h64 fun s' p out c ys k g o hp hg hi hs hm => ?_
    have hn : H p = none := I.hok.fresh hp
    have J : Inv X pins σ (upd H p (.lst (ys.map V.str))) { s with heap := s'.heap, gens := s'.gens, drawn := s'.drawn, toks := s'.toks } :=
      I.call (ch := []) (Un.laid k hp hn) (I.hok.laid k hp ⟨by rw [List.length_map, hs.length_eq, sizeLine_eq]; omega, out.toList, c, vals_of_strs hi, hg⟩) (by rw [g]; exact I.bare) (fun _ z => nomatch z)
    have e : s' = { s with heap := s'.heap, gens := s'.gens, drawn := s'.drawn, toks := s'.toks } := by
      cases s'; cases s; cases o; rfl
    rw [e]; exact ⟨.ref p, _, J, rfl, q ys p hs hm hn⟩
end
/-! ### the one rising list -/
theorem srt_uniq {α : Type} {lt : α → α → Prop} (ir : ∀ a, ¬ lt a a) (as : ∀ a b, lt a b → ¬ lt b a) : ∀ (l m : List α), l.Pairwise lt → m.Pairwise lt → (∀ k, k ∈ l ↔ k ∈ m) → l = m
  | [], [], _, _, _ => rfl
  | [], y :: m, _, _, h => by have := (h y).2 List.mem_cons_self; cases this
  | x :: l, [], _, _, h => by have := (h x).1 List.mem_cons_self; cases this
  | x :: l, y :: m, pl, pm, h => by
    obtain ⟨p1, p2⟩ := List.pairwise_cons.mp pl
    obtain ⟨q1, q2⟩ := List.pairwise_cons.mp pm
    have e : x = y := by
      rcases List.mem_cons.mp ((h x).1 List.mem_cons_self) with e | hx
      · exact e
      · rcases List.mem_cons.mp ((h y).2 List.mem_cons_self) with e | hy
        · exact e.symm
        · exact absurd (p1 y hy) (as _ _ (q1 x hx))
    subst e
    refine congrArg _ (srt_uniq ir as l m p2 q2 fun k => ?_)
    have hk := h k
    rw [List.mem_cons, List.mem_cons] at hk
    constructor
    · intro hl
      rcases hk.1 (.inr hl) with e | z
      · exact absurd (p1 k hl) (by rw [e]; exact ir x)
      · exact z
    · intro hm
      rcases hk.2 (.inr hm) with e | z
      · exact absurd (q1 k hm) (by rw [e]; exact ir x)
      · exact z
def insU {α : Type} (lt : α → α → Bool) (x : α) : List α → List α
  | [] => [x]
  | y :: r => if lt x y = true then x :: y :: r else if lt y x = true then y :: insU lt x r else y :: r
def sdU {α : Type} (lt : α → α → Bool) (l : List α) : List α := l.foldr (insU lt) []
section
variable {α : Type} {lt : α → α → Bool} (tri : ∀ a b, lt a b = false → lt b a = false → a = b) (tr : ∀ a b c, lt a b = true → lt b c = true → lt a c = true)
include tri in
theorem mem_insU (x : α) : ∀ (l : List α) (k : α), k ∈ insU lt x l ↔ k = x ∨ k ∈ l
  | [], k => by unfold insU; simp
  | y :: r, k => by
    unfold insU
    split
    · simp
    · rename_i h1
      split
      · rw [List.mem_cons, mem_insU x r k, List.mem_cons]
        constructor
        · rintro (h | h | h)
          · exact .inr (.inl h)
          · exact .inl h
          · exact .inr (.inr h)
        · rintro (h | h | h)
          · exact .inr (.inl h)
          · exact .inl h
          · exact .inr (.inr h)
      · rename_i h2
        have e := tri x y (by simpa using h1) (by simpa using h2)
        subst e
        rw [List.mem_cons]
        exact ⟨.inr, fun h => h.elim (fun e => .inl e) id⟩
include tri in
theorem mem_sdU : ∀ (l : List α) (k : α), k ∈ sdU lt l ↔ k ∈ l
  | [], k => by simp [sdU]
  | x :: r, k => by
    show k ∈ insU lt x (sdU lt r) ↔ _
    rw [mem_insU tri, mem_sdU r k, List.mem_cons]
include tri tr in
theorem pw_insU (x : α) : ∀ (l : List α), l.Pairwise (fun a b => lt a b = true) → (insU lt x l).Pairwise (fun a b => lt a b = true)
  | [], _ => by unfold insU; exact List.pairwise_singleton ..
  | y :: r, h => by
    obtain ⟨h1, h2⟩ := List.pairwise_cons.mp h
    unfold insU
    split
    · rename_i c
      exact List.pairwise_cons.mpr ⟨fun z hz => (List.mem_cons.mp hz).elim (fun e => e ▸ c) fun hz => tr _ _ _ c (h1 z hz), h⟩
    · split
      · rename_i c
        refine List.pairwise_cons.mpr ⟨fun z hz => ?_, pw_insU x r h2⟩
        rcases (mem_insU tri x r z).1 hz with e | hz
        · rw [e]; exact c
        · exact h1 z hz
      · exact h
include tri tr in
theorem pw_sdU : ∀ (l : List α), (sdU lt l).Pairwise (fun a b => lt a b = true)
  | [] => .nil
  | x :: r => pw_insU tri tr x _ (pw_sdU r)
end
def ltI (a b : Int) : Bool := decide (a < b)
def ltT (a b : Str) : Bool := decide (a.cps.toList < b.cps.toList)
theorem ltI_tri (a b : Int) (h1 : ltI a b = false) (h2 : ltI b a = false) : a = b := by
  have := of_decide_eq_false h1; have := of_decide_eq_false h2; omega
theorem ltI_tr (a b c : Int) (h1 : ltI a b = true) (h2 : ltI b c = true) : ltI a c = true := by
  have := of_decide_eq_true h1; have := of_decide_eq_true h2; exact decide_eq_true (by omega)
theorem ltT_tri (a b : Str) (h1 : ltT a b = false) (h2 : ltT b a = false) : a = b :=
  Mx.str_ext (List.le_antisymm (List.not_lt.mp (of_decide_eq_false h2)) (List.not_lt.mp (of_decide_eq_false h1)))
theorem ltT_tr (a b c : Str) (h1 : ltT a b = true) (h2 : ltT b c = true) : ltT a c = true := decide_eq_true (List.lt_trans (of_decide_eq_true h1) (of_decide_eq_true h2))
theorem ints_uniq {ns ys : List Int} (p : ys.Pairwise (· < ·)) (m : ∀ k, k ∈ ys ↔ k ∈ ns) : ys = sdU ltI ns :=
  srt_uniq (lt := fun a b => ltI a b = true) (fun a h => absurd (of_decide_eq_true h) (Int.lt_irrefl a)) (fun a b h k => absurd (of_decide_eq_true h) (Int.lt_asymm (of_decide_eq_true k))) ys _ (p.imp fun z => decide_eq_true z) (pw_sdU ltI_tri ltI_tr ns) fun k => (m k).trans (mem_sdU ltI_tri ns k).symm
theorem rising_pw : ∀ (l : List Str) (p : Str), risingS p l = true → (p :: l).Pairwise fun a b => ltT b a = false
  | [], p, _ => List.pairwise_singleton ..
  | x :: r, p, h => by
    have h' : (!ltCps x.cps.toList p.cps.toList && risingS x r) = true := h
    obtain ⟨h1, h2⟩ := Bool.and_eq_true_iff.mp h'
    have ih := rising_pw r x h2
    have hx : ltT x p = false := by
      rw [ltCps_eq] at h1
      simpa [ltT] using h1
    refine List.pairwise_cons.mpr ⟨fun z hz => ?_, ih⟩
    rcases List.mem_cons.mp hz with rfl | hz
    · exact hx
    · have hzx := (List.pairwise_cons.mp ih).1 z hz
      exact decide_eq_false (List.not_lt.mpr (List.le_trans (List.not_lt.mp (of_decide_eq_false hx)) (List.not_lt.mp (of_decide_eq_false hzx))))
theorem strs_uniq {ts l ys : List Str} (hp : ys.Perm l) (nd : l.Nodup) (hs : sortedS ys = true) (m : ∀ k, k ∈ l ↔ k ∈ ts) : ys = sdU ltT ts := by
  have pw : ys.Pairwise fun a b => ltT b a = false := by
    cases ys with
    | nil => exact .nil
    | cons x r => exact rising_pw r x hs
  have ndy : ys.Nodup := hp.nodup_iff.mpr nd
  have pw2 : ys.Pairwise fun a b => ltT a b = true := by
    refine (pw.and ndy).imp fun {a b} h => ?_
    cases e : ltT a b with
    | true => rfl
    | false => exact absurd (ltT_tri a b e h.1) h.2
  refine srt_uniq (lt := fun a b => ltT a b = true) (fun a h => absurd (of_decide_eq_true h) (List.lt_irrefl _)) (fun a b h k => absurd (of_decide_eq_true h) (List.lt_asymm (of_decide_eq_true k))) ys _ pw2 (pw_sdU ltT_tri ltT_tr ts) fun k => ?_
  rw [hp.mem_iff, m k, mem_sdU ltT_tri]
end MxZ
namespace Mx
open PySem PySem.Spec PyProof.Rows L2 MxZ
def intsD : List Dt → Option (List Int)
  | [] => some []
  | .int i :: r => (intsD r).map (i :: ·)
  | _ :: _ => none
def strsD : List Dt → Option (List Str)
  | [] => some []
  | .str i :: r => (strsD r).map (i :: ·)
  | _ :: _ => none
theorem intsD_eq : ∀ {l : List Dt} {ns : List Int}, intsD l = some ns → l = ns.map Dt.int
  | [], ns, h => by simp only [intsD, Option.some.injEq] at h; subst h; rfl
  | d :: r, ns, h => by
    cases d <;> simp only [intsD] at h <;> try cases h
    cases e : intsD r with
    | none => rw [e] at h; cases h
    | some m =>
      rw [e] at h
      simp only [Option.map_some, Option.some.injEq] at h
      subst h
      rw [intsD_eq e]; rfl
theorem strsD_eq : ∀ {l : List Dt} {ns : List Str}, strsD l = some ns → l = ns.map Dt.str
  | [], ns, h => by simp only [strsD, Option.some.injEq] at h; subst h; rfl
  | d :: r, ns, h => by
    cases d <;> simp only [strsD] at h <;> try cases h
    cases e : strsD r with
    | none => rw [e] at h; cases h
    | some m =>
      rw [e] at h
      simp only [Option.map_some, Option.some.injEq] at h
      subst h
      rw [strsD_eq e]; rfl
@[simp] theorem intsD_map : ∀ ns : List Int, intsD (ns.map Dt.int) = some ns
  | [] => rfl
  | n :: r => by show (intsD (r.map Dt.int)).map _ = _; rw [intsD_map r]; rfl
@[simp] theorem strsD_map : ∀ ns : List Str, strsD (ns.map Dt.str) = some ns
  | [] => rfl
  | n :: r => by show (strsD (r.map Dt.str)).map _ = _; rw [strsD_map r]; rfl
theorem intsD_strs {n : Str} {r : List Str} : intsD ((n :: r).map Dt.str) = none := rfl
/-- sorted(set(l)) -/
def dSS : List Dt → R (List Dt)
  | [.lst l] => match intsD l with
    | some ns => if l.length < 64 then .ok ((sdU ltI ns).map Dt.int) else .bad
    | none => match strsD l with
      | some ts => if l.length < 64 then .ok ((sdU ltT ts).map Dt.str) else .bad
      | none => .bad
  | _ => .bad
section
variable {K : Fr} {cl : Cl} {E : L2.St → XK} {H H' H1 : Hp} {O : List Addr} {w : World}
theorem cl_ss : CaL K cl (fun vs H Q => rSetA K w vs H fun v H2 => rSortA w [v] H2 Q) dSS := fun O H xs ds E ho r Q q => by
  unfold dSS at q
  split at q
  · rename_i l
    obtain ⟨v, rfl, a, vs, rfl, h, rr⟩ := r.one
    have post : ∀ {H2 : Hp} {b : Addr} {o : HO} {ns' : List V} {ds' : List Dt}, H2 = upd H b o → H b = none → (∀ Hx, RepL K cl Hx ns' ds') → PostL K cl E O H Q (.ok ds') → ∀ p, H2 p = none → Q (.ref p) (upd H2 p (.lst ns')) := fun {H2 b o ns' ds'} e nb rp q p np => by
      subst e
      have sm : Same H (upd (upd H b o) p (.lst ns')) := (same_upd nb).trans (same_upd np)
      have hn : H p = none := by
        by_cases e2 : p = b
        · rw [e2]; exact nb
        · rw [upd_ne e2] at np; exact np
      exact q p ns' _ sm hn upd_same (rp _)
    split at q
    · rename_i ns hi
      split at q
      · rename_i hl
        have hl2 := intsD_eq hi
        subst hl2
        rw [rr.ints] at h
        rw [List.length_map] at hl
        refine ⟨a, rfl, .inl ⟨ns, SqL.of h, hl, fun b c nb hc => .inl ⟨b, _, c, rfl, upd_same, by omega, fun ys p pw hm _ np => ?_⟩⟩⟩
        have e := ints_uniq (ns := ns) pw fun k => by rw [hm k, decide_eq_true_eq]
        rw [e]
        exact post rfl nb (fun Hx => RepL.ofInts _) q p np
      · exact q.elim
    · split at q
      · rename_i ts hi
        split at q
        · rename_i hl
          have hl2 := strsD_eq hi
          subst hl2
          rw [rr.strs] at h
          rw [List.length_map] at hl
          refine ⟨a, rfl, .inr ⟨ts, SqL.of h, hl, fun b nb => .inr ⟨b, _, rfl, upd_same, ?_, fun ys p pm hs np => ?_⟩⟩⟩
          · have := len_ddS ts.reverse
            rw [List.length_reverse] at this
            omega
          · have e := strs_uniq (ts := ts) pm (nd_ddS _) hs fun k => by rw [mem_ddS, List.mem_reverse]
            rw [e]
            exact post rfl nb (fun Hx => RepL.ofStrs _) q p np
        · exact q.elim
      · exact q.elim
  · exact q.elim
theorem simL_ss {ta : TA} {xa : XA} (ha : SimBA K cl E ta xa) : SimL K cl E (tCB (rSortA w) (tCons (tCB (rSetA K w) ta) tNil)) (xCBL dSS xa) := simL_cb (r := fun vs H Q => rSetA K w vs H fun v H2 => rSortA w [v] H2 Q) cl_ss ha
end
end Mx
namespace Mx
open PySem PySem.Spec PyProof.Rows L2
section
variable {K : Fr} {cl : Cl} {E : L2.St → XK} {H H' H1 H0 : Hp} {O O' : List Addr} {σ : L2.St} {D : Ds} {B : List Addr}
/-! ### a target, its change seen over other heaps too -/
def Tra (K : Fr) (cl : Cl) (B : List Addr) (H0 : Hp) (O : List Addr) (H : Hp) (σ : L2.St) (D : Ds) (σ' : L2.St) (D' : Ds) : Prop := ∀ O2 H2, Same (hid O H) (hid O2 H2) → RS K cl B H0 O2 σ D H2 → RS K cl B H0 O2 σ' D' H2
def SimG2 (K : Fr) (cl : Cl) (vs : List Nat) (g : TG) (xg : XG) : Prop := ∀ B H0 O σ D H, RS K cl B H0 O σ D H → ∀ v d, Rep K cl (hid O H) v d → ∀ (Q : L2.St → Hp → Prop) D', xg d D = .ok D' →
  (∀ σ', RS K cl B H0 O σ' D' H → Tra K cl B H0 O H σ D σ' D' → L2.wipe σ' vs = L2.wipe σ vs → Q σ' H) → g v σ H Q
def SimGs2 (K : Fr) (cl : Cl) (vs : List Nat) (g : TGs) (xg : List Dt → Ds → R Ds) : Prop := ∀ B H0 O σ D H, RS K cl B H0 O σ D H → ∀ ws ds, RepL K cl (hid O H) ws ds → ∀ (Q : L2.St → Hp → Prop) D', xg ds D = .ok D' →
  (∀ σ', RS K cl B H0 O σ' D' H → Tra K cl B H0 O H σ D σ' D' → L2.wipe σ' vs = L2.wipe σ vs → Q σ' H) → g ws σ H Q
theorem sg2_name {i : Nat} {vs : List Nat} (h : i ∈ vs) : SimG2 K cl vs (gName i) (xgName i) := fun B H0 O σ D H s v d r Q D' e q => by
  simp only [xgName, R.ok.injEq] at e
  subst e
  exact q _ (s.setSh i r) (fun O2 H2 sm s2 => s2.setSh i (r.mono sm)) (wipe_set σ vs h)
theorem sgs2_nil {vs : List Nat} : SimGs2 K cl vs gNil xgNil := fun B H0 O σ D H s ws ds r Q D' e q => by
  cases r with
  | nil => simp only [xgNil, R.ok.injEq] at e; subst e; exact ⟨rfl, q σ s (fun _ _ _ z => z) rfl⟩
  | cons h r => cases e
theorem sgs2_cons {vs : List Nat} {g : TG} {gs : TGs} {x : XG} {xs : List Dt → Ds → R Ds} (h1 : SimG2 K cl vs g x) (h2 : SimGs2 K cl vs gs xs) : SimGs2 K cl vs (gCons g gs) (xgCons x xs) := fun B H0 O σ D H s ws ds r Q D' e q => by
  cases r with
  | nil => cases e
  | cons h r =>
    rename_i v d ws ds
    simp only [xgCons] at e
    cases e1 : x d D with
    | bad => rw [e1] at e; cases e
    | ex c fs => rw [e1] at e; cases e
    | ok D1 =>
      rw [e1] at e
      refine ⟨v, ws, rfl, h1 B H0 O σ D H s v d h _ D1 e1 fun σ1 s1 t1 w1 => ?_⟩
      exact h2 B H0 O σ1 D1 H s1 ws ds r Q D' e fun σ' s' t' w' => q σ' s' (fun O2 H2 sm z => t' O2 H2 sm (t1 O2 H2 sm z)) (w'.trans w1)
theorem sg2_tup {vs : List Nat} {n : Nat} {gs : TGs} {xs : List Dt → Ds → R Ds} (h : SimGs2 K cl vs gs xs) : SimG2 K cl vs (gTup K n gs) (xgTup n xs) := fun B H0 O σ D H s v d r Q D' e q => by
  unfold xgTup at e
  split at e
  · split at e
    · rename_i l hl
      cases r with
      | tup ha ra => exact ⟨_, _, rfl, SqT.of (hid_same _ _ _ _ ha), by rw [ra.len]; exact hl, h B H0 O σ D H s _ _ ra Q D' e q⟩
    · cases e
  · cases e
/-! ### two fors -/
def xComp2 (xg : XG) (xt : XT) (xi1 : XA) (xg1 : XG) (xt1 : XT) (xe : XE) (vs1 : List Nat) (D0 : Ds) : List Dt → List Dt → R (List Dt)
  | [], acc => .ok acc
  | d :: r, acc => match xg d D0 with
    | .ok D1 => match xt D1 with
      | .ok true => match xi1 D1 with
        | .ok l1 => match xComp xg1 xt1 xe (wipeD D1 vs1) l1 acc with
          | .ok acc2 => xComp2 xg xt xi1 xg1 xt1 xe vs1 D0 r acc2
          | _ => .bad
        | _ => .bad
      | .ok false => xComp2 xg xt xi1 xg1 xt1 xe vs1 D0 r acc
      | _ => .bad
    | _ => .bad
@[simp] def xLc2 (xi : XA) (xg : XG) (xt : XT) (xi1 : XA) (xg1 : XG) (xt1 : XT) (xe : XE) (vs vs1 : List Nat) : XA := fun D => (xi D).bind fun l => xComp2 xg xt xi1 xg1 xt1 xe vs1 (wipeD D vs) l []
theorem xComp2_ex {xg : XG} {xt : XT} {xi1 : XA} {xg1 : XG} {xt1 : XT} {xe : XE} {vs1 : List Nat} {D0 : Ds} {c : Str} {fs : List (Str × Dt)} : ∀ (l acc : List Dt), xComp2 xg xt xi1 xg1 xt1 xe vs1 D0 l acc ≠ .ex c fs := by
  intro l
  induction l with
  | nil => intro acc h; cases h
  | cons d r ih =>
    intro acc h
    unfold xComp2 at h
    split at h
    · split at h
      · split at h
        · split at h
          · exact ih _ h
          · cases h
        · cases h
      · exact ih _ h
      · cases h
    · cases h
/-- the inner for: L the new list, HH the heap before it -/
theorem lc_in {g : TG} {tt : TT} {te : TE} {vs : List Nat} {xg : XG} {xt : XT} {xe : XE} {E0 : XK} (hg : SimGW K cl vs g xg) (ht : SimT K cl (fun _ => E0) tt xt) (he : Sim K cl (fun _ => E0) te xe)
    {L : Addr} {HH : Hp} (nL : HH L = none) {J : It} {l : List Dt} {acc : List V} {ds res : List Dt} (s : RS K cl B H0 O σ D (hid [L] H)) (f : Same HH H) (hL : H L = some (.lst acc)) (ra : RepL K cl (hid (L :: O) H) acc ds) (go : Goes K cl J l (L :: O) H H0)
    (ec : xComp xg xt xe (wipeD D vs) l ds = .ok res) (Fin : Hp → Prop) (fin : ∀ acc2 H2, Same (hid [L] H) (hid [L] H2) → Same HH H2 → H2 L = some (.lst acc2) → RepL K cl (hid (L :: O) H2) acc2 res → Fin H2) :
    ∃ W : Nat → Nat → Hp → Prop, (∃ m, W 0 m H) ∧ ∀ j k H, W j k H → (J.stop j H ∧ Fin H) ∨ (J.go j H ∧ ∃ Nx : Hp → Prop, (∀ H', Nx H' → ∃ k', k' < k ∧ W (j + 1) k' H') ∧ ∀ x H', J.yld j H x H' → g x (L2.wipe σ vs) H' fun σ3 H5 => L2.wipe σ3 vs = L2.wipe σ vs ∧ tt σ3 H5 fun b H6 =>
      if b = true then te σ3 H6 fun y H7 => ∃ acc, H7 L = some (.lst acc) ∧ acc.length < sizeLine ∧ Nx (upd H7 L (.lst (acc ++ [y]))) else Nx H6) := by
  have s1 := s.wipe vs
  refine ⟨fun i m H2 => m = l.length - i ∧ i ≤ l.length ∧ ∃ acc ds, Same (hid [L] H) (hid [L] H2) ∧ Same HH H2 ∧ H2 L = some (.lst acc) ∧ RepL K cl (hid (L :: O) H2) acc ds ∧ xComp xg xt xe (wipeD D vs) (l.drop i) ds = .ok res,
    ⟨l.length, rfl, Nat.zero_le _, acc, ds, Same.refl _, f, hL, ra, ec⟩, ?_⟩
  rintro i m H2 ⟨rfl, hle, acc, ds, m2, f2, hL, ra, c2⟩
  have s2 := s1.mono m2
  have sO := s2.addOwn hL ra
  have mO : Same (hid (L :: O) H) (hid (L :: O) H2) := by rw [hid_cons (H := H), hid_cons (H := H2)]; exact hid_mono m2
  have g' := go i (L :: O) H2 sO.same mO sO.trk
  by_cases hlt : i < l.length
  · have hd : l.drop i = l[i] :: l.drop (i + 1) := List.drop_eq_getElem_cons hlt
    rw [hd] at c2
    unfold xComp at c2
    refine .inr ⟨(g'.1 _ (List.getElem?_eq_getElem hlt)).1, fun H3 => ∃ acc ds, Same (hid [L] H) (hid [L] H3) ∧ Same HH H3 ∧ H3 L = some (.lst acc) ∧ RepL K cl (hid (L :: O) H3) acc ds ∧ xComp xg xt xe (wipeD D vs) (l.drop (i + 1)) ds = .ok res, ?_, ?_⟩
    · rintro H3 ⟨acc, ds, a, b, c, d, f⟩
      exact ⟨_, by omega, rfl, hlt, acc, ds, a, b, c, d, f⟩
    · intro x H3 y
      obtain ⟨e3, rx⟩ := (g'.1 _ (List.getElem?_eq_getElem hlt)).2 x H3 y
      cases eg : xg l[i] (wipeD D vs) with
      | bad => rw [eg] at c2; cases c2
      | ex c fs => rw [eg] at c2; cases c2
      | ok D1 =>
        rw [eg] at c2
        simp only at c2
        refine hg B H0 (L :: O) _ _ H3 (sO.mono e3) x _ rx _ D1 eg fun σ3 s3 w3 => ⟨by rw [w3, wipe_idem], ?_⟩
        refine ht B H0 (L :: O) σ3 D1 H3 s3 _ ?_
        cases et : xt D1 with
        | bad => rw [et] at c2; cases c2
        | ex c fs => rw [et] at c2; cases c2
        | ok b =>
          rw [et] at c2
          intro H4 e4
          cases b with
          | false =>
            simp only at c2
            have e34 := e3.trans e4
            exact ⟨acc, ds, m2.trans (hid_mono e34), f2.trans e34, e34 _ _ hL, ra.mono (hid_mono e34), c2⟩
          | true =>
            simp only at c2
            rw [if_pos rfl]
            refine he B H0 (L :: O) σ3 D1 H4 (s3.mono e4) _ ?_
            cases ee : xe D1 with
            | bad => rw [ee] at c2; cases c2
            | ex c fs => rw [ee] at c2; cases c2
            | ok y =>
              rw [ee] at c2
              simp only at c2
              intro v H5 e5 ry
              split at c2
              · rename_i hz
                have e345 := (e3.trans e4).trans e5
                have hup : hid [L] (upd H5 L (.lst (acc ++ [v]))) = hid [L] H5 := hid_upd (List.mem_singleton.mpr rfl)
                have hup2 : hid (L :: O) (upd H5 L (.lst (acc ++ [v]))) = hid (L :: O) H5 := hid_upd List.mem_cons_self
                refine ⟨acc, e345 _ _ hL, sz_lt (by rw [ra.len]; exact hz), acc ++ [v], ds ++ [y], by rw [hup]; exact m2.trans (hid_mono e345), ?_, upd_same, by rw [hup2]; exact (ra.mono (hid_mono e345)).app (RepL.one ry), c2⟩
                intro a o ha
                rw [upd_ne (ne_of_none ha nL)]
                exact e345 _ _ (f2 _ _ ha)
              · cases c2
  · have hi' : i = l.length := by omega
    refine .inl ⟨g'.2 hi', ?_⟩
    rw [hi', List.drop_length] at c2
    simp only [xComp, R.ok.injEq] at c2
    subst c2
    exact fin acc H2 m2 f2 hL ra
theorem simL_lc2 {wi wi1 : TI} {g g1 : TG} {tt tt1 : TT} {te : TE} {vs vs1 : List Nat} {xi xi1 : XA} {xg xg1 : XG} {xt xt1 : XT} {xe : XE} {E0 : XK} (hi : SimI K cl E wi xi) (hg : SimG2 K cl vs g xg) (ht : SimT K cl (fun _ => E0) tt xt)
    (hi1 : SimI K cl (fun _ => E0) wi1 xi1) (hg1 : SimGW K cl vs1 g1 xg1) (ht1 : SimT K cl (fun _ => E0) tt1 xt1) (he : Sim K cl (fun _ => E0) te xe) :
    SimL K cl E (tLc2 wi g tt wi1 g1 tt1 te vs vs1) (xLc2 xi xg xt xi1 xg1 xt1 xe vs vs1) := fun B H0 O σ D H s Q q => by
  unfold xLc2 at q
  refine hi B H0 O σ D H s _ ?_
  cases e : xi D with
  | bad => rw [e] at q; exact q.elim
  | ex c fs => rw [e] at q; exact q
  | ok l =>
    rw [e] at q
    simp only [Mx.R.bind] at q
    intro J H1 e1 go L nL
    cases ec : xComp2 xg xt xi1 xg1 xt1 xe vs1 (wipeD D vs) l [] with
    | bad => rw [ec] at q; exact q.elim
    | ex c fs => exact (xComp2_ex _ _ ec).elim
    | ok res =>
      rw [ec] at q
      have s1 := (s.mono e1).wipe vs
      have hu : hid [L] (upd H1 L (.lst [])) = hid [L] H1 := hid_upd (List.mem_singleton.mpr rfl)
      have hH1 : hid [L] H1 = H1 := by
        funext a
        unfold hid
        split
        · rename_i h; rw [List.mem_singleton.mp h, nL]
        · rfl
      refine ⟨fun i m H2 => m = l.length - i ∧ i ≤ l.length ∧ ∃ acc ds, RS K cl B H0 O (L2.wipe σ vs) (wipeD D vs) (hid [L] H2) ∧ Same H1 H2 ∧ H2 L = some (.lst acc) ∧ RepL K cl (hid (L :: O) H2) acc ds ∧ xComp2 xg xt xi1 xg1 xt1 xe vs1 (wipeD D vs) (l.drop i) ds = .ok res,
        ⟨l.length, rfl, Nat.zero_le _, [], [], by rw [hu, hH1]; exact s1, same_upd nL, upd_same, .nil, ec⟩, ?_⟩
      rintro i m H2 ⟨rfl, hle, acc, ds, s2, f2, hL, ra, c2⟩
      have sO := s2.addOwn hL ra
      have fO : Same (hid O H1) (hid (L :: O) H2) := hid_new f2 nL
      have g' := go i (L :: O) H2 sO.same fO sO.trk
      by_cases hlt : i < l.length
      · have hd : l.drop i = l[i] :: l.drop (i + 1) := List.drop_eq_getElem_cons hlt
        rw [hd] at c2
        unfold xComp2 at c2
        refine .inr ⟨(g'.1 _ (List.getElem?_eq_getElem hlt)).1, fun H3 => ∃ acc ds, RS K cl B H0 O (L2.wipe σ vs) (wipeD D vs) (hid [L] H3) ∧ Same H1 H3 ∧ H3 L = some (.lst acc) ∧ RepL K cl (hid (L :: O) H3) acc ds ∧ xComp2 xg xt xi1 xg1 xt1 xe vs1 (wipeD D vs) (l.drop (i + 1)) ds = .ok res, ?_, ?_⟩
        · rintro H3 ⟨acc, ds, a, b, c, d, f⟩
          exact ⟨_, by omega, rfl, hlt, acc, ds, a, b, c, d, f⟩
        · intro x H3 y
          obtain ⟨e3, rx⟩ := (g'.1 _ (List.getElem?_eq_getElem hlt)).2 x H3 y
          cases eg : xg l[i] (wipeD D vs) with
          | bad => rw [eg] at c2; cases c2
          | ex c fs => rw [eg] at c2; cases c2
          | ok D1 =>
            rw [eg] at c2
            simp only at c2
            refine hg B H0 (L :: O) _ _ H3 (sO.mono e3) x _ rx _ D1 eg fun σ3 s3 t3 w3 => ⟨by rw [w3, wipe_idem], ?_⟩
            have s3L : RS K cl B H0 O σ3 D1 (hid [L] H3) := t3 O _ (by rw [hid_cons]; exact Same.refl _) (s2.mono (hid_mono e3))
            refine ht B H0 (L :: O) σ3 D1 H3 s3 _ ?_
            cases et : xt D1 with
            | bad => rw [et] at c2; cases c2
            | ex c fs => rw [et] at c2; cases c2
            | ok b =>
              rw [et] at c2
              intro H4 e4
              have e34 := e3.trans e4
              cases b with
              | false =>
                simp only at c2
                exact ⟨acc, ds, s2.mono (hid_mono e34), f2.trans e34, e34 _ _ hL, ra.mono (hid_mono e34), c2⟩
              | true =>
                simp only at c2
                rw [if_pos rfl]
                refine hi1 B H0 (L :: O) σ3 D1 H4 (s3.mono e4) _ ?_
                cases ee : xi1 D1 with
                | bad => rw [ee] at c2; cases c2
                | ex c fs => rw [ee] at c2; cases c2
                | ok l1 =>
                  rw [ee] at c2
                  simp only at c2
                  intro J1 H5 e5 go1
                  have e345 := e34.trans e5
                  cases er : xComp xg1 xt1 xe (wipeD D1 vs1) l1 ds with
                  | bad => rw [er] at c2; cases c2
                  | ex c fs => rw [er] at c2; cases c2
                  | ok r2 =>
                    rw [er] at c2
                    simp only at c2
                    exact lc_in hg1 ht1 he nL (s3L.mono (hid_mono (e4.trans e5))) (f2.trans e345) (e345 _ _ hL) (ra.mono (hid_mono e345)) go1 er _ fun acc2 H6 m6 f6 h6 r6 =>
                      ⟨acc2, r2, s2.mono ((hid_mono e345).trans m6), f6, h6, r6, c2⟩
      · have hi' : i = l.length := by omega
        refine .inl ⟨g'.2 hi', ?_⟩
        rw [hi', List.drop_length] at c2
        simp only [xComp2, R.ok.injEq] at c2
        subst c2
        exact q L acc H2 (e1.trans f2) (e1.free nL) hL ra
/-! ### key in a dict with tuple keys -/
@[simp] def xDin (xk xd : XE) : XE := fun D => (xk D).bind fun k => (dKeyT k).bind fun ks => (xd D).bind fun d => (dDt d).bind fun l => .ok (.bl (getG l ks).isSome)
theorem sim_din {td tk : TE} {xd xk : XE} (hk : Sim K cl E tk xk) (hd : SimB K cl E td xd) : Sim K cl E (tDIn tk td) (xDin xk xd) := fun B H0 O σ D H s Q q => by
  unfold xDin at q
  refine hk B H0 O σ D H s _ ?_
  cases ek : xk D with
  | bad => rw [ek] at q; exact q.elim
  | ex c fs => rw [ek] at q; exact q
  | ok k =>
    rw [ek] at q
    simp only [Mx.R.bind] at q
    intro w H1 e1 rk
    cases eK : dKeyT k with
    | bad => rw [eK] at q; exact q.elim
    | ex c fs => exact (dKeyT_ex eK).elim
    | ok ks =>
      rw [eK] at q
      simp only [Mx.R.bind] at q
      obtain ⟨b, rfl, hb⟩ := dKeyT_rep rk eK
      refine hd B H0 O σ D H1 (s.mono e1) _ ?_
      cases e : xd D with
      | bad => rw [e] at q; exact q.elim
      | ex c fs => rw [e] at q; exact ExOk.mono e1 q
      | ok d =>
        rw [e] at q
        simp only [Mx.R.bind] at q
        cases edt : dDt d with
        | bad => rw [edt] at q; exact q.elim
        | ex c fs => exact (dDt_ex edt).elim
        | ok l =>
          rw [edt] at q
          simp only [Mx.R.bind] at q
          have := dDt_eq edt
          subst this
          intro v H2 e2 rd
          obtain ⟨a, kv, rfl, ha, hkeys, ra⟩ := rd
          have hb3 : H2 b = some (.tup (ks.map kV)) := e2 _ _ (hid_same _ _ _ _ hb)
          refine ⟨a, _, rfl, DGet.t ha hb3, ?_⟩
          have e3 : (valV kv ks).isSome = (getG l ks).isSome := by
            rw [getG_valV]
            rcases getG_rep (k := ks) hkeys (repL_at ra) with ⟨h1, h2⟩ | ⟨a', b', h1, h2, h3⟩
            · rw [h1, h2]; rfl
            · rw [h1, h2]; rfl
          rw [e3]
          exact q _ H2 (e1.trans e2) (.bl _)
/-! ### str of an int or of a text -/
def rStrB : List V → Hp → VK → Prop := fun xs H Q => rStrI xs H Q ∨ ∃ a, xs = [V.str a] ∧ Q (.str a) H
theorem call_strB {X : Cx} : CallR X (.type "str") rStrB := fun pins s σ H xs us Q I r h => h.elim (fun h => call_strA pins s σ H xs us Q I r h) fun h => SkE.call_str_str pins s σ H xs us Q I r h
@[simp] def dStr2 : List Dt → R Dt
  | [.int i] => dStr [.int i]
  | [.str a] => .ok (.str a)
  | _ => .bad
theorem cs_strB : CaS K cl rStrB dStr2 := fun O H xs ds E ho r Q q => by
  unfold dStr2 at q
  split at q
  · exact .inl (cs_str O H xs _ E ho r Q q)
  · obtain ⟨v, rfl, rv⟩ := r.one
    cases rv
    exact .inr ⟨_, rfl, q _ H (Same.refl H) (.str _)⟩
  · exact q.elim
end
end Mx
namespace Mx
open PySem PySem.Spec PyProof.Rows L2
section
variable {K : Fr} {cl : Cl} {E : L2.St → XK} {E0 : XK} {H H' H1 H0 : Hp} {O O' : List Addr} {σ : L2.St} {D : Ds} {B : List Addr}
/-! ### an exception is handled -/
def Sl.isXc : Sl → Bool
  | .xc _ _ => true
  | _ => false
def noXc (D : Ds) : Bool := D.all fun s => !s.isXc
abbrev hCl (cl : Cl) (x : Option (Addr × Value × Option Addr)) : Cl := ⟨cl.of, x⟩
theorem slot_any {x y : Option (Addr × Value × Option Addr)} {v : Option (Option V)} : ∀ {s : Sl}, s.isXc = false → SlotOk K (hCl cl x) H0 O H v s → SlotOk K (hCl cl y) H0 O H v s
  | .no, _, _ => True.intro
  | .sh _, _, h => h
  | .ol _, _, ⟨a, e, m, vs, h, r⟩ => ⟨a, e, m, vs, h, r⟩
  | .oi _ _ _, _, ⟨a, e, m, C, dx, fv, c, h, k, r⟩ => ⟨a, e, m, C, dx, fv, c, h, k, r⟩
  | .ok _, _, ⟨a, e, m, vs, h, k, r⟩ => ⟨a, e, m, vs, h, k, r⟩
  | .ot _, _, ⟨a, e, m, vs, h, k, r⟩ => ⟨a, e, m, vs, h, k, r⟩
  | .xc _ _, n, _ => by cases n
  | .br _, _, ⟨a, xs, e, m, h0, r⟩ => ⟨a, xs, e, m, h0, r⟩
  | .ow _, _, _ => True.intro
mutual
theorem Tr.any {x y : Option (Addr × Value × Option Addr)} {Hh : Hp} : ∀ {v : V} {t : Ow} {F : List Addr}, Tr K (hCl cl x) H Hh v t F → Tr K (hCl cl y) H Hh v t F
  | _, _, _, .sh r => .sh r
  | _, _, _, .ol h r => .ol h (TrL.any r)
  | _, _, _, .oi c h k r => .oi c h k (TrL.any r)
theorem TrL.any {x y : Option (Addr × Value × Option Addr)} {Hh : Hp} : ∀ {vs : List V} {ts : List Ow} {F : List Addr}, TrL K (hCl cl x) H Hh vs ts F → TrL K (hCl cl y) H Hh vs ts F
  | _, _, _, .nil => .nil
  | _, _, _, .cons h r => .cons (Tr.any h) (TrL.any r)
end
theorem Inn.any {x y : Option (Addr × Value × Option Addr)} (h : Inn K (hCl cl x) H0 O σ D H) : Inn K (hCl cl y) H0 O σ D H := by
  obtain ⟨Fs, h⟩ := h
  refine ⟨Fs, fun i t e => ?_⟩
  obtain ⟨⟨v, hv, tr⟩, r⟩ := h i t e
  exact ⟨⟨v, hv, tr.any⟩, r⟩
theorem noXc_at (h : noXc D = true) {i : Nat} {s : Sl} (e : D[i]? = some s) : s.isXc = false := by
  have := List.all_eq_true.mp h s (List.mem_of_getElem? e)
  simpa using this
theorem RS.any {x y : Option (Addr × Value × Option Addr)} (s : RS K (hCl cl x) B H0 O σ D H) (n : noXc D = true) : RS K (hCl cl y) B H0 O σ D H where
  same := s.same
  bas := s.bas
  own := s.own
  len := s.len
  slot := fun i t e => slot_any (noXc_at n e) (s.slot i t e)
  inj := s.inj
  inn := s.inn.any
theorem RS.catch {a C : Addr} {d : Option Addr} {i : Nat} {c : Str} {fs : List (Str × Dt)} (s : RS K cl B H0 O σ D H) (n : noXc D = true) (x : XcAt K (hCl cl (some (a, .ref C, d))) (hid O H) (some (some (.ref a))) c fs) :
    RS K (hCl cl (some (a, .ref C, d))) B H0 O (σ.set i (some (.ref a))) (D.set i (.xc c fs)) H where
  same := s.same
  bas := s.bas
  own := s.own
  len := by rw [List.length_set, List.length_set]; exact s.len
  slot := fun j t e => by
    rcases set_get e with ⟨rfl, rfl, hl⟩ | ⟨hj, e'⟩
    · rw [List.getElem?_set_self (by rw [s.len]; exact hl)]
      exact x
    · rw [List.getElem?_set_ne (Ne.symm hj)]
      exact slot_any (x := cl.xc) (noXc_at n e') (s.slot j t e')
  inj := fun j k t u b hjk e1 e2 o1 o2 h1 => by
    rcases set_get e1 with ⟨rfl, rfl, _⟩ | ⟨hj, e1'⟩
    · cases o1
    · rcases set_get e2 with ⟨rfl, rfl, _⟩ | ⟨hk, e2'⟩
      · cases o2
      · rw [List.getElem?_set_ne (Ne.symm hj)] at h1
        rw [List.getElem?_set_ne (Ne.symm hk)]
        exact s.inj j k t u b hjk e1' e2' o1 o2 h1
  inn := (s.inn.any (x := cl.xc)).put i (some (.ref a)) (.xc c fs) (fun t e => by cases e) (fun e => by cases e)
def Out.endX (i : Nat) : Out → Out
  | .nx D => if noXc (D.set i .no) = true then .nx (D.set i .no) else .bad
  | .bk D => if noXc (D.set i .no) = true then .bk (D.set i .no) else .bad
  | .ct D => if noXc (D.set i .no) = true then .ct (D.set i .no) else .bad
  | .rt d => .rt d
  | _ => .bad
@[simp] theorem endX_rt (i : Nat) (d : Dt) : Out.endX i (.rt d) = .rt d := rfl
@[simp] theorem endX_nx (i : Nat) (D : Ds) : Out.endX i (.nx D) = if noXc (D.set i .no) = true then .nx (D.set i .no) else .bad := rfl
/-- try: .. except C as e: .. -/
def Out.tryAs (i : Nat) (cs ns : List Str) (xh : XS) : Out → Out
  | .ex c fs D => if c ∈ cs then (if noXc D = true then Out.endX i (xh (D.set i (.xc c fs))) else .bad) else if c ∈ ns then .ex c fs D else .bad
  | o => o
@[simp] theorem tryAs_ex (i : Nat) (cs ns : List Str) (xh : XS) (c : Str) (fs : List (Str × Dt)) (D : Ds) :
    Out.tryAs i cs ns xh (.ex c fs D) = if c ∈ cs then (if noXc D = true then Out.endX i (xh (D.set i (.xc c fs))) else .bad) else if c ∈ ns then .ex c fs D else .bad := rfl
@[simp] theorem tryAs_rt (i : Nat) (cs ns : List Str) (xh : XS) (d : Dt) : Out.tryAs i cs ns xh (.rt d) = .rt d := rfl
@[simp] theorem tryAs_nx (i : Nat) (cs ns : List Str) (xh : XS) (D : Ds) : Out.tryAs i cs ns xh (.nx D) = .nx D := rfl
@[simp] def xsTryAs (i : Nat) (cs ns : List Str) (xb xh : XS) : XS := fun D => (xb D).tryAs i cs ns xh
/-- what the clause asks of the classes -/
def Catch (K : Fr) (cl : Cl) (c0 : Value) (b : Bool) : List Str → Prop
  | [] => True
  | c :: r => (∀ C, cl c = some C → PySem.W.exmOne K (.ref C) c0 = some b) ∧ Catch K cl c0 b r
theorem Catch.get {c0 : Value} {b : Bool} : ∀ {l : List Str}, Catch K cl c0 b l → ∀ {c : Str}, c ∈ l → ∀ {C : Addr}, cl c = some C → PySem.W.exmOne K (.ref C) c0 = some b
  | _ :: _, ⟨h, r⟩, c, m, C, e => (List.mem_cons.mp m).elim (fun q => by subst q; exact h C e) fun q => r.get q e
theorem catch_nil {c0 : Value} {b : Bool} : Catch K cl c0 b [] := True.intro
theorem catch_one {c0 : Value} {b : Bool} {c : Str} {C : Addr} {l : List Str} (hc : cl c = some C) (h : PySem.W.exmOne K (.ref C) c0 = some b) (r : Catch K cl c0 b l) : Catch K cl c0 b (c :: l) :=
  ⟨fun C' e => by rw [hc] at e; cases e; exact h, r⟩
/-- the reading of the whole statement -/
def tTryAs (K : Fr) (c0 : Value) (i : Nat) (tb : WX → TS) (ts : Addr → Value → Option Addr → TS) (Wout : WX) : TS := fun En σ H => tb (wAs K c0 i ts Wout En) En σ H
theorem ps_tryAsM {X : Cx} {x n : Str} {c : Value} {i : Nat} {body suite : List Stmt} {b0 : Stmt} {np pos pos' : Pos} {tb : WX → TS} {ts : Addr → Value → Option Addr → TS} {Wout : WX} (hs : X.stack = X.env :: X.outer) (hf : X.env.frame = some X.env.locals) (hN : X.N.Nodup)
    (hi : X.N[i]? = some n) (hln : X.env.kindOf n = some .local) (hc : Names X x c) (tk : L2.Takes X Wout)
    (hb : ∀ (W : WX) (pn : List (Addr × Obj)) (xe : Value → Shared → Prop), L2.Takes (X.tr pn xe) W → PassesOwn (model X.prog X.w) X.A X.env xe → PSs (X.tr pn xe) body (tb W))
    (hsu : ∀ (a : Addr) (oe : Obj) (cls : Value) (d : Option Addr) (pn : List (Addr × Obj)), Zc cls d oe → (∃ vs, oe.data = .fields vs) → PSs (X.suite a ((a, oe) :: pn)) (b0 :: suite) (ts a cls d)) :
    PS X (.Try body [.ExceptHandler (some (.Name x np)) (some n) (b0 :: suite) pos'] [] [] pos) (tTryAs X.K c i tb ts Wout) := ps_try_as hs hf hN hi hln hc tk hb hsu
theorem ss_tryAs {i : Nat} {cs ns : List Str} {c0 : Value} {tb : WX → TS} {ts : Addr → Value → Option Addr → TS} {xb xh : XS} {E1 : L2.St → XK} (hcs : Catch K cl c0 true cs) (hns : Catch K cl c0 false ns)
    (hb : ∀ W : WX, SimS K cl (WE W) (tb W) xb) (hs : ∀ (a C : Addr) (d : Option Addr), SimS K (hCl cl (some (a, .ref C, d))) E1 (ts a (.ref C) d) xh) :
    SimS K cl (fun _ => E0) (tTryAs K c0 i tb ts (fun cls d _ H => E0 cls d H)) (xsTryAs i cs ns xb xh) := fun B H0 O σ D H s En q => by
  unfold xsTryAs at q
  unfold tTryAs
  refine hb _ B H0 O σ D H s En ?_
  cases e : xb D with
  | bad => rw [e] at q; exact q.elim
  | nx D => rw [e] at q; exact q
  | bk D => rw [e] at q; exact q
  | ct D => rw [e] at q; exact q
  | rt d => rw [e] at q; exact q
  | ex c fs D1 =>
    rw [e] at q
    rw [tryAs_ex] at q
    intro O2 σ2 H2 s2 f2
    have key : ∀ (b : Bool), (∀ C, cl c = some C → PySem.W.exmOne K (.ref C) c0 = some b) → (∀ (H3 : Hp) (C : Addr) (d : Option Addr), b = true → Same H2 H3 → cl c = some C → ((d = none ∧ fs = []) ∨ ∃ dd fv, d = some dd ∧ hid O2 H3 dd = some (.xd fv) ∧ fv.map (·.1) = fs.map (·.1) ∧ RepL K cl (hid O2 H3) (fv.map (·.2)) (fs.map (·.2))) → ∀ a,
        ts a (.ref C) d { nx := fun σ' H' => En.nx (σ'.set i none) H', rt := En.rt, bk := fun σ' H' => En.bk (σ'.set i none) H', ct := fun σ' H' => En.ct (σ'.set i none) H' } (σ2.set i (some (.ref a))) H3) →
        (b = false → ExOk K cl E0 O2 c fs H2) → ExOk K cl (WE (wAs K c0 i ts (fun cls d _ H => E0 cls d H) En) σ2) O2 c fs H2 := fun b hb1 hyes hno C hC => by
      refine ⟨fun z H3 e3 => ⟨b, hb1 C hC, fun hb a na => hyes H3 C none hb e3 hC (.inl ⟨rfl, z⟩) a, fun hb => ((hno hb) C hC).1 z H3 e3⟩, fun H3 dd fv e3 hd hk r => ⟨b, hb1 C hC, fun hb a na => hyes H3 C (some dd) hb e3 hC (.inr ⟨dd, fv, rfl, ?_, hk, r⟩) a, fun hb => ((hno hb) C hC).2 H3 dd fv e3 hd hk r⟩⟩
      have nd : dd ∉ O2 := fun m => by
        have z := ((s2.mono e3).own dd m).2
        rw [hd] at z
        cases z
      rw [hid_nin nd]
      exact hd
    split at q
    · rename_i hm
      split at q
      · rename_i hn
        refine key true (fun C hC => hcs.get hm hC) (fun H3 C d _ e3 hC hx a => ?_) (fun z => by cases z)
        have s3 : RS K (hCl cl (some (a, .ref C, d))) B H0 O2 (σ2.set i (some (.ref a))) (D1.set i (.xc c fs)) H3 := (s2.mono e3).catch hn ⟨a, C, d, rfl, rfl, hC, hx⟩
        refine hs a C d B H0 O2 _ _ H3 s3 _ ?_
        have f3 : Same (hid O H) (hid O2 H3) := f2.trans (hid_mono e3)
        cases eh : xh (D1.set i (.xc c fs)) with
        | bad => rw [eh] at q; exact q.elim
        | ex c' fs' D2 => rw [eh] at q; exact q.elim
        | rt d2 => rw [eh] at q; exact q
        | nx D2 =>
          rw [eh] at q
          intro O4 σ4 H4 s4 f4
          simp only [Out.endX] at q
          split at q
          · rename_i hn2
            exact q O4 _ H4 ((s4.setNo i none).any (x := some (a, .ref C, d)) (y := cl.xc) hn2) (f3.trans f4)
          · exact q.elim
        | bk D2 =>
          rw [eh] at q
          intro O4 σ4 H4 s4 f4
          simp only [Out.endX] at q
          split at q
          · rename_i hn2
            exact q O4 _ H4 ((s4.setNo i none).any (x := some (a, .ref C, d)) (y := cl.xc) hn2) (f3.trans f4)
          · exact q.elim
        | ct D2 =>
          rw [eh] at q
          intro O4 σ4 H4 s4 f4
          simp only [Out.endX] at q
          split at q
          · rename_i hn2
            exact q O4 _ H4 ((s4.setNo i none).any (x := some (a, .ref C, d)) (y := cl.xc) hn2) (f3.trans f4)
          · exact q.elim
      · exact q.elim
    · split at q
      · rename_i hm
        exact key false (fun C hC => hns.get hm hC) (fun _ _ _ z => by cases z) (fun _ => q O2 σ2 H2 s2 f2)
      · exact q.elim
/-! ### isinstance(e, C), e handled -/
/-- what the class of an exception must say -/
structure ExcE (K : PySem.W.Frag) (D : Addr) : Prop where
  c : (PySem.W.clsIn K D).isSome = true
  g : PySem.W.findIn K (.ref D) "__getattribute__" = some (some (.builtin "BaseException.__getattribute__"))
  k : PySem.W.findIn K (.ref D) "__getattr__" = some none
  s : PySem.W.subIn K (.ref D) (.type "BaseException") = some true
  a : PySem.W.findIn K (.ref D) "__class__" = some (some (.builtin "object.__class__"))
  n : PySem.W.specialIn K (.builtin "object.__class__") "__get__" = some (some (.builtin "getset_descriptor.__get__"))
  t : PySem.W.takesIn K (.builtin "object.__class__") = some true
  m : PySem.W.mroIn K D (.type "object") = some true
def rIsX (K : PySem.W.Frag) (a : Addr) (cls : Value) (d : Option Addr) : List V → Hp → VK → Prop := fun xs H Q => ∃ (D : Addr) (c : V) (cv : Value) (b : Bool), xs = [V.ref a, c] ∧ cls = .ref D ∧ ExcE K D ∧ ClsV c cv ∧ PySem.W.kitOne K (.ref D) cv = some b ∧
  (d = none ∨ ∃ dd fv, d = some dd ∧ H dd = some (.xd fv)) ∧ Q (.bl b) H
theorem call_isX {X : Cx} {a : Addr} {cls : Value} {d : Option Addr} {oe : Obj} {pn : List (Addr × Obj)} (hz : Zc cls d oe) (hf : ∃ vs, oe.data = .fields vs) : CallR (X.suite a ((a, oe) :: pn)) (.builtin "isinstance") (rIsX X.K a cls d) := by
  intro pins s σ H xs us Q I r h
  obtain ⟨D, c, cv, b, rfl, rfl, T, hc, e, hd, q⟩ := h
  obtain ⟨u1, u2, rfl, r1, r2⟩ := vals2 r
  obtain rfl : u1 = Value.ref a := r1
  have e2 := hc.eq r2
  subst e2
  obtain ⟨hget, _⟩ := I.pin (a, oe) (List.mem_append.mpr (.inl List.mem_cons_self))
  obtain ⟨vs, hv⟩ := hf
  have J : ∃ od, PySem.W.InstAt s.heap a oe D od := by
    rcases hd with rfl | ⟨dd, fv, rfl, hx⟩
    · refine ⟨none, hget, hz.1, by unfold PySem.W.notCls; rw [hv], ?_⟩
      rw [hz.2]; trivial
    · obtain ⟨mA, hns, hr⟩ := (show ObjOk X.prog X.w H s.heap dd (.xd fv) from I.hok dd _ hx)
      obtain ⟨od, ho, hl⟩ := lookIn_ns hns
      refine ⟨some od, hget, hz.1, by unfold PySem.W.notCls; rw [hv], ?_⟩
      rw [hz.2]; exact ho
  obtain ⟨od, J⟩ := J
  exact PySem.W.kia_one (PySem.W.kitx_exc T.c T.g T.k T.s T.a T.n T.t T.m) I.kIn J e (fun z => nomatch z) fun tk => ⟨.bl b, H, I.kept (t' := tk) fun _ _ z => z, rfl, q⟩
/-- the classes that may come, and what isinstance says of them -/
def IsTab (K : Fr) (cl : Cl) (cv : Value) : List (Str × Bool) → Prop
  | [] => True
  | p :: r => (∀ C, cl p.1 = some C → ExcE K C ∧ PySem.W.kitOne K (.ref C) cv = some p.2) ∧ IsTab K cl cv r
theorem IsTab.get {cv : Value} : ∀ {l : List (Str × Bool)} {c : Str} {b : Bool}, IsTab K cl cv l → l.lookup c = some b → ∀ {C : Addr}, cl c = some C → ExcE K C ∧ PySem.W.kitOne K (.ref C) cv = some b
  | p :: r, c, b, ⟨h, t⟩, e, C, hC => by
    rw [List.lookup_cons] at e
    cases q : c == p.1 with
    | true =>
      rw [q] at e
      have := eq_of_beq q
      subst this
      simp only [Option.some.injEq] at e
      subst e
      exact h C hC
    | false =>
      rw [q] at e
      exact t.get e hC
theorem tab_nil {cv : Value} : IsTab K cl cv [] := True.intro
theorem tab_one {cv : Value} {c : Str} {b : Bool} {C : Addr} {l : List (Str × Bool)} (hc : cl c = some C) (x : ExcE K C) (h : PySem.W.kitOne K (.ref C) cv = some b) (r : IsTab K cl cv l) : IsTab K cl cv ((c, b) :: l) :=
  ⟨fun C' e => by rw [hc] at e; cases e; exact ⟨x, h⟩, r⟩
def Sl.xc? : Option Sl → R (Str × List (Str × Dt))
  | some (.xc c fs) => .ok (c, fs)
  | _ => .bad
@[simp] theorem xc?_xc (c : Str) (fs : List (Str × Dt)) : Sl.xc? (some (.xc c fs)) = .ok (c, fs) := rfl
@[simp] def xIsX (i : Nat) (tab : List (Str × Bool)) : XE := fun D => (Sl.xc? D[i]?).bind fun p => (opt (tab.lookup p.1)).bind fun b => .ok (.bl b)
theorem sim_isX {i : Nat} {tab : List (Str × Bool)} {a C : Addr} {d : Option Addr} {c : V} {cv : Value} (hc : ClsV c cv) (ht : IsTab K cl cv tab) :
    Sim K (hCl cl (some (a, .ref C, d))) E (tCB (rIsX K a (.ref C) d) (tCons (tVar i) (tCons (tC c) tNil))) (xIsX i tab) := fun B H0 O σ D H s Q q => by
  unfold xIsX at q
  cases e : D[i]? with
  | none => rw [e] at q; exact q.elim
  | some t =>
    rw [e] at q
    cases t with
    | xc n fs =>
      simp only [xc?_xc, Mx.R.bind] at q
      cases el : tab.lookup n with
      | none => rw [el] at q; exact q.elim
      | some b =>
        rw [el] at q
        obtain ⟨a', C', d', e1, e2, e3, h⟩ := s.slot i _ e
        simp only [Option.some.injEq, Prod.mk.injEq, Value.ref.injEq] at e1
        obtain ⟨rfl, rfl, rfl⟩ := e1
        obtain ⟨x1, x2⟩ := ht.get el e3
        refine ⟨_, e2, C, c, cv, b, rfl, rfl, x1, hc, x2, ?_, q _ H (Same.refl H) (.bl b)⟩
        exact h.imp (fun z => z.1) fun ⟨dd, fv, h1, h2, _⟩ => ⟨dd, fv, h1, hid_same _ _ _ _ h2⟩
    | _ => exact q.elim
/-! ### e.f, e handled -/
def XfTab (K : Fr) (cl : Cl) (f : Str) : List Str → Prop
  | [] => True
  | c :: r => (∀ C, cl c = some C → XfC K C ∧ PySem.W.findIn K (.ref C) f = some none) ∧ XfTab K cl f r
end
end Mx
namespace L2
open PySem PySem.Spec PyProof.Rows PySem.W
section
variable {X : Cx} {CX : CXT} {k n : Nat} {C f : Addr} {fd : FuncData} {ps ks : List Str} {sp : Sp} {E : L2.St → XK}
/-- an operator of an object and an int, by the object's class's own def; what it lets out may speak of the slots -/
structure OwnT (K : Frag) (C f : Addr) (op : Operator) (T : String) : Prop where
  first : selfFirst K C = true
  at_ : findIn K (.ref C) (PySem.dunder op.info.2) = some (some (.ref f))
  fn : isFn K (.ref f) = true
  back : findIn K (.ref C) (dunderR op.info.2) = some none
  t1 : ∃ fo, findIn K (.type T) (PySem.dunder op.info.2) = some fo
  t2 : ∃ ro, findIn K (.type T) (dunderR op.info.2) = some ro
  sub : subIn K (.type T) (.ref C) = some false
def tOwnT (C : Addr) (sp : Sp) (E : L2.St → XK) (ta tb : TE) : TE := fun σ H Q => ta σ H fun x H1 => tb σ H1 fun y H2 => ∃ a dx fs i, x = .ref a ∧ y = .int i ∧ H2 a = some (.ins C dx fs) ∧ sp [.ref a, .int i] H2 Q (E σ)
theorem pe_ownT {a b : Expr} {op : Operator} {pos : Pos} {ta tb : TE} (T : OwnT X.K C f op "int") (F : FnOk X.prog X.w X.K X.mg X.base CX k f fd ps sp) (hr : Room k X.A) (hb : Binds X.K fd ps []) (hx : ∀ σ, PassesAt CX X σ (E σ)) (ha : PE X a ta) (hbb : PE X b tb) :
    PE X (.BinOp a op b pos) (tOwnT C sp E ta tb) := by
  refine ⟨fun pins s σ H Q I h => wpAny_BinOp (binT ha hbb I h fun v u s2 x y H2 I2 rx ry q => ?_)⟩
  obtain ⟨a, dx, fs, i, rfl, rfl, ea, q⟩ := q
  obtain rfl : v = Value.ref a := rx
  obtain ⟨mA, ob, _⟩ := ins_get I2.hok ea
  obtain ⟨od, J, _⟩ := ob.look
  have run := run_fnS (E := E) F hr hb (hx σ) I2 (us := [.ref a, u]) (vs := [.ref a, .int i]) (.cons rfl (.cons ry .nil)) q
  obtain ⟨t, rfl⟩ := ry
  obtain ⟨m, fr⟩ := I2.fr
  obtain ⟨fo, t1⟩ := T.t1; obtain ⟨ro, t2⟩ := T.t2
  exact ksp_binT fr I2.ok.mod.kin J rfl T.first T.at_ T.fn T.back (.inl rfl) t1 t2 T.sub (wpAny_mono run (fun z s' ⟨v, H', I', rv, q'⟩ => not_ni rv ⟨v, H', I', rv, q'⟩) fun _ _ z => z)
/-- C(..), what it lets out may speak of the slots -/
def tMakeKS (C : Addr) (n m : Nat) (sp : Sp) (gV : List V → List V → List V) (E : L2.St → XK) (t tk : TA) : TE := fun σ H Q => tMakeK C n m sp gV (E σ) t tk σ H Q
theorem pe_makeKS {x : Str} {p pos : Pos} {e : Expr} {es : List Expr} {kws : List Keyword} {t tk : TA} {g : List Value → List Value → List Value} {gV : List V → List V → List V} (M : Mk X.K C f) (F : FnOk X.prog X.w X.K X.mg X.base CX k f fd ps sp) (hr : Room (k + 1) X.A)
    (hg : Gl X x) (hm : X.mg x = some (.ref C)) (hb : KBn X.K fd ps (n + 1) ks g gV) (hx : ∀ σ, PassesAt CX X σ (E σ)) (ha : PA X (e :: es) t) (hkw : PK X kws tk)
    (hall : (backToKw pos (keywordEach kws X.env)).all (·.1.isSome) = true := by rfl) (hks : (backToKw pos (keywordEach kws X.env)).filterMap (·.1) = ks := by rfl) (hdb : (x == ("__debug__" : Str)) = false := by decide)
    (he : starEach (e :: es) X.env = (false, eval e X.env) :: starEach es X.env := by rfl) (hpl : ((backTo pos (starEach (e :: es) X.env)).any (·.1) || (backToKw pos (keywordEach kws X.env)).any (·.1.isNone)) = false := by rfl) :
    PE X (.Call (.Name x p) (e :: es) kws pos) (tMakeKS C n ks.length sp gV E t tk) := by
  refine ⟨fun pins s σ H Q I h => wpAny_Call_Name_kw (ld_glob I hg hm (PySem.W.callWith_KW (h₀ := X.base) I.ok.mod.kin M.kp hall (thn (ha.run pos pins s σ H _ I h) fun us s1 ⟨vs, H1, I1, r, q⟩ =>
    thn (hkw.run pos pins s1 σ H1 _ I1 q) fun ws s2 ⟨zs, H2, I2, rz, l1, l2, q2⟩ => ⟨I2.kIn, ?_⟩) hpl he) hdb)⟩
  rw [hks]
  have hq := q2 (s2.heap.objs.size + 1) s2.heap.objs.size (I2.hok.fresh (Nat.le_succ _)) (I2.hok.fresh (Nat.le_refl _)) (Nat.ne_of_lt (Nat.lt_succ_self _))
  have J := Inv.made (C := C) I2
  have rr := hb.rel (Paired.cons (show RelV (.ref (s2.heap.objs.size + 1)) (.ref (s2.heap.objs.size + 1)) from rfl) r) rz
  have ln : (Value.ref (s2.heap.objs.size + 1) :: us).length = n + 1 := by rw [List.length_cons, ← r.length, l1]
  refine wpAny_call (make_map (f := f) I2.kIn M.makes M.init (beq_iff_eq.mp M.fn) (codeAny_mono (F.run _ X.stack _ _ ⟨_ :: us, ks.zip ws⟩ _ _ _ (E σ) (hr.make C us (ks.zip ws)) (J.env0.make C us (ks.zip ws)) (hb.to _ _ ws J.kIn ln (rz.length.symm.trans l2)) rr hq) fun o s' z => ?_))
  match o, z with
  | .error e, z => exact hx σ pins _ _ e s' J z
  | .ok (.ret u), z =>
    obtain ⟨v, H', I3, rv, ev, q3⟩ := J.after z
    subst ev
    exact ⟨rv, ⟨V.ref _, H', I3, rfl, q3⟩⟩
  | .ok .next, z => exact z.elim
  | .ok .brk, z => exact z.elim
  | .ok .cont, z => exact z.elim
end
end L2
namespace Mx
open PySem PySem.Spec PyProof.Rows L2
section
variable {K : Fr} {cl : Cl} {E : L2.St → XK} {H H' H1 H0 : Hp} {O O' : List Addr} {σ : L2.St} {D : Ds} {B : List Addr}
def dOwnT (c : Str) (f : List Dt → R Dt) (o p : Dt) : R Dt := match o, p with
  | .ins c1 fs, .int i => if c1 = c then f [.ins c1 fs, .int i] else .bad
  | _, _ => .bad
theorem sim_ownT {c : Str} {C : Addr} {f : List Dt → R Dt} {ta tb : TE} {xa xb : XE} (hc : cl c = some C) (ha : Sim K cl E ta xa) (hb : Sim K cl E tb xb) :
    Sim K cl E (tOwnT C (PureSp K cl f) E ta tb) (x2 (dOwnT c f) xa xb) := fun B H0 O σ D H s Q q => by
  unfold x2 at q
  refine ha B H0 O σ D H s _ ?_
  cases ea : xa D with
  | bad => rw [ea] at q; exact q.elim
  | ex c' fs => rw [ea] at q; exact q
  | ok d =>
    rw [ea] at q
    simp only [R.bind] at q
    intro x H1 e1 rx
    refine hb B H0 O σ D H1 (s.mono e1) _ ?_
    cases eb : xb D with
    | bad => rw [eb] at q; exact q.elim
    | ex c' fs => rw [eb] at q; exact ExOk.mono e1 q
    | ok d2 =>
      rw [eb] at q
      simp only [R.bind] at q
      intro y H2 e2 ry
      unfold dOwnT at q
      split at q
      · split at q
        · rename_i hcc
          subst hcc
          have rx2 := rx.mono (hid_mono (O := O) e2)
          have rx3 := rx2
          cases ry with
          | int i =>
            cases rx2 with
            | ins k1 h1 k2 rr =>
              rw [hc] at k1
              cases k1
              exact ⟨_, _, _, _, rfl, rfl, hid_same O H2 _ _ h1, O, _, ((s.mono e1).mono e2).trk, .cons rx3 (.cons (.int _) .nil), post_E (e1.trans e2) q⟩
        · exact q.elim
      · exact q.elim
theorem sim_makeS {c : Str} {C : Addr} {n m : Nat} {f : List Dt → R (List (Str × Dt))} {gV : List V → List V → List V} {gD : List Dt → List Dt → List Dt} {ta tk : TA} {xa xk : XA} (hc : cl c = some C) (hg : ArgsOk n m gV gD)
    (ha : SimA K cl E ta xa) (hk : SimA K cl E tk xk) : Sim K cl E (tMakeKS C n m (InitSp K cl c f) gV E ta tk) (xMake c n m f gD xa xk) := fun B H0 O σ D H s Q q => by
  unfold xMake at q
  refine ha B H0 O σ D H s _ ?_
  cases ea : xa D with
  | bad => rw [ea] at q; exact q.elim
  | ex c fs => rw [ea] at q; exact q
  | ok ds =>
    rw [ea] at q
    simp only [Mx.R.bind] at q
    intro vs H1 e1 r1
    refine hk B H0 O σ D H1 (s.mono e1) _ ?_
    cases ek : xk D with
    | bad => rw [ek] at q; exact q.elim
    | ex c fs => rw [ek] at q; exact ExOk.mono e1 q
    | ok es =>
      rw [ek] at q
      simp only [Mx.R.bind] at q
      intro zs H2 e2 r2
      by_cases hl : ds.length = n ∧ es.length = m
      · rw [if_pos hl] at q
        have e12 := e1.trans e2
        have s2 := s.mono e12
        refine ⟨by rw [r1.len]; exact hl.1, by rw [r2.len]; exact hl.2, fun x dx nx nd ne => ?_⟩
        obtain ⟨rest, eg, rr⟩ := hg K cl (hid O H2) x vs zs ds es (by rw [r1.len]; exact hl.1) (by rw [r2.len]; exact hl.2) (r1.mono (hid_mono e2)) r2
        rw [eg]
        refine ⟨O, gD ds es, H2, x, dx, C, rest, hc, rfl, rfl, nx, nd, ne, s2.trk, rr, ?_⟩
        cases ef : f (gD ds es) with
        | bad => rw [ef] at q; exact q.elim
        | ex c fs => rw [ef] at q; exact ExOk.mono e12 q
        | ok fs =>
          rw [ef] at q
          intro H' dx' fv e3 hx hkeys rf
          refine ⟨rfl, q _ H' (e12.trans e3) (.ins (dx := dx') hc (by rw [hid_nin (trk_nin s2.trk nx)]; exact hx) hkeys (rf.mono (hid_sub fun a m => List.mem_cons_of_mem _ m)))⟩
      · rw [if_neg hl] at q
        exact q.elim
/-! ### isinstance(x, C), C an own class -/
structure InsE (K : Fr) (C : Addr) : Prop where
  cl : Cls K C
  ha : PySem.W.findIn K (.ref C) "__class__" = some (some (.builtin "object.__class__"))
  hn : PySem.W.specialIn K (.builtin "object.__class__") "__get__" = some (some (.builtin "getset_descriptor.__get__"))
  ht : PySem.W.takesIn K (.builtin "object.__class__") = some true
  hm : PySem.W.mroIn K C (.type "object") = some true
  no : PySem.W.kitOne K (.type "NoneType") (.ref C) = some false
  int : PySem.W.kitOne K (.type "int") (.ref C) = some false
  str : PySem.W.kitOne K (.type "str") (.ref C) = some false
  tup : PySem.W.kitOne K (.type "tuple") (.ref C) = some false
  lst : PySem.W.kitOne K (.type "list") (.ref C) = some false
def dIsO (c : Str) : Dt → R Dt
  | .ins c' _ => if c' = c then .ok (.bl true) else .bad
  | .non => .ok (.bl false)
  | .int _ => .ok (.bl false)
  | .str _ => .ok (.bl false)
  | .tup _ => .ok (.bl false)
  | .lst _ => .ok (.bl false)
  | _ => .bad
@[simp] theorem dIsO_non (c : Str) : dIsO c .non = .ok (.bl false) := rfl
@[simp] theorem dIsO_int (c : Str) (i : Int) : dIsO c (.int i) = .ok (.bl false) := rfl
@[simp] theorem dIsO_str (c : Str) (i : Str) : dIsO c (.str i) = .ok (.bl false) := rfl
@[simp] theorem dIsO_tup (c : Str) (i : List Dt) : dIsO c (.tup i) = .ok (.bl false) := rfl
@[simp] theorem dIsO_lst (c : Str) (i : List Dt) : dIsO c (.lst i) = .ok (.bl false) := rfl
@[simp] theorem dIsO_ins (c c' : Str) (fs : List (Str × Dt)) : dIsO c (.ins c' fs) = if c' = c then .ok (.bl true) else .bad := rfl
theorem sim_isO {c : Str} {C : Addr} {ta : TE} {xa : XE} (hc : cl c = some C) (T : InsE K C) (ha : SimB K cl E ta xa) : Sim K cl E (tCB (rIsi K) (tCons ta (tCons (tC (.ref C)) tNil))) (x1 (dIsO c) xa) := fun B H0 O σ D H s Q q => by
  unfold x1 at q
  refine ha B H0 O σ D H s _ ?_
  cases ea : xa D with
  | bad => rw [ea] at q; exact q.elim
  | ex c' fs => rw [ea] at q; exact q
  | ok d =>
    rw [ea] at q
    simp only [R.bind] at q
    intro x H1 e1 rx
    have go : ∀ (t : Value) (b : Bool), TyX K H1 x t → PySem.W.kitOne K t (.ref C) = some b → PostE K cl (E σ) O H Q (.ok (.bl b)) → rIsi K [x, .ref C] H1 Q := fun t b ty e q =>
      ⟨x, .ref C, t, .ref C, b, rfl, .own C, ty, e, q _ H1 e1 (.bl b)⟩
    cases d with
    | non => cases rx; exact go _ _ (.base .non) T.no q
    | int i => cases rx; exact go _ _ (.base (.int _)) T.int q
    | str i => cases rx; exact go _ _ (.base (.str _)) T.str q
    | tup l => obtain ⟨a, vs, rfl, h, _⟩ := rx; exact go _ _ (.base (.tup h)) T.tup q
    | lst l => obtain ⟨a, vs, rfl, h, _⟩ := rx; exact go _ _ (.base (.lst h)) T.lst q
    | ins c' fs =>
      rw [dIsO_ins] at q
      split at q
      · rename_i e
        subst e
        obtain ⟨a, C', dx, fv, rfl, c1, h1, hk, rr⟩ := rx
        rw [hc] at c1
        cases c1
        exact go (.ref C) true (.base (.ins h1 T.cl T.ha T.hn T.ht T.hm)) (by unfold PySem.W.kitOne; rw [if_pos (beq_self_eq_true _)]) q
      · exact q.elim
    | _ => exact q.elim
/-! ### e.f, e handled -/
@[simp] def xXf (i : Nat) (n f : Str) : XE := fun D => (Sl.xc? D[i]?).bind fun p => if p.1 = n then opt (p.2.lookup f) else .bad
theorem sim_xf {i : Nat} {n f : Str} {a C C' : Addr} {d : Option Addr} (hc : cl n = some C) : Sim K (hCl cl (some (a, .ref C', d))) E (tXf a (.ref C') d C f (tVar i)) (xXf i n f) := fun B H0 O σ D H s Q q => by
  unfold xXf at q
  cases e : D[i]? with
  | none => rw [e] at q; exact q.elim
  | some t =>
    rw [e] at q
    cases t with
    | xc n' fs =>
      simp only [xc?_xc, Mx.R.bind] at q
      split at q
      · rename_i en
        subst en
        obtain ⟨a', C2, d', e1, e2, e3, h⟩ := s.slot i _ e
        simp only [Option.some.injEq, Prod.mk.injEq, Value.ref.injEq] at e1
        obtain ⟨rfl, rfl, rfl⟩ := e1
        have e4 : cl n' = some C' := e3
        rw [hc] at e4
        cases e4
        rcases h with ⟨h1, h2⟩ | ⟨dd, fv, h1, h2, hk, rr⟩
        · subst h2
          exact q.elim
        · cases el : fs.lookup f with
          | none => rw [el] at q; exact q.elim
          | some dv =>
            rw [el] at q
            obtain ⟨v, lv, rv⟩ := lookup_rep hk rr el
            exact ⟨_, e2, rfl, rfl, dd, fv, v, h1, hid_same _ _ _ _ h2, lv, q v H (Same.refl H) rv⟩
      · exact q.elim
    | _ => exact q.elim
end
end Mx
namespace Mx
open PySem PySem.Spec PyProof.Rows L2
section
variable {K : Fr} {cl : Cl} {E : L2.St → XK} {H H' H1 H0 : Hp} {O O' : List Addr} {σ : L2.St} {D : Ds} {B : List Addr}
/-! ### isinstance(e, (C, ..)), e handled -/
def rIsXT (K : PySem.W.Frag) (a : Addr) (cls : Value) (d : Option Addr) : List V → Hp → VK → Prop := fun xs H Q => ∃ (D tp : Addr) (cs : List V) (us : List Value) (b : Bool), xs = [V.ref a, .ref tp] ∧ H tp = some (.tup cs) ∧ cls = .ref D ∧ ExcE K D ∧ Paired ClsV cs us ∧
  PySem.W.kitAny K (.ref D) us = some b ∧ (d = none ∨ ∃ dd fv, d = some dd ∧ H dd = some (.xd fv)) ∧ Q (.bl b) H
theorem call_isXT {X : Cx} {a : Addr} {cls : Value} {d : Option Addr} {oe : Obj} {pn : List (Addr × Obj)} (hz : Zc cls d oe) (hf : ∃ vs, oe.data = .fields vs) : CallR (X.suite a ((a, oe) :: pn)) (.builtin "isinstance") (rIsXT X.K a cls d) := by
  intro pins s σ H xs us Q I r h
  obtain ⟨D, tp, cs, ws, b, rfl, hT, rfl, T, hc, e, hd, q⟩ := h
  obtain ⟨u1, u2, rfl, r1, r2⟩ := vals2 r
  obtain rfl : u1 = Value.ref a := r1
  obtain rfl : u2 = Value.ref tp := r2
  obtain ⟨hget, _⟩ := I.pin (a, oe) (List.mem_append.mpr (.inl List.mem_cons_self))
  obtain ⟨vs, hv⟩ := hf
  have J : ∃ od, PySem.W.InstAt s.heap a oe D od := by
    rcases hd with rfl | ⟨dd, fv, rfl, hx⟩
    · refine ⟨none, hget, hz.1, by unfold PySem.W.notCls; rw [hv], ?_⟩
      rw [hz.2]; trivial
    · obtain ⟨mA, hns, hr⟩ := (show ObjOk X.prog X.w H s.heap dd (.xd fv) from I.hok dd _ hx)
      obtain ⟨od, ho, hl⟩ := lookIn_ns hns
      refine ⟨some od, hget, hz.1, by unfold PySem.W.notCls; rw [hv], ?_⟩
      rw [hz.2]; exact ho
  obtain ⟨od, J⟩ := J
  obtain ⟨_, its, rv, o, h1, h2, n, h3⟩ := (show ObjOk X.prog X.w H s.heap tp (.tup cs) from I.hok tp _ hT)
  have e3 := ClsV.all hc rv
  subst e3
  obtain ⟨oc, od2, dt, sl⟩ := o
  simp only at h2 h3
  subst h2 h3
  exact PySem.W.kia_tup (PySem.W.kitx_exc T.c T.g T.k T.s T.a T.n T.t T.m) I.kIn J h1 e (fun z => nomatch z) fun tk => ⟨.bl b, H, I.kept (t' := tk) fun _ _ z => z, rfl, q⟩
def IsTabT (K : Fr) (cl : Cl) (us : List Value) : List (Str × Bool) → Prop
  | [] => True
  | p :: r => (∀ C, cl p.1 = some C → ExcE K C ∧ PySem.W.kitAny K (.ref C) us = some p.2) ∧ IsTabT K cl us r
theorem IsTabT.get {us : List Value} : ∀ {l : List (Str × Bool)} {c : Str} {b : Bool}, IsTabT K cl us l → l.lookup c = some b → ∀ {C : Addr}, cl c = some C → ExcE K C ∧ PySem.W.kitAny K (.ref C) us = some b
  | p :: r, c, b, ⟨h, t⟩, e, C, hC => by
    rw [List.lookup_cons] at e
    cases q : c == p.1 with
    | true =>
      rw [q] at e
      have := eq_of_beq q
      subst this
      simp only [Option.some.injEq] at e
      subst e
      exact h C hC
    | false =>
      rw [q] at e
      exact t.get e hC
theorem tabT_nil {us : List Value} : IsTabT K cl us [] := True.intro
theorem tabT_one {us : List Value} {c : Str} {b : Bool} {C : Addr} {l : List (Str × Bool)} (hc : cl c = some C) (x : ExcE K C) (h : PySem.W.kitAny K (.ref C) us = some b) (r : IsTabT K cl us l) : IsTabT K cl us ((c, b) :: l) :=
  ⟨fun C' e => by rw [hc] at e; cases e; exact ⟨x, h⟩, r⟩
theorem sim_isXT {i : Nat} {tab : List (Str × Bool)} {a C : Addr} {d : Option Addr} {cs : List V} {us : List Value} {ta : TA} (hta : ∀ σ H Q, ta σ H Q = Q cs H) (hl : cs.length ≤ 1000) (hc : Paired ClsV cs us) (ht : IsTabT K cl us tab) :
    Sim K (hCl cl (some (a, .ref C, d))) E (tCB (rIsXT K a (.ref C) d) (tCons (tVar i) (tCons (tTup ta) tNil))) (xIsX i tab) := fun B H0 O σ D H s Q q => by
  unfold xIsX at q
  cases e : D[i]? with
  | none => rw [e] at q; exact q.elim
  | some t =>
    rw [e] at q
    cases t with
    | xc n fs =>
      simp only [xc?_xc, Mx.R.bind] at q
      cases el : tab.lookup n with
      | none => rw [el] at q; exact q.elim
      | some b =>
        rw [el] at q
        obtain ⟨a', C', d', e1, e2, e3, h⟩ := s.slot i _ e
        simp only [Option.some.injEq, Prod.mk.injEq, Value.ref.injEq] at e1
        obtain ⟨rfl, rfl, rfl⟩ := e1
        obtain ⟨x1, x2⟩ := ht.get el e3
        refine ⟨_, e2, ?_⟩
        show ta σ H _
        rw [hta]
        refine ⟨by rw [sizeLine_eq]; omega, fun p np => ?_⟩
        refine ⟨C, p, cs, us, b, rfl, upd_same, rfl, x1, hc, x2, ?_, q _ _ (same_upd np) (.bl b)⟩
        exact h.imp (fun z => z.1) fun ⟨dd, fv, h1, h2, _⟩ => ⟨dd, fv, h1, (same_upd np) _ _ (hid_same _ _ _ _ h2)⟩
    | _ => exact q.elim
/-! ### a statement that is never reached -/
theorem ps_never {X : Cx} {st : Stmt} : PS X st (fun _ _ _ => False) := ⟨fun _ _ _ _ _ _ h => h.elim⟩
end
end Mx
namespace GX
open PySem PySem.SeqAt PySem.Spec
open AutoSeq1 (wpAny_loadPart')
open MeetsSeq MeetsSeq2 MeetsSeq3 SeqRoads2
section
variable {prog : Program} {w : World} {A : Around} {R : Result → Shared → Prop}
/-- x in a list whose items answer by defs of the text: at each turn the list is read anew -/
def InI (prog : Program) (w : World) (A : Around) (E : Value → Shared → Prop) (l : Addr) (x : Value) (N : Nat) (T : Shared → Prop) (I : Nat → Shared → Prop) : Prop :=
  ∀ i s, I i s → ∃ (items : Array Value) (n : Nat), s.heap.get? l = some { cls := .type "list", data := .seq items n } ∧ items.size = N ∧
    ∀ (h1 : i < items.size), wpAny (model prog w) A.in1 (eqBool items[i] x) (fun r s' => if r = true then T s' else I (i + 1) s') E s
theorem in_loopG (l : Addr) (x : Value) (N : Nat) (T : Shared → Prop) (I : Nat → Shared → Prop) (hl : InI prog w A (fun e s' => R (.error e) s') l x N T I)
    (finT : ∀ s, T s → R (.ok (.ret (.bool true))) s) (finF : ∀ s, I N s → R (.ok (.ret (.bool false))) s) (k : Nat) :
    ∀ i : Nat, N - i = k → i ≤ N → ∀ s, I i s →
      wpAny (model prog w) A.in1 (Builtin.«list.__contains__.loop» ⟨[.ref l, x, rawInt i], []⟩) (GQ.FinOf prog w A R) (fun e s' => R (.error e) s') s := by
  induction k with
  | zero =>
    intro i hk hi s h
    obtain ⟨items, n, hl1, hs1, _⟩ := hl _ _ h
    have hi' : i = N := by omega
    have hR : R (.ok (.ret (.bool false))) s := finF s (hi' ▸ h)
    obtain ⟨hp, g, d, tk, os⟩ := s
    wp_walk using wpAny_loadPart' hl1
    have hi1 : items[((i : Nat) : Int).toNat]? = none := by simp; omega
    rw [hi1]
    wp_walk
    exact hR
  | succ k ih =>
    intro i hk hi s h
    obtain ⟨items, n, hl1, hs1, turn⟩ := hl _ _ h
    have hlt : i < items.size := by omega
    have ht := turn hlt
    obtain ⟨hp, g, d, tk, os⟩ := s
    wp_walk using wpAny_loadPart' hl1
    have hi1 : items[((i : Nat) : Int).toNat]? = some items[i] := by simp [hlt]
    have hc : ((i : Int) + 1) = ((i + 1 : Nat) : Int) := by omega
    rw [hi1]
    refine wpAny_bind (wpAny_mono ht (fun r s2 h2 => ?_) fun _ _ x => x)
    cases r with
    | true =>
      have hR := finT s2 h2
      obtain ⟨hp2, g2, d2, tk2, os2⟩ := s2
      wp_walk
      exact hR
    | false =>
      have hrec := ih (i + 1) (by omega) (by omega) s2 h2
      obtain ⟨hp2, g2, d2, tk2, os2⟩ := s2
      wp_walk
      rw [hc]
      exact ⟨plainId_quiet plain_contains_loop _, codeAny_builtin entry_contains_loop (by
        rw [Around.under_plainId plain_contains_loop _]
        exact hrec)⟩
theorem list_inG (l : Addr) (x : Value) (N : Nat) (T : Shared → Prop) (I : Nat → Shared → Prop) (hl : InI prog w A (fun e s' => R (.error e) s') l x N T I)
    (finT : ∀ s, T s → R (.ok (.ret (.bool true))) s) (finF : ∀ s, I N s → R (.ok (.ret (.bool false))) s) {s : Shared} (h : I 0 s) :
    wpAny (model prog w) A.in1 (Builtin.«list.__contains__» ⟨[.ref l, x], []⟩) (GQ.FinOf prog w A R) (fun e s' => R (.error e) s') s := by
  obtain ⟨items, n, hl1, hs1, _⟩ := hl _ _ h
  have hrec := in_loopG (A := A) (R := R) l x N T I hl finT finF _ 0 rfl (Nat.zero_le _) s h
  obtain ⟨hp, g, d, tk, os⟩ := s
  wp_walk using wpAny_loadPart' hl1
  exact ⟨plainId_quiet plain_contains_loop _, codeAny_builtin entry_contains_loop (by
    rw [Around.under_plainId plain_contains_loop _]
    exact hrec)⟩
end
section
variable {prog : Program} {w : World} {A : Around} {E : Value → Shared → Prop} {s : Shared}
theorem op_inG {l : Addr} {x : Value} {N : Nat} {Q : Value → Shared → Prop} (T : Shared → Prop) (I : Nat → Shared → Prop) (hl : InI prog w A E l x N T I)
    (finT : ∀ s, T s → Q (.bool true) s) (finF : ∀ s, I N s → Q (.bool false) s) (h : I 0 s) : wpAny (model prog w) A (compareOp .In x (.ref l)) Q E s := by
  obtain ⟨items, n, hl1, hs1, _⟩ := hl _ _ h
  show wpAny _ _ (do return .bool (← contains (.ref l) x)) Q E s
  refine wpAny_bind (wpAny_contains_slot (T := "list") ⟨_, hl1, rfl⟩ F.slot_list_contains ?_)
  refine GQ.call_here F.slot_list_contains ⟨_, hl1, rfl⟩ F.entry_list_contains (F.args_list_contains_2 _ _) ?_
  exact list_inG (R := wants (fun v s' => wpAny (model prog w) A (truthy v) (fun b s'' => wpAny (model prog w) A (pure (Value.bool b)) Q E s'') E s') E) l x N T I hl (fun s' q => wpAny_truthy_bool (wpAny_pure (finT s' q))) (fun s' q => wpAny_truthy_bool (wpAny_pure (finF s' q))) h
theorem eqBool_noneG {b : Addr} {Q : Bool → Shared → Prop} (h : wpAny (model prog w) A (richCompare .Eq .none (.ref b)) (fun v s' => ∃ r, v = .bool r ∧ Q r s') E s) : wpAny (model prog w) A (eqBool .none (.ref b)) Q E s := by
  unfold eqBool
  refine wpAny_holding ?_
  refine wpAny_ite_split (fun hab => absurd (eq_of_beq hab) (by simp)) (fun _ => ?_)
  refine wpAny_bind (wpAny_mono h (fun v s' hv => ?_) fun _ _ x => x)
  obtain ⟨r, rfl, q⟩ := hv
  exact wpAny_truthy_bool q
end
end GX
namespace L2
open PySem PySem.Spec PyProof.Rows PySem.W
/-- what a class of the text with its own == says to ==, != and in -/
structure OwnQ (K : Frag) (C f : Addr) : Prop where
  at_ : findIn K (.ref C) "__eq__" = some (some (.ref f))
  fn : isFn K (.ref f) = true
  ne : findIn K (.ref C) "__ne__" = some (some (.builtin "object.__ne__"))
  obj : mroIn K C (.type "object") = some true
  non : mroIn K C (.type "NoneType") = some false
  int : notFirst K C (.type "int") = true
  str : notFirst K C (.type "str") = true
  bool : notFirst K C (.type "bool") = true
  tup : notFirst K C (.type "tuple") = true
  lst : notFirst K C (.type "list") = true
  nonR : notFirst K C (.type "NoneType") = true
theorem OwnQ.of {K : Frag} {C f : Addr} {T : Value} (h : subIn K T (.ref C) = some false) : notFirst K C T = true := by unfold notFirst; rw [h]; simp
theorem OwnQ.self {K : Frag} {C f : Addr} (_ : OwnQ K C f) : notFirst K C (.ref C) = true := by simp [notFirst]
section
variable {X : Cx} {CX : CXT} {k n : Nat} {C f : Addr} {fd : FuncData} {ps : List Str} {sp : Sp} {E : XK}
theorem run_fnIn {pins : List (Addr × Obj)} {σ : L2.St} {H : Hp} {s : Shared} {Q : VK} {us : List Value} {vs : List V} (F : FnOk X.prog X.w X.K X.mg X.base CX k f fd ps sp) (hr : Room (k + 1) X.A) (hb : Binds X.K fd ps []) (hx : Passes CX X E)
    (I : Inv X pins σ H s) (r : Vals vs us) (h : sp vs H Q E) : wpAny (model X.prog X.w) X.A.in1 (call (.ref f) us) (EP X pins σ Q) X.xe s := by
  have hl : us.length = ps.length := by rw [← r.length]; exact F.len _ _ _ _ h
  have hb2 := hb s us I.kIn (by rw [List.append_nil]; exact hl)
  rw [List.append_nil] at hb2
  refine wpAny_call (codeAny_mono (F.run X.A.in1 X.stack s H ⟨us, []⟩ us vs Q E hr.in1 I.env0.in1 hb2 r h) fun r s' hq => ?_)
  cases r with
  | error e => exact hx pins σ H s e s' I hq
  | ok fl =>
    cases fl with
    | ret u => exact I.after hq
    | next => exact False.elim hq
    | brk => exact False.elim hq
    | cont => exact False.elim hq
/-- a datum of a type that is not first -/
inductive EqR (K : Frag) (C : Addr) (H : Hp) : V → Prop
  | non : EqR K C H .non
  | int (i : Int) : EqR K C H (.int i)
  | str (x : Str) : EqR K C H (.str x)
  | bl (b : Bool) : EqR K C H (.bl b)
  | tup {a : Addr} {xs : List V} : H a = some (.tup xs) → EqR K C H (.ref a)
  | lst {a : Addr} {xs : List V} : H a = some (.lst xs) → EqR K C H (.ref a)
  | ins {a dx : Addr} {fs : List (Str × V)} : H a = some (.ins C dx fs) → EqR K C H (.ref a)
theorem EqR.look {pins : List (Addr × Obj)} {σ : L2.St} {H : Hp} {s : Shared} {x : V} {u : Value} (h : OwnQ X.K C f) (I : Inv X pins σ H s) (r : RelV x u) (e : EqR X.K C H x) :
    ∃ t, Looks (model X.prog X.w) s.heap (typeOf u) t ∧ notFirst X.K C t = true := by
  have go : ∀ t, TyX X.K H x t → notFirst X.K C t = true → ∃ t, Looks (model X.prog X.w) s.heap (typeOf u) t ∧ notFirst X.K C t = true := fun t ty nf => by
    obtain ⟨P, kx, p, _⟩ := kit_of I r ty
    exact ⟨t, kx.ty _ _ I.kIn p, nf⟩
  cases e with
  | non => exact go _ (.base .non) h.nonR
  | int i => exact go _ (.base (.int i)) h.int
  | str i => exact go _ (.base (.str i)) h.str
  | bl i => exact go _ (.base (.bl i)) h.bool
  | tup e => exact go _ (.base (.tup e)) h.tup
  | lst e => exact go _ (.base (.lst e)) h.lst
  | ins e =>
    obtain ⟨mA, o, _⟩ := ins_get I.hok e
    obtain ⟨od, J, _⟩ := o.look
    obtain rfl : u = Value.ref _ := r
    exact ⟨_, J.type, h.self⟩
/-- o == x, o an object with its own == -/
def rEqO (K : Frag) (C : Addr) (sp : Sp) (E : XK) : R2 := fun x y H Q => ∃ a dx fs, x = .ref a ∧ H a = some (.ins C dx fs) ∧ EqR K C H y ∧ sp [.ref a, y] H Q E
theorem op_eqO (h : OwnQ X.K C f) (F : FnOk X.prog X.w X.K X.mg X.base CX k f fd ps sp) (hr : Room k X.A) (hb : Binds X.K fd ps []) (hx : Passes CX X E) : OpR X (compareOp .Eq) (rEqO X.K C sp E) := by
  intro pins s σ H x y v u Q I rx ry q0
  obtain ⟨a, dx, fs, rfl, ea, er, q⟩ := q0
  obtain rfl : v = Value.ref a := rx
  obtain ⟨mA, oa, _⟩ := ins_get I.hok ea
  obtain ⟨od, J, _⟩ := oa.look
  obtain ⟨m, fr⟩ := I.fr
  obtain ⟨t, lt, nf⟩ := er.look h I ry
  have r := run_fn (ds := []) (dvs := []) F hr hb .nil hx I (us := [.ref a, u]) (vs := [.ref a, y]) (.cons rfl (.cons ry .nil)) q
  exact PySem.W.cmp_K (op := .Eq) hr.units0 fr I.ok.mod.kin J lt nf h.at_ h.fn (wpAny_mono r (fun z s' hz => by
    obtain ⟨v, H', I', rv, q'⟩ := hz
    exact not_ni rv ⟨v, H', I', rv, q'⟩) fun _ _ z => z)
/-- o != x by the class's own == -/
def rNeO (K : Frag) (C : Addr) (sp : Sp) (E : XK) : R2 := fun x y H Q => ∃ a dx fs, x = .ref a ∧ H a = some (.ins C dx fs) ∧ EqR K C H y ∧ sp [.ref a, y] H (fun z H' => ∃ b, z = .bl b ∧ Q (.bl !b) H') E
theorem kneo_find {name : Str} {id : String} {args : List Value} {prog : Program} {w : World} {A : Around} {E : Value → Shared → Prop} {s : Shared} {K : Frag} {x C : Addr} {ox : Obj} {od : Option Obj} {Q : Option Value → Shared → Prop} (X : K.In s.heap) (I : InstAt s.heap x ox C od) (hs : findIn K (.ref C) name = some (some (.builtin id)))
    (hb : ∀ self, bindSpecial (.builtin id) self = pure (.builtin id, [self])) (h : wpAny (model prog w) A (call (.builtin id) (.ref x :: args)) (fun v => Q (some v)) E s) : wpAny (model prog w) A (callSpecialIfBound? (.ref x) name args) Q E s := by
  simp only [callSpecialIfBound?, bindSpecialIfBound?]
  refine wpAny_holding (wpAny_bind (wpAny_bind (wpAny_bind (I.type.here ((looks_findIn X hs).here ?_)))))
  refine wpAny_bind (wpAny_askSetting (wpAny_ite ?_))
  have fin : wpAny (model prog w) A (call (.builtin id) ([.ref x] ++ args) >>= fun v => pure (some v)) Q E s := wpAny_bind (wpAny_mono h (fun v s' h' => wpAny_pure h') fun _ _ h' => h')
  split
  · exact wpAny_bind ((Looks.of_pure (hb _)).here (wpAny_pure (by exact fin)))
  · exact wpAny_tryCatch (wpAny_bind ((Looks.of_pure (hb _)).here (wpAny_pure (by exact fin))))
open Builtin in
theorem kneo_body {prog : Program} {w : World} {A : Around} {E : Value → Shared → Prop} {s : Shared} {K : Frag} {x C f : Addr} {y : Value} {ox : Obj} {od : Option Obj} {Q : Value → Shared → Prop} (hu : A.in1.units < cLine) (X : K.In s.heap) (I : InstAt s.heap x ox C od) (hm : mroIn K C (.type "object") = some true)
    (hs : findIn K (.ref C) "__eq__" = some (some (.ref f))) (hf : isFn K (.ref f) = true) (h : wpAny (model prog w) A.in1 (call (.ref f) [.ref x, y]) (fun v s' => ∃ b, v = .bool b ∧ Q (.bool !b) s') E s) :
    wpAny (model prog w) A (call (.builtin "object.__ne__") [.ref x, y]) Q E s := by
  refine wpAny_call (codeAny_call_builtin F.cmp_object.ne.plain F.cmpEntry_ne (check_slot (i := "object.__ne__") (owner := "object") (n := "__ne__") F.cmpKind_ne F.cmpSplit_ne (I.type.andThen (looks_mroIn X hm)) (F.cmpArgs_ne _ _) ?_))
  unfold Builtin.«object.__ne__»
  refine wpAny_bind (m := slotArgs "__ne__" 1 _) (wpAny_pure ?_)
  refine wpAny_bind (m := cRoomFor _ _) (wpAny_cRoomFor hu ?_)
  refine wpAny_bind (m := callSpecialIfBound? (.ref x) (Str.ofString "__eq__") _) (ifBound_K X I hs hf (wpAny_mono h (fun r s' hq => ?_) fun _ _ y => y))
  obtain ⟨b, rfl, q⟩ := hq
  exact wpAny_bind (wpAny_truthy_bool (wpAny_pure q))
theorem op_neO (h : OwnQ X.K C f) (F : FnOk X.prog X.w X.K X.mg X.base CX k f fd ps sp) (hr : Room (k + 1) X.A) (hb : Binds X.K fd ps []) (hx : Passes CX X E) : OpR X (compareOp .NotEq) (rNeO X.K C sp E) := by
  intro pins s σ H x y v u Q I rx ry q0
  obtain ⟨a, dx, fs, rfl, ea, er, q⟩ := q0
  obtain rfl : v = Value.ref a := rx
  obtain ⟨mA, oa, _⟩ := ins_get I.hok ea
  obtain ⟨od, J, _⟩ := oa.look
  obtain ⟨m, fr⟩ := I.fr
  obtain ⟨t, lt, nf⟩ := er.look h I ry
  have r := run_fnIn F hr hb hx I (us := [.ref a, u]) (vs := [.ref a, y]) (.cons rfl (.cons ry .nil)) q
  have one : wpAny (model X.prog X.w) X.A (tryCompare (.ref a) "__ne__" u) (fun r s' => ∃ v, r = some v ∧ EP X pins σ Q v s') X.xe s := by
    unfold tryCompare
    refine wpAny_bind (kneo_find I.kIn J h.ne PySem.F.cmp_object.ne.bind (kneo_body hr.in1.units0 I.kIn J h.obj h.at_ h.fn (wpAny_mono r (fun z s' hz => ?_) fun _ _ z => z)))
    obtain ⟨v, H', I', rv, b, rfl, q'⟩ := hz
    obtain rfl : z = Value.bool b := rv
    exact ⟨b, rfl, wpAny_pure ⟨_, rfl, ⟨V.bl (!b), H', I', rfl, q'⟩⟩⟩
  show wpAny _ _ (richCompare .NotEq (.ref a) u) _ _ s
  unfold richCompare
  simp only [oneThing_ref]
  refine wpAny_holding (wpAny_bind (wpAny_cRoomFor hr.units0 ?_))
  refine wpAny_bind (J.type.here (wpAny_bind (lt.here ?_)))
  split
  · rename_i q
    have e : subIn X.K t (.ref C) = some false := by
      rcases Bool.or_eq_true_iff.mp nf with e | e
      · rw [beq_iff_eq.mp e] at q; simp at q
      · exact beq_iff_eq.mp e
    refine wpAny_bind ((looks_subIn I.kIn e).here ?_)
    simp only [Bool.false_eq_true, if_false]
    refine wpAny_bind (wpAny_mono one (fun r s' z => ?_) fun _ _ e => e)
    obtain ⟨v, rfl, hq⟩ := z
    exact wpAny_pure hq
  · refine wpAny_bind (wpAny_pure ?_)
    simp only [Bool.false_eq_true, if_false]
    refine wpAny_bind (wpAny_mono one (fun r s' z => ?_) fun _ _ e => e)
    obtain ⟨v, rfl, hq⟩ := z
    exact wpAny_pure hq
/-- None == o -/
theorem none_eqO {pins : List (Addr × Obj)} {σ : L2.St} {H : Hp} {s : Shared} {a : Addr} {dx : Addr} {fs : List (Str × V)} {Q : VK} (h : OwnQ X.K C f) (F : FnOk X.prog X.w X.K X.mg X.base CX k f fd ps sp) (hr : Room (k + 1) X.A) (hb : Binds X.K fd ps []) (hx : Passes CX X E) (I : Inv X pins σ H s)
    (ea : H a = some (.ins C dx fs)) (q : sp [.ref a, .non] H Q E) : wpAny (model X.prog X.w) X.A.in1 (richCompare .Eq .none (.ref a)) (EP X pins σ Q) X.xe s := by
  obtain ⟨mA, oa, _⟩ := ins_get I.hok ea
  obtain ⟨od, J, _⟩ := oa.look
  have r := run_fnIn F hr hb hx I (us := [.ref a, .none]) (vs := [.ref a, .non]) (.cons rfl (.cons rfl .nil)) q
  have tn : s.TypeIs .none "NoneType" := rfl
  have one : wpAny (model X.prog X.w) X.A.in1 (tryCompare (.ref a) (cmpInfo .Eq).2.2 .none) (fun r s' => ∃ v, r = some v ∧ EP X pins σ Q v s') X.xe s := by
    unfold tryCompare
    refine wpAny_bind (ifBound_K I.kIn J h.at_ h.fn (wpAny_mono r (fun z s' hz => ?_) fun _ _ z => z))
    obtain ⟨v, H', I', rv, q'⟩ := hz
    have go : EP X pins σ Q z s' := ⟨v, H', I', rv, q'⟩
    clear q'
    cases v <;> first | (obtain ⟨t, rfl⟩ := rv; exact wpAny_pure ⟨_, rfl, go⟩) | (obtain rfl := rv; exact wpAny_pure ⟨_, rfl, go⟩) | (cases rv; exact wpAny_pure ⟨_, rfl, go⟩)
  unfold richCompare
  rw [tn.oneThing_none]
  refine wpAny_holding (wpAny_bind (wpAny_cRoomFor hr.in1.units0 ?_))
  refine wpAny_bind ((Looks.of_pure (show typeOf .none = pure (.type "NoneType") from rfl)).here (wpAny_bind (J.type.here ?_)))
  simp only [show (Value.type "NoneType" != Value.ref C) = true from rfl, if_true]
  refine wpAny_bind ((looks_subIn (t := .ref C) I.kIn h.non).here ?_)
  simp only [Bool.false_eq_true, if_false, Bool.not_false, if_true]
  refine wpAny_bind (wpAny_tryCompare_declines (name := Str.ofString "__eq__") tn PySem.F.slot_NoneType_eq ?_)
  refine call_gives (Q := fun v s' => v = Value.notImplemented ∧ wpAny (model X.prog X.w) X.A.in1 _ (EP X pins σ Q) X.xe s') PySem.F.slot_NoneType_eq tn PySem.F.entry_NoneType_eq (PySem.F.args_NoneType_eq_2 _ _) (PySem.SeqAt.NoneType___eq___none_ref_0 a) ?_
  show Value.notImplemented = Value.notImplemented ∧ wpAny (model X.prog X.w) X.A.in1 _ (EP X pins σ Q) X.xe s
  refine ⟨rfl, ?_⟩
  refine wpAny_bind (m := tryCompare (Value.ref a) (Str.ofString "__eq__") Value.none) (wpAny_mono one (fun r s' z => ?_) fun _ _ e => e)
  obtain ⟨v, rfl, hq⟩ := z
  exact wpAny_pure hq
/-- o in a list of objects of its class and of None -/
def InRun (C : Addr) (sp : Sp) (E : XK) (a : Addr) (Q : VK) : List V → Hp → Prop
  | [], H => Q (.bl false) H
  | y :: r, H => (y = .non ∧ sp [.ref a, .non] H (fun z H' => ∃ b, z = .bl b ∧ Same H H' ∧ if b = true then Q (.bl true) H' else InRun C sp E a Q r H') E) ∨
      (∃ b dy gs, y = .ref b ∧ H b = some (.ins C dy gs) ∧ (b = a → Q (.bl true) H) ∧ (b ≠ a → sp [.ref b, .ref a] H (fun z H' => ∃ b, z = .bl b ∧ Same H H' ∧ if b = true then Q (.bl true) H' else InRun C sp E a Q r H') E))
def rInO (C : Addr) (sp : Sp) (E : XK) : R2 := fun x y H Q => ∃ a dx fs p xs, x = .ref a ∧ y = .ref p ∧ H a = some (.ins C dx fs) ∧ H p = some (.lst xs) ∧ InRun C sp E a Q xs H
theorem op_inO (h : OwnQ X.K C f) (F : FnOk X.prog X.w X.K X.mg X.base CX k f fd ps sp) (hr : Room (k + 1) X.A) (hb : Binds X.K fd ps []) (hx : Passes CX X E) : OpR X (compareOp .In) (rInO C sp E) := by
  intro pins s σ H x y v u Q I rx ry q0
  obtain ⟨a, dx, fs, p, xs, rfl, rfl, ea, ep, q⟩ := q0
  obtain rfl : v = Value.ref a := rx
  obtain rfl : u = Value.ref p := ry
  refine GX.op_inG (N := xs.length) (EP X pins σ Q (.bool true)) (fun i s' => ∃ H', Inv X pins σ H' s' ∧ Same H H' ∧ i ≤ xs.length ∧ InRun C sp E a Q (xs.drop i) H') (fun i s' z => ?_) (fun s' z => z) (fun s' z => ?_) ⟨H, I, Same.refl H, Nat.zero_le _, q⟩
  · obtain ⟨H1, I1, e1, hi, z⟩ := z
    obtain ⟨_, its, n, r, e⟩ := I1.hok p _ (e1 _ _ ep)
    refine ⟨its.toArray, n, e, by rw [List.size_toArray, ← r.length], fun h1 => ?_⟩
    have k1 : i < xs.length := by rw [r.length]; simpa using h1
    obtain ⟨w, hw, rw_⟩ := r.get (List.getElem?_eq_getElem k1)
    have hw2 : its.toArray[i] = w := by
      have h1' : i < its.length := by simpa using h1
      rw [List.getElem?_eq_getElem h1'] at hw
      simpa using hw
    rw [hw2]
    rw [List.drop_eq_getElem_cons k1] at z
    unfold InRun at z
    have fin : ∀ (r : Value) (s2 : Shared), EP X pins σ (fun z H' => ∃ b, z = .bl b ∧ Same H1 H' ∧ if b = true then Q (.bl true) H' else InRun C sp E a Q (xs.drop (i + 1)) H') r s2 →
        ∃ b, r = .bool b ∧ if b = true then EP X pins σ Q (.bool true) s2 else ∃ H', Inv X pins σ H' s2 ∧ Same H H' ∧ i + 1 ≤ xs.length ∧ InRun C sp E a Q (xs.drop (i + 1)) H' := fun r s2 hz => by
      obtain ⟨v, H', I', rv, b, rfl, e2, q'⟩ := hz
      obtain rfl : r = Value.bool b := rv
      refine ⟨b, rfl, ?_⟩
      cases b with
      | true => exact ⟨V.bl true, H', I', rfl, q'⟩
      | false => exact ⟨H', I', e1.trans e2, k1, q'⟩
    rcases z with ⟨ey, q1⟩ | ⟨b, dy, gs, ey, eb, q1, q2⟩
    · rw [ey] at rw_
      obtain rfl : w = Value.none := rw_
      exact GX.eqBool_noneG (wpAny_mono (none_eqO h F hr hb hx I1 (e1 _ _ ea) q1) (fun r s2 hz => fin r s2 hz) fun _ _ z => z)
    · rw [ey] at rw_
      obtain rfl : w = Value.ref b := rw_
      by_cases hab : b = a
      · subst hab
        exact SeqAt.EqAt.same (A := X.A.in1) (s := s') (.ref b) X.prog X.w X.xe _ ⟨V.bl true, H1, I1, rfl, q1 rfl⟩
      · refine GQ.eqBool_refG hab ?_
        obtain ⟨mA, oa, _⟩ := ins_get I1.hok (e1 _ _ ea)
        obtain ⟨od, J, _⟩ := oa.look
        obtain ⟨mB, ob, _⟩ := ins_get I1.hok eb
        obtain ⟨od2, J2, _⟩ := ob.look
        obtain ⟨m, fr⟩ := I1.fr
        have r := run_fnIn F hr hb hx I1 (us := [.ref b, .ref a]) (vs := [.ref b, .ref a]) (.cons rfl (.cons rfl .nil)) (q2 hab)
        refine PySem.W.cmp_K (op := .Eq) hr.in1.units0 fr I1.ok.mod.kin J2 J.type h.self h.at_ h.fn (wpAny_mono r (fun z s2 hz => ?_) fun _ _ z => z)
        obtain ⟨b2, rfl, hz2⟩ := fin z s2 hz
        exact ⟨b2, rfl, hz2⟩
  · obtain ⟨H1, I1, e1, hi, z⟩ := z
    rw [List.drop_length] at z
    exact ⟨V.bl false, H1, I1, rfl, z⟩
end
end L2
namespace Mx
open PySem PySem.Spec PyProof.Rows L2
section
variable {K : Fr} {cl : Cl} {H H' H1 : Hp} {O : List Addr}
def eqOk (c : Str) : Dt → Prop
  | .non => True | .bl _ => True | .int _ => True | .str _ => True | .tup _ => True | .lst _ => True
  | .ins c2 _ => c2 = c
  | _ => False
instance (c : Str) (d : Dt) : Decidable (eqOk c d) := by cases d <;> unfold eqOk <;> infer_instance
@[simp] theorem eqOk_non (c : Str) : eqOk c .non := True.intro
@[simp] theorem eqOk_int (c : Str) (i : Int) : eqOk c (.int i) := True.intro
@[simp] theorem eqOk_str (c : Str) (i : Str) : eqOk c (.str i) := True.intro
@[simp] theorem eqOk_bl (c : Str) (i : Bool) : eqOk c (.bl i) := True.intro
@[simp] theorem eqOk_tup (c : Str) (i : List Dt) : eqOk c (.tup i) := True.intro
@[simp] theorem eqOk_lst (c : Str) (i : List Dt) : eqOk c (.lst i) := True.intro
@[simp] theorem eqOk_ins (c c2 : Str) (fs : List (Str × Dt)) : eqOk c (.ins c2 fs) ↔ c2 = c := Iff.rfl
def dEqO (c : Str) (f : List Dt → R Dt) : Dt → Dt → R Dt := fun o p => match o with
  | .ins c1 fs => if c1 = c ∧ eqOk c p then f [.ins c1 fs, p] else .bad
  | _ => .bad
@[simp] theorem dEqO_ins (c c1 : Str) (f : List Dt → R Dt) (fs : List (Str × Dt)) (p : Dt) : dEqO c f (.ins c1 fs) p = if c1 = c ∧ eqOk c p then f [.ins c1 fs, p] else .bad := rfl
def dFlip : Dt → R Dt
  | .bl b => .ok (.bl !b)
  | _ => .bad
@[simp] theorem dFlip_bl (b : Bool) : dFlip (.bl b) = .ok (.bl !b) := rfl
def dNeO (c : Str) (f : List Dt → R Dt) : Dt → Dt → R Dt := fun o p => (dEqO c f o p).bind dFlip
@[simp] theorem dNeO_ins (c c1 : Str) (f : List Dt → R Dt) (fs : List (Str × Dt)) (p : Dt) : dNeO c f (.ins c1 fs) p = (if c1 = c ∧ eqOk c p then f [.ins c1 fs, p] else .bad).bind dFlip := rfl
theorem eqR_of {c : Str} {C : Addr} {x : V} {d : Dt} (hc : cl c = some C) (r : Rep K cl (hid O H) x d) (h : eqOk c d) : EqR K C H x := by
  cases r with
  | non => exact .non
  | bl b => exact .bl b
  | int b => exact .int b
  | str b => exact .str b
  | tup e _ => exact .tup (hid_same _ _ _ _ e)
  | lst e _ => exact .lst (hid_same _ _ _ _ e)
  | ins k e _ _ =>
    cases (show _ = c from h)
    rw [hc] at k
    cases k
    exact .ins (hid_same _ _ _ _ e)
  | _ => exact h.elim
/-- two operands, then what the op asks of them -/
theorem sim_two {r : R2} {g : Dt → Dt → R Dt} {E0 : XK} {ta tb : TE} {xa xb : XE} (ha : Sim K cl (fun _ => E0) ta xa) (hb : Sim K cl (fun _ => E0) tb xb)
    (h : ∀ O H x y a b, Trk O H → Rep K cl (hid O H) x a → Rep K cl (hid O H) y b → ∀ Q : VK, PostE K cl E0 O H Q (g a b) → r x y H Q) : Sim K cl (fun _ => E0) (tOp r ta tb) (x2 g xa xb) := fun B H0 O σ D H s Q q => by
  unfold x2 at q
  refine ha B H0 O σ D H s _ ?_
  cases ea : xa D with
  | bad => rw [ea] at q; exact q.elim
  | ex c' fs => rw [ea] at q; exact q
  | ok d =>
    rw [ea] at q
    simp only [R.bind] at q
    intro x H1 e1 rx
    refine hb B H0 O σ D H1 (s.mono e1) _ ?_
    cases eb : xb D with
    | bad => rw [eb] at q; exact q.elim
    | ex c' fs => rw [eb] at q; exact ExOk.mono e1 q
    | ok d2 =>
      rw [eb] at q
      simp only [R.bind] at q
      intro y H2 e2 ry
      exact h _ _ _ _ _ _ ((s.mono e1).mono e2).trk (rx.mono (hid_mono e2)) ry _ (post_E (e1.trans e2) q)
theorem sim_eqO {c : Str} {C : Addr} {f : List Dt → R Dt} {E0 : XK} {ta tb : TE} {xa xb : XE} (hc : cl c = some C) (ha : Sim K cl (fun _ => E0) ta xa) (hb : Sim K cl (fun _ => E0) tb xb) :
    Sim K cl (fun _ => E0) (tOp (rEqO K C (PureSp K cl f) E0) ta tb) (x2 (dEqO c f) xa xb) := sim_two ha hb fun O H x y a b tr rx ry Q q => by
  cases rx with
  | ins k e kk rr =>
    rw [dEqO_ins] at q
    split at q
    · rename_i h
      obtain ⟨rfl, h⟩ := h
      rw [hc] at k
      cases k
      exact ⟨_, _, _, rfl, hid_same _ _ _ _ e, eqR_of hc ry h, O, _, tr, .cons (.ins hc e kk rr) (.cons ry .nil), q⟩
    · exact q.elim
  | _ => exact q.elim
theorem sim_neO {c : Str} {C : Addr} {f : List Dt → R Dt} {E0 : XK} {ta tb : TE} {xa xb : XE} (hc : cl c = some C) (ha : Sim K cl (fun _ => E0) ta xa) (hb : Sim K cl (fun _ => E0) tb xb) :
    Sim K cl (fun _ => E0) (tOp (rNeO K C (PureSp K cl f) E0) ta tb) (x2 (dNeO c f) xa xb) := sim_two ha hb fun O H x y a b tr rx ry Q q => by
  cases rx with
  | ins k e kk rr =>
    rw [dNeO_ins] at q
    split at q
    · rename_i h
      obtain ⟨rfl, h⟩ := h
      rw [hc] at k
      cases k
      refine ⟨_, _, _, rfl, hid_same _ _ _ _ e, eqR_of hc ry h, O, _, tr, .cons (.ins hc e kk rr) (.cons ry .nil), ?_⟩
      revert q
      generalize f _ = z
      intro q
      cases z with
      | bad => exact q
      | ex c fs => exact q
      | ok d =>
        rw [bind_ok] at q
        cases d with
        | bl b =>
          intro v H' e' r'
          cases r'
          exact ⟨_, rfl, q _ H' e' (.bl _)⟩
        | _ => exact q.elim
    · exact q.elim
  | _ => exact q.elim
/-! ### o in a list of objects and None -/
def sc0 : Dt → Bool
  | .non => true | .bl _ => true | .int _ => true | .str _ => true | _ => false
def sc1 : Dt → Bool
  | .tup l => l.all sc0 | d => sc0 d
def sc2 : Dt → Bool
  | .tup l => l.all sc1 | d => sc0 d
theorem rep_fun0 {v : V} {d d' : Dt} (h : sc0 d = true) (h' : sc0 d' = true) (r : Rep K cl H v d) (r' : Rep K cl H v d') : d = d' := by
  cases r <;> first | (cases r' <;> first | rfl | cases h') | cases h
theorem repL_fun {P : Dt → Bool} (hP : ∀ {v : V} {d d' : Dt}, P d = true → P d' = true → Rep K cl H v d → Rep K cl H v d' → d = d') :
    ∀ {vs : List V} {ds ds' : List Dt}, ds.all P = true → ds'.all P = true → RepL K cl H vs ds → RepL K cl H vs ds' → ds = ds'
  | _, _, _, _, _, .nil, .nil => rfl
  | _, _, _, h, h', .cons a r, .cons a' r' => by
    rw [List.all_cons, Bool.and_eq_true] at h h'
    rw [hP h.1 h'.1 a a', repL_fun hP h.2 h'.2 r r']
theorem rep_fun_tup {P Q : Dt → Bool} (hP : ∀ {v : V} {d d' : Dt}, P d = true → P d' = true → Rep K cl H v d → Rep K cl H v d' → d = d') (hQ : ∀ l, Q (.tup l) = l.all P) (hQ0 : ∀ d, (∀ l, d ≠ .tup l) → Q d = sc0 d)
    {v : V} {d d' : Dt} (h : Q d = true) (h' : Q d' = true) (r : Rep K cl H v d) (r' : Rep K cl H v d') : d = d' := by
  by_cases ht : ∃ l, d = .tup l
  · obtain ⟨l, rfl⟩ := ht
    by_cases ht' : ∃ l, d' = .tup l
    · obtain ⟨l', rfl⟩ := ht'
      cases r with
      | tup e rr =>
        cases r' with
        | tup e' rr' =>
          rw [e] at e'
          cases e'
          rw [hQ] at h h'
          rw [repL_fun hP h h' rr rr']
    · rw [hQ0 d' (fun l e => ht' ⟨l, e⟩)] at h'
      cases r with
      | tup e rr => cases r' <;> first | cases h' | exact absurd ⟨_, rfl⟩ ht'
  · rw [hQ0 d (fun l e => ht ⟨l, e⟩)] at h
    by_cases ht' : ∃ l, d' = .tup l
    · obtain ⟨l', rfl⟩ := ht'
      cases r' with
      | tup e rr => cases r <;> first | cases h | exact absurd ⟨_, rfl⟩ ht
    · rw [hQ0 d' (fun l e => ht' ⟨l, e⟩)] at h'
      exact rep_fun0 h h' r r'
theorem rep_fun1 {v : V} {d d' : Dt} (h : sc1 d = true) (h' : sc1 d' = true) (r : Rep K cl H v d) (r' : Rep K cl H v d') : d = d' :=
  rep_fun_tup (P := sc0) (Q := sc1) (fun h h' r r' => rep_fun0 h h' r r') (fun _ => rfl) (fun d n => by cases d <;> first | rfl | exact absurd rfl (n _)) h h' r r'
theorem rep_fun2 {v : V} {d d' : Dt} (h : sc2 d = true) (h' : sc2 d' = true) (r : Rep K cl H v d) (r' : Rep K cl H v d') : d = d' :=
  rep_fun_tup (P := sc1) (Q := sc2) (fun h h' r r' => rep_fun1 h h' r r') (fun _ => rfl) (fun d n => by cases d <;> first | rfl | exact absurd rfl (n _)) h h' r r'
theorem map_pair_ext : ∀ {l m : List (Str × Dt)}, l.map (·.1) = m.map (·.1) → l.map (·.2) = m.map (·.2) → l = m
  | [], [], _, _ => rfl
  | [], _ :: _, e, _ => by cases e
  | _ :: _, [], e, _ => by cases e
  | (a, b) :: l, (c, d) :: m, e, e2 => by
    simp only [List.map_cons, List.cons.injEq] at e e2
    rw [e.1, e2.1, map_pair_ext e.2 e2.2]
theorem ins_fun {a : Addr} {c : Str} {fs gs : List (Str × Dt)} (h : (fs.map (·.2)).all sc2 = true) (h' : (gs.map (·.2)).all sc2 = true) (r : Rep K cl H (.ref a) (.ins c fs)) (r' : Rep K cl H (.ref a) (.ins c gs)) : fs = gs := by
  cases r with
  | ins k e kk rr =>
    cases r' with
    | ins k' e' kk' rr' =>
      rw [e] at e'
      cases e'
      exact map_pair_ext (kk.symm.trans kk') (repL_fun (fun h h' r r' => rep_fun2 h h' r r') h h' rr rr')
def dTr (x : R Dt) : Dt → R Dt
  | .bl true => .ok (.bl true)
  | .bl false => x
  | _ => .bad
@[simp] theorem dTr_t (x : R Dt) : dTr x (.bl true) = .ok (.bl true) := rfl
@[simp] theorem dTr_f (x : R Dt) : dTr x (.bl false) = x := rfl
def dOnly (x : R Dt) : Dt → R Dt
  | .bl true => x
  | _ => .bad
@[simp] theorem dOnly_t (x : R Dt) : dOnly x (.bl true) = x := rfl
def noEx : R Dt → R Dt
  | .ok d => .ok d
  | _ => .bad
@[simp] theorem noEx_ok (d : Dt) : noEx (.ok d) = .ok d := rfl
theorem trk_mono (tr : Trk O H) (e : Same H H') : Trk O H' := fun a m => by
  obtain ⟨u, hu⟩ := mutO_some (tr a m)
  rw [e _ _ hu, ← hu]
  exact tr a m
def dInL (c : Str) (f : List Dt → R Dt) (fs : List (Str × Dt)) : List Dt → R Dt
  | [] => .ok (.bl false)
  | .non :: r => (f [.ins c fs, .non]).bind (dTr (dInL c f fs r))
  | .ins c2 gs :: r => if c2 = c ∧ (gs.map (·.2)).all sc2 = true ∧ (fs.map (·.2)).all sc2 = true then (noEx (f [.ins c gs, .ins c fs])).bind (dTr ((noEx (f [.ins c fs, .ins c fs])).bind (dOnly (dInL c f fs r)))) else .bad
  | _ => .bad
def dInO (c : Str) (f : List Dt → R Dt) : Dt → Dt → R Dt := fun o p => match o, p with
  | .ins c1 fs, .lst l => if c1 = c then dInL c f fs l else .bad
  | _, _ => .bad
@[simp] theorem dInO_ins (c c1 : Str) (f : List Dt → R Dt) (fs : List (Str × Dt)) (l : List Dt) : dInO c f (.ins c1 fs) (.lst l) = if c1 = c then dInL c f fs l else .bad := rfl
theorem inRun_of {c : Str} {C : Addr} {f : List Dt → R Dt} {fs : List (Str × Dt)} {E0 : XK} {a : Addr} {Q : VK} (hc : cl c = some C) : ∀ {l : List Dt} {xs : List V} {H : Hp}, Trk O H → RepL K cl (hid O H) xs l → Rep K cl (hid O H) (.ref a) (.ins c fs) →
    PostE K cl E0 O H Q (dInL c f fs l) → InRun C (PureSp K cl f) E0 a Q xs H
  | _, _, H, tr, .nil, ra, q => q _ H (Same.refl H) (.bl false)
  | .non :: l, _ :: xs, H, tr, .cons (.non) r, ra, q => by
    refine .inl ⟨rfl, O, _, tr, .cons ra (.cons .non .nil), ?_⟩
    unfold dInL at q
    revert q
    generalize f _ = z
    intro q
    cases z with
    | bad => exact q
    | ex c fs => exact q
    | ok d =>
      rw [bind_ok] at q
      intro v H' e' r'
      cases r' with
      | bl b =>
        refine ⟨b, rfl, e', ?_⟩
        cases b with
        | true => exact q _ H' e' (.bl true)
        | false => exact inRun_of hc (trk_mono tr e') (r.mono (hid_mono e')) (ra.mono (hid_mono e')) (post_E e' q)
      | _ => exact q.elim
  | .ins c2 gs :: l, _ :: xs, H, tr, .cons rb r, ra, q => by
    unfold dInL at q
    split at q
    · rename_i h
      obtain ⟨rfl, h1, h2⟩ := h
      have rb2 := rb
      cases rb2 with
      | @ins b C' dy _ fv _ k e kk rr =>
        rw [hc] at k
        cases k
        refine .inr ⟨b, _, _, rfl, hid_same _ _ _ _ e, fun eb => ?_, fun nb => ⟨O, _, tr, .cons rb (.cons ra .nil), ?_⟩⟩
        · subst eb
          have := ins_fun h1 h2 rb ra
          subst this
          revert q
          generalize f _ = z
          intro q
          cases z with
          | bad => exact q.elim
          | ex c fs => exact q.elim
          | ok d =>
            rw [noEx_ok, bind_ok, bind_ok] at q
            cases d with
            | bl b => cases b with
              | true => exact q _ H (Same.refl H) (.bl true)
              | false => exact q.elim
            | _ => exact q.elim
        · revert q
          generalize f [.ins c2 gs, .ins c2 fs] = z
          intro q
          cases z with
          | bad => exact q.elim
          | ex c fs => exact q.elim
          | ok d =>
            rw [noEx_ok, bind_ok] at q
            intro v H' e' r'
            cases r' with
            | bl b =>
              refine ⟨b, rfl, e', ?_⟩
              cases b with
              | true => exact q _ H' e' (.bl true)
              | false =>
                rw [dTr_f] at q
                revert q
                generalize f _ = z
                intro q
                cases z with
                | bad => exact q.elim
                | ex c fs => exact q.elim
                | ok d =>
                  rw [noEx_ok, bind_ok] at q
                  cases d with
                  | bl b => cases b with
                    | true => exact inRun_of hc (trk_mono tr e') (r.mono (hid_mono e')) (ra.mono (hid_mono e')) (post_E e' q)
                    | false => exact q.elim
                  | _ => exact q.elim
            | _ => exact q.elim
    · exact q.elim
theorem sim_inO {c : Str} {C : Addr} {f : List Dt → R Dt} {E0 : XK} {ta tb : TE} {xa xb : XE} (hc : cl c = some C) (ha : Sim K cl (fun _ => E0) ta xa) (hb : Sim K cl (fun _ => E0) tb xb) :
    Sim K cl (fun _ => E0) (tOp (rInO C (PureSp K cl f) E0) ta tb) (x2 (dInO c f) xa xb) := sim_two ha hb fun O H x y a b tr rx ry Q q => by
  cases rx with
  | ins k e kk rr =>
    cases ry with
    | lst e2 r2 =>
      rw [dInO_ins] at q
      split at q
      · rename_i h
        subst h
        rw [hc] at k
        cases k
        exact ⟨_, _, _, _, _, rfl, rfl, hid_same _ _ _ _ e, hid_same _ _ _ _ e2, inRun_of hc tr r2 (.ins hc e kk rr) q⟩
      · exact q.elim
    | _ => exact q.elim
  | _ => exact q.elim
/-! ### two keywords in the other order -/
def swp {α : Type} : List α → List α
  | [a, b] => [b, a]
  | l => l
theorem Vals.swp {vs : List V} {us : List Value} (r : L2.Vals vs us) : L2.Vals (swp vs) (swp us) := by
  match vs, us, r with
  | [], [], .nil => exact .nil
  | [a], [b], .cons p .nil => exact .cons p .nil
  | [a, a2], [b, b2], .cons p (.cons q .nil) => exact .cons q (.cons p .nil)
  | a :: a2 :: a3 :: l, b :: b2 :: b3 :: m, r => exact r
end
end Mx
namespace L2
open PySem PySem.Spec PyProof.Rows PySem.W NdefX
/-- an exception's own __init__, which begins by super().__init__(..) -/
structure SuF (P : Program) (K : Frag) (f C : Addr) (F : NF) (fd : FuncData) : Prop where
  fn : ∃ (oc : Value) (od : Option Addr) (sl : Array (Option Value)) (doc pm ctv : Value), fd = F.fd doc pm ctv ∧ K.lookup f = some ⟨oc, od, .func fd, sl⟩
  code : codeIn K (.ref F.c) F.qual = true
  cell : ∃ (cc : Addr) (cl : Value) (cd : Option Addr) (cs : Array (Option Value)), F.cl = [(("__class__" : Str), cc)] ∧ K.lookup cc = some ⟨cl, cd, .cell (some (.ref C)), cs⟩
  file : ∃ (c : Value) (d : Option Addr) (vs : Array Value) (cs : Array (Option Value)) (file : Str) (tf : Tok), K.lookup F.c = some ⟨c, d, .fields vs, cs⟩ ∧ vs[2]? = some (.str file tf) ∧ (P.main.file == file) = true
  top : (P.main.scope.names.lookup ("super" : Str)).isSome = false
  any : nsIn K cStatics "thirdparty.any" = some none
  ini : ks_superIn K C C "__init__" = some (some (.builtin "ValueError.__init__"))
  sub : subIn K (.ref C) (.type "ValueError") = some true
  self : mroIn K C (.ref C) = some true
  oex : OexC K C
section
variable {CX : CXT} {P : Program} {w : World} {K : Frag} {mg : Str → Option Value} {base : Heap} {F : NF} {f C : Addr} {fd : FuncData} {k : Nat}
/-- the wrapper at u, bound to the exception at a, called -/
theorem call_mw {A : Around} {E : Value → Shared → Prop} {X : Cx} {pins : List (Addr × Obj)} {σ : L2.St} {H : Hp} {s : Shared} {u a : Addr} {us : List Value} {Q : Value → Shared → Prop} (T : OexC X.K C) (I : Inv X pins σ H s) (ea : H a = some (exo a C none)) (hu : s.heap.get? u = some (kxs_mw "ValueError.__init__" a))
    (hl : us.length ≤ sizeLine) (h : ∀ s', Inv X pins σ H s' → Q .none s') : wpAny (model X.prog X.w) A (call (.ref u) us) Q E s := by
  obtain ⟨nm, q, N, bs, bm, sn, sub, ab, col, dd, k0, k1, k2, k3, k5, hC, hbm⟩ := T.cls
  obtain ⟨t1, ho⟩ := exo_at I.hok ea
  have hC' := I.kIn _ _ hC
  obtain ⟨hp, g, d, t, os⟩ := s
  have b1 : (Value.type "method-wrapper" == Value.type "method" || Value.type "method-wrapper" == Value.type "builtin_function_or_method" || Value.type "method-wrapper" == Value.type "method-wrapper") = true := by decide
  refine wpAny_call (codeAny_of_tree (show wpAny _ A.in1 (callAny (.ref u) ⟨us, []⟩) _ _ _ from ?_))
  simp only [callAny]
  refine wpAny_bind (wpAny_load hu ?_)
  simp only [kxs_mw, b1, if_true]
  refine KFB.if_so (show _ = true by decide) (wpAny_bind (check_bound_init PySem.F.excBase_ValueError.toExcCallFacts hC' ho rfl (wpAny_bind (wpAny_pure (wpAny_pure ⟨plainId_quiet PySem.F.excBase_ValueError.init.plain _, codeAny_builtin PySem.F.excBase_ValueError.initEntry ?_⟩)))))
  refine exc_init_tree (cls := .ref C) (t0 := t1) (dv := none) (c2 := .none) (c3 := .none) (b4 := .bool false) ho hl fun h' k hx ht => ?_
  have J := I.write (t' := t) (x := a) (e := a) (o := exo a C none) (by rw [ea]; exact True.intro) (.inl rfl) k ⟨_, hx⟩ (exo_ok hx)
  have eu : upd H a (exo a C none) = H := funext fun b => if hb : b = a then by rw [hb, upd_same, ea] else upd_ne hb
  rw [eu] at J
  exact h _ J
/-- what such an __init__ promises: self is given the field fld -/
def spEx (C : Addr) (fld : Str) (ta : L2.St → Hp → (List V → Hp → Prop) → Prop) (σ0 : List V → L2.St) : Sp := fun vs H Q _ => ∃ a x, vs = [.ref a, x] ∧ H a = some (exo a C none) ∧ ta (σ0 vs) H (fun us H2 => us.length ≤ 1000 ∧ H2 = H) ∧
  ∀ dx, H dx = none → dx ≠ a → Q .non (upd (upd H dx (exd dx [(fld, x)])) a (exo a C (some dx)))
theorem fn_exc {e : Expr} {es : List Expr} {ar : Arg} {p fld : Str} {p0 p1 p2 p3 p4 p5 p6 p7 p8 : Pos} {ta : TA} (S : SuF P K f C F fd) (hmg : mg "super" = none) (SC : NScope ["self", p, "__class__"] ["self", p] ["__class__"] F.scope) (hks : F.scope.names.lookup ("super" : Str) = some .globalImplicit)
    (hb : F.body = [.Expr (.Call (.Attribute (.Call (.Name "super" p0) [] [] p1) "__init__" p2) (e :: es) [] p3) p4, .Assign [.Attribute (.Name "self" p5) fld p6] (.Name p p7) p8])
    (hpar : (F.params.posonlyargs ++ F.params.args).head? = some ar) (har : ar.arg = "self") (hno : findIn K (.ref C) fld = some none)
    (he : ∀ env, starEach (e :: es) env = (false, eval e env) :: starEach es env) (hpl : ∀ pos env, (backTo pos (starEach es env)).any (·.1) = false)
    (hin : ∀ L, interactive (envF F f L) = false) (hev : ∀ L, ∃ pl : Sem Bool, eval (.Call (.Attribute (.Call (.Name "super" p0) [] [] p1) "__init__" p2) (e :: es) [] p3) (envF F f L) = (do
      let ov ← attributeBase (.Call (.Name "super" p0) [] [] p1) "__init__" (envF F f L) (eval (.Call (.Name "super" p0) [] [] p1) (envF F f L))
      standAt p2.atName
      let (g, first) ← holding [ov] (getMethod ov "__init__" pl)
      callWith p3 g first (backTo p3 (starEach (e :: es) (envF F f L))) []))
    (hA : ∀ A outer s H E, PA (ncx CX P w K mg base ["self", p, "__class__"] F f A outer s H E) (e :: es) ta)
    (h2 : ∀ A outer s H E, PSs (ncx CX P w K mg base ["self", p, "__class__"] F f A outer s H E) [.Assign [.Attribute (.Name "self" p5) fld p6] (.Name p p7) p8] (tOst K fld (tVar 0) (tVar 1)))
    : FnOk P w K mg base CX (k + 1) f fd ["self", p] (spEx C fld ta fun vs => startF ["self", p, "__class__"] vs [some (.ref C)]) := by
  refine ⟨fun vs H Q E h => by obtain ⟨a, x, rfl, _⟩ := h; rfl, fun A outer s H args us vs Q E hr e0 hbd r hsp => ?_⟩
  obtain ⟨a, x, rfl, ea, hta, hq⟩ := hsp
  obtain ⟨oc, od, sl, doc, pm, ctv, rfl, lk⟩ := S.fn
  obtain ⟨cc, ccl, ccd, ccs, hcl, lc⟩ := S.cell
  obtain ⟨fc, fdd, fvs, fcs, file, tf, lf, hvs, hfile⟩ := S.file
  have kp0 : ∀ b o, base.get? b = some o → s.heap.get? b = some o := fun b o e => (e0.bs b o e).1
  have KX : K.In s.heap := e0.mod.kin.keeps kp0
  have lim : s.heap.NoLimit := e0.mod.nolimit.keeps kp0
  have CA : CellsAt F.cl ["__class__"] [some (.ref C)] s.heap H := by
    rw [hcl]
    have cl1 : ∀ y c, [(("__class__" : Str), cc)].lookup y = some c → y = "__class__" ∧ c = cc := fun y c e => by
      simp only [List.lookup_cons, List.lookup_nil] at e
      split at e
      · rename_i q
        exact ⟨eq_of_beq q, (Option.some.inj e).symm⟩
      · cases e
    refine ⟨rfl, fun y c e => ?_, fun y z c e1 e2 => by rw [(cl1 y c e1).1, (cl1 z c e2).1], fun i y hy => ?_⟩
    · obtain ⟨_, rfl⟩ := cl1 y c e
      exact ⟨(e0.bs _ _ (e0.mod.kin _ _ lc)).2, _, _, KX _ _ lc, rfl⟩
    · have : y = "__class__" := by
        cases i with
        | zero => simpa using hy.symm
        | succ i => simp at hy
      subst this
      refine ⟨cc, by simp, fun v hv => ?_⟩
      have : v = .ref C := by
        cases i with
        | zero => simpa using hv.symm
        | succ i => simp at hv
      subst this
      exact ⟨_, rfl, _, KX _ _ lc, rfl⟩
  refine codeAny_call_function hr.depth (KX _ _ lk) rfl SC.co SC.gen rfl (codeRec_of KX S.code) (hbd _ _ _ _ ?_)
  refine wpAny_newFunctionEnv SC.nocell (fun ⟨n, _⟩ hy => SC.par n (List.of_mem_zip hy).1) (fun h₁ hns hsb => ⟨lim.fresh _ hsb, ?_⟩) SC.kind
  show codeAny _ _ (.func F.body (envF F f s.heap.objs.size)) _ _
  refine ks_codeAny_funcAt ?_
  have kp : ∀ b o, s.heap.get? b = some o → h₁.get? b = some o := fun b o e => hsb.extBut b o (Nat.ne_of_lt (Heap.lt_size e)) (Heap.get?_push_of_some _ e)
  have I := inv_startN (CX := CX) (E := E) (f := f) (tk := s.toks + (([("self" : Str), p] : List Str).zip us).length) SC hr.hd e0 rfl r CA hns kp
  have go := h2 A outer s H E
  have gA := hA A outer s H E
  obtain ⟨hp, g, dr, tk, os⟩ := s
  have J := I
  obtain ⟨m, hm, hl⟩ := I.loc
  have KX1 : K.In h₁ := KX.keeps kp
  have vself : m "self" = some (.ref a) := by
    obtain ⟨u, ru, lk'⟩ := hl 0 "self" (.ref a) rfl rfl (.inl (SC.par "self" (by simp)))
    obtain rfl : u = Value.ref a := ru
    rcases lk' with ⟨_, h⟩ | ⟨h, _⟩
    · exact h
    · exfalso
      have := SC.par "self" (by simp)
      rcases h with h | h
      · have h' : F.scope.names.lookup ("self" : Str) = some .cell := h
        rw [this] at h'
        cases h'
      · have h' : F.scope.names.lookup ("self" : Str) = some .free := h
        rw [this] at h'
        cases h'
  have cls : ∃ cd, clsIn K C = some cd := by
    have := S.ini
    unfold ks_superIn at this
    cases e : clsIn K C with
    | none => rw [e] at this; cases this
    | some cd => exact ⟨cd, rfl⟩
  obtain ⟨cd, hcd⟩ := cls
  obtain ⟨oC, hC1, hC2⟩ : ∃ oC, h₁.get? C = some oC ∧ oC.data = .cls cd := by
    unfold clsIn at hcd
    split at hcd
    · rename_i c d cd' sl ho
      cases hcd
      exact ⟨_, KX1 _ _ ho, rfl⟩
    · cases hcd
  obtain ⟨t1, hob⟩ := exo_at I.hok ea
  rw [hb]
  obtain ⟨pl, hev⟩ := hev hp.objs.size
  refine ks_wpAt_execs_cons (ks_wpAt_Expr_any (ks_wpAt_MethodCall (pl := pl) ?_ hev) (hin _) ?hs)
  case hs => rfl
  refine ks_wpAt_super_base hks (SC.frk "__class__" (by simp)) rfl rfl (KX1 _ _ lk) rfl hpar rfl (KX1 _ _ lf) rfl hvs hfile S.top ?_
  obtain ⟨mb, hb1, hb2⟩ := e0.mod.blt
  refine ks_loadName_global SC.kind hks (Calls.loadGlobal_builtin (e0.mod.glob.keeps fun b o z => kp _ _ (kp0 b o z)) hmg (hb1.keeps fun b o z => kp _ _ (kp0 b o z)) ((hb2 "super" (by decide)).trans (show bootBuiltins "super" = some (.type "super") from by decide +kernel)) ⟨rfl, ?_⟩)
  refine wpAny_loadName_free (c := cc) (v := .ref C) SC.kind (SC.frk "__class__" (by simp)) (by show F.cl.lookup ("__class__" : Str) = some cc; rw [hcl]; simp) ⟨_, KX1 _ _ lc, rfl⟩ ?_
  rw [har]
  refine wpAny_loadName_local SC.kind (SC.par "self" (by simp)) hm vself ?_
  refine ks_wpAny_isType_cls hC1 hC2 ⟨rfl, ?_⟩
  refine ks_wpAny_call_super hC1 hC2 hob rfl (fun c z => nomatch z) (looks_mroIn KX1 S.self) (fun h₂ e2 k2 => ?_)
  have KX2 : K.In h₂ := KX1.keeps k2
  have IA : InstAt h₂ a _ C none := ⟨k2 _ _ hob, rfl, rfl, trivial⟩
  have ini : alongIn K "__init__" ((cd.mro.dropWhile (· != .ref C)).drop 1) = some (some (.builtin "ValueError.__init__")) := by
    have := S.ini
    unfold ks_superIn at this
    rw [hcd] at this
    exact this
  refine kxs_getMethod kxs_ValueError e2 (looks_opaque KX2 S.any) (l₀ := cd.mro) (fun A Q E s k q => wpAny_bind ((looks_clsIn KX2 hcd) A _ E s k (wpAny_pure q))) rfl KX2 ini (IA.type.andThen (looks_subIn KX2 S.sub)) (ks_ne KX2 IA hcd) rfl ?_
  have kk : ∀ b o, h₁.get? b = some o → (h₂.push (kxs_mw "ValueError.__init__" a)).get? b = some o := fun b o z => Heap.get?_push_of_some _ (k2 _ _ z)
  have fresh : H h₂.objs.size = none := by
    cases z : H h₂.objs.size with
    | none => rfl
    | some o => exact absurd ((I.kept (t' := 0) k2).hok _ _ z).lt (Nat.lt_irrefl _)
  have nloc : h₂.objs.size ≠ hp.objs.size := by
    obtain ⟨oL, es, ep, hL, _⟩ := hm
    exact (Nat.ne_of_lt (Heap.lt_size (k2 _ _ hL))).symm
  have I2 := (I.kept (h' := h₂.push (kxs_mw "ValueError.__init__" a)) (t' := tk + (([("self" : Str), p] : List Str).zip us).length + 1) kk).pins_of (pins' := [(h₂.objs.size, kxs_mw "ValueError.__init__" a)]) fun q hq => by
    rw [List.mem_singleton.mp hq]
    exact ⟨Heap.get?_push_at rfl rfl, fresh, nloc, (I.kept (t' := 0) k2).nofs (Nat.le_refl _), fun v z => nomatch z⟩
  have run := gA.run p3 _ _ _ _ _ I2 hta
  rw [he] at run ⊢
  refine kxs_callWith (i := "ValueError.__init__") (x := a) (by show (false || (backTo p3 (starEach es (envF F f hp.objs.size))).any (·.1)) = false; rw [hpl]; rfl) (Calls.evalArgs_plain (wpAny_mono run (fun vs s4 z => ?_) fun _ _ z => z))
  obtain ⟨ws, H2, I4, rv, hlen, rfl⟩ := z
  have pin := (I4.pin (h₂.objs.size, kxs_mw "ValueError.__init__" a) (List.mem_append_right _ List.mem_cons_self)).1
  refine ⟨pin, call_mw S.oex I4 ea pin (by show ([] ++ vs).length ≤ _; rw [List.nil_append, ← Paired.length rv, sizeLine_eq]; omega) fun s5 J5 => ?_⟩
  refine wpAt_of_wpAny (wpAny_mono (go.run _ s5 _ _ { nx := fun _ H' => Q .non H', rt := Q } J5 ⟨x, rfl, .ref a, rfl, a, C, rfl, S.oex, hno, .inl ⟨ea, fun dx n ne => hq dx n ne⟩⟩) (fun fl s' hs => ?_) fun _ _ z => z)
  have fin : ∀ {σ' : L2.St} {H' : Hp} {v : V} {u : Value}, Inv (ncx CX P w K mg base ["self", p, "__class__"] F f A outer ⟨hp, g, dr, tk, os⟩ H2 E) [(h₂.objs.size, kxs_mw "ValueError.__init__" a)] σ' H' s' → RelV v u → Q v H' → CE outer P w H2 ⟨hp, g, dr, tk, os⟩ Q u s' := fun {σ' H' v u} J rv q =>
    ⟨v, H', J.os, J.bare, J.base, J.hok, rv, q⟩
  cases fl with
  | ret u => exact let ⟨v, σ', H', J, rv, q⟩ := hs; fin J rv q
  | next => exact let ⟨σ', H', J, q⟩ := hs; fin (v := V.non) (u := Value.none) J rfl q
  | brk => exact let ⟨_, _, _, q⟩ := hs; False.elim q
  | cont => exact let ⟨_, _, _, q⟩ := hs; False.elim q
end
end L2
namespace Mx
open PySem PySem.Spec PyProof.Rows L2
section
variable {K : Fr} {cl : Cl} {H H' H1 : Hp} {O : List Addr}
/-- raise C(e), C's own __init__ gives it the field fld -/
@[simp] def xsRaiseF (c fld : Str) (ok : Dt → Bool) (xe : XE) : XS := fun D => (xe D).out D fun d => if ok d = true then .ex c [(fld, d)] D else .bad
theorem ss_raiseF {E0 : XK} {c fld : Str} {C : Addr} {te : TE} {xe : XE} {tm : TA} {σ0 : List V → L2.St} {ok : Dt → Bool} (hc : cl c = some C)
    (hm : ∀ (x : V) (d : Dt) (Hr H : Hp) (a : Addr), Rep K cl Hr x d → ok d = true → tm (σ0 [.ref a, x]) H (fun us H2 => us.length ≤ 1000 ∧ H2 = H)) (ha : Sim K cl (fun _ => E0) te xe) :
    SimS K cl (fun _ => E0) (fun _ σ H => tMkO C (spEx C fld tm σ0) [] (tCons te tNil) σ H fun cls d H' => E0 cls d H') (xsRaiseF c fld ok xe) := fun B H0 O σ D H s En q => by
  unfold xsRaiseF at q
  refine ha B H0 O σ D H s _ ?_
  cases e : xe D with
  | bad => rw [e] at q; exact q.elim
  | ex c' fs => rw [e] at q; exact q O σ H s (Same.refl _)
  | ok d =>
    rw [e] at q
    simp only [out_ok] at q
    intro x H1 e1 rx
    split at q
    · rename_i hk
      refine ⟨by simp, fun a na => ⟨a, x, rfl, upd_same, hm x d _ _ a rx hk, fun dx nx ne => ?_⟩⟩
      have n1 : H1 dx = none := by rw [upd_ne ne] at nx; exact nx
      have hd : (upd (upd (upd H1 a (exo a C none)) dx (exd dx [(fld, x)])) a (exo a C (some dx))) dx = some (exd dx [(fld, x)]) := by rw [upd_ne ne, upd_same]
      refine ⟨rfl, dx, [(fld, x)], upd_same, hd, n1, ?_⟩
      have sm : Same H1 (upd (del (upd (upd (upd H1 a (exo a C none)) dx (exd dx [(fld, x)])) a (exo a C (some dx))) a) dx (.xd [(fld, x)])) := fun b o hb => by
        have ba : b ≠ a := fun z => by rw [z, na] at hb; cases hb
        have bd : b ≠ dx := fun z => by rw [z, n1] at hb; cases hb
        rw [upd_ne bd, del_ne ba, upd_ne ba, upd_ne bd, upd_ne ba, hb]
      exact (q O σ H1 (s.mono e1) (hid_mono e1) C hc).2 _ dx [(fld, x)] sm upd_same rfl (.cons (rx.mono (hid_mono sm)) .nil)
    · exact q.elim
end
end Mx
set_option exponentiation.threshold 5000
namespace L2
open PySem PySem.Spec PyProof.Rows
/-! ### whole numbers of some size -/
/-- numbers up to here may be multiplied and divided -/
@[irreducible] def lineB : Nat := 2 ^ 4096
theorem lineB_eq : lineB = 2 ^ 4096 := by unfold lineB; rfl
theorem lt_lineB {n k : Nat} (h : n < 2 ^ k) (hk : k ≤ 4096) : n < lineB := by rw [lineB_eq]; exact Nat.lt_of_lt_of_le h (Nat.pow_le_pow_right (by decide) hk)
theorem log_lineB {n : Nat} (h : n < lineB) : n.log2 < 9000 := by
  rw [lineB_eq] at h
  by_cases h0 : n = 0
  · rw [h0, Nat.log2_zero]; decide
  · have : n.log2 < 4096 := (Nat.log2_lt h0).mpr h
    omega
def CMulB (i j : Int) : Prop := CMul i j ∨ (i.natAbs < lineB ∧ j.natAbs < lineB)
theorem cmulB_of {i j : Int} (h : i.natAbs < lineB) (h2 : j.natAbs < lineB) : CMulB i j := .inr ⟨h, h2⟩
theorem cmulB_l (i j : Int) (h : -(2 ^ 64) < i ∧ i < 2 ^ 64) : CMulB i j := .inl (.inl h)
theorem cmulB_r (i j : Int) (h : -(2 ^ 64) < j ∧ j < 2 ^ 64) : CMulB i j := .inl (.inr h)
def CDivB (i j : Int) : Prop := j ≠ 0 ∧ j.natAbs < lineB
instance (i j : Int) : Decidable (CMul i j) := by unfold CMul; infer_instance
instance (i j : Int) : Decidable (CMulB i j) := by unfold CMulB; infer_instance
instance (i j : Int) : Decidable (CDivB i j) := by unfold CDivB; infer_instance
theorem bits_lineB {i : Int} (h : i.natAbs < lineB) : Builtin.Int.intBits i ≤ 2 ^ 20 := by
  rw [lineB_eq] at h
  exact Nat.le_trans ((PySem.intBits_le_iff (m := 4096)).mpr h) (by decide)
section
variable {X : Cx}
theorem op_mulB : OpR X (binaryOp .Mult) (rI CMulB fun i j => .int (i * j)) := opI fun _ _ _ _ _ _ _ hc q => mul_int q (hc.elim CMul.ok fun h => .of_bits (bits_lineB h.1) (bits_lineB h.2))
theorem op_fdivB : OpR X (binaryOp .FloorDiv) (rI CDivB fun i j => .int (i.fdiv j)) := opI fun _ _ _ _ _ _ _ hc q => floordiv_int hc.1 q (.inl (PyProof.noPylong_of_log2 (log_lineB hc.2)))
/-! ### gcd of two and of three -/
theorem args_gcd3 (a b c : Value) : argsOk "math.gcd" ⟨[a, b, c], []⟩ := by unfold argsOk; kernel_rfl
theorem run_gcd3 (a : Int) (t : Tok) (b : Int) (u : Tok) (c : Int) (v : Tok) : Gives (Builtin.«math.gcd» ⟨[.int a t, .int b u, .int c v], []⟩) (.int (((((Nat.gcd 0 a.natAbs).gcd b.natAbs).gcd c.natAbs : Nat) : Int))) :=
  .of_wp fun M A E s Q h => by
    obtain ⟨hp, g, d, tk, os⟩ := s
    wp_walk
    exact ⟨_, rfl, h⟩
def rGcd3 : List V → Hp → VK → Prop := fun vs H Q => ∃ a b c : Int, vs = [.int a, .int b, .int c] ∧ Q (.int ((((a.natAbs.gcd b.natAbs).gcd c.natAbs : Nat)) : Int)) H
def rGcdA : List V → Hp → VK → Prop := fun vs H Q => rGcd vs H Q ∨ rGcd3 vs H Q
theorem cr_gcdA : CallR X (.builtin "math.gcd") rGcdA := by
  intro pins s σ H vs us Q I r h
  rcases h with h | ⟨a, b, c, rfl, q⟩
  · exact cr_gcd pins s σ H vs us Q I r h
  · cases r with
    | cons r1 r =>
      cases r with
      | cons r2 r =>
        cases r with
        | cons r3 r =>
          cases r
          obtain ⟨t, rfl⟩ := r1
          obtain ⟨u, rfl⟩ := r2
          obtain ⟨v, rfl⟩ := r3
          have g := run_gcd3 a t b u c v
          rw [Nat.gcd_zero_left] at g
          exact call_function_meets PySem.W.MGF.kind_gcd PySem.W.MGF.plain_gcd PySem.W.MGF.entry_gcd (args_gcd3 _ _ _) g.meets ⟨.int _, H, I.tok _, ⟨_, rfl⟩, q⟩
end
end L2
namespace Mx
open PySem PySem.Spec PyProof.Rows L2
section
variable {K : Fr} {cl : Cl} {E : L2.St → XK}
abbrev rMulB : R2 := rI CMulB fun i j => .int (i * j)
def dMulB : Dt → Dt → R Dt := dI fun i j => if CMulB i j then .ok (.int (i * j)) else .bad
@[simp] theorem dMulB_int (i j : Int) : dMulB (.int i) (.int j) = if CMulB i j then .ok (.int (i * j)) else .bad := rfl
theorem os_mulB : OpS K cl rMulB dMulB := os_I fun i j H => .int _
abbrev rFdivB : R2 := rI CDivB fun i j => .int (i.fdiv j)
def dFdivB : Dt → Dt → R Dt := dI fun i j => if CDivB i j then .ok (.int (i.fdiv j)) else .bad
@[simp] theorem dFdivB_int (i j : Int) : dFdivB (.int i) (.int j) = if CDivB i j then .ok (.int (i.fdiv j)) else .bad := rfl
theorem os_fdivB : OpS K cl rFdivB dFdivB := os_I fun i j H => .int _
def dGcd : List Dt → R Dt
  | [.int a, .int b] => .ok (.int ((Nat.gcd a.natAbs b.natAbs : Nat) : Int))
  | [.int a, .int b, .int c] => .ok (.int ((((a.natAbs.gcd b.natAbs).gcd c.natAbs : Nat)) : Int))
  | _ => .bad
@[simp] theorem dGcd_2 (a b : Int) : dGcd [.int a, .int b] = .ok (.int ((Nat.gcd a.natAbs b.natAbs : Nat) : Int)) := rfl
@[simp] theorem dGcd_3 (a b c : Int) : dGcd [.int a, .int b, .int c] = .ok (.int ((((a.natAbs.gcd b.natAbs).gcd c.natAbs : Nat)) : Int)) := rfl
theorem cs_gcd : CaS K cl rGcdA dGcd := fun O H xs ds E ho r Q q => by
  unfold dGcd at q
  split at q
  · cases r with
    | cons r1 r => cases r with
      | cons r2 r =>
        cases r
        cases r1.int_
        cases r2.int_
        exact .inl ⟨_, _, rfl, ok_ret q (.int _)⟩
  · cases r with
    | cons r1 r => cases r with
      | cons r2 r => cases r with
        | cons r3 r =>
          cases r
          cases r1.int_
          cases r2.int_
          cases r3.int_
          exact .inr ⟨_, _, _, rfl, ok_ret q (.int _)⟩
  · exact q.elim
end
end Mx
namespace L2
open PySem PySem.Spec PyProof.Rows PySem.W
/-- what a class of the text with its own `in` says to it -/
structure OwnC (K : Frag) (C f : Addr) : Prop where
  at_ : findIn K (.ref C) "__contains__" = some (some (.ref f))
  fn : isFn K (.ref f) = true
section
variable {X : Cx} {CX : CXT} {k n : Nat} {C f : Addr} {fd : FuncData} {ps : List Str} {sp : Sp} {E : XK}
/-- x in o, o an object with its own __contains__ -/
def rInC (C : Addr) (sp : Sp) (E : XK) : R2 := fun x y H Q => ∃ a dx fs, y = .ref a ∧ H a = some (.ins C dx fs) ∧ sp [.ref a, x] H (fun z H' => ∃ b, z = .bl b ∧ Q (.bl b) H') E
theorem op_inC (h : OwnC X.K C f) (F : FnOk X.prog X.w X.K X.mg X.base CX k f fd ps sp) (hr : Room k X.A) (hb : Binds X.K fd ps []) (hx : Passes CX X E) : OpR X (compareOp .In) (rInC C sp E) := by
  intro pins s σ H x y v u Q I rx ry q0
  obtain ⟨a, dx, fs, rfl, ea, q⟩ := q0
  obtain rfl : u = Value.ref a := ry
  obtain ⟨mA, oa, _⟩ := ins_get I.hok ea
  obtain ⟨od, J, _⟩ := oa.look
  obtain ⟨m, fr⟩ := I.fr
  have r := run_fn (ds := []) (dvs := []) F hr hb .nil hx I (us := [.ref a, v]) (vs := [.ref a, x]) (.cons rfl (.cons rx .nil)) q
  exact PySem.W.in_K fr I.ok.mod.kin J h.at_ h.fn (wpAny_mono r (fun z s' hz => by
    obtain ⟨v, H', I', rv, b, rfl, q'⟩ := hz
    obtain rfl : z = Value.bool b := rv
    exact wpAny_truthy_bool ⟨V.bl b, H', I', rfl, q'⟩) fun _ _ z => z)
end
end L2
namespace Mx
open PySem PySem.Spec PyProof.Rows L2
section
variable {K : Fr} {cl : Cl} {H H' H1 H0 : Hp} {O : List Addr} {E : L2.St → XK}
/-! ### x in o -/
def dInC (c : Str) (f : List Dt → R Dt) : Dt → Dt → R Dt := fun x o => match o with
  | .ins c1 fs => if c1 = c then (f [.ins c1 fs, x]).bind (fun d => match d with | .bl b => .ok (.bl b) | _ => .bad) else .bad
  | _ => .bad
def dBl : Dt → R Dt
  | .bl b => .ok (.bl b)
  | _ => .bad
@[simp] theorem dBl_bl (b : Bool) : dBl (.bl b) = .ok (.bl b) := rfl
theorem dInC_ins' (c c1 : Str) (f : List Dt → R Dt) (fs : List (Str × Dt)) (x : Dt) : dInC c f x (.ins c1 fs) = if c1 = c then (f [.ins c1 fs, x]).bind dBl else .bad := rfl
@[simp] theorem dInC_ins (c c1 : Str) (f : List Dt → R Dt) (fs : List (Str × Dt)) (x : Dt) : dInC c f x (.ins c1 fs) = if c1 = c then (f [.ins c1 fs, x]).bind dBl else .bad := rfl
theorem sim_inC {c : Str} {C : Addr} {f : List Dt → R Dt} {E0 : XK} {ta tb : TE} {xa xb : XE} (hc : cl c = some C) (ha : Sim K cl (fun _ => E0) ta xa) (hb : Sim K cl (fun _ => E0) tb xb) :
    Sim K cl (fun _ => E0) (tOp (rInC C (PureSp K cl f) E0) ta tb) (x2 (dInC c f) xa xb) := sim_two ha hb fun O H x y a b tr rx ry Q q => by
  cases ry with
  | ins k e kk rr =>
    rw [dInC_ins] at q
    split at q
    · rename_i h
      subst h
      rw [hc] at k
      cases k
      refine ⟨_, _, _, rfl, hid_same _ _ _ _ e, O, _, tr, .cons (.ins hc e kk rr) (.cons rx .nil), ?_⟩
      revert q
      generalize f _ = z
      intro q
      cases z with
      | bad => exact q
      | ex c fs => exact q
      | ok d =>
        rw [bind_ok] at q
        cases d with
        | bl b =>
          intro v H' e' r'
          cases r'
          exact ⟨_, rfl, q _ H' e' (.bl _)⟩
        | _ => exact q.elim
    · exact q.elim
  | _ => exact q.elim
/-! ### for a, b in zip(xs, ys): two lists -/
def zipD : List Dt → List Dt → List Dt
  | a :: l, b :: m => .tup [a, b] :: zipD l m
  | _, _ => []
@[simp] theorem zipD_cons (a b : Dt) (l m : List Dt) : zipD (a :: l) (b :: m) = .tup [a, b] :: zipD l m := rfl
@[simp] theorem zipD_nil (m : List Dt) : zipD [] m = [] := by cases m <;> rfl
@[simp] theorem zipD_nil2 (m : List Dt) : zipD m [] = [] := by cases m <;> rfl
theorem zipD_get : ∀ {l m : List Dt} {i : Nat} {d : Dt}, (zipD l m)[i]? = some d → ∃ a b, l[i]? = some a ∧ m[i]? = some b ∧ d = .tup [a, b]
  | [], m, i, d, h => by simp at h
  | _ :: _, [], i, d, h => by simp at h
  | a :: l, b :: m, 0, d, h => by simp at h; exact ⟨a, b, rfl, rfl, h.symm⟩
  | a :: l, b :: m, i + 1, d, h => by simpa using zipD_get (l := l) (m := m) (i := i) (by simpa using h)
theorem zipD_len : ∀ (l m : List Dt), (zipD l m).length = min l.length m.length
  | [], m => by simp
  | _ :: _, [] => by simp
  | a :: l, b :: m => by rw [zipD_cons, List.length_cons, zipD_len l m, List.length_cons, List.length_cons]; omega
theorem goes_zip {a b : Addr} {vs ws : List V} {ds es : List Dt} (h : SqL K (hid O H) a vs) (h2 : SqL K (hid O H) b ws) (r : RepL K cl (hid O H) vs ds) (r2 : RepL K cl (hid O H) ws es) : Goes K cl (Itz K a b) (zipD ds es) O H H0 := fun i O' H' _ e t => by
  have h' : SqL K H' a vs := (hid_same O' H').seq (e.seq h)
  have h2' : SqL K H' b ws := (hid_same O' H').seq (e.seq h2)
  refine ⟨fun d hd => ?_, fun hi => ⟨vs, ws, h', h2', by rw [zipD_len] at hi; rw [r.len, r2.len]; omega⟩⟩
  obtain ⟨x, y, hx, hy, rfl⟩ := zipD_get hd
  obtain ⟨v, hv, rv⟩ := r.get hx
  obtain ⟨w, hw, rw_⟩ := r2.get hy
  refine ⟨⟨vs, ws, v, w, h', h2', hv, hw⟩, fun z H2 q => ?_⟩
  obtain ⟨T, x', y', rfl, hT, rfl, f1, f2⟩ := q
  have a1 := f1 vs h'
  have a2 := f2 ws h2'
  rw [hv] at a1; rw [hw] at a2
  cases a1; cases a2
  have nT : T ∉ O' := fun m => by have := t T m; rw [hT] at this; exact mutO_none this
  refine ⟨same_upd hT, .tup (hid_at nT) (.cons ((rv.mono e).mono (hid_mono (same_upd hT))) (.cons ((rw_.mono e).mono (hid_mono (same_upd hT))) .nil))⟩
def lst2 : List Dt → R (List Dt × List Dt)
  | [.lst a, .lst b] => .ok (a, b)
  | _ => .bad
@[simp] theorem lst2_ok (a b : List Dt) : lst2 [.lst a, .lst b] = .ok (a, b) := rfl
@[simp] def xZip (xa : XA) : XA := fun D => (xa D).bind fun l => (lst2 l).bind fun p => .ok (zipD p.1 p.2)
theorem si_zip {ta : TA} {xa : XA} (h : SimA K cl E ta xa) : SimI K cl E (RZ.iZipA K ta) (xZip xa) := fun B H0 O σ D H s Rk q => by
  unfold xZip at q
  refine h B H0 O σ D H s _ ?_
  cases e : xa D with
  | bad => rw [e] at q; exact q.elim
  | ex c fs => rw [e] at q; exact q
  | ok l =>
    rw [e] at q
    simp only [R.bind] at q
    intro vs H1 e1 r
    cases r with
    | nil => exact q.elim
    | cons r1 r => cases r with
      | nil => cases r1 <;> exact q.elim
      | cons r2 r => cases r with
        | cons r3 r => cases r1 <;> first | exact q.elim | (cases r2 <;> exact q.elim)
        | nil =>
          cases r1 <;> first | exact q.elim | skip
          cases r2 <;> first | exact q.elim | skip
          rename_i a vs ds ha ra b ws es hb rb
          exact ⟨a, b, vs, ws, rfl, .inl ⟨SqL.of (hid_same _ _ _ _ ha), SqL.of (hid_same _ _ _ _ hb), q _ H1 e1 (goes_zip (SqL.of ha) (SqL.of hb) ra rb)⟩⟩
/-! ### x += e, whole numbers -/
def augI (g : Int → Int → Int) : Dt → Dt → R Dt
  | .int i, .int j => .ok (.int (g i j))
  | _, _ => .bad
@[simp] theorem augI_int (g : Int → Int → Int) (i j : Int) : augI g (.int i) (.int j) = .ok (.int (g i j)) := rfl
@[simp] def xsAug (i : Nat) (g : Int → Int → Int) (xe : XE) : XS := fun D => (shO D[i]?).out D fun a => (xe D).out D fun b => (augI g a b).get fun d => .nx (D.set i (.sh d))
theorem ss_aug {i : Nat} {g : Int → Int → Int} {te : TE} {xe : XE} (h : Sim K cl E te xe) : SimS K cl E (tAug i te (ipI g)) (xsAug i g xe) := fun B H0 O σ D H s En q => by
  unfold xsAug at q
  cases hi : D[i]? with
  | none => rw [hi] at q; exact q.elim
  | some sl =>
    rw [hi] at q
    cases sl with
    | sh a =>
      obtain ⟨x, e1, rr⟩ := s.slot i _ hi
      refine ⟨x, e1, ?_⟩
      simp only [shO_sh, out_ok] at q
      refine h B H0 O σ D H s _ ?_
      cases e : xe D with
      | bad => rw [e] at q; exact q.elim
      | ex c fs => rw [e] at q; exact q O σ H s (Same.refl _)
      | ok b =>
        rw [e] at q
        intro y H1 f1 r1
        cases a <;> first | exact q.elim | skip
        cases b <;> first | exact q.elim | skip
        cases rr
        cases r1
        exact ⟨_, _, rfl, rfl, q O _ H1 ((s.mono f1).setSh i (.int _)) (hid_mono f1)⟩
    | _ => exact q.elim
end
end Mx
namespace L2
open PySem PySem.Spec PyProof.Rows
/-- a call without keywords, as one with keywords -/
theorem kbn_plain {K : PySem.W.Frag} {fd : FuncData} {ps : List Str} {n : Nat} (b : Binds K fd ps []) (hn : ps.length = n) : KBn K fd ps n [] (fun us ws => us ++ ws) (fun vs zs => vs ++ zs) where
  to := fun s us ws X h1 h2 => by
    have e : ws = [] := List.eq_nil_of_length_eq_zero (by simpa using h2)
    subst e
    exact b s us X (by rw [List.append_nil, h1, hn])
  rel := fun r1 r2 => r1.append r2
end L2
namespace Mx
open PySem PySem.Spec PyProof.Rows L2
section
variable {K : Fr} {cl : Cl} {H H' H1 H0 : Hp} {O O' B : List Addr} {E : L2.St → XK} {E0 : XK} {σ : L2.St} {D : Ds}
/-! ### a list that a def has been lent -/
def itemsS : Option Sl → R (List Dt)
  | some (.sh d) => dItems d
  | some (.br l) => .ok l
  | _ => .bad
@[simp] theorem itemsS_sh (d : Dt) : itemsS (some (.sh d)) = dItems d := rfl
@[simp] theorem itemsS_br (l : List Dt) : itemsS (some (.br l)) = .ok l := rfl
@[simp] def xItemsV (i : Nat) : XA := fun D => itemsS D[i]?
theorem goes_br {a : Addr} {vs : List V} {ds : List Dt} (h : H0 a = some (.lst vs)) (r : RepL K cl (hid O H) vs ds) : Goes K cl (Itl K a) ds O H H0 := fun i O' H' e0 e t => by
  have h' : SqL K H' a vs := SqL.of (e0 _ _ h)
  refine ⟨fun d hd => ?_, fun hi => ⟨vs, h', by rw [r.len, hi]; exact Nat.le_refl _⟩⟩
  obtain ⟨v, hv, rv⟩ := r.get hd
  exact ⟨⟨vs, v, h', hv⟩, fun x H2 y => by
    obtain ⟨rfl, y⟩ := y
    have := y vs h'
    rw [hv] at this
    cases this
    exact ⟨Same.refl _, rv.mono e⟩⟩
theorem si_slot {i : Nat} : SimI K cl E (iList K (tVar i)) (xItemsV i) := fun B H0 O σ D H s Rk q => by
  unfold xItemsV at q
  cases e : D[i]? with
  | none => rw [e] at q; exact q.elim
  | some sl =>
    rw [e] at q
    cases sl with
    | sh d =>
      obtain ⟨x, ex, r⟩ := s.slot i _ e
      refine ⟨x, ex, ?_⟩
      simp only [itemsS_sh] at q
      cases d with
      | lst l =>
        cases r with
        | lst ha ra => exact ⟨_, rfl, ⟨_, SqL.of (hid_same _ _ _ _ ha)⟩, q _ H (Same.refl _) (goes_list (SqL.of ha) ra)⟩
      | frl l =>
        cases r with
        | frl ha ra => exact ⟨_, rfl, ⟨_, (hid_same _ _).seq ha⟩, q _ H (Same.refl _) (goes_list ha ra)⟩
      | _ => exact q.elim
    | br l =>
      obtain ⟨a, xs, ex, m, h0, r⟩ := s.slot i _ e
      exact ⟨_, ex, _, rfl, ⟨_, SqL.of (s.same _ _ h0)⟩, q _ H (Same.refl _) (goes_br h0 r)⟩
    | _ => exact q.elim
/-- arguments, some of which are lent lists -/
inductive RepM (K : Fr) (cl : Cl) (O : List Addr) (H : Hp) : List Bool → List V → List Dt → Prop
  | nil : RepM K cl O H [] [] []
  | lent {a : Addr} {xs : List V} {l : List Dt} {ms : List Bool} {vs : List V} {ds : List Dt} : a ∈ O → H a = some (.lst xs) → RepL K cl (hid O H) xs l → RepM K cl O H ms vs ds → RepM K cl O H (true :: ms) (.ref a :: vs) (.lst l :: ds)
  | cons {v : V} {d : Dt} {ms : List Bool} {vs : List V} {ds : List Dt} : Rep K cl (hid O H) v d → RepM K cl O H ms vs ds → RepM K cl O H (false :: ms) (v :: vs) (d :: ds)
theorem RepM.mono (e : Same H H') : ∀ {ms : List Bool} {vs : List V} {ds : List Dt}, RepM K cl O H ms vs ds → RepM K cl O H' ms vs ds
  | _, _, _, .nil => .nil
  | _, _, _, .lent m h r q => .lent m (e _ _ h) (r.mono (hid_mono e)) (q.mono e)
  | _, _, _, .cons r q => .cons (r.mono (hid_mono e)) (q.mono e)
theorem RepM.len : ∀ {ms : List Bool} {vs : List V} {ds : List Dt}, RepM K cl O H ms vs ds → vs.length = ds.length
  | _, _, _, .nil => rfl
  | _, _, _, .lent _ _ _ q => by rw [List.length_cons, List.length_cons, q.len]
  | _, _, _, .cons _ q => by rw [List.length_cons, List.length_cons, q.len]
/-- the slots of such arguments -/
def slM : List Bool → List Dt → List Sl
  | true :: ms, .lst l :: ds => .br l :: slM ms ds
  | _ :: ms, d :: ds => .sh d :: slM ms ds
  | _, _ => []
theorem slM_ow {t : Ow} : ∀ {ms : List Bool} {ds : List Dt}, Sl.ow t ∈ slM ms ds → False := by
  intro ms
  induction ms with
  | nil => intro ds h; simp [slM] at h
  | cons b ms ih =>
    intro ds h
    cases ds with
    | nil => simp [slM] at h
    | cons d ds =>
      unfold slM at h
      split at h
      · rename_i e1 e2
        cases e1; cases e2
        rcases List.mem_cons.mp h with e | m
        · cases e
        · exact ih m
      · rename_i e1 e2
        cases e1; cases e2
        rcases List.mem_cons.mp h with e | m
        · cases e
        · exact ih m
      · cases h
theorem RepM.slots (hB : ∀ a, a ∈ O → MutO (H a) = true) : ∀ {ms : List Bool} {vs : List V} {ds : List Dt}, RepM K cl O H ms vs ds → (slM ms ds).length = ds.length ∧ ∀ (i : Nat) s, (slM ms ds)[i]? = some s → s.own = false ∧ ∀ (w : Option (Option V)), w = (vs[i]?).map some → SlotOk K cl H O H w s
  | _, _, _, .nil => ⟨rfl, fun i s h => by simp [slM] at h⟩
  | _, _, _, .lent (l := l) m h r q => by
    obtain ⟨q1, q2⟩ := q.slots hB
    refine ⟨by simp [slM, q1], fun i s hs => ?_⟩
    cases i with
    | zero => simp [slM] at hs; subst hs; exact ⟨rfl, fun w e => ⟨_, _, by rw [e]; rfl, m, h, r⟩⟩
    | succ i => exact q2 i s (by simpa [slM] using hs)
  | _, _, _, .cons (d := d) (ms := ms) (ds := ds) r q => by
    obtain ⟨q1, q2⟩ := q.slots hB
    have e : slM (false :: ms) (d :: ds) = .sh d :: slM ms ds := rfl
    rw [e]
    refine ⟨by simp [q1], fun i s hs => ?_⟩
    cases i with
    | zero => simp at hs; subst hs; exact ⟨rfl, fun w e => ⟨_, by rw [e]; rfl, r⟩⟩
    | succ i => exact q2 i s (by simpa using hs)
def InitSpM (K : Fr) (cl : Cl) (c : Str) (ms : List Bool) (f : List Dt → R (List (Str × Dt))) : Sp := fun vs H Q E => ∃ B ds H0 x dx C rest, cl c = some C ∧ vs = .ref x :: rest ∧ H = upd (upd H0 dx (.own x)) x (.ins C dx []) ∧ H0 x = none ∧ H0 dx = none ∧ dx ≠ x ∧
  (∀ a, a ∈ B → MutO (H0 a) = true) ∧ RepM K cl B H0 ms rest ds ∧ PostI K cl E B H0 x C Q (f ds)
def runIM (c : Str) (n : Nat) (ms : List Bool) (xs : XS) (x : Addr) (ds : List Dt) : R (List (Str × Dt)) := match xs (Sl.oi x c [] :: (slM ms ds ++ List.replicate (n - (ds.length + 1)) .no)) with
  | .nx D => match D[0]? with
    | some (Sl.oi y c' fs) => if y = x ∧ c' = c then .ok fs else .bad
    | _ => .bad
  | .ex c fs _ => .ex c fs
  | _ => .bad
theorem init_okM {N : List Str} {ts : TS} {xs : XS} {vs : List V} {H : Hp} {Q : VK} {E : XK} {c : Str} {ms : List Bool} {k : Nat} {f : List Dt → R (List (Str × Dt))} (hs : SimS K cl (fun _ => E) ts xs) (hN : k + 1 ≤ N.length)
    (hf : ∀ x ds r, f ds = r → r ≠ .bad → ds.length = k ∧ runIM c N.length ms xs x ds = r) (h : InitSpM K cl c ms f vs H Q E) : ts { nx := fun _ H' => Q .non H', rt := Q } (L2.start N vs) H := by
  obtain ⟨B, ds, H0, x, dx, C, rest, hc, rfl, rfl, nx, nd, ne, hB, r, q⟩ := h
  have nb : f ds ≠ .bad := fun e => by rw [e] at q; exact q
  obtain ⟨hlen, hrun⟩ := hf x ds _ rfl nb
  obtain ⟨sl, so⟩ := r.slots hB
  have e1 : Same H0 (upd (upd H0 dx (.own x)) x (.ins C dx [])) := fun b o e => by
    rw [upd_ne (ne_of_none e nx), upd_ne (ne_of_none e nd)]; exact e
  have rs0 : RS K cl B H0 B (L2.start N (V.ref x :: rest)) (.no :: (slM ms ds ++ List.replicate (N.length - (ds.length + 1)) .no)) H0 := by
    refine ⟨Same.refl _, fun a m => ⟨m, hB a m⟩, fun a m => ⟨.inl m, hB a m⟩, ?_, fun i s h => ?_, fun i j s t a hij a1 a2 o1 o2 h1 => ?_, Inn.none fun i t h => ?_⟩
    · simp [L2.start, r.len, sl]
    · cases i with
      | zero => simp at h; subst h; trivial
      | succ i =>
        rw [List.getElem?_cons_succ] at h
        by_cases hi : i < ds.length
        · rw [List.getElem?_append_left (by rw [sl]; exact hi)] at h
          refine (so i s h).2 _ ?_
          unfold L2.start
          rw [List.getElem?_append_left (by rw [List.length_map, List.length_cons, r.len]; omega), List.getElem?_map, List.getElem?_cons_succ]
        · rw [List.getElem?_append_right (by rw [sl]; omega)] at h
          have := List.eq_of_mem_replicate (List.mem_of_getElem? h)
          subst this
          trivial
    · have hs : ∀ (i : Nat) s, (Sl.no :: (slM ms ds ++ List.replicate (N.length - (ds.length + 1)) .no))[i]? = some s → s.own = false := fun i s h => by
        have m := List.mem_of_getElem? h
        rcases List.mem_cons.mp m with rfl | m
        · rfl
        rcases List.mem_append.mp m with m | m
        · obtain ⟨j, hj⟩ := List.mem_iff_getElem?.mp m
          exact (so j s hj).1
        · have := List.eq_of_mem_replicate m; subst this; rfl
      rw [hs i s a1] at o1
      cases o1
    · have m := List.mem_of_getElem? h
      rcases List.mem_cons.mp m with e | m
      · cases e
      rcases List.mem_append.mp m with m | m
      · exact slM_ow m
      · have := List.eq_of_mem_replicate m; cases this
  have rs1 := rs0.setOwn 0 (p := x) (s := .oi x c []) e1 nx ⟨C, dx, [], ⟨hc, rfl⟩, upd_same, rfl, .nil⟩ (by rw [upd_same]; rfl)
  have es : (L2.start N (V.ref x :: rest)).set 0 (some (.ref x)) = L2.start N (V.ref x :: rest) := by simp [L2.start]
  rw [es] at rs1
  refine hs B H0 (x :: B) _ _ _ rs1 _ ?_
  show PostS K cl B H0 (fun _ => E) _ _ _ (xs (Sl.oi x c [] :: (slM ms ds ++ List.replicate (N.length - (ds.length + 1)) .no)))
  rw [← hrun] at q
  unfold runIM at q
  cases e : xs (Sl.oi x c [] :: (slM ms ds ++ List.replicate (N.length - (ds.length + 1)) .no)) with
  | bad => rw [e] at q; exact q.elim
  | nx D =>
    rw [e] at q
    simp only at q
    intro O' σ' H' s f
    split at q
    · rename_i y c' fs hD
      split at q
      · rename_i hy
        obtain ⟨rfl, rfl⟩ := hy
        obtain ⟨a, ea, ma, C', dx', fv, c1, ha, hk, ra⟩ := own_at s hD rfl
        obtain ⟨c2, rfl⟩ := c1
        rw [hc] at c2
        cases c2
        have hx' : H' a = some (.ins C dx' fv) := ha
        have sub : ∀ b, b ∈ a :: B → b ∈ O' := fun b m => by
          rcases List.mem_cons.mp m with rfl | m
          · exact ma
          · exact (s.bas b m).1
        exact q H' dx' fv s.same hx' hk (ra.mono (hid_sub sub))
      · exact q.elim
    · exact q.elim
  | rt d => rw [e] at q; exact q.elim
  | bk D => rw [e] at q; exact q.elim
  | ct D => rw [e] at q; exact q.elim
  | ex c fs D => rw [e] at q; exact fun O' σ' H' s f => (ExOk.mono s.same q).sub fun a m => (s.bas a m).1
theorem initSpM_len {c : Str} {ms : List Bool} {f : List Dt → R (List (Str × Dt))} {k : Nat} {vs : List V} {H : Hp} {Q : VK} {E : XK} (h : InitSpM K cl c ms f vs H Q E) (hf : ∀ ds : List Dt, ¬ ds.length = k → f ds = .bad) : vs.length = k + 1 := by
  obtain ⟨B, ds, H0, x, dx, C, rest, hc, rfl, rfl, nx, nd, ne, hB, r, q⟩ := h
  by_cases e : ds.length = k
  · rw [List.length_cons, r.len, e]
  · rw [hf ds e] at q
    exact q.elim
/-! the caller's side -/
def PostM (K : Fr) (cl : Cl) (E : XK) (O : List Addr) (ms : List Bool) (H : Hp) (Q : List V → Hp → Prop) : R (List Dt) → Prop
  | .bad => False
  | .ex c fs => ExOk K cl E O c fs H
  | .ok ds => ∀ vs H', Same H H' → RepM K cl O H' ms vs ds → Q vs H'
def SimM (K : Fr) (cl : Cl) (E : L2.St → XK) (ms : List Bool) (ta : TA) (xa : XA) : Prop := ∀ B H0 O σ D H, RS K cl B H0 O σ D H → ∀ Q : List V → Hp → Prop, PostM K cl (E σ) O ms H Q (xa D) → ta σ H Q
theorem sm_nil : SimM K cl E [] tNil xNil := fun B H0 O σ D H r Q q => q _ H (Same.refl H) .nil
theorem sm_cons {ms : List Bool} {ta : TE} {tr : TA} {xa : XE} {xr : XA} (ha : Sim K cl E ta xa) (hr : SimM K cl E ms tr xr) : SimM K cl E (false :: ms) (tCons ta tr) (xCons xa xr) := fun B H0 O σ D H s Q q => by
  unfold xCons at q
  refine ha B H0 O σ D H s _ ?_
  cases ea : xa D with
  | bad => rw [ea] at q; exact q.elim
  | ex c fs => rw [ea] at q; exact q
  | ok a =>
    rw [ea] at q
    intro x H1 e1 rx
    refine hr B H0 O σ D H1 (s.mono e1) _ ?_
    simp only [R.bind] at q
    cases eb : xr D with
    | bad => rw [eb] at q; exact q.elim
    | ex c fs => rw [eb] at q; exact ExOk.mono e1 q
    | ok b =>
      rw [eb] at q
      intro y H2 e2 ry
      exact q _ H2 (e1.trans e2) (.cons (rx.mono (hid_mono e2)) ry)
def lentS : Option Sl → R Dt
  | some (.ol l) => .ok (.lst l)
  | some (.br l) => .ok (.lst l)
  | _ => .bad
@[simp] theorem lentS_ol (l : List Dt) : lentS (some (.ol l)) = .ok (.lst l) := rfl
@[simp] theorem lentS_br (l : List Dt) : lentS (some (.br l)) = .ok (.lst l) := rfl
@[simp] def xLent (i : Nat) : XE := fun D => lentS D[i]?
theorem sm_lent {i : Nat} {ms : List Bool} {tr : TA} {xr : XA} (hr : SimM K cl E ms tr xr) : SimM K cl E (true :: ms) (tCons (tVar i) tr) (xCons (xLent i) xr) := fun B H0 O σ D H s Q q => by
  unfold xCons xLent at q
  cases ei : D[i]? with
  | none => rw [ei] at q; exact q.elim
  | some sl =>
    have go : ∀ (l : List Dt) (a : Addr) (xs : List V), σ[i]? = some (some (.ref a)) → a ∈ O → H a = some (.lst xs) → RepL K cl (hid O H) xs l → ((R.ok (Dt.lst l)).bind fun a => (xr D).bind fun r => .ok (a :: r)) = (lentS D[i]?).bind (fun a => (xr D).bind fun r => .ok (a :: r)) → tCons (tVar i) tr σ H Q := fun l a xs e m h r eq => by
      rw [← eq] at q
      refine ⟨_, e, ?_⟩
      refine hr B H0 O σ D H s _ ?_
      simp only [R.bind] at q
      cases eb : xr D with
      | bad => rw [eb] at q; exact q.elim
      | ex c fs => rw [eb] at q; exact q
      | ok b =>
        rw [eb] at q
        intro y H2 e2 ry
        exact q _ H2 e2 (.lent m (e2 _ _ h) (r.mono (hid_mono e2)) ry)
    cases sl with
    | ol l =>
      obtain ⟨a, e, m, vs, h1, rr⟩ := s.slot i _ ei
      exact go l a vs e m.1 h1 rr (by rw [ei]; rfl)
    | br l =>
      obtain ⟨a, xs, e, m, h0, rr⟩ := s.slot i _ ei
      exact go l a xs e m (s.same _ _ h0) rr (by rw [ei]; rfl)
    | _ => rw [ei] at q; exact q.elim
theorem RepM.ref {ms : List Bool} {vs : List V} {ds : List Dt} (h : RepM K cl O H ms vs ds) : RepM K cl O H ms vs ds := h
@[simp] def xMakeM (c : Str) (n : Nat) (f : List Dt → R (List (Str × Dt))) (xa : XA) : XE := fun D => (xa D).bind fun ds => if ds.length = n then (f ds).bind fun fs => .ok (.ins c fs) else .bad
theorem sim_makeM {c : Str} {C : Addr} {n : Nat} {ms : List Bool} {f : List Dt → R (List (Str × Dt))} {gV : List V → List V → List V} {ta : TA} {xa : XA} (hc : cl c = some C) (hg : ∀ x vs, gV (.ref x :: vs) [] = .ref x :: vs)
    (ha : SimM K cl (fun _ => E0) ms ta xa) : Sim K cl (fun _ => E0) (tMakeK C n 0 (InitSpM K cl c ms f) gV E0 ta tNil) (xMakeM c n f xa) := fun B H0 O σ D H s Q q => by
  unfold xMakeM at q
  refine ha B H0 O σ D H s _ ?_
  cases ea : xa D with
  | bad => rw [ea] at q; exact q.elim
  | ex c fs => rw [ea] at q; exact q
  | ok ds =>
    rw [ea] at q
    simp only [Mx.R.bind] at q
    intro vs H1 e1 r1
    show tNil σ H1 _
    by_cases hl : ds.length = n
    · rw [if_pos hl] at q
      have s2 := s.mono e1
      refine ⟨by rw [r1.len]; exact hl, rfl, fun x dx nx nd ne => ?_⟩
      rw [hg]
      refine ⟨O, ds, H1, x, dx, C, vs, hc, rfl, rfl, nx, nd, ne, s2.trk, r1, ?_⟩
      cases ef : f ds with
      | bad => rw [ef] at q; exact q.elim
      | ex c fs => rw [ef] at q; exact ExOk.mono e1 q
      | ok fs =>
        rw [ef] at q
        intro H' dx' fv e3 hx hkeys rf
        refine ⟨rfl, q _ H' (e1.trans e3) (.ins (dx := dx') hc (by rw [hid_nin (trk_nin s2.trk nx)]; exact hx) hkeys (rf.mono (hid_sub fun a m => List.mem_cons_of_mem _ m)))⟩
    · rw [if_neg hl] at q
      exact q.elim
/-- what the body of an __init__ gives, by the slots behind self -/
def runJ (c : Str) (xs : XS) (x : Addr) (rest : List Sl) : R (List (Str × Dt)) := match xs (Sl.oi x c [] :: rest) with
  | .nx D => match D[0]? with
    | some (Sl.oi y c' fs) => if y = x ∧ c' = c then .ok fs else .bad
    | _ => .bad
  | .ex c fs _ => .ex c fs
  | _ => .bad
theorem runI_J (c : Str) (n : Nat) (xs : XS) (x : Addr) (ds : List Dt) : runI c n xs x ds = runJ c xs x (ds.map Sl.sh ++ List.replicate (n - (ds.length + 1)) .no) := rfl
theorem runIM_J (c : Str) (n : Nat) (ms : List Bool) (xs : XS) (x : Addr) (ds : List Dt) : runIM c n ms xs x ds = runJ c xs x (slM ms ds ++ List.replicate (n - (ds.length + 1)) .no) := rfl
theorem slM_cons (b : Bool) (a : Dt) : ∃ s, ∀ ms ds, slM (b :: ms) (a :: ds) = s :: slM ms ds := by
  cases b
  · exact ⟨_, fun _ _ => rfl⟩
  · cases a <;> exact ⟨_, fun _ _ => rfl⟩
theorem slM_nil : slM [] [] = [] := rfl
end
end Mx
namespace Mx
open PySem PySem.Spec PyProof.Rows L2
section
variable {K : Fr} {cl : Cl} {H H' H1 H0 : Hp} {O O' B : List Addr} {E : L2.St → XK} {E0 : XK} {σ : L2.St} {D : Ds}
/-! ### a def that returns a new list -/
inductive OutR where
  | bad | rt (l : List Dt) | ex (c : Str) (fs : List (Str × Dt)) (D : Ds)
abbrev XR := Ds → OutR
def PostR (K : Fr) (cl : Cl) (B : List Addr) (H0 : Hp) (E : L2.St → XK) (En : Ends) (O : List Addr) (H : Hp) : OutR → Prop
  | .bad => False
  | .rt l => ∀ p vs H', Same H0 H' → H0 p = none → H' p = some (.lst vs) → RepL K cl (hid (p :: B) H') vs l → En.rt (.ref p) H'
  | .ex c fs D => ∀ O' σ' H', RS K cl B H0 O' σ' D H' → Same (hid O H) (hid O' H') → ExOk K cl (E σ') O' c fs H'
def SimR (K : Fr) (cl : Cl) (E : L2.St → XK) (ts : TS) (xr : XR) : Prop := ∀ B H0 O σ D H, RS K cl B H0 O σ D H → ∀ En, PostR K cl B H0 E En O H (xr D) → ts En σ H
def R.outR (D : Ds) {α : Type} : R α → (α → OutR) → OutR
  | .bad, _ => .bad
  | .ex c fs, _ => .ex c fs D
  | .ok a, f => f a
@[simp] theorem outR_bad {D : Ds} {α : Type} {f : α → OutR} : R.outR D .bad f = .bad := rfl
@[simp] theorem outR_ex {D : Ds} {α : Type} {c : Str} {fs : List (Str × Dt)} {f : α → OutR} : R.outR D (.ex c fs) f = .ex c fs D := rfl
@[simp] theorem outR_ok {D : Ds} {α : Type} {a : α} {f : α → OutR} : R.outR D (.ok a) f = f a := rfl
theorem base_sub {a : Addr} (s : RS K cl B H0 O σ D H) (e : Same H H') {p : Addr} (m : p ∈ O ∨ True) : ∀ b, b ∈ p :: B → b ∈ p :: O := fun b hb => by
  rcases List.mem_cons.mp hb with rfl | hb
  · exact List.mem_cons_self
  · exact List.mem_cons_of_mem _ (s.bas b hb).1
@[simp] def xrRet (xl : XA) : XR := fun D => (xl D).outR D fun l => .rt l
theorem sr_ret {te : TE} {xl : XA} (h : SimL K cl E te xl) : SimR K cl E (tRet te) (xrRet xl) := fun B H0 O σ D H s En q => by
  unfold xrRet at q
  refine h B H0 O σ D H s _ ?_
  cases e : xl D with
  | bad => rw [e] at q; exact q.elim
  | ex c fs => rw [e] at q; exact q O σ H s (Same.refl _)
  | ok l =>
    rw [e] at q
    intro p vs H1 e1 np hp r
    exact q p vs H1 (s.same.trans e1) (s.same.free np) hp (r.mono (hid_sub fun b hb => by
      rcases List.mem_cons.mp hb with rfl | hb
      · exact List.mem_cons_self
      · exact List.mem_cons_of_mem _ (s.bas b hb).1))
def ownL : Option Sl → R (List Dt)
  | some (.ol l) => .ok l
  | _ => .bad
@[simp] theorem ownL_ol (l : List Dt) : ownL (some (.ol l)) = .ok l := rfl
@[simp] def xrOwn (i : Nat) : XR := fun D => (ownL D[i]?).outR D fun l => .rt l
theorem sr_own {i : Nat} : SimR K cl E (tRet (tVar i)) (xrOwn i) := fun B H0 O σ D H s En q => by
  unfold xrOwn at q
  cases e : D[i]? with
  | none => rw [e] at q; exact q.elim
  | some sl =>
    rw [e] at q
    cases sl with
    | ol l =>
      obtain ⟨a, ea, m, vs, h1, rr⟩ := s.slot i _ e
      refine ⟨_, ea, q a vs H s.same m.2 h1 (rr.mono (hid_sub fun b hb => ?_))⟩
      rcases List.mem_cons.mp hb with rfl | hb
      · exact m.1
      · exact (s.bas b hb).1
    | _ => exact q.elim
def Out.seqR (o : Out) (ys : XR) : OutR := match o with
  | .nx D => ys D
  | .ex c fs D => .ex c fs D
  | _ => .bad
@[simp] theorem seqR_nx (D : Ds) (ys : XR) : Out.seqR (.nx D) ys = ys D := rfl
@[simp] theorem seqR_ex (c : Str) (fs : List (Str × Dt)) (D : Ds) (ys : XR) : Out.seqR (.ex c fs D) ys = .ex c fs D := rfl
@[simp] def xrSeq (xs : XS) (ys : XR) : XR := fun D => (xs D).seqR ys
theorem PostR.fw {En : Ends} (e : Same (hid O H) (hid O' H')) {o : OutR} (q : PostR K cl B H0 E En O H o) : PostR K cl B H0 E En O' H' o := by
  cases o with
  | bad => exact q
  | rt l => exact q
  | ex c fs D => exact fun O2 σ2 H2 r f => q O2 σ2 H2 r (e.trans f)
theorem sr_seq {t u : TS} {xs : XS} {ys : XR} (h1 : SimS K cl E t xs) (h2 : SimR K cl E u ys) : SimR K cl E (tSeq t u) (xrSeq xs ys) := fun B H0 O σ D H s En q => by
  refine h1 B H0 O σ D H s _ ?_
  unfold xrSeq at q
  cases e : xs D with
  | nx D1 =>
    rw [e] at q
    exact fun O' σ' H' r f => h2 B H0 O' σ' D1 H' r En (PostR.fw f q)
  | ex c fs D1 => rw [e] at q; exact q
  | _ => rw [e] at q; exact q.elim
def LstSp (K : Fr) (cl : Cl) (f : List Dt → R (List Dt)) : Sp := fun vs H Q E => ∃ B ds, (∀ a, a ∈ B → MutO (H a) = true) ∧ RepL K cl (hid B H) vs ds ∧ PostL K cl E B H Q (f ds)
def runR (n : Nat) (xr : XR) (ds : List Dt) : R (List Dt) := match xr (ds.map Sl.sh ++ List.replicate (n - ds.length) .no) with
  | .rt l => .ok l
  | .ex c fs _ => .ex c fs
  | _ => .bad
def funR (k n : Nat) (xr : XR) (ds : List Dt) : R (List Dt) := if ds.length = k then runR n xr ds else .bad
theorem body_okR {N : List Str} {ts : TS} {xr : XR} {vs : List V} {H : Hp} {Q : VK} {E : XK} {k : Nat} (hs : SimR K cl (fun _ => E) ts xr) (hk : vs.length = k) (hN : k ≤ N.length)
    (h : LstSp K cl (funR k N.length xr) vs H Q E) : ts { nx := fun _ H' => Q .non H', rt := Q } (start N vs) H := by
  obtain ⟨B, ds, hB, r, q⟩ := h
  unfold funR at q
  rw [if_pos (by rw [← r.len]; exact hk)] at q
  refine hs B H B _ _ H (rs_start hB r (by omega)) _ ?_
  unfold runR at q
  cases e : xr (ds.map Sl.sh ++ List.replicate (N.length - ds.length) .no) with
  | bad => rw [e] at q; exact q.elim
  | rt l => rw [e] at q; exact fun p vs H' e1 np hp r => q p vs H' e1 np hp r
  | ex c fs D => rw [e] at q; exact fun O' σ' H' s f => (ExOk.mono s.same q).sub fun a m => (s.bas a m).1
theorem LstSp.len {k n : Nat} {xr : XR} {vs : List V} {H : Hp} {Q : VK} {E : XK} (h : LstSp K cl (funR k n xr) vs H Q E) : vs.length = k := by
  obtain ⟨B, ds, hB, r, q⟩ := h
  unfold funR at q
  split at q
  · rename_i e; rw [r.len]; exact e
  · exact q.elim
@[simp] def xCallL (f : List Dt → R (List Dt)) (xa : XA) : XA := fun D => (xa D).bind f
theorem simL_call {f : List Dt → R (List Dt)} {ta : TA} {xa : XA} (ha : SimA K cl E ta xa) : SimL K cl E (tCallSD (LstSp K cl f) [] E ta) (xCallL f xa) := fun B H0 O σ D H s Q q => by
  refine ha B H0 O σ D H s _ ?_
  cases ea : xa D with
  | bad => simp only [xCallL, ea] at q; exact q.elim
  | ex c fs => simp only [xCallL, ea] at q; exact q
  | ok ds =>
    simp only [xCallL, ea] at q
    intro vs H1 e1 r
    exact ⟨O, ds, (s.mono e1).trk, by rw [List.append_nil]; exact r, post_L e1 q⟩
def R.okOrL : R (List Dt) → R (List Dt)
  | .ok a => .ok a
  | _ => .bad
@[simp] theorem okOrL_ok (a : List Dt) : R.okOrL (.ok a) = .ok a := rfl
def dPropL (c : Str) (f : List Dt → R (List Dt)) (d : Dt) : R (List Dt) := match d with
  | .ins c' fs => if c' = c then (f [.ins c' fs]).okOrL else .bad
  | _ => .bad
@[simp] theorem dPropL_ins (c : Str) (f : List Dt → R (List Dt)) (fs : List (Str × Dt)) : dPropL c f (.ins c fs) = (f [.ins c fs]).okOrL := by simp [dPropL]
@[simp] def x1L (f : Dt → R (List Dt)) (xa : XE) : XA := fun D => (xa D).bind f
theorem simL_prop {c : Str} {C : Addr} {f : List Dt → R (List Dt)} {E1 : XK} {ta : TE} {xa : XE} (hc : cl c = some C) (ha : Sim K cl E ta xa) :
    SimL K cl E (tProp C (LstSp K cl f) [] E1 ta) (x1L (dPropL c f) xa) := fun B H0 O σ D H s Q q => by
  unfold x1L at q
  refine ha B H0 O σ D H s _ ?_
  cases ea : xa D with
  | bad => rw [ea] at q; exact q.elim
  | ex c fs => rw [ea] at q; exact q
  | ok d =>
    rw [ea] at q
    simp only [Mx.R.bind] at q
    intro v H1 e1 r
    cases d with
    | ins c' fs =>
      simp only [dPropL] at q
      by_cases hd : c' = c
      · rw [if_pos hd] at q
        subst hd
        have r' := r
        cases r with
        | ins c1 h1 hk rr =>
          rw [hc] at c1
          cases c1
          refine ⟨_, _, _, rfl, hid_same _ _ _ _ h1, O, [.ins c' fs], (s.mono e1).trk, RepL.one r', ?_⟩
          cases ef : f [.ins c' fs] with
          | bad => rw [ef] at q; exact q.elim
          | ex c2 fs2 => rw [ef] at q; exact q.elim
          | ok d => rw [ef] at q; exact fun p vs H' e n h1 h => q p vs H' (e1.trans e) (e1.free n) h1 h
      · rw [if_neg hd] at q
        exact q.elim
    | _ => exact q.elim
end
end Mx
namespace RT
open PySem PySem.Spec PyProof.Rows L2
section
variable {prog : Program} {w : World} {A : Around} {E : Value → Shared → Prop} {s : Shared} {R : Result → Shared → Prop}
theorem wpAny_list_init_rev {it l : Addr} {items : Array Value} {S : Addr} (hh : A.handled = none) (hit : s.heap.IsRevIter it l ((items.size : Int) - 1)) (hl : s.heap.IsList l items) (hne : l ≠ it) (hSi : S ≠ it) (hSl : S ≠ l) (hn : items.size ≤ sizeLine)
    (hS : s.heap.get? S = some { cls := .type "list", data := .seq #[] })
    (hR : ∀ s' acc' c', Moved [S, it] (fun a b => b = a) s s' → s'.heap.get? S = some { cls := .type "list", dict := none, data := .seq acc' c', slots := #[] } → ItemsOf (fun i v => items[items.size - 1 - i]? = some v) acc' items.size → R (.ok (.ret .none)) s') :
    wpAny (model prog w) A.in1 (Builtin.«list.__init__» ⟨[.ref S, .ref it], []⟩)
      (fun fin s' => match fin with | .done f => R (.ok f) s' | .again c' => c'.quiet = true ∧ codeAny (model prog w) A c' R s') (fun e s' => R (.error e) s') s := by
  have W := (Walks.listRev (prog := prog) (w := w) (A := A.in1) hh it l hne items).toS
  have hSf : S ∉ [it, l] := by simp only [List.mem_cons, List.not_mem_nil, or_false, not_or]; exact ⟨hSi, hSl⟩
  show wpAny _ _ (do let old ← Builtin.List.listItems (.ref S); Builtin.List.listUpdate (.ref S) (fun _ => #[]); letGo old.toList.reverse; Builtin.List.listExtendWith (.ref S) (.ref it) .none) _ _ s
  refine wpAny_bind ?_
  unfold Builtin.List.listItems
  refine wpAny_bind (wpAny_seqItems hS rfl (wpAny_pure ?_))
  show wpAny _ A.in1 (updateSeq S (fun _ => #[]) >>= fun _ => letGo (#[] : Array Value).toList.reverse >>= fun _ => Builtin.List.listExtendWith (.ref S) (.ref it) .none) _ _ s
  refine wpAny_bind (wpAny_updateSeq hS rfl ?_)
  have hS₂ := Heap.get?_update_self (Obj.mapSeq (fun _ => (#[] : Array Value))) hS rfl
  have oth : ∀ b o, b ≠ S → s.heap.get? b = some o → (s.heap.update S (Obj.mapSeq (fun _ => (#[] : Array Value)))).get? b = some o :=
    fun b o hb e => (Heap.get?_update_other _ _ (Ne.symm hb)).trans e
  refine wpAny_bind (wpAny_letGo ?_)
  generalize hsh : s.heap.update S (Obj.mapSeq (fun _ => (#[] : Array Value))) = hp at hS₂ oth
  have hit1 : hp.IsRevIter it l ((items.size : Int) - 1) := hit.at fun o e => oth it o (Ne.symm hSi) e
  have hl1 : hp.IsList l items := by
    obtain ⟨o, ho, r⟩ := id hl
    exact ⟨o, oth l o (Ne.symm hSl) ho, r⟩
  have hT : ({ s with heap := hp } : Shared).TypeIs (.ref it) "list_reverseiterator" := Heap.IsRevIter.typeIs (s := { s with heap := hp }) hit1
  have h1 : Builtin.List.listSameRef (.ref S) (.ref it) = false := by simp [Builtin.List.listSameRef, hSi]
  show wpAny _ A.in1 (Builtin.List.listExtendWith (.ref S) (.ref it) .none) _ _ _
  unfold Builtin.List.listExtendWith
  refine wpAny_bind (wpAny_typeOf hT ?_)
  rw [if_neg (by rw [h1]; decide)]
  refine wpAny_bind (wpAny_pyIter_revIter (s := { s with heap := hp }) hit1 ?_)
  refine wpAny_bind (wpAny_holding ?_)
  unfold Builtin.List.listLengthHint
  refine wpAny_bind (wpAny_specialOf hT nolen_lri ?_)
  show wpAny _ A.in1 (specialOf (Value.ref it) (Str.ofString "__length_hint__") >>= _) _ _ _
  refine wpAny_bind (wpAny_specialOf hT hint_lri ?_)
  generalize hid : ("list_reverseiterator.__length_hint__" : String) = id0
  wp_delta
  rw [show splitId id0 = some ("list_reverseiterator", "__length_hint__") from by subst hid; decide +kernel]
  subst hid
  refine wpAny_bind (wpAny_isInstance (b := true) hT (by rw [isSubtype_type]; kernel_rfl) ?_)
  refine wpAny_pure ?_
  rw [if_neg (by decide)]
  have e0 : ((items.size : Nat) : Int) - 1 - ((0 : Nat) : Int) = (items.size : Int) - 1 := by omega
  refine wpAny_pure ⟨plainId_quiet F.plain_extend_loop _, codeAny_extend_loopS W hn _ hSf _ items.size 0 _ _ _ rfl (Nat.zero_le _) ⟨Nat.zero_le _, by rw [e0]; exact hit1, hl1⟩ hS₂ (ItemsOf.nil _) fun s' acc' c' hm hS' hacc => ?_⟩
  refine hR s' acc' c' ⟨fun b o hb e => hm.heap b o hb (oth b o (fun z => hb (z ▸ List.mem_cons_self)) e), hm.gens, hm.drawn, hm.os, hm.toks⟩ hS' hacc
theorem call_list_rev {it l : Addr} {items : Array Value} {Q : Value → Shared → Prop} (hh : A.handled = none) (hit : s.heap.IsRevIter it l ((items.size : Int) - 1)) (hl : s.heap.IsList l items) (hne : l ≠ it) (hn : items.size ≤ sizeLine)
    (hQ : ∀ (h' : Heap) (tk : Nat) (acc : Array Value) (c : Nat), (∀ b o, b ≠ it → s.heap.get? b = some o → h'.get? b = some o) → h'.get? s.heap.objs.size = some { cls := .type "list", data := .seq acc c } → ItemsOf (fun i v => items[items.size - 1 - i]? = some v) acc items.size →
      Q (.ref s.heap.objs.size) { s with heap := h', toks := tk }) :
    wpAny (model prog w) A (call (.type "list") [.ref it]) Q E s := by
  obtain ⟨oi, hoi, _⟩ := id hit
  obtain ⟨ol, hol, _⟩ := id hl
  have hSi : s.heap.objs.size ≠ it := Nat.ne_of_gt (Heap.lt_size hoi)
  have hSl : s.heap.objs.size ≠ l := Nat.ne_of_gt (Heap.lt_size hol)
  refine callType_codes (Q₁ := fun obj s₁ => obj = .ref s.heap.objs.size ∧ s₁ = { s with heap := s.heap.push { cls := .type "list", data := .seq #[] } }) F.called_list (F.typeCall_list_1 _) F.entry_list_init
    (code_list_new _ ⟨rfl, rfl⟩) fun obj s₁ h₁ => ?_
  obtain ⟨rfl, rfl⟩ := h₁
  have hS : (s.heap.push { cls := .type "list", data := .seq #[] }).get? s.heap.objs.size = some { cls := .type "list", data := .seq #[] } := Heap.get?_push_size _ rfl
  refine ⟨⟨_, hS, rfl⟩, F.args_list_init_2 _ _, ?_⟩
  refine wpAny_list_init_rev (A := A.in1) (s := { s with heap := s.heap.push { cls := .type "list", data := .seq #[] } }) hh (hit.at fun o e => Heap.get?_push_of_some _ e) (hl.push _) hne hSi hSl hn hS fun s' acc' c' hm hS' hacc => ?_
  refine ⟨rfl, ?_⟩
  rw [Moved.eq_with hm]
  refine hQ s'.heap s'.toks acc' c' (fun b o hb e => hm.heap b o (fun hmem => ?_) (Heap.get?_push_of_some _ e)) hS' hacc
  rcases List.mem_cons.mp hmem with e' | hmem
  · exact absurd (Heap.lt_size e) (by rw [e']; exact Nat.lt_irrefl _)
  · exact hb (List.mem_singleton.mp hmem)
end
/-- list(reversed(x)), x a list: a new list -/
def tLstRev (K : PySem.W.Frag) (te : TE) : TE := fun σ H Q => te σ H fun v H1 => ∃ (a : Addr) (xs : List V), v = .ref a ∧ SqL K H1 a xs ∧ ∀ q, H1 q = none → Q (.ref q) (upd H1 q (.lst xs.reverse))
section
variable {X : Cx}
theorem pe_lstRev {e : Expr} {te : TE} {p p2 pos pos2 : Pos} (hc : X.calm = true) (hg : Gl X "list") (hm : X.mg "list" = none) (hg2 : Gl X "reversed") (hm2 : X.mg "reversed" = none) (he : PE X e te)
    (hs : starEach [e] X.env = (false, eval e X.env) :: starEach [] X.env := by rfl)
    (hs2 : starEach [.Call (.Name "reversed" p2) [e] [] pos2] X.env = (false, eval (.Call (.Name "reversed" p2) [e] [] pos2) X.env) :: starEach [] X.env := by rfl) :
    PE X (.Call (.Name "list" p) [.Call (.Name "reversed" p2) [e] [] pos2] [] pos) (tLstRev X.K te) := by
  refine ⟨fun pins s σ H Q I h => ?_⟩
  refine Call_ (ld_blt I hg hm boot_list (PyProof.Rows.callWith_type1 (args_cons (Call_ (ld_blt I hg2 hm2 PyProof.Rows.boot_reversed (PyProof.Rows.callWith_type1 (args_cons (thn (he.run pins s σ H _ I h) fun u s1 ⟨v, H1, I1, r1, q1⟩ => args_nil ?_) hs) hs rfl))) hs2) hs2 rfl))
  obtain ⟨a, xs, ev, hq, q⟩ := q1
  subst ev
  obtain rfl : u = Value.ref a := r1
  obtain ⟨its, rv, p', hz⟩ := I1.list hq
  refine call_reversed_list p'.isList (args_nil ?_)
  have k0 : ∀ b o, s1.heap.get? b = some o → (s1.heap.push (revObj a ((its.toArray.size : Int) - 1))).get? b = some o := fun b o e => Heap.get?_push_of_some _ e
  have I2 : Inv X pins σ H1 { s1 with heap := s1.heap.push (revObj a ((its.toArray.size : Int) - 1)) } := I1.kept (t' := s1.toks) k0
  have fp := I1.fpOk (H' := H1) (b := s1.heap.objs.size) (Nat.le_refl _) (I1.hok.fresh (Nat.le_refl _))
  have hl := p'.isList
  obtain ⟨ol, hol, _⟩ := id hl
  have hne : a ≠ s1.heap.objs.size := Nat.ne_of_lt (Heap.lt_size hol)
  have hn : its.toArray.size ≤ sizeLine := by rw [List.size_toArray, ← rv.length]; exact hz
  have hsz : (s1.heap.push (revObj a ((its.toArray.size : Int) - 1))).objs.size = s1.heap.objs.size + 1 := Heap.size_push _ _
  refine call_list_rev (s := { s1 with heap := s1.heap.push (revObj a ((its.toArray.size : Int) - 1)) }) (I1.ok.hd hc) ⟨_, Heap.get?_push_size _ rfl, rfl, rfl⟩ (hl.push _) hne hn fun h' tk acc c hk hS hi => ?_
  have new : ObjOk X.prog X.w (upd H1 (s1.heap.push (revObj a ((its.toArray.size : Int) - 1))).objs.size (.lst xs.reverse)) h' (s1.heap.push (revObj a ((its.toArray.size : Int) - 1))).objs.size (.lst xs.reverse) :=
    ⟨by rw [List.length_reverse]; exact hz, acc.toList, c, vals_rev rv hi, by rw [Array.toArray_toList]; exact hS⟩
  have I3 := I2.turnedNew (t' := tk) (ch := [s1.heap.objs.size]) (h' := h') (fun b o hb e => hk b o (fun z => hb (by rw [z]; exact List.mem_singleton.mpr rfl)) e) (fun b hb => by rw [List.mem_singleton.mp hb]; exact fp) (Nat.le_refl _) new
  exact ⟨.ref _, _, I3, rfl, q _ (I2.hok.fresh (Nat.le_refl _))⟩
end
end RT
namespace Mx
open PySem PySem.Spec PyProof.Rows L2
section
variable {K : Fr} {cl : Cl} {H H' H1 H0 : Hp} {O O' B : List Addr} {E : L2.St → XK} {E0 : XK} {σ : L2.St} {D : Ds}
@[simp] def xRev (xe : XE) : XA := fun D => (xe D).bind fun d => (dItems d).bind fun l => .ok l.reverse
theorem simL_rev {te : TE} {xe : XE} (h : SimB K cl E te xe) : SimL K cl E (RT.tLstRev K te) (xRev xe) := fun B H0 O σ D H s Q q => by
  unfold xRev at q
  refine h B H0 O σ D H s _ ?_
  cases e : xe D with
  | bad => rw [e] at q; exact q.elim
  | ex c fs => rw [e] at q; exact q
  | ok d =>
    rw [e] at q
    simp only [R.bind] at q
    intro v H1 e1 r
    cases d with
    | lst l =>
      obtain ⟨a, vs, rfl, h1, rr⟩ := r
      exact ⟨a, vs, rfl, SqL.of h1, fun p np => q p _ _ (e1.trans (same_upd np)) (e1.free np) upd_same (rr.rev.mono (hid_new (same_upd np) np))⟩
    | frl l =>
      obtain ⟨a, vs, rfl, h1, rr⟩ := r
      exact ⟨a, vs, rfl, h1, fun p np => q p _ _ (e1.trans (same_upd np)) (e1.free np) upd_same (rr.rev.mono (hid_new (same_upd np) np))⟩
    | _ => exact q.elim
end
end Mx
namespace L2
open PySem PySem.Spec PyProof.Rows PySem.W
/-- what a class of the text with its own <= says to it -/
structure OwnLe (K : Frag) (C f : Addr) : Prop where
  at_ : findIn K (.ref C) "__le__" = some (some (.ref f))
  fn : isFn K (.ref f) = true
section
variable {X : Cx} {CX : CXT} {k n : Nat} {C f : Addr} {fd : FuncData} {ps : List Str} {sp : Sp} {E : XK}
def rLeO (C : Addr) (sp : Sp) (E : XK) : R2 := fun x y H Q => ∃ a dx fs b dy gs, x = .ref a ∧ y = .ref b ∧ H a = some (.ins C dx fs) ∧ H b = some (.ins C dy gs) ∧ sp [.ref a, .ref b] H (fun z H' => ∃ b, z = .bl b ∧ Q (.bl b) H') E
theorem op_leO (h : OwnLe X.K C f) (F : FnOk X.prog X.w X.K X.mg X.base CX k f fd ps sp) (hr : Room k X.A) (hb : Binds X.K fd ps []) (hx : Passes CX X E) : OpR X (compareOp .LtE) (rLeO C sp E) := by
  intro pins s σ H x y v u Q I rx ry q0
  obtain ⟨a, dx, fs, b, dy, gs, rfl, rfl, ea, eb, q⟩ := q0
  obtain rfl : v = Value.ref a := rx
  obtain rfl : u = Value.ref b := ry
  obtain ⟨mA, oa, _⟩ := ins_get I.hok ea
  obtain ⟨od, J, _⟩ := oa.look
  obtain ⟨mB, ob, _⟩ := ins_get I.hok eb
  obtain ⟨od2, J2, _⟩ := ob.look
  obtain ⟨m, fr⟩ := I.fr
  have r := run_fn (ds := []) (dvs := []) F hr hb .nil hx I (us := [.ref a, .ref b]) (vs := [.ref a, .ref b]) (.cons rfl (.cons rfl .nil)) q
  have nf : notFirst X.K C (.ref C) = true := by simp [notFirst]
  exact PySem.W.cmp_K (op := .LtE) hr.units0 fr I.ok.mod.kin J J2.type nf h.at_ h.fn (wpAny_mono r (fun z s' hz => by
    obtain ⟨v, H', I', rv, b, rfl, q'⟩ := hz
    obtain rfl : z = Value.bool b := rv
    exact ⟨V.bl b, H', I', rfl, q'⟩) fun _ _ z => z)
/-- x not in o, o an object with its own __contains__ -/
def rNinC (C : Addr) (sp : Sp) (E : XK) : R2 := fun x y H Q => ∃ a dx fs, y = .ref a ∧ H a = some (.ins C dx fs) ∧ sp [.ref a, x] H (fun z H' => ∃ b, z = .bl b ∧ Q (.bl !b) H') E
theorem op_ninC (h : OwnC X.K C f) (F : FnOk X.prog X.w X.K X.mg X.base CX k f fd ps sp) (hr : Room k X.A) (hb : Binds X.K fd ps []) (hx : Passes CX X E) : OpR X (compareOp .NotIn) (rNinC C sp E) := by
  intro pins s σ H x y v u Q I rx ry q0
  obtain ⟨a, dx, fs, rfl, ea, q⟩ := q0
  obtain rfl : u = Value.ref a := ry
  obtain ⟨mA, oa, _⟩ := ins_get I.hok ea
  obtain ⟨od, J, _⟩ := oa.look
  obtain ⟨m, fr⟩ := I.fr
  have r := run_fn (ds := []) (dvs := []) F hr hb .nil hx I (us := [.ref a, v]) (vs := [.ref a, x]) (.cons rfl (.cons rx .nil)) q
  exact PySem.W.notIn_K fr I.ok.mod.kin J h.at_ h.fn (wpAny_mono r (fun z s' hz => by
    obtain ⟨v, H', I', rv, b, rfl, q'⟩ := hz
    obtain rfl : z = Value.bool b := rv
    exact wpAny_truthy_bool ⟨V.bl !b, H', I', rfl, q'⟩) fun _ _ z => z)
end
end L2
namespace Mx
open PySem PySem.Spec PyProof.Rows L2
section
variable {K : Fr} {cl : Cl} {H H' H1 H0 : Hp} {O : List Addr} {E : L2.St → XK}
def dLeO (c : Str) (f : List Dt → R Dt) : Dt → Dt → R Dt := fun x o => match x, o with
  | .ins c1 fs, .ins c2 gs => if c1 = c ∧ c2 = c then (f [.ins c1 fs, .ins c2 gs]).bind dBl else .bad
  | _, _ => .bad
@[simp] theorem dLeO_ins (c c1 c2 : Str) (f : List Dt → R Dt) (fs gs : List (Str × Dt)) : dLeO c f (.ins c1 fs) (.ins c2 gs) = if c1 = c ∧ c2 = c then (f [.ins c1 fs, .ins c2 gs]).bind dBl else .bad := rfl
theorem sim_leO {c : Str} {C : Addr} {f : List Dt → R Dt} {E0 : XK} {ta tb : TE} {xa xb : XE} (hc : cl c = some C) (ha : Sim K cl (fun _ => E0) ta xa) (hb : Sim K cl (fun _ => E0) tb xb) :
    Sim K cl (fun _ => E0) (tOp (rLeO C (PureSp K cl f) E0) ta tb) (x2 (dLeO c f) xa xb) := sim_two ha hb fun O H x y a b tr rx ry Q q => by
  cases rx <;> first | exact q.elim | skip
  cases ry <;> first | exact q.elim | skip
  rename_i a C1 dx c1 fv fs k1 e1 kk1 rr1 b C2 dy c2 gv gs k2 e2 kk2 rr2
  rw [dLeO_ins] at q
  split at q
  · rename_i h
    obtain ⟨rfl, rfl⟩ := h
    rw [hc] at k1 k2
    cases k1
    cases k2
    refine ⟨_, _, _, _, _, _, rfl, rfl, hid_same _ _ _ _ e1, hid_same _ _ _ _ e2, O, _, tr, .cons (.ins hc e1 kk1 rr1) (.cons (.ins hc e2 kk2 rr2) .nil), ?_⟩
    revert q
    generalize f _ = z
    intro q
    cases z with
    | bad => exact q
    | ex c fs => exact q
    | ok d =>
      rw [bind_ok] at q
      cases d with
      | bl b =>
        intro v H' e' r'
        cases r'
        exact ⟨_, rfl, q _ H' e' (.bl _)⟩
      | _ => exact q.elim
  · exact q.elim
def dNinC (c : Str) (f : List Dt → R Dt) : Dt → Dt → R Dt := fun x o => (dInC c f x o).bind dFlip
@[simp] theorem dNinC_eq (c : Str) (f : List Dt → R Dt) (x o : Dt) : dNinC c f x o = (dInC c f x o).bind dFlip := rfl
theorem sim_ninC {c : Str} {C : Addr} {f : List Dt → R Dt} {E0 : XK} {ta tb : TE} {xa xb : XE} (hc : cl c = some C) (ha : Sim K cl (fun _ => E0) ta xa) (hb : Sim K cl (fun _ => E0) tb xb) :
    Sim K cl (fun _ => E0) (tOp (rNinC C (PureSp K cl f) E0) ta tb) (x2 (dNinC c f) xa xb) := sim_two ha hb fun O H x y a b tr rx ry Q q => by
  cases ry with
  | ins k e kk rr =>
    rw [dNinC_eq, dInC_ins] at q
    split at q
    · rename_i h
      subst h
      rw [hc] at k
      cases k
      refine ⟨_, _, _, rfl, hid_same _ _ _ _ e, O, _, tr, .cons (.ins hc e kk rr) (.cons rx .nil), ?_⟩
      revert q
      generalize f _ = z
      intro q
      cases z with
      | bad => exact q
      | ex c fs => exact q
      | ok d =>
        rw [bind_ok] at q
        cases d with
        | bl b =>
          intro v H' e' r'
          cases r'
          exact ⟨_, rfl, q _ H' e' (.bl _)⟩
        | _ => exact q.elim
    · exact q.elim
  | _ => exact q.elim
end
end Mx
namespace Mx
open PySem PySem.Spec PyProof.Rows L2
/-! ### dicts with numbers and texts for keys -/
section
variable {K : Fr} {cl : Cl} {E : L2.St → XK} {H H' H1 H0 : Hp} {O O' : List Addr} {σ : L2.St} {D : Ds} {B : List Addr}
@[simp] def xsNewK (i : Nat) : XS := fun D => .nx (D.set i (.ok []))
theorem ss_newK {i : Nat} : SimS K cl E (tAsg tDNewK (gName i)) (xsNewK i) := fun B H0 O σ D H s En q => fun p n =>
  q _ _ _ (s.setOwn i (same_upd n) n ⟨[], upd_same, rfl, .nil⟩ (by rw [upd_same]; rfl)) (hid_new (same_upd n) n)
def dKeyK : Dt → R Key
  | .int i => .ok (.inl i)
  | .str x => .ok (.inr x)
  | _ => .bad
@[simp] theorem dKeyK_int (i : Int) : dKeyK (.int i) = .ok (.inl i) := rfl
@[simp] theorem dKeyK_str (x : Str) : dKeyK (.str x) = .ok (.inr x) := rfl
theorem dKeyK_rep {v : V} {d : Dt} {k : Key} (h : Rep K cl H v d) (e : dKeyK d = .ok k) : v = kV k := by
  cases h <;> simp only [dKeyK] at e <;> cases e <;> rfl
theorem dKeyK_ex {d : Dt} {c : Str} {fs : List (Str × Dt)} : dKeyK d ≠ .ex c fs := by
  intro e
  cases d <;> simp only [dKeyK] at e <;> cases e
def Sl.ok? : Option Sl → R (List (Key × Dt))
  | some (.ok l) => .ok l
  | _ => .bad
@[simp] theorem ok?_ok (l : List (Key × Dt)) : Sl.ok? (some (.ok l)) = .ok l := rfl
theorem ok?_eq {o : Option Sl} {l : List (Key × Dt)} (h : Sl.ok? o = .ok l) : o = some (.ok l) := by
  unfold Sl.ok? at h
  split at h
  · simp only [R.ok.injEq] at h; subst h; rfl
  · cases h
theorem ok?_ex {o : Option Sl} {c : Str} {fs : List (Str × Dt)} (h : Sl.ok? o = .ex c fs) : False := by
  unfold Sl.ok? at h
  split at h <;> cases h
/-- d[k] = v -/
@[simp] def xsPutK (i : Nat) (xk xv : XE) : XS := fun D => (xv D).out D fun v => (Sl.ok? D[i]?).out D fun l => (xk D).out D fun k => (dKeyK k).get fun ks => if l.length < 1000000 ∧ (l.map (·.1)).Nodup then .nx (D.set i (.ok (putG l ks v))) else .bad
theorem ss_putK {i : Nat} {tk tv : TE} {xk xv : XE} (hk : Sim K cl E tk xk) (hv : Sim K cl E tv xv) : SimS K cl E (sDPut (tVar i) tk tv) (xsPutK i xk xv) := fun B H0 O σ D H s En q => by
  unfold xsPutK at q
  refine hv B H0 O σ D H s _ ?_
  cases e : xv D with
  | bad => rw [e] at q; exact q.elim
  | ex c fs => rw [e] at q; exact q O σ H s (Same.refl _)
  | ok d =>
    rw [e] at q
    simp only [out_ok] at q
    intro v H1 e1 rv
    cases el : Sl.ok? D[i]? with
    | bad => rw [el] at q; exact q.elim
    | ex c fs => exact (ok?_ex el).elim
    | ok l =>
      rw [el] at q
      simp only [out_ok] at q
      have hi := ok?_eq el
      obtain ⟨a, ea, ma, kv, ha, hkeys, ra⟩ := own_at (s.mono e1) hi rfl
      refine ⟨.ref a, ea, ?_⟩
      refine hk B H0 O σ D H1 (s.mono e1) _ ?_
      cases ek : xk D with
      | bad => rw [ek] at q; exact q.elim
      | ex c fs => rw [ek] at q; exact q O σ H1 (s.mono e1) (hid_mono e1)
      | ok k =>
        rw [ek] at q
        simp only [out_ok] at q
        intro w H2 e2 rk
        cases eK : dKeyK k with
        | bad => rw [eK] at q; exact q.elim
        | ex c fs => exact (dKeyK_ex eK).elim
        | ok ks =>
          rw [eK] at q
          simp only [get_ok] at q
          split at q
          · rename_i hz
            have ew := dKeyK_rep rk eK
            subst ew
            have hl : kv.length = l.length := by
              have := congrArg List.length hkeys
              simpa using this
            refine ⟨a, _, rfl, DPut.k (e2 _ _ ha) (sz_lt (by rw [hl]; exact hz.1)), ?_⟩
            rw [putG_putK kv ks v (by rw [hkeys]; exact hz.2)]
            refine q O σ _ ((s.mono (e1.trans e2)).mut hi rfl ea ⟨_, upd_same, putG_keys hkeys, putG_vals (rv.mono (hid_mono e2)) hkeys (ra.mono (hid_mono e2))⟩) ?_
            rw [hid_upd ma]
            exact hid_mono (e1.trans e2)
          · exact q.elim
def dDk : Dt → R (List (Key × Dt))
  | .dk l => .ok l
  | _ => .bad
@[simp] theorem dDk_dk (l : List (Key × Dt)) : dDk (.dk l) = .ok l := rfl
theorem dDk_eq {d : Dt} {l : List (Key × Dt)} (h : dDk d = .ok l) : d = .dk l := by
  cases d <;> simp only [dDk] at h <;> cases h <;> rfl
theorem dDk_ex {d : Dt} {c : Str} {fs : List (Str × Dt)} (h : dDk d = .ex c fs) : False := by cases d <;> simp only [dDk] at h <;> cases h
/-- k in d, k not in d -/
@[simp] def xDinK (xk xd : XE) : XE := fun D => (xk D).bind fun k => (dKeyK k).bind fun ks => (xd D).bind fun d => (dDk d).bind fun l => .ok (.bl (getG l ks).isSome)
@[simp] def xDninK (xk xd : XE) : XE := fun D => (xk D).bind fun k => (dKeyK k).bind fun ks => (xd D).bind fun d => (dDk d).bind fun l => .ok (.bl (!(getG l ks).isSome))
theorem getK_some {kv : List (Key × V)} {l : List (Key × Dt)} {ks : Key} (hkeys : kv.map (·.1) = l.map (·.1)) (ra : RepL K cl H (kv.map (·.2)) (l.map (·.2))) : (valV kv ks).isSome = (getG l ks).isSome := by
  rw [getG_valV]
  rcases getG_rep (k := ks) hkeys (repL_at ra) with ⟨h1, h2⟩ | ⟨a', b', h1, h2, h3⟩
  · rw [h1, h2]; rfl
  · rw [h1, h2]; rfl
theorem sim_dinK {td tk : TE} {xd xk : XE} (hk : Sim K cl E tk xk) (hd : SimB K cl E td xd) : Sim K cl E (tDIn tk td) (xDinK xk xd) := fun B H0 O σ D H s Q q => by
  unfold xDinK at q
  refine hk B H0 O σ D H s _ ?_
  cases ek : xk D with
  | bad => rw [ek] at q; exact q.elim
  | ex c fs => rw [ek] at q; exact q
  | ok k =>
    rw [ek] at q
    simp only [Mx.R.bind] at q
    intro w H1 e1 rk
    cases eK : dKeyK k with
    | bad => rw [eK] at q; exact q.elim
    | ex c fs => exact (dKeyK_ex eK).elim
    | ok ks =>
      rw [eK] at q
      simp only [Mx.R.bind] at q
      have ew := dKeyK_rep rk eK
      subst ew
      refine hd B H0 O σ D H1 (s.mono e1) _ ?_
      cases e : xd D with
      | bad => rw [e] at q; exact q.elim
      | ex c fs => rw [e] at q; exact ExOk.mono e1 q
      | ok d =>
        rw [e] at q
        simp only [Mx.R.bind] at q
        cases edt : dDk d with
        | bad => rw [edt] at q; exact q.elim
        | ex c fs => exact (dDk_ex edt).elim
        | ok l =>
          rw [edt] at q
          simp only [Mx.R.bind] at q
          have := dDk_eq edt
          subst this
          intro v H2 e2 rd
          obtain ⟨a, kv, rfl, ha, hkeys, ra⟩ := rd
          refine ⟨a, _, rfl, DGet.k ha, ?_⟩
          rw [getK_some hkeys ra]
          exact q _ H2 (e1.trans e2) (.bl _)
theorem sim_dninK {td tk : TE} {xd xk : XE} (hk : Sim K cl E tk xk) (hd : SimB K cl E td xd) : Sim K cl E (tDNotIn tk td) (xDninK xk xd) := fun B H0 O σ D H s Q q => by
  unfold xDninK at q
  refine hk B H0 O σ D H s _ ?_
  cases ek : xk D with
  | bad => rw [ek] at q; exact q.elim
  | ex c fs => rw [ek] at q; exact q
  | ok k =>
    rw [ek] at q
    simp only [Mx.R.bind] at q
    intro w H1 e1 rk
    cases eK : dKeyK k with
    | bad => rw [eK] at q; exact q.elim
    | ex c fs => exact (dKeyK_ex eK).elim
    | ok ks =>
      rw [eK] at q
      simp only [Mx.R.bind] at q
      have ew := dKeyK_rep rk eK
      subst ew
      refine hd B H0 O σ D H1 (s.mono e1) _ ?_
      cases e : xd D with
      | bad => rw [e] at q; exact q.elim
      | ex c fs => rw [e] at q; exact ExOk.mono e1 q
      | ok d =>
        rw [e] at q
        simp only [Mx.R.bind] at q
        cases edt : dDk d with
        | bad => rw [edt] at q; exact q.elim
        | ex c fs => exact (dDk_ex edt).elim
        | ok l =>
          rw [edt] at q
          simp only [Mx.R.bind] at q
          have := dDk_eq edt
          subst this
          intro v H2 e2 rd
          obtain ⟨a, kv, rfl, ha, hkeys, ra⟩ := rd
          refine ⟨a, _, rfl, DGet.k ha, ?_⟩
          rw [getK_some hkeys ra]
          exact q _ H2 (e1.trans e2) (.bl _)
/-- d[k], there -/
@[simp] def xDgetK (xd xk : XE) : XE := fun D => (xd D).bind fun d => (dDk d).bind fun l => (xk D).bind fun k => (dKeyK k).bind fun ks => opt (getG l ks)
theorem sim_dgetK {td tk : TE} {xd xk : XE} (hd : SimB K cl E td xd) (hk : Sim K cl E tk xk) : Sim K cl E (tDGet td tk) (xDgetK xd xk) := fun B H0 O σ D H s Q q => by
  unfold xDgetK at q
  refine hd B H0 O σ D H s _ ?_
  cases e : xd D with
  | bad => rw [e] at q; exact q.elim
  | ex c fs => rw [e] at q; exact q
  | ok d =>
    rw [e] at q
    simp only [Mx.R.bind] at q
    cases edt : dDk d with
    | bad => rw [edt] at q; exact q.elim
    | ex c fs => exact (dDk_ex edt).elim
    | ok l =>
      rw [edt] at q
      simp only [Mx.R.bind] at q
      have := dDk_eq edt
      subst this
      intro v H1 e1 rd
      obtain ⟨a, kv, rfl, ha, hkeys, ra⟩ := rd
      refine hk B H0 O σ D H1 (s.mono e1) _ ?_
      cases ek : xk D with
      | bad => rw [ek] at q; exact q.elim
      | ex c fs => rw [ek] at q; exact ExOk.mono e1 q
      | ok k =>
        rw [ek] at q
        simp only [Mx.R.bind] at q
        intro w H2 e2 rk
        cases eK : dKeyK k with
        | bad => rw [eK] at q; exact q.elim
        | ex c fs => exact (dKeyK_ex eK).elim
        | ok ks =>
          rw [eK] at q
          simp only [Mx.R.bind] at q
          have ew := dKeyK_rep rk eK
          subst ew
          rcases getG_rep (k := ks) hkeys (repL_at (ra.mono (hid_mono e2))) with ⟨h1, h2⟩ | ⟨a', b', h1, h2, h3⟩
          · rw [h2] at q; exact q.elim
          · rw [h2] at q
            refine ⟨a, a', rfl, ?_, q _ H2 (e1.trans e2) h3⟩
            rw [← h1, ← getG_valV]
            exact DGet.k (e2 _ _ ha)
end
end Mx
namespace DT
open PySem PySem.Spec PyProof.Rows L2 PySem.W
/-! ### tuple(d), tuple(d.values()) -/
section
variable {prog : Program} {w : World} {A : Around} {E : Value → Shared → Prop} {s : Shared} {T : String} {r d : Addr} {n : Nat} {P : Nat → Value → Prop} {OK : Heap → Prop}
theorem code_tuple_src {Q₁ : Value → Shared → Prop} (S : KdlSrc prog w T r d n P OK) (hh : A.handled = none) (hok : OK s.heap) (hn : n ≤ sizeLine)
    (h : ∀ (h' : Heap) (tk : Nat) (acc : Array Value), (∀ b o, s.heap.get? b = some o → h'.get? b = some o) → ItemsOf P acc n →
      Q₁ (.ref h'.objs.size) { s with heap := h'.push { cls := .type "tuple", data := .seq acc }, toks := tk }) :
    codeAny (model prog w) A (.call (.builtin "tuple.__new__") ⟨[.type "tuple", .ref r], []⟩) (wants Q₁ E) s := by
  refine codeAny_of_tree ?_
  show wpAny _ A.in1 (do checkBuiltinCall "tuple.__new__" ⟨[.type "tuple", .ref r], []⟩; again (.builtin "tuple.__new__" ⟨[.type "tuple", .ref r], []⟩)) _ _ s
  refine wpAny_bind (wpAny_of_eq (F.newCall_tuple_1 _) (wpAny_pure ⟨plainId_quiet F.plain_tuple_new _, codeAny_builtin F.entry_tuple_new ?_⟩))
  rw [Around.under_plainId F.plain_tuple_new _]
  have hsub := sub_tuple_self
  have hinit := init_tuple_lookup
  have hmh := madeHere_tuple
  have hTI : s.TypeIs (.ref r) T := S.type s hok
  have hh1 : A.in1.handled = none := hh
  have hnt := S.notTuple
  wp_walk using wpAny_typeOf hTI, kdu_collect (A := A.in1) S hh1 hok hn
  intro h' tk acc hk hacc
  show wpAny _ _ (Builtin.Tuple.tupleExact acc.toList.toArray >>= fun v => ret v) _ _ _
  unfold Builtin.Tuple.tupleExact
  refine wpAny_bind (wpAny_newObj_type ?_ (by show acc.toList.toArray.size ≤ sizeLine; simp only [Array.toArray_toList]; rw [hacc.1]; exact hn))
  refine wpAny_pure ?_
  have e : acc.toList.toArray = acc := by simp
  rw [e]
  exact h h' tk acc hk hacc
theorem call_tuple_src {Q : Value → Shared → Prop} (S : KdlSrc prog w T r d n P OK) (hh : A.handled = none) (hok : OK s.heap) (hn : n ≤ sizeLine)
    (hQ : ∀ (h' : Heap) (tk : Nat) (acc : Array Value), (∀ b o, s.heap.get? b = some o → h'.get? b = some o) → ItemsOf P acc n →
      Q (.ref h'.objs.size) { s with heap := h'.push { cls := .type "tuple", data := .seq acc }, toks := tk }) :
    wpAny (model prog w) A (call (.type "tuple") [.ref r]) Q E s := by
  refine callType_codes (Q₁ := fun obj s₁ => s₁.TypeIs obj "tuple" ∧ Q obj s₁) F.called_tuple (F.typeCall_tuple_1 _) F.entry_object_init
    (code_tuple_src (A := A.in1) S hh hok hn fun h' tk acc hk hacc => ⟨⟨_, Heap.get?_push_size _ rfl, rfl⟩, hQ h' tk acc hk hacc⟩) fun obj s₁ h₁ => ?_
  exact ⟨h₁.1, F.args_object_init_2 obj _, object_init_meets F.called_tuple.init.lookup F.called_tuple.made (by decide) prog w A.in1 _ s₁ ⟨h₁.1, rfl, h₁.2⟩⟩
variable {X : Cx} {H : Hp} {pins : List (Addr × Obj)} {σ : L2.St} {s : Shared}
def rTupK : List V → Hp → VK → Prop := fun xs H Q => ∃ (a : Addr) (kvs : List (Key × V)), xs = [.ref a] ∧ Rd H a (.dK kvs) ∧ ∀ p, H p = none → Q (.ref p) (upd H p (.tup (kvs.map fun kv => kV kv.1)))
/-- tuple(d): its keys -/
theorem cr_tupK (hcalm : X.calm = true) : CallR X (.type "tuple") rTupK := by
  intro pins s σ H xs us Q I r q
  obtain ⟨a, kvs, ex, hd, q⟩ := q
  subst ex
  obtain ⟨u, eu, rx⟩ := vals1 r
  subst eu
  cases rx
  obtain ⟨z, lo, vs, rel, dd⟩ := dk_rd I.hok hd
  obtain ⟨ep, hat⟩ := dd.dictAt
  have ek : (kvs.map fun kv => kV kv.1) = vs.map fun p => kV p.1 := by
    have e := congrArg (List.map kV) rel.keys
    rw [List.map_map, List.map_map] at e
    exact e
  refine call_tuple_src (PySem.W.kdl_dict (knd := mixKind X.prog X.w) (kvs := vs) (ep := ep) lo) (I.ok.hd hcalm) hat (by rw [← rel.length]; exact z) fun h' tk acc hk hacc => ?_
  have hv : Vals (vs.map fun p => kV p.1) acc.toList := keys_at (by rw [Array.length_toList]; exact hacc.1) fun j v e => hacc.2 j v (by rw [← Array.getElem?_toList]; exact e)
  have I1 : Inv X pins σ H { s with heap := h', toks := tk } := I.kept hk
  have I2 : Inv X pins σ (upd H h'.objs.size (.tup (kvs.map fun kv => kV kv.1))) { s with heap := h'.push { cls := .type "tuple", data := .seq acc }, toks := tk } :=
    I1.laid (t' := tk) (fun b o e => Heap.get?_push_of_some _ e) (Nat.le_refl _) (show ObjOk X.prog X.w _ _ _ (.tup (kvs.map fun kv => kV kv.1)) from ⟨by rw [List.length_map]; exact z, acc.toList, by rw [ek]; exact hv, by
      have e : acc = acc.toList.toArray := by simp
      rw [e]; exact IsTup.new _ _⟩)
  exact ⟨.ref h'.objs.size, _, I2, rfl, q _ (I1.hok.fresh (Nat.le_refl _))⟩
/-- d.values() -/
def rVals : V → List V → Hp → VK → Prop := fun x xs H Q => ∃ (a : Addr) (kvs : List (Key × V)), x = .ref a ∧ xs = [] ∧ Rd H a (.dK kvs) ∧ ∀ p, H p = none → Q (.ref p) (upd H p (viewO "dict_values" p a))
theorem mt_vals : MtR X "dict.values" rVals := by
  intro pins s σ H x xs v us Q I rx rv h
  obtain ⟨a, kvs, rfl, rfl, hd, q⟩ := h
  cases rx
  cases rv
  obtain ⟨z, lo, vs, rel, dd⟩ := dk_rd I.hok hd
  refine call_meetsIn PySem.F.slot_dict_values dd.typeIs PySem.F.entry_dict_values (PySem.F.args_dict_values_1 _) (meets_dict_values (mixKind X.prog X.w) a lo) ⟨⟨vs, dd⟩, ?_⟩
  exact ⟨.ref s.heap.objs.size, _, I.laid (t' := s.toks) (fun b o q => Heap.get?_push_of_some _ q) (Nat.le_refl _) (viewO_ok (Heap.get?_push_size _ rfl)), rfl, q _ (I.hok.fresh (Nat.le_refl _))⟩
theorem vals_at : ∀ {kvs : List (Key × V)} {vs : List (Key × Value)} {us : List Value}, KV kvs vs → us.length = vs.length → (∀ (j : Nat) (v : Value), us[j]? = some v → ∃ k, vs[j]? = some (k, v)) → Vals (kvs.map (·.2)) us := by
  intro kvs vs us h
  induction h generalizing us with
  | nil =>
    intro hl _
    cases us with
    | nil => exact .nil
    | cons a b => cases hl
  | cons hp ht ih =>
    intro hl h
    cases us with
    | nil => cases hl
    | cons u us =>
      obtain ⟨k, e1⟩ := h 0 u rfl
      have e1 := Option.some.inj e1
      rw [List.map_cons]
      refine .cons ?_ (ih (by simpa using hl) fun j v e => h (j + 1) v (by simpa using e))
      subst e1
      exact hp.2
def rTupV : List V → Hp → VK → Prop := fun xs H Q => ∃ (p a : Addr) (kvs : List (Key × V)), xs = [.ref p] ∧ H p = some (viewO "dict_values" p a) ∧ Rd H a (.dK kvs) ∧ ∀ q, H q = none → Q (.ref q) (upd H q (.tup (kvs.map (·.2))))
/-- tuple(view): the values -/
theorem cr_tupV (hcalm : X.calm = true) : CallR X (.type "tuple") rTupV := by
  intro pins s σ H xs us Q I r q
  obtain ⟨p, a, kvs, ex, hp, hd, q⟩ := q
  subst ex
  obtain ⟨u, eu, rx⟩ := vals1 r
  subst eu
  cases rx
  obtain ⟨z, lo, vs, rel, dd⟩ := dk_rd I.hok hd
  obtain ⟨ep, hat⟩ := dd.dictAt
  have hv : s.heap.get? p = some (DSub.viewOb "dict_values" a) := (show ObjOk X.prog X.w H s.heap p (viewO "dict_values" p a) from I.hok p _ hp).1
  refine call_tuple_src (PySem.W.kdl_values (knd := mixKind X.prog X.w) (kvs := vs) (ep := ep) (r := p) (d := a)) (I.ok.hd hcalm) ⟨⟨_, hv, rfl, rfl⟩, hat⟩ (by rw [← rel.length]; exact z) fun h' tk acc hk hacc => ?_
  have hv : Vals (kvs.map (·.2)) acc.toList := vals_at rel (by rw [Array.length_toList]; exact hacc.1) fun j v e => hacc.2 j v (by rw [← Array.getElem?_toList]; exact e)
  have I1 : Inv X pins σ H { s with heap := h', toks := tk } := I.kept hk
  have I2 : Inv X pins σ (upd H h'.objs.size (.tup (kvs.map (·.2)))) { s with heap := h'.push { cls := .type "tuple", data := .seq acc }, toks := tk } :=
    I1.laid (t' := tk) (fun b o e => Heap.get?_push_of_some _ e) (Nat.le_refl _) (show ObjOk X.prog X.w _ _ _ (.tup (kvs.map (·.2))) from ⟨by rw [List.length_map]; exact z, acc.toList, hv, by
      have e : acc = acc.toList.toArray := by simp
      rw [e]; exact IsTup.new _ _⟩)
  exact ⟨.ref h'.objs.size, _, I2, rfl, q _ (I1.hok.fresh (Nat.le_refl _))⟩
/-- max(l, default=d) of ints -/
def maxI (d : Int) : List Int → Int
  | [] => d
  | y :: ys => ys.foldl (fun a b => if a < b then b else a) y
def rMaxDef (K : PySem.W.Frag) : List V → List V → Hp → VK → Prop := fun vs zs H Q => ∃ (a : Addr) (ns : List Int) (d : Int), vs = [V.ref a] ∧ zs = [.int d] ∧ SqL K H a (ns.map V.int) ∧ Q (.int (maxI d ns)) H
theorem hold_ints {h : Heap} : ∀ {ns : List Int} {us : List Value}, Vals (ns.map V.int) us → HoldAll h us ns
  | [], us, r => by cases r; exact .nil
  | n :: ns, us, r => by
    rw [List.map_cons] at r
    cases r with
    | cons hx ht =>
      obtain ⟨t, rfl⟩ := hx
      exact HoldAll.cons ⟨_, Reads.int ..⟩ (hold_ints ht)
theorem cr_maxDef (hc : X.calm = true) (hu : X.A.units + 1 < cLine) : CallRK X (.builtin "max") [Str.ofString "default"] (rMaxDef X.K) := by
  intro pins s σ H vs zs us ws Q I r rz h
  obtain ⟨a, ns, d, rfl, rfl, hs, q⟩ := h
  obtain rfl := Vals.ref1 r
  obtain ⟨w1, rfl, e1⟩ := vals1 rz
  obtain ⟨t1, rfl⟩ := e1
  obtain ⟨its, rv, hl, _⟩ := I.list hs
  show wpAny _ _ (call (.builtin "max") [.ref a] [(Str.ofString "default", .int d t1)]) _ _ _
  refine max_list_datum_default (α := Int) (I.ok.hd hc) hl.isList (xs := ns) (hold_ints (by simpa using rv)) (by show X.A.units + 1 + 0 < cLine; omega) (fun e h' tk hk => ?_) fun y ys i v h' tk e hi hv hk => ?_
  · subst e
    exact ⟨.int d, H, I.kept hk, ⟨_, rfl⟩, q⟩
  · subst e
    obtain ⟨as, hr⟩ := hv
    obtain ⟨t, ev⟩ : ∃ t, v = Value.int (maxOf y ys) t := by
      cases hr
      exact ⟨_, rfl⟩
    subst ev
    have em : maxOf y ys = maxI d (y :: ys) := by
      unfold maxOf maxI
      congr 1
      funext a b
      have el : DatumOrd.lt a b = decide (a < b) := rfl
      rw [el]
      by_cases hab : a < b <;> simp [hab]
    exact ⟨.int _, H, I.kept hk, ⟨_, rfl⟩, by rw [em]; exact q⟩
end
end DT

namespace Mx
open PySem PySem.Spec PyProof.Rows L2
section
variable {K : Fr} {cl : Cl} {E : L2.St → XK} {H H' H1 H0 : Hp} {O O' : List Addr} {σ : L2.St} {D : Ds} {B : List Addr}
/-! ### as data -/
def dpairs : List Dt → Option (List (Key × Dt))
  | [] => some []
  | .tup [k, v] :: l => match dKeyK k with
    | .ok k => (dpairs l).map fun r => (k, v) :: r
    | _ => none
  | _ :: _ => none
def dDict : List Dt → R Dt
  | [.lst l] => (opt (dpairs l)).bind fun kvs => if (kvs.map (·.1)).Nodup then .ok (.dk kvs) else .bad
  | [.dk kvs] => .ok (.dk kvs)
  | _ => .bad
def rDictA (K : Fr) : List V → Hp → VK → Prop := fun xs H Q => (∃ (a : Addr) (ps : List Addr) (kvs : List (Key × V)), xs = [.ref a] ∧ SqL K H a (ps.map V.ref) ∧ Paired (fun p kv => SqT K H p [kV kv.1, kv.2]) ps kvs ∧
    ∀ p, H p = none → Q (.ref p) (upd H p (.dK (mergeK [] kvs)))) ∨ ∃ (a : Addr) (kvs : List (Key × V)), xs = [.ref a] ∧ Rd H a (.dK kvs) ∧ ∀ p, H p = none → Q (.ref p) (upd H p (.dK kvs))
theorem call_dictA {X : Cx} (hc : X.calm = true) : CallR X (.type "dict") (rDictA X.K) := CallR.or (call_dictP hc) call_dictD
theorem dpairs_rep : ∀ {vs : List V} {l : List Dt} {kvs : List (Key × Dt)}, RepL K cl H vs l → dpairs l = some kvs → ∃ (ps : List Addr) (kv : List (Key × V)), vs = ps.map V.ref ∧ Paired (fun p q => H p = some (.tup [kV q.1, q.2])) ps kv ∧ kv.map (·.1) = kvs.map (·.1) ∧ RepL K cl H (kv.map (·.2)) (kvs.map (·.2))
  | _, _, kvs, .nil, e => by
    simp only [dpairs, Option.some.injEq] at e
    subst e
    exact ⟨[], [], rfl, .nil, rfl, .nil⟩
  | _, _, kvs, .cons (v := v) (d := d) (vs := vs) (ds := l) hv hl, e => by
    unfold dpairs at e
    split at e
    · rename_i h; cases h
    · rename_i k x l' h
      injection h with h1 h2
      subst h1 h2
      split at e
      · rename_i k' ek
        cases ed : dpairs l with
        | none => rw [ed] at e; cases e
        | some r =>
          rw [ed] at e
          simp only [Option.map_some, Option.some.injEq] at e
          subst e
          obtain ⟨ps, kv, rfl, hp, hk, hr⟩ := dpairs_rep hl ed
          cases hv with
          | tup ha ra =>
            rename_i a xs
            cases ra with
            | cons r1 rt =>
              cases rt with
              | cons r2 rn =>
                cases rn
                have := dKeyK_rep r1 ek
                subst this
                rename_i y
                exact ⟨a :: ps, (k', y) :: kv, rfl, .cons ha hp, by simp [hk], .cons r2 hr⟩
      · cases e
    · cases e
theorem merge_nodup : ∀ (kv acc : List (Key × V)), ((acc ++ kv).map (·.1)).Nodup → mergeK acc kv = acc ++ kv
  | [], acc, _ => by simp [mergeK]
  | q :: kv, acc, h => by
    have e : mergeK acc (q :: kv) = mergeK (putK acc q.1 q.2) kv := rfl
    have hn : q.1 ∉ acc.map (·.1) := by
      rw [List.map_append, List.nodup_append] at h
      intro m
      exact h.2.2 _ m _ (by simp) rfl
    have ha : (acc.map (·.1)).Nodup := by
      rw [List.map_append, List.nodup_append] at h
      exact h.1
    have ep : putG acc q.1 q.2 = acc ++ [q] := by
      have : ∀ l : List (Key × V), q.1 ∉ l.map (·.1) → putG l q.1 q.2 = l ++ [q] := by
        intro l
        induction l with
        | nil => intro _; rfl
        | cons a l ih =>
          intro h
          simp only [List.map_cons, List.mem_cons, not_or] at h
          unfold putG
          rw [if_neg (fun z => h.1 (by first | exact z | exact z.symm)), ih h.2]
          rfl
      exact this acc hn
    rw [e, putG_putK acc q.1 q.2 ha, ep, merge_nodup kv (acc ++ [q]) (by simpa using h)]
    simp
theorem cs_dict : CaS K cl (rDictA K) dDict := fun O H xs ds E ho r Q q => by
  unfold dDict at q
  split at q
  · rename_i l
    cases ep : dpairs l with
    | none => rw [ep] at q; exact q.elim
    | some kvs =>
      rw [ep] at q
      simp only [opt_some, bind_ok] at q
      split at q
      · rename_i nd
        obtain ⟨v, rfl, a, vs, rfl, h, rr⟩ := r.one
        obtain ⟨ps, kv, rfl, hp, hk, hr⟩ := dpairs_rep rr ep
        refine .inl ⟨a, ps, kv, rfl, SqL.of h, ?_, fun p n => ?_⟩
        · have : ∀ {ps : List Addr} {kv : List (Key × V)}, Paired (fun p q => (hid O H) p = some (.tup [kV q.1, q.2])) ps kv → Paired (fun p q => SqT K H p [kV q.1, q.2]) ps kv := by
            intro ps kv h
            induction h with
            | nil => exact .nil
            | cons a _ ih => exact .cons (SqT.of (hid_same _ _ _ _ a)) ih
          exact this hp
        · rw [merge_nodup kv [] (by rw [List.nil_append, hk]; exact nd), List.nil_append]
          exact q _ _ (same_upd n) (.dk (hid_at (trk_nin ho n)) hk (hr.mono (hid_upd_new n)))
      · exact q.elim
  · obtain ⟨v, rfl, a, kv, rfl, ha, hk, hr⟩ := r.one
    exact .inr ⟨a, kv, rfl, .inl ha, fun p n => q _ _ (same_upd n) (.dk (hid_at (trk_nin ho n)) hk (hr.mono (hid_upd_new n)))⟩
  · exact q.elim
end
end Mx
namespace L2
open PySem PySem.Spec PyProof.Rows
/-! ### (x,) * 0 and (x,) * 1 -/
theorem tuple_mul1 (l : Addr) (items : Array Value) (n : Nat) (sl : Array (Option Value)) (dd : Option Addr) (u : Tok) :
    Meets (Builtin.«tuple.__mul__» ⟨[.ref l, .int 1 u], []⟩) (fun _ R s => s.heap.get? l = some { cls := .type "tuple", dict := dd, data := .seq items n, slots := sl } ∧ R (.ok (.ret (Value.ref l))) s) :=
  .of_wp fun prog w A R s h => by
    obtain ⟨hp, g, d, tk, os⟩ := s
    obtain ⟨hl, h⟩ := h
    have f1 := AutoSeq1.idx_int
    have c1 : (items.isEmpty || (1 : Int) == 1) = true := by simp
    wp_walk using wpAny_loadPart' hl
    repeat (first
      | (refine wpAny_ite_false (by decide) ?_; wp_walk using wpAny_loadPart' hl)
      | (refine wpAny_ite_true c1 ?_; wp_walk using wpAny_loadPart' hl))
    exact ⟨_, rfl, h⟩
theorem tuple_mul0 (l : Addr) (items : Array Value) (n : Nat) (sl : Array (Option Value)) (dd : Option Addr) (u : Tok) (c1 : (items.isEmpty || (0 : Int) == 1) = false) :
    Meets (Builtin.«tuple.__mul__» ⟨[.ref l, .int 0 u], []⟩) (fun _ R s => s.heap.get? l = some { cls := .type "tuple", dict := dd, data := .seq items n, slots := sl } ∧
      R (.ok (.ret (Value.ref s.heap.objs.size))) { s with heap := s.heap.push { cls := Value.type "tuple", data := Data.seq #[] }, toks := s.toks }) :=
  .of_wp fun prog w A R s h => by
    obtain ⟨hp, g, d, tk, os⟩ := s
    obtain ⟨hl, h⟩ := h
    have f1 := AutoSeq1.idx_int
    have c1' : ¬ ((items.isEmpty || (0 : Int) == 1) = true) := by rw [c1]; exact Bool.false_ne_true
    have c2 : (decide ((0 : Int) ≤ 0) || items.isEmpty) = true := by simp
    wp_walk using wpAny_loadPart' hl
    repeat (first
      | (refine wpAny_ite_false (by decide) ?_; wp_walk using wpAny_loadPart' hl)
      | (refine wpAny_ite_false (decide_eq_false c1') ?_; wp_walk using wpAny_loadPart' hl)
      | (refine wpAny_ite_true (decide_eq_true c2) ?_; wp_walk using wpAny_loadPart' hl))
    exact ⟨_, rfl, h⟩
section
variable {X : Cx}
def rRep01 (K : PySem.W.Frag) : R2 := fun x y H Q => ∃ l k xs, x = .ref l ∧ y = .int k ∧ SqT K H l xs ∧ xs ≠ [] ∧ ((k = 1 ∧ Q (.ref l) H) ∨ (k = 0 ∧ ∀ p, H p = none → Q (.ref p) (upd H p (.tup []))))
theorem op_rep01 : OpR X (binaryOp .Mult) (rRep01 X.K) := by
  intro pins s σ H x y v u Q I rx ry h
  obtain ⟨l, k, xs, rfl, rfl, hT, hne, q⟩ := h
  cases rx
  obtain ⟨t, rfl⟩ := ry
  obtain ⟨its, r, ⟨⟨cls, dd, data, sl⟩, ho, hc, n, hd⟩, hs⟩ := I.tuple hT
  simp only at hc hd
  subst hc hd
  have hle : its.length = xs.length := r.length.symm
  have hn : its ≠ [] := fun e => hne (by
    rw [e] at hle
    exact List.eq_nil_of_length_eq_zero hle.symm)
  have hi : its.toArray.isEmpty = false := by
    cases its with
    | nil => exact absurd rfl hn
    | cons a b => rfl
  rcases q with ⟨rfl, q⟩ | ⟨rfl, q⟩
  · refine wpAny_binaryOp_repeat_ref (T := "tuple") (U := "int") (by decide) ⟨_, ho, rfl⟩ (fun s' => typeIs_int s' 1 t) noFill_tuple_mul F.fills_int_mul F.slot_int_rmul repeat_tuple F.slot_int_index.lookup
      (call_meets F.slot_int_rmul (typeIs_int s 1 t) F.entry_int_rmul (F.args_int_rmul_2 _ _) (int_rmul_tuple 1 t l its.toArray n dd sl)
        ⟨ho, rfl, ⟨_, ho, rfl⟩, call_meets F.slot_tuple_mul ⟨_, ho, rfl⟩ F.entry_tuple_mul (F.args_tuple_mul_2 _ _) (tuple_mul1 l its.toArray n sl dd t) ⟨ho, ?_⟩⟩)
    exact ⟨.ref l, H, I, rfl, q⟩
  · refine wpAny_binaryOp_repeat_ref (T := "tuple") (U := "int") (by decide) ⟨_, ho, rfl⟩ (fun s' => typeIs_int s' 0 t) noFill_tuple_mul F.fills_int_mul F.slot_int_rmul repeat_tuple F.slot_int_index.lookup
      (call_meets F.slot_int_rmul (typeIs_int s 0 t) F.entry_int_rmul (F.args_int_rmul_2 _ _) (int_rmul_tuple 0 t l its.toArray n dd sl)
        ⟨ho, rfl, ⟨_, ho, rfl⟩, call_meets F.slot_tuple_mul ⟨_, ho, rfl⟩ F.entry_tuple_mul (F.args_tuple_mul_2 _ _) (tuple_mul0 l its.toArray n sl dd t (by rw [hi]; rfl)) ⟨ho, ?_⟩⟩)
    exact ⟨.ref s.heap.objs.size, _, I.laid (t' := s.toks) (o := .tup []) (fun b ob q => Heap.get?_push_of_some _ q) (Nat.le_refl _) ⟨Nat.zero_le _, [], .nil, IsTup.new _ _⟩, rfl, q _ (I.hok.fresh (Nat.le_refl _))⟩
def rRepA (K : PySem.W.Frag) : R2 := fun x y H Q => rRep01 K x y H Q ∨ rRepT K x y H Q
theorem op_repA : OpR X (binaryOp .Mult) (rRepA X.K) := OpR.or op_rep01 op_repT
end
end L2

namespace Mx
open PySem PySem.Spec PyProof.Rows L2
section
variable {K : Fr} {cl : Cl} {E : L2.St → XK} {H H' H1 H0 : Hp} {O O' : List Addr} {σ : L2.St} {D : Ds} {B : List Addr}
/-! ### a tuple repeated -/
def dRepA : Dt → Dt → R Dt
  | .tup l, .int k => if l ≠ [] ∧ 0 ≤ k ∧ k ≤ 1000 ∧ l.length ≤ 1000 then .ok (.tup (List.replicate k.toNat l).flatten) else .bad
  | _, _ => .bad
theorem repL_append {vs ws : List V} {l m : List Dt} (h : RepL K cl H vs l) (h2 : RepL K cl H ws m) : RepL K cl H (vs ++ ws) (l ++ m) := by
  induction vs generalizing l with
  | nil => cases h; exact h2
  | cons v vs ih =>
    cases h with
    | cons a b => exact .cons a (ih b)
theorem repL_flat {vs : List V} {l : List Dt} (h : RepL K cl H vs l) : ∀ n : Nat, RepL K cl H (List.replicate n vs).flatten (List.replicate n l).flatten
  | 0 => .nil
  | n + 1 => by
    rw [List.replicate_succ, List.replicate_succ, List.flatten_cons, List.flatten_cons]
    exact repL_append h (repL_flat h n)
theorem os_repA : OpS K cl (rRepA K) dRepA := fun O H x y a b E ho rx ry Q q => by
  unfold dRepA at q
  split at q
  · rename_i l k
    split at q
    · rename_i h
      obtain ⟨p, vs, rfl, ha, r⟩ := rx
      cases ry.int_
      have hv : vs ≠ [] := fun z => h.1 (by
        have := r.len
        rw [z] at this
        exact List.eq_nil_of_length_eq_zero this.symm)
      have hlen := r.len
      by_cases h1 : k = 1
      · refine .inl ⟨p, k, vs, rfl, rfl, SqT.of ha, hv, .inl ⟨h1, ?_⟩⟩
        subst h1
        have e : (List.replicate (Int.toNat 1) l).flatten = l := by simp
        rw [e] at q
        exact ok_ret q (.tup (by rw [hid_nin (fun m => by have := ho p m; rw [ha] at this; exact Bool.noConfusion this)]; exact ha) r)
      · by_cases h0 : k = 0
        · refine .inl ⟨p, k, vs, rfl, rfl, SqT.of ha, hv, .inr ⟨h0, ?_⟩⟩
          subst h0
          exact new_tup ho q .nil
        · exact .inr ⟨p, k, vs, rfl, rfl, SqT.of ha, hv, by omega, h.2.2.1, by omega, new_tup ho q (repL_flat r k.toNat)⟩
    · exact q.elim
  · exact q.elim
/-! ### tuple(x) of a dict too -/
def rTupA (K : Fr) : List V → Hp → VK → Prop := fun xs H Q => rTupleOf K xs H Q ∨ DT.rTupK xs H Q
theorem call_tupleB {X : Cx} (hc : X.calm = true) : CallR X (.type "tuple") (rTupA X.K) := CallR.or call_tuple_of (DT.cr_tupK hc)
def dTupA : List Dt → R Dt
  | [.dk kvs] => .ok (.tup (kvs.map fun p => keyD p.1))
  | xs => dTuple xs
@[simp] theorem dTupA_dk (kvs : List (Key × Dt)) : dTupA [.dk kvs] = .ok (.tup (kvs.map fun p => keyD p.1)) := rfl
@[simp] theorem dTupA_lst (l : List Dt) : dTupA [.lst l] = .ok (.tup l) := rfl
theorem repL_keys : ∀ ks : List Key, RepL K cl H (ks.map kV) (ks.map keyD)
  | [] => .nil
  | .inl i :: ks => .cons (.int i) (repL_keys ks)
  | .inr x :: ks => .cons (.str x) (repL_keys ks)
theorem cs_tupA : CaS K cl (rTupA K) dTupA := fun O H xs ds E ho r Q q => by
  unfold dTupA at q
  split at q
  · rename_i kvs
    obtain ⟨v, rfl, a, kv, rfl, ha, hk, hr⟩ := r.one
    refine .inr ⟨a, kv, rfl, .inl ha, ?_⟩
    refine new_tup ho q ?_
    have e1 : (kv.map fun q => kV q.1) = (kv.map (·.1)).map kV := by rw [List.map_map]; rfl
    have e2 : (kvs.map fun q => keyD q.1) = (kvs.map (·.1)).map keyD := by rw [List.map_map]; rfl
    rw [e1, e2, hk]
    exact repL_keys _
  · exact .inl (cs_tuple O H xs _ E ho r Q q)
/-- tuple(d.values()) -/
def dTupV : Dt → R Dt
  | .dk kvs => .ok (.tup (kvs.map (·.2)))
  | _ => .bad
@[simp] theorem dTupV_dk (kvs : List (Key × Dt)) : dTupV (.dk kvs) = .ok (.tup (kvs.map (·.2))) := rfl
theorem sim_tupV {td : TE} {xd : XE} (hd : SimB K cl E td xd) : Sim K cl E (tCB DT.rTupV (tCons (tBM0 K "dict" DT.rVals td) tNil)) (x1 dTupV xd) := fun B H0 O σ D H s Q q => by
  unfold x1 at q
  refine hd B H0 O σ D H s _ ?_
  cases e : xd D with
  | bad => rw [e] at q; exact q.elim
  | ex c fs => rw [e] at q; exact q
  | ok d =>
    rw [e] at q
    simp only [bind_ok] at q
    intro v H1 e1 rd
    unfold dTupV at q
    split at q
    · rename_i kvs
      obtain ⟨a, kv, rfl, ha, hk, hr⟩ := rd
      refine ⟨.inr (.inr (.inl ⟨rfl, .inl ⟨kv, ha⟩⟩)), a, kv, rfl, rfl, .inl ha, fun p n => ?_⟩
      have s1 : Same H1 (upd H1 p (viewO "dict_values" p a)) := same_upd n
      refine ⟨p, a, kv, rfl, upd_same, .inl (s1 _ _ ha), fun q2 n2 => ?_⟩
      have s2 : Same (upd H1 p (viewO "dict_values" p a)) (upd (upd H1 p (viewO "dict_values" p a)) q2 (.tup (kv.map (·.2)))) := same_upd n2
      refine q _ _ ((e1.trans s1).trans s2) (.tup ?_ (hr.mono (hid_mono (s1.trans s2))))
      refine hid_at (fun m => ?_)
      have h1 := ((s.mono e1).own q2 m).2
      have n1 : H1 q2 = none := by
        by_cases z : q2 = p
        · rw [z]; exact n
        · rw [upd_ne z] at n2; exact n2
      rw [n1] at h1
      exact mutO_none h1
    · exact q.elim
/-! ### max(l, default=d) -/
def dints : List Dt → Option (List Int)
  | [] => some []
  | .int i :: l => (dints l).map fun r => i :: r
  | _ :: _ => none
@[simp] theorem dints_map : ∀ l : List Int, dints (l.map Dt.int) = some l
  | [] => rfl
  | i :: l => by rw [List.map_cons]; unfold dints; rw [dints_map l]; rfl
theorem dints_rep : ∀ {vs : List V} {l : List Dt} {ns : List Int}, RepL K cl H vs l → dints l = some ns → vs = ns.map V.int
  | _, _, ns, .nil, e => by simp only [dints, Option.some.injEq] at e; subst e; rfl
  | _, _, ns, .cons (ds := l) hv hl, e => by
    unfold dints at e
    split at e
    · rename_i h; cases h
    · rename_i i l' h
      injection h with h1 h2
      subst h1 h2
      cases ed : dints l with
      | none => rw [ed] at e; cases e
      | some r =>
        rw [ed] at e
        simp only [Option.map_some, Option.some.injEq] at e
        subst e
        cases hv
        rw [dints_rep hl ed]; rfl
    · cases e
def dMaxD : List Dt → List Dt → R Dt
  | [.lst l], [.int d] => (opt (dints l)).bind fun ns => .ok (.int (DT.maxI d ns))
  | _, _ => .bad
@[simp] theorem dMaxD_eq (l : List Dt) (d : Int) : dMaxD [.lst l] [.int d] = (opt (dints l)).bind fun ns => .ok (.int (DT.maxI d ns)) := rfl
@[simp] def xMaxD (xa xz : XA) : XE := fun D => (xa D).bind fun a => (xz D).bind fun z => dMaxD a z
theorem sim_maxD {t tk : TA} {xa xz : XA} (ha : SimBA K cl E t xa) (hz : SimBA K cl E tk xz) : Sim K cl E (tCKw (DT.rMaxDef K) t tk) (xMaxD xa xz) := fun B H0 O σ D H s Q q => by
  unfold xMaxD at q
  refine ha B H0 O σ D H s _ ?_
  cases ea : xa D with
  | bad => rw [ea] at q; exact q.elim
  | ex c fs => rw [ea] at q; exact q
  | ok a =>
    rw [ea] at q
    simp only [R.bind] at q
    intro vs H1 e1 rv
    refine hz B H0 O σ D H1 (s.mono e1) _ ?_
    cases ez : xz D with
    | bad => rw [ez] at q; exact q.elim
    | ex c fs => rw [ez] at q; exact ExOk.mono e1 q
    | ok z =>
      rw [ez] at q
      simp only [R.bind] at q
      intro zs H2 e2 rz
      unfold dMaxD at q
      split at q
      · rename_i l d
        cases en : dints l with
        | none => rw [en] at q; exact q.elim
        | some ns =>
          rw [en] at q
          simp only [opt_some, R.bind] at q
          obtain ⟨v, rfl, p, ws, rfl, hp, rr⟩ := rv.one
          have := dints_rep rr en
          subst this
          obtain ⟨z, rfl, hz2⟩ := rz.one
          cases hz2.int_
          exact ⟨p, ns, d, rfl, rfl, SqL.of (e2 _ _ hp), q _ H2 (e1.trans e2) (.int _)⟩
      · exact q.elim
/-! ### the message of an exception with its field within -/
def fmtS : Dt → Option Str
  | .str y => if y.length ≤ 1000 then some y else none
  | .int i => if i.natAbs.log2 < 1920 ∧ (toString i : Str).length ≤ 1000 then some (toString i) else none
  | _ => none
def partT : Option Str → TE
  | some a => tC (.str a)
  | none => tFmt (tVar 1)
def partsB (l : List (Option Str)) : Bool := l.all fun o => match o with
  | some a => decide (a.length ≤ 1000)
  | none => true
theorem parts_len {l : List (Option Str)} (h : partsB l = true) : ∀ a, some a ∈ l → a.length ≤ 1000 := fun a m => by
  have := List.all_eq_true.mp h _ m
  simpa using this
theorem len_catS (x y : Str) : (x ++ y).length = x.length + y.length := by
  show (x.cps ++ y.cps).size = _
  rw [Array.size_append]; rfl
theorem msg_ok {x : V} {d : Dt} {z : Str} {Hr : Hp} {σ : L2.St} (hx : Rep K cl Hr x d) (hs : fmtS d = some z) (h1 : σ[1]? = some (some x)) : ∀ (parts : List (Option Str)) (acc : Str) (H : Hp) (Q : Str → Hp → Prop), acc.length + 1000 * parts.length ≤ 1000000 →
    (∀ a, some a ∈ parts → a.length ≤ 1000) → (∀ out, Q out H) → tJs (parts.map partT) acc σ H Q
  | [], acc, H, Q, _, _, q => q acc
  | p :: parts, acc, H, Q, hl, ha, q => by
    simp only [List.length_cons] at hl
    have sl : sizeLine = 16777216 := sizeLine_eq
    have go : ∀ y : Str, y.length ≤ 1000 → (acc ++ y).length ≤ sizeLine ∧ tJs (parts.map partT) (acc ++ y) σ H Q := fun y hy => by
      have := len_catS acc y
      exact ⟨by omega, msg_ok hx hs h1 parts (acc ++ y) H Q (by omega) (fun a m => ha a (List.mem_cons_of_mem _ m)) q⟩
    cases p with
    | some a =>
      obtain ⟨g1, g2⟩ := go a (ha a List.mem_cons_self)
      exact ⟨a, rfl, g1, g2⟩
    | none =>
      refine ⟨x, h1, ?_⟩
      cases d with
      | str y =>
        simp only [fmtS] at hs
        split at hs
        · rename_i hy
          cases hx
          obtain ⟨g1, g2⟩ := go y hy
          exact .inl ⟨y, rfl, by omega, y, rfl, g1, g2⟩
        · cases hs
      | int i =>
        simp only [fmtS] at hs
        split at hs
        · rename_i hy
          cases hx
          obtain ⟨g1, g2⟩ := go (toString i) hy.2
          exact .inr ⟨i, rfl, hy.1, _, rfl, g1, g2⟩
        · cases hs
      | _ => cases hs
end
end Mx
namespace Mx
open PySem PySem.Spec PyProof.Rows L2
section
variable {K : Fr} {cl : Cl} {E : L2.St → XK} {H H' H1 H0 : Hp} {O O' : List Addr} {σ : L2.St} {D : Ds} {B : List Addr}
/-! ### slices of tuples, tuple + tuple -/
def dSlT (a : Dt) (l h : Option Int) : R Dt := match a with
  | .tup z => .ok (.tup (cutD z l h))
  | _ => .bad
@[simp] theorem dSlT_tup (z : List Dt) (l h : Option Int) : dSlT (.tup z) l h = .ok (.tup (cutD z l h)) := rfl
@[simp] def xSlT (xe : XE) (xl xh : Ds → R (Option Int)) : XE := fun D => (xe D).bind fun a => (xl D).bind fun l => (xh D).bind fun h => dSlT a l h
theorem cutD_whole {l : List Dt} {lo hi : Option Int} (h : HT.sIx l.length 0 lo = 0 ∧ HT.sIx l.length l.length hi = l.length) : cutD l lo hi = l := by
  unfold cutD
  rw [h.1, h.2]
  simp
theorem tup_nin (ho : Trk O H) {p : Addr} {vs : List V} (h : H p = some (.tup vs)) : p ∉ O := fun m => by
  have := ho p m
  rw [h] at this
  exact Bool.noConfusion this
theorem sim_slT {te : TE} {tl th : TO} {xe : XE} {xl xh : Ds → R (Option Int)} (he : SimB K cl E te xe) (hl : SimO K cl E tl xl) (hh : SimO K cl E th xh) : Sim K cl E (tSl (L2.rSlA K) te tl th) (xSlT xe xl xh) := fun B H0 O σ D H s Q q => by
  unfold xSlT at q
  refine he B H0 O σ D H s _ ?_
  cases ea : xe D with
  | bad => rw [ea] at q; exact q.elim
  | ex c fs => rw [ea] at q; exact q
  | ok a =>
    rw [ea] at q
    intro x H1 e1 rx
    refine hl B H0 O σ D H1 (s.mono e1) _ ?_
    simp only [Mx.R.bind] at q
    cases el : xl D with
    | bad => rw [el] at q; exact q.elim
    | ex c fs => rw [el] at q; exact ExOk.mono e1 q
    | ok l =>
      rw [el] at q
      intro H2 e2
      refine hh B H0 O σ D H2 ((s.mono e1).mono e2) _ ?_
      simp only [Mx.R.bind] at q
      cases eh : xh D with
      | bad => rw [eh] at q; exact q.elim
      | ex c fs => rw [eh] at q; exact ExOk.mono (e1.trans e2) q
      | ok h =>
        rw [eh] at q
        intro H3 e3
        have e123 := (e1.trans e2).trans e3
        have t3 : Trk O H3 := (s.mono e123).trk
        cases a with
        | tup z =>
          obtain ⟨p, vs, rfl, ha, r⟩ := rx
          have ha3 := (e2.trans e3) _ _ ha
          have r3 := r.mono (hid_mono (e2.trans e3))
          have hlen := r.len
          refine ⟨p, vs, rfl, SqT.of ha3, fun hw => ?_, fun hw c n => ?_⟩
          · have e : cutD z l h = z := cutD_whole (by rw [← hlen]; exact hw)
            refine q _ H3 e123 ?_
            rw [e]
            exact .tup (by rw [hid_nin (tup_nin t3 ha3)]; exact ha3) r3
          · exact q _ _ (e123.trans (same_upd n)) (.tup (hid_at (trk_nin t3 n)) ((cut_rep r3 l h).mono (hid_upd_new n)))
        | _ => exact q.elim
def dCatT : Dt → Dt → R Dt
  | .tup l, .tup m => if l.length + m.length ≤ 1000000 then .ok (.tup (l ++ m)) else .bad
  | _, _ => .bad
@[simp] theorem dCatT_tup (l m : List Dt) : dCatT (.tup l) (.tup m) = if l.length + m.length ≤ 1000000 then .ok (.tup (l ++ m)) else .bad := rfl
theorem os_catT : OpS K cl (rCatA K) dCatT := fun O H x y a b E ho rx ry Q q => by
  unfold dCatT at q
  split at q
  · split at q
    · rename_i l m hl
      obtain ⟨p, vs, rfl, h1, r1⟩ := rx
      obtain ⟨p', vs', rfl, h2, r2⟩ := ry
      refine ⟨p, p', vs, vs', rfl, rfl, SqT.of h1, SqT.of h2, by rw [r1.len, r2.len]; exact sz_of hl, fun z => ?_, fun _ z => ?_, fun _ _ => new_tup ho q (r1.app r2)⟩
      · subst z
        cases r1
        exact ok_ret q (.tup (by rw [hid_nin (tup_nin ho h2)]; exact h2) r2)
      · subst z
        cases r2
        rw [List.append_nil] at q
        exact ok_ret q (.tup (by rw [hid_nin (tup_nin ho h1)]; exact h1) r1)
    · exact q.elim
  · exact q.elim
end
end Mx
namespace Mx
open PySem PySem.Spec PyProof.Rows L2
section
variable {K : Fr} {cl : Cl} {E : L2.St → XK} {H H' H1 H0 : Hp} {O O' : List Addr} {σ : L2.St} {D : Ds} {B : List Addr}
/-! ### enumerate(list) -/
def enumD : Nat → List Dt → List Dt
  | _, [] => []
  | n, d :: l => .tup [.int (n : Int), d] :: enumD (n + 1) l
@[simp] theorem enumD_nil (n : Nat) : enumD n [] = [] := rfl
@[simp] theorem enumD_cons (n : Nat) (d : Dt) (l : List Dt) : enumD n (d :: l) = .tup [.int (n : Int), d] :: enumD (n + 1) l := rfl
theorem enumD_len : ∀ (n : Nat) (l : List Dt), (enumD n l).length = l.length
  | _, [] => rfl
  | n, d :: l => by rw [enumD_cons, List.length_cons, enumD_len, List.length_cons]
theorem enumD_get : ∀ {n : Nat} {l : List Dt} {i : Nat} {d : Dt}, (enumD n l)[i]? = some d → ∃ x, l[i]? = some x ∧ d = .tup [.int ((n + i : Nat) : Int), x]
  | _, [], i, d, h => by simp at h
  | n, x :: l, 0, d, h => by simp at h; exact ⟨x, rfl, h.symm⟩
  | n, x :: l, i + 1, d, h => by
    obtain ⟨y, h1, h2⟩ := enumD_get (n := n + 1) (l := l) (i := i) (by simpa using h)
    refine ⟨y, by simpa using h1, ?_⟩
    rw [h2, show n + 1 + i = n + (i + 1) by omega]
theorem goes_enum {a : Addr} {vs : List V} {ds : List Dt} (h : SqL K (hid O H) a vs) (r : RepL K cl (hid O H) vs ds) : Goes K cl (Ite K a) (enumD 0 ds) O H H0 := fun i O' H' _ e t => by
  have h' : SqL K H' a vs := (hid_same O' H').seq (e.seq h)
  refine ⟨fun d hd => ?_, fun hi => ⟨vs, h', by rw [enumD_len] at hi; rw [r.len]; omega⟩⟩
  obtain ⟨x, hx, rfl⟩ := enumD_get hd
  obtain ⟨v, hv, rv⟩ := r.get hx
  refine ⟨⟨vs, v, h', hv⟩, fun z H2 q => ?_⟩
  obtain ⟨T, x', rfl, hT, rfl, f1⟩ := q
  have a1 := f1 vs h'
  rw [hv] at a1
  cases a1
  have nT : T ∉ O' := fun m => by have := t T m; rw [hT] at this; exact mutO_none this
  rw [Nat.zero_add]
  exact ⟨same_upd hT, .tup (hid_at nT) (.cons (.int _) (.cons ((rv.mono e).mono (hid_mono (same_upd hT))) .nil))⟩
def lst1 : List Dt → R (List Dt)
  | [.lst a] => .ok a
  | [.frl a] => .ok a
  | _ => .bad
@[simp] theorem lst1_ok (a : List Dt) : lst1 [.lst a] = .ok a := rfl
@[simp] def xEnum (xa : XA) : XA := fun D => (xa D).bind fun l => (lst1 l).bind fun p => .ok (enumD 0 p)
theorem si_enum {ta : TA} {xa : XA} (h : SimA K cl E ta xa) : SimI K cl E (iEnum K ta) (xEnum xa) := fun B H0 O σ D H s Rk q => by
  unfold xEnum at q
  refine h B H0 O σ D H s _ ?_
  cases e : xa D with
  | bad => rw [e] at q; exact q.elim
  | ex c fs => rw [e] at q; exact q
  | ok l =>
    rw [e] at q
    simp only [R.bind] at q
    intro vs H1 e1 r
    cases r with
    | nil => exact q.elim
    | cons r1 r => cases r with
      | cons r2 r => cases r1 <;> exact q.elim
      | nil =>
        cases r1 <;> first | exact q.elim | skip
        · rename_i a vs ds ha ra
          exact ⟨a, vs, rfl, SqL.of (hid_same _ _ _ _ ha), q _ H1 e1 (goes_enum (SqL.of ha) ra)⟩
        · rename_i a vs ds ha ra
          exact ⟨a, vs, rfl, (hid_same _ _).seq ha, q _ H1 e1 (goes_enum ha ra)⟩
end
end Mx
namespace ZM
open PySem PySem.Spec PyProof.Rows L2 PySem.W
/-! ### zip of a list and a tuple, out of the library's zip of any two iterators -/
def ItzM (K : PySem.W.Frag) (a b : Addr) : It :=
  ⟨fun i H => ∃ (xs ys : List V) (x y : V), SqL K H a xs ∧ SqT K H b ys ∧ xs[i]? = some x ∧ ys[i]? = some y,
    fun i H v H' => ∃ T x y, v = .ref T ∧ H T = none ∧ H' = upd H T (.tup [x, y]) ∧ (∀ xs, SqL K H a xs → xs[i]? = some x) ∧ ∀ ys, SqT K H b ys → ys[i]? = some y,
    fun i H => ∃ xs ys : List V, SqL K H a xs ∧ SqT K H b ys ∧ i ≤ xs.length ∧ i ≤ ys.length ∧ (i = xs.length ∨ i = ys.length)⟩
theorem sep_of {z TI TO i1 i2 a b : Addr} (D : ZipApart z TI TO i1 i2 a b) : ZipSep2 z TI TO i1 i2 [i1, a] [i2, b] where
  TIz := D.TIz
  TOz := D.TOz
  TITO := D.TITO
  TIi1 := D.TIi1
  mem1 := by simp
  zf1 := by simp [D.i1z.symm, D.l1z.symm]
  Tf1 := by simp [D.TOi1, D.l1TO.symm]
  TIi2 := D.TIi2
  mem2 := by simp
  zf2 := by simp [D.i2z.symm, D.l2z.symm]
  Tf2 := by simp [D.TOi2, D.l2TO.symm]
  sep1_2 := by simp [D.i12, D.l2i1.symm]
  sep2_1 := by simp [D.i12.symm, D.l1i2.symm]
theorem turn_zipM {P : Program} {w : World} {K : PySem.W.Frag} {elts : List Expr} {kk : Nat} {tpos : Pos} {a b z TI TO i1 i2 : Addr} (D : ZipApart z TI TO i1 i2 a b) :
    Turn P w K (.Tuple elts kk tpos) (ItzM K a b) [z, TI, TO, i1, i2] z (fun i h => IsZip h z TI TO .none ∧ IsTupOf2 h TI (.ref i1) (.ref i2) ∧ (∃ x y, IsTupOf2 h TO x y) ∧ h.IsListIter i1 a i ∧ h.IsTupleIter i2 b i) where
  mem := by simp
  obj := fun i h st c hc => by
    obtain ⟨hz, hTI, ⟨x, y, hTO⟩, ⟨o1, e1, _, d1⟩, ⟨o2, e2, _, d2⟩⟩ := st
    simp only [List.mem_cons, List.not_mem_nil, or_false] at hc
    rcases hc with rfl | rfl | rfl | rfl | rfl
    · exact ⟨_, hz, fun v q => nomatch q⟩
    · exact ⟨_, hTI, fun v q => nomatch q⟩
    · exact ⟨_, hTO, fun v q => nomatch q⟩
    · exact ⟨o1, e1, fun v q => by rw [d1] at q; cases q⟩
    · exact ⟨o2, e2, fun v q => by rw [d2] at q; cases q⟩
  keep := fun i h h' ⟨hz, hTI, ⟨x, y, hTO⟩, h1, h2⟩ k =>
    ⟨k z (by simp) _ hz, k TI (by simp) _ hTI, ⟨x, y, k TO (by simp) _ hTO⟩, h1.at fun o q => k i1 (by simp) o q, h2.at fun o q => k i2 (by simp) o q⟩
  item := by
    intro X hP hw hK hc i pins s σ H E I hf st hg
    subst hP hw hK
    obtain ⟨hz, hTI, ⟨x0, y0, hTO⟩, h1, h2⟩ := st
    obtain ⟨xs, ys, x, y, hqx, hqy, hx, hy⟩ := hg
    obtain ⟨its, rv, p, _⟩ := I.list hqx
    obtain ⟨its2, rv2, p2, _⟩ := I.tuple hqy
    obtain ⟨u, hu, ru⟩ := rv.get hx
    obtain ⟨u2, hu2, ru2⟩ := rv2.get hy
    have big : ∀ c, c ∈ [z, TI, TO, i1, i2] → c < s.heap.objs.size := fun c hcm => by
      simp only [List.mem_cons, List.not_mem_nil, or_false] at hcm
      rcases hcm with rfl | rfl | rfl | rfl | rfl
      · exact Heap.lt_size hz
      · exact Heap.lt_size hTI
      · exact Heap.lt_size hTO
      · obtain ⟨_, e1, _⟩ := h1; exact Heap.lt_size e1
      · obtain ⟨_, e2, _⟩ := h2; exact Heap.lt_size e2
    have hzl : z < s.heap.objs.size := big z (by simp)
    have hh : X.A.handled = none := I.ok.hd hc
    have l1 : i < its.toArray.size := by
      have := (List.getElem?_eq_some_iff.mp hu).1
      simpa using this
    have l2 : i < its2.toArray.size := by
      have := (List.getElem?_eq_some_iff.mp hu2).1
      simpa using this
    refine wpAny_pyNext_zipD2_item (sep_of D) (Draws.list (A := X.A.in1) hh i1 a D.l1i1 its.toArray) (Draws.tuple (A := X.A.in1) hh i2 b D.l2i2 its2.toArray) hz hTI hTO ⟨h1, p.isList⟩ ⟨h2, p2⟩ l1 l2
      fun y1 y2 h' tk q1 q2 z' TO' st1 st2 hT hsz hk => ?_
    have e1 : y1 = u := by
      have q1 : its.toArray[i]? = some y1 := q1
      rw [List.getElem?_toArray, hu] at q1
      exact (Option.some.inj q1).symm
    have e2 : y2 = u2 := by
      have q2 : its2.toArray[i]? = some y2 := q2
      rw [List.getElem?_toArray, hu2] at q2
      exact (Option.some.inj q2).symm
    subst e1 e2
    refine ⟨_, rfl, wpAny_letOwnedTupleGo_zip (s := { s with heap := h', toks := tk }) z' fun h'' z'' sb => ?_⟩
    have hT2 : h''.get? s.heap.objs.size = some { cls := .type "tuple", data := .seq #[y1, y2] } := (sb.2 _ (Nat.ne_of_gt hzl)).trans hT
    have new : ObjOk X.prog X.w (upd H s.heap.objs.size (.tup [x, y])) h'' s.heap.objs.size (.tup [x, y]) :=
      ⟨by show 2 ≤ sizeLine; decide, [y1, y2], .cons ru (.cons ru2 .nil), ⟨_, hT2, rfl, _, rfl⟩⟩
    have I1 : Inv X pins σ (upd H s.heap.objs.size (.tup [x, y])) { s with heap := h'', toks := tk } :=
      I.turnedNew (t' := tk) (ch := [z, TI, TO, i1, i2]) (fun c o hb q => (sb.2 c (fun q' => hb (by simp [q']))).trans (hk c o (fun q' => hb (by simp [q'])) (fun q' => hb (by simp [q'])) (fun q' => hb (by simp [q'])) (fun q' => hb (by simp [q'])) q)) hf (Nat.le_refl _) new
    refine ⟨.ref s.heap.objs.size, _, I1, rfl, ⟨_, x, y, rfl, I.hok.fresh (Nat.le_refl _), rfl, fun l hl => by rw [I.list_inj hl hqx]; exact hx, fun l hl => by rw [I.tuple_inj hl hqy]; exact hy⟩,
      ⟨z'', (sb.2 _ D.TIz).trans (hk _ _ D.TIz D.TITO D.TIi1 D.TIi2 hTI), ⟨y1, y2, (sb.2 _ D.TOz).trans TO'⟩, st1.1.at fun o q => (sb.2 _ D.i1z).trans q, st2.1.at fun o q => (sb.2 _ D.i2z).trans q⟩, fun c hcm => ?_⟩
    rw [upd_ne (Nat.ne_of_lt (big c hcm))]
    exact (hf c hcm).1
  done := by
    intro X hP hw hK hc i pins s σ H E I hf st hg
    subst hP hw hK
    obtain ⟨hz, hTI, ⟨x0, y0, hTO⟩, h1, h2⟩ := st
    obtain ⟨xs, ys, hqx, hqy, le1, le2, hend⟩ := hg
    obtain ⟨its, rv, p, _⟩ := I.list hqx
    obtain ⟨its2, rv2, p2, _⟩ := I.tuple hqy
    have l1 : its.toArray.size = xs.length := by rw [List.size_toArray]; exact rv.length.symm
    have l2 : its2.toArray.size = ys.length := by rw [List.size_toArray]; exact rv2.length.symm
    have hh : X.A.handled = none := I.ok.hd hc
    exact wpAny_pyNext_zipD2_end (sep_of D) (Draws.list (A := X.A.in1) hh i1 a D.l1i1 its.toArray) (Draws.tuple (A := X.A.in1) hh i2 b D.l2i2 its2.toArray) hz hTI hTO ⟨h1, p.isList⟩ ⟨h2, p2⟩ (by omega) (by omega) (by omega)
      fun h' tk hk => ⟨rfl, I.turnedL (t' := tk) (ch := [z, TI, TO, i1, i2]) (fun c o hb q =>
        hk c o (fun q' => hb (by simp [q'])) (fun q' => hb (by simp [q'])) (fun q' => hb (by simp [q'])) (fun q' => hb (by simp [q'])) q) hf⟩
  self := fun A i s Q E st h => wpAny_pyIter_zip st.1 h
def iZipM (K : PySem.W.Frag) (ta : TA) : TI := fun σ H R => ta σ H fun vs H1 => ∃ a b xs ys, vs = [.ref a, .ref b] ∧ SqL K H1 a xs ∧ SqT K H1 b ys ∧ R (ItzM K a b) H1
theorem pi_zipM {X : Cx} {e e2 : Expr} {ta : TA} {p pos tpos : Pos} {elts : List Expr} {kk : Nat} (hg : Gl X "zip") (hm : X.mg "zip" = none) (ha : PA X [e, e2] ta)
    (hs : starEach [e, e2] X.env = (false, eval e X.env) :: starEach [e2] X.env := by rfl) (hpl : (backTo pos (starEach [e2] X.env)).any (·.1) = false := by rfl) :
    PI X (.Tuple elts kk tpos) (.Call (.Name "zip" p) [e, e2] [] pos) (iZipM X.K ta) := by
  refine ⟨fun pins s σ H R I h => ?_⟩
  refine Call_ (ld_blt I hg hm PyProof.Rows.boot_zip (PyProof.Rows.callWith_type1 (thn (ha.run pos pins s σ H _ I h) fun us s1 ⟨vs, H1, I1, r1, a, b, xs, ys, ex, hqx, hqy, q⟩ => ?_) hs hpl))
  subst ex
  obtain ⟨v1, w1, rfl, rx1, rr⟩ : ∃ v w, us = v :: w ∧ RelV (.ref a) v ∧ Vals [.ref b] w := by cases r1 with | cons h t => exact ⟨_, _, rfl, h, t⟩
  obtain ⟨v2, w2, rfl, rx2, rn⟩ : ∃ v w, w1 = v :: w ∧ RelV (.ref b) v ∧ Vals [] w := by cases rr with | cons h t => exact ⟨_, _, rfl, h, t⟩
  cases rn
  obtain rfl : v1 = .ref a := rx1
  obtain rfl : v2 = .ref b := rx2
  obtain ⟨its, rv, p1, _⟩ := I1.list hqx
  obtain ⟨its2, rv2, p2, _⟩ := I1.tuple hqy
  have la : a < s1.heap.objs.size := p1.lt
  have lb : b < s1.heap.objs.size := by obtain ⟨_, ho, _⟩ := id p2; exact Heap.lt_size ho
  refine zip_begins2 (begins_list a its.toArray) (begins_tuple b its2.toArray) p1.isList p2 fun h' hz hTI hTO h1 h2 hsz hk => wpAny_pyIter_zip hz ?_
  have I2 : Inv X pins σ H1 { s1 with heap := h' } := I1.kept (t' := s1.toks) hk
  refine ⟨s1.heap.objs.size + 4, [s1.heap.objs.size + 4, s1.heap.objs.size + 2, s1.heap.objs.size + 3, s1.heap.objs.size, s1.heap.objs.size + 1], _, _, H1, rfl, I2, turn_zipM (PySem.W.ktu_apart s1.heap.objs.size a b la lb), ⟨hz, hTI, ⟨_, _, hTO⟩, ⟨_, h1, rfl, rfl⟩, ⟨_, h2, rfl, rfl⟩⟩, fun c hcm => ?_, q⟩
  have hle : s1.heap.objs.size ≤ c := by
    simp only [List.mem_cons, List.not_mem_nil, or_false] at hcm
    rcases hcm with rfl | rfl | rfl | rfl | rfl
    · exact Nat.le_add_right _ _
    · exact Nat.le_add_right _ _
    · exact Nat.le_add_right _ _
    · exact Nat.le_refl _
    · exact Nat.le_add_right _ _
  exact I1.fpOk hle (I1.hok.fresh hle)
end ZM

namespace Mx
open PySem PySem.Spec PyProof.Rows L2
section
variable {K : Fr} {cl : Cl} {E : L2.St → XK} {H H' H1 H0 : Hp} {O O' : List Addr} {σ : L2.St} {D : Ds} {B : List Addr}
/-! ### as data: zip of two lists, or of a list and a tuple -/
theorem goes_zipM {a b : Addr} {vs ws : List V} {ds es : List Dt} (h : SqL K (hid O H) a vs) (h2 : (hid O H) b = some (.tup ws)) (r : RepL K cl (hid O H) vs ds) (r2 : RepL K cl (hid O H) ws es) : Goes K cl (ZM.ItzM K a b) (zipD ds es) O H H0 := fun i O' H' hi0 e t => by
  have h' : SqL K H' a vs := (hid_same O' H').seq (e.seq h)
  have h2' : SqT K H' b ws := SqT.of ((hid_same O' H') _ _ (e _ _ h2))
  refine ⟨fun d hd => ?_, fun hi => ⟨vs, ws, h', h2', ?_⟩⟩
  · obtain ⟨x, y, hx, hy, rfl⟩ := zipD_get hd
    obtain ⟨v, hv, rv⟩ := r.get hx
    obtain ⟨w, hw, rw_⟩ := r2.get hy
    refine ⟨⟨vs, ws, v, w, h', h2', hv, hw⟩, fun z H2 q => ?_⟩
    obtain ⟨T, x', y', rfl, hT, rfl, f1, f2⟩ := q
    have a1 := f1 vs h'
    have a2 := f2 ws h2'
    rw [hv] at a1; rw [hw] at a2
    cases a1; cases a2
    have nT : T ∉ O' := fun m => by have := t T m; rw [hT] at this; exact mutO_none this
    exact ⟨same_upd hT, .tup (hid_at nT) (.cons ((rv.mono e).mono (hid_mono (same_upd hT))) (.cons ((rw_.mono e).mono (hid_mono (same_upd hT))) .nil))⟩
  · rw [zipD_len] at hi
    have := r.len
    have := r2.len
    omega
def lstT : List Dt → R (List Dt × List Dt)
  | [.lst a, .tup b] => .ok (a, b)
  | _ => .bad
@[simp] theorem lstT_ok (a b : List Dt) : lstT [.lst a, .tup b] = .ok (a, b) := rfl
@[simp] def xZipM (xa : XA) : XA := fun D => (xa D).bind fun l => (lstT l).bind fun p => .ok (zipD p.1 p.2)
theorem si_zipM {ta : TA} {xa : XA} (h : SimA K cl E ta xa) : SimI K cl E (ZM.iZipM K ta) (xZipM xa) := fun B H0 O σ D H s Rk q => by
  unfold xZipM at q
  refine h B H0 O σ D H s _ ?_
  cases e : xa D with
  | bad => rw [e] at q; exact q.elim
  | ex c fs => rw [e] at q; exact q
  | ok l =>
    rw [e] at q
    simp only [R.bind] at q
    intro vs H1 e1 r
    cases r with
    | nil => exact q.elim
    | cons r1 r => cases r with
      | nil => cases r1 <;> exact q.elim
      | cons r2 r => cases r with
        | cons r3 r => cases r1 <;> first | exact q.elim | (cases r2 <;> exact q.elim)
        | nil =>
          cases r1 <;> first | exact q.elim | skip
          cases r2 <;> first | exact q.elim | skip
          rename_i a vs ds ha ra b ws es hb rb
          exact ⟨a, b, vs, ws, rfl, SqL.of (hid_same _ _ _ _ ha), SqT.of (hid_same _ _ _ _ hb), q _ H1 e1 (goes_zipM (SqL.of ha) hb ra rb)⟩
end
end Mx
namespace Mx
open PySem PySem.Spec PyProof.Rows L2
section
variable {K : Fr} {cl : Cl} {E : L2.St → XK} {H H' H1 H0 : Hp} {O O' : List Addr} {σ : L2.St} {D : Ds} {B : List Addr}
@[simp] def xrFrz (i : Nat) (xr : XR) : XR := fun D => xr (Frz i D)
theorem sr_frz {i : Nat} {ts : TS} {xr : XR} (h : SimR K cl E ts xr) : SimR K cl E ts (xrFrz i xr) := fun B H0 O σ D H s En q => by
  obtain ⟨O', r, sub⟩ := s.frz i
  exact h B H0 O' σ _ H r En (PostR.fw (hid_sub sub) q)
end
end Mx
namespace L2
open PySem PySem.Spec PyProof.Rows PySem.W
section
variable {X : Cx}
/-- o[i] of a list, as an augmented store reads it -/
theorem get_list : PGet X (rIxL X.K) := by
  intro pins s σ H x y v u Q I rx ry h
  obtain ⟨p, xs, i, z, rfl, rfl, hq, he, q⟩ := h
  cases rx
  obtain ⟨t, rfl⟩ := ry
  obtain ⟨its, r, pl, hz⟩ := I.list hq
  obtain ⟨j, h1, h2, h3, h4, h5⟩ := atI_get he
  obtain ⟨w, ew, rw'⟩ := r.get h2
  have hl := r.length
  have hn := line63
  have fin : EP X pins σ Q w s := ⟨z, H, I, rw', q⟩
  by_cases h0 : 0 ≤ i
  · have hj : i.toNat = j := by
      rw [seqIndex_of h0 h5] at h1
      exact Option.some.inj h1
    exact wpAny_getItem_list pl.isList h0 (by omega) (by rw [hj]; simpa using ew) fin
  · have hj : (i + (its.toArray.size : Int)).toNat = j := by
      rw [seqIndex_neg (by omega) h4] at h1
      rw [List.size_toArray, ← hl]
      exact Option.some.inj h1
    exact wpAny_getItem_list_neg pl.isList (by omega) (by rw [List.size_toArray] <;> omega) (by omega) (by rw [hj]; simpa using ew) fin
end
end L2
namespace Mx
open PySem PySem.Spec PyProof.Rows L2
section
variable {K : Fr} {cl : Cl} {E : L2.St → XK} {H H' H1 H0 Hh : Hp} {O O' : List Addr} {σ : L2.St} {D : Ds} {B : List Addr}
/-! ### owned trees -/
theorem TrL.len : ∀ {vs : List V} {ts : List Ow} {F : List Addr}, TrL K cl H Hh vs ts F → vs.length = ts.length
  | _, _, _, .nil => rfl
  | _, _, _, .cons _ r => by rw [List.length_cons, List.length_cons, r.len]
/-- one place of a row of trees, and the row around it -/
theorem TrL.hole : ∀ {vs : List V} {ts : List Ow} {F : List Addr} {n : Nat} {t : Ow}, TrL K cl H Hh vs ts F → ts[n]? = some t →
    ∃ w F1 G F2, vs[n]? = some w ∧ F = F1 ++ G ++ F2 ∧ Tr K cl H Hh w t G ∧ ∀ (H' Hh' : Hp) (t' : Ow) (w' : V) (G' : List Addr), Same Hh Hh' → (∀ a, a ∈ F1 ∨ a ∈ F2 → H' a = H a) → Tr K cl H' Hh' w' t' G' → TrL K cl H' Hh' (vs.set n w') (ts.set n t') (F1 ++ G' ++ F2)
  | _, _, _, n, _, .nil, e => by simp at e
  | _, _, _, 0, _, .cons (v := v) (F := F) (G := G) h r, e => by
    simp at e
    subst e
    exact ⟨v, [], F, G, rfl, rfl, h, fun H' Hh' t' w' G' eh g h' => .cons h' ((r.agree fun a m => g a (.inr m)).mono (Same.refl _) eh)⟩
  | _, _, _, n + 1, _, .cons (F := F) h r, e => by
    obtain ⟨w, F1, G, F2, e1, rfl, e3, f⟩ := r.hole (n := n) (by simpa using e)
    refine ⟨w, F ++ F1, G, F2, by simpa using e1, by simp [List.append_assoc], e3, fun H' Hh' t' w' G' eh g h' => ?_⟩
    have := TrL.cons ((h.agree (H' := H') fun a m => g a (.inl (List.mem_append_left _ m))).mono (Same.refl _) eh) (f H' Hh' t' w' G' eh (fun a m => g a (m.imp (fun m => List.mem_append_right _ m) id)) h')
    rw [List.append_assoc, List.append_assoc, ← List.append_assoc F1]
    exact this
mutual
theorem Tr.mutO : ∀ {v : V} {t : Ow} {F : List Addr}, Tr K cl H Hh v t F → ∀ a, a ∈ F → MutO (H a) = true
  | _, _, _, .sh _, a, m => by cases m
  | _, _, _, .ol h r, a, m => by
    rcases List.mem_cons.mp m with rfl | m
    · rw [h]; rfl
    · exact TrL.mutO r a m
  | _, _, _, .oi _ h _ r, a, m => by
    rcases List.mem_cons.mp m with rfl | m
    · rw [h]; rfl
    · exact TrL.mutO r a m
theorem TrL.mutO : ∀ {vs : List V} {ts : List Ow} {F : List Addr}, TrL K cl H Hh vs ts F → ∀ a, a ∈ F → MutO (H a) = true
  | _, _, _, .nil, a, m => by cases m
  | _, _, _, .cons h r, a, m => by
    rcases List.mem_append.mp m with m | m
    · exact Tr.mutO h a m
    · exact TrL.mutO r a m
end
theorem TrL.ofRep : ∀ {vs : List V} {ds : List Dt}, RepL K cl Hh vs ds → TrL K cl H Hh vs (ds.map Ow.sh) []
  | _, _, .nil => .nil
  | _, _, .cons h r => .cons (F := []) (.sh h) (TrL.ofRep r)
theorem TrL.reps : ∀ {vs : List V} {ds : List Dt} {F : List Addr}, TrL K cl H Hh vs (ds.map Ow.sh) F → F = [] ∧ RepL K cl Hh vs ds
  | _, [], _, .nil => ⟨rfl, .nil⟩
  | _, d :: ds, _, .cons (.sh h) r => by
    obtain ⟨rfl, r'⟩ := TrL.reps r
    exact ⟨rfl, .cons h r'⟩
theorem TrL.app : ∀ {vs ws : List V} {ts us : List Ow} {F G : List Addr}, TrL K cl H Hh vs ts F → TrL K cl H Hh ws us G → TrL K cl H Hh (vs ++ ws) (ts ++ us) (F ++ G)
  | _, _, _, _, _, _, .nil, s => s
  | _, _, _, _, _, _, .cons h r, s => by rw [List.append_assoc]; exact .cons h (r.app s)
mutual
/-- what a tree is when it is shared -/
def Ow.dt : Ow → Dt
  | .sh d => d
  | .ol l => .lst (dtL l)
  | .oi c fs => .ins c (dtF fs)
def dtL : List Ow → List Dt
  | [] => []
  | t :: r => t.dt :: dtL r
def dtF : List (Str × Ow) → List (Str × Dt)
  | [] => []
  | (n, t) :: r => (n, t.dt) :: dtF r
end
theorem dtF_1 : ∀ fs : List (Str × Ow), (dtF fs).map (·.1) = fs.map (·.1)
  | [] => rfl
  | (n, t) :: r => by show n :: _ = n :: _; rw [dtF_1 r]
theorem dtF_2 : ∀ fs : List (Str × Ow), (dtF fs).map (·.2) = dtL (fs.map (·.2))
  | [] => rfl
  | (n, t) :: r => by show t.dt :: _ = t.dt :: _; rw [dtF_2 r]
mutual
theorem Tr.rep {Hr : Hp} (e : Same Hh Hr) : ∀ {v : V} {t : Ow} {F : List Addr}, (∀ a, a ∈ F → Hr a = H a) → Tr K cl H Hh v t F → Rep K cl Hr v t.dt
  | _, _, _, _, .sh r => r.mono e
  | _, _, _, g, .ol h r => .lst ((g _ List.mem_cons_self).trans h) (TrL.rep e (fun a m => g a (List.mem_cons_of_mem _ m)) r)
  | _, _, _, g, .oi (fs := fs) c h k r => .ins c ((g _ List.mem_cons_self).trans h) (by rw [dtF_1]; exact k) (by rw [dtF_2]; exact TrL.rep e (fun a m => g a (List.mem_cons_of_mem _ m)) r)
theorem TrL.rep {Hr : Hp} (e : Same Hh Hr) : ∀ {vs : List V} {ts : List Ow} {F : List Addr}, (∀ a, a ∈ F → Hr a = H a) → TrL K cl H Hh vs ts F → RepL K cl Hr vs (dtL ts)
  | _, _, _, _, .nil => .nil
  | _, _, _, g, .cons h r => .cons (Tr.rep e (fun a m => g a (List.mem_append_left _ m)) h) (TrL.rep e (fun a m => g a (List.mem_append_right _ m)) r)
end
theorem hid_newF {F : List Addr} (e : Same H H') (n : ∀ a, a ∈ F → H a = none) : Same (hid O H) (hid (F ++ O) H') := fun b o h => by
  unfold hid at h ⊢
  split at h
  · cases h
  · rename_i q
    have bp : b ∉ F := fun z => by rw [n b z] at h; cases h
    rw [if_neg (fun z => (List.mem_append.mp z).elim bp q)]
    exact e b o h
/-- new objects are owned, no slot knows them yet -/
theorem RS.addF {F : List Addr} (r : RS K cl B H0 O σ D H) (e : Same H H') (n : ∀ a, a ∈ F → H a = none) (mo : ∀ a, a ∈ F → MutO (H' a) = true) : RS K cl B H0 (F ++ O) σ D H' where
  same := r.same.trans e
  bas := fun a m => ⟨List.mem_append_right _ (r.bas a m).1, (r.bas a m).2⟩
  own := fun a m => by
    rcases List.mem_append.mp m with m | m
    · exact ⟨.inr (r.same.free (n a m)), mo a m⟩
    · exact (r.mono e).own a m
  len := r.len
  slot := fun j t e' => by
    have q := r.slot j t e'
    have hh : Same (hid O H) (hid (F ++ O) H') := hid_newF e n
    cases ho : t.own with
    | true =>
      obtain ⟨a, e1, m, o⟩ := q.owned ho
      exact SlotOk.of_owned e1 ⟨List.mem_append_right _ m.1, m.2⟩ (o.mono e hh)
    | false =>
      cases t with
      | no => trivial
      | sh d => obtain ⟨x, e1, rr⟩ := q; exact ⟨x, e1, rr.mono hh⟩
      | ol l => cases ho
      | oi x0 c l => cases ho
      | ok l => cases ho
      | ot l => cases ho
      | xc c l => exact XcAt.mono hh q
      | br l => obtain ⟨a, xs, e1, m, h0, rr⟩ := q; exact ⟨a, xs, e1, List.mem_append_right _ m, h0, rr.mono hh⟩
      | ow t => trivial
  inj := r.inj
  inn := r.inn.grow e (hid_newF e n) fun a m => List.mem_append_right _ m
/-- a slot is stored: a new tree -/
theorem RS.setTree {F : List Addr} {v : V} {t : Ow} (r : RS K cl B H0 O σ D H) (i : Nat) (e : Same H H') (nd : F.Nodup) (n : ∀ a, a ∈ F → H a = none) (h : Tr K cl H' (hid (F ++ O) H') v t F) : RS K cl B H0 (F ++ O) (σ.set i (some v)) (D.set i (.ow t)) H' := by
  have r1 := (r.addF e n h.mutO).setNo i (some v)
  have fO : ∀ a, a ∈ F → a ∉ O := fun a m mo => by
    have := (r.own a mo).2
    rw [n a m] at this
    exact mutO_none this
  have sub : ∀ {j : Nat} {s : Sl}, (D.set i (.ow t))[j]? = some s → j ≠ i → (D.set i .no)[j]? = some s := fun {j s} e' hj => by
    rw [List.getElem?_set_ne (Ne.symm hj)] at e' ⊢; exact e'
  refine ⟨r1.same, r1.bas, r1.own, by rw [List.length_set, List.length_set]; exact r.len, fun j s ej => ?_, fun j k s1 s2 a hjk e1 e2 o1 o2 h1 => ?_, ?_⟩
  · by_cases hj : j = i
    · subst hj
      rcases set_get ej with ⟨_, rfl, _⟩ | ⟨hj, _⟩
      · trivial
      · exact absurd rfl hj
    · exact r1.slot j s (sub ej hj)
  · by_cases hj : j = i
    · subst hj
      rcases set_get e1 with ⟨_, rfl, _⟩ | ⟨hj, _⟩
      · cases o1
      · exact absurd rfl hj
    · by_cases hk : k = i
      · subst hk
        rcases set_get e2 with ⟨_, rfl, _⟩ | ⟨hk, _⟩
        · cases o2
        · exact absurd rfl hk
      · exact r1.inj j k s1 s2 a hjk (sub e1 hj) (sub e2 hk) o1 o2 h1
  · obtain ⟨Fs, q⟩ := r.inn
    refine ⟨fun j => if j = i then F else Fs j, fun j u ej => ?_⟩
    rcases set_get ej with ⟨rfl, eu, hl⟩ | ⟨hj, e'⟩
    · cases eu
      dsimp only
      rw [if_pos rfl]
      refine ⟨⟨v, by rw [List.getElem?_set_self (by rw [r.len]; exact hl)], h⟩, nd, fun a m => ⟨List.mem_append_left _ m, r.same.free (n a m)⟩, fun k s a ek os ha m => ?_, fun k t2 hk ek a m => ?_⟩
      · rcases set_get ek with ⟨rfl, rfl, _⟩ | ⟨hk, ek'⟩
        · cases os
        · rw [List.getElem?_set_ne (Ne.symm hk)] at ha
          obtain ⟨b, eb, mb, _⟩ := (r.slot k s ek').owned os
          rw [ha] at eb
          cases eb
          exact fO a m mb.1
      · rw [if_neg hk]
        rcases set_get ek with ⟨rfl, _, _⟩ | ⟨_, ek'⟩
        · exact absurd rfl hk
        · exact fun mk => fO a m ((q k t2 ek').2.2.1 a mk).1
    · dsimp only
      rw [if_neg hj]
      obtain ⟨⟨w, hw, tw⟩, ndj, fo, own, dj⟩ := q j u e'
      refine ⟨⟨w, by rw [List.getElem?_set_ne (Ne.symm hj)]; exact hw, tw.mono e (hid_newF e n)⟩, ndj, fun a m => ⟨List.mem_append_right _ (fo a m).1, (fo a m).2⟩, fun k s a ek os ha => ?_, fun k t2 hk ek a m => ?_⟩
      · rcases set_get ek with ⟨rfl, rfl, _⟩ | ⟨hk, ek'⟩
        · cases os
        · rw [List.getElem?_set_ne (Ne.symm hk)] at ha
          exact own k s a ek' os ha
      · rcases set_get ek with ⟨rfl, _, _⟩ | ⟨hki, ek'⟩
        · rw [if_pos rfl]
          exact fun mk => fO a mk (fo a m).1
        · rw [if_neg hki]
          exact dj k t2 hk ek' a m
/-- an object of a slot's tree is changed -/
theorem RS.mutTree {i : Nat} {t t' : Ow} {b : Addr} {o : HO} (r : RS K cl B H0 O σ D H) (hi : D[i]? = some (.ow t)) (mo : MutO (some o) = true)
    (hb : ∀ v F, σ[i]? = some (some v) → Tr K cl H (hid O H) v t F → F.Nodup → b ∈ F ∧ Tr K cl (upd H b o) (hid O H) v t' F) : RS K cl B H0 O σ (D.set i (.ow t')) (upd H b o) := by
  obtain ⟨Fs, q⟩ := r.inn
  obtain ⟨⟨v, hv, tr⟩, nd, fo, own, dj⟩ := q i t hi
  obtain ⟨mb, tr'⟩ := hb v (Fs i) hv tr nd
  obtain ⟨bO, b0⟩ := fo b mb
  have hh : hid O (upd H b o) = hid O H := hid_upd bO
  refine ⟨fun c o' e => by rw [upd_ne (ne_of_none e b0)]; exact r.same c o' e, r.bas, fun c mc => ⟨(r.own c mc).1, ?_⟩, by rw [List.length_set]; exact r.len, fun j s ej => ?_, fun j k s1 s2 c hjk e1 e2 o1 o2 h1 => ?_, Fs, fun j u ej => ?_⟩
  · by_cases e : c = b
    · subst e; rw [upd_same]; exact mo
    · rw [upd_ne e]; exact (r.own c mc).2
  · rcases set_get ej with ⟨rfl, rfl, hl⟩ | ⟨hj, e'⟩
    · trivial
    · have qs := r.slot j s e'
      cases ho : s.own with
      | true =>
        obtain ⟨c, e1, mc, oc⟩ := qs.owned ho
        have hcb : b ≠ c := fun z => own j s c e' ho e1 (z ▸ mb)
        exact SlotOk.of_owned e1 mc (by rw [hh]; exact own_ne oc hcb)
      | false =>
        cases s with
        | no => trivial
        | sh d => obtain ⟨x, e1, rr⟩ := qs; exact ⟨x, e1, by rw [hh]; exact rr⟩
        | ol l => cases ho
        | oi x0 c l => cases ho
        | ok l => cases ho
        | ot l => cases ho
        | xc c l => exact XcAt.mono (by rw [hh]; exact Same.refl _) qs
        | br l => obtain ⟨c, xs, e1, mc, h0, rr⟩ := qs; exact ⟨c, xs, e1, mc, h0, by rw [hh]; exact rr⟩
        | ow t => trivial
  · rcases set_get e1 with ⟨rfl, rfl, _⟩ | ⟨hj, e1'⟩
    · cases o1
    · rcases set_get e2 with ⟨rfl, rfl, _⟩ | ⟨hk, e2'⟩
      · cases o2
      · exact r.inj j k s1 s2 c hjk e1' e2' o1 o2 h1
  · have own' : ∀ (j : Nat), (∃ u, D[j]? = some (.ow u)) → ∀ (k : Nat) (s : Sl) (a : Addr), (D.set i (.ow t'))[k]? = some s → s.own = true → σ[k]? = some (some (.ref a)) → a ∉ Fs j := fun j ⟨u, eu⟩ k s a ek os ha => by
      rcases set_get ek with ⟨rfl, rfl, _⟩ | ⟨hk, ek'⟩
      · cases os
      · exact (q j u eu).2.2.2.1 k s a ek' os ha
    have dj' : ∀ (j : Nat), (∃ u, D[j]? = some (.ow u)) → ∀ (k : Nat) (t2 : Ow), k ≠ j → (D.set i (.ow t'))[k]? = some (.ow t2) → ∀ a, a ∈ Fs j → a ∉ Fs k := fun j ⟨u, eu⟩ k t2 hk ek => by
      rcases set_get ek with ⟨rfl, _, _⟩ | ⟨_, ek'⟩
      · exact (q j u eu).2.2.2.2 k t hk hi
      · exact (q j u eu).2.2.2.2 k t2 hk ek'
    rcases set_get ej with ⟨rfl, eu, hl⟩ | ⟨hj, e'⟩
    · cases eu
      exact ⟨⟨v, hv, by rw [hh]; exact tr'⟩, nd, fo, own' j ⟨t, hi⟩, dj' j ⟨t, hi⟩⟩
    · obtain ⟨⟨w, hw, tw⟩, ndj, foj, ownj, djj⟩ := q j u e'
      exact ⟨⟨w, hw, by rw [hh]; exact tw.upd (fun m => dj j u hj e' b mb m)⟩, ndj, foj, own' j ⟨u, e'⟩, dj' j ⟨u, e'⟩⟩
/-- a tree becomes shared -/
def FrzW (i : Nat) (D : Ds) : Ds := match D[i]? with
  | some (.ow t) => D.set i (.sh t.dt)
  | _ => D
theorem RS.frzW (r : RS K cl B H0 O σ D H) (i : Nat) : ∃ O', RS K cl B H0 O' σ (FrzW i D) H ∧ ∀ a, a ∈ O' → a ∈ O := by
  unfold FrzW
  split
  · rename_i t hi
    obtain ⟨Fs, q⟩ := r.inn
    obtain ⟨⟨v, hv, tr⟩, nd, fo, own, dj⟩ := q i t hi
    have subO : ∀ a, a ∈ O.filter (fun a => decide (a ∉ Fs i)) → a ∈ O := fun a m => (List.mem_filter.mp m).1
    have sub : Same (hid O H) (hid (O.filter fun a => decide (a ∉ Fs i)) H) := hid_sub subO
    have hF : ∀ a, a ∈ Fs i → hid (O.filter fun a => decide (a ∉ Fs i)) H a = H a := fun a m => hid_nin fun z => by
      have := (List.mem_filter.mp z).2
      simp at this
      exact this m
    have keep : ∀ {a : Addr}, a ∈ O → a ∉ Fs i → a ∈ O.filter fun a => decide (a ∉ Fs i) := fun {a} m n => List.mem_filter.mpr ⟨m, by simpa using n⟩
    refine ⟨_, ⟨r.same, fun a m => ⟨keep (r.bas a m).1 fun z => by
      have := (r.bas a m).2
      rw [(fo a z).2] at this
      exact mutO_none this, (r.bas a m).2⟩, fun a m => r.own a (subO a m), by rw [List.length_set]; exact r.len, fun j s ej => ?_, fun j k s1 s2 c hjk e1 e2 o1 o2 h1 => ?_, Fs, fun j u ej => ?_⟩, subO⟩
    · rcases set_get ej with ⟨rfl, rfl, hl⟩ | ⟨hj, e'⟩
      · exact ⟨v, hv, tr.rep sub hF⟩
      · have qs := r.slot j s e'
        cases ho : s.own with
        | true =>
          obtain ⟨c, e1, mc, oc⟩ := qs.owned ho
          exact SlotOk.of_owned e1 ⟨keep mc.1 (own j s c e' ho e1), mc.2⟩ (oc.mono (Same.refl _) sub)
        | false =>
          cases s with
          | no => trivial
          | sh d => obtain ⟨x, e1, rr⟩ := qs; exact ⟨x, e1, rr.mono sub⟩
          | ol l => cases ho
          | oi x0 c l => cases ho
          | ok l => cases ho
          | ot l => cases ho
          | xc c l => exact XcAt.mono sub qs
          | br l => obtain ⟨c, xs, e1, mc, h0, rr⟩ := qs; exact ⟨c, xs, e1, keep mc (fun z => by rw [(fo c z).2] at h0; cases h0), h0, rr.mono sub⟩
          | ow t => trivial
    · rcases set_get e1 with ⟨rfl, rfl, _⟩ | ⟨hj, e1'⟩
      · cases o1
      · rcases set_get e2 with ⟨rfl, rfl, _⟩ | ⟨hk, e2'⟩
        · cases o2
        · exact r.inj j k s1 s2 c hjk e1' e2' o1 o2 h1
    · rcases set_get ej with ⟨rfl, eu, hl⟩ | ⟨hj, e'⟩
      · cases eu
      · obtain ⟨⟨w, hw, tw⟩, ndj, foj, ownj, djj⟩ := q j u e'
        refine ⟨⟨w, hw, tw.mono (Same.refl _) sub⟩, ndj, fun a m => ⟨keep (foj a m).1 (djj i t (Ne.symm hj) hi a m), (foj a m).2⟩, fun k s a ek os ha => ?_, fun k t2 hk ek => ?_⟩
        · rcases set_get ek with ⟨rfl, rfl, _⟩ | ⟨hk, ek'⟩
          · cases os
          · exact ownj k s a ek' os ha
        · rcases set_get ek with ⟨rfl, e2, _⟩ | ⟨_, ek'⟩
          · cases e2
          · exact djj k t2 hk ek'
  · exact ⟨O, r, fun a m => m⟩
@[simp] def xsFrzW (i : Nat) (xs : XS) : XS := fun D => xs (FrzW i D)
theorem ss_frzW {i : Nat} {ts : TS} {xs : XS} (h : SimS K cl E ts xs) : SimS K cl E ts (xsFrzW i xs) := fun B H0 O σ D H s En q => by
  obtain ⟨O', r, sub⟩ := s.frzW i
  exact h B H0 O' σ _ H r En (PostS.fw (hid_sub sub) q)
@[simp] def xrFrzW (i : Nat) (xr : XR) : XR := fun D => xr (FrzW i D)
theorem sr_frzW {i : Nat} {ts : TS} {xr : XR} (h : SimR K cl E ts xr) : SimR K cl E ts (xrFrzW i xr) := fun B H0 O σ D H s En q => by
  obtain ⟨O', r, sub⟩ := s.frzW i
  exact h B H0 O' σ _ H r En (PostR.fw (hid_sub sub) q)
end
end Mx
namespace Mx
open PySem PySem.Spec PyProof.Rows L2
abbrev XW := Ds → R Ow
section
variable (K : Fr) (cl : Cl)
/-- a new tree -/
def PostW (E : XK) (O : List Addr) (H : Hp) (Q : VK) : R Ow → Prop
  | .bad => False
  | .ex c fs => ExOk K cl E O c fs H
  | .ok t => ∀ v F H', Same H H' → F.Nodup → (∀ a, a ∈ F → H a = none) → Tr K cl H' (hid (F ++ O) H') v t F → Q v H'
def SimW (E : L2.St → XK) (te : TE) (xw : XW) : Prop := ∀ B H0 O σ D H, RS K cl B H0 O σ D H → ∀ Q : VK, PostW K cl (E σ) O H Q (xw D) → te σ H Q
end
section
variable {K : Fr} {cl : Cl} {E : L2.St → XK} {E0 : XK} {H H' H1 H0 Hh : Hp} {O O' : List Addr} {σ : L2.St} {D : Ds} {B : List Addr}
@[simp] def xwL (xl : XA) : XW := fun D => (xl D).bind fun l => .ok (.ol (l.map Ow.sh))
theorem sw_L {te : TE} {xl : XA} (h : SimL K cl E te xl) : SimW K cl E te (xwL xl) := fun B H0 O σ D H s Q q => by
  unfold xwL at q
  refine h B H0 O σ D H s _ ?_
  cases e : xl D with
  | bad => rw [e] at q; exact q.elim
  | ex c fs => rw [e] at q; exact q
  | ok l =>
    rw [e] at q
    simp only [R.bind] at q
    intro p vs H' e1 np hp r
    exact q (.ref p) [p] H' e1 (by simp) (fun a m => by rw [List.mem_singleton.mp m]; exact np) (.ol hp (TrL.ofRep r))
@[simp] def xsAsgW (i : Nat) (xw : XW) : XS := fun D => (xw D).out D fun t => .nx (D.set i (.ow t))
theorem ss_asgW {i : Nat} {te : TE} {xw : XW} (h : SimW K cl E te xw) : SimS K cl E (tAsg te (gName i)) (xsAsgW i xw) := fun B H0 O σ D H s En q => by
  unfold xsAsgW at q
  refine h B H0 O σ D H s _ ?_
  cases e : xw D with
  | bad => rw [e] at q; exact q.elim
  | ex c fs =>
    rw [e] at q
    exact q O σ H s (Same.refl _)
  | ok t =>
    rw [e] at q
    simp only [out_ok] at q
    intro v F H' e1 nd n tr
    exact q _ _ _ (s.setTree i e1 nd n tr) (hid_newF e1 n)
theorem hid_mem {O O' : List Addr} (h : ∀ a, a ∈ O ↔ a ∈ O') : hid O H = hid O' H := by
  funext a
  unfold hid
  by_cases c : a ∈ O
  · rw [if_pos c, if_pos ((h a).mp c)]
  · rw [if_neg c, if_neg fun z => c ((h a).mpr z)]
def xCompW (xg : XG) (xt : XT) (xw : XW) (D0 : Ds) : List Dt → List Ow → R (List Ow)
  | [], acc => .ok acc
  | d :: r, acc => match xg d D0 with
    | .ok D1 => match xt D1 with
      | .ok true => match xw D1 with
        | .ok y => if acc.length < 1000000 then xCompW xg xt xw D0 r (acc ++ [y]) else .bad
        | _ => .bad
      | .ok false => xCompW xg xt xw D0 r acc
      | _ => .bad
    | _ => .bad
@[simp] def xLcW (xi : XA) (xg : XG) (xt : XT) (xw : XW) (vs : List Nat) : XW := fun D => (xi D).bind fun l => (xCompW xg xt xw (wipeD D vs) l []).bind fun ts => .ok (.ol ts)
theorem compW_ex {xg : XG} {xt : XT} {xw : XW} {D0 : Ds} {c : Str} {fs : List (Str × Dt)} : ∀ (l : List Dt) (acc : List Ow), xCompW xg xt xw D0 l acc ≠ .ex c fs := by
  intro l
  induction l with
  | nil => intro acc h; cases h
  | cons d r ih =>
    intro acc h
    unfold xCompW at h
    split at h
    · split at h
      · split at h
        · split at h
          · exact ih _ h
          · cases h
        · cases h
      · exact ih _ h
      · cases h
    · cases h
theorem sw_lc {wi : TI} {g : TG} {tt : TT} {te : TE} {vs : List Nat} {xi : XA} {xg : XG} {xt : XT} {xw : XW} (hi : SimI K cl E wi xi) (hg : SimGW K cl vs g xg) (ht : SimT K cl (fun _ => E0) tt xt) (he : SimW K cl (fun _ => E0) te xw) :
    SimW K cl E (tLc wi g tt te vs) (xLcW xi xg xt xw vs) := fun B H0 O σ D H s Q q => by
  unfold xLcW at q
  refine hi B H0 O σ D H s _ ?_
  cases e : xi D with
  | bad => rw [e] at q; exact q.elim
  | ex c fs => rw [e] at q; exact q
  | ok l =>
    rw [e] at q
    simp only [Mx.R.bind] at q
    intro J H1 e1 go L nL
    cases ec : xCompW xg xt xw (wipeD D vs) l [] with
    | bad => rw [ec] at q; exact q.elim
    | ex c fs => exact absurd ec (compW_ex _ _)
    | ok res =>
      rw [ec] at q
      simp only at q
      have s1 := (s.mono e1).wipe vs
      have hu : hid [L] (upd H1 L (.lst [])) = hid [L] H1 := hid_upd (List.mem_singleton.mpr rfl)
      have hH1 : hid [L] H1 = H1 := by
        funext a
        unfold hid
        split
        · rename_i h; rw [List.mem_singleton.mp h, nL]
        · rfl
      let W : Nat → Hp → Prop := fun i H2 => ∃ (acc : List V) (ts : List Ow) (P G : List Addr), RS K cl B H0 (P ++ O) (L2.wipe σ vs) (wipeD D vs) (hid [L] H2) ∧ Same H1 H2 ∧ H2 L = some (.lst acc) ∧ (∀ a, a ∈ P ↔ a ∈ G) ∧ G.Nodup ∧ L ∉ G ∧ (∀ a, a ∈ G → H1 a = none) ∧
        TrL K cl H2 (hid (L :: (P ++ O)) H2) acc ts G ∧ xCompW xg xt xw (wipeD D vs) (l.drop i) ts = .ok res
      refine ⟨fun i m H2 => m = l.length - i ∧ i ≤ l.length ∧ W i H2,
        ⟨l.length, rfl, Nat.zero_le _, [], [], [], [], by rw [hu, hH1]; exact s1, same_upd nL, upd_same, fun a => Iff.rfl, .nil, List.not_mem_nil, fun a m => absurd m List.not_mem_nil, .nil, ec⟩, ?_⟩
      rintro i m H2 ⟨rfl, hle, acc, ts, P, G, s2, f2, hL, PG, ndG, LG, nG, tr, c2⟩
      have sO : RS K cl B H0 (L :: (P ++ O)) (L2.wipe σ vs) (wipeD D vs) H2 := s2.addF (F := [L]) (hid_same _ _) (fun a m => by rw [List.mem_singleton.mp m]; exact hid_self) (fun a m => by rw [List.mem_singleton.mp m, hL]; rfl)
      have fO : Same (hid O H1) (hid (L :: (P ++ O)) H2) := hid_newF (F := L :: P) f2 fun a m => by
        rcases List.mem_cons.mp m with rfl | m
        · exact nL
        · exact nG a ((PG a).mp m)
      have g' := go i (L :: (P ++ O)) H2 sO.same fO sO.trk
      by_cases hlt : i < l.length
      · have hd : l.drop i = l[i] :: l.drop (i + 1) := List.drop_eq_getElem_cons hlt
        rw [hd] at c2
        unfold xCompW at c2
        refine .inr ⟨(g'.1 _ (List.getElem?_eq_getElem hlt)).1, fun H3 => W (i + 1) H3, fun H3 w => ⟨_, by omega, rfl, hlt, w⟩, ?_⟩
        intro x H3 y
        obtain ⟨e3, rx⟩ := (g'.1 _ (List.getElem?_eq_getElem hlt)).2 x H3 y
        cases eg : xg l[i] (wipeD D vs) with
        | bad => rw [eg] at c2; cases c2
        | ex c fs => rw [eg] at c2; cases c2
        | ok D1 =>
          rw [eg] at c2
          simp only at c2
          refine hg B H0 _ _ _ H3 (sO.mono e3) x _ rx _ D1 eg fun σ3 s3 w3 => ⟨by rw [w3, wipe_idem], ?_⟩
          refine ht B H0 _ σ3 D1 H3 s3 _ ?_
          cases et : xt D1 with
          | bad => rw [et] at c2; cases c2
          | ex c fs => rw [et] at c2; cases c2
          | ok b =>
            rw [et] at c2
            intro H4 e4
            have e34 := e3.trans e4
            cases b with
            | false =>
              simp only at c2
              exact ⟨acc, ts, P, G, s2.mono (hid_mono e34), f2.trans e34, e34 _ _ hL, PG, ndG, LG, nG, tr.mono e34 (hid_mono e34), c2⟩
            | true =>
              simp only at c2
              rw [if_pos rfl]
              refine he B H0 _ σ3 D1 H4 (s3.mono e4) _ ?_
              cases ee : xw D1 with
              | bad => rw [ee] at c2; cases c2
              | ex c fs => rw [ee] at c2; cases c2
              | ok y =>
                rw [ee] at c2
                simp only at c2
                intro v F H5 e5 ndF nF trF
                split at c2
                · rename_i hz
                  have e345 := e34.trans e5
                  have hL4 : H4 L = some (.lst acc) := e34 _ _ hL
                  have LF : L ∉ F := fun z => by have := nF L z; rw [hL4] at this; cases this
                  have nF2 : ∀ a, a ∈ F → H2 a = none := fun a m => e34.free (nF a m)
                  have GF : ∀ a, a ∈ F → a ∉ G := fun a m z => by
                    have := tr.mutO a z
                    rw [nF2 a m] at this
                    exact mutO_none this
                  have hup : hid [L] (upd H5 L (.lst (acc ++ [v]))) = hid [L] H5 := hid_upd (List.mem_singleton.mpr rfl)
                  refine ⟨acc, e345 _ _ hL, sz_lt (by rw [tr.len]; exact hz), acc ++ [v], ts ++ [y], F ++ P, G ++ F, ?_, ?_, upd_same, fun a => ?_, ?_, fun z => (List.mem_append.mp z).elim LG LF, fun a m => ?_, ?_, c2⟩
                  · rw [hup, List.append_assoc]
                    refine s2.addF (hid_mono e345) (fun a m => ?_) fun a m => ?_
                    · unfold hid
                      split
                      · rfl
                      · exact nF2 a m
                    · have : a ≠ L := fun z => LF (z ▸ m)
                      rw [hid_nin (by simpa using this)]
                      exact trF.mutO a m
                  · intro a o ha
                    rw [upd_ne (ne_of_none ha nL)]
                    exact e345 _ _ (f2 _ _ ha)
                  · simp only [List.mem_append, PG a]
                    exact Or.comm
                  · rw [List.nodup_append]
                    exact ⟨ndG, ndF, fun a m b mb z => GF b mb (z ▸ m)⟩
                  · rcases List.mem_append.mp m with m | m
                    · exact nG a m
                    · exact f2.free (nF2 a m)
                  · have hh : hid (L :: (F ++ P ++ O)) (upd H5 L (.lst (acc ++ [v]))) = hid (L :: (F ++ P ++ O)) H5 := hid_upd List.mem_cons_self
                    have m1 : hid (L :: (F ++ P ++ O)) H5 = hid (F ++ L :: (P ++ O)) H5 := hid_mem fun a => by
                      simp only [List.mem_cons, List.mem_append]
                      constructor
                      · rintro (h | (h | h) | h)
                        · exact .inr (.inl h)
                        · exact .inl h
                        · exact .inr (.inr (.inl h))
                        · exact .inr (.inr (.inr h))
                      · rintro (h | h | h | h)
                        · exact .inr (.inl (.inl h))
                        · exact .inl h
                        · exact .inr (.inl (.inr h))
                        · exact .inr (.inr h)
                    rw [hh, m1]
                    have t1 : TrL K cl H5 (hid (F ++ L :: (P ++ O)) H5) acc ts G := tr.mono e345 (hid_newF e345 nF2)
                    have t2 : TrL K cl H5 (hid (F ++ L :: (P ++ O)) H5) [v] [y] F := by
                      have := TrL.cons trF (TrL.nil (K := K) (cl := cl) (H := H5) (Hh := hid (F ++ L :: (P ++ O)) H5))
                      rwa [List.append_nil] at this
                    exact (t1.app t2).agree fun a m => upd_ne fun z => (List.mem_append.mp m).elim (fun m => LG (z ▸ m)) (fun m => LF (z ▸ m))
                · cases c2
      · have hi' : i = l.length := by omega
        refine .inl ⟨g'.2 hi', ?_⟩
        rw [hi', List.drop_length] at c2
        simp only [xCompW, R.ok.injEq] at c2
        subst c2
        refine q (.ref L) (L :: G) H2 (e1.trans f2) (List.nodup_cons.mpr ⟨LG, ndG⟩) (fun a m => ?_) (.ol hL ?_)
        · rcases List.mem_cons.mp m with rfl | m
          · exact e1.free nL
          · exact e1.free (nG a m)
        · have : hid (L :: G ++ O) H2 = hid (L :: (P ++ O)) H2 := hid_mem fun a => by
            simp only [List.cons_append, List.mem_cons, List.mem_append, PG a]
          rw [this]
          exact tr
end
end Mx
namespace L2
open PySem PySem.Spec PyProof.Rows PySem.W
/-! ### a tuple's method; the tuple is known as it is made -/
section
variable {X : Cx}
/-- a tuple that has no dict of its own -/
def FtV (x : V) (H : Hp) : Prop := ∃ (p : Addr) (o : Obj) (xs : List V), x = .ref p ∧ H p = some (.frz o (.tup xs)) ∧ o.cls = .type "tuple" ∧ o.dict = none
def tBMF (r : V → List V → Hp → VK → Prop) (to : TE) (t : TA) : TE := fun σ H Q => to σ H fun x H1 => FtV x H1 ∧ t σ H1 fun xs H2 => r x xs H2 Q
variable {o e : Expr} {es : List Expr} {to : TE} {t : TA} {name : Str} {apos cpos : Pos} {id : String} {r : V → List V → Hp → VK → Prop}
theorem pe_bmF (pa : PlainAttrs "tuple") (slot : Slot "tuple" name id) (hty : typeOf (.builtin id) = pure (.type "method_descriptor")) (hm : MtR X id r) (ho : PE X o to) (ha : PA X (e :: es) t)
    (hbase : attributeBase o name X.env (eval o X.env) = eval o X.env := by rfl)
    (hfew : ((backTo cpos (starEach (e :: es) X.env)).all (fun x => !x.1) && (backToKw cpos (keywordEach [] X.env)).all (fun x => x.1.isSome)
      && decide ((e :: es).length + ([] : List Keyword).length + (if ([] : List Keyword).isEmpty then 0 else 1) < 30)) = true := by rfl)
    (hline : (apos.endLine == cpos.line) = true := by rfl) (hs : starEach (e :: es) X.env = (false, eval e X.env) :: starEach es X.env := by rfl) (hplain : (backTo cpos (starEach es X.env)).any (·.1) = false := by rfl) :
    PE X (.Call (.Attribute o name apos) (e :: es) [] cpos) (tBMF r to t) := by
  refine ⟨fun pins s σ H Q I h => ?_⟩
  refine wpAny_Call_method_late hbase hfew hline rfl (thn (ho.run pins s σ H _ I h) fun v s1 ⟨x, H1, I1, r1, ty, q1⟩ => ?_)
  obtain ⟨p, ob, xs, rfl, hp, hc, hd⟩ := ty
  cases r1
  have hob : s1.heap.get? p = some ob := (I1.hok p _ hp).1
  refine ⟨"tuple", id, pa, slot, hty, ⟨ob, hob, hc⟩, fun a ea => by cases ea; exact ⟨ob, hob, hd⟩, ?_⟩
  have hA := ha.run cpos pins s1 σ H1 _ I1 q1
  rw [hs] at hA ⊢
  refine Calls.callWith_builtin (by show (false || (backTo cpos (starEach es X.env)).any (·.1)) = false; rw [hplain] <;> rfl) (Calls.evalArgs_plain ?_)
  exact thn hA fun us s2 ⟨vs, H2, I2, r2, q2⟩ => hm pins s2 σ H2 (.ref p) vs (.ref p) us Q I2 rfl r2 q2
def rTupF : List V → Hp → VK → Prop := fun xs H Q => ∃ (a : Addr) (kvs : List (Key × V)), xs = [.ref a] ∧ Rd H a (.dK kvs) ∧ ∀ (p : Addr) (o : Obj), H p = none → o.cls = .type "tuple" → o.dict = none → Q (.ref p) (upd H p (.frz o (.tup (kvs.map fun kv => kV kv.1))))
/-- tuple(d): its keys, the tuple known as it is made -/
theorem cr_tupF (hcalm : X.calm = true) : CallR X (.type "tuple") rTupF := by
  intro pins s σ H xs us Q I r q
  obtain ⟨a, kvs, ex, hd, q⟩ := q
  subst ex
  obtain ⟨u, eu, rx⟩ := vals1 r
  subst eu
  cases rx
  obtain ⟨z, lo, vs, rel, dd⟩ := dk_rd I.hok hd
  obtain ⟨ep, hat⟩ := dd.dictAt
  have ek : (kvs.map fun kv => kV kv.1) = vs.map fun p => kV p.1 := by
    have e := congrArg (List.map kV) rel.keys
    rw [List.map_map, List.map_map] at e
    exact e
  refine DT.call_tuple_src (PySem.W.kdl_dict (knd := mixKind X.prog X.w) (kvs := vs) (ep := ep) lo) (I.ok.hd hcalm) hat (by rw [← rel.length]; exact z) fun h' tk acc hk hacc => ?_
  have hv : Vals (vs.map fun p => kV p.1) acc.toList := keys_at (by rw [Array.length_toList]; exact hacc.1) fun j v e => hacc.2 j v (by rw [← Array.getElem?_toList]; exact e)
  have I1 : Inv X pins σ H { s with heap := h', toks := tk } := I.kept hk
  have I2 : Inv X pins σ (upd H h'.objs.size (.frz { cls := .type "tuple", data := .seq acc } (.tup (kvs.map fun kv => kV kv.1)))) { s with heap := h'.push { cls := .type "tuple", data := .seq acc }, toks := tk } :=
    I1.laid (t' := tk) (fun b o e => Heap.get?_push_of_some _ e) (Nat.le_refl _) ⟨Heap.get?_push_size _ rfl, show ObjOk X.prog X.w _ _ _ (.tup (kvs.map fun kv => kV kv.1)) from ⟨by rw [List.length_map]; exact z, acc.toList, by rw [ek]; exact hv, by
      have e : acc = acc.toList.toArray := by simp
      rw [e]; exact IsTup.new _ _⟩⟩
  exact ⟨.ref h'.objs.size, _, I2, rfl, q _ _ (I1.hok.fresh (Nat.le_refl _)) rfl rfl⟩
end
end L2
namespace Mx
open PySem PySem.Spec PyProof.Rows L2
section
variable {K : Fr} {cl : Cl} {E : L2.St → XK} {E0 : XK} {H H' H1 H0 Hh : Hp} {O O' : List Addr} {σ : L2.St} {D : Ds} {B : List Addr}
/-! ### tuple(d) known as it is made; its index and length -/
def keyStrs : List (Key × Dt) → Option (List Str)
  | [] => some []
  | (.inr k, _) :: r => (keyStrs r).map (k :: ·)
  | _ => none
def dTupF : List Dt → R Dt
  | [.dk kvs] => (opt (keyStrs kvs)).bind fun l => .ok (.ftp l)
  | _ => .bad
theorem keyStrs_V : ∀ {kv : List (Key × V)} {kvs : List (Key × Dt)} {l : List Str}, kv.map (·.1) = kvs.map (·.1) → keyStrs kvs = some l → kv.map (fun p => kV p.1) = l.map V.str
  | [], [], l, _, e => by simp only [keyStrs, Option.some.injEq] at e; subst e; rfl
  | [], _ :: _, _, h, _ => by simp at h
  | _ :: _, [], _, h, _ => by simp at h
  | (k, v) :: kv, (k', d) :: kvs, l, h, e => by
    simp only [List.map_cons, List.cons.injEq] at h
    obtain ⟨rfl, h⟩ := h
    cases k with
    | inl i => simp [keyStrs] at e
    | inr s =>
      simp only [keyStrs, Option.map_eq_some_iff] at e
      obtain ⟨l', e', rfl⟩ := e
      rw [List.map_cons, List.map_cons, keyStrs_V h e']; rfl
theorem cs_tupF : CaS K cl (rTupF) dTupF := fun O H xs ds E ho r Q q => by
  unfold dTupF at q
  split at q
  · rename_i kvs
    cases r with
    | cons h r =>
      cases r
      obtain ⟨a, kv, rfl, ha, hk, rr⟩ := h
      cases e : keyStrs kvs with
      | none => rw [e] at q; exact q.elim
      | some l =>
        rw [e] at q
        simp only [opt_some, R.bind] at q
        refine ⟨a, kv, rfl, Rd.of ha, fun p o np hc hd => ?_⟩
        refine q _ _ (same_upd np) (.ftp (o := o) ?_ hc hd)
        rw [keyStrs_V hk e]
        have : p ∉ O := fun m => by
          have := ho p m
          rw [np] at this
          exact mutO_none this
        rw [hid_nin this, upd_same]
  · exact q.elim
def dIdxS (l : List Str) : List Dt → R Dt
  | [.str z] => (opt (l.idxOf? z)).bind fun j => .ok (.int (j : Nat))
  | _ => .bad
@[simp] theorem dIdxS_str (l : List Str) (z : Str) : dIdxS l [.str z] = (opt (l.idxOf? z)).bind fun j => .ok (.int (j : Nat)) := rfl
@[simp] def xIdxF (xo : XE) (xa : XA) : XE := fun D => (xo D).bind fun o => match o with
  | .ftp l => (xa D).bind (dIdxS l)
  | _ => .bad
abbrev rIdxF (K : Fr) : V → List V → Hp → VK → Prop := fun x xs H Q => ∃ p, ∃ ys : List Str, ∃ z j, x = .ref p ∧ xs = [.str z] ∧ SqT K H p (ys.map V.str) ∧ ys[j]? = some z ∧ (∀ m, m < j → ys[m]? ≠ some z) ∧ Q (.int (j : Nat)) H
theorem idxOf_spec {l : List Str} {z : Str} {j : Nat} (h : l.idxOf? z = some j) : l[j]? = some z ∧ ∀ m, m < j → l[m]? ≠ some z := by
  rw [List.idxOf?_eq_some_iff] at h
  obtain ⟨hj, e, hn⟩ := h
  refine ⟨by rw [List.getElem?_eq_getElem hj, e], fun m hm z' => ?_⟩
  have hml : m < l.length := by omega
  rw [List.getElem?_eq_getElem hml] at z'
  exact hn m hm (Option.some.inj z')
theorem sim_idxF {to : TE} {t : TA} {xo : XE} {xa : XA} (ho : Sim K cl E to xo) (ha : SimA K cl E t xa) : Sim K cl E (tBMF (rIdxF K) to t) (xIdxF xo xa) := fun B H0 O σ D H s Q q => by
  unfold xIdxF at q
  refine ho B H0 O σ D H s _ ?_
  cases e : xo D with
  | bad => rw [e] at q; exact q.elim
  | ex c fs => rw [e] at q; exact q
  | ok o =>
    rw [e] at q
    simp only [R.bind] at q
    intro v H1 e1 r
    split at q
    · rename_i l
      cases r with
      | ftp h hc hd =>
        rename_i a ob
        have h' := hid_same _ _ _ _ h
        refine ⟨⟨_, ob, _, rfl, h', hc, hd⟩, ?_⟩
        refine ha B H0 O σ D H1 (s.mono e1) _ ?_
        cases ea : xa D with
        | bad => rw [ea] at q; exact q.elim
        | ex c fs => rw [ea] at q; exact ExOk.mono e1 q
        | ok ds =>
          rw [ea] at q
          simp only at q
          intro vs H2 e2 rv
          unfold dIdxS at q
          split at q
          · rename_i z
            cases rv with
            | cons h1 r1 =>
              cases r1
              cases h1
              cases ei : l.idxOf? z with
              | none => rw [ei] at q; exact q.elim
              | some j =>
                rw [ei] at q
                obtain ⟨a1, a2⟩ := idxOf_spec ei
                exact ⟨_, l, z, j, rfl, rfl, .inl (.inr ⟨_, e2 _ _ h'⟩), a1, a2, q _ H2 (e1.trans e2) (.int _)⟩
          · exact q.elim
    · exact q.elim
def dLenF : Dt → R Dt
  | .ftp l => .ok (.int (l.length : Nat))
  | _ => .bad
@[simp] theorem dLenF_ftp (l : List Str) : dLenF (.ftp l) = .ok (.int (l.length : Nat)) := rfl
theorem sim_lenF {te : TE} {xe : XE} (h : Sim K cl E te xe) : Sim K cl E (tCB (rLen K) (tCons te tNil)) (x1 dLenF xe) := fun B H0 O σ D H s Q q => by
  unfold x1 at q
  refine h B H0 O σ D H s _ ?_
  cases e : xe D with
  | bad => rw [e] at q; exact q.elim
  | ex c fs => rw [e] at q; exact q
  | ok d =>
    rw [e] at q
    simp only [R.bind] at q
    intro v H1 e1 r
    cases d with
    | ftp l =>
      cases r with
      | ftp h hc hd =>
        have h' := hid_same _ _ _ _ h
        refine ⟨_, _, rfl, .inr ⟨_, .inl (.inr ⟨_, h'⟩), rfl⟩, ?_⟩
        rw [List.length_map]
        exact q _ H1 e1 (.int _)
    | _ => exact q.elim
/-! ### list.index of texts -/
def dIdxL : Dt → List Dt → R Dt
  | .lst l, [.str z] => (opt (dstrs l)).bind fun ys => (opt (ys.idxOf? z)).bind fun j => .ok (.int (j : Nat))
  | .frl l, [.str z] => (opt (dstrs l)).bind fun ys => (opt (ys.idxOf? z)).bind fun j => .ok (.int (j : Nat))
  | _, _ => .bad
@[simp] def Dt.isLst : Dt → Bool
  | .lst _ => true
  | .frl _ => true
  | _ => false
theorem ty_list : TyS K cl "list" Dt.isLst := fun O H x a h g => by
  cases a with
  | lst l => obtain ⟨p, vs, rfl, h1, _⟩ := h; exact .inl ⟨rfl, _, SqL.of h1⟩
  | frl l => obtain ⟨p, vs, rfl, h1, _⟩ := h; exact .inl ⟨rfl, _, h1⟩
  | _ => cases g
theorem ms_idxL : ∀ O H x xs a ds E, Trk O H → RepB K cl O H x a → RepBL K cl O H xs ds → ∀ Q : VK, PostE K cl E O H Q (dIdxL a ds) → rIndex K x xs H Q := fun O H x xs a ds E ho rx r Q q => by
  have go : ∀ (l : List Dt) (p : Addr) (vs : List V) (z : Str) (v : V), SqL K H p vs → RepL K cl (hid O H) vs l → v = .str z → PostE K cl E O H Q ((opt (dstrs l)).bind fun ys => (opt (ys.idxOf? z)).bind fun j => R.ok (Dt.int (j : Nat))) → rIndex K (.ref p) [v] H Q := fun l p vs z v hs rr hv q => by
    subst hv
    cases e : dstrs l with
    | none => rw [e] at q; exact q.elim
    | some ys =>
      rw [e] at q
      simp only [opt_some, R.bind] at q
      have ev := dstrs_rep rr e
      subst ev
      cases ei : ys.idxOf? z with
      | none => rw [ei] at q; exact q.elim
      | some j =>
        rw [ei] at q
        simp only [opt_some, R.bind] at q
        obtain ⟨a1, a2⟩ := idxOf_spec ei
        refine ⟨p, ys.map V.str, .str z, j, .str z, rfl, rfl, hs, rfl, flat_strs ys, by rw [List.getElem?_map, a1]; rfl, by simp [eqV], fun m z' hm hz => ?_, ok_ret q (.int _)⟩
        rw [List.getElem?_map] at hz
        obtain ⟨y, hy, rfl⟩ := Option.map_eq_some_iff.mp hz
        have : y ≠ z := fun c => a2 m hm (c ▸ hy)
        simpa [eqV] using this
  unfold dIdxL at q
  split at q
  · obtain ⟨p, vs, rfl, h1, rr⟩ := rx
    cases r with
    | cons h r => cases r; exact go _ p vs _ _ (SqL.of h1) rr h.str_ q
  · obtain ⟨p, vs, rfl, h1, rr⟩ := rx
    cases r with
    | cons h r => cases r; exact go _ p vs _ _ h1 rr h.str_ q
  · exact q.elim
/-! ### list times a number -/
def dRepL : Dt → Dt → R (List Dt)
  | .lst l, .int k => if l.length ≤ 1000 ∧ -1000000 ≤ k ∧ k ≤ 10000 then .ok (List.replicate k.toNat l).flatten else .bad
  | _, _ => .bad
@[simp] theorem dRepL_ok (l : List Dt) (k : Int) : dRepL (.lst l) (.int k) = if l.length ≤ 1000 ∧ -1000000 ≤ k ∧ k ≤ 10000 then .ok (List.replicate k.toNat l).flatten else .bad := rfl
theorem RepL.flat {vs : List V} {ds : List Dt} (h : RepL K cl H vs ds) : ∀ n : Nat, RepL K cl H (List.replicate n vs).flatten (List.replicate n ds).flatten
  | 0 => .nil
  | n + 1 => by
    rw [List.replicate_succ, List.replicate_succ, List.flatten_cons, List.flatten_cons]
    exact h.app (h.flat n)
theorem ol_repL : OpL K cl rRep dRepL := fun O H x y a b E ho rx ry Q q => by
  unfold dRepL at q
  split at q
  · split at q
    · rename_i l k hl
      obtain ⟨p, vs, rfl, h1, r1⟩ := rx
      cases ry.int_
      have hz : vs.length * k.toNat ≤ sizeLine := by
        rw [r1.len, sizeLine_eq]
        have : l.length * k.toNat ≤ 1000 * 10000 := Nat.mul_le_mul hl.1 (by omega)
        omega
      refine ⟨p, k, vs, rfl, rfl, h1, by omega, by omega, hz, fun c n => ?_⟩
      exact q c _ _ (same_upd n) n upd_same ((r1.flat _).mono (hid_new (same_upd n) n))
    · exact q.elim
  · exact q.elim
end
end Mx
namespace Mx
open PySem PySem.Spec PyProof.Rows L2
section
variable {K : Fr} {cl : Cl} {E : L2.St → XK} {E0 : XK} {H H' H1 H0 Hh : Hp} {O O' : List Addr} {σ : L2.St} {D : Ds} {B : List Addr}
/-! ### a list in a list is changed -/
def owCh : Ow → Dt → R (List Ow)
  | .ol l, .int k => match atI l k with
    | some (.ol l') => .ok l'
    | _ => .bad
  | _, _ => .bad
def owGet (l : List Ow) : Dt → R Dt
  | .int j => match atI l j with
    | some (.sh d) => .ok d
    | _ => .bad
  | _ => .bad
def owPut (d : Dt) : Ow → Dt → Dt → R Ow
  | .ol l, .int k, .int j => (opt (ixN l.length k)).bind fun n => match l[n]? with
    | some (.ol l') => (opt (ixN l'.length j)).bind fun m => .ok (.ol (l.set n (.ol (l'.set m (.sh d)))))
    | _ => .bad
  | _, _, _ => .bad
theorem Tr.foc {v : V} {l l' : List Ow} {F : List Addr} {n : Nat} (tr : Tr K cl H Hh v (.ol l) F) (nd : F.Nodup) (hn : l[n]? = some (.ol l')) :
    ∃ (a : Addr) (vs : List V) (b : Addr) (ws : List V), v = .ref a ∧ H a = some (.lst vs) ∧ vs.length = l.length ∧ vs[n]? = some (.ref b) ∧ H b = some (.lst ws) ∧ ws.length = l'.length ∧ b ∈ F ∧
      (∀ (m : Nat) (d : Dt), l'[m]? = some (.sh d) → ∃ w, ws[m]? = some w ∧ Rep K cl Hh w d) ∧
      (∀ (H2 Hh2 : Hp) (m : Nat) (d : Dt) (w' : V) (d' : Dt), Same H H2 → Same Hh Hh2 → l'[m]? = some (.sh d) → Rep K cl Hh2 w' d' → Tr K cl (L2.upd H2 b (.lst (ws.set m w'))) Hh2 v (.ol (l.set n (.ol (l'.set m (.sh d'))))) F) := by
  cases tr with
  | ol h r =>
    rename_i a vs F'
    obtain ⟨w, F1, G, F2, ew, rfl, tw, f⟩ := r.hole hn
    cases tw with
    | ol hb rb =>
      rename_i b ws G'
      refine ⟨a, vs, b, ws, rfl, h, r.len, ew, hb, rb.len, by simp, fun m d hm => ?_, fun H2 Hh2 m d w' d' e e2 hm rd => ?_⟩
      · obtain ⟨w, _, Gm, _, e1, _, e3, _⟩ := rb.hole hm
        cases e3 with
        | sh r => exact ⟨w, e1, r⟩
      · obtain ⟨w, G1, Gm, G2, e1, eg, e3, g⟩ := rb.hole hm
        cases e3 with
        | sh _ =>
          have mu : ∀ x, x ∈ a :: (F1 ++ (b :: G') ++ F2) → MutO (H x) = true := (Tr.ol (K := K) (cl := cl) h r).mutO
          have kp : ∀ x, x ∈ a :: (F1 ++ (b :: G') ++ F2) → x ≠ b → L2.upd H2 b (.lst (ws.set m w')) x = H x := fun x m nb => by
            rw [upd_ne nb]
            obtain ⟨o, ho⟩ := mutO_some (mu x m)
            rw [ho]; exact e _ _ ho
          have nd' : (a :: (F1 ++ (b :: G') ++ F2)).Nodup := nd
          have nab : a ≠ b := fun z => (List.nodup_cons.mp nd').1 (by rw [z]; simp)
          have nd2 := (List.nodup_cons.mp nd').2
          rw [List.append_assoc, List.nodup_append] at nd2
          obtain ⟨_, nd3, dj⟩ := nd2
          rw [List.cons_append, List.nodup_cons] at nd3
          obtain ⟨bn, nd4⟩ := nd3
          have n1 : ∀ x, x ∈ F1 → x ≠ b := fun x m => dj x m b (by simp)
          have n2 : ∀ x, x ∈ F2 → x ≠ b := fun x m z => bn (by rw [← z]; simp [m])
          have n3 : ∀ x, x ∈ G' → x ≠ b := fun x m z => bn (by rw [← z]; simp [m])
          refine .ol ((kp a List.mem_cons_self nab).trans h) ?_
          have inner := g (L2.upd H2 b (.lst (ws.set m w'))) Hh2 (.sh d') w' [] e2 (fun x mx => by
            have mg : x ∈ G' := by rw [eg]; rcases mx with mx | mx <;> simp [mx]
            exact kp x (by simp [mg]) (n3 x mg)) (.sh rd)
          rw [← eg] at inner
          have outer := f (L2.upd H2 b (.lst (ws.set m w'))) Hh2 (.ol (l'.set m (.sh d'))) (.ref b) (b :: G') e2 (fun x mx => by
            rcases mx with mx | mx
            · exact kp x (by simp [mx]) (n1 x mx)
            · exact kp x (by simp [mx]) (n2 x mx)) (.ol upd_same inner)
          have sv : vs.set n (.ref b) = vs := by
            obtain ⟨hl, e⟩ := List.getElem?_eq_some_iff.mp ew
            rw [← e]; exact List.set_getElem_self hl
          rw [sv] at outer
          exact outer
@[simp] def xsAug2 (i : Nat) (xk xj : XE) (g : Int → Int → Int) (xe : XE) : XS := fun D => match D[i]? with
  | some (.ow t) => (xk D).out D fun k => (owCh t k).out D fun l' => (xj D).out D fun j => (owGet l' j).out D fun old => (xe D).out D fun d => match old, d with
    | .int a, .int b => (owPut (.int (g a b)) t k j).out D fun t' => .nx (D.set i (.ow t'))
    | _, _ => .bad
  | _ => .bad
theorem owCh_ok {t : Ow} {k : Dt} {l' : List Ow} (h : owCh t k = .ok l') : ∃ l kk n, t = .ol l ∧ k = .int kk ∧ ixN l.length kk = some n ∧ l[n]? = some (.ol l') := by
  unfold owCh at h
  split at h
  · rename_i l kk
    split at h
    · rename_i l2 e
      cases h
      unfold atI at e
      obtain ⟨n, e1, e2⟩ := Option.bind_eq_some_iff.mp e
      exact ⟨l, kk, n, rfl, rfl, e1, e2⟩
    · cases h
  · cases h
theorem owGet_ok {l : List Ow} {j d : Dt} (h : owGet l j = .ok d) : ∃ jj m, j = .int jj ∧ ixN l.length jj = some m ∧ l[m]? = some (.sh d) := by
  unfold owGet at h
  split at h
  · rename_i jj
    split at h
    · rename_i d2 e
      cases h
      unfold atI at e
      obtain ⟨n, e1, e2⟩ := Option.bind_eq_some_iff.mp e
      exact ⟨jj, n, rfl, e1, e2⟩
    · cases h
  · cases h
theorem owCh_nex {t : Ow} {k : Dt} {c : Str} {fs : List (Str × Dt)} : owCh t k ≠ .ex c fs := fun h => by
  unfold owCh at h
  split at h
  · split at h <;> cases h
  · cases h
theorem owGet_nex {l : List Ow} {k : Dt} {c : Str} {fs : List (Str × Dt)} : owGet l k ≠ .ex c fs := fun h => by
  unfold owGet at h
  split at h
  · split at h <;> cases h
  · cases h
theorem owPut_of {l l' : List Ow} {kk jj : Int} {n m : Nat} {d : Dt} (h1 : ixN l.length kk = some n) (h2 : l[n]? = some (.ol l')) (h3 : ixN l'.length jj = some m) : owPut d (.ol l) (.int kk) (.int jj) = .ok (.ol (l.set n (.ol (l'.set m (.sh d))))) := by
  show ((opt (ixN l.length kk)).bind _) = _
  rw [h1]
  simp only [opt_some, bind_ok, h2, h3]
theorem ss_aug2 {i : Nat} {tk tj te : TE} {xk xj xe : XE} {g : Int → Int → Int} (hk : Sim K cl E tk xk) (hj : Sim K cl E tj xj) (he : Sim K cl E te xe) :
    SimS K cl E (tAugS (tOp (rIx K) (tVar i) tk) tj te (rIxL K) (ipI g) rSetL) (xsAug2 i xk xj g xe) := fun B H0 O σ D H s En q => by
  unfold xsAug2 at q
  cases ei : D[i]? with
  | none => rw [ei] at q; exact q.elim
  | some sl =>
    rw [ei] at q
    cases sl with
    | ow t =>
      simp only at q
      obtain ⟨Fs, inn⟩ := s.inn
      obtain ⟨⟨v, hv, tr⟩, nd, fo, own, dj⟩ := inn i t ei
      refine ⟨v, hv, hk B H0 O σ D H s _ ?_⟩
      cases ek : xk D with
      | bad => rw [ek] at q; exact q.elim
      | ex c fs => rw [ek] at q; exact q O σ H s (Same.refl _)
      | ok k =>
        rw [ek] at q
        simp only [out_ok] at q
        intro y H1 e1 rk
        cases ec : owCh t k with
        | bad => rw [ec] at q; exact q.elim
        | ex c fs => exact absurd ec owCh_nex
        | ok l' =>
          rw [ec] at q
          simp only [out_ok] at q
          obtain ⟨l, kk, n, rfl, rfl, hix, hl⟩ := owCh_ok ec
          obtain ⟨a, vs, b, ws, rfl, ha, hlen, hb, hbb, hwl, mb, rd, put⟩ := tr.foc nd hl
          cases rk
          refine .inl ⟨a, vs, kk, .ref b, rfl, rfl, SqL.of (e1 _ _ ha), by unfold atI; rw [hlen, hix]; exact hb, ?_⟩
          refine hj B H0 O σ D H1 (s.mono e1) _ ?_
          cases ej : xj D with
          | bad => rw [ej] at q; exact q.elim
          | ex c fs => rw [ej] at q; exact (q O σ H1 (s.mono e1) (hid_mono e1))
          | ok j =>
            rw [ej] at q
            simp only [out_ok] at q
            intro y2 H2 e2 rj
            cases eg : owGet l' j with
            | bad => rw [eg] at q; exact q.elim
            | ex c fs => exact absurd eg owGet_nex
            | ok old =>
              rw [eg] at q
              simp only [out_ok] at q
              obtain ⟨jj, m, rfl, hjx, hm⟩ := owGet_ok eg
              obtain ⟨w, hw, rw'⟩ := rd m old hm
              cases rj
              have e12 := e1.trans e2
              refine ⟨b, ws, jj, w, rfl, rfl, SqL.of (e12 _ _ hbb), by unfold atI; rw [hwl, hjx]; exact hw, ?_⟩
              refine he B H0 O σ D H2 (s.mono e12) _ ?_
              cases ee : xe D with
              | bad => rw [ee] at q; exact q.elim
              | ex c fs => rw [ee] at q; exact (q O σ H2 (s.mono e12) (hid_mono e12))
              | ok d =>
                rw [ee] at q
                simp only [out_ok] at q
                intro y3 H3 e3 rd3
                have e123 := e12.trans e3
                cases old with
                | int x =>
                  cases d with
                  | int z =>
                    simp only at q
                    cases rw'
                    cases rd3
                    rw [owPut_of hix hl hjx] at q
                    simp only [out_ok] at q
                    refine ⟨x, z, rfl, rfl, b, ws, jj, m, rfl, rfl, e123 _ _ hbb, by rw [hwl]; exact hjx, ?_⟩
                    have key := put H3 (hid O H3) m (.int x) (.int (g x z)) (.int (g x z)) e123 (hid_mono e123) hm (.int _)
                    refine q O σ _ ((s.mono e123).mutTree ei rfl fun v2 F2 hv2 tr2 nd2 => ?_) (by rw [hid_upd (fo b mb).1]; exact hid_mono e123)
                    rw [hv] at hv2
                    cases hv2
                    obtain ⟨a', vs', b', ws', ea', ha', _, hb', hbb', _, mb', _, put'⟩ := tr2.foc nd2 hl
                    cases ea'
                    have := e123 _ _ ha
                    rw [this] at ha'
                    cases ha'
                    rw [hb] at hb'
                    cases hb'
                    have := e123 _ _ hbb
                    rw [this] at hbb'
                    cases hbb'
                    exact ⟨mb', put' H3 (hid O H3) m (.int x) (.int (g x z)) (.int (g x z)) (Same.refl _) (Same.refl _) hm (.int _)⟩
                  | _ => exact q.elim
                | _ => exact q.elim
    | _ => exact q.elim
/-- a = x[k]; j = ..; a[j] = a[j] + .. -/
@[simp] def xsAl3 (i a jn : Nat) (xk xj xe : XE) : XS := fun D => match D[i]? with
  | some (.ow t) => if a < D.length ∧ jn < D.length then (xk D).out D fun k => (owCh t k).out D fun l' => (xj (D.set a .no)).out (D.set a .no) fun j => (owGet l' j).out D fun old => (xe ((D.set a .no).set jn (.sh j))).out ((D.set a .no).set jn (.sh j)) fun d => match old, d with
    | .int x, .int z => (owPut (.int (x + z)) t k j).out D fun t' => .nx (((D.set a .no).set jn (.sh j)).set i (.ow t'))
    | _, _ => .bad else .bad
  | _ => .bad
theorem ss_al3 {i a jn : Nat} {tk tj te : TE} {xk xj xe : XE} (h1 : a ≠ i) (h2 : jn ≠ i) (h3 : jn ≠ a) (hk : Sim K cl E tk xk) (hj : Sim K cl E tj xj) (he : Sim K cl E te xe) :
    SimS K cl E (tSeq (tAsg (tOp (rIx K) (tVar i) tk) (gName a)) (tSeq (tAsg tj (gName jn)) (tAsg (tOp rAdd (tOp (rIx K) (tVar a) (tVar jn)) te) (gSub (tVar a) (tVar jn) rSetL)))) (xsAl3 i a jn xk xj xe) := fun B H0 O σ D H s En q => by
  unfold xsAl3 at q
  cases ei : D[i]? with
  | none => rw [ei] at q; exact q.elim
  | some sl =>
    rw [ei] at q
    cases sl with
    | ow t =>
      simp only at q
      split at q
      case isFalse => exact q.elim
      rename_i hl2
      have hla : a < σ.length := by rw [s.len]; exact hl2.1
      have hlj : jn < σ.length := by rw [s.len]; exact hl2.2
      obtain ⟨Fs, inn⟩ := s.inn
      obtain ⟨⟨v, hv, tr⟩, nd, fo, own, dj⟩ := inn i t ei
      refine ⟨v, hv, hk B H0 O σ D H s _ ?_⟩
      cases ek : xk D with
      | bad => rw [ek] at q; exact q.elim
      | ex c fs => rw [ek] at q; exact q O σ H s (Same.refl _)
      | ok k =>
        rw [ek] at q
        simp only [out_ok] at q
        intro y H1 e1 rk
        cases ec : owCh t k with
        | bad => rw [ec] at q; exact q.elim
        | ex c fs => exact absurd ec owCh_nex
        | ok l' =>
          rw [ec] at q
          simp only [out_ok] at q
          obtain ⟨l, kk, n, rfl, rfl, hix, hl⟩ := owCh_ok ec
          obtain ⟨a0, vs, b, ws, rfl, ha, hlen, hb, hbb, hwl, mb, rd, put⟩ := tr.foc nd hl
          cases rk
          refine .inl ⟨a0, vs, kk, .ref b, rfl, rfl, SqL.of (e1 _ _ ha), by unfold atI; rw [hlen, hix]; exact hb, ?_⟩
          have s1 := (s.mono e1).setNo a (some (.ref b))
          refine hj B H0 O _ _ H1 s1 _ ?_
          cases ej : xj (D.set a .no) with
          | bad => rw [ej] at q; exact q.elim
          | ex c fs => rw [ej] at q; exact (q O _ H1 s1 (hid_mono e1))
          | ok j =>
            rw [ej] at q
            simp only [out_ok] at q
            intro y2 H2 e2 rj
            cases eg : owGet l' j with
            | bad => rw [eg] at q; exact q.elim
            | ex c fs => exact absurd eg owGet_nex
            | ok old =>
              rw [eg] at q
              simp only [out_ok] at q
              obtain ⟨jj, m, rfl, hjx, hm⟩ := owGet_ok eg
              obtain ⟨w, hw, rw'⟩ := rd m old hm
              have e12 := e1.trans e2
              have s2 := (s1.mono e2).setSh jn rj
              cases rj
              have sa : ((σ.set a (some (.ref b))).set jn (some (.int jj)))[a]? = some (some (.ref b)) := by
                rw [List.getElem?_set_ne h3, List.getElem?_set_self hla]
              have sj : ((σ.set a (some (.ref b))).set jn (some (.int jj)))[jn]? = some (some (.int jj)) := by
                rw [List.getElem?_set_self (by rw [List.length_set]; exact hlj)]
              refine ⟨_, sa, _, sj, .inl ⟨b, ws, jj, w, rfl, rfl, SqL.of (e12 _ _ hbb), by unfold atI; rw [hwl, hjx]; exact hw, ?_⟩⟩
              refine he B H0 O _ _ H2 s2 _ ?_
              cases ee : xe ((D.set a .no).set jn (.sh (.int jj))) with
              | bad => rw [ee] at q; exact q.elim
              | ex c fs => rw [ee] at q; exact (q O _ H2 s2 (hid_mono e12))
              | ok d =>
                rw [ee] at q
                simp only [out_ok] at q
                intro y3 H3 e3 rd3
                have e123 := e12.trans e3
                cases old with
                | int x =>
                  cases d with
                  | int z =>
                    simp only at q
                    cases rw'
                    cases rd3
                    rw [owPut_of hix hl hjx] at q
                    simp only [out_ok] at q
                    refine .inl ⟨x, z, rfl, rfl, ?_⟩
                    refine ⟨_, sa, _, sj, b, ws, jj, m, rfl, rfl, e123 _ _ hbb, by rw [hwl]; exact hjx, ?_⟩
                    have ei2 : ((D.set a .no).set jn (.sh (.int jj)))[i]? = some (.ow (.ol l)) := by
                      rw [List.getElem?_set_ne h2, List.getElem?_set_ne h1]; exact ei
                    refine q O _ _ ((s2.mono e3).mutTree ei2 rfl fun v2 F2 hv2 tr2 nd2 => ?_) (by rw [hid_upd (fo b mb).1]; exact hid_mono e123)
                    rw [List.getElem?_set_ne h2, List.getElem?_set_ne h1, hv] at hv2
                    cases hv2
                    obtain ⟨a', vs', b', ws', ea', ha', _, hb', hbb', _, mb', _, put'⟩ := tr2.foc nd2 hl
                    cases ea'
                    have := e123 _ _ ha
                    rw [this] at ha'
                    cases ha'
                    rw [hb] at hb'
                    cases hb'
                    have := e123 _ _ hbb
                    rw [this] at hbb'
                    cases hbb'
                    exact ⟨mb', put' H3 (hid O H3) m (.int x) (.int (x + z)) (.int (x + z)) (Same.refl _) (Same.refl _) hm (.int _)⟩
                  | _ => exact q.elim
                | _ => exact q.elim
    | _ => exact q.elim
end
end Mx
namespace ZN
open PySem PySem.Spec PyProof.Rows L2 PySem.W
/-! ### zip of a tuple, a list and a tuple -/
def ItzN (K : PySem.W.Frag) (a b c : Addr) : It :=
  ⟨fun i H => ∃ (xs ys zs : List V) (x y z : V), SqT K H a xs ∧ SqL K H b ys ∧ SqT K H c zs ∧ xs[i]? = some x ∧ ys[i]? = some y ∧ zs[i]? = some z,
    fun i H v H' => ∃ T x y z, v = .ref T ∧ H T = none ∧ H' = upd H T (.tup [x, y, z]) ∧ (∀ xs, SqT K H a xs → xs[i]? = some x) ∧ (∀ ys, SqL K H b ys → ys[i]? = some y) ∧ ∀ zs, SqT K H c zs → zs[i]? = some z,
    fun i H => ∃ xs ys zs : List V, SqT K H a xs ∧ SqL K H b ys ∧ SqT K H c zs ∧ i ≤ xs.length ∧ i ≤ ys.length ∧ i ≤ zs.length ∧ (i = xs.length ∨ i = ys.length ∨ i = zs.length)⟩
theorem turn_zipN {P : Program} {w : World} {K : PySem.W.Frag} {elts : List Expr} {kk : Nat} {tpos : Pos} {a b c z TI TO i1 i2 i3 : Addr} (D : ZipSep3 z TI TO i1 i2 i3 [i1, a] [i2, b] [i3, c]) (l1 : a ≠ i1) (l2 : b ≠ i2) (l3 : c ≠ i3) :
    Turn P w K (.Tuple elts kk tpos) (ItzN K a b c) [z, TI, TO, i1, i2, i3] z (fun i h => IsZip h z TI TO .none ∧ IsTupOf3 h TI (.ref i1) (.ref i2) (.ref i3) ∧ (∃ x y w, IsTupOf3 h TO x y w) ∧ h.IsTupleIter i1 a i ∧ h.IsListIter i2 b i ∧ h.IsTupleIter i3 c i) where
  mem := by simp
  obj := fun i h st c hc => by
    obtain ⟨hz, hTI, ⟨x, y, w, hTO⟩, ⟨o1, e1, _, d1⟩, ⟨o2, e2, _, d2⟩, ⟨o3, e3, _, d3⟩⟩ := st
    simp only [List.mem_cons, List.not_mem_nil, or_false] at hc
    rcases hc with rfl | rfl | rfl | rfl | rfl | rfl
    · exact ⟨_, hz, fun v q => nomatch q⟩
    · exact ⟨_, hTI, fun v q => nomatch q⟩
    · exact ⟨_, hTO, fun v q => nomatch q⟩
    · exact ⟨o1, e1, fun v q => by rw [d1] at q; cases q⟩
    · exact ⟨o2, e2, fun v q => by rw [d2] at q; cases q⟩
    · exact ⟨o3, e3, fun v q => by rw [d3] at q; cases q⟩
  keep := fun i h h' ⟨hz, hTI, ⟨x, y, w, hTO⟩, h1, h2, h3⟩ k =>
    ⟨k z (by simp) _ hz, k TI (by simp) _ hTI, ⟨x, y, w, k TO (by simp) _ hTO⟩, h1.at fun o q => k i1 (by simp) o q, h2.at fun o q => k i2 (by simp) o q, h3.at fun o q => k i3 (by simp) o q⟩
  item := by
    intro X hP hw hK hc i pins s σ H E I hf st hg
    subst hP hw hK
    obtain ⟨hz, hTI, ⟨x0, y0, w0, hTO⟩, h1, h2, h3⟩ := st
    obtain ⟨xs, ys, zs, x, y, w, hqx, hqy, hqz, hx, hy, hw⟩ := hg
    obtain ⟨its, rv, p, _⟩ := I.tuple hqx
    obtain ⟨its2, rv2, p2, _⟩ := I.list hqy
    obtain ⟨its3, rv3, p3, _⟩ := I.tuple hqz
    obtain ⟨u, hu, ru⟩ := rv.get hx
    obtain ⟨u2, hu2, ru2⟩ := rv2.get hy
    obtain ⟨u3, hu3, ru3⟩ := rv3.get hw
    have big : ∀ c, c ∈ [z, TI, TO, i1, i2, i3] → c < s.heap.objs.size := fun c hcm => by
      simp only [List.mem_cons, List.not_mem_nil, or_false] at hcm
      rcases hcm with rfl | rfl | rfl | rfl | rfl | rfl
      · exact Heap.lt_size hz
      · exact Heap.lt_size hTI
      · exact Heap.lt_size hTO
      · obtain ⟨_, e1, _⟩ := h1; exact Heap.lt_size e1
      · obtain ⟨_, e2, _⟩ := h2; exact Heap.lt_size e2
      · obtain ⟨_, e3, _⟩ := h3; exact Heap.lt_size e3
    have hzl : z < s.heap.objs.size := big z (by simp)
    have hh : X.A.handled = none := I.ok.hd hc
    have b1 : i < its.toArray.size := by
      have := (List.getElem?_eq_some_iff.mp hu).1
      simpa using this
    have b2 : i < its2.toArray.size := by
      have := (List.getElem?_eq_some_iff.mp hu2).1
      simpa using this
    have b3 : i < its3.toArray.size := by
      have := (List.getElem?_eq_some_iff.mp hu3).1
      simpa using this
    refine wpAny_pyNext_zipD3_item D (Draws.tuple (A := X.A.in1) hh i1 a l1 its.toArray) (Draws.list (A := X.A.in1) hh i2 b l2 its2.toArray) (Draws.tuple (A := X.A.in1) hh i3 c l3 its3.toArray) hz hTI hTO ⟨h1, p⟩ ⟨h2, p2.isList⟩ ⟨h3, p3⟩ b1 b2 b3
      fun y1 y2 y3 h' tk q1 q2 q3 z' TO' st1 st2 st3 hT hsz hk => ?_
    have e1 : y1 = u := by
      have q1 : its.toArray[i]? = some y1 := q1
      rw [List.getElem?_toArray, hu] at q1
      exact (Option.some.inj q1).symm
    have e2 : y2 = u2 := by
      have q2 : its2.toArray[i]? = some y2 := q2
      rw [List.getElem?_toArray, hu2] at q2
      exact (Option.some.inj q2).symm
    have e3 : y3 = u3 := by
      have q3 : its3.toArray[i]? = some y3 := q3
      rw [List.getElem?_toArray, hu3] at q3
      exact (Option.some.inj q3).symm
    subst e1 e2 e3
    refine ⟨_, rfl, wpAny_letOwnedTupleGo_zip (s := { s with heap := h', toks := tk }) z' fun h'' z'' sb => ?_⟩
    have hT2 : h''.get? s.heap.objs.size = some { cls := .type "tuple", data := .seq #[y1, y2, y3] } := (sb.2 _ (Nat.ne_of_gt hzl)).trans hT
    have new : ObjOk X.prog X.w (upd H s.heap.objs.size (.tup [x, y, w])) h'' s.heap.objs.size (.tup [x, y, w]) :=
      ⟨by show 3 ≤ sizeLine; decide, [y1, y2, y3], .cons ru (.cons ru2 (.cons ru3 .nil)), ⟨_, hT2, rfl, _, rfl⟩⟩
    have I1 : Inv X pins σ (upd H s.heap.objs.size (.tup [x, y, w])) { s with heap := h'', toks := tk } :=
      I.turnedNew (t' := tk) (ch := [z, TI, TO, i1, i2, i3]) (fun c o hb q => (sb.2 c (fun q' => hb (by simp [q']))).trans (hk c o (fun q' => hb (by simp [q'])) (fun q' => hb (by simp [q'])) (fun q' => hb (by simp [q'])) (fun q' => hb (by simp [q'])) (fun q' => hb (by simp [q'])) q)) hf (Nat.le_refl _) new
    refine ⟨.ref s.heap.objs.size, _, I1, rfl, ⟨_, x, y, w, rfl, I.hok.fresh (Nat.le_refl _), rfl, fun l hl => by rw [I.tuple_inj hl hqx]; exact hx, fun l hl => by rw [I.list_inj hl hqy]; exact hy, fun l hl => by rw [I.tuple_inj hl hqz]; exact hw⟩,
      ⟨z'', (sb.2 _ D.TIz).trans (hk _ _ D.TIz D.TITO D.TIi1 D.TIi2 D.TIi3 hTI), ⟨y1, y2, y3, (sb.2 _ D.TOz).trans TO'⟩, st1.1.at fun o q => (sb.2 _ D.zi1.symm).trans q, st2.1.at fun o q => (sb.2 _ D.zi2.symm).trans q, st3.1.at fun o q => (sb.2 _ D.zi3.symm).trans q⟩, fun c hcm => ?_⟩
    rw [upd_ne (Nat.ne_of_lt (big c hcm))]
    exact (hf c hcm).1
  done := by
    intro X hP hw hK hc i pins s σ H E I hf st hg
    subst hP hw hK
    obtain ⟨hz, hTI, ⟨x0, y0, w0, hTO⟩, h1, h2, h3⟩ := st
    obtain ⟨xs, ys, zs, hqx, hqy, hqz, le1, le2, le3, hend⟩ := hg
    obtain ⟨its, rv, p, _⟩ := I.tuple hqx
    obtain ⟨its2, rv2, p2, _⟩ := I.list hqy
    obtain ⟨its3, rv3, p3, _⟩ := I.tuple hqz
    have b1 : its.toArray.size = xs.length := by rw [List.size_toArray]; exact rv.length.symm
    have b2 : its2.toArray.size = ys.length := by rw [List.size_toArray]; exact rv2.length.symm
    have b3 : its3.toArray.size = zs.length := by rw [List.size_toArray]; exact rv3.length.symm
    have hh : X.A.handled = none := I.ok.hd hc
    exact wpAny_pyNext_zipD3_end D (Draws.tuple (A := X.A.in1) hh i1 a l1 its.toArray) (Draws.list (A := X.A.in1) hh i2 b l2 its2.toArray) (Draws.tuple (A := X.A.in1) hh i3 c l3 its3.toArray) hz hTI hTO ⟨h1, p⟩ ⟨h2, p2.isList⟩ ⟨h3, p3⟩ (by omega) (by omega) (by omega) (by omega)
      fun h' tk hk => ⟨rfl, I.turnedL (t' := tk) (ch := [z, TI, TO, i1, i2, i3]) (fun c o hb q =>
        hk c o (fun q' => hb (by simp [q'])) (fun q' => hb (by simp [q'])) (fun q' => hb (by simp [q'])) (fun q' => hb (by simp [q'])) (fun q' => hb (by simp [q'])) q) hf⟩
  self := fun A i s Q E st h => wpAny_pyIter_zip st.1 h
def iZipN (K : PySem.W.Frag) (ta : TA) : TI := fun σ H R => ta σ H fun vs H1 => ∃ a b c xs ys zs, vs = [.ref a, .ref b, .ref c] ∧ SqT K H1 a xs ∧ SqL K H1 b ys ∧ SqT K H1 c zs ∧ R (ItzN K a b c) H1
theorem pi_zipN {X : Cx} {e e2 e3 : Expr} {ta : TA} {p pos tpos : Pos} {elts : List Expr} {kk : Nat} (hg : Gl X "zip") (hm : X.mg "zip" = none) (ha : PA X [e, e2, e3] ta)
    (hs : starEach [e, e2, e3] X.env = (false, eval e X.env) :: starEach [e2, e3] X.env := by rfl) (hpl : (backTo pos (starEach [e2, e3] X.env)).any (·.1) = false := by rfl) :
    PI X (.Tuple elts kk tpos) (.Call (.Name "zip" p) [e, e2, e3] [] pos) (iZipN X.K ta) := by
  refine ⟨fun pins s σ H R I h => ?_⟩
  refine Call_ (ld_blt I hg hm PyProof.Rows.boot_zip (PyProof.Rows.callWith_type1 (thn (ha.run pos pins s σ H _ I h) fun us s1 ⟨vs, H1, I1, r1, a, b, c, xs, ys, zs, ex, hqx, hqy, hqz, q⟩ => ?_) hs hpl))
  subst ex
  obtain ⟨v1, w1, rfl, rx1, rr⟩ : ∃ v w, us = v :: w ∧ RelV (.ref a) v ∧ Vals [.ref b, .ref c] w := by cases r1 with | cons h t => exact ⟨_, _, rfl, h, t⟩
  obtain ⟨v2, w2, rfl, rx2, rr2⟩ : ∃ v w, w1 = v :: w ∧ RelV (.ref b) v ∧ Vals [.ref c] w := by cases rr with | cons h t => exact ⟨_, _, rfl, h, t⟩
  obtain ⟨v3, w3, rfl, rx3, rn⟩ : ∃ v w, w2 = v :: w ∧ RelV (.ref c) v ∧ Vals [] w := by cases rr2 with | cons h t => exact ⟨_, _, rfl, h, t⟩
  cases rn
  obtain rfl : v1 = .ref a := rx1
  obtain rfl : v2 = .ref b := rx2
  obtain rfl : v3 = .ref c := rx3
  obtain ⟨its, rv, p1, _⟩ := I1.tuple hqx
  obtain ⟨its2, rv2, p2, _⟩ := I1.list hqy
  obtain ⟨its3, rv3, p3, _⟩ := I1.tuple hqz
  have la : a < s1.heap.objs.size := by obtain ⟨_, ho, _⟩ := id p1; exact Heap.lt_size ho
  have lb : b < s1.heap.objs.size := p2.lt
  have lc : c < s1.heap.objs.size := by obtain ⟨_, ho, _⟩ := id p3; exact Heap.lt_size ho
  refine zip_begins3 (begins_tuple a its.toArray) (begins_list b its2.toArray) (begins_tuple c its3.toArray) p1 p2.isList p3 fun h' hz hTI hTO h1 h2 h3 hsz hk => wpAny_pyIter_zip hz ?_
  have I2 : Inv X pins σ H1 { s1 with heap := h' } := I1.kept (t' := s1.toks) hk
  have D := zip_sep3 (N := s1.heap.objs.size) (fp1 := [a]) (fp2 := [b]) (fp3 := [c]) (fun x m => by rw [List.mem_singleton.mp m]; exact la) (fun x m => by rw [List.mem_singleton.mp m]; exact lb) (fun x m => by rw [List.mem_singleton.mp m]; exact lc)
  have la' : (a : Nat) < s1.heap.objs.size := la
  have lb' : (b : Nat) < s1.heap.objs.size := lb
  have lc' : (c : Nat) < s1.heap.objs.size := lc
  refine ⟨s1.heap.objs.size + 5, [s1.heap.objs.size + 5, s1.heap.objs.size + 3, s1.heap.objs.size + 4, s1.heap.objs.size, s1.heap.objs.size + 1, s1.heap.objs.size + 2], _, _, H1, rfl, I2, turn_zipN D (Nat.ne_of_lt la') (Nat.ne_of_lt (Nat.lt_succ_of_lt lb')) (Nat.ne_of_lt (Nat.lt_succ_of_lt (Nat.lt_succ_of_lt lc'))), ⟨hz, hTI, ⟨_, _, _, hTO⟩, ⟨_, h1, rfl, rfl⟩, ⟨_, h2, rfl, rfl⟩, ⟨_, h3, rfl, rfl⟩⟩, fun c hcm => ?_, q⟩
  have hle : s1.heap.objs.size ≤ c := by
    simp only [List.mem_cons, List.not_mem_nil, or_false] at hcm
    rcases hcm with rfl | rfl | rfl | rfl | rfl | rfl
    · exact Nat.le_add_right _ _
    · exact Nat.le_add_right _ _
    · exact Nat.le_add_right _ _
    · exact Nat.le_refl _
    · exact Nat.le_add_right _ _
    · exact Nat.le_add_right _ _
  exact I1.fpOk hle (I1.hok.fresh hle)
end ZN
namespace Mx
open PySem PySem.Spec PyProof.Rows L2
section
variable {K : Fr} {cl : Cl} {E : L2.St → XK} {H H' H1 H0 : Hp} {O O' : List Addr} {σ : L2.St} {D : Ds} {B : List Addr}
def zip3D : List Dt → List Dt → List Dt → List Dt
  | x :: xs, y :: ys, z :: zs => .tup [x, y, z] :: zip3D xs ys zs
  | _, _, _ => []
@[simp] theorem zip3D_cons (x y z : Dt) (xs ys zs : List Dt) : zip3D (x :: xs) (y :: ys) (z :: zs) = .tup [x, y, z] :: zip3D xs ys zs := rfl
@[simp] theorem zip3D_nil (ys zs : List Dt) : zip3D [] ys zs = [] := rfl
theorem zip3D_get : ∀ {xs ys zs : List Dt} {i : Nat} {d : Dt}, (zip3D xs ys zs)[i]? = some d → ∃ x y z, xs[i]? = some x ∧ ys[i]? = some y ∧ zs[i]? = some z ∧ d = .tup [x, y, z]
  | [], _, _, _, _, h => by simp [zip3D] at h
  | _ :: _, [], _, _, _, h => by simp [zip3D] at h
  | _ :: _, _ :: _, [], _, _, h => by simp [zip3D] at h
  | x :: xs, y :: ys, z :: zs, 0, d, h => by
    simp [zip3D] at h
    exact ⟨x, y, z, rfl, rfl, rfl, h.symm⟩
  | x :: xs, y :: ys, z :: zs, i + 1, d, h => by
    obtain ⟨a, b, c, h1, h2, h3, h4⟩ := zip3D_get (xs := xs) (ys := ys) (zs := zs) (i := i) (by simpa [zip3D] using h)
    exact ⟨a, b, c, by simpa using h1, by simpa using h2, by simpa using h3, h4⟩
theorem zip3D_len : ∀ (xs ys zs : List Dt), (zip3D xs ys zs).length = min xs.length (min ys.length zs.length)
  | [], _, _ => by simp [zip3D]
  | _ :: _, [], _ => by simp [zip3D]
  | _ :: _, _ :: _, [] => by simp [zip3D]
  | x :: xs, y :: ys, z :: zs => by
    rw [zip3D_cons, List.length_cons, zip3D_len]
    simp only [List.length_cons]
    omega
theorem goes_zipN {a b c : Addr} {vs ws us : List V} {ds es fs : List Dt} (h : (hid O H) a = some (.tup vs)) (h2 : SqL K (hid O H) b ws) (h3 : (hid O H) c = some (.tup us)) (r : RepL K cl (hid O H) vs ds) (r2 : RepL K cl (hid O H) ws es) (r3 : RepL K cl (hid O H) us fs) :
    Goes K cl (ZN.ItzN K a b c) (zip3D ds es fs) O H H0 := fun i O' H' hi0 e t => by
  have h' : SqT K H' a vs := SqT.of ((hid_same O' H') _ _ (e _ _ h))
  have h2' : SqL K H' b ws := (hid_same O' H').seq (e.seq h2)
  have h3' : SqT K H' c us := SqT.of ((hid_same O' H') _ _ (e _ _ h3))
  refine ⟨fun d hd => ?_, fun hi => ⟨vs, ws, us, h', h2', h3', ?_⟩⟩
  · obtain ⟨x, y, z, hx, hy, hz, rfl⟩ := zip3D_get hd
    obtain ⟨v, hv, rv⟩ := r.get hx
    obtain ⟨w, hw, rw_⟩ := r2.get hy
    obtain ⟨u, hu, ru⟩ := r3.get hz
    refine ⟨⟨vs, ws, us, v, w, u, h', h2', h3', hv, hw, hu⟩, fun zz H2 q => ?_⟩
    obtain ⟨T, x', y', z', rfl, hT, rfl, f1, f2, f3⟩ := q
    have a1 := f1 vs h'
    have a2 := f2 ws h2'
    have a3 := f3 us h3'
    rw [hv] at a1; rw [hw] at a2; rw [hu] at a3
    cases a1; cases a2; cases a3
    have nT : T ∉ O' := fun m => by have := t T m; rw [hT] at this; exact mutO_none this
    exact ⟨same_upd hT, .tup (hid_at nT) (.cons ((rv.mono e).mono (hid_mono (same_upd hT))) (.cons ((rw_.mono e).mono (hid_mono (same_upd hT))) (.cons ((ru.mono e).mono (hid_mono (same_upd hT))) .nil)))⟩
  · rw [zip3D_len] at hi
    have := r.len
    have := r2.len
    have := r3.len
    omega
def tlt3 : List Dt → R (List Dt × List Dt × List Dt)
  | [.tup a, .lst b, .tup c] => .ok (a, b, c)
  | _ => .bad
@[simp] theorem tlt3_ok (a b c : List Dt) : tlt3 [.tup a, .lst b, .tup c] = .ok (a, b, c) := rfl
theorem tlt3_inv {l a b c : List Dt} (h : tlt3 l = .ok (a, b, c)) : l = [.tup a, .lst b, .tup c] := by
  unfold tlt3 at h
  split at h
  · cases h; rfl
  · cases h
theorem tlt3_nex {l : List Dt} {c : Str} {fs : List (Str × Dt)} : tlt3 l ≠ .ex c fs := fun h => by
  unfold tlt3 at h
  split at h <;> cases h
@[simp] def xZipN (xa : XA) : XA := fun D => (xa D).bind fun l => (tlt3 l).bind fun p => .ok (zip3D p.1 p.2.1 p.2.2)
theorem si_zipN {ta : TA} {xa : XA} (h : SimA K cl E ta xa) : SimI K cl E (ZN.iZipN K ta) (xZipN xa) := fun B H0 O σ D H s Rk q => by
  unfold xZipN at q
  refine h B H0 O σ D H s _ ?_
  cases e : xa D with
  | bad => rw [e] at q; exact q.elim
  | ex c fs => rw [e] at q; exact q
  | ok l =>
    rw [e] at q
    simp only [R.bind] at q
    intro vs H1 e1 r
    cases et : tlt3 l with
    | bad => rw [et] at q; exact q.elim
    | ex c fs => exact absurd et tlt3_nex
    | ok p =>
      obtain ⟨a, b, c⟩ := p
      rw [et] at q
      cases tlt3_inv et
      cases r with
      | cons r1 r => cases r with
        | cons r2 r => cases r with
          | cons r3 r =>
            cases r
            cases r1 with
            | tup ha ra => cases r2 with
              | lst hb rb => cases r3 with
                | tup hc rc =>
                  exact ⟨_, _, _, _, _, _, rfl, SqT.of (hid_same _ _ _ _ ha), SqL.of (hid_same _ _ _ _ hb), SqT.of (hid_same _ _ _ _ hc), q _ H1 e1 (goes_zipN ha (SqL.of hb) hc ra rb rc)⟩
end
end Mx
namespace Mx
open PySem PySem.Spec PyProof.Rows L2 LiI
section
variable {K : Fr} {cl : Cl} {E : L2.St → XK} {H H' H1 H0 : Hp} {O O' : List Addr} {σ : L2.St} {D : Ds} {B : List Addr}
/-! ### list(d.items()), a dict copied and then changed, {} as a value -/
def itemD (p : Key × Dt) : Dt := .tup [keyD p.1, p.2]
def dItemsK : Dt → R (List Dt)
  | .dk kvs => .ok (kvs.map itemD)
  | _ => .bad
@[simp] theorem dItemsK_dk (kvs : List (Key × Dt)) : dItemsK (.dk kvs) = .ok (kvs.map itemD) := rfl
@[simp] def xItemsK (xe : XE) : XA := fun D => (xe D).bind dItemsK
theorem items_rep {p : Addr} {H H' : Hp} {O : List Addr} (hp : ∀ a, a ∈ O → H a ≠ none) (e : Same H H') (np : H p = none) : ∀ {ts : List Addr} {kv : List (Key × V)} {kvs : List (Key × Dt)}, Paired (fun (t : Addr) (q : Key × V) => H' t = some (.tup [kV q.1, q.2])) ts kv → (∀ t, t ∈ ts → H t = none) → p ∉ ts → kv.map (·.1) = kvs.map (·.1) → RepL K cl (hid O H) (kv.map (·.2)) (kvs.map (·.2)) →
    RepL K cl (hid (p :: O) H') (ts.map V.ref) (kvs.map itemD)
  | [], [], [], .nil, _, _, _, _ => .nil
  | [], [], _ :: _, _, _, _, h, _ => by simp at h
  | t :: ts, (k, v) :: kv, [], _, _, _, h, _ => by simp at h
  | t :: ts, (k, v) :: kv, (k', d) :: kvs, .cons h1 hr, nt, pt, hk, r => by
    simp only [List.map_cons, List.cons.injEq] at hk
    obtain ⟨rfl, hk⟩ := hk
    cases r with
    | cons rv rr =>
      have ht : t ∉ p :: O := fun m => by
        rcases List.mem_cons.mp m with rfl | m
        · exact pt List.mem_cons_self
        · exact hp t m (nt t List.mem_cons_self)
      refine .cons (.tup (by rw [hid_nin ht]; exact h1) (.cons ?_ (.cons (rv.mono (hid_new e np)) .nil))) (items_rep hp e np hr (fun x m => nt x (List.mem_cons_of_mem _ m)) (fun m => pt (List.mem_cons_of_mem _ m)) hk rr)
      cases k with
      | inl i => exact .int i
      | inr s => exact .str s
theorem simL_items {te : TE} {xe : XE} (h : SimB K cl E te xe) : SimL K cl E (tListItems te) (xItemsK xe) := fun B H0 O σ D H s Q q => by
  unfold xItemsK at q
  refine h B H0 O σ D H s _ ?_
  cases e : xe D with
  | bad => rw [e] at q; exact q.elim
  | ex c fs => rw [e] at q; exact q
  | ok d =>
    rw [e] at q
    simp only [R.bind] at q
    intro v H1 e1 r
    cases d with
    | dk kvs =>
      obtain ⟨a, kv, rfl, ha, hk, rr⟩ := r
      refine ⟨a, kv, rfl, ha, fun H2 p ts e2 np nt pt hp hr => ?_⟩
      refine q p _ H2 (e1.trans e2) (e1.free np) hp (items_rep (fun x m => ?_) e2 np hr nt pt hk rr)
      have := (s.mono e1).trk x m
      intro z
      rw [z] at this
      exact mutO_none this
    | _ => exact q.elim
@[simp] def xsDictK (i : Nat) (xa : XA) : XS := fun D => (xa D).out D fun l => match l with
  | [.dk kvs] => .nx (D.set i (.ok kvs))
  | _ => .bad
theorem ss_dictK {i : Nat} {ta : TA} {xa : XA} (h : SimBA K cl E ta xa) : SimS K cl E (tAsg (tCB (rDictA K) ta) (gName i)) (xsDictK i xa) := fun B H0 O σ D H s En q => by
  unfold xsDictK at q
  refine h B H0 O σ D H s _ ?_
  cases e : xa D with
  | bad => rw [e] at q; exact q.elim
  | ex c fs => rw [e] at q; exact q O σ H s (Same.refl _)
  | ok l =>
    rw [e] at q
    simp only [out_ok] at q
    intro vs H1 e1 r
    split at q
    · rename_i kvs
      obtain ⟨v, rfl, a, kv, rfl, ha, hk, hr⟩ := r.one
      refine .inr ⟨a, kv, rfl, .inl ha, fun p n => ?_⟩
      have np : H p = none := e1.free n
      exact q _ _ _ (s.setOwn i (e1.trans (same_upd n)) np ⟨kv, upd_same, hk, hr.mono (hid_new (same_upd n) n)⟩ (by rw [upd_same]; rfl)) (hid_new (e1.trans (same_upd n)) np)
    · exact q.elim
theorem sim_newK : Sim K cl E tDNewK (xC (.dk [])) := fun B H0 O σ D H s Q q => fun p n =>
  q _ _ (same_upd n) (.dk (kv := []) (hid_at (trk_nin s.trk n)) rfl .nil)
end
end Mx
namespace Mx
open PySem PySem.Spec PyProof.Rows L2
section
variable {K : Fr} {cl : Cl} {E : L2.St → XK} {H H' H1 H0 : Hp} {O O' : List Addr} {σ : L2.St} {D : Ds} {B : List Addr}
/-! ### l.pop(k) -/
theorem RepL.erase : ∀ {vs : List V} {ds : List Dt} (n : Nat), RepL K cl H vs ds → RepL K cl H (vs.eraseIdx n) (ds.eraseIdx n)
  | _, _, _, .nil => .nil
  | _, _, 0, .cons _ r => r
  | _, _, n + 1, .cons h r => .cons h (r.erase n)
def popO (D : Ds) (i : Nat) (l : List Dt) : Dt → Out
  | .int k => if l.length ≤ 1000000 then (opt (ixN l.length k)).get fun n => .nx (D.set i (.ol (l.eraseIdx n))) else .bad
  | _ => .bad
@[simp] theorem popO_int (D : Ds) (i : Nat) (l : List Dt) (k : Int) : popO D i l (.int k) = if l.length ≤ 1000000 then (opt (ixN l.length k)).get fun n => .nx (D.set i (.ol (l.eraseIdx n))) else .bad := rfl
@[simp] def xsPop (i : Nat) (xk : XE) : XS := fun D => (Sl.lst? D[i]?).out D fun l => (xk D).out D fun k => popO D i l k
theorem ss_pop {i : Nat} {tk : TE} {xk : XE} (hk : Sim K cl E tk xk) : SimS K cl E (tDrop (tBM K "list" rPopAt (tVar i) (tCons tk tNil))) (xsPop i xk) := fun B H0 O σ D H s En q => by
  unfold xsPop at q
  cases el : Sl.lst? D[i]? with
  | bad => rw [el] at q; exact q.elim
  | ex c fs => exact (lst?_ex el).elim
  | ok l =>
    rw [el] at q
    have hi := lst?_eq el
    obtain ⟨a, ea, ma, vs, ha, ra⟩ := own_at s hi rfl
    refine ⟨.ref a, ea, .inl ⟨rfl, vs, SqL.of ha⟩, ?_⟩
    refine hk B H0 O σ D H s _ ?_
    cases ek : xk D with
    | bad => rw [ek] at q; exact q.elim
    | ex c fs => rw [ek] at q; exact q O σ H s (Same.refl _)
    | ok k =>
      rw [ek] at q
      simp only [out_ok] at q
      intro w H1 e1 rw'
      cases k with
      | int k =>
        cases rw'
        simp only [popO_int] at q
        split at q
        · rename_i hz
          cases en : ixN l.length k with
          | none => rw [en] at q; exact q.elim
          | some n =>
            rw [en] at q
            simp only [opt_some, get_ok] at q
            obtain ⟨h1, h2, h3, h4⟩ := ixN_seq en
            have lv := ra.len
            have hn : n < vs.length := by omega
            refine ⟨a, vs, k, n, vs[n], rfl, rfl, e1 _ _ ha, by omega, by omega, by rw [lv]; exact h1, List.getElem?_eq_getElem hn, ?_⟩
            have ra' := ra.mono (hid_mono (O := O) e1)
            refine q O σ _ ((s.mono e1).mut hi rfl ea ⟨_, upd_same, ra'.erase n⟩) ?_
            rw [hid_upd ma]
            exact hid_mono e1
        · exact q.elim
      | _ => exact q.elim
end
end Mx
namespace L2
open PySem PySem.Spec PyProof.Rows PySem.W
section
variable {X : Cx} {CX : CXT} {k : Nat} {C f : Addr} {fd : FuncData} {ps : List Str} {ds : List Value} {dvs : List V} {sp : Sp} {E : St → XK} {o e : Expr} {es : List Expr} {m : Str} {ta : TE} {t : TA} {apos pos : Pos}
/-- o.m(e, ..), what it lets out may speak of the slots -/
def tMethE (C : Addr) (m : Str) (sp : Sp) (dvs : List V) (E : St → XK) (ta : TE) (t : TA) : TE := fun σ H Q => tMeth C m sp dvs (E σ) ta t σ H Q
theorem pe_methE {pl : Sem Bool} (he : PE X o ta) (c : Cls X.K C) (hm : Meth X.K C m f) (F : FnOk X.prog X.w X.K X.mg X.base CX k f fd ps sp) (hr : Room k X.A) (hb : Binds X.K fd ps ds) (hd : Vals dvs ds) (hx : ∀ σ, PassesAt CX X σ (E σ)) (ha : PA X (e :: es) t)
    (hst : starEach (e :: es) X.env = (false, eval e X.env) :: starEach es X.env := by rfl) (hpl : (backTo pos (starEach es X.env)).any (·.1) = false := by rfl)
    (ht : eval (.Call (.Attribute o m apos) (e :: es) [] pos) X.env = (do
      let ov ← eval o X.env
      standAt apos.atName
      let (f, first) ← holding [ov] (getMethod ov m pl)
      callWith pos f first (backTo pos (starEach (e :: es) X.env)) (backToKw pos (keywordEach [] X.env))) := by rfl) :
    PE X (.Call (.Attribute o m apos) (e :: es) [] pos) (tMethE C m sp dvs E ta t) := by
  refine ⟨fun pins s σ H Q I h => ?_⟩
  refine PySem.W.methodCall_KW (pl := pl) (thn (he.run pins s σ H _ I h) fun u s1 ⟨x, H1, I1, rx, a, dx, fs, ex, ea, l, q⟩ => ?_) ht
  subst ex
  obtain rfl : u = Value.ref a := rx
  refine getmeth_ok I1 ea c hm l ?_
  refine PySem.W.callWith_K (first := [.ref a]) (h₀ := X.base) I.ok.mod.kin hm.kp (thn (ha.run pos pins s1 σ H1 _ I1 q) fun us s2 ⟨vs, H2, I2, r, q2⟩ => ⟨I2.kIn, ?_⟩) hst hpl
  exact run_fnSD (us := .ref a :: us) (vs := .ref a :: vs) F hr hb hd (hx σ) I2 (.cons rfl r) q2
end
end L2
namespace Mx
open PySem PySem.Spec PyProof.Rows L2
section
variable {K : Fr} {cl : Cl} {E : L2.St → XK} {H H' H1 H0 : Hp} {O O' : List Addr} {σ : L2.St} {D : Ds} {B : List Addr}
theorem sim_methE {c m : Str} {C : Addr} {f : List Dt → R Dt} {to : TE} {ta : TA} {xo : XE} {xa : XA} (hc : cl c = some C) (ho : Sim K cl E to xo) (ha : SimA K cl E ta xa) :
    Sim K cl E (tMethE C m (PureSp K cl f) [] E to ta) (xMeth c m f xo xa) := fun B H0 O σ D H s Q q => by
  unfold xMeth at q
  refine ho B H0 O σ D H s _ ?_
  cases e : xo D with
  | bad => rw [e] at q; exact q.elim
  | ex c' fs => rw [e] at q; exact q
  | ok d =>
    rw [e] at q
    simp only [R.bind] at q
    intro v H1 e1 r
    split at q
    · rename_i hm
      cases d with
      | ins c' fs =>
        simp only [isM, Bool.and_eq_true, decide_eq_true_iff, Option.isNone_iff_eq_none] at hm
        obtain ⟨hcc, hl⟩ := hm
        subst hcc
        cases r with
        | ins k1 h1 k2 rr =>
          rw [hc] at k1
          cases k1
          refine ⟨_, _, _, rfl, hid_same O H1 _ _ h1, lookup_none_of k2 hl, ?_⟩
          refine ha B H0 O σ D H1 (s.mono e1) _ ?_
          cases ea : xa D with
          | bad => rw [ea] at q; exact q.elim
          | ex c2 fs2 => rw [ea] at q; exact ExOk.mono e1 q
          | ok ds =>
            rw [ea] at q
            simp only [R.bind] at q
            intro vs H2 e2 rv
            refine ⟨O, .ins c' fs :: ds, ((s.mono e1).mono e2).trk, ?_, post_E (e1.trans e2) q⟩
            rw [List.append_nil]
            exact .cons ((Rep.ins hc h1 k2 rr).mono (hid_mono e2)) rv
      | _ => cases hm
    · exact q.elim
end
end Mx
namespace Mx
open PySem PySem.Spec PyProof.Rows L2
theorem seqE {s r : XS} {D : Ds} {o : Out} (h : (s D).seq r = o) : xsSeq s r D = o := h
theorem seqN {r : XS} {D : Ds} {o : Out} (h : r D = o) : (Out.nx D).seq r = o := h
theorem seqRE {s : XS} {r : XR} {D : Ds} {o : OutR} (h : (s D).seqR r = o) : xrSeq s r D = o := h
theorem seqRN {r : XR} {D : Ds} {o : OutR} (h : r D = o) : (Out.nx D).seqR r = o := h
/-! slots frozen, by their place -/
theorem fzo_0 {l : List Dt} {r : Ds} : Frz 0 (.ol l :: r) = .sh (.lst l) :: r := rfl
theorem fzs_0 {d : Dt} {r : Ds} : Frz 0 (.sh d :: r) = .sh d :: r := rfl
theorem fzo_1 {a0 : Sl} {l : List Dt} {r : Ds} : Frz 1 (a0 :: .ol l :: r) = a0 :: .sh (.lst l) :: r := rfl
theorem fzs_1 {a0 : Sl} {d : Dt} {r : Ds} : Frz 1 (a0 :: .sh d :: r) = a0 :: .sh d :: r := rfl
theorem fzo_2 {a0 a1 : Sl} {l : List Dt} {r : Ds} : Frz 2 (a0 :: a1 :: .ol l :: r) = a0 :: a1 :: .sh (.lst l) :: r := rfl
theorem fzs_2 {a0 a1 : Sl} {d : Dt} {r : Ds} : Frz 2 (a0 :: a1 :: .sh d :: r) = a0 :: a1 :: .sh d :: r := rfl
theorem fzo_3 {a0 a1 a2 : Sl} {l : List Dt} {r : Ds} : Frz 3 (a0 :: a1 :: a2 :: .ol l :: r) = a0 :: a1 :: a2 :: .sh (.lst l) :: r := rfl
theorem fzs_3 {a0 a1 a2 : Sl} {d : Dt} {r : Ds} : Frz 3 (a0 :: a1 :: a2 :: .sh d :: r) = a0 :: a1 :: a2 :: .sh d :: r := rfl
theorem fzo_4 {a0 a1 a2 a3 : Sl} {l : List Dt} {r : Ds} : Frz 4 (a0 :: a1 :: a2 :: a3 :: .ol l :: r) = a0 :: a1 :: a2 :: a3 :: .sh (.lst l) :: r := rfl
theorem fzs_4 {a0 a1 a2 a3 : Sl} {d : Dt} {r : Ds} : Frz 4 (a0 :: a1 :: a2 :: a3 :: .sh d :: r) = a0 :: a1 :: a2 :: a3 :: .sh d :: r := rfl
theorem fzo_5 {a0 a1 a2 a3 a4 : Sl} {l : List Dt} {r : Ds} : Frz 5 (a0 :: a1 :: a2 :: a3 :: a4 :: .ol l :: r) = a0 :: a1 :: a2 :: a3 :: a4 :: .sh (.lst l) :: r := rfl
theorem fzs_5 {a0 a1 a2 a3 a4 : Sl} {d : Dt} {r : Ds} : Frz 5 (a0 :: a1 :: a2 :: a3 :: a4 :: .sh d :: r) = a0 :: a1 :: a2 :: a3 :: a4 :: .sh d :: r := rfl
theorem fzo_6 {a0 a1 a2 a3 a4 a5 : Sl} {l : List Dt} {r : Ds} : Frz 6 (a0 :: a1 :: a2 :: a3 :: a4 :: a5 :: .ol l :: r) = a0 :: a1 :: a2 :: a3 :: a4 :: a5 :: .sh (.lst l) :: r := rfl
theorem fzs_6 {a0 a1 a2 a3 a4 a5 : Sl} {d : Dt} {r : Ds} : Frz 6 (a0 :: a1 :: a2 :: a3 :: a4 :: a5 :: .sh d :: r) = a0 :: a1 :: a2 :: a3 :: a4 :: a5 :: .sh d :: r := rfl
theorem fzo_7 {a0 a1 a2 a3 a4 a5 a6 : Sl} {l : List Dt} {r : Ds} : Frz 7 (a0 :: a1 :: a2 :: a3 :: a4 :: a5 :: a6 :: .ol l :: r) = a0 :: a1 :: a2 :: a3 :: a4 :: a5 :: a6 :: .sh (.lst l) :: r := rfl
theorem fzs_7 {a0 a1 a2 a3 a4 a5 a6 : Sl} {d : Dt} {r : Ds} : Frz 7 (a0 :: a1 :: a2 :: a3 :: a4 :: a5 :: a6 :: .sh d :: r) = a0 :: a1 :: a2 :: a3 :: a4 :: a5 :: a6 :: .sh d :: r := rfl
theorem fzo_8 {a0 a1 a2 a3 a4 a5 a6 a7 : Sl} {l : List Dt} {r : Ds} : Frz 8 (a0 :: a1 :: a2 :: a3 :: a4 :: a5 :: a6 :: a7 :: .ol l :: r) = a0 :: a1 :: a2 :: a3 :: a4 :: a5 :: a6 :: a7 :: .sh (.lst l) :: r := rfl
theorem fzs_8 {a0 a1 a2 a3 a4 a5 a6 a7 : Sl} {d : Dt} {r : Ds} : Frz 8 (a0 :: a1 :: a2 :: a3 :: a4 :: a5 :: a6 :: a7 :: .sh d :: r) = a0 :: a1 :: a2 :: a3 :: a4 :: a5 :: a6 :: a7 :: .sh d :: r := rfl
theorem fzo_9 {a0 a1 a2 a3 a4 a5 a6 a7 a8 : Sl} {l : List Dt} {r : Ds} : Frz 9 (a0 :: a1 :: a2 :: a3 :: a4 :: a5 :: a6 :: a7 :: a8 :: .ol l :: r) = a0 :: a1 :: a2 :: a3 :: a4 :: a5 :: a6 :: a7 :: a8 :: .sh (.lst l) :: r := rfl
theorem fzs_9 {a0 a1 a2 a3 a4 a5 a6 a7 a8 : Sl} {d : Dt} {r : Ds} : Frz 9 (a0 :: a1 :: a2 :: a3 :: a4 :: a5 :: a6 :: a7 :: a8 :: .sh d :: r) = a0 :: a1 :: a2 :: a3 :: a4 :: a5 :: a6 :: a7 :: a8 :: .sh d :: r := rfl
theorem fzo_10 {a0 a1 a2 a3 a4 a5 a6 a7 a8 a9 : Sl} {l : List Dt} {r : Ds} : Frz 10 (a0 :: a1 :: a2 :: a3 :: a4 :: a5 :: a6 :: a7 :: a8 :: a9 :: .ol l :: r) = a0 :: a1 :: a2 :: a3 :: a4 :: a5 :: a6 :: a7 :: a8 :: a9 :: .sh (.lst l) :: r := rfl
theorem fzs_10 {a0 a1 a2 a3 a4 a5 a6 a7 a8 a9 : Sl} {d : Dt} {r : Ds} : Frz 10 (a0 :: a1 :: a2 :: a3 :: a4 :: a5 :: a6 :: a7 :: a8 :: a9 :: .sh d :: r) = a0 :: a1 :: a2 :: a3 :: a4 :: a5 :: a6 :: a7 :: a8 :: a9 :: .sh d :: r := rfl
theorem fzo_11 {a0 a1 a2 a3 a4 a5 a6 a7 a8 a9 a10 : Sl} {l : List Dt} {r : Ds} : Frz 11 (a0 :: a1 :: a2 :: a3 :: a4 :: a5 :: a6 :: a7 :: a8 :: a9 :: a10 :: .ol l :: r) = a0 :: a1 :: a2 :: a3 :: a4 :: a5 :: a6 :: a7 :: a8 :: a9 :: a10 :: .sh (.lst l) :: r := rfl
theorem fzs_11 {a0 a1 a2 a3 a4 a5 a6 a7 a8 a9 a10 : Sl} {d : Dt} {r : Ds} : Frz 11 (a0 :: a1 :: a2 :: a3 :: a4 :: a5 :: a6 :: a7 :: a8 :: a9 :: a10 :: .sh d :: r) = a0 :: a1 :: a2 :: a3 :: a4 :: a5 :: a6 :: a7 :: a8 :: a9 :: a10 :: .sh d :: r := rfl
theorem fzo_12 {a0 a1 a2 a3 a4 a5 a6 a7 a8 a9 a10 a11 : Sl} {l : List Dt} {r : Ds} : Frz 12 (a0 :: a1 :: a2 :: a3 :: a4 :: a5 :: a6 :: a7 :: a8 :: a9 :: a10 :: a11 :: .ol l :: r) = a0 :: a1 :: a2 :: a3 :: a4 :: a5 :: a6 :: a7 :: a8 :: a9 :: a10 :: a11 :: .sh (.lst l) :: r := rfl
theorem fzs_12 {a0 a1 a2 a3 a4 a5 a6 a7 a8 a9 a10 a11 : Sl} {d : Dt} {r : Ds} : Frz 12 (a0 :: a1 :: a2 :: a3 :: a4 :: a5 :: a6 :: a7 :: a8 :: a9 :: a10 :: a11 :: .sh d :: r) = a0 :: a1 :: a2 :: a3 :: a4 :: a5 :: a6 :: a7 :: a8 :: a9 :: a10 :: a11 :: .sh d :: r := rfl
theorem fzo_13 {a0 a1 a2 a3 a4 a5 a6 a7 a8 a9 a10 a11 a12 : Sl} {l : List Dt} {r : Ds} : Frz 13 (a0 :: a1 :: a2 :: a3 :: a4 :: a5 :: a6 :: a7 :: a8 :: a9 :: a10 :: a11 :: a12 :: .ol l :: r) = a0 :: a1 :: a2 :: a3 :: a4 :: a5 :: a6 :: a7 :: a8 :: a9 :: a10 :: a11 :: a12 :: .sh (.lst l) :: r := rfl
theorem fzs_13 {a0 a1 a2 a3 a4 a5 a6 a7 a8 a9 a10 a11 a12 : Sl} {d : Dt} {r : Ds} : Frz 13 (a0 :: a1 :: a2 :: a3 :: a4 :: a5 :: a6 :: a7 :: a8 :: a9 :: a10 :: a11 :: a12 :: .sh d :: r) = a0 :: a1 :: a2 :: a3 :: a4 :: a5 :: a6 :: a7 :: a8 :: a9 :: a10 :: a11 :: a12 :: .sh d :: r := rfl
theorem fzo_14 {a0 a1 a2 a3 a4 a5 a6 a7 a8 a9 a10 a11 a12 a13 : Sl} {l : List Dt} {r : Ds} : Frz 14 (a0 :: a1 :: a2 :: a3 :: a4 :: a5 :: a6 :: a7 :: a8 :: a9 :: a10 :: a11 :: a12 :: a13 :: .ol l :: r) = a0 :: a1 :: a2 :: a3 :: a4 :: a5 :: a6 :: a7 :: a8 :: a9 :: a10 :: a11 :: a12 :: a13 :: .sh (.lst l) :: r := rfl
theorem fzs_14 {a0 a1 a2 a3 a4 a5 a6 a7 a8 a9 a10 a11 a12 a13 : Sl} {d : Dt} {r : Ds} : Frz 14 (a0 :: a1 :: a2 :: a3 :: a4 :: a5 :: a6 :: a7 :: a8 :: a9 :: a10 :: a11 :: a12 :: a13 :: .sh d :: r) = a0 :: a1 :: a2 :: a3 :: a4 :: a5 :: a6 :: a7 :: a8 :: a9 :: a10 :: a11 :: a12 :: a13 :: .sh d :: r := rfl
theorem fzo_15 {a0 a1 a2 a3 a4 a5 a6 a7 a8 a9 a10 a11 a12 a13 a14 : Sl} {l : List Dt} {r : Ds} : Frz 15 (a0 :: a1 :: a2 :: a3 :: a4 :: a5 :: a6 :: a7 :: a8 :: a9 :: a10 :: a11 :: a12 :: a13 :: a14 :: .ol l :: r) = a0 :: a1 :: a2 :: a3 :: a4 :: a5 :: a6 :: a7 :: a8 :: a9 :: a10 :: a11 :: a12 :: a13 :: a14 :: .sh (.lst l) :: r := rfl
theorem fzs_15 {a0 a1 a2 a3 a4 a5 a6 a7 a8 a9 a10 a11 a12 a13 a14 : Sl} {d : Dt} {r : Ds} : Frz 15 (a0 :: a1 :: a2 :: a3 :: a4 :: a5 :: a6 :: a7 :: a8 :: a9 :: a10 :: a11 :: a12 :: a13 :: a14 :: .sh d :: r) = a0 :: a1 :: a2 :: a3 :: a4 :: a5 :: a6 :: a7 :: a8 :: a9 :: a10 :: a11 :: a12 :: a13 :: a14 :: .sh d :: r := rfl
theorem fzo_16 {a0 a1 a2 a3 a4 a5 a6 a7 a8 a9 a10 a11 a12 a13 a14 a15 : Sl} {l : List Dt} {r : Ds} : Frz 16 (a0 :: a1 :: a2 :: a3 :: a4 :: a5 :: a6 :: a7 :: a8 :: a9 :: a10 :: a11 :: a12 :: a13 :: a14 :: a15 :: .ol l :: r) = a0 :: a1 :: a2 :: a3 :: a4 :: a5 :: a6 :: a7 :: a8 :: a9 :: a10 :: a11 :: a12 :: a13 :: a14 :: a15 :: .sh (.lst l) :: r := rfl
theorem fzs_16 {a0 a1 a2 a3 a4 a5 a6 a7 a8 a9 a10 a11 a12 a13 a14 a15 : Sl} {d : Dt} {r : Ds} : Frz 16 (a0 :: a1 :: a2 :: a3 :: a4 :: a5 :: a6 :: a7 :: a8 :: a9 :: a10 :: a11 :: a12 :: a13 :: a14 :: a15 :: .sh d :: r) = a0 :: a1 :: a2 :: a3 :: a4 :: a5 :: a6 :: a7 :: a8 :: a9 :: a10 :: a11 :: a12 :: a13 :: a14 :: a15 :: .sh d :: r := rfl
theorem fzo_17 {a0 a1 a2 a3 a4 a5 a6 a7 a8 a9 a10 a11 a12 a13 a14 a15 a16 : Sl} {l : List Dt} {r : Ds} : Frz 17 (a0 :: a1 :: a2 :: a3 :: a4 :: a5 :: a6 :: a7 :: a8 :: a9 :: a10 :: a11 :: a12 :: a13 :: a14 :: a15 :: a16 :: .ol l :: r) = a0 :: a1 :: a2 :: a3 :: a4 :: a5 :: a6 :: a7 :: a8 :: a9 :: a10 :: a11 :: a12 :: a13 :: a14 :: a15 :: a16 :: .sh (.lst l) :: r := rfl
theorem fzs_17 {a0 a1 a2 a3 a4 a5 a6 a7 a8 a9 a10 a11 a12 a13 a14 a15 a16 : Sl} {d : Dt} {r : Ds} : Frz 17 (a0 :: a1 :: a2 :: a3 :: a4 :: a5 :: a6 :: a7 :: a8 :: a9 :: a10 :: a11 :: a12 :: a13 :: a14 :: a15 :: a16 :: .sh d :: r) = a0 :: a1 :: a2 :: a3 :: a4 :: a5 :: a6 :: a7 :: a8 :: a9 :: a10 :: a11 :: a12 :: a13 :: a14 :: a15 :: a16 :: .sh d :: r := rfl
theorem fzo_18 {a0 a1 a2 a3 a4 a5 a6 a7 a8 a9 a10 a11 a12 a13 a14 a15 a16 a17 : Sl} {l : List Dt} {r : Ds} : Frz 18 (a0 :: a1 :: a2 :: a3 :: a4 :: a5 :: a6 :: a7 :: a8 :: a9 :: a10 :: a11 :: a12 :: a13 :: a14 :: a15 :: a16 :: a17 :: .ol l :: r) = a0 :: a1 :: a2 :: a3 :: a4 :: a5 :: a6 :: a7 :: a8 :: a9 :: a10 :: a11 :: a12 :: a13 :: a14 :: a15 :: a16 :: a17 :: .sh (.lst l) :: r := rfl
theorem fzs_18 {a0 a1 a2 a3 a4 a5 a6 a7 a8 a9 a10 a11 a12 a13 a14 a15 a16 a17 : Sl} {d : Dt} {r : Ds} : Frz 18 (a0 :: a1 :: a2 :: a3 :: a4 :: a5 :: a6 :: a7 :: a8 :: a9 :: a10 :: a11 :: a12 :: a13 :: a14 :: a15 :: a16 :: a17 :: .sh d :: r) = a0 :: a1 :: a2 :: a3 :: a4 :: a5 :: a6 :: a7 :: a8 :: a9 :: a10 :: a11 :: a12 :: a13 :: a14 :: a15 :: a16 :: a17 :: .sh d :: r := rfl
theorem fzo_19 {a0 a1 a2 a3 a4 a5 a6 a7 a8 a9 a10 a11 a12 a13 a14 a15 a16 a17 a18 : Sl} {l : List Dt} {r : Ds} : Frz 19 (a0 :: a1 :: a2 :: a3 :: a4 :: a5 :: a6 :: a7 :: a8 :: a9 :: a10 :: a11 :: a12 :: a13 :: a14 :: a15 :: a16 :: a17 :: a18 :: .ol l :: r) = a0 :: a1 :: a2 :: a3 :: a4 :: a5 :: a6 :: a7 :: a8 :: a9 :: a10 :: a11 :: a12 :: a13 :: a14 :: a15 :: a16 :: a17 :: a18 :: .sh (.lst l) :: r := rfl
theorem fzs_19 {a0 a1 a2 a3 a4 a5 a6 a7 a8 a9 a10 a11 a12 a13 a14 a15 a16 a17 a18 : Sl} {d : Dt} {r : Ds} : Frz 19 (a0 :: a1 :: a2 :: a3 :: a4 :: a5 :: a6 :: a7 :: a8 :: a9 :: a10 :: a11 :: a12 :: a13 :: a14 :: a15 :: a16 :: a17 :: a18 :: .sh d :: r) = a0 :: a1 :: a2 :: a3 :: a4 :: a5 :: a6 :: a7 :: a8 :: a9 :: a10 :: a11 :: a12 :: a13 :: a14 :: a15 :: a16 :: a17 :: a18 :: .sh d :: r := rfl
theorem fzo_20 {a0 a1 a2 a3 a4 a5 a6 a7 a8 a9 a10 a11 a12 a13 a14 a15 a16 a17 a18 a19 : Sl} {l : List Dt} {r : Ds} : Frz 20 (a0 :: a1 :: a2 :: a3 :: a4 :: a5 :: a6 :: a7 :: a8 :: a9 :: a10 :: a11 :: a12 :: a13 :: a14 :: a15 :: a16 :: a17 :: a18 :: a19 :: .ol l :: r) = a0 :: a1 :: a2 :: a3 :: a4 :: a5 :: a6 :: a7 :: a8 :: a9 :: a10 :: a11 :: a12 :: a13 :: a14 :: a15 :: a16 :: a17 :: a18 :: a19 :: .sh (.lst l) :: r := rfl
theorem fzs_20 {a0 a1 a2 a3 a4 a5 a6 a7 a8 a9 a10 a11 a12 a13 a14 a15 a16 a17 a18 a19 : Sl} {d : Dt} {r : Ds} : Frz 20 (a0 :: a1 :: a2 :: a3 :: a4 :: a5 :: a6 :: a7 :: a8 :: a9 :: a10 :: a11 :: a12 :: a13 :: a14 :: a15 :: a16 :: a17 :: a18 :: a19 :: .sh d :: r) = a0 :: a1 :: a2 :: a3 :: a4 :: a5 :: a6 :: a7 :: a8 :: a9 :: a10 :: a11 :: a12 :: a13 :: a14 :: a15 :: a16 :: a17 :: a18 :: a19 :: .sh d :: r := rfl
theorem fzo_21 {a0 a1 a2 a3 a4 a5 a6 a7 a8 a9 a10 a11 a12 a13 a14 a15 a16 a17 a18 a19 a20 : Sl} {l : List Dt} {r : Ds} : Frz 21 (a0 :: a1 :: a2 :: a3 :: a4 :: a5 :: a6 :: a7 :: a8 :: a9 :: a10 :: a11 :: a12 :: a13 :: a14 :: a15 :: a16 :: a17 :: a18 :: a19 :: a20 :: .ol l :: r) = a0 :: a1 :: a2 :: a3 :: a4 :: a5 :: a6 :: a7 :: a8 :: a9 :: a10 :: a11 :: a12 :: a13 :: a14 :: a15 :: a16 :: a17 :: a18 :: a19 :: a20 :: .sh (.lst l) :: r := rfl
theorem fzs_21 {a0 a1 a2 a3 a4 a5 a6 a7 a8 a9 a10 a11 a12 a13 a14 a15 a16 a17 a18 a19 a20 : Sl} {d : Dt} {r : Ds} : Frz 21 (a0 :: a1 :: a2 :: a3 :: a4 :: a5 :: a6 :: a7 :: a8 :: a9 :: a10 :: a11 :: a12 :: a13 :: a14 :: a15 :: a16 :: a17 :: a18 :: a19 :: a20 :: .sh d :: r) = a0 :: a1 :: a2 :: a3 :: a4 :: a5 :: a6 :: a7 :: a8 :: a9 :: a10 :: a11 :: a12 :: a13 :: a14 :: a15 :: a16 :: a17 :: a18 :: a19 :: a20 :: .sh d :: r := rfl
theorem fzo_22 {a0 a1 a2 a3 a4 a5 a6 a7 a8 a9 a10 a11 a12 a13 a14 a15 a16 a17 a18 a19 a20 a21 : Sl} {l : List Dt} {r : Ds} : Frz 22 (a0 :: a1 :: a2 :: a3 :: a4 :: a5 :: a6 :: a7 :: a8 :: a9 :: a10 :: a11 :: a12 :: a13 :: a14 :: a15 :: a16 :: a17 :: a18 :: a19 :: a20 :: a21 :: .ol l :: r) = a0 :: a1 :: a2 :: a3 :: a4 :: a5 :: a6 :: a7 :: a8 :: a9 :: a10 :: a11 :: a12 :: a13 :: a14 :: a15 :: a16 :: a17 :: a18 :: a19 :: a20 :: a21 :: .sh (.lst l) :: r := rfl
theorem fzs_22 {a0 a1 a2 a3 a4 a5 a6 a7 a8 a9 a10 a11 a12 a13 a14 a15 a16 a17 a18 a19 a20 a21 : Sl} {d : Dt} {r : Ds} : Frz 22 (a0 :: a1 :: a2 :: a3 :: a4 :: a5 :: a6 :: a7 :: a8 :: a9 :: a10 :: a11 :: a12 :: a13 :: a14 :: a15 :: a16 :: a17 :: a18 :: a19 :: a20 :: a21 :: .sh d :: r) = a0 :: a1 :: a2 :: a3 :: a4 :: a5 :: a6 :: a7 :: a8 :: a9 :: a10 :: a11 :: a12 :: a13 :: a14 :: a15 :: a16 :: a17 :: a18 :: a19 :: a20 :: a21 :: .sh d :: r := rfl
theorem fzo_23 {a0 a1 a2 a3 a4 a5 a6 a7 a8 a9 a10 a11 a12 a13 a14 a15 a16 a17 a18 a19 a20 a21 a22 : Sl} {l : List Dt} {r : Ds} : Frz 23 (a0 :: a1 :: a2 :: a3 :: a4 :: a5 :: a6 :: a7 :: a8 :: a9 :: a10 :: a11 :: a12 :: a13 :: a14 :: a15 :: a16 :: a17 :: a18 :: a19 :: a20 :: a21 :: a22 :: .ol l :: r) = a0 :: a1 :: a2 :: a3 :: a4 :: a5 :: a6 :: a7 :: a8 :: a9 :: a10 :: a11 :: a12 :: a13 :: a14 :: a15 :: a16 :: a17 :: a18 :: a19 :: a20 :: a21 :: a22 :: .sh (.lst l) :: r := rfl
theorem fzs_23 {a0 a1 a2 a3 a4 a5 a6 a7 a8 a9 a10 a11 a12 a13 a14 a15 a16 a17 a18 a19 a20 a21 a22 : Sl} {d : Dt} {r : Ds} : Frz 23 (a0 :: a1 :: a2 :: a3 :: a4 :: a5 :: a6 :: a7 :: a8 :: a9 :: a10 :: a11 :: a12 :: a13 :: a14 :: a15 :: a16 :: a17 :: a18 :: a19 :: a20 :: a21 :: a22 :: .sh d :: r) = a0 :: a1 :: a2 :: a3 :: a4 :: a5 :: a6 :: a7 :: a8 :: a9 :: a10 :: a11 :: a12 :: a13 :: a14 :: a15 :: a16 :: a17 :: a18 :: a19 :: a20 :: a21 :: a22 :: .sh d :: r := rfl
theorem fzo_24 {a0 a1 a2 a3 a4 a5 a6 a7 a8 a9 a10 a11 a12 a13 a14 a15 a16 a17 a18 a19 a20 a21 a22 a23 : Sl} {l : List Dt} {r : Ds} : Frz 24 (a0 :: a1 :: a2 :: a3 :: a4 :: a5 :: a6 :: a7 :: a8 :: a9 :: a10 :: a11 :: a12 :: a13 :: a14 :: a15 :: a16 :: a17 :: a18 :: a19 :: a20 :: a21 :: a22 :: a23 :: .ol l :: r) = a0 :: a1 :: a2 :: a3 :: a4 :: a5 :: a6 :: a7 :: a8 :: a9 :: a10 :: a11 :: a12 :: a13 :: a14 :: a15 :: a16 :: a17 :: a18 :: a19 :: a20 :: a21 :: a22 :: a23 :: .sh (.lst l) :: r := rfl
theorem fzs_24 {a0 a1 a2 a3 a4 a5 a6 a7 a8 a9 a10 a11 a12 a13 a14 a15 a16 a17 a18 a19 a20 a21 a22 a23 : Sl} {d : Dt} {r : Ds} : Frz 24 (a0 :: a1 :: a2 :: a3 :: a4 :: a5 :: a6 :: a7 :: a8 :: a9 :: a10 :: a11 :: a12 :: a13 :: a14 :: a15 :: a16 :: a17 :: a18 :: a19 :: a20 :: a21 :: a22 :: a23 :: .sh d :: r) = a0 :: a1 :: a2 :: a3 :: a4 :: a5 :: a6 :: a7 :: a8 :: a9 :: a10 :: a11 :: a12 :: a13 :: a14 :: a15 :: a16 :: a17 :: a18 :: a19 :: a20 :: a21 :: a22 :: a23 :: .sh d :: r := rfl
theorem fzo_25 {a0 a1 a2 a3 a4 a5 a6 a7 a8 a9 a10 a11 a12 a13 a14 a15 a16 a17 a18 a19 a20 a21 a22 a23 a24 : Sl} {l : List Dt} {r : Ds} : Frz 25 (a0 :: a1 :: a2 :: a3 :: a4 :: a5 :: a6 :: a7 :: a8 :: a9 :: a10 :: a11 :: a12 :: a13 :: a14 :: a15 :: a16 :: a17 :: a18 :: a19 :: a20 :: a21 :: a22 :: a23 :: a24 :: .ol l :: r) = a0 :: a1 :: a2 :: a3 :: a4 :: a5 :: a6 :: a7 :: a8 :: a9 :: a10 :: a11 :: a12 :: a13 :: a14 :: a15 :: a16 :: a17 :: a18 :: a19 :: a20 :: a21 :: a22 :: a23 :: a24 :: .sh (.lst l) :: r := rfl
theorem fzs_25 {a0 a1 a2 a3 a4 a5 a6 a7 a8 a9 a10 a11 a12 a13 a14 a15 a16 a17 a18 a19 a20 a21 a22 a23 a24 : Sl} {d : Dt} {r : Ds} : Frz 25 (a0 :: a1 :: a2 :: a3 :: a4 :: a5 :: a6 :: a7 :: a8 :: a9 :: a10 :: a11 :: a12 :: a13 :: a14 :: a15 :: a16 :: a17 :: a18 :: a19 :: a20 :: a21 :: a22 :: a23 :: a24 :: .sh d :: r) = a0 :: a1 :: a2 :: a3 :: a4 :: a5 :: a6 :: a7 :: a8 :: a9 :: a10 :: a11 :: a12 :: a13 :: a14 :: a15 :: a16 :: a17 :: a18 :: a19 :: a20 :: a21 :: a22 :: a23 :: a24 :: .sh d :: r := rfl
theorem at_0 {α : Type} (a0 : α) (l : List α) : atI (a0 :: l) 0 = some a0 := by
  unfold atI ixN
  rw [if_pos (by decide), if_pos (by simp only [List.length_cons]; omega)]
  rfl
theorem at_1 {α : Type} (a0 a1 : α) (l : List α) : atI (a0 :: a1 :: l) 1 = some a1 := by
  unfold atI ixN
  rw [if_pos (by decide), if_pos (by simp only [List.length_cons]; omega)]
  rfl
theorem at_2 {α : Type} (a0 a1 a2 : α) (l : List α) : atI (a0 :: a1 :: a2 :: l) 2 = some a2 := by
  unfold atI ixN
  rw [if_pos (by decide), if_pos (by simp only [List.length_cons]; omega)]
  rfl
theorem at_3 {α : Type} (a0 a1 a2 a3 : α) (l : List α) : atI (a0 :: a1 :: a2 :: a3 :: l) 3 = some a3 := by
  unfold atI ixN
  rw [if_pos (by decide), if_pos (by simp only [List.length_cons]; omega)]
  rfl
theorem at_4 {α : Type} (a0 a1 a2 a3 a4 : α) (l : List α) : atI (a0 :: a1 :: a2 :: a3 :: a4 :: l) 4 = some a4 := by
  unfold atI ixN
  rw [if_pos (by decide), if_pos (by simp only [List.length_cons]; omega)]
  rfl
theorem at_5 {α : Type} (a0 a1 a2 a3 a4 a5 : α) (l : List α) : atI (a0 :: a1 :: a2 :: a3 :: a4 :: a5 :: l) 5 = some a5 := by
  unfold atI ixN
  rw [if_pos (by decide), if_pos (by simp only [List.length_cons]; omega)]
  rfl
end Mx
namespace L2
open PySem PySem.Spec PyProof.Rows PySem.W
/-! ### a def that lets nothing out, called while an exception is handled (its context is not asked) -/
structure FnQ (P : Program) (w : World) (K : PySem.W.Frag) (mg : Str → Option Value) (base : Heap) (k : Nat) (f : Addr) (fd : FuncData) (ps : List Str) (sp : Sp) : Prop where
  len : ∀ vs H Q E, sp vs H Q E → vs.length = ps.length
  run : ∀ (A : Around) (outer : List Env) (s : Shared) (H : Hp) (args : Args) (us : List Value) (vs : List V) (Q : VK) (p : Addr × Obj), L2H.RoomH k A → L2H.PinOk outer H s p → Env0 P w K mg base A outer s H → BindsTo s fd args (ps.zip us) → Vals vs us →
    sp vs H Q E0 → codeAny (model P w) A (.call (.ref f) args) (CR (L2.CX P w) outer P w H s Q E0) s
section
variable {P : Program} {w : World} {K : PySem.W.Frag} {mg : Str → Option Value} {base : Heap}
theorem Fun.okQ {x qual : Str} {st : Stmt} {f : Addr} {fd : FuncData} {N ps : List Str} {k : Nat} {sp : Sp} (F : Fun K x qual st f fd) (S : FnScope N ps (defScope st)) (len : ∀ vs H Q E, sp vs H Q E → vs.length = ps.length)
    (hbody : ∀ (cdv : Value) (A : Around) (outer : List Env) (s : Shared) (H : Hp) (vs : List V) (Q : VK) (E : XK) (p : Addr × Obj), sp vs H Q E →
      ∃ t, PSs (L2H.cxH (L2.CX P w) P w K mg base N qual (defScope st) f cdv A outer s H E p) (defBody st) t ∧ t { nx := fun _ H' => Q .non H', rt := Q } (start N vs) H) : FnQ P w K mg base (k + 1) f fd ps sp := by
  obtain ⟨oc, od, kV, doc, pm, an, cdv, ct, osl, rfl, lk, hcd⟩ := F.ex
  refine ⟨len, fun A outer s H args us vs Q p room pin e0 binds rv hsp => ?_⟩
  have inK : K.In s.heap := e0.mod.kin.keeps fun b o e => (e0.bs b o e).1
  have noLim : s.heap.NoLimit := e0.mod.nolimit.keeps fun b o e => (e0.bs b o e).1
  refine codeAny_call_function room.depth (inK _ _ lk) rfl S.co S.gen rfl (PySem.W.codeRec_of inK hcd) (binds _ _ _ _ ?_)
  have kinds : ∀ y ∈ ps.zip us, (defScope st).names.lookup y.1 = some .local ∨ ((defScope st).names.lookup y.1 = some .cell ∧ ((cellsFrom (s.heap.objs.size + 1) (defScope st).names []).lookup y.1).isSome = true) := by
    rintro ⟨n, v⟩ hy
    exact (S.par n (List.of_mem_zip hy).1).imp id fun q => ⟨q, PySem.W.cellsFrom_some _ _ _ (.inl q)⟩
  refine wpAny_newFunctionEnv_cells S.kind kinds fun env he s1 x => ?_
  subst he
  refine ⟨noLim.keeps x.toInCall.keep, codeAny_func ?_⟩
  obtain ⟨t, walk, goal⟩ := hbody cdv A outer s H vs Q E0 p hsp
  have I := L2H.inv_startH (CX := L2.CX P w) (E := E0) (A := A) S pin e0 (len _ _ _ _ hsp) rv x
  have back : ∀ {σ' : St} {H' : Hp} {v : V} {u : Value} {s' : Shared}, Inv (L2H.cxH (L2.CX P w) P w K mg base N qual (defScope st) f cdv A outer s H E0 p) [] σ' H' s' → RelV v u → Q v H' → CE outer P w H s Q u s' :=
    fun J r q => ⟨_, _, J.os, J.bare, J.base, J.hok, r, q⟩
  refine wpAny_mono (walk.run [] s1 (start N vs) H _ I goal) (fun fl s' hs => ?_) fun _ _ h => h
  cases fl with
  | next => obtain ⟨_, _, J, q⟩ := hs; exact back (v := V.non) (u := Value.none) J rfl q
  | ret u => obtain ⟨_, _, _, J, r, q⟩ := hs; exact back J r q
  | brk => obtain ⟨_, _, _, q⟩ := hs; exact q.elim
  | cont => obtain ⟨_, _, _, q⟩ := hs; exact q.elim
variable {X : Cx} {k : Nat} {f : Addr} {fd : FuncData} {ps : List Str} {sp : Sp} {x : Str} {q pos : Pos} {e : Expr} {es : List Expr} {t : TA}
theorem roomH_mark {k : Nat} {A : Around} {v : Option Value} (r : Room k A) : L2H.RoomH k (A.mark v) := ⟨r.dp, r.un⟩
theorem pe_callQ (F : FnQ X.prog X.w X.K X.mg X.base k f fd ps sp) (hr : L2H.RoomH k X.A) (hp : ∃ p, p ∈ X.pn) (hg : Gl X x) (hm : X.mg x = some (.ref f)) (hk : PySem.W.keepIn X.K (.ref f) = true) (hb : Binds X.K fd ps [])
    (ha : PA X (e :: es) t) (hdb : (x == ("__debug__" : Str)) = false := by decide) (he : starEach (e :: es) X.env = (false, eval e X.env) :: starEach es X.env := by rfl) (hpl : (backTo pos (starEach es X.env)).any (·.1) = false := by rfl) :
    PE X (.Call (.Name x q) (e :: es) [] pos) (tCallSD sp [] (fun _ => E0) t) := by
  refine ⟨fun pins s σ H Q I h => wpAny_Call_Name_kw (ld_glob I hg hm ?_ hdb)⟩
  refine PySem.W.callWith_K (h₀ := X.base) I.ok.mod.kin hk (thn (ha.run pos pins s σ H _ I h) fun us s1 ⟨vs, H1, I1, r, q1⟩ => ⟨I1.kIn, ?_⟩) he hpl
  have q1 : sp (vs ++ []) H1 Q E0 := q1
  rw [List.append_nil] at q1
  obtain ⟨p, hp⟩ := hp
  have P1 := I1.pin p (List.mem_append_left _ hp)
  have pin : L2H.PinOk X.stack H1 s1 p := ⟨P1.1, P1.2.1, fun hm => (List.mem_cons.mp (I1.stkSub p.1 hm)).elim P1.2.2.1 P1.2.2.2.1, P1.2.2.2.2⟩
  have b := hb s1 us I1.kIn (by rw [List.append_nil, ← r.length]; exact F.len _ _ _ _ q1)
  rw [List.append_nil] at b
  refine wpAny_call (codeAny_mono (F.run X.A X.stack s1 H1 ⟨us, []⟩ us vs Q p hr pin I1.env0 b r q1) fun res s' hq => ?_)
  cases res with
  | ok fl =>
    cases fl with
    | ret u => exact I1.after hq
    | next => exact hq.elim
    | brk => exact hq.elim
    | cont => exact hq.elim
  | error er =>
    obtain ⟨_, _, _, _, _, _, _, _, _, _, _, _, z⟩ := hq
    exact False.elim z
end
end L2
namespace L2
open PySem PySem.Spec PyProof.Rows PySem.W
section
variable {prog : Program} {w : World} {A : Around} {E : Value → Shared → Prop} {s : Shared}
/-- l[lo:hi] = b for any ends whose bounds are a, c -/
theorem setItem_sliceG {l b sl : Addr} {items new : Array Value} {n n2 : Nat} {vl vu : Value} {lo hi : Option Int} {a c : Nat} {Q : Unit → Shared → Prop}
    (e : s.heap.get? l = some { cls := .type "list", data := .seq items n }) (e2 : s.heap.get? b = some { cls := .type "list", data := .seq new n2 }) (hne : l ≠ b)
    (hs : s.heap.IsSliceOf sl vl vu .none) (pl : IsPart vl lo) (pu : IsPart vu hi) (hb2 : sliceBounds lo hi none items.size = ((a : Int), (c : Int), 1)) (hac : a ≤ c) (hc : c ≤ items.size)
    (hsz : items.size + new.size ≤ sizeLine) (h : Q () { s with heap := s.heap.update l (Obj.mapSeq fun xs => xs.extract 0 a ++ new ++ xs.extract c xs.size) }) :
    wpAny (model prog w) A (setItem (.ref l) (.ref sl) (.ref b)) Q E s := by
  have tl : s.heap.IsList l items := PySem.IsL.isList e
  have tb : s.heap.IsList b new := PySem.IsL.isList e2
  obtain ⟨os, hos, hcs, hds⟩ := id hs
  have ts : s.TypeIs (.ref sl) "slice" := ⟨os, hos, hcs⟩
  have nostep : ¬ ((rawPart none == rawInt 0) = true) := Bool.false_ne_true
  have other : Builtin.List.listSameRef (.ref l) (.ref b) = false := by
    unfold Builtin.List.listSameRef
    exact beq_eq_false_iff_ne.mpr hne
  have mx : (max (a : Int) (c : Int)).toNat = c := by omega
  have fits : ((fun xs : Array Value => xs.extract 0 a ++ new ++ xs.extract c xs.size) items).size ≤ sizeLine + 1 := by
    simp only [Array.size_append, Array.size_extract]
    omega
  unfold setItem
  try with_reducible refine wpAny_holding ?_
  first | refine wpAny_bind (wpAny_pure ?_) | skip
  refine wpAny_bind (wpAny_sequenceKey tl.typeIs (by decide) ?_)
  refine wpAny_bind (wpAny_callSpecial?_slot (name := Str.ofString "__setitem__") tl.typeIs slot_list_setitem
    (wpAny_call_entry slot_list_setitem tl.typeIs entry_list_setitem ?_ (args_list_setitem _ _ _)))
  show wpAny _ _ (Builtin.List.listSubscript? (.ref sl) >>= _) _ _ s
  refine wpAny_bind ?_
  unfold Builtin.List.listSubscript?
  refine wpAny_bind (wpAny_specialOf ts slice_no_index ?_)
  simp only [Option.isNone_none, if_true]
  refine wpAny_pure ?_
  show wpAny _ _ (typeOf (.ref sl) >>= _) _ _ s
  refine wpAny_bind (wpAny_typeOf ts ?_)
  first
    | rw [if_neg (by decide)]
    | refine PySem.W.KFB.if_not (by decide) ?_
  rw [listSliceParts_eq]
  refine wpAny_bind (wpAny_bind (wpAny_field hos hds (x := .none) rfl (wpAny_bind (wpAny_listPart .none ?_))))
  rw [if_neg nostep]
  refine wpAny_bind (wpAny_field hos hds (x := vl) rfl (wpAny_bind (wpAny_listPart pl ?_)))
  refine wpAny_bind (wpAny_field hos hds (x := vu) rfl (wpAny_bind (wpAny_listPart pu (wpAny_pure ?_))))
  first
    | simp only [other, Bool.false_eq_true, if_false]
    | refine PySem.W.KFB.if_not other ?_
    | (dsimp only
       rw [if_neg (by rw [other]; exact Bool.false_ne_true)])
  refine wpAny_bind (m := Builtin.List.listAllItems (.ref b) "must assign iterable to extended slice") ?_
  unfold Builtin.List.listAllItems
  refine wpAny_bind (wpAny_typeOf tb.typeIs ?_)
  first
    | refine PySem.W.KFB.if_so (by decide) ?_
    | rw [if_pos (by decide)]
    | simp only [beq_self_eq_true, Bool.true_or, if_true]
  unfold Builtin.List.listItems
  refine wpAny_bind (wpAny_seqItems e2 rfl (wpAny_pure ?_))
  refine wpAny_bind (wpAny_bind (wpAny_seqItems e rfl (wpAny_pure ?_)))
  refine wpAny_bind (wpAny_of_eq ((sliceIndices_raw lo hi none items.size (by simp)).trans (congrArg (pure : Int × Int × Int → Sem (Int × Int × Int)) hb2)) ?_)
  show wpAny _ _ (if ((1 : Int) == 1) = true then _ else _) _ _ s
  rw [if_pos (by decide)]
  refine wpAny_bind (wpAny_rule ?_)
  first
    | simp only [notLongL hsz, Bool.false_eq_true, if_false]
    | refine PySem.W.KFB.if_not (notLongL hsz) ?_
  first | refine wpAny_bind (wpAny_pure ?_) | skip
  show wpAny _ _ (updateSeq l (fun xs => xs.extract 0 ((a : Int)).toNat ++ new ++ xs.extract (max (a : Int) (c : Int)).toNat xs.size) >>= _) _ _ s
  rw [mx, Int.toNat_natCast]
  refine wpAny_bind (wpAny_updateSeq (hz := Nat.le_trans (Nat.le_add_right _ _) hsz) (_hz' := fits) e rfl ?_)
  refine wpAny_bind (wpAny_letGo ?_)
  first
    | exact wpAny_bind (wpAny_pure (wpAny_pure ⟨.none, rfl, wpAny_pure h⟩))
    | exact wpAny_pure ⟨.none, rfl, wpAny_pure h⟩
end
theorem bounds_to {k : Int} (h : 0 ≤ k) (n : Nat) : sliceBounds none (some k) none n = (((0 : Nat) : Int), ((min k.toNat n : Nat) : Int), 1) := by
  have h2 : ¬ (k < 0) := by omega
  simp only [sliceBounds, Option.getD_none, h2, if_false, show (1 : Int) > 0 by decide, if_true]
  congr 1
  congr 1
  omega
theorem drop_min {α : Type} (l : List α) (k n : Nat) (h : l.length ≤ n) : l.drop (min k n) = l.drop k := by
  by_cases c : k ≤ n
  · rw [Nat.min_eq_left c]
  · rw [Nat.min_eq_right (by omega), List.drop_of_length_le h, List.drop_of_length_le (by omega)]
section
variable {X : Cx} {o hi : Expr} {p2 pos : Pos} {to th : TE}
/-- o[:k] = v, another list -/
def gSlT (to th : TE) : TG := fun v σ H R => to σ H fun x H1 => th σ H1 fun y H2 => ∃ (p b : Addr) (xs ys : List V) (k : Int), x = .ref p ∧ v = .ref b ∧ y = .int k ∧ 0 ≤ k ∧ H2 p = some (.lst xs) ∧ H2 b = some (.lst ys) ∧ p ≠ b ∧ xs.length + ys.length ≤ sizeLine ∧
  R σ (upd H2 p (.lst (ys ++ xs.drop k.toNat)))
theorem pg_slT (ho : PE X o to) (hh : PE X hi th)
    (ha : ∀ v, assign (.Subscript o (.Slice none (some hi) none p2) pos) X.env v = (do
      let ov ← holding [v] (eval o X.env)
      let iv ← holding [v, ov] (eval (.Slice none (some hi) none p2) X.env)
      standAt pos
      holding [v, ov, iv] (setItem ov iv v)
      release [iv, v, ov] []) := by intro _; rfl) : PG X (.Subscript o (.Slice none (some hi) none p2) pos) (gSlT to th) := by
  refine ⟨fun pins s σ H v u Q I r h => ?_⟩
  rw [ha]
  refine wpAny_bind (wpAny_holding (thn (ho.run pins s σ H _ I h) fun ov s1 ⟨x, H1, I1, r1, q1⟩ => ?_))
  refine wpAny_bind (wpAny_holding (wpAny_Slice ?_))
  rw [evalPart_none]
  refine wpAny_pure ?_
  rw [evalPart_some]
  refine thn (hh.run pins s1 σ H1 _ I1 q1) fun vu s2 ⟨y, H2, I2, r2, q2⟩ => ?_
  refine wpAny_pure ?_
  obtain ⟨p, b, xs, ys, k, rfl, rfl, rfl, k0, hp, hb, ne, hz, q⟩ := q2
  obtain ⟨t, rfl⟩ := r2
  have I3 : Inv X pins σ H2 { s2 with heap := s2.heap.push { cls := .type "slice", data := .fields #[.none, .int k t, .none] } } := I2.kept (t' := s2.toks) fun b ob q => Heap.get?_push_of_some _ q
  refine wpAny_bind (wpAny_standAt (wpAny_bind (wpAny_holding ?_)))
  obtain rfl : ov = Value.ref p := r1
  obtain rfl : u = Value.ref b := r
  obtain ⟨z, its, n, ri, hl, e⟩ := I3.lstM hp
  obtain ⟨z2, its2, n2, rj, hl2, e2⟩ := I3.lstM hb
  refine setItem_sliceG (a := 0) (c := min k.toNat its.toArray.size) e e2 ne (Heap.IsSliceOf.new ..) .none (.int _ _) (bounds_to k0 _) (Nat.zero_le _) (Nat.min_le_right _ _) (by rw [List.size_toArray, List.size_toArray]; omega) ?_
  have ed : its.drop (min k.toNat its.toArray.size) = its.drop k.toNat := drop_min _ _ _ (by rw [List.size_toArray]; exact Nat.le_refl _)
  refine wpAny_release ⟨σ, _, I3.lset (its' := its.take 0 ++ its2 ++ its.drop (min k.toNat its.toArray.size)) (t' := s2.toks) hp e (splice_eq its its2 0 _) (ys := ys ++ xs.drop k.toNat) ?_ ?_, q⟩
  · rw [ed]
    exact Vals.append (by simpa using rj) (ri.drop _)
  · rw [List.length_append, List.length_drop]; omega
end
end L2
namespace Mx
open PySem PySem.Spec PyProof.Rows L2
/-- xs[:k] = e -/
def slO (D : Ds) (i : Nat) (l : List Dt) (d : Dt) : Dt → Out
  | .int k => match d with
    | .lst y => if 0 ≤ k ∧ l.length + y.length ≤ 1000000 then .nx (D.set i (.ol (y ++ l.drop k.toNat))) else .bad
    | _ => .bad
  | _ => .bad
@[simp] theorem slO_int (D : Ds) (i : Nat) (l y : List Dt) (k : Int) : slO D i l (.lst y) (.int k) = if 0 ≤ k ∧ l.length + y.length ≤ 1000000 then .nx (D.set i (.ol (y ++ l.drop k.toNat))) else .bad := rfl
@[simp] def xsSlT (i : Nat) (xk xe : XE) : XS := fun D => (xe D).out D fun d => (Sl.lst? D[i]?).out D fun l => (xk D).out D fun k => slO D i l d k
section
variable {K : Fr} {cl : Cl} {E : L2.St → XK}
theorem ss_slT {i : Nat} {tk te : TE} {xk xe : XE} (hk : Sim K cl E tk xk) (h : Sim K cl E te xe) : SimS K cl E (tAsg te (gSlT (tVar i) tk)) (xsSlT i xk xe) := fun B H0 O σ D H s En q => by
  unfold xsSlT at q
  refine h B H0 O σ D H s _ ?_
  cases e : xe D with
  | bad => rw [e] at q; exact q.elim
  | ex c fs => rw [e] at q; exact q O σ H s (Same.refl _)
  | ok d =>
    rw [e] at q
    simp only [out_ok] at q
    intro v H1 e1 rv
    cases el : Sl.lst? D[i]? with
    | bad => rw [el] at q; exact q.elim
    | ex c fs => exact (lst?_ex el).elim
    | ok l =>
      rw [el] at q
      simp only [out_ok] at q
      have hi := lst?_eq el
      obtain ⟨a, ea, ma, vs, ha, ra⟩ := own_at (s.mono e1) hi rfl
      refine ⟨.ref a, ea, ?_⟩
      refine hk B H0 O σ D H1 (s.mono e1) _ ?_
      cases ek : xk D with
      | bad => rw [ek] at q; exact q.elim
      | ex c fs => rw [ek] at q; exact q O σ H1 (s.mono e1) (hid_mono e1)
      | ok k =>
        rw [ek] at q
        simp only [out_ok] at q
        intro w H2 e2 rw'
        cases k with
        | int k =>
          cases rw'
          cases d with
          | lst y =>
            rw [slO_int] at q
            split at q
            · rename_i hz
              cases rv with
              | lst hb rb =>
                rename_i b ws
                have nb : b ∉ O := fun m => by
                  unfold hid at hb
                  rw [if_pos m] at hb
                  cases hb
                have hb1 : H1 b = some (.lst ws) := by rw [hid_nin nb] at hb; exact hb
                have ne : a ≠ b := fun z => nb (z ▸ ma)
                have rb' := rb.mono (hid_mono (O := O) e2)
                have ra' := ra.mono (hid_mono (O := O) e2)
                refine ⟨a, b, vs, ws, k, rfl, rfl, rfl, hz.1, e2 _ _ ha, e2 _ _ hb1, ne, ?_, ?_⟩
                · rw [ra.len, rb.len]
                  have := hz.2
                  rw [sizeLine_eq]; omega
                · refine q O σ _ ((s.mono (e1.trans e2)).mut hi rfl ea ⟨_, upd_same, rb'.app (ra'.drop _)⟩) ?_
                  rw [hid_upd ma]
                  exact hid_mono (e1.trans e2)
            · exact q.elim
          | _ => exact q.elim
        | _ => exact q.elim
end
end Mx
namespace Mx
open PySem PySem.Spec PyProof.Rows L2
section
variable {K : Fr} {cl : Cl} {H H' H1 H0 : Hp} {O : List Addr}
/-! ### texts taken apart -/
def rPart : V → List V → Hp → VK → Prop := fun x xs H Q => ∃ a b, x = .str a ∧ xs = [.str b] ∧ (b.length == 0) = false ∧ a.length ≤ sizeLine ∧ ∀ p, H p = none → Q (.ref p) (upd H p (.tup [.str (Txt.partition a b).1, .str (Txt.partition a b).2.1, .str (Txt.partition a b).2.2]))
theorem mt_partA {X : Cx} : MtR X "str.partition" rPart := mt_partition
def dPtn : Dt → List Dt → R Dt
  | .str a, [.str b] => if (b.length == 0) = false ∧ a.length ≤ 1000000 then .ok (.tup [.str (Txt.partition a b).1, .str (Txt.partition a b).2.1, .str (Txt.partition a b).2.2]) else .bad
  | _, _ => .bad
@[simp] theorem dPtn_str (a b : Str) : dPtn (.str a) [.str b] = if (b.length == 0) = false ∧ a.length ≤ 1000000 then .ok (.tup [.str (Txt.partition a b).1, .str (Txt.partition a b).2.1, .str (Txt.partition a b).2.2]) else .bad := rfl
theorem ms_part : ∀ O H x xs a ds E, Trk O H → RepB K cl O H x a → RepBL K cl O H xs ds → ∀ Q : VK, PostE K cl E O H Q (dPtn a ds) → rPart x xs H Q := fun O H x xs a ds E ho rx r Q q => by
  unfold dPtn at q
  split at q
  · rename_i z b
    obtain ⟨v, rfl, h⟩ := r.one
    cases rx.str_
    cases h.str_
    split at q
    · rename_i hz
      exact ⟨_, _, rfl, rfl, hz.1, by rw [sizeLine_eq]; omega, new_tup ho q (.cons (.str _) (.cons (.str _) (.cons (.str _) .nil)))⟩
    · exact q.elim
  · exact q.elim
def rStw : V → List V → Hp → VK → Prop := fun x xs H Q => ∃ a b, x = .str a ∧ xs = [.str b] ∧ Q (.bl (Txt.startswith a b)) H
theorem mt_stwA {X : Cx} : MtR X "str.startswith" rStw := mt_startswith
def dStw : Dt → List Dt → R Dt
  | .str a, [.str b] => .ok (.bl (Txt.startswith a b))
  | _, _ => .bad
@[simp] theorem dStw_str (a b : Str) : dStw (.str a) [.str b] = .ok (.bl (Txt.startswith a b)) := rfl
theorem ms_stw : ∀ O H x xs a ds E, Trk O H → RepB K cl O H x a → RepBL K cl O H xs ds → ∀ Q : VK, PostE K cl E O H Q (dStw a ds) → rStw x xs H Q := fun O H x xs a ds E ho rx r Q q => by
  unfold dStw at q
  split at q
  · obtain ⟨v, rfl, h⟩ := r.one
    cases rx.str_
    cases h.str_
    exact ⟨_, _, rfl, rfl, ok_ret q (.bl _)⟩
  · exact q.elim
/-- a method of a text that gives a fresh list -/
@[simp] def xBMgL (g : Dt → Bool) (f : Dt → List Dt → R (List Dt)) (xo : XE) (xa : XA) : XA := fun D => (xo D).bind fun o => if g o = true then (xa D).bind fun a => f o a else .bad
theorem simL_bm {E : L2.St → XK} {T : String} {r : V → List V → Hp → VK → Prop} {f : Dt → List Dt → R (List Dt)} {g : Dt → Bool} {to : TE} {t : TA} {xo : XE} {xa : XA} (ht : TyS K cl T g)
    (hr : ∀ O H x xs a ds E, Trk O H → RepB K cl O H x a → RepBL K cl O H xs ds → ∀ Q : VK, PostL K cl E O H Q (f a ds) → r x xs H Q) (ho : SimB K cl E to xo) (ha : SimBA K cl E t xa) :
    SimL K cl E (tBM K T r to t) (xBMgL g f xo xa) := fun B H0 O σ D H s Q q => by
  refine ho B H0 O σ D H s _ ?_
  cases ea : xo D with
  | bad => simp only [xBMgL, ea] at q; exact q.elim
  | ex c fs => simp only [xBMgL, ea] at q; exact q
  | ok o =>
    simp only [xBMgL, ea, R.bind] at q
    intro x H1 e1 rx
    split at q
    · rename_i hg
      refine ⟨ht O H1 x o rx hg, ?_⟩
      refine ha B H0 O σ D H1 (s.mono e1) _ ?_
      cases eb : xa D with
      | bad => simp only [eb] at q; exact q.elim
      | ex c fs => simp only [eb] at q; exact ExOk.mono e1 q
      | ok ds =>
        simp only [eb] at q
        intro vs H2 e2 rv
        exact hr O H2 x vs o ds (E σ) (fun a m => (((s.mono e1).mono e2).own a m).2) (rx.mono e2) rv Q (post_L (e1.trans e2) q)
    · exact q.elim
def rSplit : V → List V → Hp → VK → Prop := fun x xs H Q => ∃ a b, x = .str a ∧ xs = [.str b] ∧ (b.length == 0) = false ∧ a.length + 2 ≤ sizeLine ∧ rNewStrs (Txt.split a b) H Q
theorem mt_splitA {X : Cx} : MtR X "str.split" rSplit := mt_split
def dSplit : Dt → List Dt → R (List Dt)
  | .str a, [.str b] => if (b.length == 0) = false ∧ a.length ≤ 1000000 then .ok ((Txt.split a b).map Dt.str) else .bad
  | _, _ => .bad
@[simp] theorem dSplit_str (a b : Str) : dSplit (.str a) [.str b] = if (b.length == 0) = false ∧ a.length ≤ 1000000 then .ok ((Txt.split a b).map Dt.str) else .bad := rfl
theorem ms_split : ∀ O H x xs a ds E, Trk O H → RepB K cl O H x a → RepBL K cl O H xs ds → ∀ Q : VK, PostL K cl E O H Q (dSplit a ds) → rSplit x xs H Q := fun O H x xs a ds E ho rx r Q q => by
  unfold dSplit at q
  split at q
  · obtain ⟨v, rfl, h⟩ := r.one
    cases rx.str_
    cases h.str_
    split at q
    · rename_i hz
      exact ⟨_, _, rfl, rfl, hz.1, by rw [sizeLine_eq]; omega, new_post q (RepL.ofStrs _)⟩
    · exact q.elim
  · exact q.elim
/-- int of a text -/
def rIntS : List V → Hp → VK → Prop := fun xs H Q => ∃ a n, xs = [.str a] ∧ PySem.intText? a = some n ∧ a.length ≤ 640 ∧ Q (.int n) H
theorem call_intS {X : Cx} : CallR X (.type "int") rIntS := call_int_str
def dIntS : List Dt → R Dt
  | [.str a] => (opt (PySem.intText? a)).bind fun n => if a.length ≤ 640 then .ok (.int n) else .bad
  | _ => .bad
@[simp] theorem dIntS_str (a : Str) : dIntS [.str a] = (opt (PySem.intText? a)).bind fun n => if a.length ≤ 640 then .ok (.int n) else .bad := rfl
theorem cs_intS : CaS K cl rIntS dIntS := fun O H xs ds E ho r Q q => by
  unfold dIntS at q
  split at q
  · obtain ⟨v, rfl, h⟩ := r.one
    cases h.str_
    rename_i a
    cases e : PySem.intText? a with
    | none => rw [e] at q; exact q.elim
    | some n =>
      rw [e] at q
      simp only [opt_some, R.bind] at q
      split at q
      · rename_i hz
        exact ⟨_, _, rfl, e, hz, ok_ret q (.int _)⟩
      · exact q.elim
  · exact q.elim
end
end Mx
namespace Mx
open PySem PySem.Spec PyProof.Rows L2
section
variable {K : Fr} {cl : Cl} {E : L2.St → XK} {E0 : XK} {H H' H1 H0 : Hp} {O O' : List Addr} {σ : L2.St} {D : Ds} {B : List Addr}
/-! ### try: .. except C: .. -/
def Out.noEx : Out → Out
  | .ex _ _ _ => .bad
  | o => o
@[simp] theorem noEx_rt (d : Dt) : Out.noEx (.rt d) = .rt d := rfl
@[simp] theorem noEx_nx (D : Ds) : Out.noEx (.nx D) = .nx D := rfl
@[simp] theorem noEx_bk (D : Ds) : Out.noEx (.bk D) = .bk D := rfl
@[simp] theorem noEx_ct (D : Ds) : Out.noEx (.ct D) = .ct D := rfl
def Out.tryO (cs ns : List Str) (xh : XS) : Out → Out
  | .ex c fs D => if c ∈ cs then Out.noEx (xh D) else if c ∈ ns then .ex c fs D else .bad
  | o => o
@[simp] theorem tryO_ex (cs ns : List Str) (xh : XS) (c : Str) (fs : List (Str × Dt)) (D : Ds) :
    Out.tryO cs ns xh (.ex c fs D) = if c ∈ cs then Out.noEx (xh D) else if c ∈ ns then .ex c fs D else .bad := rfl
@[simp] theorem tryO_rt (cs ns : List Str) (xh : XS) (d : Dt) : Out.tryO cs ns xh (.rt d) = .rt d := rfl
@[simp] theorem tryO_nx (cs ns : List Str) (xh : XS) (D : Ds) : Out.tryO cs ns xh (.nx D) = .nx D := rfl
@[simp] def xsTryO (cs ns : List Str) (xb xh : XS) : XS := fun D => (xb D).tryO cs ns xh
def tTryO (K : Fr) (c0 : Value) (tb : WX → TS) (ts : Addr → Value → Option Addr → TS) (Wout : WX) : TS := fun En σ H => tb (wOnly K c0 ts Wout En) En σ H
theorem ps_tryOM {X : Cx} {x : Str} {c : Value} {body suite : List Stmt} {b0 : Stmt} {np pos pos' : Pos} {tb : WX → TS} {ts : Addr → Value → Option Addr → TS} {Wout : WX} (hs : X.stack = X.env :: X.outer) (hf : X.env.frame = some X.env.locals)
    (hc : Names X x c) (tk : L2.Takes X Wout)
    (hb : ∀ (W : WX) (pn : List (Addr × Obj)) (xe : Value → Shared → Prop), L2.Takes (X.tr pn xe) W → PassesOwn (model X.prog X.w) X.A X.env xe → PSs (X.tr pn xe) body (tb W))
    (hsu : ∀ (a : Addr) (oe : Obj) (cls : Value) (d : Option Addr) (pn : List (Addr × Obj)), Zc cls d oe → (∃ vs, oe.data = .fields vs) → PSs (X.suite a ((a, oe) :: pn)) (b0 :: suite) (ts a cls d)) :
    PS X (.Try body [.ExceptHandler (some (.Name x np)) none (b0 :: suite) pos'] [] [] pos) (tTryO X.K c tb ts Wout) := ps_try_only hs hf hc tk hb hsu
theorem ss_tryO {cs ns : List Str} {c0 : Value} {tb : WX → TS} {ts : Addr → Value → Option Addr → TS} {xb xh : XS} {E1 : L2.St → XK} (hcs : Catch K cl c0 true cs) (hns : Catch K cl c0 false ns)
    (hb : ∀ W : WX, SimS K cl (WE W) (tb W) xb) (hs : ∀ (a C : Addr) (d : Option Addr), SimS K cl E1 (ts a (.ref C) d) xh) :
    SimS K cl (fun _ => E0) (tTryO K c0 tb ts (fun cls d _ H => E0 cls d H)) (xsTryO cs ns xb xh) := fun B H0 O σ D H s En q => by
  unfold xsTryO at q
  unfold tTryO
  refine hb _ B H0 O σ D H s En ?_
  cases e : xb D with
  | bad => rw [e] at q; exact q.elim
  | nx D => rw [e] at q; exact q
  | bk D => rw [e] at q; exact q
  | ct D => rw [e] at q; exact q
  | rt d => rw [e] at q; exact q
  | ex c fs D1 =>
    rw [e] at q
    rw [tryO_ex] at q
    intro O2 σ2 H2 s2 f2
    have key : ∀ (b : Bool), (∀ C, cl c = some C → PySem.W.exmOne K (.ref C) c0 = some b) → (∀ (H3 : Hp) (C : Addr) (d : Option Addr), b = true → Same H2 H3 → ∀ a, ts a (.ref C) d En σ2 H3) →
        (b = false → ExOk K cl E0 O2 c fs H2) → ExOk K cl (WE (wOnly K c0 ts (fun cls d _ H => E0 cls d H) En) σ2) O2 c fs H2 := fun b hb1 hyes hno C hC =>
      ⟨fun z H3 e3 => ⟨b, hb1 C hC, fun hb a na => hyes H3 C none hb e3 a, fun hb => ((hno hb) C hC).1 z H3 e3⟩, fun H3 dd fv e3 hd hk r => ⟨b, hb1 C hC, fun hb a na => hyes H3 C (some dd) hb e3 a, fun hb => ((hno hb) C hC).2 H3 dd fv e3 hd hk r⟩⟩
    split at q
    · rename_i hm
      refine key true (fun C hC => hcs.get hm hC) (fun H3 C d _ e3 a => ?_) (fun z => by cases z)
      refine hs a C d B H0 O2 _ _ H3 (s2.mono e3) _ ?_
      have f3 : Same (hid O H) (hid O2 H3) := f2.trans (hid_mono e3)
      cases eh : xh D1 with
      | bad => rw [eh] at q; exact q.elim
      | ex c' fs' D2 => rw [eh] at q; exact q.elim
      | rt d2 => rw [eh] at q; exact q
      | nx D2 => rw [eh] at q; exact fun O4 σ4 H4 s4 f4 => q O4 σ4 H4 s4 (f3.trans f4)
      | bk D2 => rw [eh] at q; exact fun O4 σ4 H4 s4 f4 => q O4 σ4 H4 s4 (f3.trans f4)
      | ct D2 => rw [eh] at q; exact fun O4 σ4 H4 s4 f4 => q O4 σ4 H4 s4 (f3.trans f4)
    · split at q
      · rename_i hm
        exact key false (fun C hC => hns.get hm hC) (fun _ _ _ z => by cases z) (fun _ => q O2 σ2 H2 s2 f2)
      · exact q.elim
end
end Mx
namespace Mx
open PySem PySem.Spec PyProof.Rows L2
section
variable {K : Fr} {cl : Cl} {H H' H1 H0 Hh : Hp} {O O' B : List Addr} {E : L2.St → XK} {E0 : XK} {σ : L2.St} {D : Ds}
/-! ### a def that returns a new tree -/
inductive OutT where
  | bad | rt (t : Ow) | ex (c : Str) (fs : List (Str × Dt)) (D : Ds)
abbrev XRT := Ds → OutT
def PostTr (K : Fr) (cl : Cl) (B : List Addr) (H0 : Hp) (E : L2.St → XK) (En : Ends) (O : List Addr) (H : Hp) : OutT → Prop
  | .bad => False
  | .rt t => ∀ v F H', Same H0 H' → F.Nodup → (∀ a, a ∈ F → H0 a = none) → Tr K cl H' (hid (F ++ B) H') v t F → En.rt v H'
  | .ex c fs D => ∀ O' σ' H', RS K cl B H0 O' σ' D H' → Same (hid O H) (hid O' H') → ExOk K cl (E σ') O' c fs H'
def SimRT (K : Fr) (cl : Cl) (E : L2.St → XK) (ts : TS) (xr : XRT) : Prop := ∀ B H0 O σ D H, RS K cl B H0 O σ D H → ∀ En, PostTr K cl B H0 E En O H (xr D) → ts En σ H
def Out.seqT (o : Out) (ys : XRT) : OutT := match o with
  | .nx D => ys D
  | .ex c fs D => .ex c fs D
  | _ => .bad
@[simp] theorem seqT_nx (D : Ds) (ys : XRT) : Out.seqT (.nx D) ys = ys D := rfl
@[simp] theorem seqT_ex (c : Str) (fs : List (Str × Dt)) (D : Ds) (ys : XRT) : Out.seqT (.ex c fs D) ys = .ex c fs D := rfl
@[simp] def xtSeq (xs : XS) (ys : XRT) : XRT := fun D => (xs D).seqT ys
theorem PostTr.fw {En : Ends} (e : Same (hid O H) (hid O' H')) {o : OutT} (q : PostTr K cl B H0 E En O H o) : PostTr K cl B H0 E En O' H' o := by
  cases o with
  | bad => exact q
  | rt l => exact q
  | ex c fs D => exact fun O2 σ2 H2 r f => q O2 σ2 H2 r (e.trans f)
theorem srt_seq {t u : TS} {xs : XS} {ys : XRT} (h1 : SimS K cl E t xs) (h2 : SimRT K cl E u ys) : SimRT K cl E (tSeq t u) (xtSeq xs ys) := fun B H0 O σ D H s En q => by
  refine h1 B H0 O σ D H s _ ?_
  unfold xtSeq at q
  cases e : xs D with
  | nx D1 =>
    rw [e] at q
    exact fun O' σ' H' r f => h2 B H0 O' σ' D1 H' r En (PostTr.fw f q)
  | ex c fs D1 => rw [e] at q; exact q
  | _ => rw [e] at q; exact q.elim
/-- return [a, b, l] -/
def xtDisp (xa xb : XE) (i : Nat) : XRT := fun D => match xa D, xb D, D[i]? with
  | .ok a, .ok b, some (.ol l) => .rt (.ol [.sh a, .sh b, .ol (l.map Ow.sh)])
  | _, _, _ => .bad
theorem xtDisp_ok {xa xb : XE} {i : Nat} {D : Ds} {a b : Dt} {l : List Dt} (ha : xa D = .ok a) (hb : xb D = .ok b) (hi : D[i]? = some (.ol l)) : xtDisp xa xb i D = .rt (.ol [.sh a, .sh b, .ol (l.map Ow.sh)]) := by
  unfold xtDisp; rw [ha, hb, hi]
theorem srt_disp {ta tb : TE} {xa xb : XE} {i : Nat} (ha : Sim K cl E ta xa) (hb : Sim K cl E tb xb) : SimRT K cl E (tRet (tLst (tCons ta (tCons tb (tCons (tVar i) tNil))))) (xtDisp xa xb i) := fun B H0 O σ D H s En q => by
  unfold xtDisp at q
  cases ea : xa D with
  | bad => rw [ea] at q; exact q.elim
  | ex c fs => rw [ea] at q; exact q.elim
  | ok a =>
    cases eb : xb D with
    | bad => rw [ea, eb] at q; exact q.elim
    | ex c fs => rw [ea, eb] at q; exact q.elim
    | ok b =>
      cases ei : D[i]? with
      | none => rw [ea, eb, ei] at q; exact q.elim
      | some sl =>
        rw [ea, eb, ei] at q
        cases sl with
        | ol l =>
          simp only at q
          refine ha B H0 O σ D H s _ ?_
          rw [ea]
          intro v1 H1 e1 r1
          refine hb B H0 O σ D H1 (s.mono e1) _ ?_
          rw [eb]
          intro v2 H2 e2 r2
          have s2 := s.mono (e1.trans e2)
          obtain ⟨p0, e0, m, vs, h1, rr⟩ := s2.slot i _ ei
          refine ⟨_, e0, ?_⟩
          refine ⟨sz_of (n := 3) (by decide), fun p np => ?_⟩
          have e3 := same_upd (o := .lst [v1, v2, .ref p0]) np
          have hs : Same (hid O H2) (hid ([p, p0] ++ B) (L2.upd H2 p (.lst [v1, v2, .ref p0]))) := (hid_new e3 np).trans (hid_sub fun b hb => by
            simp only [List.cons_append, List.nil_append, List.mem_cons] at hb ⊢
            rcases hb with rfl | rfl | hb
            · exact .inl rfl
            · exact .inr m.1
            · exact .inr (s.bas b hb).1)
          have nep : p0 ≠ p := fun z => by rw [z] at h1; rw [np] at h1; cases h1
          refine q (.ref p) [p, p0] _ (s2.same.trans e3) (by simp [Ne.symm nep]) (fun x hx => ?_) ?_
          · simp only [List.mem_cons, List.not_mem_nil, or_false] at hx
            rcases hx with rfl | rfl
            · exact s2.same.free np
            · exact m.2
          · exact .ol upd_same (.cons (F := []) (.sh (r1.mono ((hid_mono e2).trans hs))) (.cons (F := []) (.sh (r2.mono hs)) (.cons (F := [p0]) (.ol ((upd_ne nep).trans h1) (TrL.ofRep (rr.mono hs))) .nil)))
        | _ => exact q.elim
def TreeSp (K : Fr) (cl : Cl) (f : List Dt → R Ow) : Sp := fun vs H Q E => ∃ B ds, (∀ a, a ∈ B → MutO (H a) = true) ∧ RepL K cl (hid B H) vs ds ∧ PostW K cl E B H Q (f ds)
def runT (n : Nat) (xr : XRT) (ds : List Dt) : R Ow := match xr (ds.map Sl.sh ++ List.replicate (n - ds.length) .no) with
  | .rt t => .ok t
  | .ex c fs _ => .ex c fs
  | _ => .bad
def funT (k n : Nat) (xr : XRT) (ds : List Dt) : R Ow := if ds.length = k then runT n xr ds else .bad
theorem funT_rt {k n : Nat} {xr : XRT} {ds : List Dt} {D : Ds} {t : Ow} (hl : ds.length = k) (hD : ds.map Sl.sh ++ List.replicate (n - ds.length) .no = D) (h : xr D = .rt t) : funT k n xr ds = .ok t := by
  unfold funT runT; rw [if_pos hl, hD, h]
theorem body_okT {N : List Str} {ts : TS} {xr : XRT} {vs : List V} {H : Hp} {Q : VK} {E : XK} {k : Nat} (hs : SimRT K cl (fun _ => E) ts xr) (hk : vs.length = k) (hN : k ≤ N.length)
    (h : TreeSp K cl (funT k N.length xr) vs H Q E) : ts { nx := fun _ H' => Q .non H', rt := Q } (start N vs) H := by
  obtain ⟨B, ds, hB, r, q⟩ := h
  unfold funT at q
  rw [if_pos (by rw [← r.len]; exact hk)] at q
  refine hs B H B _ _ H (rs_start hB r (by omega)) _ ?_
  unfold runT at q
  cases e : xr (ds.map Sl.sh ++ List.replicate (N.length - ds.length) .no) with
  | bad => rw [e] at q; exact q.elim
  | rt l => rw [e] at q; exact fun v F H' e1 nd n tr => q v F H' e1 nd n tr
  | ex c fs D => rw [e] at q; exact fun O' σ' H' s f => (ExOk.mono s.same q).sub fun a m => (s.bas a m).1
theorem TreeSp.len {k n : Nat} {xr : XRT} {vs : List V} {H : Hp} {Q : VK} {E : XK} (h : TreeSp K cl (funT k n xr) vs H Q E) : vs.length = k := by
  obtain ⟨B, ds, hB, r, q⟩ := h
  unfold funT at q
  split at q
  · rename_i e; rw [r.len]; exact e
  · exact q.elim
theorem post_W {E : XK} {Q : VK} (e : Same H H') {x : R Ow} (q : PostW K cl E O H Q x) : PostW K cl E O H' Q x := by
  cases x with
  | bad => exact q
  | ex c fs => exact ExOk.mono e q
  | ok t => exact fun v F H2 e2 nd n tr => q v F H2 (e.trans e2) nd (fun a m => e.free (n a m)) tr
@[simp] def xCallW (f : List Dt → R Ow) (xa : XA) : XW := fun D => (xa D).bind f
theorem sw_call {f : List Dt → R Ow} {ta : TA} {xa : XA} (ha : SimA K cl E ta xa) : SimW K cl E (tCallSD (TreeSp K cl f) [] E ta) (xCallW f xa) := fun B H0 O σ D H s Q q => by
  refine ha B H0 O σ D H s _ ?_
  cases ea : xa D with
  | bad => simp only [xCallW, ea] at q; exact q.elim
  | ex c fs => simp only [xCallW, ea] at q; exact q
  | ok ds =>
    simp only [xCallW, ea] at q
    intro vs H1 e1 r
    exact ⟨O, ds, (s.mono e1).trk, by rw [List.append_nil]; exact r, post_W e1 q⟩
/-! ### a lent list is lent on -/
def callBr (f : List Dt → R Dt) : Sl → R Dt
  | .br l => (f [.lst l]).bor
  | .sh d => f [d]
  | _ => .bad
@[simp] theorem callBr_br (f : List Dt → R Dt) (l : List Dt) : callBr f (.br l) = (f [.lst l]).bor := rfl
@[simp] theorem callBr_sh (f : List Dt → R Dt) (d : Dt) : callBr f (.sh d) = f [d] := rfl
@[simp] def xCallBr (f : List Dt → R Dt) (i : Nat) : XE := fun D => match D[i]? with
  | some s => callBr f s
  | none => .bad
theorem sim_callBr {f : List Dt → R Dt} {i : Nat} : Sim K cl E (tCallSD (PureSp K cl f) [] E (tCons (tVar i) tNil)) (xCallBr f i) := fun B H0 O σ D H s Q q => by
  unfold xCallBr at q
  cases ei : D[i]? with
  | none => rw [ei] at q; exact q.elim
  | some sl =>
    rw [ei] at q
    cases sl with
    | sh d =>
      refine simS_call (f := f) (sa_cons sim_var sa_nil) B H0 O σ D H s Q ?_
      have : xCall f (xCons (xVar i) xNil) D = f [d] := by simp [ei]
      rw [this]; exact q
    | br l =>
      obtain ⟨a, xs, e, m, h0, rr⟩ := s.slot i _ ei
      have ha := s.same _ _ h0
      have sub : ∀ b, b ∈ O.filter (fun b => decide (b ≠ a)) → b ∈ O := fun b m => (List.mem_filter.mp m).1
      have na : a ∉ O.filter (fun b => decide (b ≠ a)) := fun z => by have := (List.mem_filter.mp z).2; simp at this
      have up : ∀ H', Same H H' → ∀ b o, hid (O.filter fun b => decide (b ≠ a)) H' b = some o → isTI o = true → hid O H' b = some o := fun H' e1 b o hb ho => by
        by_cases hbO' : b ∈ O.filter (fun b => decide (b ≠ a))
        · unfold hid at hb; rw [if_pos hbO'] at hb; cases hb
        · rw [hid_nin hbO'] at hb
          by_cases hbO : b ∈ O
          · have : b = a := by
              by_cases z : b = a
              · exact z
              · exact absurd (List.mem_filter.mpr ⟨hbO, by simpa using z⟩) hbO'
            subst this
            rw [e1 _ _ ha] at hb
            cases hb; cases ho
          · rw [hid_nin hbO]; exact hb
      refine ⟨.ref a, e, O.filter (fun b => decide (b ≠ a)), [.lst l], fun b m => s.trk b (sub b m), RepL.cons (.lst (by rw [hid_nin na]; exact ha) (rr.mono (hid_sub sub))) .nil, ?_⟩
      revert q
      show PostE K cl (E σ) O H Q (f [.lst l]).bor → _
      cases f [.lst l] with
      | bad => exact id
      | ex c fs =>
        intro q
        rw [bor_ex] at q
        split at q
        · rename_i hc
          exact fun C hC => ⟨(q C hC).1, fun H2 d fv e2 hd hk2 rr => (q C hC).2 H2 d fv e2 hd hk2 (rr.cln (up H2 e2) hc)⟩
        · exact q.elim
      | ok d =>
        intro q
        rw [bor_ok] at q
        split at q
        · rename_i hc
          exact fun v H' e1 rv => q v H' e1 (rv.cln (up H' e1) hc)
        · exact q.elim
    | _ => exact q.elim
/-! ### a list in a tree is read, and changed -/
def owShs : List Ow → Option (List Dt)
  | [] => some []
  | .sh d :: r => (owShs r).map (d :: ·)
  | _ => none
theorem owShs_map : ∀ l : List Dt, owShs (l.map Ow.sh) = some l
  | [] => rfl
  | d :: l => by show (owShs (l.map Ow.sh)).map (d :: ·) = _; rw [owShs_map l]; rfl
theorem owShs_eq : ∀ {ts : List Ow} {ds : List Dt}, owShs ts = some ds → ts = ds.map Ow.sh
  | [], ds, h => by cases h; rfl
  | .sh d :: r, ds, h => by
    obtain ⟨l, e, rfl⟩ := Option.map_eq_some_iff.mp (show (owShs r).map (d :: ·) = some ds from h)
    rw [List.map_cons, ← owShs_eq e]
  | .ol _ :: _, _, h => by cases h
  | .oi _ _ :: _, _, h => by cases h
def xOw1 (i : Nat) (xk : XE) : XE := fun D => match D[i]? with
  | some (.ow t) => (xk D).bind fun k => match owCh t k with
    | .ok l' => (opt (owShs l')).bind fun ds => .ok (.lst ds)
    | _ => .bad
  | _ => .bad
theorem simB_ow1 {i : Nat} {tk : TE} {xk : XE} (hk : Sim K cl E tk xk) : SimB K cl E (tOp (rIx K) (tVar i) tk) (xOw1 i xk) := fun B H0 O σ D H s Q q => by
  unfold xOw1 at q
  cases ei : D[i]? with
  | none => rw [ei] at q; exact q.elim
  | some sl =>
    rw [ei] at q
    cases sl with
    | ow t =>
      simp only at q
      obtain ⟨Fs, inn⟩ := s.inn
      obtain ⟨⟨v, hv, tr⟩, nd, fo, own, dj⟩ := inn i t ei
      refine ⟨v, hv, hk B H0 O σ D H s _ ?_⟩
      cases ek : xk D with
      | bad => rw [ek] at q; exact q.elim
      | ex c fs => rw [ek] at q; exact q
      | ok k =>
        rw [ek] at q
        simp only [bind_ok] at q
        intro y H1 e1 rk
        cases ec : owCh t k with
        | bad => rw [ec] at q; exact q.elim
        | ex c fs => exact absurd ec owCh_nex
        | ok l' =>
          rw [ec] at q
          simp only at q
          cases es : owShs l' with
          | none => rw [es] at q; exact q.elim
          | some ds =>
            rw [es] at q
            simp only [opt_some, bind_ok] at q
            obtain ⟨l, kk, n, rfl, rfl, hix, hl⟩ := owCh_ok ec
            cases rk
            generalize Fs i = Fi at tr
            cases tr with
            | ol h r =>
              rename_i a vs F'
              obtain ⟨w, F1, G, F2, ew, eF, tw, _⟩ := r.hole hl
              cases tw with
              | ol hb rb =>
                rename_i b ws G'
                have es' := owShs_eq es
                subst es'
                obtain ⟨_, rl⟩ := rb.reps
                refine .inl ⟨a, vs, kk, .ref b, rfl, rfl, SqL.of (e1 _ _ h), by unfold atI; rw [r.len, hix]; exact ew, ?_⟩
                exact q (.ref b) H1 e1 ⟨b, ws, rfl, e1 _ _ hb, rl.mono (hid_mono e1)⟩
    | _ => exact q.elim
def xsSet2 (i : Nat) (xk xj xe : XE) : XS := fun D => (xe D).out D fun d => match D[i]? with
  | some (.ow t) => (xk D).out D fun k => (owCh t k).out D fun l' => (xj D).out D fun j => (owGet l' j).out D fun _ => (owPut d t k j).out D fun t' => .nx (D.set i (.ow t'))
  | _ => .bad
theorem ss_set2 {i : Nat} {tk tj te : TE} {xk xj xe : XE} (hk : Sim K cl E tk xk) (hj : Sim K cl E tj xj) (he : Sim K cl E te xe) :
    SimS K cl E (tAsg te (gSub (tOp (rIx K) (tVar i) tk) tj rSetL)) (xsSet2 i xk xj xe) := fun B H0 O σ D H s En q => by
  unfold xsSet2 at q
  refine he B H0 O σ D H s _ ?_
  cases ee : xe D with
  | bad => rw [ee] at q; exact q.elim
  | ex c fs => rw [ee] at q; exact q O σ H s (Same.refl _)
  | ok d =>
    rw [ee] at q
    simp only [out_ok] at q
    intro y0 H1 e1 rd0
    cases ei : D[i]? with
    | none => rw [ei] at q; exact q.elim
    | some sl =>
      rw [ei] at q
      cases sl with
      | ow t =>
        simp only at q
        obtain ⟨Fs, inn⟩ := (s.mono e1).inn
        obtain ⟨⟨v, hv, tr⟩, nd, fo, own, dj⟩ := inn i t ei
        refine ⟨v, hv, hk B H0 O σ D H1 (s.mono e1) _ ?_⟩
        cases ek : xk D with
        | bad => rw [ek] at q; exact q.elim
        | ex c fs => rw [ek] at q; exact q O σ H1 (s.mono e1) (hid_mono e1)
        | ok k =>
          rw [ek] at q
          simp only [out_ok] at q
          intro y H2 e2 rk
          cases ec : owCh t k with
          | bad => rw [ec] at q; exact q.elim
          | ex c fs => exact absurd ec owCh_nex
          | ok l' =>
            rw [ec] at q
            simp only [out_ok] at q
            obtain ⟨l, kk, n, rfl, rfl, hix, hl⟩ := owCh_ok ec
            obtain ⟨a, vs, b, ws, rfl, ha, hlen, hb, hbb, hwl, mb, rd, put⟩ := tr.foc nd hl
            cases rk
            refine .inl ⟨a, vs, kk, .ref b, rfl, rfl, SqL.of (e2 _ _ ha), by unfold atI; rw [hlen, hix]; exact hb, ?_⟩
            refine hj B H0 O σ D H2 (s.mono (e1.trans e2)) _ ?_
            cases ej : xj D with
            | bad => rw [ej] at q; exact q.elim
            | ex c fs => rw [ej] at q; exact q O σ H2 (s.mono (e1.trans e2)) (hid_mono (e1.trans e2))
            | ok j =>
              rw [ej] at q
              simp only [out_ok] at q
              intro w3 H3 e3 rj
              cases eg : owGet l' j with
              | bad => rw [eg] at q; exact q.elim
              | ex c fs => exact absurd eg owGet_nex
              | ok old =>
                rw [eg] at q
                simp only [out_ok] at q
                obtain ⟨jj, m, rfl, hjx, hm⟩ := owGet_ok eg
                cases rj
                rw [owPut_of hix hl hjx] at q
                simp only [out_ok] at q
                have e23 := e2.trans e3
                have e123 := e1.trans e23
                refine ⟨b, ws, jj, m, rfl, rfl, e23 _ _ hbb, by rw [hwl]; exact hjx, ?_⟩
                refine q O σ _ ((s.mono e123).mutTree ei rfl fun v2 F2 hv2 tr2 nd2 => ?_) (by rw [hid_upd (fo b mb).1]; exact hid_mono e123)
                rw [hv] at hv2
                cases hv2
                obtain ⟨a', vs', b', ws', ea', ha', _, hb', hbb', _, mb', _, put'⟩ := tr2.foc nd2 hl
                cases ea'
                have := e23 _ _ ha
                rw [this] at ha'
                cases ha'
                rw [hb] at hb'
                cases hb'
                have := e23 _ _ hbb
                rw [this] at hbb'
                cases hbb'
                exact ⟨mb', put' H3 (hid O H3) m old y0 d (Same.refl _) (Same.refl _) hm (rd0.mono (hid_mono e23))⟩
      | _ => exact q.elim
end
end Mx
namespace Mx
open PySem PySem.Spec PyProof.Rows L2
def topS (i : Nat) : Stmt := PySem.Challenge.pw_mixpace_k10_kitchen_fields.main.body.getD i (.Pass ⟨0, 0, 0, 0⟩)
abbrev s__law_pick : Stmt := topS 19
abbrev s__law_draw : Stmt := topS 20
abbrev s__law_namelist : Stmt := topS 22
abbrev s__law_rawlist : Stmt := topS 24
abbrev s__law_worth : Stmt := topS 25
abbrev s__law_merge : Stmt := topS 23
abbrev s__law_broad : Stmt := topS 29
abbrev s__law_tools : Stmt := topS 31
abbrev s_is_name : Stmt := topS 9
abbrev s__check_dish : Stmt := topS 16
abbrev s__merged : Stmt := topS 17
abbrev s_Dish___init__ : Stmt := inClass (topS 15) 0
abbrev s__law_dishes : Stmt := topS 30
abbrev s__check_tools : Stmt := topS 12
abbrev s__check_menu : Stmt := topS 13
abbrev s_Kitchen___init__ : Stmt := inClass (topS 11) 0
abbrev s_Kitchen_menu : Stmt := inClass (topS 11) 3
abbrev s_Kitchen__check_tool : Stmt := inClass (topS 11) 9
abbrev s_Kitchen_number_of : Stmt := inClass (topS 11) 5
abbrev s_Kitchen_tools : Stmt := inClass (topS 11) 1
abbrev s__law_is_integer : Stmt := topS 21
abbrev s_Dish_length : Stmt := inClass (topS 15) 1
abbrev s_Kitchen_horizon : Stmt := inClass (topS 11) 4
abbrev s__law_horizon : Stmt := topS 27
abbrev s__law_dish_is : Stmt := topS 26
abbrev s_Kitchen_numbers : Stmt := inClass (topS 11) 2
abbrev s__law_kitchen_is : Stmt := topS 28
abbrev s_Dish___eq__ : Stmt := inClass (topS 15) 6
abbrev s_law : Stmt := topS 32
abbrev s_UnknownTool___init__ : Stmt := inClass (topS 5) 0
structure Ad where
  (_law_pick _law_draw _law_namelist _law_rawlist _law_worth _law_merge _law_broad _law_tools is_name _check_dish _merged Dish___init__ _law_dishes _check_tools _check_menu Kitchen___init__ Kitchen_menu Kitchen__check_tool Kitchen_number_of Kitchen_tools _law_is_integer Dish_length Kitchen_horizon _law_horizon _law_dish_is Kitchen_numbers _law_kitchen_is Dish___eq__ law C_Dish C_Kitchen C_InvalidDish C_InvalidKitchen C_UnknownTool Q_Kitchen_tools Q_Kitchen_numbers Q_Kitchen_menu Q_Kitchen_horizon Q_Dish_length XI_UnknownTool cc_UnknownTool cd_UnknownTool : Addr)
  (_law_pick_d _law_draw_d _law_namelist_d _law_rawlist_d _law_worth_d _law_merge_d _law_broad_d _law_tools_d is_name_d _check_dish_d _merged_d Dish___init___d _law_dishes_d _check_tools_d _check_menu_d Kitchen___init___d Kitchen_menu_d Kitchen__check_tool_d Kitchen_number_of_d Kitchen_tools_d _law_is_integer_d Dish_length_d Kitchen_horizon_d _law_horizon_d _law_dish_is_d Kitchen_numbers_d _law_kitchen_is_d Dish___eq___d law_d XI_UnknownTool_d : FuncData)
def nf_UnknownTool (A : Ad) : NdefX.NF := ⟨"__init__", "UnknownTool.__init__", defArgs s_UnknownTool___init__, defBody s_UnknownTool___init__, defScope s_UnknownTool___init__, [(("__class__" : Str), A.cc_UnknownTool)], A.cd_UnknownTool⟩
def parts_UnknownTool : List (Option Str) := [some "the kitchen has no tool ", none]
def tm_UnknownTool : TA := tCons (fun σ H Q => tJs (parts_UnknownTool.map partT) Str.empty σ H fun out H1 => Q (.str out) H1) tNil
def okm_UnknownTool : Dt → Bool := fun d => (fmtS d).isSome
theorem hm_UnknownTool {C : Addr} {K : Fr} {cl : Cl} (x : V) (d : Dt) (Hr H : Hp) (a : Addr) : Rep K cl Hr x d → okm_UnknownTool d = true → tm_UnknownTool ((fun vs => NdefX.startF ["self", "tool", "__class__"] vs [some (.ref C)]) [.ref a, x]) H (fun us H2 => us.length ≤ 1000 ∧ H2 = H) := fun hx ok => by
  cases e : fmtS d with
  | none => unfold okm_UnknownTool at ok; rw [e] at ok; cases ok
  | some z => exact msg_ok hx e rfl parts_UnknownTool Str.empty H _ (by decide +kernel) (parts_len (by decide +kernel)) fun out => ⟨by simp, rfl⟩
def gV_0 (vs zs : List V) : List V := vs ++ zs
def gD_0 (vs zs : List Dt) : List Dt := vs ++ zs
theorem ga_0 : ArgsOk 2 2 gV_0 gD_0 := fun K cl H x vs zs ds es h1 h2 r1 r2 => by
  match vs, ds, zs, es, h1, h2, r1, r2 with
  | [v0, v1], [d0, d1], [z0, z1], [e0, e1], _, _, .cons p0 (.cons p1 .nil), .cons q0 (.cons q1 .nil) => exact ⟨_, rfl, .cons p0 (.cons p1 (.cons q0 (.cons q1 .nil)))⟩
def gV_1 (vs zs : List V) : List V := vs ++ zs
def gD_1 (vs zs : List Dt) : List Dt := vs ++ zs
theorem ga_1 : ArgsOk 2 0 gV_1 gD_1 := fun K cl H x vs zs ds es h1 h2 r1 r2 => by
  match vs, ds, zs, es, h1, h2, r1, r2 with
  | [v0, v1], [d0, d1], [], [], _, _, .cons p0 (.cons p1 .nil), .nil => exact ⟨_, rfl, .cons p0 (.cons p1 .nil)⟩
def gV_2 (vs zs : List V) : List V := vs ++ zs ++ [.int 0]
def gD_2 (vs zs : List Dt) : List Dt := vs ++ zs ++ [.int 0]
theorem ga_2 : ArgsOk 2 1 gV_2 gD_2 := fun K cl H x vs zs ds es h1 h2 r1 r2 => by
  match vs, ds, zs, es, h1, h2, r1, r2 with
  | [v0, v1], [d0, d1], [z0], [e0], _, _, .cons p0 (.cons p1 .nil), .cons q0 .nil => exact ⟨_, rfl, .cons p0 (.cons p1 (.cons q0 (.cons (.int _) .nil)))⟩
structure Txt (P : Program) (K : Fr) (mg : Str → Option Value) (cl : Cl) (A : Ad) : Prop where
  F__law_pick : Fun K "_law_pick" "_law_pick" s__law_pick A._law_pick A._law_pick_d
  g__law_pick : mg "_law_pick" = some (.ref A._law_pick)
  b__law_pick : L2.Binds K A._law_pick_d ["_law_script", "_law_k"] []
  F__law_draw : Fun K "_law_draw" "_law_draw" s__law_draw A._law_draw A._law_draw_d
  g__law_draw : mg "_law_draw" = some (.ref A._law_draw)
  b__law_draw : L2.Binds K A._law_draw_d ["_law_cell", "_law_k", "_law_many"] []
  F__law_namelist : Fun K "_law_namelist" "_law_namelist" s__law_namelist A._law_namelist A._law_namelist_d
  g__law_namelist : mg "_law_namelist" = some (.ref A._law_namelist)
  b__law_namelist : L2.Binds K A._law_namelist_d ["_law_cell", "_law_many"] []
  F__law_rawlist : Fun K "_law_rawlist" "_law_rawlist" s__law_rawlist A._law_rawlist A._law_rawlist_d
  g__law_rawlist : mg "_law_rawlist" = some (.ref A._law_rawlist)
  b__law_rawlist : L2.Binds K A._law_rawlist_d ["_law_script", "_law_at", "_law_many", "_law_names"] []
  F__law_worth : Fun K "_law_worth" "_law_worth" s__law_worth A._law_worth A._law_worth_d
  g__law_worth : mg "_law_worth" = some (.ref A._law_worth)
  b__law_worth : L2.Binds K A._law_worth_d ["_law_cell", "_law_small"] []
  F__law_merge : Fun K "_law_merge" "_law_merge" s__law_merge A._law_merge A._law_merge_d
  g__law_merge : mg "_law_merge" = some (.ref A._law_merge)
  b__law_merge : L2.Binds K A._law_merge_d ["_law_raw"] []
  F__law_broad : Fun K "_law_broad" "_law_broad" s__law_broad A._law_broad A._law_broad_d
  g__law_broad : mg "_law_broad" = some (.ref A._law_broad)
  b__law_broad : L2.Binds K A._law_broad_d ["_law_script", "_law_least"] []
  F__law_tools : Fun K "_law_tools" "_law_tools" s__law_tools A._law_tools A._law_tools_d
  g__law_tools : mg "_law_tools" = some (.ref A._law_tools)
  b__law_tools : L2.Binds K A._law_tools_d ["_law_kitchen"] []
  F_is_name : Fun K "is_name" "is_name" s_is_name A.is_name A.is_name_d
  g_is_name : mg "is_name" = some (.ref A.is_name)
  b_is_name : L2.Binds K A.is_name_d ["text"] []
  F__check_dish : Fun K "_check_dish" "_check_dish" s__check_dish A._check_dish A._check_dish_d
  g__check_dish : mg "_check_dish" = some (.ref A._check_dish)
  b__check_dish : L2.Binds K A._check_dish_d ["name", "needs"] []
  F__merged : Fun K "_merged" "_merged" s__merged A._merged A._merged_d
  g__merged : mg "_merged" = some (.ref A._merged)
  b__merged : L2.Binds K A._merged_d ["needs"] []
  F_Dish___init__ : Fun K "__init__" "Dish.__init__" s_Dish___init__ A.Dish___init__ A.Dish___init___d
  F__law_dishes : Fun K "_law_dishes" "_law_dishes" s__law_dishes A._law_dishes A._law_dishes_d
  g__law_dishes : mg "_law_dishes" = some (.ref A._law_dishes)
  b__law_dishes : L2.Binds K A._law_dishes_d ["_law_kitchen"] []
  F__check_tools : Fun K "_check_tools" "_check_tools" s__check_tools A._check_tools A._check_tools_d
  g__check_tools : mg "_check_tools" = some (.ref A._check_tools)
  b__check_tools : L2.Binds K A._check_tools_d ["tools"] []
  F__check_menu : Fun K "_check_menu" "_check_menu" s__check_menu A._check_menu A._check_menu_d
  g__check_menu : mg "_check_menu" = some (.ref A._check_menu)
  b__check_menu : L2.Binds K A._check_menu_d ["menu", "numbers"] []
  F_Kitchen___init__ : Fun K "__init__" "Kitchen.__init__" s_Kitchen___init__ A.Kitchen___init__ A.Kitchen___init___d
  F_Kitchen_menu : Fun K "menu" "Kitchen.menu" s_Kitchen_menu A.Kitchen_menu A.Kitchen_menu_d
  b_Kitchen_menu : L2.Binds K A.Kitchen_menu_d ["self"] []
  F_Kitchen__check_tool : Fun K "_check_tool" "Kitchen._check_tool" s_Kitchen__check_tool A.Kitchen__check_tool A.Kitchen__check_tool_d
  b_Kitchen__check_tool : L2.Binds K A.Kitchen__check_tool_d ["self", "tool"] []
  F_Kitchen_number_of : Fun K "number_of" "Kitchen.number_of" s_Kitchen_number_of A.Kitchen_number_of A.Kitchen_number_of_d
  b_Kitchen_number_of : L2.Binds K A.Kitchen_number_of_d ["self", "tool"] []
  F_Kitchen_tools : Fun K "tools" "Kitchen.tools" s_Kitchen_tools A.Kitchen_tools A.Kitchen_tools_d
  b_Kitchen_tools : L2.Binds K A.Kitchen_tools_d ["self"] []
  F__law_is_integer : Fun K "_law_is_integer" "_law_is_integer" s__law_is_integer A._law_is_integer A._law_is_integer_d
  g__law_is_integer : mg "_law_is_integer" = some (.ref A._law_is_integer)
  b__law_is_integer : L2.Binds K A._law_is_integer_d ["_law_x"] []
  F_Dish_length : Fun K "length" "Dish.length" s_Dish_length A.Dish_length A.Dish_length_d
  b_Dish_length : L2.Binds K A.Dish_length_d ["self"] []
  F_Kitchen_horizon : Fun K "horizon" "Kitchen.horizon" s_Kitchen_horizon A.Kitchen_horizon A.Kitchen_horizon_d
  b_Kitchen_horizon : L2.Binds K A.Kitchen_horizon_d ["self"] []
  F__law_horizon : Fun K "_law_horizon" "_law_horizon" s__law_horizon A._law_horizon A._law_horizon_d
  g__law_horizon : mg "_law_horizon" = some (.ref A._law_horizon)
  b__law_horizon : L2.Binds K A._law_horizon_d ["_law_kitchen"] []
  F__law_dish_is : Fun K "_law_dish_is" "_law_dish_is" s__law_dish_is A._law_dish_is A._law_dish_is_d
  g__law_dish_is : mg "_law_dish_is" = some (.ref A._law_dish_is)
  b__law_dish_is : L2.Binds K A._law_dish_is_d ["_law_dish", "_law_name", "_law_worths", "_law_needs"] []
  F_Kitchen_numbers : Fun K "numbers" "Kitchen.numbers" s_Kitchen_numbers A.Kitchen_numbers A.Kitchen_numbers_d
  b_Kitchen_numbers : L2.Binds K A.Kitchen_numbers_d ["self"] []
  F__law_kitchen_is : Fun K "_law_kitchen_is" "_law_kitchen_is" s__law_kitchen_is A._law_kitchen_is A._law_kitchen_is_d
  g__law_kitchen_is : mg "_law_kitchen_is" = some (.ref A._law_kitchen_is)
  b__law_kitchen_is : L2.Binds K A._law_kitchen_is_d ["_law_room", "_law_kitchen"] []
  F_Dish___eq__ : Fun K "__eq__" "Dish.__eq__" s_Dish___eq__ A.Dish___eq__ A.Dish___eq___d
  b_Dish___eq__ : L2.Binds K A.Dish___eq___d ["self", "other"] []
  F_law : Fun K "law" "law" s_law A.law A.law_d
  g_law : mg "law" = some (.ref A.law)
  b_law : L2.Binds K A.law_d ["_law_script"] []
  g_Dish : mg "Dish" = some (.ref A.C_Dish)
  l_Dish : cl "Dish" = some A.C_Dish
  g_Kitchen : mg "Kitchen" = some (.ref A.C_Kitchen)
  l_Kitchen : cl "Kitchen" = some A.C_Kitchen
  g_InvalidDish : mg "InvalidDish" = some (.ref A.C_InvalidDish)
  l_InvalidDish : cl "InvalidDish" = some A.C_InvalidDish
  g_InvalidKitchen : mg "InvalidKitchen" = some (.ref A.C_InvalidKitchen)
  l_InvalidKitchen : cl "InvalidKitchen" = some A.C_InvalidKitchen
  g_UnknownTool : mg "UnknownTool" = some (.ref A.C_UnknownTool)
  l_UnknownTool : cl "UnknownTool" = some A.C_UnknownTool
  ie_Dish : InsE K A.C_Dish
  su_UnknownTool : SuF P K A.XI_UnknownTool A.C_UnknownTool (nf_UnknownTool A) A.XI_UnknownTool_d
  oe_UnknownTool : OexC K A.C_UnknownTool
  in_UnknownTool : PySem.W.findIn K (.ref A.C_UnknownTool) "__init__" = some (some (.ref A.XI_UnknownTool))
  ti_UnknownTool : PySem.W.typeIn K (.ref A.XI_UnknownTool) = some (.type "function")
  bx_UnknownTool : L2.Binds K A.XI_UnknownTool_d ["self", "tool"] []
  nx_UnknownTool : PySem.W.findIn K (.ref A.C_UnknownTool) "tool" = some none
  oq_Dish : OwnQ K A.C_Dish A.Dish___eq__
  K_Dish : Cls K A.C_Dish
  N_Dish_first : NoAttr K A.C_Dish "first"
  N_Dish_name : NoAttr K A.C_Dish "name"
  N_Dish_needs : NoAttr K A.C_Dish "needs"
  N_Dish_second : NoAttr K A.C_Dish "second"
  M_Dish : Mk K A.C_Dish A.Dish___init__
  K_Kitchen : Cls K A.C_Kitchen
  N_Kitchen__menu : NoAttr K A.C_Kitchen "_menu"
  N_Kitchen__numbers : NoAttr K A.C_Kitchen "_numbers"
  M_Kitchen : Mk K A.C_Kitchen A.Kitchen___init__
  Me_Kitchen__check_tool : Meth K A.C_Kitchen "_check_tool" A.Kitchen__check_tool
  Me_Kitchen_number_of : Meth K A.C_Kitchen "number_of" A.Kitchen_number_of
  Me_Dish___eq__ : Meth K A.C_Dish "__eq__" A.Dish___eq__
  P_Kitchen_tools : PropOf K A.C_Kitchen "tools" A.Q_Kitchen_tools A.Kitchen_tools
  P_Kitchen_numbers : PropOf K A.C_Kitchen "numbers" A.Q_Kitchen_numbers A.Kitchen_numbers
  P_Kitchen_menu : PropOf K A.C_Kitchen "menu" A.Q_Kitchen_menu A.Kitchen_menu
  P_Kitchen_horizon : PropOf K A.C_Kitchen "horizon" A.Q_Kitchen_horizon A.Kitchen_horizon
  P_Dish_length : PropOf K A.C_Dish "length" A.Q_Dish_length A.Dish_length
  x_InvalidDish : PySem.W.excIn K A.C_InvalidDish [.type "ValueError", .type "Exception", .type "BaseException", .type "object"] "ValueError.__new__" = true
  k_InvalidDish : PySem.W.keepIn K (.ref A.C_InvalidDish) = true
  e_InvalidDish : PySem.W.subIn K (.ref A.C_InvalidDish) (.type "BaseException") = some true
  t_InvalidDish : PySem.W.typeIn K (.ref A.C_InvalidDish) = some (.type "type")
  x_InvalidKitchen : PySem.W.excIn K A.C_InvalidKitchen [.type "ValueError", .type "Exception", .type "BaseException", .type "object"] "ValueError.__new__" = true
  k_InvalidKitchen : PySem.W.keepIn K (.ref A.C_InvalidKitchen) = true
  e_InvalidKitchen : PySem.W.subIn K (.ref A.C_InvalidKitchen) (.type "BaseException") = some true
  t_InvalidKitchen : PySem.W.typeIn K (.ref A.C_InvalidKitchen) = some (.type "type")
  k_UnknownTool : PySem.W.keepIn K (.ref A.C_UnknownTool) = true
  e_UnknownTool : PySem.W.subIn K (.ref A.C_UnknownTool) (.type "BaseException") = some true
  t_UnknownTool : PySem.W.typeIn K (.ref A.C_UnknownTool) = some (.type "type")
  kb_0 : ∃ g, KBn K A.Dish___init___d ["self", "name", "needs", "first", "second"] 3 ["first", "second"] g gV_0
  kb_1 : ∃ g, KBn K A.Kitchen___init___d ["self", "tools", "menu"] 3 [] g gV_1
  kb_2 : ∃ g, KBn K A.Dish___init___d ["self", "name", "needs", "first", "second"] 3 ["first"] g gV_2
  z_all : mg "all" = none
  z_bool : mg "bool" = none
  z_dict : mg "dict" = none
  z_int : mg "int" = none
  z_isinstance : mg "isinstance" = none
  z_len : mg "len" = none
  z_list : mg "list" = none
  z_max : mg "max" = none
  z_min : mg "min" = none
  z_range : mg "range" = none
  z_reversed : mg "reversed" = none
  z_set : mg "set" = none
  z_sorted : mg "sorted" = none
  z_str : mg "str" = none
  z_super : mg "super" = none
  z_tuple : mg "tuple" = none
  c_LETTERS : ∃ tk, mg "LETTERS" = some (.str "abcdefghijklmnopqrstuvwxyz" tk)
  c_MOST_LETTERS : ∃ tk, mg "MOST_LETTERS" = some (.int 12 tk)
section
variable {P : Program} {w : World} {K : Fr} {mg : Str → Option Value} {base : Heap} {cl : Cl} {A : Ad}
theorem fx_UnknownTool (T : Txt P K mg cl A) : FnOk P w K mg base (L2.CX P w) 1 A.XI_UnknownTool A.XI_UnknownTool_d ["self", "tool"] (spEx A.C_UnknownTool "tool" tm_UnknownTool (fun vs => NdefX.startF ["self", "tool", "__class__"] vs [some (.ref A.C_UnknownTool)])) :=
  fn_exc (k := 0) T.su_UnknownTool T.z_super (NdefX.nscope_by (show NdefX.nscB ["self", "tool", "__class__"] ["self", "tool"] ["__class__"] (defScope s_UnknownTool___init__) = true by decide +kernel)) (by rfl) (by rfl) (by rfl) (by rfl) T.nx_UnknownTool (fun _ => rfl) (fun _ _ => rfl) (fun _ => rfl) (fun _ => ⟨_, rfl⟩) (fun _ _ _ _ _ => pa_cons (pe_joined (.cons pe_str (.cons (pe_fmt (pe_var (i := 1) rfl (.inl rfl))) (PJ.nil)))) pa_nil) (fun _ _ _ _ _ => pss_one (ps_ost (pe_var (i := 0) rfl (.inl rfl)) (pe_var (i := 1) rfl (.inl rfl))))
def N__law_pick : List Str := ["_law_script", "_law_k"]
theorem sc__law_pick : FnScope N__law_pick ["_law_script", "_law_k"] (defScope s__law_pick) := ⟨rfl, rfl, rfl, by decide +kernel, rfl, by decide +kernel, by decide +kernel⟩
def xs__law_pick : XS := xsSeq (xsIf (xTest (x2 dLtI (xVarB 1) (xCB dLen (xCons (xVarB 0) xNil)))) (xsRet (xCB dInt (xCons (x2 dIx (xVarB 0) (xVarB 1)) xNil))) xsNext)
    (xsRet (xC (.int 0)))
def m__law_pick : List Dt → R Dt := funD 2 2 xs__law_pick
theorem ok__law_pick (T : Txt P K mg cl A) : FnOk P w K mg base (L2.CX P w) 1 A._law_pick A._law_pick_d ["_law_script", "_law_k"] (PureSp K cl m__law_pick) := by
  refine T.F__law_pick.okX sc__law_pick (fun vs H Q E h => h.len) (fun cdv A outer s H vs Q E hr h => ?_)
  have hu := hu_of hr
  exact ⟨_, pss_cons (ps_if (pt_cmpR op_lt (pv 1) (pe_callB call_lenA (by rfl) T.z_len (by decide +kernel) (pa_cons (pv 0) pa_nil)) (nomark _)) (pss_one (ps_ret (pe_callTy call_intA (by rfl) T.z_int (by decide +kernel) (pa_cons (pe_ix ix_seq (pv 0) (pv 1) (fun _ _ => rfl)) pa_nil)))) pss_nil)
    (pss_one (ps_ret pe_int)),
    body_ok (xs := xs__law_pick) (k := 2) (ss_seq (ss_if (st_test (sim_op os_ltI simB_var (simB_of (sim_cb cs_len (sba_cons simB_var sba_nil))))) (ss_ret (sim_cb cs_int (sba_cons (simB_of (sim_op os_ix simB_var simB_var)) sba_nil))) ss_next)
    (ss_ret sim_int)) h.len (by decide) h⟩
def N__law_draw : List Str := ["_law_cell", "_law_k", "_law_many", "_law_step", "_law_one", "_law_two", "_law_three"]
theorem sc__law_draw : FnScope N__law_draw ["_law_cell", "_law_k", "_law_many"] (defScope s__law_draw) := ⟨rfl, rfl, rfl, by decide +kernel, rfl, by decide +kernel, by decide +kernel⟩
def xb__law_draw_1 (D : Ds) : Out := (xsAsg 0 (x2 dFdiv (xVarB 0) (xC (.int 1000)))) D
def xs__law_draw : XS := xsSeq (xsIf (xTest (x2 dGe (xVarB 0) (x2 dPow (xC (.int 10)) (xC (.int 18))))) (xsSeq (xsFor (xRng1 (xCons (xVar 1) xNil)) (xgName 3) xb__law_draw_1)
    (xsRet (x2 dMod (x2 dMod (xCB dInt (xCons (xVarB 0) xNil)) (xC (.int 1000))) (xVarB 2)))) xsNext)
    (xsSeq (xsAsg 4 (x2 dMod (xCB dInt (xCons (x2 dAdd (x2 dAdd (x2 dMul (xVarB 0) (xC (.int 48271))) (x2 dMul (xVarB 1) (xC (.int 69621)))) (xC (.int 12345))) xNil)) (xC (.int 2147483647))))
    (xsSeq (xsAsg 5 (x2 dMod (xCB dInt (xCons (x2 dAdd (x2 dAdd (x2 dMul (xVarB 4) (xVarB 4)) (x2 dMul (xVarB 1) (xC (.int 48271)))) (xC (.int 777))) xNil)) (xC (.int 2147483629))))
    (xsSeq (xsAsg 6 (x2 dMod (xCB dInt (xCons (x2 dAdd (x2 dMul (xVarB 5) (xVarB 5)) (xVarB 4)) xNil)) (xC (.int 2147483587))))
    (xsRet (x2 dMod (x2 dFdiv (xVarB 6) (xC (.int 8))) (xVarB 2))))))
def m__law_draw : List Dt → R Dt := funD 3 7 xs__law_draw
theorem ok__law_draw (T : Txt P K mg cl A) : FnOk P w K mg base (L2.CX P w) 1 A._law_draw A._law_draw_d ["_law_cell", "_law_k", "_law_many"] (PureSp K cl m__law_draw) := by
  refine T.F__law_draw.okX sc__law_draw (fun vs H Q E h => h.len) (fun cdv A outer s H vs Q E hr h => ?_)
  have hu := hu_of hr
  exact ⟨_, pss_cons (ps_if (pt_cmpR op_ge (pv 0) (pe_op op_pow pe_int pe_int) (nomark _)) (pss_cons (ps_for (passes_of rfl) rfl (pi_range1 (by rfl) T.z_range (pa_cons (pv 1) pa_nil)) (pg_name (i := 3) sc__law_draw.nd rfl (Or.inl rfl)) (pss_one (ps_set (i := 0) sc__law_draw.nd rfl (Or.inl rfl) (pe_op op_fdivN (pv 0) pe_int))))
    (pss_one (ps_ret (pe_op op_modN (pe_op op_modN (pe_callTy call_intA (by rfl) T.z_int (by decide +kernel) (pa_cons (pv 0) pa_nil)) pe_int) (pv 2))))) pss_nil)
    (pss_cons (ps_set (i := 4) sc__law_draw.nd rfl (Or.inl rfl) (pe_op op_modN (pe_callTy call_intA (by rfl) T.z_int (by decide +kernel) (pa_cons (pe_op op_addA (pe_op op_addA (pe_op op_mul (pv 0) pe_int) (pe_op op_mul (pv 1) pe_int)) pe_int) pa_nil)) pe_int))
    (pss_cons (ps_set (i := 5) sc__law_draw.nd rfl (Or.inl rfl) (pe_op op_modN (pe_callTy call_intA (by rfl) T.z_int (by decide +kernel) (pa_cons (pe_op op_addA (pe_op op_addA (pe_op op_mul (pv 4) (pv 4)) (pe_op op_mul (pv 1) pe_int)) pe_int) pa_nil)) pe_int))
    (pss_cons (ps_set (i := 6) sc__law_draw.nd rfl (Or.inl rfl) (pe_op op_modN (pe_callTy call_intA (by rfl) T.z_int (by decide +kernel) (pa_cons (pe_op op_addA (pe_op op_mul (pv 5) (pv 5)) (pv 4)) pa_nil)) pe_int))
    (pss_one (ps_ret (pe_op op_modN (pe_op op_fdivN (pv 6) pe_int) (pv 2))))))),
    body_ok (xs := xs__law_draw) (k := 3) (ss_seq (ss_if (st_test (sim_op os_ge simB_var (simB_of (sim_op os_pow (simB_of sim_int) (simB_of sim_int))))) (ss_seq (ss_for (si_rng1 (sa_cons sim_var sa_nil)) sg_name (ss_asg (sim_op os_fdiv simB_var (simB_of sim_int))))
    (ss_ret (sim_op os_mod (simB_of (sim_op os_mod (simB_of (sim_cb cs_int (sba_cons simB_var sba_nil))) (simB_of sim_int))) simB_var))) ss_next)
    (ss_seq (ss_asg (sim_op os_mod (simB_of (sim_cb cs_int (sba_cons (simB_of (sim_op os_add (simB_of (sim_op os_add (simB_of (sim_op os_mul simB_var (simB_of sim_int))) (simB_of (sim_op os_mul simB_var (simB_of sim_int))))) (simB_of sim_int))) sba_nil))) (simB_of sim_int)))
    (ss_seq (ss_asg (sim_op os_mod (simB_of (sim_cb cs_int (sba_cons (simB_of (sim_op os_add (simB_of (sim_op os_add (simB_of (sim_op os_mul simB_var simB_var)) (simB_of (sim_op os_mul simB_var (simB_of sim_int))))) (simB_of sim_int))) sba_nil))) (simB_of sim_int)))
    (ss_seq (ss_asg (sim_op os_mod (simB_of (sim_cb cs_int (sba_cons (simB_of (sim_op os_add (simB_of (sim_op os_mul simB_var simB_var)) simB_var)) sba_nil))) (simB_of sim_int)))
    (ss_ret (sim_op os_mod (simB_of (sim_op os_fdiv simB_var (simB_of sim_int))) simB_var)))))) h.len (by decide) h⟩
def N__law_namelist : List Str := ["_law_cell", "_law_many", "_law_alike", "_law_place", "_law_turned", "_law_names", "_law_k", "_law_other", "_law_size", "_law_letters", "_law_word", "_law_j"]
theorem sc__law_namelist : FnScope N__law_namelist ["_law_cell", "_law_many"] (defScope s__law_namelist) := ⟨rfl, rfl, rfl, by decide +kernel, rfl, by decide +kernel, by decide +kernel⟩
def xe__law_namelist_1 (D : Ds) : R Dt := (x2 dIx (xVarB 9) (xCall m__law_draw (xCons (xVar 7) (xCons (x2 dAdd (xC (.int 4)) (xVarB 11)) (xCons (xC (.int 26)) xNil))))) D
def xb__law_namelist_1 (D : Ds) : Out := (xsSeq (xsAsg 7 (xVar 0))
    (xsSeq (xsIf (xNot (xTest (xVar 2))) (xsAsg 7 (x2 dAdd (x2 dAdd (xVarB 0) (xC (.int 1))) (xVarB 6))) xsNext)
    (xsSeq (xsAsg 8 (x2 dAdd (xVarB 3) (xCall m__law_draw (xCons (xVar 7) (xCons (xC (.int 3)) (xCons (x2 dSub (xC (.int 12)) (xVarB 3)) xNil))))))
    (xsSeq (xsAsg 9 (xC (.str "abcdefghijklmnopqrstuvwxyz")))
    (xsSeq (xsAsg 10 (xBMg Dt.isStr dJoin (xC (.str "")) (xCons (xL (xLc (xRng1 (xCons (xVar 8) xNil)) (xgName 11) xYes xe__law_namelist_1 [11])) xNil)))
    (xsApp 5 (x2 dAdd (x2 dAdd (xSlA (xVarB 10) xNo (xPart (xVar 3))) (x2 dIx (xC (.str "mctahzkd")) (x2 dMod (x2 dAdd (xVarB 6) (xVarB 4)) (xC (.int 8))))) (xSlA (xVarB 10) (xPart (xVar 3)) xNo)))))))) D
def xs__law_namelist : XS := xsSeq (xsAsg 2 (x2 dEq (xCall m__law_draw (xCons (xVar 0) (xCons (xC (.int 0)) (xCons (xC (.int 2)) xNil)))) (xC (.int 0))))
    (xsSeq (xsAsg 3 (xCall m__law_draw (xCons (xVar 0) (xCons (xC (.int 1)) (xCons (xC (.int 12)) xNil)))))
    (xsSeq (xsAsg 4 (xCall m__law_draw (xCons (xVar 0) (xCons (xC (.int 2)) (xCons (xC (.int 8)) xNil)))))
    (xsSeq (xsAsgL 5 (xLst xNil))
    (xsSeq (xsFor (xRng1 (xCons (xVar 1) xNil)) (xgName 6) xb__law_namelist_1)
    (xsFrz 5 (xsRet (xVar 5)))))))
def m__law_namelist : List Dt → R Dt := funD 2 12 xs__law_namelist
theorem ok__law_namelist (T : Txt P K mg cl A) : FnOk P w K mg base (L2.CX P w) 2 A._law_namelist A._law_namelist_d ["_law_cell", "_law_many"] (PureSp K cl m__law_namelist) := by
  refine T.F__law_namelist.okX sc__law_namelist (fun vs H Q E h => h.len) (fun cdv A outer s H vs Q E hr h => ?_)
  have hu := hu_of hr
  exact ⟨_, pss_cons (ps_set (i := 2) sc__law_namelist.nd rfl (Or.inl rfl) (pe_cmpR (op_eqP hr.units) (pe_callSD (ok__law_draw T) (hr.mono (by decide)) (by rfl) T.g__law_draw T.F__law_draw.kp T.b__law_draw .nil (passAt (takes_of rfl rfl rfl rfl)) (pa_cons (pv 0) (pa_cons pe_int (pa_cons pe_int pa_nil)))) pe_int (nomark _)))
    (pss_cons (ps_set (i := 3) sc__law_namelist.nd rfl (Or.inl rfl) (pe_callSD (ok__law_draw T) (hr.mono (by decide)) (by rfl) T.g__law_draw T.F__law_draw.kp T.b__law_draw .nil (passAt (takes_of rfl rfl rfl rfl)) (pa_cons (pv 0) (pa_cons pe_int (pa_cons pe_int pa_nil)))))
    (pss_cons (ps_set (i := 4) sc__law_namelist.nd rfl (Or.inl rfl) (pe_callSD (ok__law_draw T) (hr.mono (by decide)) (by rfl) T.g__law_draw T.F__law_draw.kp T.b__law_draw .nil (passAt (takes_of rfl rfl rfl rfl)) (pa_cons (pv 0) (pa_cons pe_int (pa_cons pe_int pa_nil)))))
    (pss_cons (ps_set (i := 5) sc__law_namelist.nd rfl (Or.inl rfl) (pe_lst pa_nil))
    (pss_cons (ps_for (passes_of rfl) rfl (pi_range1 (by rfl) T.z_range (pa_cons (pv 1) pa_nil)) (pg_name (i := 6) sc__law_namelist.nd rfl (Or.inl rfl)) (pss_cons (ps_set (i := 7) sc__law_namelist.nd rfl (Or.inr rfl) (pv 0))
    (pss_cons (ps_if (pt_not (pt_val (pv 2))) (pss_one (ps_set (i := 7) sc__law_namelist.nd rfl (Or.inr rfl) (pe_op op_addA (pe_op op_addA (pv 0) pe_int) (pv 6)))) pss_nil)
    (pss_cons (ps_set (i := 8) sc__law_namelist.nd rfl (Or.inl rfl) (pe_op op_addA (pv 3) (pe_callSD (ok__law_draw T) (hr.mono (by decide)) (by rfl) T.g__law_draw T.F__law_draw.kp T.b__law_draw .nil (passAt (takes_of rfl rfl rfl rfl)) (pa_cons (pv 7) (pa_cons pe_int (pa_cons (pe_op op_sub pe_int (pv 3)) pa_nil))))))
    (pss_cons (ps_set (i := 9) sc__law_namelist.nd rfl (Or.inr rfl) pe_str)
    (pss_cons (ps_set (i := 10) sc__law_namelist.nd rfl (Or.inl rfl) (pe_bm PySem.F.plainAttrs_str PySem.F.slot_str_join PySem.F.type_str_join mt_joinA pe_str (pa_cons (pe_lc (own := [("_law_j", 11)]) rfl sc__law_namelist.nd (pi_range1 (by rfl) T.z_range (pa_cons (pv 8) pa_nil)) (blkOk_by (N := N__law_namelist) (sc := defScope s__law_namelist) (by decide +kernel)) (fun _ _ _ _ _ => pg_name (i := 11) sc__law_namelist.nd rfl (Or.inl rfl)) (fun _ _ _ _ _ => pts_nil) (fun _ _ _ _ _ => pe_ix ix_seq (pv 9) (pe_callSD (ok__law_draw T) (hr.mono (by decide)) (by rfl) T.g__law_draw T.F__law_draw.kp T.b__law_draw .nil passB (pa_cons (pv 7) (pa_cons (pe_op op_addA pe_int (pv 11)) (pa_cons pe_int pa_nil)))) (fun _ _ => rfl))) pa_nil)))
    (pss_one (ps_expr (pe_bm PySem.F.plainAttrs_list PySem.F.slot_list_append PySem.F.type_list_append mt_append (pv 5) (pa_cons (pe_op op_addA (pe_op op_addA (pe_slice sl_A (pv 10) po_none (po_some (pv 3))) (pe_ix ix_seq pe_str (pe_op op_modN (pe_op op_addA (pv 6) (pv 4)) pe_int) (fun _ _ => rfl))) (pe_slice sl_A (pv 10) (po_some (pv 3)) po_none)) pa_nil))))))))))
    (pss_one (ps_ret (pv 5))))))),
    body_ok (xs := xs__law_namelist) (k := 2) (ss_seq (ss_asg (sim_op os_eq (simB_of (simS_call (sa_cons sim_var (sa_cons sim_int (sa_cons sim_int sa_nil))))) (simB_of sim_int)))
    (ss_seq (ss_asg (simS_call (sa_cons sim_var (sa_cons sim_int (sa_cons sim_int sa_nil)))))
    (ss_seq (ss_asg (simS_call (sa_cons sim_var (sa_cons sim_int (sa_cons sim_int sa_nil)))))
    (ss_seq (ss_asgL (simL_lst sa_nil))
    (ss_seq (ss_for (si_rng1 (sa_cons sim_var sa_nil)) sg_name (ss_seq (ss_asg sim_var)
    (ss_seq (ss_if (st_not (st_B sim_var)) (ss_asg (sim_op os_add (simB_of (sim_op os_add simB_var (simB_of sim_int))) simB_var)) ss_next)
    (ss_seq (ss_asg (sim_op os_add simB_var (simB_of (simS_call (sa_cons sim_var (sa_cons sim_int (sa_cons (sim_op os_sub (simB_of sim_int) simB_var) sa_nil)))))))
    (ss_seq (ss_asg sim_str)
    (ss_seq (ss_asg (sim_bm ty_str ms_join (simB_of sim_str) (sba_cons (simB_of (sim_L (simL_lc (si_rng1 (sa_cons sim_var sa_nil)) (sgw_name (by decide)) st_yes (sim_op os_ix simB_var (simB_of (simS_call (sa_cons sim_var (sa_cons (sim_op os_add (simB_of sim_int) simB_var) (sa_cons sim_int sa_nil))))))))) sba_nil)))
    (ss_app (sim_op os_add (simB_of (sim_op os_add (simB_of (sim_slA simB_var so_no (so_part sim_var))) (simB_of (sim_op os_ix (simB_of sim_str) (simB_of (sim_op os_mod (simB_of (sim_op os_add simB_var simB_var)) (simB_of sim_int))))))) (simB_of (sim_slA simB_var (so_part sim_var) so_no))))))))))
    (ss_frz (i := 5) (ss_ret sim_var))))))) h.len (by decide) h⟩
def N__law_rawlist : List Str := ["_law_script", "_law_at", "_law_many", "_law_names", "_law_raw", "_law_k", "_law_cell", "_law_beat", "_law_amount"]
theorem sc__law_rawlist : FnScope N__law_rawlist ["_law_script", "_law_at", "_law_many", "_law_names"] (defScope s__law_rawlist) := ⟨rfl, rfl, rfl, by decide +kernel, rfl, by decide +kernel, by decide +kernel⟩
def xb__law_rawlist_1 (D : Ds) : Out := (xsSeq (xsAsg 6 (x2 dAdd (xCall m__law_pick (xCons (xVar 0) (xCons (x2 dAdd (xVarB 1) (xVarB 5)) xNil))) (xVarB 5)))
    (xsSeq (xsAsg 7 (xCall m__law_draw (xCons (xVar 6) (xCons (xC (.int 0)) (xCons (x2 dIx (xL (xLst (xCons (xC (.int 1)) (xCons (xC (.int 3)) (xCons (xC (.int 31)) xNil))))) (xCall m__law_draw (xCons (xVar 6) (xCons (xC (.int 1)) (xCons (xC (.int 3)) xNil))))) xNil)))))
    (xsSeq (xsAsg 8 (x2 dAdd (xC (.int 1)) (xCall m__law_draw (xCons (xVar 6) (xCons (xC (.int 2)) (xCons (x2 dIx (xL (xLst (xCons (xC (.int 1)) (xCons (xC (.int 4)) (xCons (xC (.int 1000)) xNil))))) (xCall m__law_draw (xCons (xVar 6) (xCons (xC (.int 3)) (xCons (xC (.int 3)) xNil))))) xNil))))))
    (xsApp 4 (xTup (xCons (xVar 7) (xCons (x2 dIx (xVarB 3) (xCall m__law_draw (xCons (xVar 6) (xCons (xC (.int 4)) (xCons (xCB dLen (xCons (xVarB 3) xNil)) xNil))))) (xCons (xVar 8) xNil)))))))) D
def xs__law_rawlist : XS := xsSeq (xsAsgL 4 (xLst xNil))
    (xsSeq (xsFor (xRng1 (xCons (xVar 2) xNil)) (xgName 5) xb__law_rawlist_1)
    (xsFrz 4 (xsRet (xVar 4))))
def m__law_rawlist : List Dt → R Dt := funD 4 9 xs__law_rawlist
theorem ok__law_rawlist (T : Txt P K mg cl A) : FnOk P w K mg base (L2.CX P w) 2 A._law_rawlist A._law_rawlist_d ["_law_script", "_law_at", "_law_many", "_law_names"] (PureSp K cl m__law_rawlist) := by
  refine T.F__law_rawlist.okX sc__law_rawlist (fun vs H Q E h => h.len) (fun cdv A outer s H vs Q E hr h => ?_)
  have hu := hu_of hr
  exact ⟨_, pss_cons (ps_set (i := 4) sc__law_rawlist.nd rfl (Or.inl rfl) (pe_lst pa_nil))
    (pss_cons (ps_for (passes_of rfl) rfl (pi_range1 (by rfl) T.z_range (pa_cons (pv 2) pa_nil)) (pg_name (i := 5) sc__law_rawlist.nd rfl (Or.inl rfl)) (pss_cons (ps_set (i := 6) sc__law_rawlist.nd rfl (Or.inl rfl) (pe_op op_addA (pe_callSD (ok__law_pick T) (hr.mono (by decide)) (by rfl) T.g__law_pick T.F__law_pick.kp T.b__law_pick .nil (passAt (takes_of rfl rfl rfl rfl)) (pa_cons (pv 0) (pa_cons (pe_op op_addA (pv 1) (pv 5)) pa_nil))) (pv 5)))
    (pss_cons (ps_set (i := 7) sc__law_rawlist.nd rfl (Or.inl rfl) (pe_callSD (ok__law_draw T) (hr.mono (by decide)) (by rfl) T.g__law_draw T.F__law_draw.kp T.b__law_draw .nil (passAt (takes_of rfl rfl rfl rfl)) (pa_cons (pv 6) (pa_cons pe_int (pa_cons (pe_ix ix_seq (pe_lst (pa_cons pe_int (pa_cons pe_int (pa_cons pe_int pa_nil)))) (pe_callSD (ok__law_draw T) (hr.mono (by decide)) (by rfl) T.g__law_draw T.F__law_draw.kp T.b__law_draw .nil (passAt (takes_of rfl rfl rfl rfl)) (pa_cons (pv 6) (pa_cons pe_int (pa_cons pe_int pa_nil)))) (fun _ _ => rfl)) pa_nil)))))
    (pss_cons (ps_set (i := 8) sc__law_rawlist.nd rfl (Or.inl rfl) (pe_op op_addA pe_int (pe_callSD (ok__law_draw T) (hr.mono (by decide)) (by rfl) T.g__law_draw T.F__law_draw.kp T.b__law_draw .nil (passAt (takes_of rfl rfl rfl rfl)) (pa_cons (pv 6) (pa_cons pe_int (pa_cons (pe_ix ix_seq (pe_lst (pa_cons pe_int (pa_cons pe_int (pa_cons pe_int pa_nil)))) (pe_callSD (ok__law_draw T) (hr.mono (by decide)) (by rfl) T.g__law_draw T.F__law_draw.kp T.b__law_draw .nil (passAt (takes_of rfl rfl rfl rfl)) (pa_cons (pv 6) (pa_cons pe_int (pa_cons pe_int pa_nil)))) (fun _ _ => rfl)) pa_nil))))))
    (pss_one (ps_expr (pe_bm PySem.F.plainAttrs_list PySem.F.slot_list_append PySem.F.type_list_append mt_append (pv 4) (pa_cons (pe_tup (pa_cons (pv 7) (pa_cons (pe_ix ix_seq (pv 3) (pe_callSD (ok__law_draw T) (hr.mono (by decide)) (by rfl) T.g__law_draw T.F__law_draw.kp T.b__law_draw .nil (passAt (takes_of rfl rfl rfl rfl)) (pa_cons (pv 6) (pa_cons pe_int (pa_cons (pe_callB call_lenA (by rfl) T.z_len (by decide +kernel) (pa_cons (pv 3) pa_nil)) pa_nil)))) (fun _ _ => rfl)) (pa_cons (pv 8) pa_nil)))) pa_nil))))))))
    (pss_one (ps_ret (pv 4)))),
    body_ok (xs := xs__law_rawlist) (k := 4) (ss_seq (ss_asgL (simL_lst sa_nil))
    (ss_seq (ss_for (si_rng1 (sa_cons sim_var sa_nil)) sg_name (ss_seq (ss_asg (sim_op os_add (simB_of (simS_call (sa_cons sim_var (sa_cons (sim_op os_add simB_var simB_var) sa_nil)))) simB_var))
    (ss_seq (ss_asg (simS_call (sa_cons sim_var (sa_cons sim_int (sa_cons (sim_op os_ix (simB_of (sim_L (simL_lst (sa_cons sim_int (sa_cons sim_int (sa_cons sim_int sa_nil)))))) (simB_of (simS_call (sa_cons sim_var (sa_cons sim_int (sa_cons sim_int sa_nil)))))) sa_nil)))))
    (ss_seq (ss_asg (sim_op os_add (simB_of sim_int) (simB_of (simS_call (sa_cons sim_var (sa_cons sim_int (sa_cons (sim_op os_ix (simB_of (sim_L (simL_lst (sa_cons sim_int (sa_cons sim_int (sa_cons sim_int sa_nil)))))) (simB_of (simS_call (sa_cons sim_var (sa_cons sim_int (sa_cons sim_int sa_nil)))))) sa_nil)))))))
    (ss_app (sim_tup (sa_cons sim_var (sa_cons (sim_op os_ix simB_var (simB_of (simS_call (sa_cons sim_var (sa_cons sim_int (sa_cons (sim_cb cs_len (sba_cons simB_var sba_nil)) sa_nil)))))) (sa_cons sim_var sa_nil)))))))))
    (ss_frz (i := 4) (ss_ret sim_var)))) h.len (by decide) h⟩
def N__law_worth : List Str := ["_law_cell", "_law_small"]
theorem sc__law_worth : FnScope N__law_worth ["_law_cell", "_law_small"] (defScope s__law_worth) := ⟨rfl, rfl, rfl, by decide +kernel, rfl, by decide +kernel, by decide +kernel⟩
def xs__law_worth : XS := xsSeq (xsIf (xTest (xVar 1)) (xsRet (x2 dSub (xCall m__law_draw (xCons (xVar 0) (xCons (xC (.int 0)) (xCons (xC (.int 19)) xNil)))) (xC (.int 9)))) xsNext)
    (xsRet (x2 dSub (x2 dMod (xCB dInt (xCons (x2 dAdd (x2 dMul (xVarB 0) (xC (.int 1000003))) (xC (.int 7919))) xNil)) (x2 dAdd (x2 dMul (xC (.int 2)) (x2 dPow (xC (.int 10)) (xC (.int 12)))) (xC (.int 1)))) (x2 dPow (xC (.int 10)) (xC (.int 12)))))
def m__law_worth : List Dt → R Dt := funD 2 2 xs__law_worth
theorem ok__law_worth (T : Txt P K mg cl A) : FnOk P w K mg base (L2.CX P w) 2 A._law_worth A._law_worth_d ["_law_cell", "_law_small"] (PureSp K cl m__law_worth) := by
  refine T.F__law_worth.okX sc__law_worth (fun vs H Q E h => h.len) (fun cdv A outer s H vs Q E hr h => ?_)
  have hu := hu_of hr
  exact ⟨_, pss_cons (ps_if (pt_val (pv 1)) (pss_one (ps_ret (pe_op op_sub (pe_callSD (ok__law_draw T) (hr.mono (by decide)) (by rfl) T.g__law_draw T.F__law_draw.kp T.b__law_draw .nil (passAt (takes_of rfl rfl rfl rfl)) (pa_cons (pv 0) (pa_cons pe_int (pa_cons pe_int pa_nil)))) pe_int))) pss_nil)
    (pss_one (ps_ret (pe_op op_sub (pe_op op_modN (pe_callTy call_intA (by rfl) T.z_int (by decide +kernel) (pa_cons (pe_op op_addA (pe_op op_mul (pv 0) pe_int) pe_int) pa_nil)) (pe_op op_addA (pe_op op_mul pe_int (pe_op op_pow pe_int pe_int)) pe_int)) (pe_op op_pow pe_int pe_int)))),
    body_ok (xs := xs__law_worth) (k := 2) (ss_seq (ss_if (st_B sim_var) (ss_ret (sim_op os_sub (simB_of (simS_call (sa_cons sim_var (sa_cons sim_int (sa_cons sim_int sa_nil))))) (simB_of sim_int))) ss_next)
    (ss_ret (sim_op os_sub (simB_of (sim_op os_mod (simB_of (sim_cb cs_int (sba_cons (simB_of (sim_op os_add (simB_of (sim_op os_mul simB_var (simB_of sim_int))) (simB_of sim_int))) sba_nil))) (simB_of (sim_op os_add (simB_of (sim_op os_mul (simB_of sim_int) (simB_of (sim_op os_pow (simB_of sim_int) (simB_of sim_int))))) (simB_of sim_int))))) (simB_of (sim_op os_pow (simB_of sim_int) (simB_of sim_int)))))) h.len (by decide) h⟩
def N__law_merge : List Str := ["_law_raw", "_law_needs", "_law_need", "_law_at"]
theorem sc__law_merge : FnScope N__law_merge ["_law_raw"] (defScope s__law_merge) := ⟨rfl, rfl, rfl, by decide +kernel, rfl, by decide +kernel, by decide +kernel⟩
def xt__law_merge_1 (D : Ds) : R Bool := (xAnd (xTest (x2 dLtI (xVarB 3) (xCB dLen (xCons (xVarB 1) xNil)))) (xTest (x2 dLtK (xTup (xCons (x2 dIx (x2 dIx (xVarB 1) (xVarB 3)) (xC (.int 0))) (xCons (x2 dIx (x2 dIx (xVarB 1) (xVarB 3)) (xC (.int 1))) xNil))) (xTup (xCons (x2 dIx (xVarB 2) (xC (.int 0))) (xCons (x2 dIx (xVarB 2) (xC (.int 1))) xNil)))))) D
def xb__law_merge_1 (D : Ds) : Out := (xsAsg 3 (x2 dAdd (xVarB 3) (xC (.int 1)))) D
def xb__law_merge_2 (D : Ds) : Out := (xsSeq (xsAsg 3 (xC (.int 0)))
    (xsSeq (xWh xt__law_merge_1 xb__law_merge_1 100)
    (xsIf (xAnd (xTest (x2 dLtI (xVarB 3) (xCB dLen (xCons (xVarB 1) xNil)))) (xAnd (xTest (x2 dEq (x2 dIx (x2 dIx (xVarB 1) (xVarB 3)) (xC (.int 0))) (x2 dIx (xVarB 2) (xC (.int 0))))) (xTest (x2 dEq (x2 dIx (x2 dIx (xVarB 1) (xVarB 3)) (xC (.int 1))) (x2 dIx (xVarB 2) (xC (.int 1))))))) (xsSetL 1 (xVar 3) (xTup (xCons (x2 dIx (xVarB 2) (xC (.int 0))) (xCons (x2 dIx (xVarB 2) (xC (.int 1))) (xCons (x2 dAdd (x2 dIx (x2 dIx (xVarB 1) (xVarB 3)) (xC (.int 2))) (x2 dIx (xVarB 2) (xC (.int 2)))) xNil))))) (xsIns 1 (xVar 3) (xVar 2))))) D
def xs__law_merge : XS := xsSeq (xsAsgL 1 (xLst xNil))
    (xsSeq (xsFor (xItems (xVar 0)) (xgName 2) xb__law_merge_2)
    (xsFrz 1 (xsRet (xVar 1))))
def m__law_merge : List Dt → R Dt := funD 1 4 xs__law_merge
theorem ok__law_merge (T : Txt P K mg cl A) : FnOk P w K mg base (L2.CX P w) 1 A._law_merge A._law_merge_d ["_law_raw"] (PureSp K cl m__law_merge) := by
  refine T.F__law_merge.okX sc__law_merge (fun vs H Q E h => h.len) (fun cdv A outer s H vs Q E hr h => ?_)
  have hu := hu_of hr
  exact ⟨_, pss_cons (ps_set (i := 1) sc__law_merge.nd rfl (Or.inl rfl) (pe_lst pa_nil))
    (pss_cons (ps_for (passes_of rfl) rfl (pi_list (pv 0)) (pg_name (i := 2) sc__law_merge.nd rfl (Or.inl rfl)) (pss_cons (ps_set (i := 3) sc__law_merge.nd rfl (Or.inl rfl) pe_int)
    (pss_cons (ps_while (passes_of rfl) (PW.pt (pw_and (pt_cmpR op_lt (pv 3) (pe_callB call_lenA (by rfl) T.z_len (by decide +kernel) (pa_cons (pv 1) pa_nil)) (nomark _)) (pw_and1 (pt_cmpR (op_ltK hr.units0) (pe_tup (pa_cons (pe_ix ix_seq (pe_ix ix_seq (pv 1) (pv 3) (fun _ _ => rfl)) pe_int (fun _ _ => rfl)) (pa_cons (pe_ix ix_seq (pe_ix ix_seq (pv 1) (pv 3) (fun _ _ => rfl)) pe_int (fun _ _ => rfl)) pa_nil))) (pe_tup (pa_cons (pe_ix ix_seq (pv 2) pe_int (fun _ _ => rfl)) (pa_cons (pe_ix ix_seq (pv 2) pe_int (fun _ _ => rfl)) pa_nil))) (nomark _))))) (pss_one (ps_set (i := 3) sc__law_merge.nd rfl (Or.inl rfl) (pe_op op_addA (pv 3) pe_int))))
    (pss_one (ps_if (PW.pt (pw_and (pt_cmpR op_lt (pv 3) (pe_callB call_lenA (by rfl) T.z_len (by decide +kernel) (pa_cons (pv 1) pa_nil)) (nomark _)) (pw_and (pt_cmpR (op_eqP hr.units) (pe_ix ix_seq (pe_ix ix_seq (pv 1) (pv 3) (fun _ _ => rfl)) pe_int (fun _ _ => rfl)) (pe_ix ix_seq (pv 2) pe_int (fun _ _ => rfl)) (nomark _)) (pw_and1 (pt_cmpR (op_eqP hr.units) (pe_ix ix_seq (pe_ix ix_seq (pv 1) (pv 3) (fun _ _ => rfl)) pe_int (fun _ _ => rfl)) (pe_ix ix_seq (pv 2) pe_int (fun _ _ => rfl)) (nomark _)))))) (pss_one (ps_asg (pe_tup (pa_cons (pe_ix ix_seq (pv 2) pe_int (fun _ _ => rfl)) (pa_cons (pe_ix ix_seq (pv 2) pe_int (fun _ _ => rfl)) (pa_cons (pe_op op_addA (pe_ix ix_seq (pe_ix ix_seq (pv 1) (pv 3) (fun _ _ => rfl)) pe_int (fun _ _ => rfl)) (pe_ix ix_seq (pv 2) pe_int (fun _ _ => rfl))) pa_nil)))) (pg_sub (pv 1) (pv 3) set_list))) (pss_one (ps_expr (pe_bm PySem.F.plainAttrs_list PySem.F.slot_list_insert PySem.F.type_list_insert mt_insertA (pv 1) (pa_cons (pv 3) (pa_cons (pv 2) pa_nil))))))))))
    (pss_one (ps_ret (pv 1)))),
    body_ok (xs := xs__law_merge) (k := 1) (ss_seq (ss_asgL (simL_lst sa_nil))
    (ss_seq (ss_for (si_list sim_var) sg_name (ss_seq (ss_asg sim_int)
    (ss_seq (ss_while 100 (st_and (st_test (sim_op os_ltI simB_var (simB_of (sim_cb cs_len (sba_cons simB_var sba_nil))))) (st_test (sim_op os_ltK (simB_of (sim_tup (sa_cons (sim_op os_ix (simB_of (sim_op os_ix simB_var simB_var)) (simB_of sim_int)) (sa_cons (sim_op os_ix (simB_of (sim_op os_ix simB_var simB_var)) (simB_of sim_int)) sa_nil)))) (simB_of (sim_tup (sa_cons (sim_op os_ix simB_var (simB_of sim_int)) (sa_cons (sim_op os_ix simB_var (simB_of sim_int)) sa_nil))))))) (ss_asg (sim_op os_add simB_var (simB_of sim_int))))
    (ss_if (st_and (st_test (sim_op os_ltI simB_var (simB_of (sim_cb cs_len (sba_cons simB_var sba_nil))))) (st_and (st_test (sim_op os_eq (simB_of (sim_op os_ix (simB_of (sim_op os_ix simB_var simB_var)) (simB_of sim_int))) (simB_of (sim_op os_ix simB_var (simB_of sim_int))))) (st_test (sim_op os_eq (simB_of (sim_op os_ix (simB_of (sim_op os_ix simB_var simB_var)) (simB_of sim_int))) (simB_of (sim_op os_ix simB_var (simB_of sim_int))))))) (ss_setL sim_var (sim_tup (sa_cons (sim_op os_ix simB_var (simB_of sim_int)) (sa_cons (sim_op os_ix simB_var (simB_of sim_int)) (sa_cons (sim_op os_add (simB_of (sim_op os_ix (simB_of (sim_op os_ix simB_var simB_var)) (simB_of sim_int))) (simB_of (sim_op os_ix simB_var (simB_of sim_int)))) sa_nil))))) (ss_ins sim_var sim_var)))))
    (ss_frz (i := 1) (ss_ret sim_var)))) h.len (by decide) h⟩
def N__law_broad : List Str := ["_law_script", "_law_least", "_law_cell", "_law_many", "_law_names", "_law_numbers", "_law_menu", "_law_k", "_law_raw", "_law_worths", "_law_need"]
theorem sc__law_broad : FnScope N__law_broad ["_law_script", "_law_least"] (defScope s__law_broad) := ⟨rfl, rfl, rfl, by decide +kernel, rfl, by decide +kernel, by decide +kernel⟩
def xe__law_broad_1 (D : Ds) : R Dt := (xCall m__law_draw (xCons (xCall m__law_pick (xCons (xVar 0) (xCons (xC (.int 2)) xNil))) (xCons (xVar 7) (xCons (x2 dIx (xL (xLst (xCons (xC (.int 4)) (xCons (xC (.int 1001)) xNil)))) (xCall m__law_draw (xCons (xVar 2) (xCons (xC (.int 1)) (xCons (xC (.int 2)) xNil))))) xNil)))) D
def xe__law_broad_2 (D : Ds) : R Dt := (xTup (xCons (x2 dAdd (x2 dIx (xVarB 10) (xC (.int 0))) (xC (.int 70))) (xCons (x2 dIx (xVarB 10) (xC (.int 1))) (xCons (x2 dIx (xVarB 10) (xC (.int 2))) xNil)))) D
def xb__law_broad_1 (D : Ds) : Out := (xsSeq (xsAsg 8 (xCall m__law_rawlist (xCons (xVar 0) (xCons (x2 dAdd (xC (.int 3)) (x2 dMul (xC (.int 4)) (xVarB 7))) (xCons (x2 dAdd (xC (.int 1)) (xCall m__law_draw (xCons (xVar 2) (xCons (x2 dAdd (xC (.int 3)) (xVarB 7)) (xCons (xC (.int 4)) xNil))))) (xCons (xSlA (xVarB 4) xNo (xPart (xCB dMax2 (xCons (xC (.int 1)) (xCons (xVarB 3) xNil))))) xNil))))))
    (xsSeq (xsAsg 9 (xL (xLst (xCons (xCall m__law_worth (xCons (xCall m__law_pick (xCons (xVar 0) (xCons (x2 dAdd (xC (.int 3)) (xVarB 7)) xNil))) (xCons (xC (.bl true)) xNil))) (xCons (xCall m__law_worth (xCons (xCall m__law_pick (xCons (xVar 0) (xCons (x2 dAdd (xC (.int 4)) (xVarB 7)) xNil))) (xCons (xC (.bl false)) xNil))) xNil)))))
    (xsSeq (xsIf (xAnd (xTest (x2 dEq (xVarB 7) (xC (.int 0)))) (xTest (x2 dEq (xCall m__law_draw (xCons (xVar 2) (xCons (xC (.int 11)) (xCons (xC (.int 8)) xNil)))) (xC (.int 0))))) (xsAsg 8 (xL (xLc (xItems (xVar 8)) (xgName 10) xYes xe__law_broad_2 [10]))) xsNext)
    (xsApp 6 (xL (xLst (xCons (x2 dIx (xVarB 4) (x2 dMod (x2 dAdd (xVarB 7) (xC (.int 3))) (xC (.int 7)))) (xCons (x2 dIx (xVarB 9) (xC (.int 0))) (xCons (x2 dIx (xVarB 9) (xC (.int 1))) (xCons (xCall m__law_merge (xCons (xVar 8) xNil)) xNil)))))))))) D
def xs__law_broad : XS := xsSeq (xsAsg 2 (xCall m__law_pick (xCons (xVar 0) (xCons (xC (.int 0)) xNil))))
    (xsSeq (xsAsg 3 (x2 dAdd (xVarB 1) (xCall m__law_draw (xCons (xVar 2) (xCons (xC (.int 0)) (xCons (x2 dSub (xC (.int 7)) (xVarB 1)) xNil))))))
    (xsSeq (xsAsg 4 (xCall m__law_namelist (xCons (xCall m__law_pick (xCons (xVar 0) (xCons (xC (.int 1)) xNil))) (xCons (xC (.int 7)) xNil))))
    (xsSeq (xsAsg 5 (xL (xLc (xRng1 (xCons (xVar 3) xNil)) (xgName 7) xYes xe__law_broad_1 [7])))
    (xsSeq (xsAsgL 6 (xLst xNil))
    (xsSeq (xsFor (xRng1 (xCons (x2 dMul (xCall m__law_draw (xCons (xVar 2) (xCons (xC (.int 2)) (xCons (xC (.int 9)) xNil)))) (xCB dMin2 (xCons (xC (.int 1)) (xCons (xVarB 3) xNil)))) xNil)) (xgName 7) xb__law_broad_1)
    (xsFrz 6 (xsRet (xL (xLst (xCons (xSlA (xVarB 4) xNo (xPart (xVar 3))) (xCons (xVar 5) (xCons (xVar 6) xNil))))))))))))
def m__law_broad : List Dt → R Dt := funD 2 11 xs__law_broad
theorem ok__law_broad (T : Txt P K mg cl A) : FnOk P w K mg base (L2.CX P w) 3 A._law_broad A._law_broad_d ["_law_script", "_law_least"] (PureSp K cl m__law_broad) := by
  refine T.F__law_broad.okX sc__law_broad (fun vs H Q E h => h.len) (fun cdv A outer s H vs Q E hr h => ?_)
  have hu := hu_of hr
  exact ⟨_, pss_cons (ps_set (i := 2) sc__law_broad.nd rfl (Or.inr rfl) (pe_callSD (ok__law_pick T) (hr.mono (by decide)) (by rfl) T.g__law_pick T.F__law_pick.kp T.b__law_pick .nil (passAt (takes_of rfl rfl rfl rfl)) (pa_cons (pv 0) (pa_cons pe_int pa_nil))))
    (pss_cons (ps_set (i := 3) sc__law_broad.nd rfl (Or.inl rfl) (pe_op op_addA (pv 1) (pe_callSD (ok__law_draw T) (hr.mono (by decide)) (by rfl) T.g__law_draw T.F__law_draw.kp T.b__law_draw .nil (passAt (takes_of rfl rfl rfl rfl)) (pa_cons (pv 2) (pa_cons pe_int (pa_cons (pe_op op_sub pe_int (pv 1)) pa_nil))))))
    (pss_cons (ps_set (i := 4) sc__law_broad.nd rfl (Or.inl rfl) (pe_callSD (ok__law_namelist T) (hr.mono (by decide)) (by rfl) T.g__law_namelist T.F__law_namelist.kp T.b__law_namelist .nil (passAt (takes_of rfl rfl rfl rfl)) (pa_cons (pe_callSD (ok__law_pick T) (hr.mono (by decide)) (by rfl) T.g__law_pick T.F__law_pick.kp T.b__law_pick .nil (passAt (takes_of rfl rfl rfl rfl)) (pa_cons (pv 0) (pa_cons pe_int pa_nil))) (pa_cons pe_int pa_nil))))
    (pss_cons (ps_setLc (i := 5) (own := [("_law_k", 7)]) rfl sc__law_broad.nd rfl rfl (sw_true rfl rfl rfl (by decide +kernel)) (pi_range1 (by rfl) T.z_range (pa_cons (pv 3) pa_nil)) (blkOk_by (N := N__law_broad) (sc := defScope s__law_broad) (by decide +kernel)) (fun _ _ _ _ _ => pg_name (i := 7) sc__law_broad.nd rfl (Or.inl rfl)) (fun _ _ _ _ _ => pts_nil) (fun _ _ _ _ _ => pe_callSD (ok__law_draw T) (hr.mono (by decide)) (by rfl) T.g__law_draw T.F__law_draw.kp T.b__law_draw .nil passB (pa_cons (pe_callSD (ok__law_pick T) (hr.mono (by decide)) (by rfl) T.g__law_pick T.F__law_pick.kp T.b__law_pick .nil passB (pa_cons (pv 0) (pa_cons pe_int pa_nil))) (pa_cons (pv 7) (pa_cons (pe_ix ix_seq (pe_lst (pa_cons pe_int (pa_cons pe_int pa_nil))) (pe_callSD (ok__law_draw T) (hr.mono (by decide)) (by rfl) T.g__law_draw T.F__law_draw.kp T.b__law_draw .nil passB (pa_cons (pv 2) (pa_cons pe_int (pa_cons pe_int pa_nil)))) (fun _ _ => rfl)) pa_nil)))))
    (pss_cons (ps_set (i := 6) sc__law_broad.nd rfl (Or.inl rfl) (pe_lst pa_nil))
    (pss_cons (ps_for (passes_of rfl) rfl (pi_range1 (by rfl) T.z_range (pa_cons (pe_op op_mul (pe_callSD (ok__law_draw T) (hr.mono (by decide)) (by rfl) T.g__law_draw T.F__law_draw.kp T.b__law_draw .nil (passAt (takes_of rfl rfl rfl rfl)) (pa_cons (pv 2) (pa_cons pe_int (pa_cons pe_int pa_nil)))) (pe_callB (call_min2A rfl) (by rfl) T.z_min (by decide +kernel) (pa_cons pe_int (pa_cons (pv 3) pa_nil)))) pa_nil)) (pg_name (i := 7) sc__law_broad.nd rfl (Or.inl rfl)) (pss_cons (ps_set (i := 8) sc__law_broad.nd rfl (Or.inl rfl) (pe_callSD (ok__law_rawlist T) (hr.mono (by decide)) (by rfl) T.g__law_rawlist T.F__law_rawlist.kp T.b__law_rawlist .nil (passAt (takes_of rfl rfl rfl rfl)) (pa_cons (pv 0) (pa_cons (pe_op op_addA pe_int (pe_op op_mul pe_int (pv 7))) (pa_cons (pe_op op_addA pe_int (pe_callSD (ok__law_draw T) (hr.mono (by decide)) (by rfl) T.g__law_draw T.F__law_draw.kp T.b__law_draw .nil (passAt (takes_of rfl rfl rfl rfl)) (pa_cons (pv 2) (pa_cons (pe_op op_addA pe_int (pv 7)) (pa_cons pe_int pa_nil))))) (pa_cons (pe_slice sl_A (pv 4) po_none (po_some (pe_callB (call_max2A rfl) (by rfl) T.z_max (by decide +kernel) (pa_cons pe_int (pa_cons (pv 3) pa_nil))))) pa_nil))))))
    (pss_cons (ps_set (i := 9) sc__law_broad.nd rfl (Or.inl rfl) (pe_lst (pa_cons (pe_callSD (ok__law_worth T) (hr.mono (by decide)) (by rfl) T.g__law_worth T.F__law_worth.kp T.b__law_worth .nil (passAt (takes_of rfl rfl rfl rfl)) (pa_cons (pe_callSD (ok__law_pick T) (hr.mono (by decide)) (by rfl) T.g__law_pick T.F__law_pick.kp T.b__law_pick .nil (passAt (takes_of rfl rfl rfl rfl)) (pa_cons (pv 0) (pa_cons (pe_op op_addA pe_int (pv 7)) pa_nil))) (pa_cons pe_bl pa_nil))) (pa_cons (pe_callSD (ok__law_worth T) (hr.mono (by decide)) (by rfl) T.g__law_worth T.F__law_worth.kp T.b__law_worth .nil (passAt (takes_of rfl rfl rfl rfl)) (pa_cons (pe_callSD (ok__law_pick T) (hr.mono (by decide)) (by rfl) T.g__law_pick T.F__law_pick.kp T.b__law_pick .nil (passAt (takes_of rfl rfl rfl rfl)) (pa_cons (pv 0) (pa_cons (pe_op op_addA pe_int (pv 7)) pa_nil))) (pa_cons pe_bl pa_nil))) pa_nil))))
    (pss_cons (ps_if (PW.pt (pw_and (pt_cmpR (op_eqP hr.units) (pv 7) pe_int (nomark _)) (pw_and1 (pt_cmpR (op_eqP hr.units) (pe_callSD (ok__law_draw T) (hr.mono (by decide)) (by rfl) T.g__law_draw T.F__law_draw.kp T.b__law_draw .nil (passAt (takes_of rfl rfl rfl rfl)) (pa_cons (pv 2) (pa_cons pe_int (pa_cons pe_int pa_nil)))) pe_int (nomark _))))) (pss_one (ps_setLc (i := 8) (own := [("_law_need", 10)]) rfl sc__law_broad.nd rfl rfl (sw_true rfl rfl rfl (by decide +kernel)) (pi_list (pv 8)) (blkOk_by (N := N__law_broad) (sc := defScope s__law_broad) (by decide +kernel)) (fun _ _ _ _ _ => pg_name (i := 10) sc__law_broad.nd rfl (Or.inl rfl)) (fun _ _ _ _ _ => pts_nil) (fun _ _ _ _ _ => pe_tup (pa_cons (pe_op op_addA (pe_ix ix_seq (pv 10) pe_int (fun _ _ => rfl)) pe_int) (pa_cons (pe_ix ix_seq (pv 10) pe_int (fun _ _ => rfl)) (pa_cons (pe_ix ix_seq (pv 10) pe_int (fun _ _ => rfl)) pa_nil)))))) pss_nil)
    (pss_one (ps_expr (pe_bm PySem.F.plainAttrs_list PySem.F.slot_list_append PySem.F.type_list_append mt_append (pv 6) (pa_cons (pe_lst (pa_cons (pe_ix ix_seq (pv 4) (pe_op op_modN (pe_op op_addA (pv 7) pe_int) pe_int) (fun _ _ => rfl)) (pa_cons (pe_ix ix_seq (pv 9) pe_int (fun _ _ => rfl)) (pa_cons (pe_ix ix_seq (pv 9) pe_int (fun _ _ => rfl)) (pa_cons (pe_callSD (ok__law_merge T) (hr.mono (by decide)) (by rfl) T.g__law_merge T.F__law_merge.kp T.b__law_merge .nil (passAt (takes_of rfl rfl rfl rfl)) (pa_cons (pv 8) pa_nil)) pa_nil))))) pa_nil))))))))
    (pss_one (ps_ret (pe_lst (pa_cons (pe_slice sl_A (pv 4) po_none (po_some (pv 3))) (pa_cons (pv 5) (pa_cons (pv 6) pa_nil))))))))))),
    body_ok (xs := xs__law_broad) (k := 2) (ss_seq (ss_asg (simS_call (sa_cons sim_var (sa_cons sim_int sa_nil))))
    (ss_seq (ss_asg (sim_op os_add simB_var (simB_of (simS_call (sa_cons sim_var (sa_cons sim_int (sa_cons (sim_op os_sub (simB_of sim_int) simB_var) sa_nil)))))))
    (ss_seq (ss_asg (simS_call (sa_cons (simS_call (sa_cons sim_var (sa_cons sim_int sa_nil))) (sa_cons sim_int sa_nil))))
    (ss_seq (ss_asg (sim_L (simL_lc (si_rng1 (sa_cons sim_var sa_nil)) (sgw_name (by decide)) st_yes (simS_call (sa_cons (simS_call (sa_cons sim_var (sa_cons sim_int sa_nil))) (sa_cons sim_var (sa_cons (sim_op os_ix (simB_of (sim_L (simL_lst (sa_cons sim_int (sa_cons sim_int sa_nil))))) (simB_of (simS_call (sa_cons sim_var (sa_cons sim_int (sa_cons sim_int sa_nil)))))) sa_nil)))))))
    (ss_seq (ss_asgL (simL_lst sa_nil))
    (ss_seq (ss_for (si_rng1 (sa_cons (sim_op os_mul (simB_of (simS_call (sa_cons sim_var (sa_cons sim_int (sa_cons sim_int sa_nil))))) (simB_of (sim_cb cs_min2 (sba_cons (simB_of sim_int) (sba_cons simB_var sba_nil))))) sa_nil)) sg_name (ss_seq (ss_asg (simS_call (sa_cons sim_var (sa_cons (sim_op os_add (simB_of sim_int) (simB_of (sim_op os_mul (simB_of sim_int) simB_var))) (sa_cons (sim_op os_add (simB_of sim_int) (simB_of (simS_call (sa_cons sim_var (sa_cons (sim_op os_add (simB_of sim_int) simB_var) (sa_cons sim_int sa_nil)))))) (sa_cons (sim_slA simB_var so_no (so_part (sim_cb cs_max2 (sba_cons (simB_of sim_int) (sba_cons simB_var sba_nil))))) sa_nil))))))
    (ss_seq (ss_asg (sim_L (simL_lst (sa_cons (simS_call (sa_cons (simS_call (sa_cons sim_var (sa_cons (sim_op os_add (simB_of sim_int) simB_var) sa_nil))) (sa_cons sim_bl sa_nil))) (sa_cons (simS_call (sa_cons (simS_call (sa_cons sim_var (sa_cons (sim_op os_add (simB_of sim_int) simB_var) sa_nil))) (sa_cons sim_bl sa_nil))) sa_nil)))))
    (ss_seq (ss_if (st_and (st_test (sim_op os_eq simB_var (simB_of sim_int))) (st_test (sim_op os_eq (simB_of (simS_call (sa_cons sim_var (sa_cons sim_int (sa_cons sim_int sa_nil))))) (simB_of sim_int)))) (ss_asg (sim_L (simL_lc (si_list sim_var) (sgw_name (by decide)) st_yes (sim_tup (sa_cons (sim_op os_add (simB_of (sim_op os_ix simB_var (simB_of sim_int))) (simB_of sim_int)) (sa_cons (sim_op os_ix simB_var (simB_of sim_int)) (sa_cons (sim_op os_ix simB_var (simB_of sim_int)) sa_nil))))))) ss_next)
    (ss_app (sim_L (simL_lst (sa_cons (sim_op os_ix simB_var (simB_of (sim_op os_mod (simB_of (sim_op os_add simB_var (simB_of sim_int))) (simB_of sim_int)))) (sa_cons (sim_op os_ix simB_var (simB_of sim_int)) (sa_cons (sim_op os_ix simB_var (simB_of sim_int)) (sa_cons (simS_call (sa_cons sim_var sa_nil)) sa_nil)))))))))))
    (ss_frz (i := 6) (ss_ret (sim_L (simL_lst (sa_cons (sim_slA simB_var so_no (so_part sim_var)) (sa_cons sim_var (sa_cons sim_var sa_nil))))))))))))) h.len (by decide) h⟩
def xt__law_broad : XRT := xtSeq (xsAsg 2 (xCall m__law_pick (xCons (xVar 0) (xCons (xC (.int 0)) xNil))))
    (xtSeq (xsAsg 3 (x2 dAdd (xVarB 1) (xCall m__law_draw (xCons (xVar 2) (xCons (xC (.int 0)) (xCons (x2 dSub (xC (.int 7)) (xVarB 1)) xNil))))))
    (xtSeq (xsAsg 4 (xCall m__law_namelist (xCons (xCall m__law_pick (xCons (xVar 0) (xCons (xC (.int 1)) xNil))) (xCons (xC (.int 7)) xNil))))
    (xtSeq (xsAsg 5 (xL (xLc (xRng1 (xCons (xVar 3) xNil)) (xgName 7) xYes xe__law_broad_1 [7])))
    (xtSeq (xsAsgL 6 (xLst xNil))
    (xtSeq (xsFor (xRng1 (xCons (x2 dMul (xCall m__law_draw (xCons (xVar 2) (xCons (xC (.int 2)) (xCons (xC (.int 9)) xNil)))) (xCB dMin2 (xCons (xC (.int 1)) (xCons (xVarB 3) xNil)))) xNil)) (xgName 7) xb__law_broad_1)
    (xtDisp (xSlA (xVarB 4) xNo (xPart (xVar 3))) (xVar 5) 6))))))
def mT__law_broad : List Dt → R Ow := funT 2 11 xt__law_broad
theorem okT__law_broad (T : Txt P K mg cl A) : FnOk P w K mg base (L2.CX P w) 3 A._law_broad A._law_broad_d ["_law_script", "_law_least"] (TreeSp K cl mT__law_broad) := by
  refine T.F__law_broad.okX sc__law_broad (fun vs H Q E h => h.len) (fun cdv A outer s H vs Q E hr h => ?_)
  have hu := hu_of hr
  exact ⟨_, pss_cons (ps_set (i := 2) sc__law_broad.nd rfl (Or.inr rfl) (pe_callSD (ok__law_pick T) (hr.mono (by decide)) (by rfl) T.g__law_pick T.F__law_pick.kp T.b__law_pick .nil (passAt (takes_of rfl rfl rfl rfl)) (pa_cons (pv 0) (pa_cons pe_int pa_nil))))
    (pss_cons (ps_set (i := 3) sc__law_broad.nd rfl (Or.inl rfl) (pe_op op_addA (pv 1) (pe_callSD (ok__law_draw T) (hr.mono (by decide)) (by rfl) T.g__law_draw T.F__law_draw.kp T.b__law_draw .nil (passAt (takes_of rfl rfl rfl rfl)) (pa_cons (pv 2) (pa_cons pe_int (pa_cons (pe_op op_sub pe_int (pv 1)) pa_nil))))))
    (pss_cons (ps_set (i := 4) sc__law_broad.nd rfl (Or.inl rfl) (pe_callSD (ok__law_namelist T) (hr.mono (by decide)) (by rfl) T.g__law_namelist T.F__law_namelist.kp T.b__law_namelist .nil (passAt (takes_of rfl rfl rfl rfl)) (pa_cons (pe_callSD (ok__law_pick T) (hr.mono (by decide)) (by rfl) T.g__law_pick T.F__law_pick.kp T.b__law_pick .nil (passAt (takes_of rfl rfl rfl rfl)) (pa_cons (pv 0) (pa_cons pe_int pa_nil))) (pa_cons pe_int pa_nil))))
    (pss_cons (ps_setLc (i := 5) (own := [("_law_k", 7)]) rfl sc__law_broad.nd rfl rfl (sw_true rfl rfl rfl (by decide +kernel)) (pi_range1 (by rfl) T.z_range (pa_cons (pv 3) pa_nil)) (blkOk_by (N := N__law_broad) (sc := defScope s__law_broad) (by decide +kernel)) (fun _ _ _ _ _ => pg_name (i := 7) sc__law_broad.nd rfl (Or.inl rfl)) (fun _ _ _ _ _ => pts_nil) (fun _ _ _ _ _ => pe_callSD (ok__law_draw T) (hr.mono (by decide)) (by rfl) T.g__law_draw T.F__law_draw.kp T.b__law_draw .nil passB (pa_cons (pe_callSD (ok__law_pick T) (hr.mono (by decide)) (by rfl) T.g__law_pick T.F__law_pick.kp T.b__law_pick .nil passB (pa_cons (pv 0) (pa_cons pe_int pa_nil))) (pa_cons (pv 7) (pa_cons (pe_ix ix_seq (pe_lst (pa_cons pe_int (pa_cons pe_int pa_nil))) (pe_callSD (ok__law_draw T) (hr.mono (by decide)) (by rfl) T.g__law_draw T.F__law_draw.kp T.b__law_draw .nil passB (pa_cons (pv 2) (pa_cons pe_int (pa_cons pe_int pa_nil)))) (fun _ _ => rfl)) pa_nil)))))
    (pss_cons (ps_set (i := 6) sc__law_broad.nd rfl (Or.inl rfl) (pe_lst pa_nil))
    (pss_cons (ps_for (passes_of rfl) rfl (pi_range1 (by rfl) T.z_range (pa_cons (pe_op op_mul (pe_callSD (ok__law_draw T) (hr.mono (by decide)) (by rfl) T.g__law_draw T.F__law_draw.kp T.b__law_draw .nil (passAt (takes_of rfl rfl rfl rfl)) (pa_cons (pv 2) (pa_cons pe_int (pa_cons pe_int pa_nil)))) (pe_callB (call_min2A rfl) (by rfl) T.z_min (by decide +kernel) (pa_cons pe_int (pa_cons (pv 3) pa_nil)))) pa_nil)) (pg_name (i := 7) sc__law_broad.nd rfl (Or.inl rfl)) (pss_cons (ps_set (i := 8) sc__law_broad.nd rfl (Or.inl rfl) (pe_callSD (ok__law_rawlist T) (hr.mono (by decide)) (by rfl) T.g__law_rawlist T.F__law_rawlist.kp T.b__law_rawlist .nil (passAt (takes_of rfl rfl rfl rfl)) (pa_cons (pv 0) (pa_cons (pe_op op_addA pe_int (pe_op op_mul pe_int (pv 7))) (pa_cons (pe_op op_addA pe_int (pe_callSD (ok__law_draw T) (hr.mono (by decide)) (by rfl) T.g__law_draw T.F__law_draw.kp T.b__law_draw .nil (passAt (takes_of rfl rfl rfl rfl)) (pa_cons (pv 2) (pa_cons (pe_op op_addA pe_int (pv 7)) (pa_cons pe_int pa_nil))))) (pa_cons (pe_slice sl_A (pv 4) po_none (po_some (pe_callB (call_max2A rfl) (by rfl) T.z_max (by decide +kernel) (pa_cons pe_int (pa_cons (pv 3) pa_nil))))) pa_nil))))))
    (pss_cons (ps_set (i := 9) sc__law_broad.nd rfl (Or.inl rfl) (pe_lst (pa_cons (pe_callSD (ok__law_worth T) (hr.mono (by decide)) (by rfl) T.g__law_worth T.F__law_worth.kp T.b__law_worth .nil (passAt (takes_of rfl rfl rfl rfl)) (pa_cons (pe_callSD (ok__law_pick T) (hr.mono (by decide)) (by rfl) T.g__law_pick T.F__law_pick.kp T.b__law_pick .nil (passAt (takes_of rfl rfl rfl rfl)) (pa_cons (pv 0) (pa_cons (pe_op op_addA pe_int (pv 7)) pa_nil))) (pa_cons pe_bl pa_nil))) (pa_cons (pe_callSD (ok__law_worth T) (hr.mono (by decide)) (by rfl) T.g__law_worth T.F__law_worth.kp T.b__law_worth .nil (passAt (takes_of rfl rfl rfl rfl)) (pa_cons (pe_callSD (ok__law_pick T) (hr.mono (by decide)) (by rfl) T.g__law_pick T.F__law_pick.kp T.b__law_pick .nil (passAt (takes_of rfl rfl rfl rfl)) (pa_cons (pv 0) (pa_cons (pe_op op_addA pe_int (pv 7)) pa_nil))) (pa_cons pe_bl pa_nil))) pa_nil))))
    (pss_cons (ps_if (PW.pt (pw_and (pt_cmpR (op_eqP hr.units) (pv 7) pe_int (nomark _)) (pw_and1 (pt_cmpR (op_eqP hr.units) (pe_callSD (ok__law_draw T) (hr.mono (by decide)) (by rfl) T.g__law_draw T.F__law_draw.kp T.b__law_draw .nil (passAt (takes_of rfl rfl rfl rfl)) (pa_cons (pv 2) (pa_cons pe_int (pa_cons pe_int pa_nil)))) pe_int (nomark _))))) (pss_one (ps_setLc (i := 8) (own := [("_law_need", 10)]) rfl sc__law_broad.nd rfl rfl (sw_true rfl rfl rfl (by decide +kernel)) (pi_list (pv 8)) (blkOk_by (N := N__law_broad) (sc := defScope s__law_broad) (by decide +kernel)) (fun _ _ _ _ _ => pg_name (i := 10) sc__law_broad.nd rfl (Or.inl rfl)) (fun _ _ _ _ _ => pts_nil) (fun _ _ _ _ _ => pe_tup (pa_cons (pe_op op_addA (pe_ix ix_seq (pv 10) pe_int (fun _ _ => rfl)) pe_int) (pa_cons (pe_ix ix_seq (pv 10) pe_int (fun _ _ => rfl)) (pa_cons (pe_ix ix_seq (pv 10) pe_int (fun _ _ => rfl)) pa_nil)))))) pss_nil)
    (pss_one (ps_expr (pe_bm PySem.F.plainAttrs_list PySem.F.slot_list_append PySem.F.type_list_append mt_append (pv 6) (pa_cons (pe_lst (pa_cons (pe_ix ix_seq (pv 4) (pe_op op_modN (pe_op op_addA (pv 7) pe_int) pe_int) (fun _ _ => rfl)) (pa_cons (pe_ix ix_seq (pv 9) pe_int (fun _ _ => rfl)) (pa_cons (pe_ix ix_seq (pv 9) pe_int (fun _ _ => rfl)) (pa_cons (pe_callSD (ok__law_merge T) (hr.mono (by decide)) (by rfl) T.g__law_merge T.F__law_merge.kp T.b__law_merge .nil (passAt (takes_of rfl rfl rfl rfl)) (pa_cons (pv 8) pa_nil)) pa_nil))))) pa_nil))))))))
    (pss_one (ps_ret (pe_lst (pa_cons (pe_slice sl_A (pv 4) po_none (po_some (pv 3))) (pa_cons (pv 5) (pa_cons (pv 6) pa_nil))))))))))),
    body_okT (xr := xt__law_broad) (k := 2) (srt_seq (ss_asg (simS_call (sa_cons sim_var (sa_cons sim_int sa_nil))))
    (srt_seq (ss_asg (sim_op os_add simB_var (simB_of (simS_call (sa_cons sim_var (sa_cons sim_int (sa_cons (sim_op os_sub (simB_of sim_int) simB_var) sa_nil)))))))
    (srt_seq (ss_asg (simS_call (sa_cons (simS_call (sa_cons sim_var (sa_cons sim_int sa_nil))) (sa_cons sim_int sa_nil))))
    (srt_seq (ss_asg (sim_L (simL_lc (si_rng1 (sa_cons sim_var sa_nil)) (sgw_name (by decide)) st_yes (simS_call (sa_cons (simS_call (sa_cons sim_var (sa_cons sim_int sa_nil))) (sa_cons sim_var (sa_cons (sim_op os_ix (simB_of (sim_L (simL_lst (sa_cons sim_int (sa_cons sim_int sa_nil))))) (simB_of (simS_call (sa_cons sim_var (sa_cons sim_int (sa_cons sim_int sa_nil)))))) sa_nil)))))))
    (srt_seq (ss_asgL (simL_lst sa_nil))
    (srt_seq (ss_for (si_rng1 (sa_cons (sim_op os_mul (simB_of (simS_call (sa_cons sim_var (sa_cons sim_int (sa_cons sim_int sa_nil))))) (simB_of (sim_cb cs_min2 (sba_cons (simB_of sim_int) (sba_cons simB_var sba_nil))))) sa_nil)) sg_name (ss_seq (ss_asg (simS_call (sa_cons sim_var (sa_cons (sim_op os_add (simB_of sim_int) (simB_of (sim_op os_mul (simB_of sim_int) simB_var))) (sa_cons (sim_op os_add (simB_of sim_int) (simB_of (simS_call (sa_cons sim_var (sa_cons (sim_op os_add (simB_of sim_int) simB_var) (sa_cons sim_int sa_nil)))))) (sa_cons (sim_slA simB_var so_no (so_part (sim_cb cs_max2 (sba_cons (simB_of sim_int) (sba_cons simB_var sba_nil))))) sa_nil))))))
    (ss_seq (ss_asg (sim_L (simL_lst (sa_cons (simS_call (sa_cons (simS_call (sa_cons sim_var (sa_cons (sim_op os_add (simB_of sim_int) simB_var) sa_nil))) (sa_cons sim_bl sa_nil))) (sa_cons (simS_call (sa_cons (simS_call (sa_cons sim_var (sa_cons (sim_op os_add (simB_of sim_int) simB_var) sa_nil))) (sa_cons sim_bl sa_nil))) sa_nil)))))
    (ss_seq (ss_if (st_and (st_test (sim_op os_eq simB_var (simB_of sim_int))) (st_test (sim_op os_eq (simB_of (simS_call (sa_cons sim_var (sa_cons sim_int (sa_cons sim_int sa_nil))))) (simB_of sim_int)))) (ss_asg (sim_L (simL_lc (si_list sim_var) (sgw_name (by decide)) st_yes (sim_tup (sa_cons (sim_op os_add (simB_of (sim_op os_ix simB_var (simB_of sim_int))) (simB_of sim_int)) (sa_cons (sim_op os_ix simB_var (simB_of sim_int)) (sa_cons (sim_op os_ix simB_var (simB_of sim_int)) sa_nil))))))) ss_next)
    (ss_app (sim_L (simL_lst (sa_cons (sim_op os_ix simB_var (simB_of (sim_op os_mod (simB_of (sim_op os_add simB_var (simB_of sim_int))) (simB_of sim_int)))) (sa_cons (sim_op os_ix simB_var (simB_of sim_int)) (sa_cons (sim_op os_ix simB_var (simB_of sim_int)) (sa_cons (simS_call (sa_cons sim_var sa_nil)) sa_nil)))))))))))
    (srt_disp (i := 6) (sim_slA simB_var so_no (so_part sim_var)) sim_var))))))) h.len (by decide) h⟩
def N__law_tools : List Str := ["_law_kitchen", "_law_k"]
theorem sc__law_tools : FnScope N__law_tools ["_law_kitchen"] (defScope s__law_tools) := ⟨rfl, rfl, rfl, by decide +kernel, rfl, by decide +kernel, by decide +kernel⟩
def xe__law_tools_1 (D : Ds) : R Dt := (xTup (xCons (x2 dIx (x2 dIx (xVarB 0) (xC (.int 0))) (xVarB 1)) (xCons (x2 dIx (x2 dIx (xVarB 0) (xC (.int 1))) (xVarB 1)) xNil))) D
def xe__law_tools_2 (D : Ds) : R Dt := (xTup (xCons (x2 dIx (x2 dIx (xVarB 0) (xC (.int 0))) (xVarB 1)) (xCons (x2 dIx (x2 dIx (xVarB 0) (xC (.int 1))) (xVarB 1)) xNil))) D
def xs__law_tools : XS := xsRet (xL (xLc (xRng1 (xCons (xCB dLen (xCons (x2 dIx (xVarB 0) (xC (.int 0))) xNil)) xNil)) (xgName 1) xYes xe__law_tools_1 [1]))
def m__law_tools : List Dt → R Dt := funD 1 2 xs__law_tools
theorem ok__law_tools (T : Txt P K mg cl A) : FnOk P w K mg base (L2.CX P w) 1 A._law_tools A._law_tools_d ["_law_kitchen"] (PureSp K cl m__law_tools) := by
  refine T.F__law_tools.okX sc__law_tools (fun vs H Q E h => h.len) (fun cdv A outer s H vs Q E hr h => ?_)
  have hu := hu_of hr
  exact ⟨_, pss_one (ps_ret (pe_lc (own := [("_law_k", 1)]) rfl sc__law_tools.nd (pi_range1 (by rfl) T.z_range (pa_cons (pe_callB call_lenA (by rfl) T.z_len (by decide +kernel) (pa_cons (pe_ix ix_seq (pv 0) pe_int (fun _ _ => rfl)) pa_nil)) pa_nil)) (blkOk_by (N := N__law_tools) (sc := defScope s__law_tools) (by decide +kernel)) (fun _ _ _ _ _ => pg_name (i := 1) sc__law_tools.nd rfl (Or.inl rfl)) (fun _ _ _ _ _ => pts_nil) (fun _ _ _ _ _ => pe_tup (pa_cons (pe_ix ix_seq (pe_ix ix_seq (pv 0) pe_int (fun _ _ => rfl)) (pv 1) (fun _ _ => rfl)) (pa_cons (pe_ix ix_seq (pe_ix ix_seq (pv 0) pe_int (fun _ _ => rfl)) (pv 1) (fun _ _ => rfl)) pa_nil))))),
    body_ok (xs := xs__law_tools) (k := 1) (ss_ret (sim_L (simL_lc (si_rng1 (sa_cons (sim_cb cs_len (sba_cons (simB_of (sim_op os_ix simB_var (simB_of sim_int))) sba_nil)) sa_nil)) (sgw_name (by decide)) st_yes (sim_tup (sa_cons (sim_op os_ix (simB_of (sim_op os_ix simB_var (simB_of sim_int))) simB_var) (sa_cons (sim_op os_ix (simB_of (sim_op os_ix simB_var (simB_of sim_int))) simB_var) sa_nil)))))) h.len (by decide) h⟩
def xr__law_tools : XR := xrRet (xLc (xRng1 (xCons (xCB dLen (xCons (x2 dIx (xVarB 0) (xC (.int 0))) xNil)) xNil)) (xgName 1) xYes xe__law_tools_2 [1])
def mL__law_tools : List Dt → R (List Dt) := funR 1 2 xr__law_tools
theorem okL__law_tools (T : Txt P K mg cl A) : FnOk P w K mg base (L2.CX P w) 1 A._law_tools A._law_tools_d ["_law_kitchen"] (LstSp K cl mL__law_tools) := by
  refine T.F__law_tools.okX sc__law_tools (fun vs H Q E h => h.len) (fun cdv A outer s H vs Q E hr h => ?_)
  have hu := hu_of hr
  exact ⟨_, pss_one (ps_ret (pe_lc (own := [("_law_k", 1)]) rfl sc__law_tools.nd (pi_range1 (by rfl) T.z_range (pa_cons (pe_callB call_lenA (by rfl) T.z_len (by decide +kernel) (pa_cons (pe_ix ix_seq (pv 0) pe_int (fun _ _ => rfl)) pa_nil)) pa_nil)) (blkOk_by (N := N__law_tools) (sc := defScope s__law_tools) (by decide +kernel)) (fun _ _ _ _ _ => pg_name (i := 1) sc__law_tools.nd rfl (Or.inl rfl)) (fun _ _ _ _ _ => pts_nil) (fun _ _ _ _ _ => pe_tup (pa_cons (pe_ix ix_seq (pe_ix ix_seq (pv 0) pe_int (fun _ _ => rfl)) (pv 1) (fun _ _ => rfl)) (pa_cons (pe_ix ix_seq (pe_ix ix_seq (pv 0) pe_int (fun _ _ => rfl)) (pv 1) (fun _ _ => rfl)) pa_nil))))),
    body_okR (xr := xr__law_tools) (k := 1) (sr_ret (simL_lc (si_rng1 (sa_cons (sim_cb cs_len (sba_cons (simB_of (sim_op os_ix simB_var (simB_of sim_int))) sba_nil)) sa_nil)) (sgw_name (by decide)) st_yes (sim_tup (sa_cons (sim_op os_ix (simB_of (sim_op os_ix simB_var (simB_of sim_int))) simB_var) (sa_cons (sim_op os_ix (simB_of (sim_op os_ix simB_var (simB_of sim_int))) simB_var) sa_nil))))) h.len (by decide) h⟩
def N_is_name : List Str := ["text", "letter"]
theorem sc_is_name : FnScope N_is_name ["text"] (defScope s_is_name) := ⟨rfl, rfl, rfl, by decide +kernel, rfl, by decide +kernel, by decide +kernel⟩
def xe_is_name_1 (D : Ds) : R Dt := (x2 dInS (xVarB 1) (xC (.str "abcdefghijklmnopqrstuvwxyz"))) D
def xs_is_name : XS := xsRet (xAndV (xChain dLe dLe (xC (.int 1)) (xCB dLen (xCons (xVarB 0) xNil)) (xC (.int 12))) (xCB dAll (xCons (xL (xLc (xSigns (xVar 0)) (xgName 1) xYes xe_is_name_1 [1])) xNil)))
def m_is_name : List Dt → R Dt := funD 1 2 xs_is_name
theorem ok_is_name (T : Txt P K mg cl A) : FnOk P w K mg base (L2.CX P w) 1 A.is_name A.is_name_d ["text"] (PureSp K cl m_is_name) := by
  refine T.F_is_name.okX sc_is_name (fun vs H Q E h => h.len) (fun cdv A outer s H vs Q E hr h => ?_)
  have hu := hu_of hr
  exact ⟨_, pss_one (ps_ret (pe_and (pe_chain op_le op_le pe_int (pe_callB call_lenA (by rfl) T.z_len (by decide +kernel) (pa_cons (pv 0) pa_nil)) (Exists.elim T.c_MOST_LETTERS fun _ h => pe_glob (v := .int 12) (by rfl) h ⟨_, rfl⟩)) (pe_one (pe_callB (cr_all rfl) (by rfl) T.z_all (by decide +kernel) (pa_cons (pe_lc (own := [("letter", 1)]) rfl sc_is_name.nd (pi_str (pv 0)) (blkOk_by (N := N_is_name) (sc := defScope s_is_name) (by decide +kernel)) (fun _ _ _ _ _ => pg_name (i := 1) sc_is_name.nd rfl (Or.inl rfl)) (fun _ _ _ _ _ => pts_nil) (fun _ _ _ _ _ => pe_cmpR op_inS (pv 1) (Exists.elim T.c_LETTERS fun _ h => pe_glob (v := .str "abcdefghijklmnopqrstuvwxyz") (by rfl) h ⟨_, rfl⟩) (by rfl))) pa_nil))))),
    body_ok (xs := xs_is_name) (k := 1) (ss_ret (sim_and (sim_chain os_le os_le (simB_of sim_int) (simB_of (sim_cb cs_len (sba_cons simB_var sba_nil))) (simB_of sim_int)) (sim_cb cs_all (sba_cons (simB_of (sim_L (simL_lc (si_str sim_var) (sgw_name (by decide)) st_yes (sim_op os_inS simB_var (simB_of sim_str))))) sba_nil)))) h.len (by decide) h⟩
def N__check_dish : List Str := ["name", "needs", "beat", "tool", "amount"]
theorem sc__check_dish : FnScope N__check_dish ["name", "needs"] (defScope s__check_dish) := ⟨rfl, rfl, rfl, by decide +kernel, rfl, by decide +kernel, by decide +kernel⟩
def xb__check_dish_1 (D : Ds) : Out := (xsIf (xOr (xTest (x2 dLtI (xVarB 2) (xC (.int 0)))) (xOr (xTest (x2 dLtI (xVarB 4) (xC (.int 1)))) (xNot (xTest (xCall m_is_name (xCons (xVar 3) xNil)))))) (xsRaise "InvalidDish") xsNext) D
def xs__check_dish : XS := xsSeq (xsIf (xNot (xTest (xCall m_is_name (xCons (xVar 0) xNil)))) (xsRaise "InvalidDish") xsNext)
    (xsSeq (xsIf (xTest (x2 dEq (xCB dLen (xCons (xVarB 1) xNil)) (xC (.int 0)))) (xsRaise "InvalidDish") xsNext)
    (xsFor (xItems (xVar 1)) (xgTup 3 (xgCons (xgName 2) (xgCons (xgName 3) (xgCons (xgName 4) xgNil)))) xb__check_dish_1))
def m__check_dish : List Dt → R Dt := funD 2 5 xs__check_dish
theorem ok__check_dish (T : Txt P K mg cl A) : FnOk P w K mg base (L2.CX P w) 2 A._check_dish A._check_dish_d ["name", "needs"] (PureSp K cl m__check_dish) := by
  refine T.F__check_dish.okX sc__check_dish (fun vs H Q E h => h.len) (fun cdv A outer s H vs Q E hr h => ?_)
  have hu := hu_of hr
  exact ⟨_, pss_cons (ps_if (pt_not (pt_val (pe_callSD (ok_is_name T) (hr.mono (by decide)) (by rfl) T.g_is_name T.F_is_name.kp T.b_is_name .nil (passAt (takes_of rfl rfl rfl rfl)) (pa_cons (pv 0) pa_nil)))) (pss_one (ps_raise rfl (takes_of rfl rfl rfl rfl) (pmk_own PySem.F.excBase_ValueError T.x_InvalidDish T.g_InvalidDish T.k_InvalidDish (raises_own T.e_InvalidDish T.t_InvalidDish) (by rfl)))) pss_nil)
    (pss_cons (ps_if (pt_cmpR (op_eqP hr.units) (pe_callB call_lenA (by rfl) T.z_len (by decide +kernel) (pa_cons (pv 1) pa_nil)) pe_int (nomark _)) (pss_one (ps_raise rfl (takes_of rfl rfl rfl rfl) (pmk_own PySem.F.excBase_ValueError T.x_InvalidDish T.g_InvalidDish T.k_InvalidDish (raises_own T.e_InvalidDish T.t_InvalidDish) (by rfl)))) pss_nil)
    (pss_one (ps_for (passes_of rfl) rfl (pi_list (pv 1)) (pg_tup rfl (pgs_cons (pg_name (i := 2) sc__check_dish.nd rfl (Or.inl rfl)) (pgs_cons (pg_name (i := 3) sc__check_dish.nd rfl (Or.inl rfl)) (pgs_cons (pg_name (i := 4) sc__check_dish.nd rfl (Or.inl rfl)) pgs_nil)))) (pss_one (ps_if (PW.pt (pw_or (pt_cmpR op_lt (pv 2) pe_int (nomark _)) (pw_or (pt_cmpR op_lt (pv 4) pe_int (nomark _)) (pw_or1 (pt_not (pt_val (pe_callSD (ok_is_name T) (hr.mono (by decide)) (by rfl) T.g_is_name T.F_is_name.kp T.b_is_name .nil (passAt (takes_of rfl rfl rfl rfl)) (pa_cons (pv 3) pa_nil)))))))) (pss_one (ps_raise rfl (takes_of rfl rfl rfl rfl) (pmk_own PySem.F.excBase_ValueError T.x_InvalidDish T.g_InvalidDish T.k_InvalidDish (raises_own T.e_InvalidDish T.t_InvalidDish) (by rfl)))) pss_nil))))),
    body_ok (xs := xs__check_dish) (k := 2) (ss_seq (ss_if (st_not (st_B (simS_call (sa_cons sim_var sa_nil)))) (ss_raise T.l_InvalidDish) ss_next)
    (ss_seq (ss_if (st_test (sim_op os_eq (simB_of (sim_cb cs_len (sba_cons simB_var sba_nil))) (simB_of sim_int))) (ss_raise T.l_InvalidDish) ss_next)
    (ss_for (si_list sim_var) (sg_tup (sgs_cons sg_name (sgs_cons sg_name (sgs_cons sg_name sgs_nil)))) (ss_if (st_or (st_test (sim_op os_ltI simB_var (simB_of sim_int))) (st_or (st_test (sim_op os_ltI simB_var (simB_of sim_int))) (st_not (st_B (simS_call (sa_cons sim_var sa_nil)))))) (ss_raise T.l_InvalidDish) ss_next)))) h.len (by decide) h⟩
def N__merged : List Str := ["needs", "amounts", "beat", "tool", "amount", "beats", "tools", "need"]
theorem sc__merged : FnScope N__merged ["needs"] (defScope s__merged) := ⟨rfl, rfl, rfl, by decide +kernel, rfl, by decide +kernel, by decide +kernel⟩
def xb__merged_1 (D : Ds) : Out := (xsPutT 1 (xTup (xCons (xVar 2) (xCons (xVar 3) xNil))) (x2 dAdd (xGetT (xVarB 1) (xTup (xCons (xVar 2) (xCons (xVar 3) xNil))) (xC (.int 0))) (xVarB 4))) D
def xe__merged_1 (D : Ds) : R Dt := (xCB dInt (xCons (x2 dIx (xVarB 7) (xC (.int 0))) xNil)) D
def xe__merged_2 (D : Ds) : R Dt := (xCB dStr2 (xCons (x2 dIx (xVarB 7) (xC (.int 1))) xNil)) D
def xt__merged_1 (D : Ds) : R Bool := (xTest (xDin (xTup (xCons (xVar 2) (xCons (xVar 3) xNil))) (xVarB 1))) D
def xe__merged_3 (D : Ds) : R Dt := (xTup (xCons (xVar 2) (xCons (xVar 3) (xCons (xDget (xVarB 1) (xTup (xCons (xVar 2) (xCons (xVar 3) xNil)))) xNil)))) D
def xs__merged : XS := xsSeq (xsNewT 1)
    (xsSeq (xsFor (xItems (xVar 0)) (xgTup 3 (xgCons (xgName 2) (xgCons (xgName 3) (xgCons (xgName 4) xgNil)))) xb__merged_1)
    (xsSeq (xsAsg 5 (xL (xCBL dSS (xCons (xL (xLc (xItems (xVar 0)) (xgName 7) xYes xe__merged_1 [7])) xNil))))
    (xsSeq (xsAsg 6 (xL (xCBL dSS (xCons (xL (xLc (xItems (xVar 0)) (xgName 7) xYes xe__merged_2 [7])) xNil))))
    (xsRet (xCB dTuple (xCons (xL (xLc2 (xItems (xVar 5)) (xgName 2) xYes (xItems (xVar 6)) (xgName 3) xt__merged_1 xe__merged_3 [2, 3] [3])) xNil))))))
def m__merged : List Dt → R Dt := funD 1 8 xs__merged
theorem ok__merged (T : Txt P K mg cl A) : FnOk P w K mg base (L2.CX P w) 1 A._merged A._merged_d ["needs"] (PureSp K cl m__merged) := by
  refine T.F__merged.okX sc__merged (fun vs H Q E h => h.len) (fun cdv A outer s H vs Q E hr h => ?_)
  have hu := hu_of hr
  exact ⟨_, pss_cons (ps_set (i := 1) sc__merged.nd rfl (Or.inr rfl) pe_dnewT)
    (pss_cons (ps_for (passes_of rfl) rfl (pi_list (pv 0)) (pg_tup rfl (pgs_cons (pg_name (i := 2) sc__merged.nd rfl (Or.inl rfl)) (pgs_cons (pg_name (i := 3) sc__merged.nd rfl (Or.inl rfl)) (pgs_cons (pg_name (i := 4) sc__merged.nd rfl (Or.inl rfl)) pgs_nil)))) (pss_one (ps_dput hu (pv 1) (pe_tup (pa_cons (pv 2) (pa_cons (pv 3) pa_nil))) (pe_op op_addA (pe_dget2 hu (pv 1) (pe_tup (pa_cons (pv 2) (pa_cons (pv 3) pa_nil))) pe_int ⟨rfl, rfl, rfl, rfl⟩) (pv 4)) rfl)))
    (pss_cons (ps_set (i := 5) sc__merged.nd rfl (Or.inl rfl) (pe_callB (MxZ.cr_sortA rfl) (by rfl) T.z_sorted (by decide +kernel) (pa_cons (pe_callTy (MxZ.cr_setA rfl) (by rfl) T.z_set (by decide +kernel) (pa_cons (pe_lc (own := [("need", 7)]) rfl sc__merged.nd (pi_list (pv 0)) (blkOk_by (N := N__merged) (sc := defScope s__merged) (by decide +kernel)) (fun _ _ _ _ _ => pg_name (i := 7) sc__merged.nd rfl (Or.inl rfl)) (fun _ _ _ _ _ => pts_nil) (fun _ _ _ _ _ => pe_callTy call_intA (by rfl) T.z_int (by decide +kernel) (pa_cons (pe_ix ix_seq (pv 7) pe_int (fun _ _ => rfl)) pa_nil))) pa_nil)) pa_nil)))
    (pss_cons (ps_set (i := 6) sc__merged.nd rfl (Or.inr rfl) (pe_callB (MxZ.cr_sortA rfl) (by rfl) T.z_sorted (by decide +kernel) (pa_cons (pe_callTy (MxZ.cr_setA rfl) (by rfl) T.z_set (by decide +kernel) (pa_cons (pe_lc (own := [("need", 7)]) rfl sc__merged.nd (pi_list (pv 0)) (blkOk_by (N := N__merged) (sc := defScope s__merged) (by decide +kernel)) (fun _ _ _ _ _ => pg_name (i := 7) sc__merged.nd rfl (Or.inl rfl)) (fun _ _ _ _ _ => pts_nil) (fun _ _ _ _ _ => pe_callTy call_strB (by rfl) T.z_str (by decide +kernel) (pa_cons (pe_ix ix_seq (pv 7) pe_int (fun _ _ => rfl)) pa_nil))) pa_nil)) pa_nil)))
    (pss_one (ps_ret (pe_callTy call_tupleA (by rfl) T.z_tuple (by decide +kernel) (pa_cons (pe_lc2 (own := [("beat", 2), ("tool", 3)]) (vs1 := [3]) rfl sc__merged.nd (pi_list (pv 5)) (blkOk_by (N := N__merged) (sc := defScope s__merged) (by decide +kernel)) (by decide) (fun _ _ _ _ _ => pg_name (i := 2) sc__merged.nd rfl (Or.inl rfl)) (fun _ _ _ _ _ => pts_nil) (fun _ _ _ _ _ => pi_list (pv 6)) (fun _ _ _ _ _ => pg_name (i := 3) sc__merged.nd rfl (Or.inl rfl)) (fun _ _ _ _ _ => pts_one (pt_cmp (pc_din hu (pe_tup (pa_cons (pv 2) (pa_cons (pv 3) pa_nil))) (pv 1)))) (fun _ _ _ _ _ => pe_tup (pa_cons (pv 2) (pa_cons (pv 3) (pa_cons (pe_dget hu (pv 1) (pe_tup (pa_cons (pv 2) (pa_cons (pv 3) pa_nil))) (fun _ _ => rfl)) pa_nil))))) pa_nil))))))),
    body_ok (xs := xs__merged) (k := 1) (ss_seq ss_newT
    (ss_seq (ss_for (si_list sim_var) (sg_tup (sgs_cons sg_name (sgs_cons sg_name (sgs_cons sg_name sgs_nil)))) (ss_putT (sim_tup (sa_cons sim_var (sa_cons sim_var sa_nil))) (sim_op os_add (simB_of (sim_getT simB_var (sim_tup (sa_cons sim_var (sa_cons sim_var sa_nil))) sim_int)) simB_var)))
    (ss_seq (ss_asg (sim_L (simL_ss (sba_cons (simB_of (sim_L (simL_lc (si_list sim_var) (sgw_name (by decide)) st_yes (sim_cb cs_int (sba_cons (simB_of (sim_op os_ix simB_var (simB_of sim_int))) sba_nil))))) sba_nil))))
    (ss_seq (ss_asg (sim_L (simL_ss (sba_cons (simB_of (sim_L (simL_lc (si_list sim_var) (sgw_name (by decide)) st_yes (sim_cb cs_strB (sba_cons (simB_of (sim_op os_ix simB_var (simB_of sim_int))) sba_nil))))) sba_nil))))
    (ss_ret (sim_cb cs_tuple (sba_cons (simB_of (sim_L (simL_lc2 (E0 := fun _ _ _ => False) (si_list sim_var) (sg2_name (by decide)) st_yes (si_list sim_var) (sgw_name (by decide)) (st_B (sim_din (sim_tup (sa_cons sim_var (sa_cons sim_var sa_nil))) simB_var)) (sim_tup (sa_cons sim_var (sa_cons sim_var (sa_cons (sim_dget simB_var (sim_tup (sa_cons sim_var (sa_cons sim_var sa_nil)))) sa_nil))))))) sba_nil))))))) h.len (by decide) h⟩
def N_Dish___init__ : List Str := ["self", "name", "needs", "first", "second"]
theorem sc_Dish___init__ : FnScope N_Dish___init__ ["self", "name", "needs", "first", "second"] (defScope s_Dish___init__) := ⟨rfl, rfl, rfl, by decide +kernel, rfl, by decide +kernel, by decide +kernel⟩
def xs_Dish___init__ : XS := xsSeq (xsDrop (xCall m__check_dish (xCons (xVar 1) (xCons (xVar 2) xNil))))
    (xsSeq (xsFld 0 "Dish" "name" (xVar 1))
    (xsSeq (xsFld 0 "Dish" "first" (xVar 3))
    (xsSeq (xsFld 0 "Dish" "second" (xVar 4))
    (xsFld 0 "Dish" "needs" (xCall m__merged (xCons (xVar 2) xNil))))))
def m_Dish___init__ (ds : List Dt) : R (List (Str × Dt)) := if ds.length = 4 then runI "Dish" 5 xs_Dish___init__ 0 ds else .bad
theorem mi_Dish___init__ : ∀ (x : Addr) (ds : List Dt) (r : R (List (Str × Dt))), m_Dish___init__ ds = r → r ≠ .bad → ds.length = 4 ∧ runI "Dish" N_Dish___init__.length xs_Dish___init__ x ds = r := by
  intro x ds r h hr
  have nf : Str.ofString "name" ≠ Str.ofString "first" ∧ Str.ofString "name" ≠ Str.ofString "second" ∧ Str.ofString "name" ≠ Str.ofString "needs" ∧ Str.ofString "first" ≠ Str.ofString "second" ∧ Str.ofString "first" ≠ Str.ofString "needs" ∧ Str.ofString "second" ≠ Str.ofString "needs" := by decide +kernel
  unfold m_Dish___init__ at h
  split at h
  · rename_i hl
    refine ⟨hl, ?_⟩
    match ds, hl with
    | [a, b, c, d], _ =>
      subst h
      cases e1 : m__check_dish [a, b] <;> cases e2 : m__merged [b] <;> simp [runI, xs_Dish___init__, N_Dish___init__, e1, e2, List.replicate, putG, nf]
  · exact absurd h.symm hr
theorem ok_Dish___init__ (T : Txt P K mg cl A) : FnOk P w K mg base (L2.CX P w) 3 A.Dish___init__ A.Dish___init___d ["self", "name", "needs", "first", "second"] (InitSp K cl "Dish" m_Dish___init__) := by
  refine T.F_Dish___init__.okX sc_Dish___init__ (fun vs H Q E h => initSp_len (k := 4) h fun ds e => by unfold m_Dish___init__; rw [if_neg e]) (fun cdv A outer s H vs Q E hr h => ?_)
  have hu := hu_of hr
  exact ⟨_, pss_cons (ps_expr (pe_callSD (ok__check_dish T) (hr.mono (by decide)) (by rfl) T.g__check_dish T.F__check_dish.kp T.b__check_dish .nil (passAt (takes_of rfl rfl rfl rfl)) (pa_cons (pv 1) (pa_cons (pv 2) pa_nil))))
    (pss_cons (ps_fld (pv 0) (pv 1) rfl)
    (pss_cons (ps_fld (pv 0) (pv 3) rfl)
    (pss_cons (ps_fld (pv 0) (pv 4) rfl)
    (pss_one (ps_fld (pv 0) (pe_callSD (ok__merged T) (hr.mono (by decide)) (by rfl) T.g__merged T.F__merged.kp T.b__merged .nil (passAt (takes_of rfl rfl rfl rfl)) (pa_cons (pv 2) pa_nil)) rfl))))),
    init_ok (xs := xs_Dish___init__) (k := 4) (ss_seq (ss_drop (simS_call (sa_cons sim_var (sa_cons sim_var sa_nil))))
    (ss_seq (ss_fld T.l_Dish T.K_Dish T.N_Dish_name sim_var)
    (ss_seq (ss_fld T.l_Dish T.K_Dish T.N_Dish_first sim_var)
    (ss_seq (ss_fld T.l_Dish T.K_Dish T.N_Dish_second sim_var)
    (ss_fld T.l_Dish T.K_Dish T.N_Dish_needs (simS_call (sa_cons sim_var sa_nil))))))) (by decide) mi_Dish___init__ h⟩
def N__law_dishes : List Str := ["_law_kitchen", "_law_dish"]
theorem sc__law_dishes : FnScope N__law_dishes ["_law_kitchen"] (defScope s__law_dishes) := ⟨rfl, rfl, rfl, by decide +kernel, rfl, by decide +kernel, by decide +kernel⟩
def xe__law_dishes_1 (D : Ds) : R Dt := (xMake "Dish" 2 2 m_Dish___init__ gD_0 (xCons (x2 dIx (xVarB 1) (xC (.int 0))) (xCons (xL (xCBL dList (xCons (x2 dIx (xVarB 1) (xC (.int 3))) xNil))) xNil)) (xCons (x2 dIx (xVarB 1) (xC (.int 1))) (xCons (x2 dIx (xVarB 1) (xC (.int 2))) xNil))) D
def xe__law_dishes_2 (D : Ds) : R Dt := (xMake "Dish" 2 2 m_Dish___init__ gD_0 (xCons (x2 dIx (xVarB 1) (xC (.int 0))) (xCons (xL (xCBL dList (xCons (x2 dIx (xVarB 1) (xC (.int 3))) xNil))) xNil)) (xCons (x2 dIx (xVarB 1) (xC (.int 1))) (xCons (x2 dIx (xVarB 1) (xC (.int 2))) xNil))) D
def xs__law_dishes : XS := xsRet (xL (xLc (xItems (x2 dIx (xVarB 0) (xC (.int 2)))) (xgName 1) xYes xe__law_dishes_1 [1]))
def m__law_dishes : List Dt → R Dt := funD 1 2 xs__law_dishes
theorem ok__law_dishes (T : Txt P K mg cl A) : FnOk P w K mg base (L2.CX P w) 5 A._law_dishes A._law_dishes_d ["_law_kitchen"] (PureSp K cl m__law_dishes) := by
  refine T.F__law_dishes.okX sc__law_dishes (fun vs H Q E h => h.len) (fun cdv A outer s H vs Q E hr h => ?_)
  have hu := hu_of hr
  exact ⟨_, pss_one (ps_ret (pe_lc (own := [("_law_dish", 1)]) rfl sc__law_dishes.nd (pi_list (pe_ix ix_seq (pv 0) pe_int (fun _ _ => rfl))) (blkOk_by (N := N__law_dishes) (sc := defScope s__law_dishes) (by decide +kernel)) (fun _ _ _ _ _ => pg_name (i := 1) sc__law_dishes.nd rfl (Or.inl rfl)) (fun _ _ _ _ _ => pts_nil) (fun _ _ _ _ _ => Exists.elim T.kb_0 fun _ kb => pe_makeK T.M_Dish (ok_Dish___init__ T) (hr.mono (by decide)) (by rfl) T.g_Dish kb passL (pa_cons (pe_ix ix_seq (pv 1) pe_int (fun _ _ => rfl)) (pa_cons (pe_callTy call_listA (by rfl) T.z_list (by decide +kernel) (pa_cons (pe_ix ix_seq (pv 1) pe_int (fun _ _ => rfl)) pa_nil)) pa_nil)) (pk_cons (pe_ix ix_seq (pv 1) pe_int (fun _ _ => rfl)) (pk_cons (pe_ix ix_seq (pv 1) pe_int (fun _ _ => rfl)) pk_nil))))),
    body_ok (xs := xs__law_dishes) (k := 1) (ss_ret (sim_L (simL_lc (si_list (sim_op os_ix simB_var (simB_of sim_int))) (sgw_name (by decide)) st_yes (sim_make T.l_Dish ga_0 (sa_cons (sim_op os_ix simB_var (simB_of sim_int)) (sa_cons (sim_L (simL_cb cl_list (sba_cons (simB_of (sim_op os_ix simB_var (simB_of sim_int))) sba_nil))) sa_nil)) (sa_cons (sim_op os_ix simB_var (simB_of sim_int)) (sa_cons (sim_op os_ix simB_var (simB_of sim_int)) sa_nil)))))) h.len (by decide) h⟩
def xr__law_dishes : XR := xrRet (xLc (xItems (x2 dIx (xVarB 0) (xC (.int 2)))) (xgName 1) xYes xe__law_dishes_2 [1])
def mL__law_dishes : List Dt → R (List Dt) := funR 1 2 xr__law_dishes
theorem okL__law_dishes (T : Txt P K mg cl A) : FnOk P w K mg base (L2.CX P w) 5 A._law_dishes A._law_dishes_d ["_law_kitchen"] (LstSp K cl mL__law_dishes) := by
  refine T.F__law_dishes.okX sc__law_dishes (fun vs H Q E h => h.len) (fun cdv A outer s H vs Q E hr h => ?_)
  have hu := hu_of hr
  exact ⟨_, pss_one (ps_ret (pe_lc (own := [("_law_dish", 1)]) rfl sc__law_dishes.nd (pi_list (pe_ix ix_seq (pv 0) pe_int (fun _ _ => rfl))) (blkOk_by (N := N__law_dishes) (sc := defScope s__law_dishes) (by decide +kernel)) (fun _ _ _ _ _ => pg_name (i := 1) sc__law_dishes.nd rfl (Or.inl rfl)) (fun _ _ _ _ _ => pts_nil) (fun _ _ _ _ _ => Exists.elim T.kb_0 fun _ kb => pe_makeK T.M_Dish (ok_Dish___init__ T) (hr.mono (by decide)) (by rfl) T.g_Dish kb passL (pa_cons (pe_ix ix_seq (pv 1) pe_int (fun _ _ => rfl)) (pa_cons (pe_callTy call_listA (by rfl) T.z_list (by decide +kernel) (pa_cons (pe_ix ix_seq (pv 1) pe_int (fun _ _ => rfl)) pa_nil)) pa_nil)) (pk_cons (pe_ix ix_seq (pv 1) pe_int (fun _ _ => rfl)) (pk_cons (pe_ix ix_seq (pv 1) pe_int (fun _ _ => rfl)) pk_nil))))),
    body_okR (xr := xr__law_dishes) (k := 1) (sr_ret (simL_lc (si_list (sim_op os_ix simB_var (simB_of sim_int))) (sgw_name (by decide)) st_yes (sim_make T.l_Dish ga_0 (sa_cons (sim_op os_ix simB_var (simB_of sim_int)) (sa_cons (sim_L (simL_cb cl_list (sba_cons (simB_of (sim_op os_ix simB_var (simB_of sim_int))) sba_nil))) sa_nil)) (sa_cons (sim_op os_ix simB_var (simB_of sim_int)) (sa_cons (sim_op os_ix simB_var (simB_of sim_int)) sa_nil))))) h.len (by decide) h⟩
def N__check_tools : List Str := ["tools", "names", "name", "number"]
theorem sc__check_tools : FnScope N__check_tools ["tools"] (defScope s__check_tools) := ⟨rfl, rfl, rfl, by decide +kernel, rfl, by decide +kernel, by decide +kernel⟩
def xb__check_tools_1 (D : Ds) : Out := (xsSeq (xsIf (xOr (xNot (xTest (xCall m_is_name (xCons (xVar 2) xNil)))) (xOr (xTest (xDinK (xVar 2) (xVarB 1))) (xTest (x2 dLtI (xVarB 3) (xC (.int 0)))))) (xsRaise "InvalidKitchen") xsNext)
    (xsPutK 1 (xVar 2) (xC (.bl true)))) D
def xs__check_tools : XS := xsSeq (xsNewK 1)
    (xsFor (xItems (xVar 0)) (xgTup 2 (xgCons (xgName 2) (xgCons (xgName 3) xgNil))) xb__check_tools_1)
def m__check_tools : List Dt → R Dt := funD 1 4 xs__check_tools
theorem ok__check_tools (T : Txt P K mg cl A) : FnOk P w K mg base (L2.CX P w) 2 A._check_tools A._check_tools_d ["tools"] (PureSp K cl m__check_tools) := by
  refine T.F__check_tools.okX sc__check_tools (fun vs H Q E h => h.len) (fun cdv A outer s H vs Q E hr h => ?_)
  have hu := hu_of hr
  exact ⟨_, pss_cons (ps_set (i := 1) sc__check_tools.nd rfl (Or.inl rfl) pe_dnewK)
    (pss_one (ps_for (passes_of rfl) rfl (pi_list (pv 0)) (pg_tup rfl (pgs_cons (pg_name (i := 2) sc__check_tools.nd rfl (Or.inl rfl)) (pgs_cons (pg_name (i := 3) sc__check_tools.nd rfl (Or.inl rfl)) pgs_nil))) (pss_cons (ps_if (PW.pt (pw_or (pt_not (pt_val (pe_callSD (ok_is_name T) (hr.mono (by decide)) (by rfl) T.g_is_name T.F_is_name.kp T.b_is_name .nil (passAt (takes_of rfl rfl rfl rfl)) (pa_cons (pv 2) pa_nil)))) (pw_or (pt_cmp (pc_din hu (pv 2) (pv 1))) (pw_or1 (pt_cmpR op_lt (pv 3) pe_int (nomark _)))))) (pss_one (ps_raise rfl (takes_of rfl rfl rfl rfl) (pmk_own PySem.F.excBase_ValueError T.x_InvalidKitchen T.g_InvalidKitchen T.k_InvalidKitchen (raises_own T.e_InvalidKitchen T.t_InvalidKitchen) (by rfl)))) pss_nil)
    (pss_one (ps_dput hu (pv 1) (pv 2) pe_bl rfl))))),
    body_ok (xs := xs__check_tools) (k := 1) (ss_seq ss_newK
    (ss_for (si_list sim_var) (sg_tup (sgs_cons sg_name (sgs_cons sg_name sgs_nil))) (ss_seq (ss_if (st_or (st_not (st_B (simS_call (sa_cons sim_var sa_nil)))) (st_or (st_B (sim_dinK sim_var simB_var)) (st_test (sim_op os_ltI simB_var (simB_of sim_int))))) (ss_raise T.l_InvalidKitchen) ss_next)
    (ss_putK sim_var sim_bl)))) h.len (by decide) h⟩
def N__check_menu : List Str := ["menu", "numbers", "dish", "need", "tool"]
theorem sc__check_menu : FnScope N__check_menu ["menu", "numbers"] (defScope s__check_menu) := ⟨rfl, rfl, rfl, by decide +kernel, rfl, by decide +kernel, by decide +kernel⟩
def xb__check_menu_1 (D : Ds) : Out := (xsSeq (xsAsg 4 (x2 dIx (xVarB 3) (xC (.int 1))))
    (xsIf (xTest (xDninK (xVar 4) (xVarB 1))) (xsRaiseF "UnknownTool" "tool" okm_UnknownTool (xVar 4)) xsNext)) D
def xb__check_menu_2 (D : Ds) : Out := (xsFor (xItemsT (x1 (dFld "Dish" "needs") (xVarB 2))) (xgName 3) xb__check_menu_1) D
def xs__check_menu : XS := xsFor (xItems (xVar 0)) (xgName 2) xb__check_menu_2
def m__check_menu : List Dt → R Dt := funD 2 5 xs__check_menu
theorem ok__check_menu (T : Txt P K mg cl A) : FnOk P w K mg base (L2.CX P w) 3 A._check_menu A._check_menu_d ["menu", "numbers"] (PureSp K cl m__check_menu) := by
  refine T.F__check_menu.okX sc__check_menu (fun vs H Q E h => h.len) (fun cdv A outer s H vs Q E hr h => ?_)
  have hu := hu_of hr
  exact ⟨_, pss_one (ps_for (passes_of rfl) rfl (pi_list (pv 0)) (pg_name (i := 2) sc__check_menu.nd rfl (Or.inl rfl)) (pss_one (ps_for (passes_of rfl) rfl (pi_tup (pe_fld (pv 2) rfl)) (pg_name (i := 3) sc__check_menu.nd rfl (Or.inl rfl)) (pss_cons (ps_set (i := 4) sc__check_menu.nd rfl (Or.inl rfl) (pe_ix ix_seq (pv 3) pe_int (fun _ _ => rfl)))
    (pss_one (ps_if (pt_cmp (pc_dnotin hu (pv 4) (pv 1))) (pss_one (ps_raise rfl (takes_of rfl rfl rfl rfl) (pmk_oex T.oe_UnknownTool T.in_UnknownTool T.ti_UnknownTool (fx_UnknownTool T) (hr.mono (by decide)) T.bx_UnknownTool .nil passL (by rfl) T.g_UnknownTool (pa_cons (pv 4) pa_nil)))) pss_nil)))))),
    body_ok (xs := xs__check_menu) (k := 2) (ss_for (si_list sim_var) sg_name (ss_for (si_tup (sim_fld T.l_Dish T.K_Dish T.N_Dish_needs simB_var)) sg_name (ss_seq (ss_asg (sim_op os_ix simB_var (simB_of sim_int)))
    (ss_if (st_B (sim_dninK sim_var simB_var)) (ss_raiseF T.l_UnknownTool hm_UnknownTool sim_var) ss_next)))) h.len (by decide) h⟩
def N_Kitchen___init__ : List Str := ["self", "tools", "menu"]
theorem sc_Kitchen___init__ : FnScope N_Kitchen___init__ ["self", "tools", "menu"] (defScope s_Kitchen___init__) := ⟨rfl, rfl, rfl, by decide +kernel, rfl, by decide +kernel, by decide +kernel⟩
def xs_Kitchen___init__ : XS := xsSeq (xsDrop (xCallBr m__check_tools 1))
    (xsSeq (xsFld 0 "Kitchen" "_numbers" (xCB dDict (xCons (xVarB 1) xNil)))
    (xsSeq (xsFld 0 "Kitchen" "_menu" (xL (xCBL dList (xCons (xVarB 2) xNil))))
    (xsDrop (xCall m__check_menu (xCons (x1 (dFld "Kitchen" "_menu") (xVarB 0)) (xCons (x1 (dFld "Kitchen" "_numbers") (xVarB 0)) xNil))))))
theorem mk_Kitchen___init__ : ∀ (x : Addr) (s1 s2 : Sl), runJ "Kitchen" xs_Kitchen___init__ x [s1, s2] = runJ "Kitchen" xs_Kitchen___init__ 0 [s1, s2] := by
  intro x s1 s2
  have nf : Str.ofString "_numbers" ≠ Str.ofString "_menu" := by decide +kernel
  have k1 : ∀ d2 l, (List.lookup (Str.ofString "_menu") [(Str.ofString "_numbers", d2), (Str.ofString "_menu", Dt.lst l)]) = some (.lst l) := by
    intro d2 l
    have : (Str.ofString "_menu" == Str.ofString "_numbers") = false := by decide +kernel
    simp [List.lookup, this]
  have k2 : ∀ (d2 : Dt) l, (List.lookup (Str.ofString "_numbers") [(Str.ofString "_numbers", d2), (Str.ofString "_menu", Dt.lst l)]) = some d2 := by intro d2 l; simp [List.lookup]
  simp only [runJ, xs_Kitchen___init__]
  cases e1 : callBr m__check_tools s1 <;> simp [e1, -dList]
  cases e2 : s1.dat <;> simp [e2, -dList]
  rename_i a
  cases e3 : dDict [a] <;> simp [e3, -dList]
  cases e4 : s2.dat <;> simp [e4, putG, nf, -dList]
  rename_i b
  cases e5 : dList [b] <;> simp [e5, putG, nf, -dList]
  rename_i l
  simp [dFld, k1, k2]
  generalize m__check_menu [Dt.lst l, _] = r
  cases r <;> simp
def m_Kitchen___init__ (ds : List Dt) : R (List (Str × Dt)) := if ds.length = 2 then runI "Kitchen" 3 xs_Kitchen___init__ 0 ds else .bad
theorem mi_Kitchen___init__ : ∀ (x : Addr) (ds : List Dt) (r : R (List (Str × Dt))), m_Kitchen___init__ ds = r → r ≠ .bad → ds.length = 2 ∧ runI "Kitchen" N_Kitchen___init__.length xs_Kitchen___init__ x ds = r := by
  intro x ds r h hr
  unfold m_Kitchen___init__ at h
  split at h
  · rename_i hl
    refine ⟨hl, ?_⟩
    match ds, hl with
    | [a1, a2], _ => subst h; exact mk_Kitchen___init__ x (.sh a1) (.sh a2)
  · exact absurd h.symm hr
theorem ok_Kitchen___init__ (T : Txt P K mg cl A) : FnOk P w K mg base (L2.CX P w) 4 A.Kitchen___init__ A.Kitchen___init___d ["self", "tools", "menu"] (InitSp K cl "Kitchen" m_Kitchen___init__) := by
  refine T.F_Kitchen___init__.okX sc_Kitchen___init__ (fun vs H Q E h => initSp_len (k := 2) h fun ds e => by unfold m_Kitchen___init__; rw [if_neg e]) (fun cdv A outer s H vs Q E hr h => ?_)
  have hu := hu_of hr
  exact ⟨_, pss_cons (ps_expr (pe_callSD (ok__check_tools T) (hr.mono (by decide)) (by rfl) T.g__check_tools T.F__check_tools.kp T.b__check_tools .nil (passAt (takes_of rfl rfl rfl rfl)) (pa_cons (pv 1) pa_nil)))
    (pss_cons (ps_fld (pv 0) (pe_callTy (call_dictA rfl) (by rfl) T.z_dict (by decide +kernel) (pa_cons (pv 1) pa_nil)) rfl)
    (pss_cons (ps_fld (pv 0) (pe_callTy call_listA (by rfl) T.z_list (by decide +kernel) (pa_cons (pv 2) pa_nil)) rfl)
    (pss_one (ps_expr (pe_callSD (ok__check_menu T) (hr.mono (by decide)) (by rfl) T.g__check_menu T.F__check_menu.kp T.b__check_menu .nil (passAt (takes_of rfl rfl rfl rfl)) (pa_cons (pe_fld (pv 0) rfl) (pa_cons (pe_fld (pv 0) rfl) pa_nil))))))),
    init_ok (xs := xs_Kitchen___init__) (k := 2) (ss_seq (ss_drop (sim_callBr (i := 1)))
    (ss_seq (ss_fld T.l_Kitchen T.K_Kitchen T.N_Kitchen__numbers (sim_cb cs_dict (sba_cons simB_var sba_nil)))
    (ss_seq (ss_fld T.l_Kitchen T.K_Kitchen T.N_Kitchen__menu (sim_L (simL_cb cl_list (sba_cons simB_var sba_nil))))
    (ss_drop (simS_call (sa_cons (sim_fld T.l_Kitchen T.K_Kitchen T.N_Kitchen__menu simB_var) (sa_cons (sim_fld T.l_Kitchen T.K_Kitchen T.N_Kitchen__numbers simB_var) sa_nil))))))) (by decide) mi_Kitchen___init__ h⟩
def mM0_Kitchen___init__ (ds : List Dt) : R (List (Str × Dt)) := if ds.length = 2 then runIM "Kitchen" 3 [true, true] xs_Kitchen___init__ 0 ds else .bad
theorem miM0_Kitchen___init__ : ∀ (x : Addr) (ds : List Dt) (r : R (List (Str × Dt))), mM0_Kitchen___init__ ds = r → r ≠ .bad → ds.length = 2 ∧ runIM "Kitchen" N_Kitchen___init__.length [true, true] xs_Kitchen___init__ x ds = r := by
  intro x ds r h hr
  unfold mM0_Kitchen___init__ at h
  split at h
  · rename_i hl
    refine ⟨hl, ?_⟩
    match ds, hl with
    | [a1, a2], _ =>
      subst h
      obtain ⟨t1, e1⟩ := slM_cons true a1
      obtain ⟨t2, e2⟩ := slM_cons true a2
      show runJ _ _ _ (slM [true, true] [a1, a2] ++ _) = runJ _ _ _ (slM [true, true] [a1, a2] ++ _)
      rw [e1, e2, slM_nil]
      exact mk_Kitchen___init__ x t1 t2
  · exact absurd h.symm hr
theorem ok_Kitchen___init___M0 (T : Txt P K mg cl A) : FnOk P w K mg base (L2.CX P w) 4 A.Kitchen___init__ A.Kitchen___init___d ["self", "tools", "menu"] (InitSpM K cl "Kitchen" [true, true] mM0_Kitchen___init__) := by
  refine T.F_Kitchen___init__.okX sc_Kitchen___init__ (fun vs H Q E h => initSpM_len (k := 2) h fun ds e => by unfold mM0_Kitchen___init__; rw [if_neg e]) (fun cdv A outer s H vs Q E hr h => ?_)
  have hu := hu_of hr
  exact ⟨_, pss_cons (ps_expr (pe_callSD (ok__check_tools T) (hr.mono (by decide)) (by rfl) T.g__check_tools T.F__check_tools.kp T.b__check_tools .nil (passAt (takes_of rfl rfl rfl rfl)) (pa_cons (pv 1) pa_nil)))
    (pss_cons (ps_fld (pv 0) (pe_callTy (call_dictA rfl) (by rfl) T.z_dict (by decide +kernel) (pa_cons (pv 1) pa_nil)) rfl)
    (pss_cons (ps_fld (pv 0) (pe_callTy call_listA (by rfl) T.z_list (by decide +kernel) (pa_cons (pv 2) pa_nil)) rfl)
    (pss_one (ps_expr (pe_callSD (ok__check_menu T) (hr.mono (by decide)) (by rfl) T.g__check_menu T.F__check_menu.kp T.b__check_menu .nil (passAt (takes_of rfl rfl rfl rfl)) (pa_cons (pe_fld (pv 0) rfl) (pa_cons (pe_fld (pv 0) rfl) pa_nil))))))),
    init_okM (xs := xs_Kitchen___init__) (k := 2) (ss_seq (ss_drop (sim_callBr (i := 1)))
    (ss_seq (ss_fld T.l_Kitchen T.K_Kitchen T.N_Kitchen__numbers (sim_cb cs_dict (sba_cons simB_var sba_nil)))
    (ss_seq (ss_fld T.l_Kitchen T.K_Kitchen T.N_Kitchen__menu (sim_L (simL_cb cl_list (sba_cons simB_var sba_nil))))
    (ss_drop (simS_call (sa_cons (sim_fld T.l_Kitchen T.K_Kitchen T.N_Kitchen__menu simB_var) (sa_cons (sim_fld T.l_Kitchen T.K_Kitchen T.N_Kitchen__numbers simB_var) sa_nil))))))) (by decide) miM0_Kitchen___init__ h⟩
def N_Kitchen_menu : List Str := ["self"]
theorem sc_Kitchen_menu : FnScope N_Kitchen_menu ["self"] (defScope s_Kitchen_menu) := ⟨rfl, rfl, rfl, by decide +kernel, rfl, by decide +kernel, by decide +kernel⟩
def xs_Kitchen_menu : XS := xsRet (xL (xCBL dList (xCons (x1 (dFld "Kitchen" "_menu") (xVarB 0)) xNil)))
def m_Kitchen_menu : List Dt → R Dt := funD 1 1 xs_Kitchen_menu
theorem ok_Kitchen_menu (T : Txt P K mg cl A) : FnOk P w K mg base (L2.CX P w) 1 A.Kitchen_menu A.Kitchen_menu_d ["self"] (PureSp K cl m_Kitchen_menu) := by
  refine T.F_Kitchen_menu.okX sc_Kitchen_menu (fun vs H Q E h => h.len) (fun cdv A outer s H vs Q E hr h => ?_)
  have hu := hu_of hr
  exact ⟨_, pss_one (ps_ret (pe_callTy call_listA (by rfl) T.z_list (by decide +kernel) (pa_cons (pe_fld (pv 0) rfl) pa_nil))),
    body_ok (xs := xs_Kitchen_menu) (k := 1) (ss_ret (sim_L (simL_cb cl_list (sba_cons (simB_of (sim_fld T.l_Kitchen T.K_Kitchen T.N_Kitchen__menu simB_var)) sba_nil)))) h.len (by decide) h⟩
def xr_Kitchen_menu : XR := xrRet (xCBL dList (xCons (x1 (dFld "Kitchen" "_menu") (xVarB 0)) xNil))
def mL_Kitchen_menu : List Dt → R (List Dt) := funR 1 1 xr_Kitchen_menu
theorem okL_Kitchen_menu (T : Txt P K mg cl A) : FnOk P w K mg base (L2.CX P w) 1 A.Kitchen_menu A.Kitchen_menu_d ["self"] (LstSp K cl mL_Kitchen_menu) := by
  refine T.F_Kitchen_menu.okX sc_Kitchen_menu (fun vs H Q E h => h.len) (fun cdv A outer s H vs Q E hr h => ?_)
  have hu := hu_of hr
  exact ⟨_, pss_one (ps_ret (pe_callTy call_listA (by rfl) T.z_list (by decide +kernel) (pa_cons (pe_fld (pv 0) rfl) pa_nil))),
    body_okR (xr := xr_Kitchen_menu) (k := 1) (sr_ret (simL_cb cl_list (sba_cons (simB_of (sim_fld T.l_Kitchen T.K_Kitchen T.N_Kitchen__menu simB_var)) sba_nil))) h.len (by decide) h⟩
def N_Kitchen__check_tool : List Str := ["self", "tool"]
theorem sc_Kitchen__check_tool : FnScope N_Kitchen__check_tool ["self", "tool"] (defScope s_Kitchen__check_tool) := ⟨rfl, rfl, rfl, by decide +kernel, rfl, by decide +kernel, by decide +kernel⟩
def xs_Kitchen__check_tool : XS := xsIf (xTest (xDninK (xVar 1) (x1 (dFld "Kitchen" "_numbers") (xVarB 0)))) (xsRaiseF "UnknownTool" "tool" okm_UnknownTool (xVar 1)) xsNext
def m_Kitchen__check_tool : List Dt → R Dt := funD 2 2 xs_Kitchen__check_tool
theorem ok_Kitchen__check_tool (T : Txt P K mg cl A) : FnOk P w K mg base (L2.CX P w) 3 A.Kitchen__check_tool A.Kitchen__check_tool_d ["self", "tool"] (PureSp K cl m_Kitchen__check_tool) := by
  refine T.F_Kitchen__check_tool.okX sc_Kitchen__check_tool (fun vs H Q E h => h.len) (fun cdv A outer s H vs Q E hr h => ?_)
  have hu := hu_of hr
  exact ⟨_, pss_one (ps_if (pt_cmp (pc_dnotin hu (pv 1) (pe_fld (pv 0) rfl))) (pss_one (ps_raise rfl (takes_of rfl rfl rfl rfl) (pmk_oex T.oe_UnknownTool T.in_UnknownTool T.ti_UnknownTool (fx_UnknownTool T) (hr.mono (by decide)) T.bx_UnknownTool .nil passL (by rfl) T.g_UnknownTool (pa_cons (pv 1) pa_nil)))) pss_nil),
    body_ok (xs := xs_Kitchen__check_tool) (k := 2) (ss_if (st_B (sim_dninK sim_var (simB_of (sim_fld T.l_Kitchen T.K_Kitchen T.N_Kitchen__numbers simB_var)))) (ss_raiseF T.l_UnknownTool hm_UnknownTool sim_var) ss_next) h.len (by decide) h⟩
def N_Kitchen_number_of : List Str := ["self", "tool"]
theorem sc_Kitchen_number_of : FnScope N_Kitchen_number_of ["self", "tool"] (defScope s_Kitchen_number_of) := ⟨rfl, rfl, rfl, by decide +kernel, rfl, by decide +kernel, by decide +kernel⟩
def xs_Kitchen_number_of : XS := xsSeq (xsDrop (xMeth "Kitchen" "_check_tool" m_Kitchen__check_tool (xVar 0) (xCons (xVar 1) xNil)))
    (xsRet (xDgetK (x1 (dFld "Kitchen" "_numbers") (xVarB 0)) (xVar 1)))
def m_Kitchen_number_of : List Dt → R Dt := funD 2 2 xs_Kitchen_number_of
theorem ok_Kitchen_number_of (T : Txt P K mg cl A) : FnOk P w K mg base (L2.CX P w) 4 A.Kitchen_number_of A.Kitchen_number_of_d ["self", "tool"] (PureSp K cl m_Kitchen_number_of) := by
  refine T.F_Kitchen_number_of.okX sc_Kitchen_number_of (fun vs H Q E h => h.len) (fun cdv A outer s H vs Q E hr h => ?_)
  have hu := hu_of hr
  exact ⟨_, pss_cons (ps_expr (pe_meth (pv 0) T.K_Kitchen T.Me_Kitchen__check_tool (ok_Kitchen__check_tool T) (hr.mono (by decide)) T.b_Kitchen__check_tool .nil (passes_call (takes_of rfl rfl rfl rfl) (fun _ _ _ _ h => h)) (pa_cons (pv 1) pa_nil)))
    (pss_one (ps_ret (pe_dget hu (pe_fld (pv 0) rfl) (pv 1) (fun _ _ => rfl)))),
    body_ok (xs := xs_Kitchen_number_of) (k := 2) (ss_seq (ss_drop (sim_meth T.l_Kitchen sim_var (sa_cons sim_var sa_nil)))
    (ss_ret (sim_dgetK (simB_of (sim_fld T.l_Kitchen T.K_Kitchen T.N_Kitchen__numbers simB_var)) sim_var))) h.len (by decide) h⟩
def N_Kitchen_tools : List Str := ["self"]
theorem sc_Kitchen_tools : FnScope N_Kitchen_tools ["self"] (defScope s_Kitchen_tools) := ⟨rfl, rfl, rfl, by decide +kernel, rfl, by decide +kernel, by decide +kernel⟩
def xs_Kitchen_tools : XS := xsRet (xCB dTupA (xCons (x1 (dFld "Kitchen" "_numbers") (xVarB 0)) xNil))
def m_Kitchen_tools : List Dt → R Dt := funD 1 1 xs_Kitchen_tools
theorem ok_Kitchen_tools (T : Txt P K mg cl A) : FnOk P w K mg base (L2.CX P w) 1 A.Kitchen_tools A.Kitchen_tools_d ["self"] (PureSp K cl m_Kitchen_tools) := by
  refine T.F_Kitchen_tools.okX sc_Kitchen_tools (fun vs H Q E h => h.len) (fun cdv A outer s H vs Q E hr h => ?_)
  have hu := hu_of hr
  exact ⟨_, pss_one (ps_ret (pe_callTy (call_tupleB rfl) (by rfl) T.z_tuple (by decide +kernel) (pa_cons (pe_fld (pv 0) rfl) pa_nil))),
    body_ok (xs := xs_Kitchen_tools) (k := 1) (ss_ret (sim_cb cs_tupA (sba_cons (simB_of (sim_fld T.l_Kitchen T.K_Kitchen T.N_Kitchen__numbers simB_var)) sba_nil))) h.len (by decide) h⟩
def N__law_is_integer : List Str := ["_law_x"]
theorem sc__law_is_integer : FnScope N__law_is_integer ["_law_x"] (defScope s__law_is_integer) := ⟨rfl, rfl, rfl, by decide +kernel, rfl, by decide +kernel, by decide +kernel⟩
def xs__law_is_integer : XS := xsRet (xAndV (xCB dIsi (xCons (xVarB 0) (xCons (xC (.ty "int")) xNil))) (xNotV (xCB dIsi (xCons (xVarB 0) (xCons (xC (.ty "bool")) xNil)))))
def m__law_is_integer : List Dt → R Dt := funD 1 1 xs__law_is_integer
theorem ok__law_is_integer (T : Txt P K mg cl A) : FnOk P w K mg base (L2.CX P w) 1 A._law_is_integer A._law_is_integer_d ["_law_x"] (PureSp K cl m__law_is_integer) := by
  refine T.F__law_is_integer.okX sc__law_is_integer (fun vs H Q E h => h.len) (fun cdv A outer s H vs Q E hr h => ?_)
  have hu := hu_of hr
  exact ⟨_, pss_one (ps_ret (pe_and (pe_callB call_isi (by rfl) T.z_isinstance (by decide +kernel) (pa_cons (pv 0) (pa_cons (pe_bltn (v := .ty "int") (by rfl) T.z_int (by decide +kernel) rfl) pa_nil))) (pe_one (pe_not (pe_callB call_isi (by rfl) T.z_isinstance (by decide +kernel) (pa_cons (pv 0) (pa_cons (pe_bltn (v := .ty "bool") (by rfl) T.z_bool (by decide +kernel) rfl) pa_nil))))))),
    body_ok (xs := xs__law_is_integer) (k := 1) (ss_ret (sim_and (sim_cb cs_isi (sba_cons simB_var (sba_cons (simB_of sim_ty) sba_nil))) (sim_not (sim_cb cs_isi (sba_cons simB_var (sba_cons (simB_of sim_ty) sba_nil)))))) h.len (by decide) h⟩
theorem okQ__law_is_integer (T : Txt P K mg cl A) : FnQ P w K mg base 1 A._law_is_integer A._law_is_integer_d ["_law_x"] (PureSp K cl m__law_is_integer) := by
  refine T.F__law_is_integer.okQ sc__law_is_integer (fun vs H Q E h => h.len) (fun cdv A outer s H vs Q E p h => ?_)
  exact ⟨_, pss_one (ps_ret (pe_and (pe_callB call_isi (by rfl) T.z_isinstance (by decide +kernel) (pa_cons (pv 0) (pa_cons (pe_bltn (v := .ty "int") (by rfl) T.z_int (by decide +kernel) rfl) pa_nil))) (pe_one (pe_not (pe_callB call_isi (by rfl) T.z_isinstance (by decide +kernel) (pa_cons (pv 0) (pa_cons (pe_bltn (v := .ty "bool") (by rfl) T.z_bool (by decide +kernel) rfl) pa_nil))))))),
    body_ok (xs := xs__law_is_integer) (k := 1) (ss_ret (sim_and (sim_cb cs_isi (sba_cons simB_var (sba_cons (simB_of sim_ty) sba_nil))) (sim_not (sim_cb cs_isi (sba_cons simB_var (sba_cons (simB_of sim_ty) sba_nil)))))) h.len (by decide) h⟩
def N_Dish_length : List Str := ["self"]
theorem sc_Dish_length : FnScope N_Dish_length ["self"] (defScope s_Dish_length) := ⟨rfl, rfl, rfl, by decide +kernel, rfl, by decide +kernel, by decide +kernel⟩
def xs_Dish_length : XS := xsRet (x2 dAdd (x2 dIx (x2 dIx (x1 (dFld "Dish" "needs") (xVarB 0)) (x1 dNeg (xC (.int 1)))) (xC (.int 0))) (xC (.int 1)))
def m_Dish_length : List Dt → R Dt := funD 1 1 xs_Dish_length
theorem ok_Dish_length (T : Txt P K mg cl A) : FnOk P w K mg base (L2.CX P w) 1 A.Dish_length A.Dish_length_d ["self"] (PureSp K cl m_Dish_length) := by
  refine T.F_Dish_length.okX sc_Dish_length (fun vs H Q E h => h.len) (fun cdv A outer s H vs Q E hr h => ?_)
  have hu := hu_of hr
  exact ⟨_, pss_one (ps_ret (pe_op op_addA (pe_ix ix_seq (pe_ix ix_seq (pe_fld (pv 0) rfl) (pe_un un_neg pe_int) (fun _ _ => rfl)) pe_int (fun _ _ => rfl)) pe_int)),
    body_ok (xs := xs_Dish_length) (k := 1) (ss_ret (sim_op os_add (simB_of (sim_op os_ix (simB_of (sim_op os_ix (simB_of (sim_fld T.l_Dish T.K_Dish T.N_Dish_needs simB_var)) (simB_of (sim_un us_neg (simB_of sim_int))))) (simB_of sim_int))) (simB_of sim_int))) h.len (by decide) h⟩
def N_Kitchen_horizon : List Str := ["self", "dish"]
theorem sc_Kitchen_horizon : FnScope N_Kitchen_horizon ["self"] (defScope s_Kitchen_horizon) := ⟨rfl, rfl, rfl, by decide +kernel, rfl, by decide +kernel, by decide +kernel⟩
def xe_Kitchen_horizon_1 (D : Ds) : R Dt := (xCB dInt (xCons (x1 (dProp "Dish" m_Dish_length) (xVar 1)) xNil)) D
def xs_Kitchen_horizon : XS := xsRet (xMaxD (xCons (xL (xLc (xItems (x1 (dFld "Kitchen" "_menu") (xVarB 0))) (xgName 1) xYes xe_Kitchen_horizon_1 [1])) xNil) (xCons (xC (.int 1)) xNil))
def m_Kitchen_horizon : List Dt → R Dt := funD 1 2 xs_Kitchen_horizon
theorem ok_Kitchen_horizon (T : Txt P K mg cl A) : FnOk P w K mg base (L2.CX P w) 3 A.Kitchen_horizon A.Kitchen_horizon_d ["self"] (PureSp K cl m_Kitchen_horizon) := by
  refine T.F_Kitchen_horizon.okX sc_Kitchen_horizon (fun vs H Q E h => h.len) (fun cdv A outer s H vs Q E hr h => ?_)
  have hu := hu_of hr
  exact ⟨_, pss_one (ps_ret (pe_callBK (DT.cr_maxDef rfl hu) (by rfl) T.z_max (by decide +kernel) (pa_cons (pe_lc (own := [("dish", 1)]) rfl sc_Kitchen_horizon.nd (pi_list (pe_fld (pv 0) rfl)) (blkOk_by (N := N_Kitchen_horizon) (sc := defScope s_Kitchen_horizon) (by decide +kernel)) (fun _ _ _ _ _ => pg_name (i := 1) sc_Kitchen_horizon.nd rfl (Or.inl rfl)) (fun _ _ _ _ _ => pts_nil) (fun _ _ _ _ _ => pe_callTy call_intA (by rfl) T.z_int (by decide +kernel) (pa_cons (pe_prop (pv 1) T.K_Dish T.P_Dish_length (ok_Dish_length T) (hr.mono (by decide)) T.b_Dish_length .nil passL rfl) pa_nil))) pa_nil) (pk_cons pe_int pk_nil))),
    body_ok (xs := xs_Kitchen_horizon) (k := 1) (ss_ret (sim_maxD (sba_cons (simB_of (sim_L (simL_lc (si_list (sim_fld T.l_Kitchen T.K_Kitchen T.N_Kitchen__menu simB_var)) (sgw_name (by decide)) st_yes (sim_cb cs_int (sba_cons (simB_of (sim_prop T.l_Dish sim_var)) sba_nil))))) sba_nil) (sba_cons (simB_of sim_int) sba_nil))) h.len (by decide) h⟩
def N__law_horizon : List Str := ["_law_kitchen", "_law_high", "_law_dish", "_law_need"]
theorem sc__law_horizon : FnScope N__law_horizon ["_law_kitchen"] (defScope s__law_horizon) := ⟨rfl, rfl, rfl, by decide +kernel, rfl, by decide +kernel, by decide +kernel⟩
def xb__law_horizon_1 (D : Ds) : Out := (xsIf (xTest (x2 dGt (x2 dAdd (x2 dIx (xVarB 3) (xC (.int 0))) (xC (.int 1))) (xVarB 1))) (xsAsg 1 (x2 dAdd (x2 dIx (xVarB 3) (xC (.int 0))) (xC (.int 1)))) xsNext) D
def xb__law_horizon_2 (D : Ds) : Out := (xsFor (xItems (x2 dIx (xVarB 2) (xC (.int 3)))) (xgName 3) xb__law_horizon_1) D
def xs__law_horizon : XS := xsSeq (xsAsg 1 (xC (.int 1)))
    (xsSeq (xsFor (xItems (x2 dIx (xVarB 0) (xC (.int 2)))) (xgName 2) xb__law_horizon_2)
    (xsRet (xVar 1)))
def m__law_horizon : List Dt → R Dt := funD 1 4 xs__law_horizon
theorem ok__law_horizon (T : Txt P K mg cl A) : FnOk P w K mg base (L2.CX P w) 1 A._law_horizon A._law_horizon_d ["_law_kitchen"] (PureSp K cl m__law_horizon) := by
  refine T.F__law_horizon.okX sc__law_horizon (fun vs H Q E h => h.len) (fun cdv A outer s H vs Q E hr h => ?_)
  have hu := hu_of hr
  exact ⟨_, pss_cons (ps_set (i := 1) sc__law_horizon.nd rfl (Or.inl rfl) pe_int)
    (pss_cons (ps_for (passes_of rfl) rfl (pi_list (pe_ix ix_seq (pv 0) pe_int (fun _ _ => rfl))) (pg_name (i := 2) sc__law_horizon.nd rfl (Or.inl rfl)) (pss_one (ps_for (passes_of rfl) rfl (pi_list (pe_ix ix_seq (pv 2) pe_int (fun _ _ => rfl))) (pg_name (i := 3) sc__law_horizon.nd rfl (Or.inl rfl)) (pss_one (ps_if (pt_cmpR op_gt (pe_op op_addA (pe_ix ix_seq (pv 3) pe_int (fun _ _ => rfl)) pe_int) (pv 1) (nomark _)) (pss_one (ps_set (i := 1) sc__law_horizon.nd rfl (Or.inl rfl) (pe_op op_addA (pe_ix ix_seq (pv 3) pe_int (fun _ _ => rfl)) pe_int))) pss_nil)))))
    (pss_one (ps_ret (pv 1)))),
    body_ok (xs := xs__law_horizon) (k := 1) (ss_seq (ss_asg sim_int)
    (ss_seq (ss_for (si_list (sim_op os_ix simB_var (simB_of sim_int))) sg_name (ss_for (si_list (sim_op os_ix simB_var (simB_of sim_int))) sg_name (ss_if (st_test (sim_op os_gt (simB_of (sim_op os_add (simB_of (sim_op os_ix simB_var (simB_of sim_int))) (simB_of sim_int))) simB_var)) (ss_asg (sim_op os_add (simB_of (sim_op os_ix simB_var (simB_of sim_int))) (simB_of sim_int))) ss_next)))
    (ss_ret sim_var))) h.len (by decide) h⟩
def N__law_dish_is : List Str := ["_law_dish", "_law_name", "_law_worths", "_law_needs", "_law_k", "_law_need"]
theorem sc__law_dish_is : FnScope N__law_dish_is ["_law_dish", "_law_name", "_law_worths", "_law_needs"] (defScope s__law_dish_is) := ⟨rfl, rfl, rfl, by decide +kernel, rfl, by decide +kernel, by decide +kernel⟩
def xb__law_dish_is_1 (D : Ds) : Out := (xsSeq (xsAsg 5 (x2 dIx (x1 (dFld "Dish" "needs") (xVarB 0)) (xVarB 4)))
    (xsSeq (xsIf (xOr (xNot (xTest (xCB dIsi (xCons (xVarB 5) (xCons (xC (.ty "tuple")) xNil))))) (xOr (xTest (x2 dNe (xCB dLen (xCons (xVarB 5) xNil)) (xC (.int 3)))) (xNot (xTest (xCB dIsi (xCons (x2 dIx (xVarB 5) (xC (.int 1))) (xCons (xC (.ty "str")) xNil))))))) (xsRet (xC (.bl false))) xsNext)
    (xsIf (xOr (xNot (xTest (xCall m__law_is_integer (xCons (x2 dIx (xVarB 5) (xC (.int 0))) xNil)))) (xOr (xNot (xTest (xCall m__law_is_integer (xCons (x2 dIx (xVarB 5) (xC (.int 2))) xNil)))) (xTest (x2 dNe (xVarB 5) (x2 dIx (xVarB 3) (xVarB 4)))))) (xsRet (xC (.bl false))) xsNext))) D
def xs__law_dish_is : XS := xsSeq (xsIf (xOr (xNot (xTest (xCB dIsi (xCons (x1 (dFld "Dish" "name") (xVarB 0)) (xCons (xC (.ty "str")) xNil))))) (xTest (x2 dNe (x1 (dFld "Dish" "name") (xVarB 0)) (xVarB 1)))) (xsRet (xC (.bl false))) xsNext)
    (xsSeq (xsIf (xOr (xNot (xTest (xCall m__law_is_integer (xCons (x1 (dFld "Dish" "first") (xVarB 0)) xNil)))) (xNot (xTest (xCall m__law_is_integer (xCons (x1 (dFld "Dish" "second") (xVarB 0)) xNil))))) (xsRet (xC (.bl false))) xsNext)
    (xsSeq (xsIf (xOr (xTest (x2 dNe (x1 (dFld "Dish" "first") (xVarB 0)) (x2 dIx (xVarB 2) (xC (.int 0))))) (xTest (x2 dNe (x1 (dFld "Dish" "second") (xVarB 0)) (x2 dIx (xVarB 2) (xC (.int 1)))))) (xsRet (xC (.bl false))) xsNext)
    (xsSeq (xsIf (xOr (xNot (xTest (xCB dIsi (xCons (x1 (dFld "Dish" "needs") (xVarB 0)) (xCons (xC (.ty "tuple")) xNil))))) (xTest (x2 dNe (xCB dLen (xCons (x1 (dFld "Dish" "needs") (xVarB 0)) xNil)) (xCB dLen (xCons (xVarB 3) xNil))))) (xsRet (xC (.bl false))) xsNext)
    (xsSeq (xsFor (xRng1 (xCons (xCB dLen (xCons (xVarB 3) xNil)) xNil)) (xgName 4) xb__law_dish_is_1)
    (xsRet (xC (.bl true)))))))
def m__law_dish_is : List Dt → R Dt := funD 4 6 xs__law_dish_is
theorem ok__law_dish_is (T : Txt P K mg cl A) : FnOk P w K mg base (L2.CX P w) 2 A._law_dish_is A._law_dish_is_d ["_law_dish", "_law_name", "_law_worths", "_law_needs"] (PureSp K cl m__law_dish_is) := by
  refine T.F__law_dish_is.okX sc__law_dish_is (fun vs H Q E h => h.len) (fun cdv A outer s H vs Q E hr h => ?_)
  have hu := hu_of hr
  exact ⟨_, pss_cons (ps_if (PW.pt (pw_or (pt_not (pt_val (pe_callB call_isi (by rfl) T.z_isinstance (by decide +kernel) (pa_cons (pe_fld (pv 0) rfl) (pa_cons (pe_bltn (v := .ty "str") (by rfl) T.z_str (by decide +kernel) rfl) pa_nil))))) (pw_or1 (pt_cmpR (op_neP hr.units) (pe_fld (pv 0) rfl) (pv 1) (nomark _))))) (pss_one (ps_ret pe_bl)) pss_nil)
    (pss_cons (ps_if (PW.pt (pw_or (pt_not (pt_val (pe_callSD (ok__law_is_integer T) (hr.mono (by decide)) (by rfl) T.g__law_is_integer T.F__law_is_integer.kp T.b__law_is_integer .nil (passAt (takes_of rfl rfl rfl rfl)) (pa_cons (pe_fld (pv 0) rfl) pa_nil)))) (pw_or1 (pt_not (pt_val (pe_callSD (ok__law_is_integer T) (hr.mono (by decide)) (by rfl) T.g__law_is_integer T.F__law_is_integer.kp T.b__law_is_integer .nil (passAt (takes_of rfl rfl rfl rfl)) (pa_cons (pe_fld (pv 0) rfl) pa_nil))))))) (pss_one (ps_ret pe_bl)) pss_nil)
    (pss_cons (ps_if (PW.pt (pw_or (pt_cmpR (op_neP hr.units) (pe_fld (pv 0) rfl) (pe_ix ix_seq (pv 2) pe_int (fun _ _ => rfl)) (nomark _)) (pw_or1 (pt_cmpR (op_neP hr.units) (pe_fld (pv 0) rfl) (pe_ix ix_seq (pv 2) pe_int (fun _ _ => rfl)) (nomark _))))) (pss_one (ps_ret pe_bl)) pss_nil)
    (pss_cons (ps_if (PW.pt (pw_or (pt_not (pt_val (pe_callB call_isi (by rfl) T.z_isinstance (by decide +kernel) (pa_cons (pe_fld (pv 0) rfl) (pa_cons (pe_bltn (v := .ty "tuple") (by rfl) T.z_tuple (by decide +kernel) rfl) pa_nil))))) (pw_or1 (pt_cmpR (op_neP hr.units) (pe_callB call_lenA (by rfl) T.z_len (by decide +kernel) (pa_cons (pe_fld (pv 0) rfl) pa_nil)) (pe_callB call_lenA (by rfl) T.z_len (by decide +kernel) (pa_cons (pv 3) pa_nil)) (nomark _))))) (pss_one (ps_ret pe_bl)) pss_nil)
    (pss_cons (ps_for (passes_of rfl) rfl (pi_range1 (by rfl) T.z_range (pa_cons (pe_callB call_lenA (by rfl) T.z_len (by decide +kernel) (pa_cons (pv 3) pa_nil)) pa_nil)) (pg_name (i := 4) sc__law_dish_is.nd rfl (Or.inl rfl)) (pss_cons (ps_set (i := 5) sc__law_dish_is.nd rfl (Or.inl rfl) (pe_ix ix_seq (pe_fld (pv 0) rfl) (pv 4) (fun _ _ => rfl)))
    (pss_cons (ps_if (PW.pt (pw_or (pt_not (pt_val (pe_callB call_isi (by rfl) T.z_isinstance (by decide +kernel) (pa_cons (pv 5) (pa_cons (pe_bltn (v := .ty "tuple") (by rfl) T.z_tuple (by decide +kernel) rfl) pa_nil))))) (pw_or (pt_cmpR (op_neP hr.units) (pe_callB call_lenA (by rfl) T.z_len (by decide +kernel) (pa_cons (pv 5) pa_nil)) pe_int (nomark _)) (pw_or1 (pt_not (pt_val (pe_callB call_isi (by rfl) T.z_isinstance (by decide +kernel) (pa_cons (pe_ix ix_seq (pv 5) pe_int (fun _ _ => rfl)) (pa_cons (pe_bltn (v := .ty "str") (by rfl) T.z_str (by decide +kernel) rfl) pa_nil))))))))) (pss_one (ps_ret pe_bl)) pss_nil)
    (pss_one (ps_if (PW.pt (pw_or (pt_not (pt_val (pe_callSD (ok__law_is_integer T) (hr.mono (by decide)) (by rfl) T.g__law_is_integer T.F__law_is_integer.kp T.b__law_is_integer .nil (passAt (takes_of rfl rfl rfl rfl)) (pa_cons (pe_ix ix_seq (pv 5) pe_int (fun _ _ => rfl)) pa_nil)))) (pw_or (pt_not (pt_val (pe_callSD (ok__law_is_integer T) (hr.mono (by decide)) (by rfl) T.g__law_is_integer T.F__law_is_integer.kp T.b__law_is_integer .nil (passAt (takes_of rfl rfl rfl rfl)) (pa_cons (pe_ix ix_seq (pv 5) pe_int (fun _ _ => rfl)) pa_nil)))) (pw_or1 (pt_cmpR (op_neP hr.units) (pv 5) (pe_ix ix_seq (pv 3) (pv 4) (fun _ _ => rfl)) (nomark _)))))) (pss_one (ps_ret pe_bl)) pss_nil)))))
    (pss_one (ps_ret pe_bl)))))),
    body_ok (xs := xs__law_dish_is) (k := 4) (ss_seq (ss_if (st_or (st_not (st_B (sim_cb cs_isi (sba_cons (simB_of (sim_fld T.l_Dish T.K_Dish T.N_Dish_name simB_var)) (sba_cons (simB_of sim_ty) sba_nil))))) (st_test (sim_op os_ne (simB_of (sim_fld T.l_Dish T.K_Dish T.N_Dish_name simB_var)) simB_var))) (ss_ret sim_bl) ss_next)
    (ss_seq (ss_if (st_or (st_not (st_B (simS_call (sa_cons (sim_fld T.l_Dish T.K_Dish T.N_Dish_first simB_var) sa_nil)))) (st_not (st_B (simS_call (sa_cons (sim_fld T.l_Dish T.K_Dish T.N_Dish_second simB_var) sa_nil))))) (ss_ret sim_bl) ss_next)
    (ss_seq (ss_if (st_or (st_test (sim_op os_ne (simB_of (sim_fld T.l_Dish T.K_Dish T.N_Dish_first simB_var)) (simB_of (sim_op os_ix simB_var (simB_of sim_int))))) (st_test (sim_op os_ne (simB_of (sim_fld T.l_Dish T.K_Dish T.N_Dish_second simB_var)) (simB_of (sim_op os_ix simB_var (simB_of sim_int)))))) (ss_ret sim_bl) ss_next)
    (ss_seq (ss_if (st_or (st_not (st_B (sim_cb cs_isi (sba_cons (simB_of (sim_fld T.l_Dish T.K_Dish T.N_Dish_needs simB_var)) (sba_cons (simB_of sim_ty) sba_nil))))) (st_test (sim_op os_ne (simB_of (sim_cb cs_len (sba_cons (simB_of (sim_fld T.l_Dish T.K_Dish T.N_Dish_needs simB_var)) sba_nil))) (simB_of (sim_cb cs_len (sba_cons simB_var sba_nil)))))) (ss_ret sim_bl) ss_next)
    (ss_seq (ss_for (si_rng1 (sa_cons (sim_cb cs_len (sba_cons simB_var sba_nil)) sa_nil)) sg_name (ss_seq (ss_asg (sim_op os_ix (simB_of (sim_fld T.l_Dish T.K_Dish T.N_Dish_needs simB_var)) simB_var))
    (ss_seq (ss_if (st_or (st_not (st_B (sim_cb cs_isi (sba_cons simB_var (sba_cons (simB_of sim_ty) sba_nil))))) (st_or (st_test (sim_op os_ne (simB_of (sim_cb cs_len (sba_cons simB_var sba_nil))) (simB_of sim_int))) (st_not (st_B (sim_cb cs_isi (sba_cons (simB_of (sim_op os_ix simB_var (simB_of sim_int))) (sba_cons (simB_of sim_ty) sba_nil))))))) (ss_ret sim_bl) ss_next)
    (ss_if (st_or (st_not (st_B (simS_call (sa_cons (sim_op os_ix simB_var (simB_of sim_int)) sa_nil)))) (st_or (st_not (st_B (simS_call (sa_cons (sim_op os_ix simB_var (simB_of sim_int)) sa_nil)))) (st_test (sim_op os_ne simB_var (simB_of (sim_op os_ix simB_var simB_var)))))) (ss_ret sim_bl) ss_next))))
    (ss_ret sim_bl)))))) h.len (by decide) h⟩
def N_Kitchen_numbers : List Str := ["self"]
theorem sc_Kitchen_numbers : FnScope N_Kitchen_numbers ["self"] (defScope s_Kitchen_numbers) := ⟨rfl, rfl, rfl, by decide +kernel, rfl, by decide +kernel, by decide +kernel⟩
def xs_Kitchen_numbers : XS := xsRet (x1 dTupV (x1 (dFld "Kitchen" "_numbers") (xVarB 0)))
def m_Kitchen_numbers : List Dt → R Dt := funD 1 1 xs_Kitchen_numbers
theorem ok_Kitchen_numbers (T : Txt P K mg cl A) : FnOk P w K mg base (L2.CX P w) 1 A.Kitchen_numbers A.Kitchen_numbers_d ["self"] (PureSp K cl m_Kitchen_numbers) := by
  refine T.F_Kitchen_numbers.okX sc_Kitchen_numbers (fun vs H Q E h => h.len) (fun cdv A outer s H vs Q E hr h => ?_)
  have hu := hu_of hr
  exact ⟨_, pss_one (ps_ret (pe_callTy (DT.cr_tupV rfl) (by rfl) T.z_tuple (by decide +kernel) (pa_cons (pe_bm0 PySem.F.plainAttrs_dict PySem.F.slot_dict_values PySem.F.type_dict_values DT.mt_vals (pe_fld (pv 0) rfl)) pa_nil))),
    body_ok (xs := xs_Kitchen_numbers) (k := 1) (ss_ret (sim_tupV (simB_of (sim_fld T.l_Kitchen T.K_Kitchen T.N_Kitchen__numbers simB_var)))) h.len (by decide) h⟩
def N__law_kitchen_is : List Str := ["_law_room", "_law_kitchen", "_law_k", "_law_count", "_law_menu", "_law_dish"]
theorem sc__law_kitchen_is : FnScope N__law_kitchen_is ["_law_room", "_law_kitchen"] (defScope s__law_kitchen_is) := ⟨rfl, rfl, rfl, by decide +kernel, rfl, by decide +kernel, by decide +kernel⟩
def xb__law_kitchen_is_1 (D : Ds) : Out := (xsSeq (xsAsg 3 (xMeth "Kitchen" "number_of" m_Kitchen_number_of (xVar 0) (xCons (x2 dIx (x2 dIx (xVarB 1) (xC (.int 0))) (xVarB 2)) xNil)))
    (xsSeq (xsIf (xOr (xNot (xTest (xCall m__law_is_integer (xCons (x2 dIx (x1 (dProp "Kitchen" m_Kitchen_numbers) (xVar 0)) (xVarB 2)) xNil)))) (xNot (xTest (xCall m__law_is_integer (xCons (xVar 3) xNil))))) (xsRet (xC (.bl false))) xsNext)
    (xsIf (xOr (xTest (x2 dNe (x2 dIx (x1 (dProp "Kitchen" m_Kitchen_numbers) (xVar 0)) (xVarB 2)) (x2 dIx (x2 dIx (xVarB 1) (xC (.int 1))) (xVarB 2)))) (xTest (x2 dNe (xVarB 3) (x2 dIx (x2 dIx (xVarB 1) (xC (.int 1))) (xVarB 2))))) (xsRet (xC (.bl false))) xsNext))) D
def xb__law_kitchen_is_2 (D : Ds) : Out := (xsSeq (xsAsg 5 (x2 dIx (x2 dIx (xVarB 1) (xC (.int 2))) (xVarB 2)))
    (xsIf (xNot (xTest (xCall m__law_dish_is (xCons (x2 dIx (xVarB 4) (xVarB 2)) (xCons (x2 dIx (xVarB 5) (xC (.int 0))) (xCons (xL (xLst (xCons (x2 dIx (xVarB 5) (xC (.int 1))) (xCons (x2 dIx (xVarB 5) (xC (.int 2))) xNil)))) (xCons (x2 dIx (xVarB 5) (xC (.int 3))) xNil))))))) (xsRet (xC (.bl false))) xsNext)) D
def xs__law_kitchen_is : XS := xsSeq (xsIf (xOr (xNot (xTest (xCB dIsi (xCons (x1 (dProp "Kitchen" m_Kitchen_tools) (xVar 0)) (xCons (xC (.ty "tuple")) xNil))))) (xNot (xTest (xCB dIsi (xCons (x1 (dProp "Kitchen" m_Kitchen_numbers) (xVar 0)) (xCons (xC (.ty "tuple")) xNil)))))) (xsRet (xC (.bl false))) xsNext)
    (xsSeq (xsIf (xOr (xTest (x2 dNe (x1 (dProp "Kitchen" m_Kitchen_tools) (xVar 0)) (xCB dTuple (xCons (x2 dIx (xVarB 1) (xC (.int 0))) xNil)))) (xTest (x2 dNe (xCB dLen (xCons (x1 (dProp "Kitchen" m_Kitchen_numbers) (xVar 0)) xNil)) (xCB dLen (xCons (x2 dIx (xVarB 1) (xC (.int 1))) xNil))))) (xsRet (xC (.bl false))) xsNext)
    (xsSeq (xsFor (xRng1 (xCons (xCB dLen (xCons (x2 dIx (xVarB 1) (xC (.int 1))) xNil)) xNil)) (xgName 2) xb__law_kitchen_is_1)
    (xsSeq (xsIf (xOr (xNot (xTest (xCall m__law_is_integer (xCons (x1 (dProp "Kitchen" m_Kitchen_horizon) (xVar 0)) xNil)))) (xTest (x2 dNe (x1 (dProp "Kitchen" m_Kitchen_horizon) (xVar 0)) (xCall m__law_horizon (xCons (xVar 1) xNil))))) (xsRet (xC (.bl false))) xsNext)
    (xsSeq (xsAsg 4 (x1 (dProp "Kitchen" m_Kitchen_menu) (xVar 0)))
    (xsSeq (xsIf (xOr (xNot (xTest (xCB dIsi (xCons (xVarB 4) (xCons (xC (.ty "list")) xNil))))) (xTest (x2 dNe (xCB dLen (xCons (xVarB 4) xNil)) (xCB dLen (xCons (x2 dIx (xVarB 1) (xC (.int 2))) xNil))))) (xsRet (xC (.bl false))) xsNext)
    (xsSeq (xsFor (xRng1 (xCons (xCB dLen (xCons (xVarB 4) xNil)) xNil)) (xgName 2) xb__law_kitchen_is_2)
    (xsRet (xC (.bl true)))))))))
def m__law_kitchen_is : List Dt → R Dt := funD 2 6 xs__law_kitchen_is
theorem ok__law_kitchen_is (T : Txt P K mg cl A) : FnOk P w K mg base (L2.CX P w) 5 A._law_kitchen_is A._law_kitchen_is_d ["_law_room", "_law_kitchen"] (PureSp K cl m__law_kitchen_is) := by
  refine T.F__law_kitchen_is.okX sc__law_kitchen_is (fun vs H Q E h => h.len) (fun cdv A outer s H vs Q E hr h => ?_)
  have hu := hu_of hr
  exact ⟨_, pss_cons (ps_if (PW.pt (pw_or (pt_not (pt_val (pe_callB call_isi (by rfl) T.z_isinstance (by decide +kernel) (pa_cons (pe_prop (pv 0) T.K_Kitchen T.P_Kitchen_tools (ok_Kitchen_tools T) (hr.mono (by decide)) T.b_Kitchen_tools .nil passL rfl) (pa_cons (pe_bltn (v := .ty "tuple") (by rfl) T.z_tuple (by decide +kernel) rfl) pa_nil))))) (pw_or1 (pt_not (pt_val (pe_callB call_isi (by rfl) T.z_isinstance (by decide +kernel) (pa_cons (pe_prop (pv 0) T.K_Kitchen T.P_Kitchen_numbers (ok_Kitchen_numbers T) (hr.mono (by decide)) T.b_Kitchen_numbers .nil passL rfl) (pa_cons (pe_bltn (v := .ty "tuple") (by rfl) T.z_tuple (by decide +kernel) rfl) pa_nil)))))))) (pss_one (ps_ret pe_bl)) pss_nil)
    (pss_cons (ps_if (PW.pt (pw_or (pt_cmpR (op_neP hr.units) (pe_prop (pv 0) T.K_Kitchen T.P_Kitchen_tools (ok_Kitchen_tools T) (hr.mono (by decide)) T.b_Kitchen_tools .nil passL rfl) (pe_callTy call_tupleA (by rfl) T.z_tuple (by decide +kernel) (pa_cons (pe_ix ix_seq (pv 1) pe_int (fun _ _ => rfl)) pa_nil)) (nomark _)) (pw_or1 (pt_cmpR (op_neP hr.units) (pe_callB call_lenA (by rfl) T.z_len (by decide +kernel) (pa_cons (pe_prop (pv 0) T.K_Kitchen T.P_Kitchen_numbers (ok_Kitchen_numbers T) (hr.mono (by decide)) T.b_Kitchen_numbers .nil passL rfl) pa_nil)) (pe_callB call_lenA (by rfl) T.z_len (by decide +kernel) (pa_cons (pe_ix ix_seq (pv 1) pe_int (fun _ _ => rfl)) pa_nil)) (nomark _))))) (pss_one (ps_ret pe_bl)) pss_nil)
    (pss_cons (ps_for (passes_of rfl) rfl (pi_range1 (by rfl) T.z_range (pa_cons (pe_callB call_lenA (by rfl) T.z_len (by decide +kernel) (pa_cons (pe_ix ix_seq (pv 1) pe_int (fun _ _ => rfl)) pa_nil)) pa_nil)) (pg_name (i := 2) sc__law_kitchen_is.nd rfl (Or.inl rfl)) (pss_cons (ps_set (i := 3) sc__law_kitchen_is.nd rfl (Or.inl rfl) (pe_meth (pv 0) T.K_Kitchen T.Me_Kitchen_number_of (ok_Kitchen_number_of T) (hr.mono (by decide)) T.b_Kitchen_number_of .nil (passes_call (takes_of rfl rfl rfl rfl) (fun _ _ _ _ h => h)) (pa_cons (pe_ix ix_seq (pe_ix ix_seq (pv 1) pe_int (fun _ _ => rfl)) (pv 2) (fun _ _ => rfl)) pa_nil)))
    (pss_cons (ps_if (PW.pt (pw_or (pt_not (pt_val (pe_callSD (ok__law_is_integer T) (hr.mono (by decide)) (by rfl) T.g__law_is_integer T.F__law_is_integer.kp T.b__law_is_integer .nil (passAt (takes_of rfl rfl rfl rfl)) (pa_cons (pe_ix ix_seq (pe_prop (pv 0) T.K_Kitchen T.P_Kitchen_numbers (ok_Kitchen_numbers T) (hr.mono (by decide)) T.b_Kitchen_numbers .nil passL rfl) (pv 2) (fun _ _ => rfl)) pa_nil)))) (pw_or1 (pt_not (pt_val (pe_callSD (ok__law_is_integer T) (hr.mono (by decide)) (by rfl) T.g__law_is_integer T.F__law_is_integer.kp T.b__law_is_integer .nil (passAt (takes_of rfl rfl rfl rfl)) (pa_cons (pv 3) pa_nil))))))) (pss_one (ps_ret pe_bl)) pss_nil)
    (pss_one (ps_if (PW.pt (pw_or (pt_cmpR (op_neP hr.units) (pe_ix ix_seq (pe_prop (pv 0) T.K_Kitchen T.P_Kitchen_numbers (ok_Kitchen_numbers T) (hr.mono (by decide)) T.b_Kitchen_numbers .nil passL rfl) (pv 2) (fun _ _ => rfl)) (pe_ix ix_seq (pe_ix ix_seq (pv 1) pe_int (fun _ _ => rfl)) (pv 2) (fun _ _ => rfl)) (nomark _)) (pw_or1 (pt_cmpR (op_neP hr.units) (pv 3) (pe_ix ix_seq (pe_ix ix_seq (pv 1) pe_int (fun _ _ => rfl)) (pv 2) (fun _ _ => rfl)) (nomark _))))) (pss_one (ps_ret pe_bl)) pss_nil)))))
    (pss_cons (ps_if (PW.pt (pw_or (pt_not (pt_val (pe_callSD (ok__law_is_integer T) (hr.mono (by decide)) (by rfl) T.g__law_is_integer T.F__law_is_integer.kp T.b__law_is_integer .nil (passAt (takes_of rfl rfl rfl rfl)) (pa_cons (pe_prop (pv 0) T.K_Kitchen T.P_Kitchen_horizon (ok_Kitchen_horizon T) (hr.mono (by decide)) T.b_Kitchen_horizon .nil passL rfl) pa_nil)))) (pw_or1 (pt_cmpR (op_neP hr.units) (pe_prop (pv 0) T.K_Kitchen T.P_Kitchen_horizon (ok_Kitchen_horizon T) (hr.mono (by decide)) T.b_Kitchen_horizon .nil passL rfl) (pe_callSD (ok__law_horizon T) (hr.mono (by decide)) (by rfl) T.g__law_horizon T.F__law_horizon.kp T.b__law_horizon .nil (passAt (takes_of rfl rfl rfl rfl)) (pa_cons (pv 1) pa_nil)) (nomark _))))) (pss_one (ps_ret pe_bl)) pss_nil)
    (pss_cons (ps_set (i := 4) sc__law_kitchen_is.nd rfl (Or.inl rfl) (pe_prop (pv 0) T.K_Kitchen T.P_Kitchen_menu (ok_Kitchen_menu T) (hr.mono (by decide)) T.b_Kitchen_menu .nil passL rfl))
    (pss_cons (ps_if (PW.pt (pw_or (pt_not (pt_val (pe_callB call_isi (by rfl) T.z_isinstance (by decide +kernel) (pa_cons (pv 4) (pa_cons (pe_bltn (v := .ty "list") (by rfl) T.z_list (by decide +kernel) rfl) pa_nil))))) (pw_or1 (pt_cmpR (op_neP hr.units) (pe_callB call_lenA (by rfl) T.z_len (by decide +kernel) (pa_cons (pv 4) pa_nil)) (pe_callB call_lenA (by rfl) T.z_len (by decide +kernel) (pa_cons (pe_ix ix_seq (pv 1) pe_int (fun _ _ => rfl)) pa_nil)) (nomark _))))) (pss_one (ps_ret pe_bl)) pss_nil)
    (pss_cons (ps_for (passes_of rfl) rfl (pi_range1 (by rfl) T.z_range (pa_cons (pe_callB call_lenA (by rfl) T.z_len (by decide +kernel) (pa_cons (pv 4) pa_nil)) pa_nil)) (pg_name (i := 2) sc__law_kitchen_is.nd rfl (Or.inl rfl)) (pss_cons (ps_set (i := 5) sc__law_kitchen_is.nd rfl (Or.inl rfl) (pe_ix ix_seq (pe_ix ix_seq (pv 1) pe_int (fun _ _ => rfl)) (pv 2) (fun _ _ => rfl)))
    (pss_one (ps_if (pt_not (pt_val (pe_callSD (ok__law_dish_is T) (hr.mono (by decide)) (by rfl) T.g__law_dish_is T.F__law_dish_is.kp T.b__law_dish_is .nil (passAt (takes_of rfl rfl rfl rfl)) (pa_cons (pe_ix ix_seq (pv 4) (pv 2) (fun _ _ => rfl)) (pa_cons (pe_ix ix_seq (pv 5) pe_int (fun _ _ => rfl)) (pa_cons (pe_lst (pa_cons (pe_ix ix_seq (pv 5) pe_int (fun _ _ => rfl)) (pa_cons (pe_ix ix_seq (pv 5) pe_int (fun _ _ => rfl)) pa_nil))) (pa_cons (pe_ix ix_seq (pv 5) pe_int (fun _ _ => rfl)) pa_nil))))))) (pss_one (ps_ret pe_bl)) pss_nil))))
    (pss_one (ps_ret pe_bl)))))))),
    body_ok (xs := xs__law_kitchen_is) (k := 2) (ss_seq (ss_if (st_or (st_not (st_B (sim_cb cs_isi (sba_cons (simB_of (sim_prop T.l_Kitchen sim_var)) (sba_cons (simB_of sim_ty) sba_nil))))) (st_not (st_B (sim_cb cs_isi (sba_cons (simB_of (sim_prop T.l_Kitchen sim_var)) (sba_cons (simB_of sim_ty) sba_nil)))))) (ss_ret sim_bl) ss_next)
    (ss_seq (ss_if (st_or (st_test (sim_op os_ne (simB_of (sim_prop T.l_Kitchen sim_var)) (simB_of (sim_cb cs_tuple (sba_cons (simB_of (sim_op os_ix simB_var (simB_of sim_int))) sba_nil))))) (st_test (sim_op os_ne (simB_of (sim_cb cs_len (sba_cons (simB_of (sim_prop T.l_Kitchen sim_var)) sba_nil))) (simB_of (sim_cb cs_len (sba_cons (simB_of (sim_op os_ix simB_var (simB_of sim_int))) sba_nil)))))) (ss_ret sim_bl) ss_next)
    (ss_seq (ss_for (si_rng1 (sa_cons (sim_cb cs_len (sba_cons (simB_of (sim_op os_ix simB_var (simB_of sim_int))) sba_nil)) sa_nil)) sg_name (ss_seq (ss_asg (sim_meth T.l_Kitchen sim_var (sa_cons (sim_op os_ix (simB_of (sim_op os_ix simB_var (simB_of sim_int))) simB_var) sa_nil)))
    (ss_seq (ss_if (st_or (st_not (st_B (simS_call (sa_cons (sim_op os_ix (simB_of (sim_prop T.l_Kitchen sim_var)) simB_var) sa_nil)))) (st_not (st_B (simS_call (sa_cons sim_var sa_nil))))) (ss_ret sim_bl) ss_next)
    (ss_if (st_or (st_test (sim_op os_ne (simB_of (sim_op os_ix (simB_of (sim_prop T.l_Kitchen sim_var)) simB_var)) (simB_of (sim_op os_ix (simB_of (sim_op os_ix simB_var (simB_of sim_int))) simB_var)))) (st_test (sim_op os_ne simB_var (simB_of (sim_op os_ix (simB_of (sim_op os_ix simB_var (simB_of sim_int))) simB_var))))) (ss_ret sim_bl) ss_next))))
    (ss_seq (ss_if (st_or (st_not (st_B (simS_call (sa_cons (sim_prop T.l_Kitchen sim_var) sa_nil)))) (st_test (sim_op os_ne (simB_of (sim_prop T.l_Kitchen sim_var)) (simB_of (simS_call (sa_cons sim_var sa_nil)))))) (ss_ret sim_bl) ss_next)
    (ss_seq (ss_asg (sim_prop T.l_Kitchen sim_var))
    (ss_seq (ss_if (st_or (st_not (st_B (sim_cb cs_isi (sba_cons simB_var (sba_cons (simB_of sim_ty) sba_nil))))) (st_test (sim_op os_ne (simB_of (sim_cb cs_len (sba_cons simB_var sba_nil))) (simB_of (sim_cb cs_len (sba_cons (simB_of (sim_op os_ix simB_var (simB_of sim_int))) sba_nil)))))) (ss_ret sim_bl) ss_next)
    (ss_seq (ss_for (si_rng1 (sa_cons (sim_cb cs_len (sba_cons simB_var sba_nil)) sa_nil)) sg_name (ss_seq (ss_asg (sim_op os_ix (simB_of (sim_op os_ix simB_var (simB_of sim_int))) simB_var))
    (ss_if (st_not (st_B (simS_call (sa_cons (sim_op os_ix simB_var simB_var) (sa_cons (sim_op os_ix simB_var (simB_of sim_int)) (sa_cons (sim_L (simL_lst (sa_cons (sim_op os_ix simB_var (simB_of sim_int)) (sa_cons (sim_op os_ix simB_var (simB_of sim_int)) sa_nil)))) (sa_cons (sim_op os_ix simB_var (simB_of sim_int)) sa_nil))))))) (ss_ret sim_bl) ss_next)))
    (ss_ret sim_bl)))))))) h.len (by decide) h⟩
def N_Dish___eq__ : List Str := ["self", "other"]
theorem sc_Dish___eq__ : FnScope N_Dish___eq__ ["self", "other"] (defScope s_Dish___eq__) := ⟨rfl, rfl, rfl, by decide +kernel, rfl, by decide +kernel, by decide +kernel⟩
def xs_Dish___eq__ : XS := xsRet (xAndV (x1 (dIsO "Dish") (xVarB 1)) (xAndV (x2 dEq (x1 (dFld "Dish" "name") (xVarB 0)) (x1 (dFld "Dish" "name") (xVarB 1))) (xAndV (x2 dEq (x1 (dFld "Dish" "first") (xVarB 0)) (x1 (dFld "Dish" "first") (xVarB 1))) (xAndV (x2 dEq (x1 (dFld "Dish" "second") (xVarB 0)) (x1 (dFld "Dish" "second") (xVarB 1))) (x2 dEq (x1 (dFld "Dish" "needs") (xVarB 0)) (x1 (dFld "Dish" "needs") (xVarB 1)))))))
def m_Dish___eq__ : List Dt → R Dt := funD 2 2 xs_Dish___eq__
theorem ok_Dish___eq__ (T : Txt P K mg cl A) : FnOk P w K mg base (L2.CX P w) 1 A.Dish___eq__ A.Dish___eq___d ["self", "other"] (PureSp K cl m_Dish___eq__) := by
  refine T.F_Dish___eq__.okX sc_Dish___eq__ (fun vs H Q E h => h.len) (fun cdv A outer s H vs Q E hr h => ?_)
  have hu := hu_of hr
  exact ⟨_, pss_one (ps_ret (pe_and (pe_callB call_isi (by rfl) T.z_isinstance (by decide +kernel) (pa_cons (pv 1) (pa_cons (pe_glob (v := .ref _) (by rfl) T.g_Dish rfl) pa_nil))) (pe_and (pe_cmpR (op_eqP hr.units) (pe_fld (pv 0) rfl) (pe_fld (pv 1) rfl) (nomark _)) (pe_and (pe_cmpR (op_eqP hr.units) (pe_fld (pv 0) rfl) (pe_fld (pv 1) rfl) (nomark _)) (pe_and (pe_cmpR (op_eqP hr.units) (pe_fld (pv 0) rfl) (pe_fld (pv 1) rfl) (nomark _)) (pe_one (pe_cmpR (op_eqP hr.units) (pe_fld (pv 0) rfl) (pe_fld (pv 1) rfl) (nomark _)))))))),
    body_ok (xs := xs_Dish___eq__) (k := 2) (ss_ret (sim_and (sim_isO T.l_Dish T.ie_Dish simB_var) (sim_and (sim_op os_eq (simB_of (sim_fld T.l_Dish T.K_Dish T.N_Dish_name simB_var)) (simB_of (sim_fld T.l_Dish T.K_Dish T.N_Dish_name simB_var))) (sim_and (sim_op os_eq (simB_of (sim_fld T.l_Dish T.K_Dish T.N_Dish_first simB_var)) (simB_of (sim_fld T.l_Dish T.K_Dish T.N_Dish_first simB_var))) (sim_and (sim_op os_eq (simB_of (sim_fld T.l_Dish T.K_Dish T.N_Dish_second simB_var)) (simB_of (sim_fld T.l_Dish T.K_Dish T.N_Dish_second simB_var))) (sim_op os_eq (simB_of (sim_fld T.l_Dish T.K_Dish T.N_Dish_needs simB_var)) (simB_of (sim_fld T.l_Dish T.K_Dish T.N_Dish_needs simB_var)))))))) h.len (by decide) h⟩
def N_law : List Str := ["_law_script", "_law_kitchen", "_law_tools_here", "_law_menu", "_law_kept", "_law_room", "_law_k", "_law_told", "_law_back", "_law_other"]
theorem sc_law : FnScope N_law ["_law_script"] (defScope s_law) := ⟨rfl, rfl, rfl, by decide +kernel, rfl, by decide +kernel, by decide +kernel⟩
def xb_law_1 (D : Ds) : Out := (xsIf (xNot (xTest (x2 (dEqO "Dish" m_Dish___eq__) (x2 dIx (xVarB 3) (xVarB 6)) (x2 dIx (xVarB 4) (xVarB 6))))) (xsRet (xC (.bl false))) xsNext) D
def xs_law : XS := xsSeq (xsAsgW 1 (xCallW mT__law_broad (xCons (xVar 0) (xCons (xC (.int 0)) xNil))))
    (xsSeq (xsIf (xAnd (xTest (x2 dGt (xCB dLen (xCons (xOw1 1 (xC (.int 2))) xNil)) (xC (.int 1)))) (xTest (x2 dEq (xCall m__law_draw (xCons (xCall m__law_pick (xCons (xVar 0) (xCons (xC (.int 0)) xNil))) (xCons (xC (.int 12)) (xCons (xC (.int 2)) xNil)))) (xC (.int 0))))) (xsSet2 1 (xC (.int 2)) (x1 dNeg (xC (.int 1))) (x2 dIx (xOw1 1 (xC (.int 2))) (xC (.int 0)))) xsNext)
    (xsSeq (xsFrzW 1 (xsAsgL 2 (xCallL mL__law_tools (xCons (xVar 1) xNil))))
    (xsSeq (xsFrzW 1 (xsAsgL 3 (xCallL mL__law_dishes (xCons (xVar 1) xNil))))
    (xsSeq (xsAsg 4 (xL (xCBL dList (xCons (xVarB 3) xNil))))
    (xsSeq (xsAsg 5 (xMakeM "Kitchen" 2 mM0_Kitchen___init__ (xCons (xLent 2) (xCons (xLent 3) xNil))))
    (xsSeq (xsIf (xOr (xTest (x2 dNe (xVarB 2) (xCall m__law_tools (xCons (xVar 1) xNil)))) (xTest (x2 dNe (xCB dLen (xCons (xVarB 3) xNil)) (xCB dLen (xCons (xVarB 4) xNil))))) (xsRet (xC (.bl false))) xsNext)
    (xsSeq (xsFor (xRng1 (xCons (xCB dLen (xCons (xVarB 4) xNil)) xNil)) (xgName 6) xb_law_1)
    (xsSeq (xsIf (xNot (xTest (xCall m__law_kitchen_is (xCons (xVar 5) (xCons (xVar 1) xNil))))) (xsRet (xC (.bl false))) xsNext)
    (xsSeq (xsClear 2)
    (xsSeq (xsApp 3 (xMake "Dish" 2 1 m_Dish___init__ gD_2 (xCons (xC (.str "late")) (xCons (xL (xLst (xCons (xTup (xCons (xC (.int 90)) (xCons (xC (.str "pan")) (xCons (xC (.int 1)) xNil)))) xNil))) xNil)) (xCons (xC (.int 4)) xNil)))
    (xsSeq (xsAsgL 7 (x1L (dPropL "Kitchen" mL_Kitchen_menu) (xVar 5)))
    (xsSeq (xsClear 7)
    (xsSeq (xsFrzW 1 (xsAsg 8 (xL (xLst (xCons (xL (xRev (x2 dIx (xVarB 1) (xC (.int 0))))) (xCons (xL (xRev (x2 dIx (xVarB 1) (xC (.int 1))))) (xCons (x2 dIx (xVarB 1) (xC (.int 2))) xNil)))))))
    (xsSeq (xsAsg 9 (xMake "Kitchen" 2 0 m_Kitchen___init__ gD_1 (xCons (xCall m__law_tools (xCons (xVar 8) xNil)) (xCons (xCall m__law_dishes (xCons (xVar 8) xNil)) xNil)) xNil))
    (xsFrzW 1 (xsRet (xAndV (xCall m__law_kitchen_is (xCons (xVar 5) (xCons (xVar 1) xNil))) (xAndV (xCall m__law_kitchen_is (xCons (xVar 9) (xCons (xVar 8) xNil))) (xCall m__law_kitchen_is (xCons (xVar 5) (xCons (xVar 1) xNil)))))))))))))))))))))
def m_law : List Dt → R Dt := funD 1 10 xs_law
theorem ok_law (T : Txt P K mg cl A) : FnOk P w K mg base (L2.CX P w) 6 A.law A.law_d ["_law_script"] (PureSp K cl m_law) := by
  refine T.F_law.okX sc_law (fun vs H Q E h => h.len) (fun cdv A outer s H vs Q E hr h => ?_)
  have hu := hu_of hr
  exact ⟨_, pss_cons (ps_set (i := 1) sc_law.nd rfl (Or.inl rfl) (pe_callSD (okT__law_broad T) (hr.mono (by decide)) (by rfl) T.g__law_broad T.F__law_broad.kp T.b__law_broad .nil (passAt (takes_of rfl rfl rfl rfl)) (pa_cons (pv 0) (pa_cons pe_int pa_nil))))
    (pss_cons (ps_if (PW.pt (pw_and (pt_cmpR op_gt (pe_callB call_lenA (by rfl) T.z_len (by decide +kernel) (pa_cons (pe_ix ix_seq (pv 1) pe_int (fun _ _ => rfl)) pa_nil)) pe_int (nomark _)) (pw_and1 (pt_cmpR (op_eqP hr.units) (pe_callSD (ok__law_draw T) (hr.mono (by decide)) (by rfl) T.g__law_draw T.F__law_draw.kp T.b__law_draw .nil (passAt (takes_of rfl rfl rfl rfl)) (pa_cons (pe_callSD (ok__law_pick T) (hr.mono (by decide)) (by rfl) T.g__law_pick T.F__law_pick.kp T.b__law_pick .nil (passAt (takes_of rfl rfl rfl rfl)) (pa_cons (pv 0) (pa_cons pe_int pa_nil))) (pa_cons pe_int (pa_cons pe_int pa_nil)))) pe_int (nomark _))))) (pss_one (ps_asg (pe_ix ix_seq (pe_ix ix_seq (pv 1) pe_int (fun _ _ => rfl)) pe_int (fun _ _ => rfl)) (pg_sub (pe_ix ix_seq (pv 1) pe_int (fun _ _ => rfl)) (pe_un un_neg pe_int) set_list))) pss_nil)
    (pss_cons (ps_set (i := 2) sc_law.nd rfl (Or.inl rfl) (pe_callSD (okL__law_tools T) (hr.mono (by decide)) (by rfl) T.g__law_tools T.F__law_tools.kp T.b__law_tools .nil (passAt (takes_of rfl rfl rfl rfl)) (pa_cons (pv 1) pa_nil)))
    (pss_cons (ps_set (i := 3) sc_law.nd rfl (Or.inl rfl) (pe_callSD (okL__law_dishes T) (hr.mono (by decide)) (by rfl) T.g__law_dishes T.F__law_dishes.kp T.b__law_dishes .nil (passAt (takes_of rfl rfl rfl rfl)) (pa_cons (pv 1) pa_nil)))
    (pss_cons (ps_set (i := 4) sc_law.nd rfl (Or.inl rfl) (pe_callTy call_listA (by rfl) T.z_list (by decide +kernel) (pa_cons (pv 3) pa_nil)))
    (pss_cons (ps_set (i := 5) sc_law.nd rfl (Or.inl rfl) (Exists.elim T.kb_1 fun _ kb => pe_makeK T.M_Kitchen (ok_Kitchen___init___M0 T) (hr.mono (by decide)) (by rfl) T.g_Kitchen kb (passes_call (takes_of rfl rfl rfl rfl) (fun _ _ _ _ h => h)) (pa_cons (pv 2) (pa_cons (pv 3) pa_nil)) pk_nil))
    (pss_cons (ps_if (PW.pt (pw_or (pt_cmpR (op_neP hr.units) (pv 2) (pe_callSD (ok__law_tools T) (hr.mono (by decide)) (by rfl) T.g__law_tools T.F__law_tools.kp T.b__law_tools .nil (passAt (takes_of rfl rfl rfl rfl)) (pa_cons (pv 1) pa_nil)) (nomark _)) (pw_or1 (pt_cmpR (op_neP hr.units) (pe_callB call_lenA (by rfl) T.z_len (by decide +kernel) (pa_cons (pv 3) pa_nil)) (pe_callB call_lenA (by rfl) T.z_len (by decide +kernel) (pa_cons (pv 4) pa_nil)) (nomark _))))) (pss_one (ps_ret pe_bl)) pss_nil)
    (pss_cons (ps_for (passes_of rfl) rfl (pi_range1 (by rfl) T.z_range (pa_cons (pe_callB call_lenA (by rfl) T.z_len (by decide +kernel) (pa_cons (pv 4) pa_nil)) pa_nil)) (pg_name (i := 6) sc_law.nd rfl (Or.inl rfl)) (pss_one (ps_if (pt_not (pt_cmpR (op_eqO T.oq_Dish (ok_Dish___eq__ T) (hr.mono (by decide)) T.b_Dish___eq__ (passes_call (takes_of rfl rfl rfl rfl) (fun _ _ _ _ h => h))) (pe_ix ix_seq (pv 3) (pv 6) (fun _ _ => rfl)) (pe_ix ix_seq (pv 4) (pv 6) (fun _ _ => rfl)) (nomark _))) (pss_one (ps_ret pe_bl)) pss_nil)))
    (pss_cons (ps_if (pt_not (pt_val (pe_callSD (ok__law_kitchen_is T) (hr.mono (by decide)) (by rfl) T.g__law_kitchen_is T.F__law_kitchen_is.kp T.b__law_kitchen_is .nil (passAt (takes_of rfl rfl rfl rfl)) (pa_cons (pv 5) (pa_cons (pv 1) pa_nil))))) (pss_one (ps_ret pe_bl)) pss_nil)
    (pss_cons (ps_expr (pe_bm0 PySem.F.plainAttrs_list PySem.F.slot_list_clear PySem.F.type_list_clear mt_clear (pv 2)))
    (pss_cons (ps_expr (pe_bm PySem.F.plainAttrs_list PySem.F.slot_list_append PySem.F.type_list_append mt_append (pv 3) (pa_cons (Exists.elim T.kb_2 fun _ kb => pe_makeK T.M_Dish (ok_Dish___init__ T) (hr.mono (by decide)) (by rfl) T.g_Dish kb (passes_call (takes_of rfl rfl rfl rfl) (fun _ _ _ _ h => h)) (pa_cons pe_str (pa_cons (pe_lst (pa_cons (pe_tup (pa_cons pe_int (pa_cons pe_str (pa_cons pe_int pa_nil)))) pa_nil)) pa_nil)) (pk_cons pe_int pk_nil)) pa_nil)))
    (pss_cons (ps_set (i := 7) sc_law.nd rfl (Or.inl rfl) (pe_prop (pv 5) T.K_Kitchen T.P_Kitchen_menu (okL_Kitchen_menu T) (hr.mono (by decide)) T.b_Kitchen_menu .nil passL rfl))
    (pss_cons (ps_expr (pe_bm0 PySem.F.plainAttrs_list PySem.F.slot_list_clear PySem.F.type_list_clear mt_clear (pv 7)))
    (pss_cons (ps_set (i := 8) sc_law.nd rfl (Or.inl rfl) (pe_lst (pa_cons (RT.pe_lstRev rfl (by rfl) T.z_list (by rfl) T.z_reversed (pe_ix ix_seq (pv 1) pe_int (fun _ _ => rfl))) (pa_cons (RT.pe_lstRev rfl (by rfl) T.z_list (by rfl) T.z_reversed (pe_ix ix_seq (pv 1) pe_int (fun _ _ => rfl))) (pa_cons (pe_ix ix_seq (pv 1) pe_int (fun _ _ => rfl)) pa_nil)))))
    (pss_cons (ps_set (i := 9) sc_law.nd rfl (Or.inl rfl) (Exists.elim T.kb_1 fun _ kb => pe_makeK T.M_Kitchen (ok_Kitchen___init__ T) (hr.mono (by decide)) (by rfl) T.g_Kitchen kb (passes_call (takes_of rfl rfl rfl rfl) (fun _ _ _ _ h => h)) (pa_cons (pe_callSD (ok__law_tools T) (hr.mono (by decide)) (by rfl) T.g__law_tools T.F__law_tools.kp T.b__law_tools .nil (passAt (takes_of rfl rfl rfl rfl)) (pa_cons (pv 8) pa_nil)) (pa_cons (pe_callSD (ok__law_dishes T) (hr.mono (by decide)) (by rfl) T.g__law_dishes T.F__law_dishes.kp T.b__law_dishes .nil (passAt (takes_of rfl rfl rfl rfl)) (pa_cons (pv 8) pa_nil)) pa_nil)) pk_nil))
    (pss_one (ps_ret (pe_and (pe_callSD (ok__law_kitchen_is T) (hr.mono (by decide)) (by rfl) T.g__law_kitchen_is T.F__law_kitchen_is.kp T.b__law_kitchen_is .nil (passAt (takes_of rfl rfl rfl rfl)) (pa_cons (pv 5) (pa_cons (pv 1) pa_nil))) (pe_and (pe_callSD (ok__law_kitchen_is T) (hr.mono (by decide)) (by rfl) T.g__law_kitchen_is T.F__law_kitchen_is.kp T.b__law_kitchen_is .nil (passAt (takes_of rfl rfl rfl rfl)) (pa_cons (pv 9) (pa_cons (pv 8) pa_nil))) (pe_one (pe_callSD (ok__law_kitchen_is T) (hr.mono (by decide)) (by rfl) T.g__law_kitchen_is T.F__law_kitchen_is.kp T.b__law_kitchen_is .nil (passAt (takes_of rfl rfl rfl rfl)) (pa_cons (pv 5) (pa_cons (pv 1) pa_nil)))))))))))))))))))))),
    body_ok (xs := xs_law) (k := 1) (ss_seq (ss_asgW (sw_call (sa_cons sim_var (sa_cons sim_int sa_nil))))
    (ss_seq (ss_if (st_and (st_test (sim_op os_gt (simB_of (sim_cb cs_len (sba_cons (simB_ow1 sim_int) sba_nil))) (simB_of sim_int))) (st_test (sim_op os_eq (simB_of (simS_call (sa_cons (simS_call (sa_cons sim_var (sa_cons sim_int sa_nil))) (sa_cons sim_int (sa_cons sim_int sa_nil))))) (simB_of sim_int)))) (ss_set2 sim_int (sim_un us_neg (simB_of sim_int)) (sim_op os_ix (simB_ow1 sim_int) (simB_of sim_int))) ss_next)
    (ss_seq (ss_frzW (i := 1) (ss_asgL (simL_call (sa_cons sim_var sa_nil))))
    (ss_seq (ss_frzW (i := 1) (ss_asgL (simL_call (sa_cons sim_var sa_nil))))
    (ss_seq (ss_asg (sim_L (simL_cb cl_list (sba_cons simB_var sba_nil))))
    (ss_seq (ss_asg (sim_makeM T.l_Kitchen (fun _ _ => by simp [gV_1]) (sm_lent (i := 2) (sm_lent (i := 3) sm_nil))))
    (ss_seq (ss_if (st_or (st_test (sim_op os_ne simB_var (simB_of (simS_call (sa_cons sim_var sa_nil))))) (st_test (sim_op os_ne (simB_of (sim_cb cs_len (sba_cons simB_var sba_nil))) (simB_of (sim_cb cs_len (sba_cons simB_var sba_nil)))))) (ss_ret sim_bl) ss_next)
    (ss_seq (ss_for (si_rng1 (sa_cons (sim_cb cs_len (sba_cons simB_var sba_nil)) sa_nil)) sg_name (ss_if (st_not (st_test (sim_eqO T.l_Dish (sim_op os_ix simB_var simB_var) (sim_op os_ix simB_var simB_var)))) (ss_ret sim_bl) ss_next))
    (ss_seq (ss_if (st_not (st_B (simS_call (sa_cons sim_var (sa_cons sim_var sa_nil))))) (ss_ret sim_bl) ss_next)
    (ss_seq ss_clear
    (ss_seq (ss_app (sim_make T.l_Dish ga_2 (sa_cons sim_str (sa_cons (sim_L (simL_lst (sa_cons (sim_tup (sa_cons sim_int (sa_cons sim_str (sa_cons sim_int sa_nil)))) sa_nil))) sa_nil)) (sa_cons sim_int sa_nil)))
    (ss_seq (ss_asgL (simL_prop T.l_Kitchen sim_var))
    (ss_seq ss_clear
    (ss_seq (ss_frzW (i := 1) (ss_asg (sim_L (simL_lst (sa_cons (sim_L (simL_rev (simB_of (sim_op os_ix simB_var (simB_of sim_int))))) (sa_cons (sim_L (simL_rev (simB_of (sim_op os_ix simB_var (simB_of sim_int))))) (sa_cons (sim_op os_ix simB_var (simB_of sim_int)) sa_nil)))))))
    (ss_seq (ss_asg (sim_make T.l_Kitchen ga_1 (sa_cons (simS_call (sa_cons sim_var sa_nil)) (sa_cons (simS_call (sa_cons sim_var sa_nil)) sa_nil)) sa_nil))
    (ss_frzW (i := 1) (ss_ret (sim_and (simS_call (sa_cons sim_var (sa_cons sim_var sa_nil))) (sim_and (simS_call (sa_cons sim_var (sa_cons sim_var sa_nil))) (simS_call (sa_cons sim_var (sa_cons sim_var sa_nil)))))))))))))))))))))) h.len (by decide) h⟩
end
end Mx
namespace Mx
open PySem PySem.Spec PyProof.Rows L2
def pick (ns : List Int) (k : Int) : Int := ns.getD k.toNat 0
theorem atI_nat' {α : Type} {l : List α} {k : Int} (h0 : 0 ≤ k) (h1 : k < l.length) : atI l k = l[k.toNat]? := by
  unfold atI ixN
  rw [if_pos h0, if_pos h1]
  rfl
theorem pick_eq (ns : List Int) (k : Int) (hk : 0 ≤ k) : m__law_pick [.frl (ns.map Dt.int), .int k] = .ok (.int (pick ns k)) := by
  by_cases h : k < ns.length
  · have e : atI (List.map Dt.int ns) k = some (.int (pick ns k)) := by
      rw [atI_nat' hk (by simpa using h)]
      unfold pick
      have : k.toNat < ns.length := by omega
      simp [List.getElem?_eq_getElem this, this]
    simp [m__law_pick, funD, runD, xs__law_pick, Sl.dat, h, e]
  · have : ¬ k.toNat < ns.length := by omega
    simp [m__law_pick, funD, runD, xs__law_pick, Sl.dat, h, pick, List.getD, List.getElem?_eq_none (by omega : ns.length ≤ k.toNat)]
end Mx
namespace Mx
open PySem PySem.Spec PyProof.Rows L2
@[simp] theorem loop_nil {xg : XG} {xb : XS} {D : Ds} : xLoop xg xb [] D = .nx D := rfl
@[simp] theorem loop_cons {xg : XG} {xb : XS} {D : Ds} {d : Dt} {r : List Dt} : xLoop xg xb (d :: r) D = (xg d D).get fun D1 => match xb D1 with
    | .nx D2 => xLoop xg xb r D2
    | .ct D2 => xLoop xg xb r D2
    | .bk D2 => .nx D2
    | o => o := rfl
@[simp] theorem cmul_r (i j : Int) (h : -(2 ^ 64) < j ∧ j < 2 ^ 64) : CMul i j := .inr h
theorem cdivn (i j : Int) (h : 0 < j ∧ j < 1073741824) : CDivN i j := by unfold CDivN; omega
/-- the draw's second way -/
def mix (c k m : Int) : Int :=
  let one := (c * 48271 + k * 69621 + 12345).fmod 2147483647
  let two := (one * one + k * 48271 + 777).fmod 2147483629
  let three := (two * two + one).fmod 2147483587
  (three.fdiv 8).fmod m
def down : Nat → Int → Int
  | 0, c => c
  | n + 1, c => down n (c.fdiv 1000)
def draw (c k m : Int) : Int := if 10 ^ 18 ≤ c then ((down k.toNat c).fmod 1000).fmod m else mix c k m
theorem draw_lo (c k : Int) {m : Int} (h : 0 < m) : 0 ≤ draw c k m := by
  unfold draw mix
  split
  · exact Int.fmod_nonneg_of_pos _ h
  · exact Int.fmod_nonneg_of_pos _ h
theorem draw_hi (c k : Int) {m : Int} (h : 0 < m) : draw c k m < m := by
  unfold draw mix
  split
  · exact Int.fmod_lt_of_pos _ h
  · exact Int.fmod_lt_of_pos _ h
theorem fmod_bd (a : Int) {b : Int} (h : 0 < b) : 0 ≤ a.fmod b ∧ a.fmod b < b := ⟨Int.fmod_nonneg_of_pos _ h, Int.fmod_lt_of_pos _ h⟩
theorem draw_loop : ∀ (l : List Dt) (c : Int) (s1 s2 s3 s4 s5 s6 : Sl), ∃ t3, xLoop (xgName 3) xb__law_draw_1 l [.sh (.int c), s1, s2, s3, s4, s5, s6] = .nx [.sh (.int (down l.length c)), s1, s2, t3, s4, s5, s6]
  | [], c, s1, s2, s3, s4, s5, s6 => ⟨s3, rfl⟩
  | d :: l, c, s1, s2, s3, s4, s5, s6 => by
    obtain ⟨t3, h⟩ := draw_loop l (c.fdiv 1000) s1 s2 (.sh d) s4 s5 s6
    refine ⟨t3, ?_⟩
    simp [xb__law_draw_1, Sl.dat, cdivn, down, h]
theorem rgD_len (lo : Int) (n : Nat) : (rgD lo n).length = n := by simp [rgD]
theorem draw_eq (c k m : Int) (hk : 0 ≤ k) (hk2 : k < 1000) (hm : 0 < m) : m__law_draw [.int c, .int k, .int m] = .ok (.int (draw c k m)) := by
  have p1 : CPow 10 18 := by unfold CPow; omega
  have hr := dRng1_int (j := k) ⟨by omega, by omega⟩
  have nm : m ≠ 0 := by omega
  by_cases h : 10 ^ 18 ≤ c
  · obtain ⟨t3, hl⟩ := draw_loop (rgD 0 k.toNat) c (.sh (.int k)) (.sh (.int m)) .no .no .no .no
    rw [rgD_len] at hl
    have h' : (1000000000000000000 : Int) ≤ c := by omega
    simp [m__law_draw, funD, runD, xs__law_draw, p1, h', hr, hl, nm, draw, List.replicate]
  · have h' : ¬ (1000000000000000000 : Int) ≤ c := by omega
    have b1 := fmod_bd (c * 48271 + k * 69621 + 12345) (b := 2147483647) (by decide)
    have b2 := fmod_bd (((c * 48271 + k * 69621 + 12345).fmod 2147483647) * ((c * 48271 + k * 69621 + 12345).fmod 2147483647) + k * 48271 + 777) (b := 2147483629) (by decide)
    have c1 := cmul_r ((c * 48271 + k * 69621 + 12345).fmod 2147483647) _ (show -(2 ^ 64) < _ ∧ (c * 48271 + k * 69621 + 12345).fmod 2147483647 < 2 ^ 64 by omega)
    have c2 := fun j => cmul_r j _ (show -(2 ^ 64) < _ ∧ (((c * 48271 + k * 69621 + 12345).fmod 2147483647) * ((c * 48271 + k * 69621 + 12345).fmod 2147483647) + k * 48271 + 777).fmod 2147483629 < 2 ^ 64 by omega)
    simp [m__law_draw, funD, runD, xs__law_draw, p1, h', nm, draw, List.replicate, mix, c1, c2, cdivn]
end Mx
namespace Mx
open PySem PySem.Spec PyProof.Rows L2
/-! ### loops and comprehensions, in general -/
theorem loop_inv {xg : XG} {xb : XS} (I : Nat → Ds → Prop) : ∀ (l : List Dt) (D : Ds), I 0 D → (∀ i d D, l[i]? = some d → I i D → ∃ D1 D2, xg d D = .ok D1 ∧ xb D1 = .nx D2 ∧ I (i + 1) D2) → ∃ D', xLoop xg xb l D = .nx D' ∧ I l.length D'
  | [], D, h0, _ => ⟨D, rfl, h0⟩
  | d :: l, D, h0, hs => by
    obtain ⟨D1, D2, e1, e2, h1⟩ := hs 0 d D rfl h0
    obtain ⟨D', e3, h3⟩ := loop_inv (fun i D => I (i + 1) D) l D2 h1 fun i d D hd hi => hs (i + 1) d D (by simpa using hd) hi
    exact ⟨D', by rw [loop_cons, e1, get_ok, e2]; exact e3, h3⟩
theorem comp_all {xg : XG} {xe : XE} {D0 : Ds} {F : Dt → Dt → Prop} : ∀ (l acc : List Dt), (∀ d ∈ l, ∃ D1 y, xg d D0 = .ok D1 ∧ xe D1 = .ok y ∧ F d y) → acc.length + l.length ≤ 1000000 →
    ∃ es, xComp xg xYes xe D0 l acc = .ok (acc ++ es) ∧ es.length = l.length ∧ ∀ (i : Nat) d y, l[i]? = some d → es[i]? = some y → F d y
  | [], acc, _, _ => ⟨[], by simp [xComp], rfl, fun i d y h => by simp at h⟩
  | d :: l, acc, h, hl => by
    obtain ⟨D1, y, e1, e2, hy⟩ := h d List.mem_cons_self
    simp only [List.length_cons] at hl
    obtain ⟨es, e3, h3, h4⟩ := comp_all l (acc ++ [y]) (fun d hd => h d (List.mem_cons_of_mem _ hd)) (by simp; omega)
    refine ⟨y :: es, ?_, by simp [h3], fun i d' y' hd hy' => ?_⟩
    · unfold xComp
      simp only [e1, xYes, e2]
      rw [if_pos (by omega), e3]
      simp
    · cases i with
      | zero => simp at hd hy'; subst hd hy'; exact hy
      | succ i => exact h4 i d' y' (by simpa using hd) (by simpa using hy')
@[simp] theorem dEq_int (i j : Int) : dEq (.int i) (.int j) = .ok (.bl (i == j)) := by simp [dEq]
@[simp] theorem dNe_int (i j : Int) : dNe (.int i) (.int j) = .ok (.bl (!(i == j))) := by simp [dNe]
/-! ### texts -/
theorem codes_az : (("abcdefghijklmnopqrstuvwxyz" : String) : Str).cps.toList = (List.range 26).map (· + 97) := by decide +kernel
theorem codes_mc : (("mctahzkd" : String) : Str).cps.toList = [109, 99, 116, 97, 104, 122, 107, 100] := by decide +kernel
def AZ (s : Str) : Prop := ∀ c ∈ s.cps.toList, 97 ≤ c ∧ c ≤ 122
def Nm (s : Str) : Prop := 1 ≤ s.length ∧ s.length ≤ 12 ∧ AZ s
theorem len_cps (s : Str) : s.cps.toList.length = s.length := by simp [Str.length]
theorem ix_str {z : Str} {i : Int} (hz : z.length ≤ 1000000) (h0 : 0 ≤ i) (h1 : i < z.length) : ∃ c, z.cps.toList[i.toNat]? = some c ∧ dIx (.str z) (.int i) = .ok (.str ⟨#[c]⟩) := by
  have hl : i.toNat < z.cps.toList.length := by rw [len_cps]; omega
  refine ⟨_, List.getElem?_eq_getElem hl, ?_⟩
  simp only [dIx]
  rw [if_pos hz, atI_nat' h0 (by rw [len_cps]; exact h1), List.getElem?_eq_getElem hl]
  rfl
theorem codes_add (x y : Str) : (x ++ y).cps.toList = x.cps.toList ++ y.cps.toList := by
  show (x.cps ++ y.cps).toList = _
  simp
theorem len_add (x y : Str) : (x ++ y).length = x.length + y.length := by rw [← len_cps, codes_add, List.length_append, len_cps, len_cps]
theorem codes_empty : (("" : String) : Str).cps.toList = [] := by decide +kernel
/-- the join of signs with nothing between -/
theorem join_signs : ∀ (cs : List Nat), (Str.join (("" : String) : Str) (cs.map fun c => (⟨#[c]⟩ : Str))).cps.toList = cs
  | [] => codes_empty
  | [c] => rfl
  | c :: d :: r => by
    have ih := join_signs (d :: r)
    show ((⟨#[c]⟩ : Str) ++ (("" : String) : Str) ++ Str.join (("" : String) : Str) ((d :: r).map fun c => (⟨#[c]⟩ : Str))).cps.toList = c :: d :: r
    rw [codes_add, codes_add, codes_empty, ih]
    rfl
theorem sum_ones : ∀ (cs : List Nat), ((cs.map fun c => (⟨#[c]⟩ : Str)).map (·.length)).sum = cs.length
  | [] => rfl
  | c :: r => by
    have ih := sum_ones r
    simp only [List.map_cons, List.sum_cons, ih, List.length_cons]
    show 1 + r.length = r.length + 1
    omega
theorem join_ok {es : List Dt} {cs : List Nat} (h : es = cs.map fun c => Dt.str ⟨#[c]⟩) (hl : cs.length ≤ 1000) : ∃ w : Str, w.cps.toList = cs ∧ dJoin (.str (("" : String) : Str)) [.lst es] = .ok (.str w) := by
  refine ⟨_, join_signs cs, ?_⟩
  have e : es = (cs.map fun c => (⟨#[c]⟩ : Str)).map Dt.str := by rw [h, List.map_map]; rfl
  rw [e]
  simp only [dJoin, dstrs_map, opt_some, bind_ok]
  rw [if_pos (by rw [sum_ones, List.length_map, show (("" : String) : Str).length = 0 from rfl]; omega), show Txt.join = Str.join from funext fun y => funext fun p => TL.join_eq y p]
end Mx
namespace Mx
open PySem PySem.Spec PyProof.Rows L2
theorem signs_of : ∀ {es : List Dt}, (∀ (i : Nat) y, es[i]? = some y → ∃ c, y = Dt.str ⟨#[c]⟩ ∧ 97 ≤ c ∧ c ≤ 122) → ∃ cs : List Nat, es = (cs.map fun c => Dt.str ⟨#[c]⟩) ∧ cs.length = es.length ∧ ∀ c ∈ cs, 97 ≤ c ∧ c ≤ 122
  | [], _ => ⟨[], rfl, rfl, fun c h => by cases h⟩
  | y :: es, h => by
    obtain ⟨c, rfl, hc⟩ := h 0 y rfl
    obtain ⟨cs, e, hl, hcs⟩ := signs_of (es := es) fun i y hy => h (i + 1) y (by simpa using hy)
    refine ⟨c :: cs, by rw [e, List.map_cons], by simp [hl], fun d hd => ?_⟩
    rcases List.mem_cons.mp hd with rfl | hd
    · exact hc
    · exact hcs d hd
theorem rgD_mem {lo : Int} {n : Nat} {d : Dt} (h : d ∈ rgD lo n) : ∃ j : Nat, j < n ∧ d = .int (lo + j) := by
  unfold rgD at h
  obtain ⟨j, hj, rfl⟩ := List.mem_map.mp h
  exact ⟨j, List.mem_range.mp hj, rfl⟩
theorem rgD_get {lo : Int} {n i : Nat} {d : Dt} (h : (rgD lo n)[i]? = some d) : i < n ∧ d = .int (lo + i) := by
  unfold rgD at h
  rw [List.getElem?_map] at h
  obtain ⟨j, hj, rfl⟩ := Option.map_eq_some_iff.mp h
  obtain ⟨hl, e⟩ := List.getElem?_eq_some_iff.mp hj
  rw [List.getElem_range] at e
  subst e
  exact ⟨by simpa using hl, rfl⟩
theorem az_get {i : Nat} {c : Nat} (h : (("abcdefghijklmnopqrstuvwxyz" : String) : Str).cps.toList[i]? = some c) : 97 ≤ c ∧ c ≤ 122 := by
  rw [codes_az, List.getElem?_map] at h
  obtain ⟨j, hj, rfl⟩ := Option.map_eq_some_iff.mp h
  obtain ⟨hl, e⟩ := List.getElem?_eq_some_iff.mp hj
  rw [List.getElem_range] at e
  subst e
  simp at hl
  omega
theorem az_len : (("abcdefghijklmnopqrstuvwxyz" : String) : Str).length = 26 := by decide +kernel
theorem mc_len : (("mctahzkd" : String) : Str).length = 8 := by decide +kernel
/-- the letters of a word that the law draws -/
theorem word_ok (D0 : Ds) (other size : Int) (h7 : D0[7]? = some (.sh (.int other))) (h9 : D0[9]? = some (.sh (.str ("abcdefghijklmnopqrstuvwxyz" : String)))) (hl : D0.length = 12) (hs : 0 ≤ size) (hs2 : size ≤ 12) :
    ∃ es, xComp (xgName 11) xYes xe__law_namelist_1 D0 (rgD 0 size.toNat) [] = .ok es ∧
      ∃ w : Str, w.length = size.toNat ∧ AZ w ∧ dJoin (.str (("" : String) : Str)) [.lst es] = .ok (.str w) := by
  obtain ⟨es, e1, e2, e3⟩ := comp_all (xg := xgName 11) (xe := xe__law_namelist_1) (D0 := D0)
    (F := fun d y => ∃ c, y = Dt.str ⟨#[c]⟩ ∧ 97 ≤ c ∧ c ≤ 122) (rgD 0 size.toNat) [] (fun d hd => by
      obtain ⟨j, hj, rfl⟩ := rgD_mem hd
      have hd := draw_eq other (4 + (0 + (j : Int))) 26 (by omega) (by omega) (by decide)
      have b0 := draw_lo other (4 + (0 + (j : Int))) (m := 26) (by decide)
      have b1 := draw_hi other (4 + (0 + (j : Int))) (m := 26) (by decide)
      obtain ⟨c, hc, hi⟩ := ix_str (z := (("abcdefghijklmnopqrstuvwxyz" : String) : Str)) (by rw [az_len]; decide) b0 (by rw [az_len]; exact b1)
      refine ⟨D0.set 11 (.sh (.int (0 + (j : Int)))), _, rfl, ?_, c, rfl, az_get hc⟩
      have q9 : (D0.set 11 (.sh (.int (0 + (j : Int)))))[9]? = some (.sh (.str ("abcdefghijklmnopqrstuvwxyz" : String))) := by rw [List.getElem?_set_ne (by decide)]; exact h9
      have q7 : (D0.set 11 (.sh (.int (0 + (j : Int)))))[7]? = some (.sh (.int other)) := by rw [List.getElem?_set_ne (by decide)]; exact h7
      have q11 : (D0.set 11 (.sh (.int (0 + (j : Int)))))[11]? = some (.sh (.int (0 + (j : Int)))) := by rw [List.getElem?_set_self (by omega)]
      simp only [xe__law_namelist_1, x2, xVarB_ap, xCall, xCons, xVar_ap, xC, xNil, q9, q7, q11, datO_some, dat_sh, shO_sh, bind_ok, dAdd_int, hd, hi]) (by rw [rgD_len]; simp; omega)
  rw [rgD_len] at e2
  obtain ⟨cs, e4, e5, e6⟩ := signs_of (es := es) fun i y hy => by
    obtain ⟨hl2, _⟩ := List.getElem?_eq_some_iff.mp hy
    exact e3 i (.int (0 + (i : Nat))) y (by unfold rgD; rw [List.getElem?_map, List.getElem?_range (by omega)]; rfl) hy
  obtain ⟨w, h1, h2⟩ := join_ok e4 (by omega)
  refine ⟨es, by simpa using e1, w, ?_, ?_, h2⟩
  · rw [← len_cps, h1]; omega
  · unfold AZ; rw [h1]; exact e6
theorem cut_len {z : Str} {p : Nat} (h : p ≤ z.length) : (cutS z none (some (p : Int))).cps.toList = z.cps.toList.take p ∧ (cutS z (some (p : Int)) none).cps.toList = z.cps.toList.drop p := by
  unfold cutS
  rw [HT.sIx_none, HT.sIx_nat, HT.sIx_nat, HT.sIx_none]
  constructor
  · simp [Nat.min_eq_left h]
  · have : z.length - p = (z.cps.toList.drop p).length := by rw [List.length_drop, len_cps]
    simp only [Nat.min_eq_left h]
    rw [this, List.take_length]
/-- w[:p] + c + w[p:] -/
def putc (w : Str) (p : Nat) (c : Nat) : Str := ⟨(w.cps.toList.take p ++ [c] ++ w.cps.toList.drop p).toArray⟩
theorem putc_len {w : Str} {p c : Nat} (h : p ≤ w.length) : (putc w p c).length = w.length + 1 := by
  unfold putc
  have e : w.cps.size = w.length := rfl
  rw [← len_cps]
  simp [e]
  omega
theorem putc_at {w : Str} {p c : Nat} (h : p ≤ w.length) : (putc w p c).cps.toList[p]? = some c := by
  unfold putc
  have : (w.cps.toList.take p).length = p := by rw [List.length_take, len_cps]; omega
  simp only [List.append_assoc]
  rw [List.getElem?_append_right (by rw [this]; exact Nat.le_refl _), this]
  simp
theorem putc_az {w : Str} {p c : Nat} (hw : AZ w) (hc : 97 ≤ c ∧ c ≤ 122) : AZ (putc w p c) := fun d hd => by
  unfold putc at hd
  simp only [List.mem_append, List.mem_singleton] at hd
  rcases hd with (hd | rfl) | hd
  · exact hw d (List.mem_of_mem_take hd)
  · exact hc
  · exact hw d (List.mem_of_mem_drop hd)
theorem putc_eq {w : Str} {p : Nat} {c : Nat} (h : p ≤ w.length) : cutS w none (some (p : Int)) ++ (⟨#[c]⟩ : Str) ++ cutS w (some (p : Int)) none = putc w p c := by
  apply str_ext
  rw [codes_add, codes_add, (cut_len h).1, (cut_len h).2]
  rfl
/-- the names that a law draws: n of them, all names, no two the same -/
theorem namelist_eq2 (cell : Int) (n : Int) (h0 : 0 ≤ n) (h8 : n ≤ 8) : ∃ names : List Str, m__law_namelist [.int cell, .int n] = .ok (.lst (names.map Dt.str)) ∧ names.length = n.toNat ∧ (∀ s ∈ names, Nm s) ∧ names.Nodup ∧
    ∀ (j : Nat) s, names[j]? = some s → s.cps.toList[(draw cell 1 12).toNat]? = (("mctahzkd" : String) : Str).cps.toList[(((j : Int) + draw cell 2 8).fmod 8).toNat]? := by
  have d0 := draw_eq cell 0 2 (by decide) (by decide) (by decide)
  have d1 := draw_eq cell 1 12 (by decide) (by decide) (by decide)
  have d2 := draw_eq cell 2 8 (by decide) (by decide) (by decide)
  have p0 := draw_lo cell 1 (m := 12) (by decide)
  have p1 := draw_hi cell 1 (m := 12) (by decide)
  have t0 := draw_lo cell 2 (m := 8) (by decide)
  have t1 := draw_hi cell 2 (m := 8) (by decide)
  generalize draw cell 0 2 = al at d0
  generalize draw cell 1 12 = pl at d1 p0 p1
  generalize draw cell 2 8 = tu at d2 t0 t1
  have hr := dRng1_int (j := n) ⟨by omega, by omega⟩
  obtain ⟨p, rfl⟩ := Int.eq_ofNat_of_zero_le p0
  have mcAt : ∀ k : Nat, ∃ c, (("mctahzkd" : String) : Str).cps.toList[(((k : Int) + tu).fmod 8).toNat]? = some c ∧ dIx (.str ("mctahzkd" : String)) (.int (((k : Int) + tu).fmod 8)) = .ok (.str ⟨#[c]⟩) := fun k =>
    ix_str (by rw [mc_len]; decide) (Int.fmod_nonneg_of_pos _ (by decide)) (by rw [mc_len]; exact Int.fmod_lt_of_pos _ (by decide))
  obtain ⟨D', e, hI⟩ := loop_inv (xg := xgName 6) (xb := xb__law_namelist_1)
    (fun i D => ∃ (names : List Str) (s6 s7 s8 s9 s10 s11 : Sl), D = [.sh (.int cell), .sh (.int n), .sh (.bl (al == 0)), .sh (.int p), .sh (.int tu), .ol (names.map Dt.str), s6, s7, s8, s9, s10, s11] ∧ names.length = i ∧ (∀ s ∈ names, Nm s) ∧
      ∀ (j : Nat) s, names[j]? = some s → s.cps.toList[p]? = (("mctahzkd" : String) : Str).cps.toList[(((j : Int) + tu).fmod 8).toNat]?)
    (rgD 0 n.toNat) [.sh (.int cell), .sh (.int n), .sh (.bl (al == 0)), .sh (.int p), .sh (.int tu), .ol [], .no, .no, .no, .no, .no, .no]
    ⟨[], .no, .no, .no, .no, .no, .no, rfl, rfl, fun s h => by (cases h), fun j s h => by simp at h⟩ (fun i d D hd hI => by
      obtain ⟨names, s6, s7, s8, s9, s10, s11, rfl, hlen, hnm, hat⟩ := hI
      obtain ⟨hi, rfl⟩ := rgD_get hd
      obtain ⟨oth, hoth⟩ : ∃ oth : Int, (if (al == 0) = true then cell else cell + 1 + (0 + (i : Int))) = oth := ⟨_, rfl⟩
      have d3 := draw_eq oth 3 (12 - p) (by decide) (by decide) (by omega)
      have q0 := draw_lo oth 3 (m := 12 - p) (by omega)
      have q1 := draw_hi oth 3 (m := 12 - p) (by omega)
      generalize draw oth 3 (12 - p) = ex at d3 q0 q1
      obtain ⟨es, e1, w, hw1, hw2, e2⟩ := word_ok [.sh (.int cell), .sh (.int n), .sh (.bl (al == 0)), .sh (.int p), .sh (.int tu), .ol (names.map Dt.str), .sh (.int (0 + (i : Int))), .sh (.int oth), .sh (.int (p + ex)), .sh (.str ("abcdefghijklmnopqrstuvwxyz" : String)), s10, .no] oth (p + ex) rfl rfl rfl (by omega) (by omega)
      obtain ⟨c, hc, hix⟩ := mcAt i
      have hc2 : 97 ≤ c ∧ c ≤ 122 := by
        rw [codes_mc] at hc
        have := List.mem_of_getElem? hc
        simp at this
        omega
      have hp : p ≤ w.length := by omega
      have hr8 := dRng1_int (j := (p : Int) + ex) ⟨by omega, by omega⟩
      refine ⟨_, [.sh (.int cell), .sh (.int n), .sh (.bl (al == 0)), .sh (.int p), .sh (.int tu), .ol ((names ++ [putc w p c]).map Dt.str), .sh (.int (0 + (i : Int))), .sh (.int oth), .sh (.int (p + ex)), .sh (.str ("abcdefghijklmnopqrstuvwxyz" : String)), .sh (.str w), s11], rfl, ?_, names ++ [putc w p c], _, _, _, _, _, _, rfl, by simp [hlen], ?_, ?_⟩
      · have n1 : (⟨#[c]⟩ : Str).length = 1 := rfl
        have n2 := cutS_length w none (some (p : Int))
        have n3 := cutS_length w (some (p : Int)) none
        have n4 := len_add (cutS w none (some (p : Int))) (⟨#[c]⟩ : Str)
        have g1 : w.length ≤ 1000000 := by omega
        have g2 : (cutS w none (some (p : Int))).length + (⟨#[c]⟩ : Str).length ≤ 1000000 := by omega
        have g3 : (cutS w none (some (p : Int)) ++ (⟨#[c]⟩ : Str)).length + (cutS w (some (p : Int)) none).length ≤ 1000000 := by omega
        have g4 : names.length < 1000000 := by omega
        have hpc := putc_eq (c := c) hp
        have ez : (0 : Int) + (i : Int) = i := by omega
        rw [ez] at hoth e1 ⊢
        cases hb : (al == 0) with
        | true =>
          rw [hb] at hoth e1
          simp only [if_true] at hoth
          subst hoth
          simp [xb__law_namelist_1, wipeD, dSlA, d3, hr8, e1, e2, hix, g1, g2, g3, g4, hpc]
        | false =>
          rw [hb] at hoth e1
          simp only [Bool.false_eq_true, if_false] at hoth
          subst hoth
          simp [xb__law_namelist_1, wipeD, dSlA, d3, hr8, e1, e2, hix, g1, g2, g3, g4, hpc]
      · intro s hs
        rcases List.mem_append.mp hs with hs | hs
        · exact hnm s hs
        · rw [List.mem_singleton.mp hs]
          exact ⟨by rw [putc_len hp]; omega, by rw [putc_len hp]; omega, putc_az hw2 hc2⟩
      · intro j s hj
        by_cases hjl : j < names.length
        · rw [List.getElem?_append_left hjl] at hj
          exact hat j s hj
        · rw [List.getElem?_append_right (by omega)] at hj
          have : j - names.length = 0 := by
            cases e : j - names.length with
            | zero => rfl
            | succ m => rw [e] at hj; simp at hj
          rw [this] at hj
          simp at hj
          subst hj
          have : j = i := by omega
          subst this
          rw [putc_at hp, hc])
  obtain ⟨names, s6, s7, s8, s9, s10, s11, rfl, hlen, hnm, hat⟩ := hI
  rw [rgD_len] at hlen
  refine ⟨names, ?_, hlen, hnm, ?_, by simpa using hat⟩
  · simp [m__law_namelist, funD, runD, xs__law_namelist, d0, d1, d2, hr, e, List.replicate, Frz, Sl.frz]
  · refine List.pairwise_iff_getElem.mpr fun i j hi hj hij eq => ?_
    have a1 := hat i _ (List.getElem?_eq_getElem hi)
    have a2 := hat j _ (List.getElem?_eq_getElem hj)
    rw [← eq, a1] at a2
    rw [Int.fmod_eq_emod_of_nonneg _ (by decide), Int.fmod_eq_emod_of_nonneg _ (by decide), codes_mc] at a2
    have hnd : ([109, 99, 116, 97, 104, 122, 107, 100] : List Nat).Nodup := by decide
    have l1 : (((i : Int) + tu) % 8).toNat < 8 := by omega
    have l2 : (((j : Int) + tu) % 8).toNat < 8 := by omega
    rw [List.getElem?_eq_getElem (by simpa using l1), List.getElem?_eq_getElem (by simpa using l2)] at a2
    have := (List.getElem_inj hnd).mp (Option.some.inj a2)
    omega
theorem namelist_eq (cell : Int) (n : Int) (h0 : 0 ≤ n) (h8 : n ≤ 8) : ∃ names : List Str, m__law_namelist [.int cell, .int n] = .ok (.lst (names.map Dt.str)) ∧ names.length = n.toNat ∧ (∀ s ∈ names, Nm s) ∧ names.Nodup := by
  obtain ⟨names, a, b, c, d, _⟩ := namelist_eq2 cell n h0 h8
  exact ⟨names, a, b, c, d⟩
/-- the eighth name of a list of eight is none of the first seven of a list of seven -/
theorem spare_eq (cell : Int) : ∃ (names : List Str) (spare : Str), m__law_namelist [.int cell, .int 7] = .ok (.lst (names.map Dt.str)) ∧ names.length = 7 ∧ (∀ s ∈ names, Nm s) ∧ names.Nodup ∧ Nm spare ∧ spare ∉ names ∧
    ∃ l8 : List Str, m__law_namelist [.int cell, .int 8] = .ok (.lst (l8.map Dt.str)) ∧ l8.length = 8 ∧ l8[7]? = some spare := by
  obtain ⟨names, a1, a2, a3, a4, a5⟩ := namelist_eq2 cell 7 (by decide) (by decide)
  obtain ⟨l8, b1, b2, b3, b4, b5⟩ := namelist_eq2 cell 8 (by decide) (by decide)
  have n7 : names.length = 7 := a2
  have n8 : l8.length = 8 := b2
  have h7 : 7 < l8.length := by omega
  refine ⟨names, l8[7], a1, n7, a3, a4, b3 _ (List.getElem_mem h7), fun m => ?_, l8, b1, n8, List.getElem?_eq_getElem h7⟩
  obtain ⟨j, hj, e⟩ := List.mem_iff_getElem.mp m
  have x := a5 j _ (List.getElem?_eq_getElem hj)
  have y := b5 7 _ (List.getElem?_eq_getElem h7)
  rw [e, y] at x
  have t0 := draw_lo cell 2 (m := 8) (by decide)
  have t1 := draw_hi cell 2 (m := 8) (by decide)
  generalize draw cell 2 8 = tu at *
  rw [Int.fmod_eq_emod_of_nonneg _ (by decide), Int.fmod_eq_emod_of_nonneg _ (by decide), codes_mc] at x
  have hnd : ([109, 99, 116, 97, 104, 122, 107, 100] : List Nat).Nodup := by decide
  have l1 : ((((7 : Nat) : Int) + tu) % 8).toNat < 8 := by omega
  have l2 : (((j : Int) + tu) % 8).toNat < 8 := by omega
  rw [List.getElem?_eq_getElem (by simpa using l1), List.getElem?_eq_getElem (by simpa using l2)] at x
  have := (List.getElem_inj hnd).mp (Option.some.inj x)
  omega
end Mx
namespace Mx
open PySem PySem.Spec PyProof.Rows L2
/-! ### needs -/
abbrev Nd := Int × Str × Int
def nd (x : Nd) : Dt := .tup [.int x.1, .str x.2.1, .int x.2.2]
def GoodNd (T : List Str) (x : Nd) : Prop := 0 ≤ x.1 ∧ x.1 ≤ 30 ∧ x.2.1 ∈ T ∧ 1 ≤ x.2.2 ∧ x.2.2 ≤ 1000
theorem ix_mem {l : List Dt} {i : Int} (h0 : 0 ≤ i) (h1 : i < l.length) : ∃ d ∈ l, atI l i = some d := by
  have h : i.toNat < l.length := by omega
  exact ⟨l[i.toNat], List.getElem_mem h, by rw [atI_nat' h0 h1, List.getElem?_eq_getElem h]⟩
theorem ix_ints {l : List Int} {i : Int} (h0 : 0 ≤ i) (h1 : i < l.length) : ∃ m ∈ l, atI (l.map Dt.int) i = some (.int m) := by
  obtain ⟨d, hd, e⟩ := ix_mem (l := l.map Dt.int) h0 (by simpa using h1)
  obtain ⟨m, hm, rfl⟩ := List.mem_map.mp hd
  exact ⟨m, hm, e⟩
theorem ix_strs {l : List Str} {i : Int} (h0 : 0 ≤ i) (h1 : i < l.length) : ∃ m ∈ l, atI (l.map Dt.str) i = some (.str m) := by
  obtain ⟨d, hd, e⟩ := ix_mem (l := l.map Dt.str) h0 (by simpa using h1)
  obtain ⟨m, hm, rfl⟩ := List.mem_map.mp hd
  exact ⟨m, hm, e⟩
theorem ix3 {a b c : Int} {i : Int} (h0 : 0 ≤ i) (h1 : i < 3) : ∃ m, (m = a ∨ m = b ∨ m = c) ∧ atI [Dt.int a, Dt.int b, Dt.int c] i = some (.int m) := by
  obtain ⟨m, hm, e⟩ := ix_ints (l := [a, b, c]) h0 h1
  exact ⟨m, by simpa using hm, e⟩
/-- the needs that a law draws -/
theorem rawlist_eq (ns : List Int) (at0 many : Int) (names : List Str) (h0 : 0 ≤ at0) (hm0 : 0 ≤ many) (hm : many ≤ 1000) (hn : 1 ≤ names.length) (hn2 : names.length ≤ 1000) :
    ∃ raw : List Nd, m__law_rawlist [.frl (ns.map Dt.int), .int at0, .int many, .lst (names.map Dt.str)] = .ok (.lst (raw.map nd)) ∧ raw.length = many.toNat ∧ ∀ x ∈ raw, GoodNd names x := by
  have hr := dRng1_int (j := many) ⟨by omega, by omega⟩
  obtain ⟨D', e, hI⟩ := loop_inv (xg := xgName 5) (xb := xb__law_rawlist_1)
    (fun i D => ∃ (raw : List Nd) (s5 s6 s7 s8 : Sl), D = [.sh (.frl (ns.map Dt.int)), .sh (.int at0), .sh (.int many), .sh (.lst (names.map Dt.str)), .ol (raw.map nd), s5, s6, s7, s8] ∧ raw.length = i ∧ ∀ x ∈ raw, GoodNd names x)
    (rgD 0 many.toNat) [.sh (.frl (ns.map Dt.int)), .sh (.int at0), .sh (.int many), .sh (.lst (names.map Dt.str)), .ol [], .no, .no, .no, .no]
    ⟨[], .no, .no, .no, .no, rfl, rfl, fun x h => by (cases h)⟩ (fun i d D hd hI => by
      obtain ⟨raw, s5, s6, s7, s8, rfl, hlen, hg⟩ := hI
      obtain ⟨hi, rfl⟩ := rgD_get hd
      have hp := pick_eq ns (at0 + (i : Int)) (by omega)
      obtain ⟨cell, hc⟩ : ∃ cell : Int, pick ns (at0 + (i : Int)) + (i : Int) = cell := ⟨_, rfl⟩
      have dr := fun k m h1 h2 h3 => draw_eq cell k m h1 h2 h3
      obtain ⟨m1, hm1, e1⟩ := ix3 (a := 1) (b := 3) (c := 31) (draw_lo cell 1 (m := 3) (by decide)) (draw_hi cell 1 (m := 3) (by decide))
      obtain ⟨m2, hm2, e2⟩ := ix3 (a := 1) (b := 4) (c := 1000) (draw_lo cell 3 (m := 3) (by decide)) (draw_hi cell 3 (m := 3) (by decide))
      have hnl : (0 : Int) < (names.length : Int) := by omega
      obtain ⟨t, ht, e3⟩ := ix_strs (l := names) (draw_lo cell 4 (m := names.length) hnl) (draw_hi cell 4 (m := names.length) hnl)
      have q1 := draw_lo cell 0 (m := m1) (by omega)
      have q2 := draw_hi cell 0 (m := m1) (by omega)
      have q3 := draw_lo cell 2 (m := m2) (by omega)
      have q4 := draw_hi cell 2 (m := m2) (by omega)
      have f0 := dr 0 m1 (by decide) (by decide) (by omega)
      have f1 := dr 1 3 (by decide) (by decide) (by decide)
      have f2 := dr 2 m2 (by decide) (by decide) (by omega)
      have f3 := dr 3 3 (by decide) (by decide) (by decide)
      have f4 := dr 4 names.length (by decide) (by decide) (by omega)
      refine ⟨_, [.sh (.frl (ns.map Dt.int)), .sh (.int at0), .sh (.int many), .sh (.lst (names.map Dt.str)), .ol ((raw ++ [(draw cell 0 m1, t, 1 + draw cell 2 m2)]).map nd), .sh (.int (0 + (i : Int))), .sh (.int cell), .sh (.int (draw cell 0 m1)), .sh (.int (1 + draw cell 2 m2))], rfl, ?_, raw ++ [(draw cell 0 m1, t, 1 + draw cell 2 m2)], _, _, _, _, rfl, by simp [hlen], ?_⟩
      · have g : raw.length < 1000000 := by omega
        simp [xb__law_rawlist_1, hp, hc, f0, f1, f2, f3, f4, e1, e2, e3, g, nd]
      · intro x hx
        rcases List.mem_append.mp hx with hx | hx
        · exact hg x hx
        · rw [List.mem_singleton.mp hx]
          exact ⟨q1, by show draw cell 0 m1 ≤ 30; omega, ht, by show 1 ≤ 1 + draw cell 2 m2; omega, by show 1 + draw cell 2 m2 ≤ 1000; omega⟩)
  obtain ⟨raw, s5, s6, s7, s8, rfl, hlen, hg⟩ := hI
  rw [rgD_len] at hlen
  refine ⟨raw, ?_, hlen, hg⟩
  simp [m__law_rawlist, funD, runD, xs__law_rawlist, hr, e, List.replicate, Frz, Sl.frz]
end Mx
namespace Mx
open PySem PySem.Spec PyProof.Rows L2
/-! ### the law's own merging -/
def kd (x : Nd) : List Key := [.inl x.1, .inr x.2.1]
def ltN (x y : Nd) : Bool := MxT.lexK (kd x) (kd y)
def pos (x : Nd) : List Nd → Nat
  | [] => 0
  | y :: r => if ltN y x = true then pos x r + 1 else 0
def insN (x : Nd) : List Nd → List Nd
  | [] => [x]
  | y :: r => if ltN y x = true then y :: insN x r else if kd y = kd x then (x.1, x.2.1, y.2.2 + x.2.2) :: r else x :: y :: r
def mrg (l : List Nd) : List Nd := l.foldl (fun m x => insN x m) []
theorem pos_le (x : Nd) : ∀ m : List Nd, pos x m ≤ m.length
  | [] => Nat.le_refl _
  | y :: r => by
    unfold pos
    have := pos_le x r
    split
    · simp only [List.length_cons]; omega
    · exact Nat.zero_le _
theorem pos_lt {x : Nd} : ∀ {m : List Nd} {i : Nat}, i < pos x m → ∃ y, m[i]? = some y ∧ ltN y x = true
  | [], i, h => by simp [pos] at h
  | y :: r, i, h => by
    unfold pos at h
    split at h
    · rename_i hy
      cases i with
      | zero => exact ⟨y, rfl, hy⟩
      | succ i => exact pos_lt (m := r) (i := i) (by omega)
    · omega
theorem pos_at {x : Nd} : ∀ {m : List Nd} {y : Nd}, m[pos x m]? = some y → ltN y x = false
  | [], y, h => by simp at h
  | z :: r, y, h => by
    unfold pos at h
    split at h
    · exact pos_at (m := r) (by simpa using h)
    · rename_i hz
      simp at h
      subst h
      simpa using hz
theorem insN_none {x : Nd} : ∀ {m : List Nd}, m[pos x m]? = none → insN x m = m.take (pos x m) ++ [x] ++ m.drop (pos x m)
  | [], h => by simp [insN, pos]
  | z :: r, h => by
    unfold pos at h ⊢
    unfold insN
    split at h
    · rename_i hz
      rw [if_pos hz, if_pos hz, insN_none (m := r) (by simpa using h)]
      simp
    · simp at h
theorem insN_some {x : Nd} : ∀ {m : List Nd} {y : Nd}, m[pos x m]? = some y → insN x m = if kd y = kd x then m.set (pos x m) (x.1, x.2.1, y.2.2 + x.2.2) else m.take (pos x m) ++ [x] ++ m.drop (pos x m)
  | [], y, h => by simp at h
  | z :: r, y, h => by
    unfold pos at h ⊢
    unfold insN
    split at h
    · rename_i hz
      rw [if_pos hz, if_pos hz, insN_some (m := r) (y := y) (by simpa using h)]
      split <;> simp
    · rename_i hz
      simp at h
      subst h
      rw [if_neg hz, if_neg hz]
      split <;> simp
theorem dLtK_is (a c : Int) (b d : Str) : dLtK (.tup [.int a, .str b]) (.tup [.int c, .str d]) = .ok (.bl (MxT.lexK [.inl a, .inr b] [.inl c, .inr d])) := rfl
@[simp] theorem dEq_str (i j : Str) : dEq (.str i) (.str j) = .ok (.bl (i == j)) := by simp [dEq]
@[simp] theorem dNe_str (i j : Str) : dNe (.str i) (.str j) = .ok (.bl (!(i == j))) := by simp [dNe]
theorem atI_nd {m : List Nd} {i : Nat} {y : Nd} (h : m[i]? = some y) : atI (m.map nd) (i : Int) = some (nd y) := by
  obtain ⟨hl, _⟩ := List.getElem?_eq_some_iff.mp h
  rw [atI_nat' (by omega) (by simpa using hl), List.getElem?_map]
  simp [h]
@[simp] theorem nd0 (x : Nd) : dIx (nd x) (.int 0) = .ok (.int x.1) := rfl
@[simp] theorem nd1 (x : Nd) : dIx (nd x) (.int 1) = .ok (.str x.2.1) := rfl
@[simp] theorem nd2 (x : Nd) : dIx (nd x) (.int 2) = .ok (.int x.2.2) := rfl
theorem mt_ok (raw : Sl) (m : List Nd) (x : Nd) (i : Nat) : xt__law_merge_1 [raw, .ol (m.map nd), .sh (nd x), .sh (.int i)] = .ok (match m[i]? with
    | some y => ltN y x
    | none => false) := by
  cases h : m[i]? with
  | none =>
    have hl := List.getElem?_eq_none_iff.mp h
    have : ¬ ((i : Int) < (m.length : Int)) := by omega
    simp [xt__law_merge_1, Sl.dat, this]
  | some y =>
    have hl := (List.getElem?_eq_some_iff.mp h).1
    simp only [xt__law_merge_1, xAnd, xTest, x2, xVarB_ap, List.getElem?_cons_succ, List.getElem?_cons_zero, datO_some, dat_sh, dat_ol, bind_ok, xCB, xCons, xNil, dLen_lst, List.length_map, dLtI_int, dTest_bl, decide_eq_true_iff, dIx_lst, atI_nd h, opt_some, xC, nd0, nd1, xTup, dLtK_is, ltN, kd]
    simp [hl, dLtK_is]
theorem wh_merge (raw : Sl) (m : List Nd) (x : Nd) : ∀ (n i : Nat), i ≤ pos x m → pos x m - i < n →
    xWh xt__law_merge_1 xb__law_merge_1 n [raw, .ol (m.map nd), .sh (nd x), .sh (.int i)] = .nx [raw, .ol (m.map nd), .sh (nd x), .sh (.int (pos x m))]
  | 0, i, _, h => by omega
  | n + 1, i, hi, hn => by
    simp only [xWh, mt_ok, out_ok]
    by_cases hp : i < pos x m
    · obtain ⟨y, e1, e2⟩ := pos_lt hp
      have ih := wh_merge raw m x n (i + 1) (by omega) (by omega)
      simp only [e1, e2, if_true]
      have eb : xb__law_merge_1 [raw, .ol (m.map nd), .sh (nd x), .sh (.int i)] = .nx [raw, .ol (m.map nd), .sh (nd x), .sh (.int ((i + 1 : Nat) : Int))] := by simp [xb__law_merge_1]
      rw [eb]
      exact ih
    · have : i = pos x m := by omega
      subst this
      have : (match m[pos x m]? with
        | some y => ltN y x
        | none => false) = false := by
        split
        · rename_i y h; exact pos_at h
        · rfl
      simp only [this, Bool.false_eq_true, if_false]
theorem kd_eq {x y : Nd} : kd y = kd x ↔ y.1 = x.1 ∧ y.2.1 = x.2.1 := by simp [kd]
theorem step_merge (raw s3 : Sl) (m : List Nd) (x : Nd) (hm : m.length < 99) : xb__law_merge_2 [raw, .ol (m.map nd), .sh (nd x), s3] = .nx [raw, .ol ((insN x m).map nd), .sh (nd x), .sh (.int (pos x m))] := by
  have hw := wh_merge raw m x 100 0 (Nat.zero_le _) (by have := pos_le x m; omega)
  have hp := pos_le x m
  have ew : xWh xt__law_merge_1 xb__law_merge_1 100 [raw, .ol (m.map nd), .sh (nd x), .sh (.int 0)] = .nx [raw, .ol (m.map nd), .sh (nd x), .sh (.int (pos x m))] := hw
  cases h : m[pos x m]? with
  | none =>
    have hl := List.getElem?_eq_none_iff.mp h
    have q : ¬ ((pos x m : Int) < (m.length : Int)) := by omega
    have q1 : m.length < 1000000 := by omega
    have q2 : (pos x m : Int) < 9223372036854775808 := by omega
    rw [insN_none h]
    simp [xb__law_merge_2, ew, q, q1, q2]
  | some y =>
    have hl := (List.getElem?_eq_some_iff.mp h).1
    have q1 : m.length < 1000000 := by omega
    have q2 : (pos x m : Int) < 9223372036854775808 := by omega
    rw [insN_some h]
    have a := atI_nd h
    have e0 : ixN m.length (pos x m : Int) = some (pos x m) := by
      unfold ixN
      rw [if_pos (by omega), if_pos (by omega)]; rfl
    by_cases k : kd y = kd x
    · obtain ⟨k1, k2⟩ := kd_eq.mp k
      rw [if_pos k]
      simp [xb__law_merge_2, ew, hl, a, e0, k1, k2]
      rfl
    · rw [if_neg k]
      have k' : ¬ (y.1 = x.1 ∧ y.2.1 = x.2.1) := fun z => k (kd_eq.mpr z)
      by_cases k1 : y.1 = x.1
      · have k2 : ¬ y.2.1 = x.2.1 := fun z => k' ⟨k1, z⟩
        simp [xb__law_merge_2, ew, hl, a, e0, k1, k2, q1, q2]
      · simp [xb__law_merge_2, ew, hl, a, e0, k1, q1, q2]
theorem insN_len (x : Nd) : ∀ m : List Nd, (insN x m).length ≤ m.length + 1
  | [] => by simp [insN]
  | y :: r => by
    have := insN_len x r
    unfold insN
    split
    · simp only [List.length_cons]; omega
    · split <;> simp
theorem loop_merge (raw : Sl) : ∀ (l m : List Nd) (s2 s3 : Sl), m.length + l.length < 99 → ∃ t2 t3, xLoop (xgName 2) xb__law_merge_2 (l.map nd) [raw, .ol (m.map nd), s2, s3] = .nx [raw, .ol ((l.foldl (fun m x => insN x m) m).map nd), t2, t3]
  | [], m, s2, s3, _ => ⟨s2, s3, rfl⟩
  | x :: l, m, s2, s3, h => by
    simp only [List.length_cons] at h
    have := insN_len x m
    obtain ⟨t2, t3, e⟩ := loop_merge raw l (insN x m) (.sh (nd x)) (.sh (.int (pos x m))) (by omega)
    refine ⟨t2, t3, ?_⟩
    have hs := step_merge raw s3 m x (by omega)
    simp [hs, e]
theorem law_merge_eq (l : List Nd) (h : l.length < 99) : m__law_merge [.lst (l.map nd)] = .ok (.lst ((mrg l).map nd)) := by
  obtain ⟨t2, t3, e⟩ := loop_merge (.sh (.lst (l.map nd))) l [] .no .no (by simpa using h)
  have e' : xLoop (xgName 2) xb__law_merge_2 (l.map nd) [.sh (.lst (l.map nd)), .ol [], .no, .no] = .nx [.sh (.lst (l.map nd)), .ol ((mrg l).map nd), t2, t3] := e
  simp [m__law_merge, funD, runD, xs__law_merge, List.replicate, e', Frz, Sl.frz, dItems]
end Mx
namespace Mx
open PySem PySem.Spec PyProof.Rows L2
/-! ### names -/
theorem comp_map {xg : XG} {xe : XE} {D0 : Ds} {f : Dt → Dt} : ∀ (l acc : List Dt), (∀ d ∈ l, ∃ D1, xg d D0 = .ok D1 ∧ xe D1 = .ok (f d)) → acc.length + l.length ≤ 1000000 → xComp xg xYes xe D0 l acc = .ok (acc ++ l.map f)
  | [], acc, _, _ => by simp [xComp]
  | d :: l, acc, h, hl => by
    obtain ⟨D1, e1, e2⟩ := h d List.mem_cons_self
    simp only [List.length_cons] at hl
    have e3 := comp_map l (acc ++ [f d]) (fun d hd => h d (List.mem_cons_of_mem _ hd)) (by simp; omega)
    unfold xComp
    simp only [e1, xYes, e2]
    rw [if_pos (by omega), e3]
    simp
def lcB (c : Nat) : Bool := decide (97 ≤ c ∧ c ≤ 122)
def nmB (s : Str) : Bool := decide (1 ≤ s.length ∧ s.length ≤ 12) && s.cps.toList.all lcB
theorem nmB_of {s : Str} (h : Nm s) : nmB s = true := by
  obtain ⟨h1, h2, h3⟩ := h
  unfold nmB
  rw [Bool.and_eq_true]
  exact ⟨decide_eq_true ⟨h1, h2⟩, List.all_eq_true.mpr fun c hc => decide_eq_true (h3 c hc)⟩
theorem nm_of {s : Str} (h : nmB s = true) : Nm s := by
  unfold nmB at h
  rw [Bool.and_eq_true] at h
  obtain ⟨h1, h2⟩ := of_decide_eq_true h.1
  exact ⟨h1, h2, fun c hc => of_decide_eq_true (List.all_eq_true.mp h.2 c hc)⟩
theorem mem_az (c : Nat) : decide (c ∈ (("abcdefghijklmnopqrstuvwxyz" : String) : Str).cps.toList) = lcB c := by
  rw [codes_az]
  unfold lcB
  apply decide_eq_decide.mpr
  simp only [List.mem_map, List.mem_range]
  constructor
  · rintro ⟨a, h, rfl⟩; omega
  · intro h; exact ⟨c - 97, by omega, by omega⟩
theorem is_name_eq (s : Str) (hs : s.length ≤ 1000000) : m_is_name [.str s] = .ok (.bl (nmB s)) := by
  obtain ⟨bs, hbs, hall⟩ : ∃ bs : List Bool, (s.cps.toList.map lcB) = bs ∧ bs.all id = s.cps.toList.all lcB := ⟨_, rfl, by rw [List.all_map]; rfl⟩
  have e : s.length ≤ 12 → xComp (xgName 1) xYes xe_is_name_1 [.sh (.str s), .no] (sgD s) [] = .ok (bs.map Dt.bl) := fun hl => by
    rw [comp_map (f := fun d => match d with
      | .str x => .bl (x.cps.toList.all lcB)
      | _ => .non) _ _ (fun d hd => by
        unfold sgD at hd
        obtain ⟨c, hc, rfl⟩ := List.mem_map.mp hd
        refine ⟨[.sh (.str s), .sh (.str ⟨#[c]⟩)], rfl, ?_⟩
        have := mem_az c
        show ((opt (sign ⟨#[c]⟩)).bind fun c => R.ok (Dt.bl (decide (c ∈ (("abcdefghijklmnopqrstuvwxyz" : String) : Str).cps.toList)))) = _
        rw [show sign ⟨#[c]⟩ = some c from rfl, opt_some, bind_ok, this]
        simp) (by simp [sgD]; have := len_cps s; simp at this; omega)]
    rw [List.nil_append, ← hbs]
    unfold sgD
    rw [List.map_map, List.map_map]
    congr 1
    apply List.map_congr_left
    intro c hc
    simp
  have en : nmB s = (decide (1 ≤ s.length ∧ s.length ≤ 12) && bs.all id) := by rw [hall]; rfl
  rw [en]
  by_cases h1 : 1 ≤ s.length
  · have h1' : (1 : Int) ≤ s.length := by omega
    by_cases h2 : s.length ≤ 12
    · have e' := e h2
      have h2' : (s.length : Int) ≤ 12 := by omega
      simp only [m_is_name, funD, runD, xs_is_name]
      simp [h1', h2', wipeD, e', h1, h2, Sl.dat, hs]
    · have h2' : ¬ (s.length : Int) ≤ 12 := by omega
      simp only [m_is_name, funD, runD, xs_is_name]
      simp [h1', h2', h1, h2, Sl.dat, hs]
  · have h1' : ¬ (1 : Int) ≤ s.length := by omega
    simp only [m_is_name, funD, runD, xs_is_name]
    simp [h1', h1, Sl.dat, hs]
/-! ### what is asked of a dish -/
def ndB (x : Nd) : Bool := decide (0 ≤ x.1) && decide (1 ≤ x.2.2) && nmB x.2.1
theorem check_step (n l : Sl) (x : Nd) (hx : x.2.1.length ≤ 1000000) (s2 s3 s4 : Sl) : ∃ D1, xgTup 3 (xgCons (xgName 2) (xgCons (xgName 3) (xgCons (xgName 4) xgNil))) (nd x) [n, l, s2, s3, s4] = .ok D1 ∧ D1 = [n, l, .sh (.int x.1), .sh (.str x.2.1), .sh (.int x.2.2)] ∧
    xb__check_dish_1 D1 = if ndB x = true then .nx D1 else .ex "InvalidDish" [] D1 := by
  refine ⟨_, rfl, rfl, ?_⟩
  have e := is_name_eq x.2.1 hx
  by_cases h1 : x.1 < 0
  · have : ¬ 0 ≤ x.1 := by omega
    simp [xb__check_dish_1, ndB, h1, this]
  · have h1' : 0 ≤ x.1 := by omega
    by_cases h2 : x.2.2 < 1
    · have : ¬ 1 ≤ x.2.2 := by omega
      simp [xb__check_dish_1, ndB, h1, h1', h2, this]
    · have h2' : 1 ≤ x.2.2 := by omega
      cases h3 : nmB x.2.1 <;> simp [xb__check_dish_1, ndB, h1, h1', h2, h2', h3, e]
theorem check_loop (n l : Sl) : ∀ (raw : List Nd) (hr : ∀ x ∈ raw, x.2.1.length ≤ 1000000) (s2 s3 s4 : Sl), ∃ D', xLoop (xgTup 3 (xgCons (xgName 2) (xgCons (xgName 3) (xgCons (xgName 4) xgNil)))) xb__check_dish_1 (raw.map nd) [n, l, s2, s3, s4] = if raw.all ndB = true then .nx D' else .ex "InvalidDish" [] D'
  | [], _, s2, s3, s4 => ⟨_, rfl⟩
  | x :: raw, hr, s2, s3, s4 => by
    obtain ⟨D1, e1, e2, e3⟩ := check_step n l x (hr x List.mem_cons_self) s2 s3 s4
    rw [List.map_cons, loop_cons, e1, get_ok, e3]
    cases h : ndB x with
    | false => exact ⟨D1, by simp [h]⟩
    | true =>
      obtain ⟨D', e4⟩ := check_loop n l raw (fun y h => hr y (List.mem_cons_of_mem _ h)) (.sh (.int x.1)) (.sh (.str x.2.1)) (.sh (.int x.2.2))
      refine ⟨D', ?_⟩
      subst e2
      simp only [if_true, e4, List.all_cons, h, Bool.true_and]
theorem check_dish_eq (n : Str) (raw : List Nd) (hn : n.length ≤ 1000000) (hr : ∀ x ∈ raw, x.2.1.length ≤ 1000000) : m__check_dish [.str n, .lst (raw.map nd)] = if nmB n = true ∧ raw ≠ [] ∧ raw.all ndB = true then .ok .non else .ex "InvalidDish" [] := by
  obtain ⟨D', e⟩ := check_loop (.sh (.str n)) (.sh (.lst (raw.map nd))) raw hr .no .no .no
  have en := is_name_eq n hn
  cases h1 : nmB n with
  | false => simp [m__check_dish, funD, runD, xs__check_dish, List.replicate, en, h1]
  | true =>
    by_cases h2 : raw = []
    · subst h2
      simp [m__check_dish, funD, runD, xs__check_dish, List.replicate, en, h1]
    · have h2' : raw.length ≠ 0 := fun z => h2 (List.length_eq_zero_iff.mp z)
      have h3 : ((raw.length : Int) == 0) = false := by simpa using h2
      simp only [m__check_dish, funD, runD, xs__check_dish, List.replicate, en, h1]
      cases h4 : raw.all ndB <;> rw [h4] at e <;> simp at e <;> simp [en, h1, h3, h2, e, dItems]
end Mx
namespace Mx
open PySem PySem.Spec PyProof.Rows L2
/-! ### the order of needs -/
def iN (x : Nd) : MxT.IS := (x.1, x.2.1.cps.toList)
theorem ltN_iN (x y : Nd) : ltN x y = MxT.lexIS (iN x) (iN y) := by
  unfold ltN kd iN MxT.lexIS
  simp only [MxT.lexK, MxT.keyLt, Sum.inl.injEq, Sum.inr.injEq]
  by_cases h : x.1 = y.1
  · rw [if_pos h, if_pos h]
    by_cases h2 : x.2.1 = y.2.1
    · rw [if_pos h2, h2]
      have : ¬ y.2.1.cps.toList < y.2.1.cps.toList := MxT.ln_irrefl _
      simp [this]
    · rw [if_neg h2]
  · rw [if_neg h, if_neg h]
theorem iN_kd {x y : Nd} : iN x = iN y ↔ kd x = kd y := by
  unfold iN kd
  constructor
  · intro h
    simp only [Prod.mk.injEq] at h
    rw [h.1, str_ext h.2]
  · intro h
    simp at h
    rw [h.1, h.2]
theorem swoN : SrtO.Swo (fun x y : Nd => ltN x y) := by
  have := MxT.lexIS_swo iN
  refine ⟨fun x y h => ?_, fun x y z h k => ?_⟩
  · rw [ltN_iN] at h ⊢; exact this.asym x y h
  · rw [ltN_iN] at h k ⊢; exact this.tr x y z h k
theorem ltN_irr (x : Nd) : ltN x x = false := swoN.refl x
theorem ltN_kd {x y z : Nd} (h : kd y = kd z) : ltN x y = ltN x z ∧ ltN y x = ltN z x := by
  unfold ltN; rw [h]; exact ⟨rfl, rfl⟩
theorem ltN_trans {x y z : Nd} (h : ltN x y = true) (k : ltN y z = true) : ltN x z = true := by
  cases e : ltN x z with
  | true => rfl
  | false =>
    have a := swoN.asym y z k
    have := swoN.tr y z x a e
    rw [h] at this; cases this
theorem ltN_tri {x y : Nd} (h : ltN y x = false) (k : ¬ kd y = kd x) : ltN x y = true := by
  cases e : ltN x y with
  | true => rfl
  | false =>
    rw [ltN_iN] at h e
    exact absurd (iN_kd.mp (lexIS_eq h e)) k
def Srt (m : List Nd) : Prop := m.Pairwise fun x y => ltN x y = true
theorem mem_ins {x z : Nd} : ∀ {m : List Nd}, z ∈ insN x m → kd z = kd x ∨ ∃ w ∈ m, kd z = kd w
  | [], h => by simp [insN] at h; exact .inl (by rw [h])
  | y :: r, h => by
    unfold insN at h
    split at h
    · rcases List.mem_cons.mp h with rfl | h
      · exact .inr ⟨z, List.mem_cons_self, rfl⟩
      · rcases mem_ins h with h | ⟨w, hw, e⟩
        · exact .inl h
        · exact .inr ⟨w, List.mem_cons_of_mem _ hw, e⟩
    · split at h
      · rcases List.mem_cons.mp h with rfl | h
        · exact .inl rfl
        · exact .inr ⟨z, List.mem_cons_of_mem _ h, rfl⟩
      · rcases List.mem_cons.mp h with rfl | h
        · exact .inl rfl
        · exact .inr ⟨z, h, rfl⟩
theorem srt_ins (x : Nd) : ∀ {m : List Nd}, Srt m → Srt (insN x m)
  | [], _ => by simp [insN, Srt]
  | y :: r, h => by
    obtain ⟨h1, h2⟩ := List.pairwise_cons.mp h
    unfold insN
    split
    · rename_i hy
      refine List.pairwise_cons.mpr ⟨fun z hz => ?_, srt_ins x h2⟩
      rcases mem_ins hz with e | ⟨w, hw, e⟩
      · rw [(ltN_kd e).1]; exact hy
      · rw [(ltN_kd e).1]; exact h1 w hw
    · rename_i hy
      split
      · rename_i hk
        refine List.pairwise_cons.mpr ⟨fun z hz => ?_, h2⟩
        have : kd (x.1, x.2.1, y.2.2 + x.2.2) = kd y := hk.symm
        rw [(ltN_kd this).2]; exact h1 z hz
      · rename_i hk
        have hxy := ltN_tri (by simpa using hy) hk
        refine List.pairwise_cons.mpr ⟨fun z hz => ?_, h⟩
        rcases List.mem_cons.mp hz with rfl | hz
        · exact hxy
        · exact ltN_trans hxy (h1 z hz)
theorem srt_fold : ∀ (l : List Nd) {m : List Nd}, Srt m → Srt (l.foldl (fun m x => insN x m) m)
  | [], _, h => h
  | x :: l, _, h => srt_fold l (srt_ins x h)
theorem srt_mrg (l : List Nd) : Srt (mrg l) := srt_fold l .nil
/-! ### what is looked up -/
section
variable {κ : Type} [DecidableEq κ]
theorem getG_putG {α : Type} (k : κ) (v : α) : ∀ (l : List (κ × α)) (k' : κ), getG (putG l k v) k' = if k' = k then some v else getG l k'
  | [], k' => by
    simp only [putG, getG]
    by_cases h : k = k'
    · rw [if_pos h, if_pos h.symm]
    · rw [if_neg h, if_neg (Ne.symm h)]
  | p :: r, k' => by
    unfold putG
    split
    · rename_i h
      simp only [getG]
      rw [h]
      by_cases e : k = k'
      · rw [if_pos e, if_pos e.symm]
      · rw [if_neg e, if_neg (Ne.symm e), if_neg e]
    · rename_i h
      simp only [getG]
      rw [getG_putG k v r k']
      by_cases e : p.1 = k'
      · rw [if_pos e, if_pos e, if_neg (fun z => h (e.trans z))]
      · rw [if_neg e, if_neg e]
theorem mem_getG {α : Type} : ∀ (l : List (κ × α)) (k : κ), k ∈ l.map (·.1) ↔ (getG l k).isSome = true
  | [], k => by simp [getG]
  | p :: r, k => by
    simp only [List.map_cons, List.mem_cons, getG]
    by_cases e : p.1 = k
    · rw [if_pos e]; simp [e]
    · rw [if_neg e, ← mem_getG r k]
      simp [Ne.symm e]
theorem keys_put {α : Type} (k : κ) (v : α) : ∀ (l : List (κ × α)), (putG l k v).map (·.1) = if k ∈ l.map (·.1) then l.map (·.1) else l.map (·.1) ++ [k]
  | [] => by simp [putG]
  | p :: r => by
    unfold putG
    split
    · rename_i h
      simp [h]
    · rename_i h
      have ih := keys_put k v r
      simp only [List.map_cons, ih, List.mem_cons]
      by_cases e : k ∈ r.map (·.1)
      · rw [if_pos e, if_pos (.inr e)]
      · rw [if_neg e, if_neg (fun z => z.elim (fun y => h y.symm) e)]; rfl
theorem nodup_put {α : Type} {k : κ} {v : α} {l : List (κ × α)} (h : (l.map (·.1)).Nodup) : ((putG l k v).map (·.1)).Nodup := by
  rw [keys_put]
  split
  · exact h
  · rename_i e
    refine List.nodup_append.mpr ⟨h, by simp, fun a ha b hb z => ?_⟩
    rw [List.mem_singleton.mp hb] at z
    exact e (z ▸ ha)
theorem len_put {α : Type} {k : κ} {v : α} {l : List (κ × α)} : (putG l k v).length ≤ l.length + 1 := by
  have := congrArg List.length (keys_put k v l)
  split at this
  · simp at this; omega
  · simp at this; omega
end
def tb (m : List Nd) : List (List Key × Int) := m.map fun x => (kd x, x.2.2)
theorem tb_keys (m : List Nd) : (tb m).map (·.1) = m.map kd := by unfold tb; rw [List.map_map]; rfl
theorem tb_none {x : Nd} {m : List Nd} (h : ∀ z ∈ m, ltN x z = true) : getG (tb m) (kd x) = none := by
  apply getG_keys
  rw [tb_keys]
  intro hk
  obtain ⟨z, hz, e⟩ := List.mem_map.mp hk
  have := h z hz
  rw [(ltN_kd e).1, ltN_irr] at this
  cases this
theorem getG_ins (x : Nd) : ∀ {m : List Nd}, Srt m → ∀ k, getG (tb (insN x m)) k = if k = kd x then some ((getG (tb m) (kd x)).getD 0 + x.2.2) else getG (tb m) k
  | [], _, k => by
    simp only [insN, tb, List.map_cons, List.map_nil, getG]
    by_cases e : kd x = k
    · rw [if_pos e, if_pos e.symm]; simp
    · rw [if_neg e, if_neg (Ne.symm e)]
  | y :: r, h, k => by
    obtain ⟨h1, h2⟩ := List.pairwise_cons.mp h
    unfold insN
    split
    · rename_i hy
      have hne : ¬ kd y = kd x := fun e => by rw [(ltN_kd e).2, ltN_irr] at hy; cases hy
      have ih := getG_ins x h2 k
      simp only [tb, List.map_cons, getG] at ih ⊢
      rw [ih, if_neg hne]
      by_cases e : kd y = k
      · rw [if_pos e, if_neg (fun z => hne (e.trans z)), if_pos e]
      · rw [if_neg e, if_neg e]
    · rename_i hy
      split
      · rename_i hk
        have hk2 : kd (x.1, x.2.1, y.2.2 + x.2.2) = kd x := rfl
        simp only [tb, List.map_cons, getG]
        rw [hk2, if_pos hk]
        by_cases e : kd x = k
        · rw [if_pos e, if_pos e.symm]; rfl
        · rw [if_neg e, if_neg (Ne.symm e), hk, if_neg e]
      · rename_i hk
        have hxy := ltN_tri (by simpa using hy) hk
        have hn : getG (tb (y :: r)) (kd x) = none := tb_none fun z hz => by
          rcases List.mem_cons.mp hz with rfl | hz
          · exact hxy
          · exact ltN_trans hxy (h1 z hz)
        rw [hn]
        show (if kd x = k then some x.2.2 else getG (tb (y :: r)) k) = _
        by_cases e : kd x = k
        · rw [if_pos e, if_pos e.symm]; simp
        · rw [if_neg e, if_neg (Ne.symm e)]
theorem getG_mem : ∀ {m : List Nd}, Srt m → ∀ x ∈ m, getG (tb m) (kd x) = some x.2.2
  | [], _, x, h => by cases h
  | y :: r, hs, x, h => by
    obtain ⟨h1, h2⟩ := List.pairwise_cons.mp hs
    simp only [tb, List.map_cons, getG]
    rcases List.mem_cons.mp h with rfl | h
    · rw [if_pos rfl]
    · rw [if_neg (fun e => by have := h1 x h; rw [(ltN_kd e).2, ltN_irr] at this; cases this)]
      exact getG_mem h2 x h
/-! ### the program's merging -/
structure DkOk (d : List (List Key × Dt)) (m : List Nd) : Prop where
  nod : (d.map (·.1)).Nodup
  ok : ∀ k ∈ d.map (·.1), okB k = true
  get : ∀ k, getG d k = (getG (tb m) k).map Dt.int
  srt : Srt m
theorem dk_put {d : List (List Key × Dt)} {m : List Nd} (h : DkOk d m) (x : Nd) : DkOk (putG d (kd x) (.int ((getG (tb m) (kd x)).getD 0 + x.2.2))) (insN x m) where
  nod := nodup_put h.nod
  ok := fun k hk => by
    rw [keys_put] at hk
    split at hk
    · exact h.ok k hk
    · rcases List.mem_append.mp hk with hk | hk
      · exact h.ok k hk
      · rw [List.mem_singleton.mp hk]; rfl
  get := fun k => by
    rw [getG_putG, getG_ins x h.srt]
    split
    · rfl
    · exact h.get k
  srt := srt_ins x h.srt
theorem merged_step (n : Sl) (u5 u6 u7 : Sl) {d : List (List Key × Dt)} {m : List Nd} (h : DkOk d m) (hl : d.length < 1000000) (x : Nd) :
    xb__merged_1 [n, .ot d, .sh (.int x.1), .sh (.str x.2.1), .sh (.int x.2.2), u5, u6, u7] = .nx [n, .ot (putG d (kd x) (.int ((getG (tb m) (kd x)).getD 0 + x.2.2))), .sh (.int x.1), .sh (.str x.2.1), .sh (.int x.2.2), u5, u6, u7] := by
  have g := h.get (kd x)
  have e : (getG d [Sum.inl x.1, Sum.inr x.2.1]).getD (.int 0) = .int ((getG (tb m) (kd x)).getD 0) := by
    show (getG d (kd x)).getD (.int 0) = _
    rw [g]
    cases getG (tb m) (kd x) <;> rfl
  have hn := h.nod
  simp [xb__merged_1, keysOf, e, hl, hn, kd]
theorem merged_loop (n : Sl) (u5 u6 u7 : Sl) : ∀ (l : List Nd) (d : List (List Key × Dt)) (m : List Nd) (s2 s3 s4 : Sl), DkOk d m → d.length + l.length < 1000000 → ∃ d' t2 t3 t4, xLoop (xgTup 3 (xgCons (xgName 2) (xgCons (xgName 3) (xgCons (xgName 4) xgNil)))) xb__merged_1 (l.map nd) [n, .ot d, s2, s3, s4, u5, u6, u7] = .nx [n, .ot d', t2, t3, t4, u5, u6, u7] ∧ DkOk d' (l.foldl (fun m x => insN x m) m) ∧ d'.length ≤ d.length + l.length
  | [], d, m, s2, s3, s4, h, _ => ⟨d, s2, s3, s4, rfl, h, Nat.le_refl _⟩
  | x :: l, d, m, s2, s3, s4, h, hl => by
    simp only [List.length_cons] at hl
    have lp := len_put (k := kd x) (v := Dt.int ((getG (tb m) (kd x)).getD 0 + x.2.2)) (l := d)
    obtain ⟨d', t2, t3, t4, e, h', hl'⟩ := merged_loop n u5 u6 u7 l _ _ (.sh (.int x.1)) (.sh (.str x.2.1)) (.sh (.int x.2.2)) (dk_put h x) (by omega)
    refine ⟨d', t2, t3, t4, ?_, h', by simp only [List.length_cons]; omega⟩
    have eg : xgTup 3 (xgCons (xgName 2) (xgCons (xgName 3) (xgCons (xgName 4) xgNil))) (nd x) [n, .ot d, s2, s3, s4, u5, u6, u7] = .ok [n, .ot d, .sh (.int x.1), .sh (.str x.2.1), .sh (.int x.2.2), u5, u6, u7] := rfl
    rw [List.map_cons, loop_cons, eg, get_ok, merged_step n u5 u6 u7 h (by omega) x]
    exact e
theorem insN_fold_len : ∀ (l m : List Nd), (l.foldl (fun m x => insN x m) m).length ≤ m.length + l.length
  | [], m => Nat.le_refl _
  | x :: l, m => by
    have := insN_fold_len l (insN x m)
    have := insN_len x m
    simp only [List.foldl_cons, List.length_cons]; omega
theorem mrg_len (l : List Nd) : (mrg l).length ≤ l.length := by
  have := insN_fold_len l []
  simp only [List.length_nil, Nat.zero_add] at this
  exact this
/-! ### comprehensions with a test, and with two fors -/
theorem comp_fil {xg : XG} {xt : XT} {xe : XE} {D0 : Ds} {α : Type} (mk : α → Dt) (p : α → Bool) (g : α → Dt) : ∀ (l : List α) (acc : List Dt), (∀ a ∈ l, ∃ D1, xg (mk a) D0 = .ok D1 ∧ xt D1 = .ok (p a) ∧ (p a = true → xe D1 = .ok (g a))) → acc.length + l.length ≤ 1000000 →
    xComp xg xt xe D0 (l.map mk) acc = .ok (acc ++ (l.filter p).map g)
  | [], acc, _, _ => by simp [xComp]
  | a :: l, acc, h, hz => by
    obtain ⟨D1, e1, e2, e3⟩ := h a List.mem_cons_self
    simp only [List.length_cons] at hz
    rw [List.map_cons]
    unfold xComp
    rw [e1]
    simp only
    rw [e2]
    cases hp : p a with
    | true =>
      simp only
      rw [e3 hp]
      simp only
      rw [if_pos (by omega), comp_fil mk p g l _ (fun b hb => h b (List.mem_cons_of_mem _ hb)) (by simp; omega), List.filter_cons_of_pos hp]
      simp
    | false =>
      simp only
      rw [comp_fil mk p g l _ (fun b hb => h b (List.mem_cons_of_mem _ hb)) (by omega), List.filter_cons_of_neg (by rw [hp]; simp)]
theorem comp2_map {xg : XG} {xi1 : XA} {xg1 : XG} {xt1 : XT} {xe : XE} {vs1 : List Nat} {D0 : Ds} {α : Type} (mk : α → Dt) (F : α → List Dt) (N : Nat) : ∀ (l : List α) (acc : List Dt), (∀ a ∈ l, (F a).length ≤ N ∧ ∃ D1 l1, xg (mk a) D0 = .ok D1 ∧ xi1 D1 = .ok l1 ∧
      ∀ acc : List Dt, acc.length + N ≤ 1000000 → xComp xg1 xt1 xe (wipeD D1 vs1) l1 acc = .ok (acc ++ F a)) → acc.length + l.length * N ≤ 1000000 → xComp2 xg xYes xi1 xg1 xt1 xe vs1 D0 (l.map mk) acc = .ok (acc ++ l.flatMap F)
  | [], acc, _, _ => by simp [xComp2]
  | a :: l, acc, h, hz => by
    obtain ⟨hF, D1, l1, e1, e2, e3⟩ := h a List.mem_cons_self
    simp only [List.length_cons, Nat.add_mul, Nat.one_mul] at hz
    rw [List.map_cons]
    unfold xComp2
    rw [e1]
    simp only [xYes]
    rw [e2]
    simp only
    rw [e3 acc (by omega)]
    simp only
    rw [comp2_map mk F N l _ (fun b hb => h b (List.mem_cons_of_mem _ hb)) (by rw [List.length_append]; omega), List.flatMap_cons, List.append_assoc]
/-! ### the merged needs, row by row -/
theorem getG_ex : ∀ {m : List Nd} {k : List Key} {v : Int}, getG (tb m) k = some v → ∃ y ∈ m, kd y = k ∧ y.2.2 = v
  | [], k, v, h => by cases h
  | y :: r, k, v, h => by
    simp only [tb, List.map_cons, getG] at h
    split at h
    · rename_i e
      simp only [Option.some.injEq] at h
      exact ⟨y, List.mem_cons_self, e, h⟩
    · obtain ⟨z, hz, e⟩ := getG_ex (m := r) h
      exact ⟨z, List.mem_cons_of_mem _ hz, e⟩
theorem mem_fold : ∀ (l m : List Nd) {z : Nd}, z ∈ l.foldl (fun m x => insN x m) m → (∃ w ∈ l, kd z = kd w) ∨ ∃ w ∈ m, kd z = kd w
  | [], m, z, h => .inr ⟨z, h, rfl⟩
  | x :: l, m, z, h => by
    rcases mem_fold l (insN x m) h with ⟨w, hw, e⟩ | ⟨w, hw, e⟩
    · exact .inl ⟨w, List.mem_cons_of_mem _ hw, e⟩
    · rcases mem_ins hw with e2 | ⟨u, hu, e2⟩
      · exact .inl ⟨x, List.mem_cons_self, e.trans e2⟩
      · exact .inr ⟨u, hu, e.trans e2⟩
theorem mem_mrg {l : List Nd} {z : Nd} (h : z ∈ mrg l) : ∃ w ∈ l, kd z = kd w := by
  rcases mem_fold l [] h with h | ⟨w, hw, _⟩
  · exact h
  · cases hw
theorem kd_inj {x y : Nd} (h : kd x = kd y) : x.1 = y.1 ∧ x.2.1 = y.2.1 := by
  unfold kd at h
  simpa using h
def rowF (m : List Nd) (ts : List Str) (b : Int) : List Nd := (ts.filter fun t => (getG (tb m) [Sum.inl b, Sum.inr t]).isSome).map fun t => (b, t, (getG (tb m) [Sum.inl b, Sum.inr t]).getD 0)
theorem cross_eq (raw : List Nd) : ((MxZ.sdU MxZ.ltI (raw.map (·.1))).flatMap (rowF (mrg raw) (MxZ.sdU MxZ.ltT (raw.map (·.2.1))))) = mrg raw := by
  have hm := srt_mrg raw
  have pb := MxZ.pw_sdU MxZ.ltI_tri MxZ.ltI_tr (raw.map (·.1))
  have pt := MxZ.pw_sdU MxZ.ltT_tri MxZ.ltT_tr (raw.map (·.2.1))
  have mb := MxZ.mem_sdU MxZ.ltI_tri (raw.map (·.1))
  have mt := MxZ.mem_sdU MxZ.ltT_tri (raw.map (·.2.1))
  refine MxZ.srt_uniq (lt := fun x y => ltN x y = true) (fun a h => by rw [ltN_irr] at h; cases h) (fun a b h k => by rw [swoN.asym _ _ h] at k; cases k) _ _ ?_ hm fun x => ?_
  · refine List.pairwise_flatMap.mpr ⟨fun b _ => ?_, pb.imp fun {b1 b2} hb x hx y hy => ?_⟩
    · refine List.pairwise_map.mpr ((pt.filter _).imp fun {t1 t2} ht => ?_)
      rw [ltN_iN]
      unfold iN MxT.lexIS
      simp only [if_pos]
      exact ht
    · obtain ⟨t1, _, rfl⟩ := List.mem_map.mp hx
      obtain ⟨t2, _, rfl⟩ := List.mem_map.mp hy
      have hb' : b1 < b2 := of_decide_eq_true hb
      rw [ltN_iN]
      unfold iN MxT.lexIS
      simp only
      rw [if_neg (by omega)]
      exact decide_eq_true hb'
  · constructor
    · intro h
      obtain ⟨b, hb, h⟩ := List.mem_flatMap.mp h
      obtain ⟨t, ht, rfl⟩ := List.mem_map.mp h
      obtain ⟨_, hs⟩ := List.mem_filter.mp ht
      cases e : getG (tb (mrg raw)) [Sum.inl b, Sum.inr t] with
      | none => rw [e] at hs; cases hs
      | some v =>
        obtain ⟨y, hy, e1, e2⟩ := getG_ex e
        have : y = (b, t, v) := by
          obtain ⟨y1, y2, y3⟩ := y
          simp only [kd] at e1
          simp at e1
          simp only at e2
          rw [e1.1, e1.2, e2]
        show (b, t, v) ∈ mrg raw
        rw [← this]
        exact hy
    · intro h
      obtain ⟨w, hw, e⟩ := mem_mrg h
      obtain ⟨e1, e2⟩ := kd_inj e
      have g : getG (tb (mrg raw)) [Sum.inl x.1, Sum.inr x.2.1] = some x.2.2 := getG_mem hm x h
      refine List.mem_flatMap.mpr ⟨x.1, (mb _).mpr (by rw [e1]; exact List.mem_map_of_mem hw), List.mem_map.mpr ⟨x.2.1, List.mem_filter.mpr ⟨(mt _).mpr (by rw [e2]; exact List.mem_map_of_mem (f := fun z : Nd => z.2.1) hw), by rw [g]; rfl⟩, by rw [g]; rfl⟩⟩
theorem sdU_len {α : Type} (lt : α → α → Bool) : ∀ l : List α, (MxZ.sdU lt l).length ≤ l.length
  | [] => Nat.le_refl _
  | x :: r => by
    have ih := sdU_len lt r
    have : ∀ (m : List α), (MxZ.insU lt x m).length ≤ m.length + 1 := by
      intro m
      induction m with
      | nil => exact Nat.le_refl _
      | cons y m ih =>
        unfold MxZ.insU
        split
        · simp
        · split
          · simp only [List.length_cons]; omega
          · simp
    have h2 := this (MxZ.sdU lt r)
    show (MxZ.insU lt x (MxZ.sdU lt r)).length ≤ r.length + 1
    omega
def kI : Dt → Dt
  | .tup [.int b, _, _] => .int b
  | _ => .non
def kS : Dt → Dt
  | .tup [_, .str b, _] => .str b
  | _ => .non
theorem at3_0 (a b c : Dt) : atI [a, b, c] 0 = some a := rfl
theorem at3_1 (a b c : Dt) : atI [a, b, c] 1 = some b := rfl
theorem merged_eq (raw : List Nd) (hl : raw.length < 64) : m__merged [.lst (raw.map nd)] = .ok (.tup ((mrg raw).map nd)) := by
  obtain ⟨d, t2, t3, t4, e, h, hd⟩ := merged_loop (.sh (.lst (raw.map nd))) .no .no .no raw [] [] .no .no .no ⟨by simp, by simp, fun k => rfl, .nil⟩ (by simp; omega)
  obtain ⟨bs, hbs⟩ : ∃ bs, MxZ.sdU MxZ.ltI (raw.map (·.1)) = bs := ⟨_, rfl⟩
  obtain ⟨ts, hts⟩ : ∃ ts, MxZ.sdU MxZ.ltT (raw.map (·.2.1)) = ts := ⟨_, rfl⟩
  have lb : bs.length ≤ raw.length := by rw [← hbs]; have := sdU_len MxZ.ltI (raw.map (·.1)); simpa using this
  have lt : ts.length ≤ raw.length := by rw [← hts]; have := sdU_len MxZ.ltT (raw.map (·.2.1)); simpa using this
  have cI : ∀ s5, xComp (xgName 7) xYes xe__merged_1 [.sh (.lst (raw.map nd)), .ot d, t2, t3, t4, s5, .no, .no] (raw.map nd) [] = .ok (raw.map fun x => Dt.int x.1) := fun s5 => by
    rw [comp_map (f := kI)]
    · rw [List.map_map, List.nil_append]; rfl
    · intro y hy
      obtain ⟨x, _, rfl⟩ := List.mem_map.mp hy
      exact ⟨_, rfl, by simp [xe__merged_1, nd, at3_0, kI]⟩
    · simp; omega
  have cS : ∀ s5, xComp (xgName 7) xYes xe__merged_2 [.sh (.lst (raw.map nd)), .ot d, t2, t3, t4, s5, .no, .no] (raw.map nd) [] = .ok (raw.map fun x => Dt.str x.2.1) := fun s5 => by
    rw [comp_map (f := kS)]
    · rw [List.map_map, List.nil_append]; rfl
    · intro y hy
      obtain ⟨x, _, rfl⟩ := List.mem_map.mp hy
      exact ⟨_, rfl, by simp [xe__merged_2, nd, at3_1, kS]⟩
    · simp; omega
  have sI : dSS [.lst (raw.map fun x => Dt.int x.1)] = .ok (bs.map Dt.int) := by
    have e1 : (raw.map fun x => Dt.int x.1) = (raw.map (·.1)).map Dt.int := by rw [List.map_map]; rfl
    rw [e1]
    simp only [dSS, intsD_map, List.length_map]
    rw [if_pos hl, hbs]
  have sS : dSS [.lst (raw.map fun x => Dt.str x.2.1)] = .ok (ts.map Dt.str) := by
    have e1 : (raw.map fun x => Dt.str x.2.1) = (raw.map (·.2.1)).map Dt.str := by rw [List.map_map]; rfl
    rw [e1]
    cases hr : raw with
    | nil => rw [hr] at hts; rw [← hts]; rfl
    | cons x r =>
      rw [← hr]
      have i0 : intsD ((raw.map (·.2.1)).map Dt.str) = none := by rw [hr]; rfl
      simp only [dSS, i0, strsD_map, List.length_map]
      rw [if_pos hl, hts]
  have ec : xComp2 (xgName 2) xYes (xItems (xVar 6)) (xgName 3) xt__merged_1 xe__merged_3 [3] [.sh (.lst (raw.map nd)), .ot d, .no, .no, t4, .sh (.lst (bs.map Dt.int)), .sh (.lst (ts.map Dt.str)), .no] (bs.map Dt.int) [] = .ok ((mrg raw).map nd) := by
    rw [comp2_map (F := fun b => (rowF (mrg raw) ts b).map nd) (N := 64)]
    · have cx := cross_eq raw
      rw [hbs, hts] at cx
      rw [List.nil_append, ← List.map_flatMap, cx]
    · intro b hb
      refine ⟨?_, [.sh (.lst (raw.map nd)), .ot d, .sh (.int b), .no, t4, .sh (.lst (bs.map Dt.int)), .sh (.lst (ts.map Dt.str)), .no], ts.map Dt.str, rfl, rfl, fun acc ha => ?_⟩
      · unfold rowF
        rw [List.length_map, List.length_map]
        have := List.length_filter_le (fun t => (getG (tb (mrg raw)) [Sum.inl b, Sum.inr t]).isSome) ts
        omega
      · have hg : ∀ t : Str, getG d [Sum.inl b, Sum.inr t] = (getG (tb (mrg raw)) [Sum.inl b, Sum.inr t]).map Dt.int := fun t => h.get _
        rw [comp_fil (p := fun t => (getG (tb (mrg raw)) [Sum.inl b, Sum.inr t]).isSome) (g := fun t => nd (b, t, (getG (tb (mrg raw)) [Sum.inl b, Sum.inr t]).getD 0))]
        · unfold rowF
          rw [List.map_map]; rfl
        · intro t ht
          refine ⟨[.sh (.lst (raw.map nd)), .ot d, .sh (.int b), .sh (.str t), t4, .sh (.lst (bs.map Dt.int)), .sh (.lst (ts.map Dt.str)), .no], rfl, ?_, fun hp => ?_⟩
          · have := hg t
            simp [xt__merged_1, keysOf, this]
          · cases g : getG (tb (mrg raw)) [Sum.inl b, Sum.inr t] with
            | none => rw [g] at hp; cases hp
            | some v =>
              have := hg t
              rw [g] at this
              simp [xe__merged_3, keysOf, this, nd]
        · omega
    · simp; omega
  simp [m__merged, funD, runD, xs__merged, List.replicate, dItems, e, wipeD, cI, cS, sI, sS, ec]
end Mx
namespace Mx
open PySem PySem.Spec PyProof.Rows L2
/-! ### a dish as a value -/
theorem nfD : Str.ofString "name" ≠ Str.ofString "first" ∧ Str.ofString "name" ≠ Str.ofString "second" ∧ Str.ofString "name" ≠ Str.ofString "needs" ∧ Str.ofString "first" ≠ Str.ofString "second" ∧ Str.ofString "first" ≠ Str.ofString "needs" ∧ Str.ofString "second" ≠ Str.ofString "needs" := by decide +kernel
def dish (n : Str) (a b : Int) (m : List Nd) : Dt := .ins "Dish" [("name", .str n), ("first", .int a), ("second", .int b), ("needs", .tup (m.map nd))]
section
variable (n : Str) (a b : Int) (m : List Nd)
@[simp] theorem d_name : dFld "Dish" "name" (dish n a b m) = .ok (.str n) := by
  unfold dish; rw [dFld_ins, if_pos rfl]; simp [List.lookup]
@[simp] theorem d_first : dFld "Dish" "first" (dish n a b m) = .ok (.int a) := by
  have nf := nfD
  have e : (("first" : String) : Str) ≠ (("name" : String) : Str) := Ne.symm nf.1
  unfold dish; rw [dFld_ins, if_pos rfl]
  simp [List.lookup, beq_false_of_ne (Ne.symm nf.1)]
@[simp] theorem d_second : dFld "Dish" "second" (dish n a b m) = .ok (.int b) := by
  have nf := nfD
  unfold dish; rw [dFld_ins, if_pos rfl]
  simp [List.lookup, beq_false_of_ne (Ne.symm nf.2.1), beq_false_of_ne (Ne.symm nf.2.2.2.1)]
@[simp] theorem d_needs : dFld "Dish" "needs" (dish n a b m) = .ok (.tup (m.map nd)) := by
  have nf := nfD
  unfold dish; rw [dFld_ins, if_pos rfl]
  simp [List.lookup, beq_false_of_ne (Ne.symm nf.2.2.1), beq_false_of_ne (Ne.symm nf.2.2.2.2.1), beq_false_of_ne (Ne.symm nf.2.2.2.2.2)]
theorem dish_cln : (dish n a b m).cln = true := by
  unfold dish
  have : clnL (m.map nd) = true := clnL_all fun d hd => by
    obtain ⟨x, _, rfl⟩ := List.mem_map.mp hd
    simp [nd]
  simp [this]
end
theorem init_eq (a b c d : Dt) (v : Dt) (h1 : m__check_dish [a, b] = .ok v) (w : Dt) (h2 : m__merged [b] = .ok w) : m_Dish___init__ [a, b, c, d] = .ok [("name", a), ("first", c), ("second", d), ("needs", w)] := by
  have nf := nfD
  simp [m_Dish___init__, runI, xs_Dish___init__, h1, h2, List.replicate, putG, nf]
theorem init_ex (a b c d : Dt) (k : Str) (fs : List (Str × Dt)) (h1 : m__check_dish [a, b] = .ex k fs) : m_Dish___init__ [a, b, c, d] = .ex k fs := by
  simp [m_Dish___init__, runI, xs_Dish___init__, h1, List.replicate]
/-- a dish that may be made -/
def OkD (n : Str) (raw : List Nd) : Prop := Nm n ∧ raw ≠ [] ∧ raw.length < 64 ∧ ∀ x ∈ raw, 0 ≤ x.1 ∧ Nm x.2.1 ∧ 1 ≤ x.2.2
theorem okD_init {n : Str} {raw : List Nd} (h : OkD n raw) (a b : Int) : m_Dish___init__ [.str n, .lst (raw.map nd), .int a, .int b] = .ok [("name", .str n), ("first", .int a), ("second", .int b), ("needs", .tup ((mrg raw).map nd))] := by
  obtain ⟨h1, h2, h3, h4⟩ := h
  have e := check_dish_eq n raw (by have := h1.2.1; omega) fun x hx => by have := (h4 x hx).2.1.2.1; omega
  rw [if_pos ⟨nmB_of h1, h2, List.all_eq_true.mpr fun x hx => by
    obtain ⟨q1, q2, q3⟩ := h4 x hx
    simp [ndB, q1, q3, nmB_of q2]⟩] at e
  exact init_eq _ _ _ _ _ e _ (merged_eq raw h3)
theorem kit_ib : kitB "int" "bool" = some false := by decide +kernel
theorem isi_ib (i : Int) : dIsi [.int i, .ty "bool"] = .ok (.bl false) := by
  show (opt (kitB "int" "bool")).bind (fun b => R.ok (Dt.bl b)) = R.ok (Dt.bl false)
  rw [kit_ib]; rfl
theorem isi_ii (i : Int) : dIsi [.int i, .ty "int"] = .ok (.bl true) := by simp [dIsi, Dt.tyN, kitB]
theorem is_int (i : Int) : m__law_is_integer [.int i] = .ok (.bl true) := by
  simp [m__law_is_integer, funD, runD, xs__law_is_integer, isi_ib, isi_ii]
theorem dNe_self {d : Dt} (h : cmpOk d = true) : dNe d d = .ok (.bl false) := by
  have : dEqv d d = true := SeqAt.eqv_refl_plain _ (py_plain d)
  simp [dNe, h, this]
theorem dEq_self {d : Dt} (h : cmpOk d = true) : dEq d d = .ok (.bl true) := by
  have : dEqv d d = true := SeqAt.eqv_refl_plain _ (py_plain d)
  simp [dEq, h, this]
theorem nd_fl (x : Nd) : (nd x).fl 1 := fl_tup fun d hd => by
  simp at hd
  rcases hd with rfl | rfl | rfl
  · exact fl_int _ _
  · exact fl_str _ _
  · exact fl_int _ _
theorem isi_tup (l : List Dt) : dIsi [.tup l, .ty "tuple"] = .ok (.bl true) := by simp [dIsi, Dt.tyN, kitB]
theorem isi_str (l : Str) : dIsi [.str l, .ty "str"] = .ok (.bl true) := by simp [dIsi, Dt.tyN, kitB]
/-! ### one statement after the other -/
theorem seq_nx' {s r : XS} {D D' : Ds} {o : Out} (h1 : s D = .nx D') (h2 : r D' = o) : xsSeq s r D = o := by
  show Out.seq (s D) r = o
  rw [h1]; exact h2
theorem fun_rt {k n : Nat} {xs : XS} {ds : List Dt} {D : Ds} {d : Dt} (hl : ds.length = k) (hD : ds.map Sl.sh ++ List.replicate (n - ds.length) .no = D) (h : xs D = .rt d) : funD k n xs ds = .ok d := by
  unfold funD runD
  rw [if_pos hl, hD, h]
theorem frz_nx {s : XS} {i : Nat} {D D1 : Ds} {o : Out} (hf : Frz i D = D1) (h : s D1 = o) : xsFrz i s D = o := by
  show s (Frz i D) = o
  rw [hf]; exact h
theorem dish_is_loop (n : Str) (a b : Int) (m : List Nd) : ∃ s4 s5, xLoop (xgName 4) xb__law_dish_is_1 (rgD 0 m.length) [.sh (dish n a b m), .sh (.str n), .sh (.lst [.int a, .int b]), .sh (.lst (m.map nd)), .no, .no] = .nx [.sh (dish n a b m), .sh (.str n), .sh (.lst [.int a, .int b]), .sh (.lst (m.map nd)), s4, s5] := by
  obtain ⟨D', e, hI⟩ := loop_inv (xg := xgName 4) (xb := xb__law_dish_is_1)
    (fun i D => ∃ s4 s5, D = [.sh (dish n a b m), .sh (.str n), .sh (.lst [.int a, .int b]), .sh (.lst (m.map nd)), s4, s5])
    (rgD 0 m.length) [.sh (dish n a b m), .sh (.str n), .sh (.lst [.int a, .int b]), .sh (.lst (m.map nd)), .no, .no]
    ⟨_, _, rfl⟩ (fun i d D hd hI => by
      obtain ⟨s4, s5, rfl⟩ := hI
      obtain ⟨hi, rfl⟩ := rgD_get hd
      obtain ⟨x, hx⟩ : ∃ x, m[i]? = some x := ⟨_, List.getElem?_eq_getElem hi⟩
      have a1 := atI_nd hx
      have ns := dNe_self (fl_cmp (nd_fl x) (by decide))
      refine ⟨_, [.sh (dish n a b m), .sh (.str n), .sh (.lst [.int a, .int b]), .sh (.lst (m.map nd)), .sh (.int (0 + (i : Int))), .sh (nd x)], rfl, ?_, _, _, rfl⟩
      have l3 : dLen [nd x] = .ok (.int 3) := rfl
      have it' : dIsi [nd x, .ty "tuple"] = .ok (.bl true) := isi_tup _
      simp [xb__law_dish_is_1, a1, ns, it', l3, isi_str, is_int])
  obtain ⟨s4, s5, rfl⟩ := hI
  exact ⟨s4, s5, e⟩
theorem dish_is_gen (d : Dt) (n : Str) (a b : Int) (mm rg : List Dt) (L : Int) (s4 s5 : Sl) (f1 : dFld "Dish" "name" d = .ok (.str n)) (f2 : dFld "Dish" "first" d = .ok (.int a)) (f3 : dFld "Dish" "second" d = .ok (.int b))
    (f4 : dFld "Dish" "needs" d = .ok (.tup mm)) (l1 : dLen [.tup mm] = .ok (.int L)) (l2 : dLen [.lst mm] = .ok (.int L)) (hr : dRng1 [.int L] = .ok rg)
    (e : xLoop (xgName 4) xb__law_dish_is_1 rg [.sh d, .sh (.str n), .sh (.lst [.int a, .int b]), .sh (.lst mm), .no, .no] = .nx [.sh d, .sh (.str n), .sh (.lst [.int a, .int b]), .sh (.lst mm), s4, s5]) :
    m__law_dish_is [d, .str n, .lst [.int a, .int b], .lst mm] = .ok (.bl true) := by
  have h1 : atI [Dt.int a, Dt.int b] 0 = some (.int a) := rfl
  have h2 : atI [Dt.int a, Dt.int b] 1 = some (.int b) := rfl
  have it := isi_tup mm
  refine fun_rt (D := [.sh d, .sh (.str n), .sh (.lst [.int a, .int b]), .sh (.lst mm), .no, .no]) rfl rfl ?_
  refine seq_nx' (D' := [.sh d, .sh (.str n), .sh (.lst [.int a, .int b]), .sh (.lst mm), .no, .no]) (by simp [f1, isi_str]) ?_
  refine seq_nx' (D' := [.sh d, .sh (.str n), .sh (.lst [.int a, .int b]), .sh (.lst mm), .no, .no]) (by simp [f2, f3, is_int]) ?_
  refine seq_nx' (D' := [.sh d, .sh (.str n), .sh (.lst [.int a, .int b]), .sh (.lst mm), .no, .no]) (by simp [f2, f3, h1, h2]) ?_
  refine seq_nx' (D' := [.sh d, .sh (.str n), .sh (.lst [.int a, .int b]), .sh (.lst mm), .no, .no]) (by simp [f4, it, -dLen_tup, -dLen_lst, l1, l2]) ?_
  refine seq_nx' (D' := [.sh d, .sh (.str n), .sh (.lst [.int a, .int b]), .sh (.lst mm), s4, s5]) (by simp [-dLen_tup, -dLen_lst, l2, hr, e]) ?_
  rfl
theorem dish_is_eq (n : Str) (a b : Int) (m : List Nd) (hm : m.length ≤ 1000) : m__law_dish_is [dish n a b m, .str n, .lst [.int a, .int b], .lst (m.map nd)] = .ok (.bl true) := by
  have hr := dRng1_int (j := (m.length : Int)) ⟨by omega, by omega⟩
  rw [Int.toNat_natCast] at hr
  obtain ⟨s4, s5, e⟩ := dish_is_loop n a b m
  exact dish_is_gen (dish n a b m) n a b (m.map nd) (rgD 0 m.length) m.length s4 s5 (d_name n a b m) (d_first n a b m) (d_second n a b m) (d_needs n a b m) (by rw [dLen_tup, List.length_map]) (by rw [dLen_lst, List.length_map]) hr e
end Mx
namespace Mx
open PySem PySem.Spec PyProof.Rows L2
/-! ### sorted lists by what is looked up -/
abbrev ky (i : Int) (s : Str) : List Key := [.inl i, .inr s]
theorem kd_ky (x : Nd) : kd x = ky x.1 x.2.1 := rfl
theorem srt_keys {m : List Nd} (h : Srt m) : (m.map kd).Nodup := List.pairwise_map.mpr (h.imp fun {a b} hab e => by rw [(ltN_kd e).2, ltN_irr] at hab; cases hab)
theorem getG_some {m : List Nd} {i : Int} {s : Str} {v : Int} (h : getG (tb m) (ky i s) = some v) : (i, s, v) ∈ m := by
  induction m with
  | nil => cases h
  | cons y r ih =>
    simp only [tb, List.map_cons, getG] at h
    split at h
    · rename_i e
      obtain ⟨y1, y2, y3⟩ := y
      simp [kd] at e
      obtain ⟨rfl, rfl⟩ := e
      simp at h
      subst h
      exact List.mem_cons_self
    · exact List.mem_cons_of_mem _ (ih h)
theorem srt_ext : ∀ {l m : List Nd}, Srt l → Srt m → (∀ i s, getG (tb l) (ky i s) = getG (tb m) (ky i s)) → l = m
  | [], [], _, _, _ => rfl
  | [], y :: r, _, hm, h => by
    have := getG_mem hm y List.mem_cons_self
    rw [kd_ky, ← h] at this
    cases this
  | x :: l, [], hl, _, h => by
    have := getG_mem hl x List.mem_cons_self
    rw [kd_ky, h] at this
    cases this
  | x :: l, y :: m, hl, hm, h => by
    obtain ⟨l1, l2⟩ := List.pairwise_cons.mp hl
    obtain ⟨m1, m2⟩ := List.pairwise_cons.mp hm
    have hx : x ∈ y :: m := by
      have := getG_mem hl x List.mem_cons_self
      rw [kd_ky, h] at this
      exact getG_some this
    have hy : y ∈ x :: l := by
      have := getG_mem hm y List.mem_cons_self
      rw [kd_ky, ← h] at this
      exact getG_some this
    have e : x = y := by
      rcases List.mem_cons.mp hx with e | hx
      · exact e
      · rcases List.mem_cons.mp hy with e | hy
        · exact e.symm
        · have a := m1 x hx
          have b := l1 y hy
          rw [swoN.asym _ _ a] at b; cases b
    subst e
    congr 1
    refine srt_ext l2 m2 fun i s => ?_
    have := h i s
    simp only [tb, List.map_cons, getG] at this
    by_cases k : kd x = ky i s
    · have n1 : getG (tb l) (ky i s) = none := by rw [← k]; exact tb_none l1
      have n2 : getG (tb m) (ky i s) = none := by rw [← k]; exact tb_none m1
      rw [n1, n2]
    · rw [if_neg k, if_neg k] at this
      exact this
theorem fold_nodup : ∀ (l m : List Nd), Srt m → (l.map kd).Nodup → (∀ x ∈ l, getG (tb m) (kd x) = none) → ∀ k, getG (tb (l.foldl (fun m x => insN x m) m)) k = (getG (tb m) k).or (getG (tb l) k)
  | [], m, _, _, _, k => by simp [tb, getG]
  | x :: l, m, hm, hn, hd, k => by
    simp only [List.map_cons, List.nodup_cons] at hn
    have hx := hd x List.mem_cons_self
    have ih := fold_nodup l (insN x m) (srt_ins x hm) hn.2 (fun y hy => by
      rw [getG_ins x hm, if_neg (fun (e : kd y = kd x) => hn.1 (e ▸ List.mem_map_of_mem hy))]
      exact hd y (List.mem_cons_of_mem _ hy)) k
    rw [List.foldl_cons, ih, getG_ins x hm, hx]
    simp only [tb, List.map_cons, getG]
    by_cases e : k = kd x
    · rw [if_pos e, if_pos e.symm, e]
      have := hx
      simp only [tb] at this
      rw [this]
      simp
    · rw [if_neg e, if_neg (Ne.symm e)]
theorem mrg_get {l : List Nd} (h : (l.map kd).Nodup) (k : List Key) : getG (tb (mrg l)) k = getG (tb l) k := by
  have := fold_nodup l [] .nil h (fun _ _ => rfl) k
  exact this
def rfx (B : Int) (x : Nd) : Nd := (B - x.1, x.2.1, x.2.2)
def shx (F : Int) (x : Nd) : Nd := (x.1 - F, x.2.1, x.2.2)
theorem get_rfx (B : Int) (i : Int) (s : Str) : ∀ m : List Nd, getG (tb (m.map (rfx B))) (ky i s) = getG (tb m) (ky (B - i) s)
  | [] => rfl
  | x :: m => by
    have ih := get_rfx B i s m
    simp only [tb, List.map_cons, getG] at ih ⊢
    rw [ih]
    have : kd (rfx B x) = ky i s ↔ kd x = ky (B - i) s := by
      simp only [kd, rfx, ky, List.cons.injEq, Sum.inl.injEq, Sum.inr.injEq, and_true]
      constructor <;> rintro ⟨a, b⟩ <;> exact ⟨by omega, b⟩
    by_cases e : kd x = ky (B - i) s
    · rw [if_pos e, if_pos (this.mpr e)]; rfl
    · rw [if_neg e, if_neg (fun z => e (this.mp z))]
theorem get_shx (F : Int) (i : Int) (s : Str) : ∀ m : List Nd, getG (tb (m.map (shx F))) (ky i s) = getG (tb m) (ky (i + F) s)
  | [] => rfl
  | x :: m => by
    have ih := get_shx F i s m
    simp only [tb, List.map_cons, getG] at ih ⊢
    rw [ih]
    have : kd (shx F x) = ky i s ↔ kd x = ky (i + F) s := by
      simp only [kd, shx, ky, List.cons.injEq, Sum.inl.injEq, Sum.inr.injEq, and_true]
      constructor <;> rintro ⟨a, b⟩ <;> exact ⟨by omega, b⟩
    by_cases e : kd x = ky (i + F) s
    · rw [if_pos e, if_pos (this.mpr e)]; rfl
    · rw [if_neg e, if_neg (fun z => e (this.mp z))]
theorem nodup_rfx {B : Int} {m : List Nd} (h : Srt m) : ((m.map (rfx B)).map kd).Nodup := by
  rw [List.map_map]
  refine List.pairwise_map.mpr (h.imp fun {a b} hab e => ?_)
  have : kd a = kd b := by
    simp [kd, rfx] at e
    simp only [kd]
    rw [show a.1 = b.1 by omega, e.2]
  rw [(ltN_kd this).2, ltN_irr] at hab; cases hab
theorem ltN_shx (F : Int) (x y : Nd) : ltN (shx F x) (shx F y) = ltN x y := by
  rw [ltN_iN, ltN_iN]
  unfold iN shx MxT.lexIS
  simp only
  by_cases e : x.1 = y.1
  · rw [if_pos e, if_pos (by omega)]
  · rw [if_neg e, if_neg (by omega)]
    exact decide_eq_decide.mpr (by omega)
theorem srt_shx {F : Int} {m : List Nd} (h : Srt m) : Srt (m.map (shx F)) := List.pairwise_map.mpr (h.imp fun {a b} hab => by rw [ltN_shx]; exact hab)
theorem ltN_le {x y : Nd} (h : ltN x y = true) : x.1 ≤ y.1 := by
  rw [ltN_iN] at h
  unfold iN MxT.lexIS at h
  simp only at h
  split at h
  · omega
  · have := of_decide_eq_true h
    omega
/-- turned twice -/
theorem twice {m : List Nd} (h : Srt m) (B F : Int) : mrg ((mrg (m.map (rfx B))).map (rfx (B - F))) = m.map (shx F) := by
  refine srt_ext (srt_mrg _) (srt_shx h) fun i s => ?_
  rw [mrg_get (nodup_rfx (srt_mrg _)), get_rfx, mrg_get (nodup_rfx h), get_rfx, get_shx]
  congr 2
  omega
end Mx
namespace Mx
open PySem PySem.Spec PyProof.Rows L2
def GN (x : Nd) : Prop := 0 ≤ x.1 ∧ Nm x.2.1 ∧ 1 ≤ x.2.2
theorem gn_ins {x : Nd} (hx : GN x) : ∀ {m : List Nd}, (∀ y ∈ m, GN y) → ∀ z ∈ insN x m, GN z
  | [], _, z, hz => by
    simp [insN] at hz
    subst hz
    exact hx
  | y :: r, h, z, hz => by
    unfold insN at hz
    split at hz
    · rcases List.mem_cons.mp hz with rfl | hz
      · exact h _ List.mem_cons_self
      · exact gn_ins hx (fun w hw => h w (List.mem_cons_of_mem _ hw)) z hz
    · split at hz
      · rcases List.mem_cons.mp hz with rfl | hz
        · obtain ⟨a, b, c⟩ := hx
          obtain ⟨a', b', c'⟩ := h y List.mem_cons_self
          exact ⟨a, b, by show 1 ≤ y.2.2 + x.2.2; omega⟩
        · exact h z (List.mem_cons_of_mem _ hz)
      · rcases List.mem_cons.mp hz with rfl | hz
        · exact hx
        · exact h z hz
theorem gn_fold : ∀ (l m : List Nd), (∀ x ∈ l, GN x) → (∀ y ∈ m, GN y) → ∀ z ∈ l.foldl (fun m x => insN x m) m, GN z
  | [], m, _, h, z, hz => h z hz
  | x :: l, m, hl, h, z, hz => gn_fold l (insN x m) (fun y hy => hl y (List.mem_cons_of_mem _ hy)) (gn_ins (hl x List.mem_cons_self) h) z hz
theorem mrg_ne {l : List Nd} (h : l ≠ []) : mrg l ≠ [] := by
  have f : ∀ (l m : List Nd), m ≠ [] → l.foldl (fun m x => insN x m) m ≠ [] := by
    intro l
    induction l with
    | nil => exact fun m h => h
    | cons x l ih =>
      intro m hm
      apply ih
      cases m with
      | nil => exact absurd rfl hm
      | cons y r =>
        show insN x (y :: r) ≠ []
        unfold insN
        split
        · simp
        · split <;> simp
  cases l with
  | nil => exact absurd rfl h
  | cons x l => exact f l (insN x []) (by simp [insN])
theorem mrg_id {m : List Nd} (h : Srt m) : mrg m = m := srt_ext (srt_mrg m) h fun i s => mrg_get (srt_keys h) _
end Mx
namespace Mx
open PySem PySem.Spec PyProof.Rows L2
/-! ### the kitchen drawn -/
structure LD where
  name : Str
  a : Int
  b : Int
  raw : List Nd
def LD.m (d : LD) : List Nd := mrg d.raw
def ldD (d : LD) : Dt := .lst [.str d.name, .int d.a, .int d.b, .lst (d.m.map nd)]
structure LK where
  names : List Str
  nums : List Int
  menu : List LD
def lkD (k : LK) : Dt := .lst [.lst (k.names.map Dt.str), .lst (k.nums.map Dt.int), .lst (k.menu.map ldD)]
structure OkLD (T : List Str) (d : LD) : Prop where
  nm : Nm d.name
  ne : d.raw ≠ []
  len : d.raw.length ≤ 4
  wa : d.a.natAbs ≤ 10 ^ 13
  wb : d.b.natAbs ≤ 10 ^ 13
  ok : ∀ x ∈ d.raw, 0 ≤ x.1 ∧ x.1 ≤ 100 ∧ x.2.1 ∈ T ∧ 1 ≤ x.2.2 ∧ x.2.2 ≤ 1000
structure OkLK (k : LK) : Prop where
  len : k.nums.length = k.names.length
  few : k.names.length ≤ 6
  nd : k.names.Nodup
  nms : ∀ s ∈ k.names, Nm s
  num : ∀ i ∈ k.nums, 0 ≤ i ∧ i ≤ 1000
  menu : k.menu.length ≤ 8
  dish : ∀ d ∈ k.menu, OkLD k.names d
theorem worth_eq (c : Int) (s : Bool) : ∃ w : Int, m__law_worth [.int c, .bl s] = .ok (.int w) ∧ w.natAbs ≤ 10 ^ 13 := by
  have p1 : CPow 10 12 := by unfold CPow; omega
  have dr := draw_eq c 0 19 (by decide) (by decide) (by decide)
  cases s with
  | true =>
    have := draw_lo c 0 (m := 19) (by decide)
    have := draw_hi c 0 (m := 19) (by decide)
    refine ⟨draw c 0 19 - 9, fun_rt (D := [.sh (.int c), .sh (.bl true)]) rfl rfl ?_, by omega⟩
    simp [xs__law_worth, dr]
  | false =>
    have := fmod_bd (c * 1000003 + 7919) (b := 2000000000001) (by decide)
    refine ⟨(c * 1000003 + 7919).fmod 2000000000001 - 1000000000000, fun_rt (D := [.sh (.int c), .sh (.bl false)]) rfl rfl ?_, by omega⟩
    simp [xs__law_worth, p1]
theorem cut_to (l : List Dt) {i : Int} (h0 : 0 ≤ i) : cutD l none (some i) = l.take i.toNat := by
  unfold cutD
  have e1 : HT.sIx l.length l.length (some i) = min i.toNat l.length := by
    simp [HT.sIx]
    omega
  have e2 : HT.sIx l.length 0 none = 0 := rfl
  rw [e1, e2, List.drop_zero, Nat.sub_zero, List.take_eq_take_iff]
  simp
theorem late_eq (D0 : Ds) (raw : List Nd) (hl : raw.length ≤ 1000) (h10 : ∀ d, ∃ D1, xgName 10 d D0 = .ok D1 ∧ D1[10]? = some (.sh d)) :
    xComp (xgName 10) xYes xe__law_broad_2 D0 (raw.map nd) [] = .ok ((raw.map fun x => (x.1 + 70, x.2.1, x.2.2)).map nd) := by
  have c := comp_map (xg := xgName 10) (xe := xe__law_broad_2) (D0 := D0) (f := fun d => match d with
    | .tup [.int i, .str s, .int j] => .tup [.int (i + 70), .str s, .int j]
    | d => d) (raw.map nd) [] (fun d hd => by
      obtain ⟨x, _, rfl⟩ := List.mem_map.mp hd
      obtain ⟨D1, e1, e2⟩ := h10 (nd x)
      exact ⟨D1, e1, by simp [xe__law_broad_2, e2]; rfl⟩) (by simp; omega)
  rw [c, List.nil_append, List.map_map, List.map_map]
  rfl
theorem seqT_nx' {s : XS} {r : XRT} {D D' : Ds} {o : OutT} (h1 : s D = .nx D') (h2 : r D' = o) : xtSeq s r D = o := by
  show (s D).seqT r = _
  rw [h1]; exact h2
def lkT (k : LK) : Ow := .ol [.sh (.lst (k.names.map Dt.str)), .sh (.lst (k.nums.map Dt.int)), .ol ((k.menu.map ldD).map Ow.sh)]
theorem broad_body (ns : List Int) {least cell many : Int} {names : List Str} (hn : names.length = 7) (hnm : ∀ s ∈ names, Nm s) (m1 : 1 ≤ many) (m2 : many ≤ 6) {k : Int} (k0 : 0 ≤ k) (k8 : k < 8) (s5 : Sl) (M : List LD) (hM : M.length ≤ 100) (s8 s9 s10 : Sl) :
    ∃ d : LD, OkLD (names.take many.toNat) d ∧ ∃ t8 t9 t10, xb__law_broad_1 [.sh (.frl (ns.map Dt.int)), .sh (.int least), .sh (.int cell), .sh (.int many), .sh (.lst (names.map Dt.str)), s5, .ol (M.map ldD), .sh (.int k), s8, s9, s10] =
      .nx [.sh (.frl (ns.map Dt.int)), .sh (.int least), .sh (.int cell), .sh (.int many), .sh (.lst (names.map Dt.str)), s5, .ol ((M ++ [d]).map ldD), .sh (.int k), t8, t9, t10] := by
  have d3 := draw_eq cell (3 + k) 4 (by omega) (by omega) (by decide)
  have l3 := draw_lo cell (3 + k) (m := 4) (by decide)
  have g3 := draw_hi cell (3 + k) (m := 4) (by decide)
  generalize draw cell (3 + k) 4 = v3 at *
  have d11 := draw_eq cell 11 8 (by decide) (by decide) (by decide)
  generalize draw cell 11 8 = v11 at *
  have ct := cut_to (names.map Dt.str) (i := many) (by omega)
  have em : (names.map Dt.str).take many.toNat = (names.take many.toNat).map Dt.str := by rw [List.map_take]
  rw [em] at ct
  have tl : (names.take many.toNat).length = many.toNat := by rw [List.length_take]; omega
  obtain ⟨raw, er, rl, rg⟩ := rawlist_eq ns (3 + 4 * k) (1 + v3) (names.take many.toNat) (by omega) (by omega) (by omega) (by omega) (by omega)
  generalize names.take many.toNat = T at *
  obtain ⟨w1, e1, b1⟩ := worth_eq (pick ns (3 + k)) true
  obtain ⟨w2, e2, b2⟩ := worth_eq (pick ns (4 + k)) false
  have p3 := pick_eq ns (3 + k) (by omega)
  have p4 := pick_eq ns (4 + k) (by omega)
  have c4 : CMul 4 k := .inl (by omega)
  have mx : (if (1 : Int) < many then many else 1) = many := by split <;> omega
  have fm : (k + 3).fmod 7 = (k + 3) % 7 := by rw [Int.fmod_eq_emod_of_nonneg _ (by decide)]
  obtain ⟨nm, hnm1, enm⟩ := ix_strs (l := names) (i := (k + 3) % 7) (by omega) (by omega)
  obtain ⟨raw2, hraw2⟩ : ∃ r2 : List Nd, r2 = if k = 0 ∧ v11 = 0 then raw.map (fun x => (x.1 + 70, x.2.1, x.2.2)) else raw := ⟨_, rfl⟩
  have r2l : raw2.length = raw.length := by rw [hraw2]; split <;> simp
  have r2g : ∀ x ∈ raw2, 0 ≤ x.1 ∧ x.1 ≤ 100 ∧ x.2.1 ∈ T ∧ 1 ≤ x.2.2 ∧ x.2.2 ≤ 1000 := fun x hx => by
    rw [hraw2] at hx
    split at hx
    · obtain ⟨y, hy, rfl⟩ := List.mem_map.mp hx
      obtain ⟨h1, h2, h3, h4, h5⟩ := rg y hy
      exact ⟨by show 0 ≤ y.1 + 70; omega, by show y.1 + 70 ≤ 100; omega, h3, h4, h5⟩
    · obtain ⟨h1, h2, h3, h4, h5⟩ := rg x hx
      exact ⟨h1, by omega, h3, h4, h5⟩
  have me := law_merge_eq raw2 (by omega)
  refine ⟨⟨nm, w1, w2, raw2⟩, ⟨hnm nm hnm1, fun z => by
    have z : raw2 = [] := z
    rw [z] at r2l; simp at r2l; omega, by show raw2.length ≤ 4; omega, b1, b2, r2g⟩, .sh (.lst (raw2.map nd)), .sh (.lst [.int w1, .int w2]), s10, ?_⟩
  generalize hF : Dt.frl (ns.map Dt.int) = F at *
  refine seq_nx' (D' := [.sh F, .sh (.int least), .sh (.int cell), .sh (.int many), .sh (.lst (names.map Dt.str)), s5, .ol (M.map ldD), .sh (.int k), .sh (.lst (raw.map nd)), s9, s10]) (by
    simp [c4, d3, dSlA, mx, ct, er]) ?_
  refine seq_nx' (D' := [.sh F, .sh (.int least), .sh (.int cell), .sh (.int many), .sh (.lst (names.map Dt.str)), s5, .ol (M.map ldD), .sh (.int k), .sh (.lst (raw.map nd)), .sh (.lst [.int w1, .int w2]), s10]) (by
    simp [p3, p4, e1, e2]) ?_
  refine seq_nx' (D' := [.sh F, .sh (.int least), .sh (.int cell), .sh (.int many), .sh (.lst (names.map Dt.str)), s5, .ol (M.map ldD), .sh (.int k), .sh (.lst (raw2.map nd)), .sh (.lst [.int w1, .int w2]), s10]) ?_ ?_
  · by_cases z1 : k = 0
    · by_cases z2 : v11 = 0
      · have le := late_eq [.sh F, .sh (.int least), .sh (.int cell), .sh (.int many), .sh (.lst (names.map Dt.str)), s5, .ol (M.map ldD), .sh (.int k), .sh (.lst (raw.map nd)), .sh (.lst [.int w1, .int w2]), .no] raw (by omega) (fun d => ⟨_, rfl, rfl⟩)
        have hw : wipeD [.sh F, .sh (.int least), .sh (.int cell), .sh (.int many), .sh (.lst (names.map Dt.str)), s5, .ol (M.map ldD), .sh (.int k), .sh (.lst (raw.map nd)), .sh (.lst [.int w1, .int w2]), s10] [10] = [.sh F, .sh (.int least), .sh (.int cell), .sh (.int many), .sh (.lst (names.map Dt.str)), s5, .ol (M.map ldD), .sh (.int k), .sh (.lst (raw.map nd)), .sh (.lst [.int w1, .int w2]), .no] := rfl
        rw [if_pos ⟨z1, z2⟩] at hraw2
        rw [← hraw2] at le
        have ct : (xAnd (xTest (x2 dEq (xVarB 7) (xC (.int 0)))) (xTest (x2 dEq (xCall m__law_draw (xCons (xVar 2) (xCons (xC (.int 11)) (xCons (xC (.int 8)) xNil)))) (xC (.int 0))))) [.sh F, .sh (.int least), .sh (.int cell), .sh (.int many), .sh (.lst (names.map Dt.str)), s5, .ol (M.map ldD), .sh (.int k), .sh (.lst (raw.map nd)), .sh (.lst [.int w1, .int w2]), s10] = .ok true := by simp [z1, d11, z2]
        rw [xsIf, ct]
        simp only [out_ok, if_true, xsAsg, xL, xLc, xItems, xVar_ap, List.getElem?_cons_succ, List.getElem?_cons_zero, shO_sh, bind_ok, dItems_lst, hw, le]
        rfl
      · rw [if_neg (fun z => z2 z.2)] at hraw2
        subst hraw2
        simp [z1, d11, z2]
    · rw [if_neg (fun z => z1 z.1)] at hraw2
      subst hraw2
      simp [z1]
  · have lM : M.length < 1000000 := by omega
    have i0 : atI [Dt.int w1, .int w2] 0 = some (.int w1) := rfl
    have i1 : atI [Dt.int w1, .int w2] 1 = some (.int w2) := rfl
    simp [fm, enm, me, lM, ldD, LD.m, i0, i1]
theorem broad_eq (ns : List Int) {least : Int} (b0 : 0 ≤ least) (b1 : least ≤ 1) : ∃ k : LK, OkLK k ∧ least ≤ (k.names.length : Nat) ∧ (∃ nm7 : List Str, m__law_namelist [.int (pick ns 1), .int 7] = .ok (.lst (nm7.map Dt.str)) ∧ ∀ s ∈ k.names, s ∈ nm7) ∧ m__law_broad [.frl (ns.map Dt.int), .int least] = .ok (lkD k) ∧ mT__law_broad [.frl (ns.map Dt.int), .int least] = .ok (lkT k) := by
  have p0 := pick_eq ns 0 (by decide)
  have p1 := pick_eq ns 1 (by decide)
  have p2 := pick_eq ns 2 (by decide)
  generalize pick ns 0 = cell at *
  generalize pick ns 1 = c1 at *
  generalize pick ns 2 = c2 at *
  have d0 := draw_eq cell 0 (7 - least) (by decide) (by decide) (by omega)
  have l0 := draw_lo cell 0 (m := 7 - least) (by omega)
  have g0 := draw_hi cell 0 (m := 7 - least) (by omega)
  generalize draw cell 0 (7 - least) = v0 at *
  obtain ⟨many, hmany⟩ : ∃ m : Int, m = least + v0 := ⟨_, rfl⟩
  have m0 : 0 ≤ many ∧ many ≤ 6 ∧ least ≤ many := by omega
  obtain ⟨names, en, nl, nmN, nnd⟩ := namelist_eq c1 7 (by decide) (by decide)
  have d1 := draw_eq cell 1 2 (by decide) (by decide) (by decide)
  have l1 := draw_lo cell 1 (m := 2) (by decide)
  have g1 := draw_hi cell 1 (m := 2) (by decide)
  generalize draw cell 1 2 = v1 at *
  obtain ⟨wd, hwd⟩ : ∃ w : Int, w = if v1 = 0 then 4 else 1001 := ⟨_, rfl⟩
  have wd1 : 1 ≤ wd ∧ wd ≤ 1001 := by rw [hwd]; split <;> omega
  have wi : atI [Dt.int 4, .int 1001] v1 = some (.int wd) := by
    rw [hwd]
    have : v1 = 0 ∨ v1 = 1 := by omega
    rcases this with rfl | rfl <;> rfl
  have d2 := draw_eq cell 2 9 (by decide) (by decide) (by decide)
  have l2 := draw_lo cell 2 (m := 9) (by decide)
  have g2 := draw_hi cell 2 (m := 9) (by decide)
  generalize draw cell 2 9 = v2 at *
  obtain ⟨mn, hmn⟩ : ∃ m : Int, m = if many < 1 then many else 1 := ⟨_, rfl⟩
  have hr1 : dRng1 [.int many] = .ok (rgD 0 many.toNat) := dRng1_int (j := many) ⟨by omega, by omega⟩
  have c9 : CMul v2 mn := .inl (by omega)
  have mul : 0 ≤ v2 * mn ∧ v2 * mn ≤ 8 ∧ (many = 0 → v2 * mn = 0) := by
    rw [hmn]
    split
    · have : many = 0 := by omega
      rw [this]; simp
    · simp; omega
  have hr2 : dRng1 [.int (v2 * mn)] = .ok (rgD 0 (v2 * mn).toNat) := dRng1_int (j := v2 * mn) ⟨by omega, by omega⟩
  -- the numbers
  have cn := comp_map (xg := xgName 7) (xe := xe__law_broad_1) (D0 := [.sh (.frl (ns.map Dt.int)), .sh (.int least), .sh (.int cell), .sh (.int many), .sh (.lst (names.map Dt.str)), .no, .no, .no, .no, .no, .no]) (f := fun d => match d with
    | .int i => .int (draw c2 i wd)
    | d => d) (rgD 0 many.toNat) [] (fun d hd => by
      obtain ⟨j, hj, rfl⟩ := rgD_mem hd
      have dj := draw_eq c2 (0 + (j : Int)) wd (by omega) (by omega) (by omega)
      rw [Int.zero_add] at dj
      exact ⟨[.sh (.frl (ns.map Dt.int)), .sh (.int least), .sh (.int cell), .sh (.int many), .sh (.lst (names.map Dt.str)), .no, .no, .sh (.int (0 + (j : Int))), .no, .no, .no], rfl, by simp [xe__law_broad_1, p2, d1, wi, dj]⟩) (by rw [rgD_len]; simp; omega)
  rw [List.nil_append] at cn
  have en2 : ((rgD 0 many.toNat).map fun d => match d with
    | .int i => .int (draw c2 i wd)
    | d => d) = ((List.range many.toNat).map fun (j : Nat) => draw c2 (j : Int) wd).map Dt.int := by
    unfold rgD
    rw [List.map_map, List.map_map]
    apply List.map_congr_left
    intro j _
    simp
  rw [en2] at cn
  obtain ⟨nums, hnums⟩ : ∃ l, l = (List.range many.toNat).map fun (j : Nat) => draw c2 (j : Int) wd := ⟨_, rfl⟩
  rw [← hnums] at cn
  have nul : nums.length = many.toNat := by rw [hnums]; simp
  have nuo : ∀ i ∈ nums, 0 ≤ i ∧ i ≤ 1000 := fun i hi => by
    rw [hnums] at hi
    obtain ⟨j, _, rfl⟩ := List.mem_map.mp hi
    have := draw_lo c2 (j : Int) (m := wd) (by omega)
    have := draw_hi c2 (j : Int) (m := wd) (by omega)
    omega
  have lp := loop_inv (xg := xgName 7) (xb := xb__law_broad_1) (fun i D => ∃ M : List LD, M.length = i ∧ (∀ d ∈ M, OkLD (names.take many.toNat) d) ∧ ∃ t7 t8 t9 t10, D = [.sh (.frl (ns.map Dt.int)), .sh (.int least), .sh (.int cell), .sh (.int many), .sh (.lst (names.map Dt.str)), .sh (.lst (nums.map Dt.int)), .ol (M.map ldD), t7, t8, t9, t10])
    (rgD 0 (v2 * mn).toNat) [.sh (.frl (ns.map Dt.int)), .sh (.int least), .sh (.int cell), .sh (.int many), .sh (.lst (names.map Dt.str)), .sh (.lst (nums.map Dt.int)), .ol [], .no, .no, .no, .no] ⟨[], rfl, fun _ m => (by cases m), _, _, _, _, rfl⟩ (fun i d D hd hI => by
      obtain ⟨M, hl, hM, t7, t8, t9, t10, rfl⟩ := hI
      obtain ⟨hi, rfl⟩ := rgD_get hd
      rw [Int.zero_add] at *
      obtain ⟨q, hq, u8, u9, u10, e⟩ := broad_body ns (least := least) (cell := cell) (many := many) (names := names) (by rw [nl]; rfl) nmN (by omega) m0.2.1 (k := (i : Int)) (by omega) (by omega) (.sh (.lst (nums.map Dt.int))) M (by omega) t8 t9 t10
      refine ⟨_, _, rfl, e, M ++ [q], by simp [hl], fun x mx => ?_, _, _, _, _, rfl⟩
      rcases List.mem_append.mp mx with mx | mx
      · exact hM x mx
      · rw [List.mem_singleton.mp mx]; exact hq)
  obtain ⟨D', e, M, hl, hM, t7, t8, t9, t10, rfl⟩ := lp
  rw [rgD_len] at hl
  have tk : (names.take many.toNat).length = many.toNat := by rw [List.length_take, nl]; omega
  refine ⟨⟨names.take many.toNat, nums, M⟩, ⟨by show nums.length = _; rw [nul, tk], by show (names.take many.toNat).length ≤ 6; omega, nnd.sublist (List.take_sublist _ _), fun s hs => nmN s (List.mem_of_mem_take hs), nuo, by show M.length ≤ 8; omega, hM⟩, by show least ≤ (((names.take many.toNat).length : Nat) : Int); omega, ⟨names, en, fun s hs => List.mem_of_mem_take hs⟩, ?_⟩
  have ct := cut_to (names.map Dt.str) (i := many) (by omega)
  have em : (names.map Dt.str).take many.toNat = (names.take many.toNat).map Dt.str := by rw [List.map_take]
  rw [em] at ct
  generalize names.take many.toNat = T at *
  generalize hF : Dt.frl (ns.map Dt.int) = F at *
  constructor
  · refine fun_rt (D := [.sh F, .sh (.int least), .no, .no, .no, .no, .no, .no, .no, .no, .no]) rfl rfl ?_
    refine seq_nx' (D' := [.sh F, .sh (.int least), .sh (.int cell), .no, .no, .no, .no, .no, .no, .no, .no]) (by simp [p0]) ?_
    refine seq_nx' (D' := [.sh F, .sh (.int least), .sh (.int cell), .sh (.int many), .no, .no, .no, .no, .no, .no, .no]) (by simp [d0, hmany]) ?_
    refine seq_nx' (D' := [.sh F, .sh (.int least), .sh (.int cell), .sh (.int many), .sh (.lst (names.map Dt.str)), .no, .no, .no, .no, .no, .no]) (by simp [p1, en]) ?_
    have hw : wipeD [.sh F, .sh (.int least), .sh (.int cell), .sh (.int many), .sh (.lst (names.map Dt.str)), .no, .no, .no, .no, .no, .no] [7] = [.sh F, .sh (.int least), .sh (.int cell), .sh (.int many), .sh (.lst (names.map Dt.str)), .no, .no, .no, .no, .no, .no] := rfl
    refine seq_nx' (D' := [.sh F, .sh (.int least), .sh (.int cell), .sh (.int many), .sh (.lst (names.map Dt.str)), .sh (.lst (nums.map Dt.int)), .no, .no, .no, .no, .no]) (by
      simp only [xsAsg, xL, xLc, xRng1, xCons, xNil, xVar_ap, List.getElem?_cons_succ, List.getElem?_cons_zero, shO_sh, bind_ok, hr1, hw, cn, out_ok]; rfl) ?_
    refine seq_nx' (D' := [.sh F, .sh (.int least), .sh (.int cell), .sh (.int many), .sh (.lst (names.map Dt.str)), .sh (.lst (nums.map Dt.int)), .ol [], .no, .no, .no, .no]) (by simp) ?_
    have rr : (xRng1 (xCons (x2 dMul (xCall m__law_draw (xCons (xVar 2) (xCons (xC (.int 2)) (xCons (xC (.int 9)) xNil)))) (xCB dMin2 (xCons (xC (.int 1)) (xCons (xVarB 3) xNil)))) xNil)) [.sh F, .sh (.int least), .sh (.int cell), .sh (.int many), .sh (.lst (names.map Dt.str)), .sh (.lst (nums.map Dt.int)), .ol [], .no, .no, .no, .no] = .ok (rgD 0 (v2 * mn).toNat) := by
      simp [d2, ← hmn, c9, hr2]
    refine seq_nx' (by rw [xsFor, rr]; exact e) ?_
    simp [Frz, Sl.frz, dSlA, ct, lkD]
  · refine funT_rt (D := [.sh F, .sh (.int least), .no, .no, .no, .no, .no, .no, .no, .no, .no]) rfl rfl ?_
    refine seqT_nx' (D' := [.sh F, .sh (.int least), .sh (.int cell), .no, .no, .no, .no, .no, .no, .no, .no]) (by simp [p0]) ?_
    refine seqT_nx' (D' := [.sh F, .sh (.int least), .sh (.int cell), .sh (.int many), .no, .no, .no, .no, .no, .no, .no]) (by simp [d0, hmany]) ?_
    refine seqT_nx' (D' := [.sh F, .sh (.int least), .sh (.int cell), .sh (.int many), .sh (.lst (names.map Dt.str)), .no, .no, .no, .no, .no, .no]) (by simp [p1, en]) ?_
    have hw : wipeD [.sh F, .sh (.int least), .sh (.int cell), .sh (.int many), .sh (.lst (names.map Dt.str)), .no, .no, .no, .no, .no, .no] [7] = [.sh F, .sh (.int least), .sh (.int cell), .sh (.int many), .sh (.lst (names.map Dt.str)), .no, .no, .no, .no, .no, .no] := rfl
    refine seqT_nx' (D' := [.sh F, .sh (.int least), .sh (.int cell), .sh (.int many), .sh (.lst (names.map Dt.str)), .sh (.lst (nums.map Dt.int)), .no, .no, .no, .no, .no]) (by
      simp only [xsAsg, xL, xLc, xRng1, xCons, xNil, xVar_ap, List.getElem?_cons_succ, List.getElem?_cons_zero, shO_sh, bind_ok, hr1, hw, cn, out_ok]; rfl) ?_
    refine seqT_nx' (D' := [.sh F, .sh (.int least), .sh (.int cell), .sh (.int many), .sh (.lst (names.map Dt.str)), .sh (.lst (nums.map Dt.int)), .ol [], .no, .no, .no, .no]) (by simp) ?_
    have rr : (xRng1 (xCons (x2 dMul (xCall m__law_draw (xCons (xVar 2) (xCons (xC (.int 2)) (xCons (xC (.int 9)) xNil)))) (xCB dMin2 (xCons (xC (.int 1)) (xCons (xVarB 3) xNil)))) xNil)) [.sh F, .sh (.int least), .sh (.int cell), .sh (.int many), .sh (.lst (names.map Dt.str)), .sh (.lst (nums.map Dt.int)), .ol [], .no, .no, .no, .no] = .ok (rgD 0 (v2 * mn).toNat) := by
      simp [d2, ← hmn, c9, hr2]
    refine seqT_nx' (by rw [xsFor, rr]; exact e) ?_
    exact xtDisp_ok (by simp [dSlA, ct]) rfl rfl
end Mx
namespace Mx
open PySem PySem.Spec PyProof.Rows L2
/-! ### the kitchen as a value -/
def dD (d : LD) : Dt := dish d.name d.a d.b d.m
def prs (k : LK) : List (Str × Int) := k.names.zip k.nums
def prD (p : Str × Int) : Dt := .tup [.str p.1, .int p.2]
def kvP (p : Str × Int) : Key × Dt := (.inr p.1, .int p.2)
def kvs (k : LK) : List (Key × Dt) := (prs k).map kvP
def ktF (k : LK) : List (Str × Dt) := [("_numbers", .dk (kvs k)), ("_menu", .lst (k.menu.map dD))]
def kt (k : LK) : Dt := .ins "Kitchen" (ktF k)
theorem nfK : (Str.ofString "_menu" == Str.ofString "_numbers") = false := by decide +kernel
@[simp] theorem kt_n (k : LK) : dFld "Kitchen" "_numbers" (kt k) = .ok (.dk (kvs k)) := by simp [kt, ktF, dFld, List.lookup]
@[simp] theorem kt_m (k : LK) : dFld "Kitchen" "_menu" (kt k) = .ok (.lst (k.menu.map dD)) := by
  have := nfK
  simp [kt, ktF, dFld, List.lookup, this]
theorem prs_names {k : LK} (h : OkLK k) : (prs k).map (·.1) = k.names := by
  unfold prs
  rw [List.map_fst_zip (by rw [h.len]; exact Nat.le_refl _)]
theorem prs_nums {k : LK} (h : OkLK k) : (prs k).map (·.2) = k.nums := by
  unfold prs
  rw [List.map_snd_zip (by rw [h.len]; exact Nat.le_refl _)]
theorem putG_new {α : Type} {κ : Type} [DecidableEq κ] {q : κ} {v : α} : ∀ {l : List (κ × α)}, q ∉ l.map (·.1) → putG l q v = l ++ [(q, v)]
  | [], _ => rfl
  | a :: l, h => by
    simp only [List.map_cons, List.mem_cons, not_or] at h
    unfold putG
    rw [if_neg (fun z => h.1 (by first | exact z | exact z.symm)), putG_new h.2]
    rfl
def tkv (p : Str × Int) : Key × Dt := (.inr p.1, .bl true)
theorem tools_loop (s0 : Sl) : ∀ (ps done : List (Str × Int)) (s2 s3 : Sl), (∀ p ∈ ps, Nm p.1 ∧ 0 ≤ p.2) → ((done ++ ps).map (·.1)).Nodup → done.length + ps.length ≤ 1000 →
    ∃ t2 t3, xLoop (xgTup 2 (xgCons (xgName 2) (xgCons (xgName 3) xgNil))) xb__check_tools_1 (ps.map prD) [s0, .ok (done.map tkv), s2, s3] = .nx [s0, .ok ((done ++ ps).map tkv), t2, t3]
  | [], done, s2, s3, _, _, _ => ⟨s2, s3, by simp⟩
  | p :: ps, done, s2, s3, h, nd, hl => by
    simp only [List.length_cons] at hl
    obtain ⟨h1, h2⟩ := h p List.mem_cons_self
    have e1 := is_name_eq p.1 (by have := h1.2.1; omega)
    rw [nmB_of h1] at e1
    have kn : (Sum.inr p.1 : Key) ∉ (done.map tkv).map (·.1) := fun m => by
      rw [List.map_map] at m
      obtain ⟨q, hq, e⟩ := List.mem_map.mp m
      have e : q.1 = p.1 := Sum.inr.inj e
      rw [List.map_append, List.nodup_append] at nd
      exact nd.2.2 q.1 (List.mem_map.mpr ⟨q, hq, rfl⟩) p.1 (by simp) e
    have g0 : getG (done.map tkv) (Sum.inr p.1) = none := getG_keys kn
    have pn := putG_new (v := Dt.bl true) kn
    have ndk : ((done.map tkv).map (·.1)).Nodup := by
      rw [List.map_map]
      rw [List.map_append, List.nodup_append] at nd
      have : ((fun x => x.1) ∘ tkv : Str × Int → Key) = (Sum.inr ∘ fun x => x.1) := rfl
      rw [this, ← List.map_map]
      exact List.Pairwise.map _ (fun a b hab z => hab (Sum.inr.inj z)) nd.1
    have lz : (done.map tkv).length < 1000000 := by rw [List.length_map]; omega
    have em : done.map tkv ++ [(Sum.inr p.1, Dt.bl true)] = (done ++ [p]).map tkv := by simp [tkv]
    have eb : xb__check_tools_1 [s0, .ok (done.map tkv), .sh (.str p.1), .sh (.int p.2)] = .nx [s0, .ok ((done ++ [p]).map tkv), .sh (.str p.1), .sh (.int p.2)] := by
      rw [← em, ← pn]
      have l0 : ¬ p.2 < 0 := by omega
      refine seq_nx' (D' := [s0, .ok (done.map tkv), .sh (.str p.1), .sh (.int p.2)]) (by simp [e1, g0, l0]) ?_
      simp [lz, ndk, -List.map_map, -List.length_map]
    have eg : xgTup 2 (xgCons (xgName 2) (xgCons (xgName 3) xgNil)) (prD p) [s0, .ok (done.map tkv), s2, s3] = .ok [s0, .ok (done.map tkv), .sh (.str p.1), .sh (.int p.2)] := rfl
    obtain ⟨t2, t3, i⟩ := tools_loop s0 ps (done ++ [p]) (.sh (.str p.1)) (.sh (.int p.2)) (fun q hq => h q (List.mem_cons_of_mem _ hq)) (by simpa using nd) (by simp; omega)
    refine ⟨t2, t3, ?_⟩
    rw [List.map_cons, loop_cons, eg, get_ok, eb]
    simpa using i
theorem fun_nx {k n : Nat} {xs : XS} {ds : List Dt} {D D' : Ds} (hl : ds.length = k) (hD : ds.map Sl.sh ++ List.replicate (n - ds.length) .no = D) (h : xs D = .nx D') : funD k n xs ds = .ok .non := by
  unfold funD runD; rw [if_pos hl, hD, h]
theorem check_tools_ok {ps : List (Str × Int)} (h : ∀ p ∈ ps, Nm p.1 ∧ 0 ≤ p.2) (nd : (ps.map (·.1)).Nodup) (hl : ps.length ≤ 1000) : m__check_tools [.lst (ps.map prD)] = .ok .non := by
  obtain ⟨t2, t3, i⟩ := tools_loop (.sh (.lst (ps.map prD))) ps [] .no .no h (by simpa using nd) (by simp; omega)
  refine fun_nx (D := [.sh (.lst (ps.map prD)), .no, .no, .no]) (D' := [.sh (.lst (ps.map prD)), .ok (ps.map tkv), t2, t3]) rfl rfl ?_
  refine seq_nx' (D' := [.sh (.lst (ps.map prD)), .ok [], .no, .no]) (by simp) ?_
  simp only [xsFor, xItems, xVar_ap, List.getElem?_cons_zero, shO_sh, bind_ok, dItems_lst, out_ok]
  simpa using i
theorem dpairs_eq : ∀ ps : List (Str × Int), dpairs (ps.map prD) = some (ps.map kvP)
  | [] => rfl
  | p :: ps => by
    rw [List.map_cons]
    unfold dpairs prD
    simp only [dKeyK_str]
    have := dpairs_eq ps
    unfold prD at this
    rw [this]
    rfl
theorem dDict_eq {ps : List (Str × Int)} (nd : (ps.map (·.1)).Nodup) : dDict [.lst (ps.map prD)] = .ok (.dk (ps.map kvP)) := by
  have ndk : ((ps.map kvP).map (·.1)).Nodup := by
    rw [List.map_map]
    have : ((fun x => x.1) ∘ kvP : Str × Int → Key) = (Sum.inr ∘ fun x => x.1) := rfl
    rw [this, ← List.map_map]
    exact List.Pairwise.map _ (fun a b hab z => hab (Sum.inr.inj z)) nd
  have e : ∀ l, dDict [.lst l] = (opt (dpairs l)).bind fun kvs => if (kvs.map (·.1)).Nodup then .ok (.dk kvs) else .bad := fun l => rfl
  rw [e, dpairs_eq]
  simp only [opt_some, bind_ok]
  rw [if_pos ndk]
theorem kvs_mem {k : LK} (h : OkLK k) {t : Str} (ht : t ∈ k.names) : (getG (kvs k) (Sum.inr t)).isSome = true := by
  rw [← mem_getG]
  unfold kvs
  rw [List.map_map]
  have : ((fun x => x.1) ∘ kvP : Str × Int → Key) = (Sum.inr ∘ fun x => x.1) := rfl
  rw [this, ← List.map_map, prs_names h]
  exact List.mem_map.mpr ⟨t, ht, rfl⟩
theorem menu_in (s0 s2 : Sl) {l : List (Key × Dt)} : ∀ (m : List Nd) (s3 s4 : Sl), (∀ x ∈ m, (getG l (Sum.inr x.2.1)).isSome = true) →
    ∃ t3 t4, xLoop (xgName 3) xb__check_menu_1 (m.map nd) [s0, .sh (.dk l), s2, s3, s4] = .nx [s0, .sh (.dk l), s2, t3, t4]
  | [], s3, s4, _ => ⟨s3, s4, rfl⟩
  | x :: m, s3, s4, h => by
    have hx := h x List.mem_cons_self
    have eb : xb__check_menu_1 [s0, .sh (.dk l), s2, .sh (nd x), s4] = .nx [s0, .sh (.dk l), s2, .sh (nd x), .sh (.str x.2.1)] := by
      refine seq_nx' (D' := [s0, .sh (.dk l), s2, .sh (nd x), .sh (.str x.2.1)]) (by simp) ?_
      obtain ⟨v, hv⟩ := Option.isSome_iff_exists.mp hx
      simp [hv]
    obtain ⟨t3, t4, i⟩ := menu_in s0 s2 m (.sh (nd x)) (.sh (.str x.2.1)) fun y hy => h y (List.mem_cons_of_mem _ hy)
    refine ⟨t3, t4, ?_⟩
    rw [List.map_cons, loop_cons, xgName, get_ok]
    simp only [List.set_cons_succ, List.set_cons_zero]
    rw [eb]
    exact i
theorem menu_loop (s0 : Sl) {l : List (Key × Dt)} : ∀ (M : List LD) (s2 s3 s4 : Sl), (∀ d ∈ M, ∀ x ∈ d.m, (getG l (Sum.inr x.2.1)).isSome = true) →
    ∃ t2 t3 t4, xLoop (xgName 2) xb__check_menu_2 (M.map dD) [s0, .sh (.dk l), s2, s3, s4] = .nx [s0, .sh (.dk l), t2, t3, t4]
  | [], s2, s3, s4, _ => ⟨s2, s3, s4, rfl⟩
  | d :: M, s2, s3, s4, h => by
    obtain ⟨u3, u4, i1⟩ := menu_in s0 (.sh (dD d)) d.m s3 s4 (h d List.mem_cons_self)
    have hd : dFld "Dish" "needs" (dD d) = .ok (.tup (d.m.map nd)) := d_needs _ _ _ _
    have eb : xb__check_menu_2 [s0, .sh (.dk l), .sh (dD d), s3, s4] = .nx [s0, .sh (.dk l), .sh (dD d), u3, u4] := by
      have ei : xItemsT (x1 (dFld "Dish" "needs") (xVarB 2)) [s0, .sh (.dk l), .sh (dD d), s3, s4] = .ok (d.m.map nd) := by
        simp [hd]
      unfold xb__check_menu_2
      rw [xsFor, ei]
      exact i1
    obtain ⟨t2, t3, t4, i⟩ := menu_loop s0 M (.sh (dD d)) u3 u4 fun y hy => h y (List.mem_cons_of_mem _ hy)
    refine ⟨t2, t3, t4, ?_⟩
    rw [List.map_cons, loop_cons, xgName, get_ok]
    simp only [List.set_cons_succ, List.set_cons_zero]
    rw [eb]
    exact i
theorem check_menu_ok {M : List LD} {l : List (Key × Dt)} (h : ∀ d ∈ M, ∀ x ∈ d.m, (getG l (Sum.inr x.2.1)).isSome = true) : m__check_menu [.lst (M.map dD), .dk l] = .ok .non := by
  obtain ⟨t2, t3, t4, i⟩ := menu_loop (.sh (.lst (M.map dD))) M .no .no .no h
  refine fun_nx (D := [.sh (.lst (M.map dD)), .sh (.dk l), .no, .no, .no]) (D' := [.sh (.lst (M.map dD)), .sh (.dk l), t2, t3, t4]) rfl rfl ?_
  unfold xs__check_menu
  simp only [xsFor, xItems, xVar_ap, List.getElem?_cons_zero, shO_sh, bind_ok, dItems_lst, out_ok]
  exact i
theorem m_tool {T : List Str} {d : LD} (h : OkLD T d) {x : Nd} (hx : x ∈ d.m) : x.2.1 ∈ T ∧ 0 ≤ x.1 ∧ x.1 ≤ 100 := by
  obtain ⟨w, hw, e⟩ := mem_mrg hx
  obtain ⟨e1, e2⟩ := kd_inj e
  obtain ⟨a, b, c, _⟩ := h.ok w hw
  exact ⟨by rw [e2]; exact c, by omega, by omega⟩
theorem kitchen_ok {k : LK} (h : OkLK k) : m_Kitchen___init__ [.lst ((prs k).map prD), .lst (k.menu.map dD)] = .ok (ktF k) := by
  have hp : ∀ p ∈ prs k, Nm p.1 ∧ 0 ≤ p.2 := fun p hp => by
    obtain ⟨h1, h2⟩ := List.of_mem_zip hp
    exact ⟨h.nms _ h1, (h.num _ h2).1⟩
  have nd : ((prs k).map (·.1)).Nodup := by rw [prs_names h]; exact h.nd
  have pl : (prs k).length ≤ 1000 := by
    have := h.few
    unfold prs; rw [List.length_zip]; omega
  have e1 := check_tools_ok hp nd pl
  have e2 := dDict_eq nd
  have e3 : m__check_menu [.lst (k.menu.map dD), .dk ((prs k).map kvP)] = .ok .non := check_menu_ok fun d hd x hx => kvs_mem h (m_tool (h.dish d hd) hx).1
  have nf : Str.ofString "_numbers" ≠ Str.ofString "_menu" := by decide +kernel
  have nk := nfK
  have k1 : ∀ a b : Dt, List.lookup (Str.ofString "_menu") [(Str.ofString "_numbers", a), (Str.ofString "_menu", b)] = some b := fun a b => by simp [List.lookup, nk]
  have k2 : ∀ a b : Dt, List.lookup (Str.ofString "_numbers") [(Str.ofString "_numbers", a), (Str.ofString "_menu", b)] = some a := fun a b => by simp [List.lookup]
  generalize (prs k).map prD = P at *
  unfold ktF kvs
  generalize k.menu.map dD = M at *
  generalize (prs k).map kvP = N at *
  simp only [m_Kitchen___init__, runI, xs_Kitchen___init__, List.length_cons, List.length_nil, List.map_cons, List.map_nil, List.replicate, List.cons_append, List.nil_append]
  simp [e1, e2, putG, nf, dFld, k1, k2, e3]
end Mx
namespace Mx
open PySem PySem.Spec PyProof.Rows L2
/-! ### the horizon, without _law_built -/
theorem rgD_map {α : Type} (l : List α) (x0 : α) (g : α → Dt) : ((rgD 0 l.length).map fun d => match d with
    | .int i => g (l.getD i.toNat x0)
    | d => d) = l.map g := by
  apply List.ext_getElem
  · simp [rgD_len]
  · intro i h1 h2
    simp only [List.getElem_map, rgD, List.getElem_range, Int.zero_add, Int.toNat_natCast]
    rw [List.length_map] at h2
    rw [List.getD_eq_getElem?_getD, List.getElem?_eq_getElem h2]; rfl
theorem m_ok {T : List Str} (hT : ∀ s ∈ T, Nm s) {d : LD} (h : OkLD T d) : OkD d.name d.m := by
  refine ⟨h.nm, mrg_ne h.ne, ?_, fun x hx => ?_⟩
  · have := mrg_len d.raw
    have := h.len
    show (mrg d.raw).length < 64
    omega
  · exact gn_fold d.raw [] (fun y hy => ⟨(h.ok y hy).1, hT _ (h.ok y hy).2.2.1, (h.ok y hy).2.2.2.1⟩) (fun _ m => by cases m) x hx
theorem rg_gen {xa : XA} {D : Ds} {i : Int} {R : List Dt} (e : xa D = .ok [.int i]) (hr : dRng1 [.int i] = .ok R) : xRng1 xa D = .ok R := by
  unfold xRng1
  rw [e, bind_ok, hr]
theorem len_gen {xe : XE} {D : Ds} {A : List Dt} (e : xe D = .ok (.lst A)) : (xCons (xCB dLen (xCons xe xNil)) xNil) D = .ok [.int ((A.length : Nat) : Int)] := by
  simp [e]
theorem ret_gen {F : Ds → R Dt} {D : Ds} {d : Dt} (h : F D = .ok d) : xsRet F D = .rt d := by
  simp [h]
theorem make_gen {G : XA} {D : Ds} {PP DD : Dt} {F : List (Str × Dt)} (h : G D = .ok [PP, DD]) (e : m_Kitchen___init__ [PP, DD] = .ok F) : xMake "Kitchen" 2 0 m_Kitchen___init__ gD_1 G xNil D = .ok (.ins "Kitchen" F) := by
  simp [xMake, h, gD_1, e]
theorem two_gen {xa xb : XE} {D : Ds} {a b : Dt} (h1 : xa D = .ok a) (h2 : xb D = .ok b) : (xCons xa (xCons xb xNil)) D = .ok [a, b] := by
  simp [h1, h2]
theorem lc_gen {xi : XA} {xg : XG} {xt : XT} {xe : XE} {vs : List Nat} {D : Ds} {l r : List Dt} (h1 : xi D = .ok l) (h2 : xComp xg xt xe (wipeD D vs) l [] = .ok r) : (xL (xLc xi xg xt xe vs)) D = .ok (.lst r) := by
  simp [h1, h2]
/-! ### the horizon -/
def hstep (h : Int) (x : Nd) : Int := if h < x.1 + 1 then x.1 + 1 else h
def hz (k : LK) : Int := k.menu.foldl (fun h d => d.m.foldl hstep h) 1
theorem hin_loop (s0 s2 : Sl) : ∀ (m : List Nd) (h : Int) (s3 : Sl), ∃ t3, xLoop (xgName 3) xb__law_horizon_1 (m.map nd) [s0, .sh (.int h), s2, s3] = .nx [s0, .sh (.int (m.foldl hstep h)), s2, t3]
  | [], h, s3 => ⟨s3, rfl⟩
  | x :: m, h, s3 => by
    have eb : xb__law_horizon_1 [s0, .sh (.int h), s2, .sh (nd x)] = .nx [s0, .sh (.int (hstep h x)), s2, .sh (nd x)] := by
      unfold hstep
      by_cases z : h < x.1 + 1 <;> simp [xb__law_horizon_1, z]
    obtain ⟨t3, i⟩ := hin_loop s0 s2 m (hstep h x) (.sh (nd x))
    refine ⟨t3, ?_⟩
    rw [List.map_cons, loop_cons, xgName, get_ok]
    simp only [List.set_cons_succ, List.set_cons_zero]
    rw [eb]
    exact i
theorem hout_loop (s0 : Sl) : ∀ (M : List LD) (h : Int) (s2 s3 : Sl), ∃ t2 t3, xLoop (xgName 2) xb__law_horizon_2 (M.map ldD) [s0, .sh (.int h), s2, s3] = .nx [s0, .sh (.int (M.foldl (fun h d => d.m.foldl hstep h) h)), t2, t3]
  | [], h, s2, s3 => ⟨s2, s3, rfl⟩
  | d :: M, h, s2, s3 => by
    obtain ⟨u3, i1⟩ := hin_loop s0 (.sh (ldD d)) d.m h s3
    have j3 : dIx (ldD d) (.int 3) = .ok (.lst (d.m.map nd)) := rfl
    have eb : xb__law_horizon_2 [s0, .sh (.int h), .sh (ldD d), s3] = .nx [s0, .sh (.int (d.m.foldl hstep h)), .sh (ldD d), u3] := by
      have ei : xItems (x2 dIx (xVarB 2) (xC (.int 3))) [s0, .sh (.int h), .sh (ldD d), s3] = .ok (d.m.map nd) := by simp [j3]
      unfold xb__law_horizon_2
      rw [xsFor, ei]
      exact i1
    obtain ⟨t2, t3, i⟩ := hout_loop s0 M (d.m.foldl hstep h) (.sh (ldD d)) u3
    refine ⟨t2, t3, ?_⟩
    rw [List.map_cons, loop_cons, xgName, get_ok]
    simp only [List.set_cons_succ, List.set_cons_zero]
    rw [eb]
    exact i
theorem lhorizon_eq (k : LK) : m__law_horizon [lkD k] = .ok (.int (hz k)) := by
  have i2 : dIx (lkD k) (.int 2) = .ok (.lst (k.menu.map ldD)) := rfl
  obtain ⟨t2, t3, i⟩ := hout_loop (.sh (lkD k)) k.menu 1 .no .no
  refine fun_rt (D := [.sh (lkD k), .no, .no, .no]) rfl rfl ?_
  refine seq_nx' (D' := [.sh (lkD k), .sh (.int 1), .no, .no]) (by simp) ?_
  have it : xItems (x2 dIx (xVarB 0) (xC (.int 2))) [.sh (lkD k), .sh (.int 1), .no, .no] = .ok (k.menu.map ldD) := by simp [i2]
  refine seq_nx' (by rw [xsFor, it]; exact i) ?_
  simp [hz]
theorem fold_max : ∀ (m : List Nd) (h : Int), (∀ x ∈ m, 0 ≤ x.1 ∧ x.1 ≤ 100) → h ≤ m.foldl hstep h ∧ (h ≤ 101 → m.foldl hstep h ≤ 101)
  | [], h, _ => ⟨Int.le_refl _, fun x => x⟩
  | x :: m, h, hm => by
    have hx := hm x List.mem_cons_self
    have ih := fold_max m (hstep h x) fun y hy => hm y (List.mem_cons_of_mem _ hy)
    have : h ≤ hstep h x ∧ (h ≤ 101 → hstep h x ≤ 101) := by unfold hstep; split <;> omega
    exact ⟨by rw [List.foldl_cons]; omega, fun z => by rw [List.foldl_cons]; exact ih.2 (this.2 z)⟩
theorem hz_bd {k : LK} (h : OkLK k) : 1 ≤ hz k ∧ hz k ≤ 101 := by
  have : ∀ (M : List LD) (a : Int), (∀ d ∈ M, OkLD k.names d) → 1 ≤ a → a ≤ 101 → 1 ≤ M.foldl (fun h d => d.m.foldl hstep h) a ∧ M.foldl (fun h d => d.m.foldl hstep h) a ≤ 101 := by
    intro M
    induction M with
    | nil => intro a _ h1 h2; exact ⟨h1, h2⟩
    | cons d M ih =>
      intro a hM h1 h2
      have f := fold_max d.m a fun x hx => (m_tool (hM d List.mem_cons_self) hx).2
      exact ih (d.m.foldl hstep a) (fun x hx => hM x (List.mem_cons_of_mem _ hx)) (by omega) (f.2 h2)
  exact this k.menu 1 h.dish (Int.le_refl _) (by decide)
/-- the length of a dish -/
def ln (d : LD) : Int := match d.m.getLast? with
  | some x => x.1 + 1
  | none => 0
theorem last_nd {m : List Nd} {x : Nd} (h : m.getLast? = some x) : atI (m.map nd) (-1) = some (nd x) := by
  have hne : m ≠ [] := fun z => by rw [z] at h; cases h
  have hl : 0 < m.length := List.length_pos_iff.mpr hne
  have e : ixN (m.map nd).length (-1) = some (m.length - 1) := by
    unfold ixN
    rw [List.length_map, if_neg (by decide), if_pos (by omega)]
    congr 1
    omega
  unfold atI
  rw [e]
  show (m.map nd)[m.length - 1]? = _
  rw [List.getElem?_map, ← List.getLast?_eq_getElem?, h]; rfl
theorem fold_last : ∀ (m : List Nd) (h : Int) (x : Nd), Srt m → m.getLast? = some x → m.foldl hstep h = if h < x.1 + 1 then x.1 + 1 else h
  | [], h, x, _, e => by cases e
  | [y], h, x, _, e => by
    cases e
    rfl
  | y :: z :: m, h, x, s, e => by
    have e' : (z :: m).getLast? = some x := by rwa [List.getLast?_cons_cons] at e
    have s' := List.pairwise_cons.mp s
    rw [List.foldl_cons, fold_last (z :: m) (hstep h y) x s'.2 e']
    have hx : x ∈ z :: m := List.mem_of_getLast? e'
    have := ltN_le (s'.1 x hx)
    unfold hstep
    by_cases a : h < y.1 + 1
    · rw [if_pos a]
      by_cases b : y.1 + 1 < x.1 + 1
      · rw [if_pos b, if_pos (by omega)]
      · rw [if_neg b, if_pos (by omega)]; omega
    · rw [if_neg a]
theorem ln_last {T : List Str} {d : LD} (h : OkLD T d) : ∃ x, d.m.getLast? = some x ∧ ln d = x.1 + 1 ∧ 0 ≤ x.1 := by
  have hne : d.m ≠ [] := mrg_ne h.ne
  cases e : d.m.getLast? with
  | none => exact absurd (List.getLast?_eq_none_iff.mp e) hne
  | some x => exact ⟨x, rfl, by unfold ln; rw [e], (m_tool h (List.mem_of_getLast? e)).2.1⟩
theorem hz_max {k : LK} (h : OkLK k) : hz k = DT.maxI 1 (k.menu.map ln) := by
  have key : ∀ (M : List LD) (a : Int), (∀ d ∈ M, OkLD k.names d) → M.foldl (fun h d => d.m.foldl hstep h) a = (M.map ln).foldl (fun a b => if a < b then b else a) a := by
    intro M
    induction M with
    | nil => intro a _; rfl
    | cons d M ih =>
      intro a hM
      obtain ⟨x, e, l, _⟩ := ln_last (hM d List.mem_cons_self)
      rw [List.foldl_cons, List.map_cons, List.foldl_cons, fold_last d.m a x (srt_mrg _) e, l]
      exact ih _ fun y hy => hM y (List.mem_cons_of_mem _ hy)
  unfold hz
  rw [key k.menu 1 h.dish]
  cases hM : k.menu with
  | nil => rfl
  | cons d M =>
    obtain ⟨x, e, l, p⟩ := ln_last (h.dish d (by rw [hM]; exact List.mem_cons_self))
    rw [List.map_cons, List.foldl_cons]
    unfold DT.maxI
    by_cases z : 1 < ln d
    · rw [if_pos z]
    · rw [if_neg z]
      have : ln d = 1 := by omega
      rw [this]
theorem dlen_eq {T : List Str} {d : LD} (h : OkLD T d) : dProp "Dish" m_Dish_length (dD d) = .ok (.int (ln d)) := by
  obtain ⟨x, e, l, _⟩ := ln_last h
  have hl := last_nd e
  have hn : dFld "Dish" "needs" (dD d) = .ok (.tup (d.m.map nd)) := d_needs _ _ _ _
  have e1 : m_Dish_length [dD d] = .ok (.int (ln d)) := by
    rw [l]
    refine fun_rt (D := [.sh (dD d)]) rfl rfl ?_
    simp [xs_Dish_length, hn, hl]
  unfold dD dish at e1 ⊢
  simp [e1]
theorem horizon_eq {k : LK} (h : OkLK k) : dProp "Kitchen" m_Kitchen_horizon (kt k) = .ok (.int (hz k)) := by
  have hm := h.menu
  have c : xComp (xgName 1) xYes xe_Kitchen_horizon_1 [.sh (kt k), .no] (k.menu.map dD) [] = .ok ((k.menu.map ln).map Dt.int) := by
    have : ∀ (M : List LD) (acc : List Dt), (∀ d ∈ M, OkLD k.names d) → acc.length + M.length ≤ 1000 → xComp (xgName 1) xYes xe_Kitchen_horizon_1 [.sh (kt k), .no] (M.map dD) acc = .ok (acc ++ (M.map ln).map Dt.int) := by
      intro M
      induction M with
      | nil => intro acc _ _; simp [xComp]
      | cons d M ih =>
        intro acc hM hl
        simp only [List.length_cons] at hl
        have e := dlen_eq (hM d List.mem_cons_self)
        rw [List.map_cons]
        unfold xComp
        have ee : xe_Kitchen_horizon_1 [.sh (kt k), .sh (dD d)] = .ok (.int (ln d)) := by simp [xe_Kitchen_horizon_1, e]
        simp only [xgName, List.set_cons_succ, List.set_cons_zero, xYes, ee]
        rw [if_pos (by omega), ih (acc ++ [Dt.int (ln d)]) (fun x hx => hM x (List.mem_cons_of_mem _ hx)) (by simp; omega)]
        simp
    have := this k.menu [] h.dish (by simp; omega)
    rwa [List.nil_append] at this
  have hmx := hz_max h
  have e1 : m_Kitchen_horizon [kt k] = .ok (.int (hz k)) := by
    rw [hmx]
    refine fun_rt (D := [.sh (kt k), .no]) rfl rfl ?_
    have it : xItems (x1 (dFld "Kitchen" "_menu") (xVarB 0)) [.sh (kt k), .no] = .ok (k.menu.map dD) := by simp
    have w : wipeD [.sh (kt k), .no] [1] = [.sh (kt k), .no] := rfl
    have el : (xCons (xL (xLc (xItems (x1 (dFld "Kitchen" "_menu") (xVarB 0))) (xgName 1) xYes xe_Kitchen_horizon_1 [1])) xNil) [.sh (kt k), .no] = .ok [.lst ((k.menu.map ln).map Dt.int)] := by
      simp only [xCons, xNil, xL, xLc, it, w, c, bind_ok]
    simp only [xs_Kitchen_horizon, xsRet, xMaxD, el, bind_ok]
    simp only [xCons, xNil, xC, bind_ok, dMaxD_eq, dints_map, opt_some, out_ok]
  unfold kt at e1 ⊢
  simp [e1]
end Mx
namespace Mx
open PySem PySem.Spec PyProof.Rows L2
/-! ### tools and dishes of the law's kitchen -/
def ixF {α : Type} (l : List α) (x0 : α) (g : α → Dt) : Dt → Dt
  | .int i => g (l.getD i.toNat x0)
  | d => d
theorem rgD_ixF {α : Type} (l : List α) (x0 : α) (g : α → Dt) : (rgD 0 l.length).map (ixF l x0 g) = l.map g := by
  apply List.ext_getElem
  · simp [rgD_len]
  · intro i h1 h2
    simp only [List.getElem_map, rgD, List.getElem_range, Int.zero_add, ixF, Int.toNat_natCast]
    rw [List.length_map] at h2
    rw [List.getD_eq_getElem?_getD, List.getElem?_eq_getElem h2]; rfl
theorem prs_len {k : LK} (h : OkLK k) : (prs k).length = k.names.length := by
  unfold prs; rw [List.length_zip, h.len]; exact Nat.min_self _
theorem prs_at {k : LK} (h : OkLK k) {j : Nat} (hj : j < k.names.length) (hj2 : j < k.nums.length) : (prs k)[j]? = some (k.names[j], k.nums[j]) := by
  unfold prs
  rw [List.getElem?_zip_eq_some]
  exact ⟨List.getElem?_eq_getElem hj, List.getElem?_eq_getElem hj2⟩
theorem ltools_gen {Kd : Dt} {A PP : List Dt} (i0 : dIx Kd (.int 0) = .ok (.lst A)) (hr : dRng1 [.int ((A.length : Nat) : Int)] = .ok (rgD 0 A.length)) (c2 : xComp (xgName 1) xYes xe__law_tools_1 [.sh Kd, .no] (rgD 0 A.length) [] = .ok PP) : m__law_tools [Kd] = .ok (.lst PP) := by
  have w : wipeD [.sh Kd, .no] [1] = [.sh Kd, .no] := rfl
  have rr : (xRng1 (xCons (xCB dLen (xCons (x2 dIx (xVarB 0) (xC (.int 0))) xNil)) xNil)) [.sh Kd, .no] = .ok (rgD 0 A.length) := rg_gen (len_gen (by simp [i0])) hr
  exact fun_rt (D := [.sh Kd, .no]) rfl rfl (ret_gen (lc_gen rr (by rw [w]; exact c2)))
theorem ltools_eq {k : LK} (h : OkLK k) : m__law_tools [lkD k] = .ok (.lst ((prs k).map prD)) := by
  have i0 : dIx (lkD k) (.int 0) = .ok (.lst (k.names.map Dt.str)) := rfl
  have i1 : dIx (lkD k) (.int 1) = .ok (.lst (k.nums.map Dt.int)) := rfl
  have hf := h.few
  have pl := prs_len h
  generalize lkD k = Kd at *
  have c2 := comp_map (xg := xgName 1) (xe := xe__law_tools_1) (D0 := [.sh Kd, .no]) (f := ixF (prs k) (("" : String), 0) prD) (rgD 0 (prs k).length) [] (fun d hd => by
      obtain ⟨j, hj, rfl⟩ := rgD_mem hd
      have hj1 : j < k.names.length := by omega
      have hj2 : j < k.nums.length := by rw [h.len]; exact hj1
      have a1 : atI (k.names.map Dt.str) (0 + (j : Int)) = some (.str k.names[j]) := by
        rw [atI_nat' (by omega) (by simp; omega)]
        simp [hj1]
      have a2 : atI (k.nums.map Dt.int) (0 + (j : Int)) = some (.int k.nums[j]) := by
        rw [atI_nat' (by omega) (by simp; omega)]
        simp [hj2]
      have a3 := prs_at h hj1 hj2
      refine ⟨[.sh Kd, .sh (.int (0 + (j : Int)))], rfl, ?_⟩
      rw [Int.zero_add] at a1 a2 ⊢
      simp [xe__law_tools_1, i0, i1, a1, a2, a3, prD, ixF]) (by rw [rgD_len]; simp; omega)
  rw [List.nil_append, rgD_ixF, pl] at c2
  have hr : dRng1 [.int (((k.names.map Dt.str).length : Nat) : Int)] = .ok (rgD 0 k.names.length) := by
    have := dRng1_int (j := ((k.names.length : Nat) : Int)) ⟨by omega, by omega⟩
    rw [Int.toNat_natCast] at this
    rw [List.length_map]
    exact this
  exact ltools_gen i0 (by rw [hr, List.length_map]) (by rw [List.length_map]; exact c2)
theorem ldishes_eq {k : LK} (h : OkLK k) : m__law_dishes [lkD k] = .ok (.lst (k.menu.map dD)) := by
  have i2 : dIx (lkD k) (.int 2) = .ok (.lst (k.menu.map ldD)) := rfl
  have hm := h.menu
  generalize lkD k = Kd at *
  have : ∀ (M : List LD) (acc : List Dt), (∀ d ∈ M, OkLD k.names d) → acc.length + M.length ≤ 1000 → xComp (xgName 1) xYes xe__law_dishes_1 [.sh Kd, .no] (M.map ldD) acc = .ok (acc ++ M.map dD) := by
    intro M
    induction M with
    | nil => intro acc _ _; simp [xComp]
    | cons d M ih =>
      intro acc hM hl
      simp only [List.length_cons] at hl
      have e := okD_init (m_ok h.nms (hM d List.mem_cons_self)) d.a d.b
      have em : mrg d.m = d.m := mrg_id (srt_mrg d.raw)
      rw [em] at e
      have j0 : dIx (ldD d) (.int 0) = .ok (.str d.name) := rfl
      have j1 : dIx (ldD d) (.int 1) = .ok (.int d.a) := rfl
      have j2 : dIx (ldD d) (.int 2) = .ok (.int d.b) := rfl
      have j3 : dIx (ldD d) (.int 3) = .ok (.lst (d.m.map nd)) := rfl
      rw [List.map_cons]
      unfold xComp
      have ee : xe__law_dishes_1 [.sh Kd, .sh (ldD d)] = .ok (dD d) := by
        simp [xe__law_dishes_1, j0, j1, j2, j3, gD_0, e, dD, dish]
      simp only [xgName, List.set_cons_succ, List.set_cons_zero, xYes, ee]
      rw [if_pos (by omega), ih (acc ++ [dD d]) (fun x hx => hM x (List.mem_cons_of_mem _ hx)) (by simp; omega)]
      simp
  have c := this k.menu [] h.dish (by simp; omega)
  rw [List.nil_append] at c
  have it : xItems (x2 dIx (xVarB 0) (xC (.int 2))) [.sh Kd, .no] = .ok (k.menu.map ldD) := by simp [i2]
  exact fun_rt (D := [.sh Kd, .no]) rfl rfl (ret_gen (lc_gen (vs := [1]) it c))
/-! ### what a kitchen tells -/
theorem tools_eq {k : LK} (h : OkLK k) : dProp "Kitchen" m_Kitchen_tools (kt k) = .ok (.tup (k.names.map Dt.str)) := by
  have e1 : m_Kitchen_tools [kt k] = .ok (.tup (k.names.map Dt.str)) := by
    have e : (kvs k).map (fun p => keyD p.1) = k.names.map Dt.str := by
      rw [← prs_names h]
      unfold kvs
      rw [List.map_map, List.map_map]
      rfl
    refine fun_rt (D := [.sh (kt k)]) rfl rfl ?_
    simp [xs_Kitchen_tools, e]
  unfold kt at e1 ⊢
  simp [e1]
theorem numbers_eq {k : LK} (h : OkLK k) : dProp "Kitchen" m_Kitchen_numbers (kt k) = .ok (.tup (k.nums.map Dt.int)) := by
  have e1 : m_Kitchen_numbers [kt k] = .ok (.tup (k.nums.map Dt.int)) := by
    have e : (kvs k).map (fun p => p.2) = k.nums.map Dt.int := by
      rw [← prs_nums h]
      unfold kvs
      rw [List.map_map, List.map_map]
      rfl
    refine fun_rt (D := [.sh (kt k)]) rfl rfl ?_
    simp [xs_Kitchen_numbers, e]
  unfold kt at e1 ⊢
  simp [e1]
theorem menu_eq (k : LK) : dProp "Kitchen" m_Kitchen_menu (kt k) = .ok (.lst (k.menu.map dD)) := by
  have e1 : m_Kitchen_menu [kt k] = .ok (.lst (k.menu.map dD)) := by
    refine fun_rt (D := [.sh (kt k)]) rfl rfl ?_
    simp [xs_Kitchen_menu]
  unfold kt at e1 ⊢
  simp [e1]
theorem getG_at : ∀ (ps : List (Str × Int)) (j : Nat) (p : Str × Int), (ps.map (·.1)).Nodup → ps[j]? = some p → getG (ps.map kvP) (Sum.inr p.1) = some (.int p.2)
  | [], j, p, _, h => by simp at h
  | q :: ps, 0, p, nd, h => by
    simp at h
    subst h
    simp [getG, kvP]
  | q :: ps, j + 1, p, nd, h => by
    have nd' := List.nodup_cons.mp (by simpa using nd : (q.1 :: ps.map (·.1)).Nodup)
    have hm : p ∈ ps := List.mem_of_getElem? (by simpa using h)
    have ne : q.1 ≠ p.1 := fun e => nd'.1 (by rw [e]; exact List.mem_map.mpr ⟨p, hm, rfl⟩)
    have ih := getG_at ps j p nd'.2 (by simpa using h)
    rw [List.map_cons]
    unfold getG
    rw [if_neg (fun z => ne (by first | exact Sum.inr.inj z | exact (Sum.inr.inj z).symm))]
    exact ih
theorem number_eq {k : LK} (h : OkLK k) {j : Nat} (hj : j < k.names.length) (hj2 : j < k.nums.length) (D : Ds) (xo : XE) (xa : XE) (e1 : xo D = .ok (kt k)) (e2 : xa D = .ok (.str k.names[j])) : xMeth "Kitchen" "number_of" m_Kitchen_number_of xo (xCons xa xNil) D = .ok (.int k.nums[j]) := by
  have g := getG_at (prs k) j (k.names[j], k.nums[j]) (by rw [prs_names h]; exact h.nd) (prs_at h hj hj2)
  have g : getG (kvs k) (Sum.inr k.names[j]) = some (.int k.nums[j]) := g
  have c1 : m_Kitchen__check_tool [kt k, .str k.names[j]] = .ok .non := by
    refine fun_nx (D := [.sh (kt k), .sh (.str k.names[j])]) (D' := [.sh (kt k), .sh (.str k.names[j])]) rfl rfl ?_
    simp [xs_Kitchen__check_tool, g]
  have lk : ∀ n : Str, n ≠ Str.ofString "_numbers" → n ≠ Str.ofString "_menu" → (ktF k).lookup n = none := fun n h1 h2 => by
    simp [ktF, List.lookup, beq_false_of_ne h1, beq_false_of_ne h2]
  have l1 := lk (Str.ofString "_check_tool") (by decide +kernel) (by decide +kernel)
  have l2 := lk (Str.ofString "number_of") (by decide +kernel) (by decide +kernel)
  have m1 : ∀ D : Ds, D = [.sh (kt k), .sh (.str k.names[j])] → xMeth "Kitchen" "_check_tool" m_Kitchen__check_tool (xVar 0) (xCons (xVar 1) xNil) D = .ok .non := fun D hD => by
    subst hD
    have c1' := c1
    unfold kt at c1' ⊢
    simp [xMeth, l1, c1', isM]
  have n1 : m_Kitchen_number_of [kt k, .str k.names[j]] = .ok (.int k.nums[j]) := by
    refine fun_rt (D := [.sh (kt k), .sh (.str k.names[j])]) rfl rfl ?_
    refine seq_nx' (D' := [.sh (kt k), .sh (.str k.names[j])]) (by simp only [xsDrop, m1 _ rfl]; rfl) ?_
    simp [g]
  unfold kt at n1 e1
  simp [xMeth, e1, e2, l2, n1, isM]
end Mx
namespace Mx
open PySem PySem.Spec PyProof.Rows L2
/-! ### a kitchen is as the law's own -/
theorem num_body {Kt Kd : Dt} {A B : List Dt} {j : Nat} {s : Str} {n : Int} {s4 s5 : Sl} (i0 : dIx Kd (.int 0) = .ok (.lst A)) (i1 : dIx Kd (.int 1) = .ok (.lst B)) (a0 : atI A (j : Int) = some (.str s)) (a1 : atI B (j : Int) = some (.int n))
    (pn : dProp "Kitchen" m_Kitchen_numbers Kt = .ok (.tup B)) (nu : ∀ D xo xa, xo D = .ok Kt → xa D = .ok (.str s) → xMeth "Kitchen" "number_of" m_Kitchen_number_of xo (xCons xa xNil) D = .ok (.int n)) (s3 : Sl) :
    xb__law_kitchen_is_1 [.sh Kt, .sh Kd, .sh (.int (j : Int)), s3, s4, s5] = .nx [.sh Kt, .sh Kd, .sh (.int (j : Int)), .sh (.int n), s4, s5] := by
  have e := nu [.sh Kt, .sh Kd, .sh (.int (j : Int)), s3, s4, s5] (xVar 0) (x2 dIx (x2 dIx (xVarB 1) (xC (.int 0))) (xVarB 2)) (by simp) (by simp [i0, a0])
  have ii := is_int n
  have it : dIx (.tup B) (.int (j : Int)) = .ok (.int n) := by simp [a1]
  refine seq_nx' (D' := [.sh Kt, .sh Kd, .sh (.int (j : Int)), .sh (.int n), s4, s5]) (by simp only [xsAsg, e, out_ok]; rfl) ?_
  refine seq_nx' (D' := [.sh Kt, .sh Kd, .sh (.int (j : Int)), .sh (.int n), s4, s5]) (by simp [pn, a1, ii]) ?_
  simp [pn, a1, i1]
theorem dish_body {Kt Kd : Dt} {M N : List Dt} {j : Nat} {d : LD} {s3 s5 : Sl} (i2 : dIx Kd (.int 2) = .ok (.lst M)) (a2 : atI M (j : Int) = some (ldD d)) (an : atI N (j : Int) = some (dD d)) (hm : d.m.length ≤ 1000) :
    xb__law_kitchen_is_2 [.sh Kt, .sh Kd, .sh (.int (j : Int)), s3, .sh (.lst N), s5] = .nx [.sh Kt, .sh Kd, .sh (.int (j : Int)), s3, .sh (.lst N), .sh (ldD d)] := by
  have e := dish_is_eq d.name d.a d.b d.m hm
  have e : m__law_dish_is [dD d, .str d.name, .lst [.int d.a, .int d.b], .lst (d.m.map nd)] = .ok (.bl true) := e
  have j0 : dIx (ldD d) (.int 0) = .ok (.str d.name) := rfl
  have j1 : dIx (ldD d) (.int 1) = .ok (.int d.a) := rfl
  have j2 : dIx (ldD d) (.int 2) = .ok (.int d.b) := rfl
  have j3 : dIx (ldD d) (.int 3) = .ok (.lst (d.m.map nd)) := rfl
  generalize dD d = Y at *
  generalize ldD d = L at *
  refine seq_nx' (D' := [.sh Kt, .sh Kd, .sh (.int (j : Int)), s3, .sh (.lst N), .sh L]) (by simp [i2, a2]) ?_
  simp [an, j0, j1, j2, j3, e]
theorem is_gen {Kt Kd : Dt} {A B M N R1 R2 : List Dt} {hzn : Int} {t2 t3 u2 u5 : Sl} (i0 : dIx Kd (.int 0) = .ok (.lst A)) (i1 : dIx Kd (.int 1) = .ok (.lst B)) (i2 : dIx Kd (.int 2) = .ok (.lst M)) (pt : dProp "Kitchen" m_Kitchen_tools Kt = .ok (.tup A)) (pn : dProp "Kitchen" m_Kitchen_numbers Kt = .ok (.tup B))
    (ph : dProp "Kitchen" m_Kitchen_horizon Kt = .ok (.int hzn)) (lh : m__law_horizon [Kd] = .ok (.int hzn)) (pm : dProp "Kitchen" m_Kitchen_menu Kt = .ok (.lst N)) (neA : dNe (.tup A) (.tup A) = .ok (.bl false)) (lMN : N.length = M.length)
    (r1 : dRng1 [.int ((B.length : Nat) : Int)] = .ok R1) (l1 : xLoop (xgName 2) xb__law_kitchen_is_1 R1 [.sh Kt, .sh Kd, .no, .no, .no, .no] = .nx [.sh Kt, .sh Kd, t2, t3, .no, .no])
    (r2 : dRng1 [.int ((N.length : Nat) : Int)] = .ok R2) (l2 : xLoop (xgName 2) xb__law_kitchen_is_2 R2 [.sh Kt, .sh Kd, t2, t3, .sh (.lst N), .no] = .nx [.sh Kt, .sh Kd, u2, t3, .sh (.lst N), u5]) : m__law_kitchen_is [Kt, Kd] = .ok (.bl true) := by
  have ta := isi_tup A
  have tb := isi_tup B
  have tl : dIsi [.lst N, .ty "list"] = .ok (.bl true) := by simp [dIsi, Dt.tyN, kitB]
  have lb : dLen [.tup B] = .ok (.int ((B.length : Nat) : Int)) := rfl
  have ih := is_int hzn
  refine fun_rt (D := [.sh Kt, .sh Kd, .no, .no, .no, .no]) rfl rfl ?_
  refine seq_nx' (D' := [.sh Kt, .sh Kd, .no, .no, .no, .no]) (by simp [pt, pn, ta, tb]) ?_
  refine seq_nx' (D' := [.sh Kt, .sh Kd, .no, .no, .no, .no]) (by simp [pt, pn, i0, i1, neA, lb]) ?_
  have rr : (xRng1 (xCons (xCB dLen (xCons (x2 dIx (xVarB 1) (xC (.int 1))) xNil)) xNil)) [.sh Kt, .sh Kd, .no, .no, .no, .no] = .ok R1 := rg_gen (len_gen (by simp [i1])) r1
  refine seq_nx' (by rw [xsFor, rr]; exact l1) ?_
  refine seq_nx' (D' := [.sh Kt, .sh Kd, t2, t3, .no, .no]) (by simp [ph, ih, lh]) ?_
  refine seq_nx' (D' := [.sh Kt, .sh Kd, t2, t3, .sh (.lst N), .no]) (by simp [pm]) ?_
  refine seq_nx' (D' := [.sh Kt, .sh Kd, t2, t3, .sh (.lst N), .no]) (by simp [tl, i2, lMN]) ?_
  have rr2 : (xRng1 (xCons (xCB dLen (xCons (xVarB 4) xNil)) xNil)) [.sh Kt, .sh Kd, t2, t3, .sh (.lst N), .no] = .ok R2 := rg_gen (len_gen (by simp)) r2
  refine seq_nx' (by rw [xsFor, rr2]; exact l2) ?_
  simp
theorem strs_cmp (l : List Str) : cmpOk (.tup (l.map Dt.str)) = true := fl_cmp (n := 1) (fl_tup fun d hd => by
  obtain ⟨s, _, rfl⟩ := List.mem_map.mp hd
  exact fl_str _ _) (by decide)
theorem kitchen_is_eq {k : LK} (h : OkLK k) : m__law_kitchen_is [kt k, lkD k] = .ok (.bl true) := by
  have hf := h.few
  have hm := h.menu
  have i0 : dIx (lkD k) (.int 0) = .ok (.lst (k.names.map Dt.str)) := rfl
  have i1 : dIx (lkD k) (.int 1) = .ok (.lst (k.nums.map Dt.int)) := rfl
  have i2 : dIx (lkD k) (.int 2) = .ok (.lst (k.menu.map ldD)) := rfl
  have rg : ∀ n : Nat, n ≤ 1000 → dRng1 [.int ((n : Nat) : Int)] = .ok (rgD 0 n) := fun n hn => by
    have := dRng1_int (j := ((n : Nat) : Int)) ⟨by omega, by omega⟩
    rw [Int.toNat_natCast] at this
    exact this
  have nl := h.len
  have lp1 := loop_inv (xg := xgName 2) (xb := xb__law_kitchen_is_1) (fun i D => ∃ t2 t3, D = [.sh (kt k), .sh (lkD k), t2, t3, .no, .no])
    (rgD 0 k.nums.length) [.sh (kt k), .sh (lkD k), .no, .no, .no, .no] ⟨_, _, rfl⟩ (fun i d D hd hI => by
      obtain ⟨t2, t3, rfl⟩ := hI
      obtain ⟨hi, rfl⟩ := rgD_get hd
      rw [Int.zero_add]
      have hi1 : i < k.names.length := by omega
      have a0 : atI (k.names.map Dt.str) (i : Int) = some (.str k.names[i]) := by
        rw [atI_nat' (by omega) (by simp; omega)]
        simp [hi1]
      have a1 : atI (k.nums.map Dt.int) (i : Int) = some (.int k.nums[i]) := by
        rw [atI_nat' (by omega) (by simp; omega)]
        simp [hi]
      exact ⟨_, _, rfl, num_body i0 i1 a0 a1 (numbers_eq h) (fun D xo xa e1 e2 => number_eq h hi1 hi D xo xa e1 e2) t3, _, _, rfl⟩)
  obtain ⟨D1, l1, t2, t3, rfl⟩ := lp1
  have lp2 := loop_inv (xg := xgName 2) (xb := xb__law_kitchen_is_2) (fun i D => ∃ u2 u5, D = [.sh (kt k), .sh (lkD k), u2, t3, .sh (.lst (k.menu.map dD)), u5])
    (rgD 0 k.menu.length) [.sh (kt k), .sh (lkD k), t2, t3, .sh (.lst (k.menu.map dD)), .no] ⟨_, _, rfl⟩ (fun i d D hd hI => by
      obtain ⟨u2, u5, rfl⟩ := hI
      obtain ⟨hi, rfl⟩ := rgD_get hd
      rw [Int.zero_add]
      have a2 : atI (k.menu.map ldD) (i : Int) = some (ldD k.menu[i]) := by
        rw [atI_nat' (by omega) (by simp; omega)]
        simp [hi]
      have an : atI (k.menu.map dD) (i : Int) = some (dD k.menu[i]) := by
        rw [atI_nat' (by omega) (by simp; omega)]
        simp [hi]
      have ml : k.menu[i].m.length ≤ 1000 := by
        have := mrg_len k.menu[i].raw
        have := (h.dish _ (List.getElem_mem hi)).len
        show (mrg k.menu[i].raw).length ≤ 1000
        omega
      exact ⟨_, _, rfl, dish_body i2 a2 an ml, _, _, rfl⟩)
  obtain ⟨D2, l2, u2, u5, rfl⟩ := lp2
  exact is_gen i0 i1 i2 (tools_eq h) (numbers_eq h) (horizon_eq h) (lhorizon_eq k) (menu_eq k) (dNe_self (strs_cmp _)) (by simp) (by rw [List.length_map]; exact rg _ (by omega)) l1 (by rw [List.length_map]; exact rg _ (by omega)) l2
end Mx
namespace Mx
open PySem PySem.Spec PyProof.Rows L2
/-! ### dishes compared -/
theorem nd_eqv (x y : Nd) : PyData.eqv (nd x).py (nd y).py = decide (x = y) := by
  obtain ⟨a, b, c⟩ := x
  obtain ⟨a', b', c'⟩ := y
  simp [nd, Dt.py, pyL, PyData.eqv, PyData.eqvAll]
  rw [Bool.eq_iff_iff]
  simp
theorem nds_eqv : ∀ (m m' : List Nd), PyData.eqvAll (pyL (m.map nd)) (pyL (m'.map nd)) = decide (m = m')
  | [], [] => by simp [pyL, PyData.eqvAll]
  | [], _ :: _ => by simp [pyL, PyData.eqvAll]
  | _ :: _, [] => by simp [pyL, PyData.eqvAll]
  | x :: m, y :: m' => by
    simp only [List.map_cons, pyL, PyData.eqvAll]
    rw [nd_eqv, nds_eqv m m', Bool.eq_iff_iff]
    simp
theorem nds_fl (m : List Nd) : (Dt.tup (m.map nd)).fl 2 := fl_tup fun d hd => by
  obtain ⟨x, _, rfl⟩ := List.mem_map.mp hd
  exact nd_fl x
theorem nds_eq (m m' : List Nd) : dEq (.tup (m.map nd)) (.tup (m'.map nd)) = .ok (.bl (decide (m = m'))) := by
  unfold dEq
  rw [if_pos ⟨fl_cmp (nds_fl m) (by decide), fl_cmp (nds_fl m') (by decide)⟩]
  unfold dEqv
  simp only [Dt.py, PyData.eqv]
  rw [nds_eqv]
theorem isO_dish (n : Str) (a b : Int) (m : List Nd) : dIsO "Dish" (dish n a b m) = .ok (.bl true) := by unfold dish; simp
theorem eq_gen (d e : Dt) (n n' : Str) (a b a' b' : Int) (l l' : Dt) (z : Bool) (io : dIsO "Dish" e = .ok (.bl true)) (f1 : dFld "Dish" "name" d = .ok (.str n)) (f2 : dFld "Dish" "first" d = .ok (.int a)) (f3 : dFld "Dish" "second" d = .ok (.int b)) (f4 : dFld "Dish" "needs" d = .ok l)
    (g1 : dFld "Dish" "name" e = .ok (.str n')) (g2 : dFld "Dish" "first" e = .ok (.int a')) (g3 : dFld "Dish" "second" e = .ok (.int b')) (g4 : dFld "Dish" "needs" e = .ok l') (hl : dEq l l' = .ok (.bl z)) :
    m_Dish___eq__ [d, e] = .ok (.bl ((n == n') && (a == a') && (b == b') && z)) := by
  refine fun_rt (D := [.sh d, .sh e]) rfl rfl ?_
  cases h1 : n == n' <;> cases h2 : a == a' <;> cases h3 : b == b' <;> simp [xs_Dish___eq__, io, f1, f2, f3, f4, g1, g2, g3, g4, hl, h1, h2, h3]
theorem eq_dish (n n' : Str) (a b a' b' : Int) (m m' : List Nd) : m_Dish___eq__ [dish n a b m, dish n' a' b' m'] = .ok (.bl ((n == n') && (a == a') && (b == b') && decide (m = m'))) :=
  eq_gen _ _ n n' a b a' b' _ _ _ (isO_dish _ _ _ _) (d_name _ _ _ _) (d_first _ _ _ _) (d_second _ _ _ _) (d_needs _ _ _ _) (d_name _ _ _ _) (d_first _ _ _ _) (d_second _ _ _ _) (d_needs _ _ _ _) (nds_eq m m')
theorem dish_sc (n : Str) (a b : Int) (m : List Nd) : ∃ fs, dish n a b m = .ins "Dish" fs ∧ (fs.map (·.2)).all sc2 = true := by
  refine ⟨_, rfl, ?_⟩
  simp [sc2, sc0]
  intro x _
  simp [nd, sc1, sc0]
theorem eqO_any (d e : Dt) (n : Str) (a b : Int) (m : List Nd) (r : R Dt) (hd : d = dish n a b m) (he : eqOk "Dish" e) (h : m_Dish___eq__ [d, e] = r) : dEqO "Dish" m_Dish___eq__ d e = r := by
  obtain ⟨fs, e1, _⟩ := dish_sc n a b m
  rw [hd, e1] at h ⊢
  rw [dEqO_ins, if_pos ⟨rfl, he⟩, h]
theorem eqOk_dish (n : Str) (a b : Int) (m : List Nd) : eqOk "Dish" (dish n a b m) := by
  obtain ⟨fs, e1, _⟩ := dish_sc n a b m
  rw [e1]
  exact (eqOk_ins _ _ _).mpr rfl
end Mx
namespace Mx
open PySem PySem.Spec PyProof.Rows L2
theorem dtL_sh : ∀ l : List Dt, dtL (l.map Ow.sh) = l
  | [] => rfl
  | d :: l => by show d :: dtL (l.map Ow.sh) = _; rw [dtL_sh l]
theorem lkT_dt (k : LK) : (lkT k).dt = lkD k := by
  show Dt.lst [.lst _, .lst _, .lst (dtL ((k.menu.map ldD).map Ow.sh))] = _
  rw [dtL_sh]; rfl
theorem lkT_ch (k : LK) : owCh (lkT k) (.int 2) = .ok ((k.menu.map ldD).map Ow.sh) := rfl
theorem ow1_eq {k : LK} {D : Ds} (h : D[1]? = some (.ow (lkT k))) : xOw1 1 (xC (.int 2)) D = .ok (.lst (k.menu.map ldD)) := by
  unfold xOw1
  rw [h]
  show (match owCh (lkT k) (.int 2) with
    | .ok l' => (opt (owShs l')).bind fun ds => R.ok (Dt.lst ds)
    | _ => .bad) = _
  rw [lkT_ch]
  simp only
  rw [owShs_map]
  rfl
/-- the same kitchen, its last dish once more the first one -/
def twice1 (k : LK) (d : LD) : LK := ⟨k.names, k.nums, k.menu.set (k.menu.length - 1) d⟩
theorem twice1_ok {k : LK} (h : OkLK k) {d : LD} (hd : d ∈ k.menu) : OkLK (twice1 k d) := ⟨h.len, h.few, h.nd, h.nms, h.num, by show (k.menu.set _ _).length ≤ 8; rw [List.length_set]; exact h.menu, fun x hx => by
  rcases List.mem_or_eq_of_mem_set hx with m | rfl
  · exact h.dish x m
  · exact h.dish x hd⟩
theorem set2_eq {k : LK} {d : LD} {F : Sl} {r : Ds} (hl : 1 < k.menu.length) (hl2 : k.menu.length ≤ 8) (hd : k.menu[0]? = some d) : xsSet2 1 (xC (.int 2)) (x1 dNeg (xC (.int 1))) (x2 dIx (xOw1 1 (xC (.int 2))) (xC (.int 0))) (F :: .ow (lkT k) :: r) = .nx (F :: .ow (lkT (twice1 k d)) :: r) := by
  have o := ow1_eq (k := k) (D := F :: .ow (lkT k) :: r) rfl
  have a0 : dIx (.lst (k.menu.map ldD)) (.int 0) = .ok (ldD d) := by
    rw [dIx_lst, atI_nat' (by omega) (by rw [List.length_map]; omega)]
    simp [hd]
  have e1 : (x2 dIx (xOw1 1 (xC (.int 2))) (xC (.int 0))) (F :: .ow (lkT k) :: r) = .ok (ldD d) := by
    simp only [x2, o, bind_ok, xC, a0]
  unfold xsSet2
  rw [e1]
  simp only [out_ok, List.getElem?_cons_succ, List.getElem?_cons_zero, xC, lkT_ch]
  have en : x1 dNeg (xC (.int 1)) (F :: .ow (lkT k) :: r) = .ok (.int (-1)) := rfl
  simp only [x1, xC, bind_ok, dNeg, out_ok]
  have ix : ixN ((k.menu.map ldD).map Ow.sh).length (-1) = some (k.menu.length - 1) := by
    unfold ixN
    rw [List.length_map, List.length_map, if_neg (by omega), if_pos (by omega)]
    congr 1; omega
  have at1 : atI ((k.menu.map ldD).map Ow.sh) (-1) = some (.sh (ldD k.menu[k.menu.length - 1])) := by
    unfold atI
    rw [ix]
    show ((k.menu.map ldD).map Ow.sh)[k.menu.length - 1]? = _
    rw [List.getElem?_map, List.getElem?_map, List.getElem?_eq_getElem (by omega)]
    rfl
  have g : owGet ((k.menu.map ldD).map Ow.sh) (.int (-1)) = .ok (ldD k.menu[k.menu.length - 1]) := by
    show (match atI ((k.menu.map ldD).map Ow.sh) (-1) with
      | some (.sh d) => R.ok d
      | _ => .bad) = _
    rw [at1]
  rw [g]
  simp only [out_ok]
  have i2 : ixN 3 2 = some 2 := by decide
  have p := owPut_of (l := [.sh (.lst (k.names.map Dt.str)), .sh (.lst (k.nums.map Dt.int)), .ol ((k.menu.map ldD).map Ow.sh)]) (l' := (k.menu.map ldD).map Ow.sh) (kk := 2) (jj := -1) (n := 2) (m := k.menu.length - 1) (d := ldD d) i2 rfl ix
  have p : owPut (ldD d) (lkT k) (.int 2) (.int (-1)) = .ok (lkT (twice1 k d)) := by
    refine Eq.trans p ?_
    show R.ok (Ow.ol [.sh _, .sh _, .ol (((k.menu.map ldD).map Ow.sh).set (k.menu.length - 1) (.sh (ldD d)))]) = R.ok (Ow.ol [.sh _, .sh _, .ol (((k.menu.set (k.menu.length - 1) d).map ldD).map Ow.sh)])
    rw [List.map_set, List.map_set]
    rfl
  rw [p]
  rfl
theorem kitchen_okM {k : LK} (h : OkLK k) : mM0_Kitchen___init__ [.lst ((prs k).map prD), .lst (k.menu.map dD)] = .ok (ktF k) := by
  have hp : ∀ p ∈ prs k, Nm p.1 ∧ 0 ≤ p.2 := fun p hp => by
    obtain ⟨h1, h2⟩ := List.of_mem_zip hp
    exact ⟨h.nms _ h1, (h.num _ h2).1⟩
  have nd : ((prs k).map (·.1)).Nodup := by rw [prs_names h]; exact h.nd
  have pl : (prs k).length ≤ 1000 := by
    have := h.few
    unfold prs; rw [List.length_zip]; omega
  have e1 := check_tools_ok hp nd pl
  have e2 := dDict_eq nd
  have e3 : m__check_menu [.lst (k.menu.map dD), .dk ((prs k).map kvP)] = .ok .non := check_menu_ok fun d hd x hx => kvs_mem h (m_tool (h.dish d hd) hx).1
  have nf : Str.ofString "_numbers" ≠ Str.ofString "_menu" := by decide +kernel
  have nk := nfK
  have k1 : ∀ a b : Dt, List.lookup (Str.ofString "_menu") [(Str.ofString "_numbers", a), (Str.ofString "_menu", b)] = some b := fun a b => by simp [List.lookup, nk]
  have k2 : ∀ a b : Dt, List.lookup (Str.ofString "_numbers") [(Str.ofString "_numbers", a), (Str.ofString "_menu", b)] = some a := fun a b => by simp [List.lookup]
  generalize (prs k).map prD = P at *
  unfold ktF kvs
  generalize k.menu.map dD = M at *
  generalize (prs k).map kvP = N at *
  simp only [mM0_Kitchen___init__, runIM, slM, xs_Kitchen___init__, List.length_cons, List.length_nil, List.map_cons, List.map_nil, List.replicate, List.cons_append, List.nil_append]
  simp [e1, e2, putG, nf, dFld, k1, k2, e3]
theorem funR_rt {k n : Nat} {xr : XR} {ds : List Dt} {D : Ds} {l : List Dt} (hl : ds.length = k) (hD : ds.map Sl.sh ++ List.replicate (n - ds.length) .no = D) (h : xr D = .rt l) : funR k n xr ds = .ok l := by
  unfold funR runR; rw [if_pos hl, hD, h]
theorem retR_gen {F : Mx.XA} {D : Ds} {l : List Dt} (h : F D = .ok l) : xrRet F D = .rt l := by
  simp [h]
theorem lcL_gen {xi : Mx.XA} {xg : XG} {xt : XT} {xe : XE} {vs : List Nat} {D : Ds} {l r : List Dt} (h1 : xi D = .ok l) (h2 : xComp xg xt xe (wipeD D vs) l [] = .ok r) : (xLc xi xg xt xe vs) D = .ok r := by
  simp [h1, h2]
theorem ltoolsL_gen {Kd : Dt} {A PP : List Dt} (i0 : dIx Kd (.int 0) = .ok (.lst A)) (hr : dRng1 [.int ((A.length : Nat) : Int)] = .ok (rgD 0 A.length)) (c2 : xComp (xgName 1) xYes xe__law_tools_2 [.sh Kd, .no] (rgD 0 A.length) [] = .ok PP) : mL__law_tools [Kd] = .ok PP := by
  have w : wipeD [.sh Kd, .no] [1] = [.sh Kd, .no] := rfl
  have rr : (xRng1 (xCons (xCB dLen (xCons (x2 dIx (xVarB 0) (xC (.int 0))) xNil)) xNil)) [.sh Kd, .no] = .ok (rgD 0 A.length) := rg_gen (len_gen (by simp [i0])) hr
  exact funR_rt (D := [.sh Kd, .no]) rfl rfl (retR_gen (lcL_gen rr (by rw [w]; exact c2)))
theorem ltoolsL_eq {k : LK} (h : OkLK k) : mL__law_tools [lkD k] = .ok ((prs k).map prD) := by
  have i0 : dIx (lkD k) (.int 0) = .ok (.lst (k.names.map Dt.str)) := rfl
  have i1 : dIx (lkD k) (.int 1) = .ok (.lst (k.nums.map Dt.int)) := rfl
  have hf := h.few
  have pl := prs_len h
  generalize lkD k = Kd at *
  have c2 := comp_map (xg := xgName 1) (xe := xe__law_tools_2) (D0 := [.sh Kd, .no]) (f := ixF (prs k) (("" : String), 0) prD) (rgD 0 (prs k).length) [] (fun d hd => by
      obtain ⟨j, hj, rfl⟩ := rgD_mem hd
      have hj1 : j < k.names.length := by omega
      have hj2 : j < k.nums.length := by rw [h.len]; exact hj1
      have a1 : atI (k.names.map Dt.str) (0 + (j : Int)) = some (.str k.names[j]) := by
        rw [atI_nat' (by omega) (by simp; omega)]
        simp [hj1]
      have a2 : atI (k.nums.map Dt.int) (0 + (j : Int)) = some (.int k.nums[j]) := by
        rw [atI_nat' (by omega) (by simp; omega)]
        simp [hj2]
      have a3 := prs_at h hj1 hj2
      refine ⟨[.sh Kd, .sh (.int (0 + (j : Int)))], rfl, ?_⟩
      rw [Int.zero_add] at a1 a2 ⊢
      simp [xe__law_tools_2, i0, i1, a1, a2, a3, prD, ixF]) (by rw [rgD_len]; simp; omega)
  rw [List.nil_append, rgD_ixF, pl] at c2
  have hr : dRng1 [.int (((k.names.map Dt.str).length : Nat) : Int)] = .ok (rgD 0 k.names.length) := by
    have := dRng1_int (j := ((k.names.length : Nat) : Int)) ⟨by omega, by omega⟩
    rw [Int.toNat_natCast] at this
    rw [List.length_map]
    exact this
  exact ltoolsL_gen i0 (by rw [hr, List.length_map]) (by rw [List.length_map]; exact c2)
theorem ldishesL_eq {k : LK} (h : OkLK k) : mL__law_dishes [lkD k] = .ok (k.menu.map dD) := by
  have i2 : dIx (lkD k) (.int 2) = .ok (.lst (k.menu.map ldD)) := rfl
  have hm := h.menu
  generalize lkD k = Kd at *
  have : ∀ (M : List LD) (acc : List Dt), (∀ d ∈ M, OkLD k.names d) → acc.length + M.length ≤ 1000 → xComp (xgName 1) xYes xe__law_dishes_2 [.sh Kd, .no] (M.map ldD) acc = .ok (acc ++ M.map dD) := by
    intro M
    induction M with
    | nil => intro acc _ _; simp [xComp]
    | cons d M ih =>
      intro acc hM hl
      simp only [List.length_cons] at hl
      have e := okD_init (m_ok h.nms (hM d List.mem_cons_self)) d.a d.b
      have em : mrg d.m = d.m := mrg_id (srt_mrg d.raw)
      rw [em] at e
      have j0 : dIx (ldD d) (.int 0) = .ok (.str d.name) := rfl
      have j1 : dIx (ldD d) (.int 1) = .ok (.int d.a) := rfl
      have j2 : dIx (ldD d) (.int 2) = .ok (.int d.b) := rfl
      have j3 : dIx (ldD d) (.int 3) = .ok (.lst (d.m.map nd)) := rfl
      rw [List.map_cons]
      unfold xComp
      have ee : xe__law_dishes_2 [.sh Kd, .sh (ldD d)] = .ok (dD d) := by
        simp [xe__law_dishes_2, j0, j1, j2, j3, gD_0, e, dD, dish]
      simp only [xgName, List.set_cons_succ, List.set_cons_zero, xYes, ee]
      rw [if_pos (by omega), ih (acc ++ [dD d]) (fun x hx => hM x (List.mem_cons_of_mem _ hx)) (by simp; omega)]
      simp
  have c := this k.menu [] h.dish (by simp; omega)
  rw [List.nil_append] at c
  have it : xItems (x2 dIx (xVarB 0) (xC (.int 2))) [.sh Kd, .no] = .ok (k.menu.map ldD) := by simp [i2]
  exact funR_rt (D := [.sh Kd, .no]) rfl rfl (retR_gen (lcL_gen (vs := [1]) it c))
theorem menuL_eq (k : LK) : dPropL "Kitchen" mL_Kitchen_menu (kt k) = .ok (k.menu.map dD) := by
  have e1 : mL_Kitchen_menu [kt k] = .ok (k.menu.map dD) := by
    refine funR_rt (D := [.sh (kt k)]) rfl rfl ?_
    simp [xr_Kitchen_menu]
  unfold kt at e1 ⊢
  simp [e1]
end Mx
namespace Mx
open PySem PySem.Spec PyProof.Rows L2
theorem fzw_1 {a0 : Sl} {t : Ow} {r : Ds} : FrzW 1 (a0 :: .ow t :: r) = a0 :: .sh t.dt :: r := rfl
theorem fzw_s {a0 : Sl} {d : Dt} {r : Ds} : FrzW 1 (a0 :: .sh d :: r) = a0 :: .sh d :: r := rfl
/-- the same kitchen turned round -/
def backK (k : LK) : LK := ⟨k.names.reverse, k.nums.reverse, k.menu⟩
theorem back_ok {k : LK} (h : OkLK k) : OkLK (backK k) where
  len := by show k.nums.reverse.length = k.names.reverse.length; rw [List.length_reverse, List.length_reverse]; exact h.len
  few := by show k.names.reverse.length ≤ 6; rw [List.length_reverse]; exact h.few
  nd := (List.reverse_perm k.names).nodup_iff.mpr h.nd
  nms := fun s m => h.nms s (List.mem_reverse.mp m)
  num := fun i m => h.num i (List.mem_reverse.mp m)
  menu := h.menu
  dish := fun d m => by
    have o := h.dish d m
    exact ⟨o.nm, o.ne, o.len, o.wa, o.wb, fun x hx => by
      obtain ⟨a, b, c, e⟩ := o.ok x hx
      exact ⟨a, b, List.mem_reverse.mpr c, e⟩⟩
theorem prD_fl (p : Str × Int) : (prD p).fl 1 := fl_tup fun d hd => by
  simp only [List.mem_cons, List.not_mem_nil, or_false] at hd
  rcases hd with rfl | rfl
  · exact fl_str _ _
  · exact fl_int _ _
theorem prs_cmp (l : List (Str × Int)) : cmpOk (.lst (l.map prD)) = true := fl_cmp (n := 2) (fl_lst fun d hd => by
  obtain ⟨p, _, rfl⟩ := List.mem_map.mp hd
  exact prD_fl p) (by decide)
theorem eqO_self (d : LD) : dEqO "Dish" m_Dish___eq__ (dD d) (dD d) = .ok (.bl true) := by
  refine eqO_any _ _ d.name d.a d.b d.m _ rfl (eqOk_dish _ _ _ _) ?_
  unfold dD
  rw [eq_dish]
  simp
theorem same_loop {s0 s1 s2 s5 s7 s8 s9 : Sl} (M : List LD) (hM : M.length ≤ 100) : ∃ s6, xLoop (xgName 6) xb_law_1 (rgD 0 M.length) [s0, s1, s2, .ol (M.map dD), .sh (.lst (M.map dD)), s5, .no, s7, s8, s9] = .nx [s0, s1, s2, .ol (M.map dD), .sh (.lst (M.map dD)), s5, s6, s7, s8, s9] := by
  have L := loop_inv (xg := xgName 6) (xb := xb_law_1) (fun i D => ∃ s6, D = [s0, s1, s2, .ol (M.map dD), .sh (.lst (M.map dD)), s5, s6, s7, s8, s9]) (rgD 0 M.length) [s0, s1, s2, .ol (M.map dD), .sh (.lst (M.map dD)), s5, .no, s7, s8, s9] ⟨_, rfl⟩ (fun i d D hd hI => by
    obtain ⟨s6, rfl⟩ := hI
    obtain ⟨hi, rfl⟩ := rgD_get hd
    rw [Int.zero_add]
    have ix : dIx (.lst (M.map dD)) (.int (i : Int)) = .ok (dD M[i]) := by
      rw [dIx_lst, atI_nat' (by omega) (by rw [List.length_map]; omega)]
      simp [hi]
    have e := eqO_self M[i]
    refine ⟨_, [s0, s1, s2, .ol (M.map dD), .sh (.lst (M.map dD)), s5, .sh (.int (i : Int)), s7, s8, s9], rfl, ?_, _, rfl⟩
    generalize M.map dD = MM at *
    generalize dD M[i] = d at *
    unfold xb_law_1
    generalize hg : dEqO "Dish" m_Dish___eq__ = g at *
    simp -implicitDefEqProofs [-dIx_lst, ix, hg, e])
  obtain ⟨D', L, s6, rfl⟩ := L
  exact ⟨s6, L⟩
end Mx
namespace Mx
open PySem PySem.Spec PyProof.Rows L2
abbrev tailK : XS := (xsSeq (xsFrzW 1 (xsAsgL 2 (xCallL mL__law_tools (xCons (xVar 1) xNil))))
    (xsSeq (xsFrzW 1 (xsAsgL 3 (xCallL mL__law_dishes (xCons (xVar 1) xNil))))
    (xsSeq (xsAsg 4 (xL (xCBL dList (xCons (xVarB 3) xNil))))
    (xsSeq (xsAsg 5 (xMakeM "Kitchen" 2 mM0_Kitchen___init__ (xCons (xLent 2) (xCons (xLent 3) xNil))))
    (xsSeq (xsIf (xOr (xTest (x2 dNe (xVarB 2) (xCall m__law_tools (xCons (xVar 1) xNil)))) (xTest (x2 dNe (xCB dLen (xCons (xVarB 3) xNil)) (xCB dLen (xCons (xVarB 4) xNil))))) (xsRet (xC (.bl false))) xsNext)
    (xsSeq (xsFor (xRng1 (xCons (xCB dLen (xCons (xVarB 4) xNil)) xNil)) (xgName 6) xb_law_1)
    (xsSeq (xsIf (xNot (xTest (xCall m__law_kitchen_is (xCons (xVar 5) (xCons (xVar 1) xNil))))) (xsRet (xC (.bl false))) xsNext)
    (xsSeq (xsClear 2)
    (xsSeq (xsApp 3 (xMake "Dish" 2 1 m_Dish___init__ gD_2 (xCons (xC (.str "late")) (xCons (xL (xLst (xCons (xTup (xCons (xC (.int 90)) (xCons (xC (.str "pan")) (xCons (xC (.int 1)) xNil)))) xNil))) xNil)) (xCons (xC (.int 4)) xNil)))
    (xsSeq (xsAsgL 7 (x1L (dPropL "Kitchen" mL_Kitchen_menu) (xVar 5)))
    (xsSeq (xsClear 7)
    (xsSeq (xsFrzW 1 (xsAsg 8 (xL (xLst (xCons (xL (xRev (x2 dIx (xVarB 1) (xC (.int 0))))) (xCons (xL (xRev (x2 dIx (xVarB 1) (xC (.int 1))))) (xCons (x2 dIx (xVarB 1) (xC (.int 2))) xNil)))))))
    (xsSeq (xsAsg 9 (xMake "Kitchen" 2 0 m_Kitchen___init__ gD_1 (xCons (xCall m__law_tools (xCons (xVar 8) xNil)) (xCons (xCall m__law_dishes (xCons (xVar 8) xNil)) xNil)) xNil))
    (xsFrzW 1 (xsRet (xAndV (xCall m__law_kitchen_is (xCons (xVar 5) (xCons (xVar 1) xNil))) (xAndV (xCall m__law_kitchen_is (xCons (xVar 9) (xCons (xVar 8) xNil))) (xCall m__law_kitchen_is (xCons (xVar 5) (xCons (xVar 1) xNil))))))))))))))))))))
theorem rv_eq {Kd : Dt} {A : List Dt} {i : Int} {D : Ds} (h : D[1]? = some (.sh Kd)) (i0 : dIx Kd (.int i) = .ok (.lst A)) : (xL (xRev (x2 dIx (xVarB 1) (xC (.int i))))) D = .ok (.lst A.reverse) := by
  have it : dItems (.lst A) = .ok A := rfl
  simp [h, i0, it]
theorem law_gen {F Kd Kt Kb Kt2 : Dt} {t : Ow} {A B M0 T M T2 M2 rg : List Dt} {fs fs2 fs3 : List (Str × Dt)} {L : Int} {s6 : Sl}
    (dt : t.dt = Kd) (hT : mL__law_tools [Kd] = .ok T) (hM : mL__law_dishes [Kd] = .ok M) (hK : mM0_Kitchen___init__ [.lst T, .lst M] = .ok fs) (ek : Dt.ins "Kitchen" fs = Kt)
    (hT' : m__law_tools [Kd] = .ok (.lst T)) (cT : dNe (.lst T) (.lst T) = .ok (.bl false)) (lM : dLen [.lst M] = .ok (.int L)) (rr : dRng1 [.int L] = .ok rg)
    (lp : xLoop (xgName 6) xb_law_1 rg [.sh F, .sh Kd, .ol T, .ol M, .sh (.lst M), .sh Kt, .no, .no, .no, .no] = .nx [.sh F, .sh Kd, .ol T, .ol M, .sh (.lst M), .sh Kt, s6, .no, .no, .no])
    (ki : m__law_kitchen_is [Kt, Kd] = .ok (.bl true)) (hd : m_Dish___init__ [.str "late", .lst [.tup [.int 90, .str "pan", .int 1]], .int 4, .int 0] = .ok fs2) (ml : M.length < 1000000) (mn : dPropL "Kitchen" mL_Kitchen_menu Kt = .ok M)
    (i0 : dIx Kd (.int 0) = .ok (.lst A)) (i1 : dIx Kd (.int 1) = .ok (.lst B)) (i2 : dIx Kd (.int 2) = .ok (.lst M0)) (eb : Dt.lst [.lst A.reverse, .lst B.reverse, .lst M0] = Kb) (hT2 : m__law_tools [Kb] = .ok (.lst T2)) (hM2 : m__law_dishes [Kb] = .ok (.lst M2))
    (hK2 : m_Kitchen___init__ [.lst T2, .lst M2] = .ok fs3) (ek2 : Dt.ins "Kitchen" fs3 = Kt2) (ki2 : m__law_kitchen_is [Kt2, Kb] = .ok (.bl true)) : tailK [.sh F, .ow t, .no, .no, .no, .no, .no, .no, .no, .no] = .rt (.bl true) := by
  have itA : dItems (.lst A) = .ok A := rfl
  have itB : dItems (.lst B) = .ok B := rfl
  have dl : dList [.lst M] = .ok M := rfl
  unfold tailK
  generalize mL__law_tools = f1 at *
  generalize mL__law_dishes = f2 at *
  generalize mM0_Kitchen___init__ = f3 at *
  generalize m__law_tools = f4 at *
  generalize xb_law_1 = x1 at *
  generalize m__law_kitchen_is = f5 at *
  generalize m_Dish___init__ = f6 at *
  generalize hg : dPropL "Kitchen" mL_Kitchen_menu = g at *
  generalize m__law_dishes = f7 at *
  generalize m_Kitchen___init__ = f8 at *
  refine seqE ?_; conv => lhs; arg 1; simp -implicitDefEqProofs [fzw_1, dt, hT]
  refine seqN ?_
  refine seqE ?_; conv => lhs; arg 1; simp -implicitDefEqProofs [fzw_s, hM]
  refine seqN ?_
  refine seqE ?_; conv => lhs; arg 1; simp -implicitDefEqProofs [-dList, dl]
  refine seqN ?_
  refine seqE ?_; conv => lhs; arg 1; simp -implicitDefEqProofs [hK, ek]
  refine seqN ?_
  refine seqE ?_; conv => lhs; arg 1; simp -implicitDefEqProofs [hT', cT, lM]
  refine seqN ?_
  refine seqE ?_; conv => lhs; arg 1; simp -implicitDefEqProofs [lM, rr, lp]
  refine seqN ?_
  refine seqE ?_; conv => lhs; arg 1; simp -implicitDefEqProofs [ki]
  refine seqN ?_
  refine seqE ?_; conv => lhs; arg 1; simp -implicitDefEqProofs 
  refine seqN ?_
  refine seqE ?_; conv => lhs; arg 1; simp -implicitDefEqProofs [gD_2, hd, ml]
  refine seqN ?_
  refine seqE ?_; conv => lhs; arg 1; simp -implicitDefEqProofs [hg, mn]
  refine seqN ?_
  refine seqE ?_; conv => lhs; arg 1; simp -implicitDefEqProofs 
  refine seqN ?_
  refine seq_nx' (D' := [.sh F, .sh Kd, .ol [], .ol (M ++ [.ins "Dish" fs2]), .sh (.lst M), .sh Kt, s6, .ol [], .sh Kb, .no]) (by simp -implicitDefEqProofs [fzw_s, i0, i1, i2, itA, itB, eb]) ?_
  refine seqE ?_; conv => lhs; arg 1; simp -implicitDefEqProofs [gD_1, hT2, hM2, hK2, ek2]
  refine seqN ?_
  simp -implicitDefEqProofs [fzw_s, ki, ki2]
theorem row2 {k : LK} (h : OkLK k) {F : Dt} {c0 v : Int} (p0 : m__law_pick [F, .int 0] = .ok (.int c0)) (d12 : m__law_draw [.int c0, .int 12, .int 2] = .ok (.int v)) : ∃ k', OkLK k' ∧ (xsIf (xAnd (xTest (x2 dGt (xCB dLen (xCons (xOw1 1 (xC (.int 2))) xNil)) (xC (.int 1)))) (xTest (x2 dEq (xCall m__law_draw (xCons (xCall m__law_pick (xCons (xVar 0) (xCons (xC (.int 0)) xNil))) (xCons (xC (.int 12)) (xCons (xC (.int 2)) xNil)))) (xC (.int 0))))) (xsSet2 1 (xC (.int 2)) (x1 dNeg (xC (.int 1))) (x2 dIx (xOw1 1 (xC (.int 2))) (xC (.int 0)))) xsNext) [.sh F, .ow (lkT k), .no, .no, .no, .no, .no, .no, .no, .no] = .nx [.sh F, .ow (lkT k'), .no, .no, .no, .no, .no, .no, .no, .no] := by
  have o := ow1_eq (k := k) (D := [.sh F, .ow (lkT k), .no, .no, .no, .no, .no, .no, .no, .no]) rfl
  have ln : dLen [.lst (k.menu.map ldD)] = .ok (.int ((k.menu.length : Nat) : Int)) := by
    have : dLen [.lst (k.menu.map ldD)] = .ok (.int (((k.menu.map ldD).length : Nat) : Int)) := rfl
    rw [this, List.length_map]
  have hm := h.menu
  by_cases h1 : 1 < k.menu.length
  · have h1' : (1 : Int) < (k.menu.length : Int) := by omega
    by_cases hv : v = 0
    · subst hv
      have hd : k.menu[0]? = some (k.menu[0]'(by omega)) := List.getElem?_eq_getElem _
      refine ⟨twice1 k (k.menu[0]'(by omega)), twice1_ok h (List.getElem_mem _), ?_⟩
      have st := set2_eq (F := .sh F) (r := [.no, .no, .no, .no, .no, .no, .no, .no]) h1 hm hd
      generalize xsSet2 1 (xC (.int 2)) (x1 dNeg (xC (.int 1))) (x2 dIx (xOw1 1 (xC (.int 2))) (xC (.int 0))) = st2 at *
      generalize (xOw1 1 (xC (.int 2))) = rd at *
      generalize m__law_pick = f1 at *
      generalize m__law_draw = f2 at *
      generalize k.menu.map ldD = MM at *
      generalize (k.menu.length : Int) = N at *
      simp -implicitDefEqProofs [o, ln, h1', p0, d12, st]
    · refine ⟨k, h, ?_⟩
      generalize xsSet2 1 (xC (.int 2)) (x1 dNeg (xC (.int 1))) (x2 dIx (xOw1 1 (xC (.int 2))) (xC (.int 0))) = st2 at *
      generalize (xOw1 1 (xC (.int 2))) = rd at *
      generalize m__law_pick = f1 at *
      generalize m__law_draw = f2 at *
      generalize k.menu.map ldD = MM at *
      generalize (k.menu.length : Int) = N at *
      simp -implicitDefEqProofs [o, ln, h1', p0, d12, hv]
  · have h1' : ¬ (1 : Int) < (k.menu.length : Int) := by omega
    refine ⟨k, h, ?_⟩
    generalize xsSet2 1 (xC (.int 2)) (x1 dNeg (xC (.int 1))) (x2 dIx (xOw1 1 (xC (.int 2))) (xC (.int 0))) = st2 at *
    generalize (xOw1 1 (xC (.int 2))) = rd at *
    generalize m__law_pick = f1 at *
    generalize m__law_draw = f2 at *
    generalize k.menu.map ldD = MM at *
    generalize (k.menu.length : Int) = N at *
    simp -implicitDefEqProofs [o, ln, h1']
theorem late_ok : ∃ fs2, m_Dish___init__ [.str "late", .lst [.tup [.int 90, .str "pan", .int 1]], .int 4, .int 0] = .ok fs2 := by
  have n1 : Nm (Str.ofString "late") := nm_of (by decide +kernel)
  have n2 : Nm (Str.ofString "pan") := nm_of (by decide +kernel)
  exact ⟨_, okD_init (n := Str.ofString "late") (raw := [(90, Str.ofString "pan", 1)]) ⟨n1, by simp, by simp, fun x hx => by
    simp only [List.mem_cons, List.not_mem_nil, or_false] at hx
    subst hx
    exact ⟨by decide, n2, by decide⟩⟩ 4 0⟩
theorem law_true (ns : List Int) (hl : ns.length ≤ 63) : m_law [.frl (ns.map Dt.int)] = .ok (.bl true) := by
  obtain ⟨k0, ok0, _, _, _, hb⟩ := broad_eq ns (least := 0) (by decide) (by decide)
  have p0 := pick_eq ns 0 (by decide)
  have d12 := draw_eq (pick ns 0) 12 2 (by decide) (by decide) (by decide)
  obtain ⟨k, ok, e2⟩ := row2 ok0 p0 d12
  have okb := back_ok ok
  obtain ⟨fs2, hd⟩ := late_ok
  have lM : dLen [.lst (k.menu.map dD)] = .ok (.int ((k.menu.length : Nat) : Int)) := by
    have : dLen [.lst (k.menu.map dD)] = .ok (.int (((k.menu.map dD).length : Nat) : Int)) := rfl
    rw [this, List.length_map]
  have hm := ok.menu
  have rr := dRng1_int (j := ((k.menu.length : Nat) : Int)) ⟨by omega, by omega⟩
  rw [Int.toNat_natCast] at rr
  obtain ⟨s6, lp⟩ := same_loop (s0 := .sh (.frl (ns.map Dt.int))) (s1 := .sh (lkD k)) (s2 := .ol ((prs k).map prD)) (s5 := .sh (kt k)) (s7 := .no) (s8 := .no) (s9 := .no) k.menu (by omega)
  have eb : Dt.lst [.lst (k.names.map Dt.str).reverse, .lst (k.nums.map Dt.int).reverse, .lst (k.menu.map ldD)] = lkD (backK k) := by
    unfold lkD backK
    simp only [List.map_reverse]
  have g := law_gen (F := .frl (ns.map Dt.int)) (lkT_dt k) (ltoolsL_eq ok) (ldishesL_eq ok) (kitchen_okM ok) rfl (ltools_eq ok) (dNe_self (prs_cmp _)) lM rr lp (kitchen_is_eq ok) hd (by rw [List.length_map]; omega) (menuL_eq k) (i0 := rfl) (i1 := rfl) (i2 := rfl) eb (ltools_eq okb) (ldishes_eq okb) (kitchen_ok okb) rfl (kitchen_is_eq okb)
  refine fun_rt (D := [.sh (.frl (ns.map Dt.int)), .no, .no, .no, .no, .no, .no, .no, .no, .no]) rfl rfl ?_
  refine seq_nx' (D' := [.sh (.frl (ns.map Dt.int)), .ow (lkT k0), .no, .no, .no, .no, .no, .no, .no, .no]) (by
    generalize Dt.frl (ns.map Dt.int) = F at *
    generalize mT__law_broad = f at *
    simp -implicitDefEqProofs [hb]) ?_
  exact seq_nx' e2 g
end Mx
namespace Mx
open PySem PySem.Spec PyProof.Rows L2
theorem all_mk {l : PySem.W.OpenLaw} {w : World} {K : Fr} {h : Heap} {mg : Str → Option Value} (X : K.In h) (G : h.Ns mainGlobals mg) {fa f0 f1 f2 f3 f4 f5 f6 f7 f8 f9 f10 f11 f12 f13 f14 f15 f16 f17 f18 f19 f20 f21 f22 f23 f24 f25 f26 f27 f28 C0 C1 C2 C3 C4 Q0 Q1 Q2 Q3 Q4 : Addr} {od0 an0 od1 an1 od2 an2 od3 an3 od4 an4 od5 an5 od6 an6 od7 an7 od8 an8 od9 an9 od10 an10 od11 an11 od12 an12 od13 an13 od14 an14 od15 an15 od16 an16 od17 an17 od18 an18 od19 an19 od20 an20 od21 an21 od22 an22 od23 an23 od24 an24 od25 an25 od26 an26 od27 an27 od28 an28 : Option Addr} {sl0 sl1 sl2 sl3 sl4 sl5 sl6 sl7 sl8 sl9 sl10 sl11 sl12 sl13 sl14 sl15 sl16 sl17 sl18 sl19 sl20 sl21 sl22 sl23 sl24 sl25 sl26 sl27 sl28 : Array (Option Value)} {oc0 dc0 pm0 cd0 ct0 kV0 oc1 dc1 pm1 cd1 ct1 kV1 oc2 dc2 pm2 cd2 ct2 kV2 oc3 dc3 pm3 cd3 ct3 kV3 oc4 dc4 pm4 cd4 ct4 kV4 oc5 dc5 pm5 cd5 ct5 kV5 oc6 dc6 pm6 cd6 ct6 kV6 oc7 dc7 pm7 cd7 ct7 kV7 oc8 dc8 pm8 cd8 ct8 kV8 oc9 dc9 pm9 cd9 ct9 kV9 oc10 dc10 pm10 cd10 ct10 kV10 oc11 dc11 pm11 cd11 ct11 oc12 dc12 pm12 cd12 ct12 kV12 oc13 dc13 pm13 cd13 ct13 kV13 oc14 dc14 pm14 cd14 ct14 kV14 oc15 dc15 pm15 cd15 ct15 kV15 oc16 dc16 pm16 cd16 ct16 kV16 oc17 dc17 pm17 cd17 ct17 kV17 oc18 dc18 pm18 cd18 ct18 kV18 oc19 dc19 pm19 cd19 ct19 kV19 oc20 dc20 pm20 cd20 ct20 kV20 oc21 dc21 pm21 cd21 ct21 kV21 oc22 dc22 pm22 cd22 ct22 kV22 oc23 dc23 pm23 cd23 ct23 kV23 oc24 dc24 pm24 cd24 ct24 kV24 oc25 dc25 pm25 cd25 ct25 kV25 oc26 dc26 pm26 cd26 ct26 kV26 oc27 dc27 pm27 cd27 ct27 kV27 oc28 dc28 pm28 cd28 ct28 kV28 : Value} {g0 gc0_ gk0_ hN0 : Addr} {go0 gdoc0 gpm0 gct0 gl0 gp0 : Value} {gd0_ gm0 gq0 hdd0 : Option Addr} {gsl0 gn0 gr0 : Array (Option Value)} {gv0 : Array Value} {gfile0 hn0 hq0 : Str} {gtf0 : Tok} {hbs0 hbm0 hsub0 : List Value} {hsn0 : List Str} {hab0 : Bool} {hcol0 : Option Bool} {h00 h10 h20 h30 h50 : Option Value} {kv11 : Addr} {rs0 rs1 rs2 rs3 rs4 : List Value} {tk_LETTERS tk_MOST_LETTERS td11_first td11_second : Tok} (hfa : mg "law" = some (.ref fa))
    (a0 : PySem.W.nsIn K mainGlobals "_law_pick" = some (some (.ref f0)))
    (a1 : PySem.W.nsIn K mainGlobals "_law_draw" = some (some (.ref f1)))
    (a2 : PySem.W.nsIn K mainGlobals "_law_namelist" = some (some (.ref f2)))
    (a3 : PySem.W.nsIn K mainGlobals "_law_rawlist" = some (some (.ref f3)))
    (a4 : PySem.W.nsIn K mainGlobals "_law_worth" = some (some (.ref f4)))
    (a5 : PySem.W.nsIn K mainGlobals "_law_merge" = some (some (.ref f5)))
    (a6 : PySem.W.nsIn K mainGlobals "_law_broad" = some (some (.ref f6)))
    (a7 : PySem.W.nsIn K mainGlobals "_law_tools" = some (some (.ref f7)))
    (a8 : PySem.W.nsIn K mainGlobals "is_name" = some (some (.ref f8)))
    (a9 : PySem.W.nsIn K mainGlobals "_check_dish" = some (some (.ref f9)))
    (a10 : PySem.W.nsIn K mainGlobals "_merged" = some (some (.ref f10)))
    (a12 : PySem.W.nsIn K mainGlobals "_law_dishes" = some (some (.ref f12)))
    (a13 : PySem.W.nsIn K mainGlobals "_check_tools" = some (some (.ref f13)))
    (a14 : PySem.W.nsIn K mainGlobals "_check_menu" = some (some (.ref f14)))
    (a20 : PySem.W.nsIn K mainGlobals "_law_is_integer" = some (some (.ref f20)))
    (a23 : PySem.W.nsIn K mainGlobals "_law_horizon" = some (some (.ref f23)))
    (a24 : PySem.W.nsIn K mainGlobals "_law_dish_is" = some (some (.ref f24)))
    (a26 : PySem.W.nsIn K mainGlobals "_law_kitchen_is" = some (some (.ref f26)))
    (a28 : PySem.W.nsIn K mainGlobals "law" = some (some (.ref f28)))
    (ac0 : PySem.W.nsIn K mainGlobals "Dish" = some (some (.ref C0)))
    (ac1 : PySem.W.nsIn K mainGlobals "Kitchen" = some (some (.ref C1)))
    (ac2 : PySem.W.nsIn K mainGlobals "InvalidDish" = some (some (.ref C2)))
    (ac3 : PySem.W.nsIn K mainGlobals "InvalidKitchen" = some (some (.ref C3)))
    (ac4 : PySem.W.nsIn K mainGlobals "UnknownTool" = some (some (.ref C4)))
    (l0 : K.lookup f0 = some ⟨oc0, od0, .func (PySem.W.fnOf "_law_pick" "_law_pick" (defArgs s__law_pick) (defBody s__law_pick) (defScope s__law_pick) .none kV0 dc0 pm0 an0 cd0 ct0), sl0⟩)
    (c0 : PySem.W.codeIn K cd0 "_law_pick" = true)
    (k0 : PySem.W.keepIn K (.ref f0) = true)
    (l1 : K.lookup f1 = some ⟨oc1, od1, .func (PySem.W.fnOf "_law_draw" "_law_draw" (defArgs s__law_draw) (defBody s__law_draw) (defScope s__law_draw) .none kV1 dc1 pm1 an1 cd1 ct1), sl1⟩)
    (c1 : PySem.W.codeIn K cd1 "_law_draw" = true)
    (k1 : PySem.W.keepIn K (.ref f1) = true)
    (l2 : K.lookup f2 = some ⟨oc2, od2, .func (PySem.W.fnOf "_law_namelist" "_law_namelist" (defArgs s__law_namelist) (defBody s__law_namelist) (defScope s__law_namelist) .none kV2 dc2 pm2 an2 cd2 ct2), sl2⟩)
    (c2 : PySem.W.codeIn K cd2 "_law_namelist" = true)
    (k2 : PySem.W.keepIn K (.ref f2) = true)
    (l3 : K.lookup f3 = some ⟨oc3, od3, .func (PySem.W.fnOf "_law_rawlist" "_law_rawlist" (defArgs s__law_rawlist) (defBody s__law_rawlist) (defScope s__law_rawlist) .none kV3 dc3 pm3 an3 cd3 ct3), sl3⟩)
    (c3 : PySem.W.codeIn K cd3 "_law_rawlist" = true)
    (k3 : PySem.W.keepIn K (.ref f3) = true)
    (l4 : K.lookup f4 = some ⟨oc4, od4, .func (PySem.W.fnOf "_law_worth" "_law_worth" (defArgs s__law_worth) (defBody s__law_worth) (defScope s__law_worth) .none kV4 dc4 pm4 an4 cd4 ct4), sl4⟩)
    (c4 : PySem.W.codeIn K cd4 "_law_worth" = true)
    (k4 : PySem.W.keepIn K (.ref f4) = true)
    (l5 : K.lookup f5 = some ⟨oc5, od5, .func (PySem.W.fnOf "_law_merge" "_law_merge" (defArgs s__law_merge) (defBody s__law_merge) (defScope s__law_merge) .none kV5 dc5 pm5 an5 cd5 ct5), sl5⟩)
    (c5 : PySem.W.codeIn K cd5 "_law_merge" = true)
    (k5 : PySem.W.keepIn K (.ref f5) = true)
    (l6 : K.lookup f6 = some ⟨oc6, od6, .func (PySem.W.fnOf "_law_broad" "_law_broad" (defArgs s__law_broad) (defBody s__law_broad) (defScope s__law_broad) .none kV6 dc6 pm6 an6 cd6 ct6), sl6⟩)
    (c6 : PySem.W.codeIn K cd6 "_law_broad" = true)
    (k6 : PySem.W.keepIn K (.ref f6) = true)
    (l7 : K.lookup f7 = some ⟨oc7, od7, .func (PySem.W.fnOf "_law_tools" "_law_tools" (defArgs s__law_tools) (defBody s__law_tools) (defScope s__law_tools) .none kV7 dc7 pm7 an7 cd7 ct7), sl7⟩)
    (c7 : PySem.W.codeIn K cd7 "_law_tools" = true)
    (k7 : PySem.W.keepIn K (.ref f7) = true)
    (l8 : K.lookup f8 = some ⟨oc8, od8, .func (PySem.W.fnOf "is_name" "is_name" (defArgs s_is_name) (defBody s_is_name) (defScope s_is_name) .none kV8 dc8 pm8 an8 cd8 ct8), sl8⟩)
    (c8 : PySem.W.codeIn K cd8 "is_name" = true)
    (k8 : PySem.W.keepIn K (.ref f8) = true)
    (l9 : K.lookup f9 = some ⟨oc9, od9, .func (PySem.W.fnOf "_check_dish" "_check_dish" (defArgs s__check_dish) (defBody s__check_dish) (defScope s__check_dish) .none kV9 dc9 pm9 an9 cd9 ct9), sl9⟩)
    (c9 : PySem.W.codeIn K cd9 "_check_dish" = true)
    (k9 : PySem.W.keepIn K (.ref f9) = true)
    (l10 : K.lookup f10 = some ⟨oc10, od10, .func (PySem.W.fnOf "_merged" "_merged" (defArgs s__merged) (defBody s__merged) (defScope s__merged) .none kV10 dc10 pm10 an10 cd10 ct10), sl10⟩)
    (c10 : PySem.W.codeIn K cd10 "_merged" = true)
    (k10 : PySem.W.keepIn K (.ref f10) = true)
    (a11 : PySem.W.findIn K (.ref C0) "__init__" = some (some (.ref f11)))
    (i11 : PySem.W.isFn K (.ref f11) = true)
    (l11 : K.lookup f11 = some ⟨oc11, od11, .func (PySem.W.fnOf "__init__" "Dish.__init__" (defArgs s_Dish___init__) (defBody s_Dish___init__) (defScope s_Dish___init__) .none (.ref kv11) dc11 pm11 an11 cd11 ct11), sl11⟩)
    (c11 : PySem.W.codeIn K cd11 "Dish.__init__" = true)
    (k11 : PySem.W.keepIn K (.ref f11) = true)
    (l12 : K.lookup f12 = some ⟨oc12, od12, .func (PySem.W.fnOf "_law_dishes" "_law_dishes" (defArgs s__law_dishes) (defBody s__law_dishes) (defScope s__law_dishes) .none kV12 dc12 pm12 an12 cd12 ct12), sl12⟩)
    (c12 : PySem.W.codeIn K cd12 "_law_dishes" = true)
    (k12 : PySem.W.keepIn K (.ref f12) = true)
    (l13 : K.lookup f13 = some ⟨oc13, od13, .func (PySem.W.fnOf "_check_tools" "_check_tools" (defArgs s__check_tools) (defBody s__check_tools) (defScope s__check_tools) .none kV13 dc13 pm13 an13 cd13 ct13), sl13⟩)
    (c13 : PySem.W.codeIn K cd13 "_check_tools" = true)
    (k13 : PySem.W.keepIn K (.ref f13) = true)
    (l14 : K.lookup f14 = some ⟨oc14, od14, .func (PySem.W.fnOf "_check_menu" "_check_menu" (defArgs s__check_menu) (defBody s__check_menu) (defScope s__check_menu) .none kV14 dc14 pm14 an14 cd14 ct14), sl14⟩)
    (c14 : PySem.W.codeIn K cd14 "_check_menu" = true)
    (k14 : PySem.W.keepIn K (.ref f14) = true)
    (a15 : PySem.W.findIn K (.ref C1) "__init__" = some (some (.ref f15)))
    (i15 : PySem.W.isFn K (.ref f15) = true)
    (l15 : K.lookup f15 = some ⟨oc15, od15, .func (PySem.W.fnOf "__init__" "Kitchen.__init__" (defArgs s_Kitchen___init__) (defBody s_Kitchen___init__) (defScope s_Kitchen___init__) .none kV15 dc15 pm15 an15 cd15 ct15), sl15⟩)
    (c15 : PySem.W.codeIn K cd15 "Kitchen.__init__" = true)
    (k15 : PySem.W.keepIn K (.ref f15) = true)
    (pa2 : PySem.W.findIn K (.ref C1) "menu" = some (some (.ref Q2)))
    (pg2 : PySem.W.specialIn K (.ref Q2) "__get__" = some (some (.builtin "property.__get__")))
    (pt2 : PySem.W.takesIn K (.ref Q2) = some true)
    (pr2 : PySem.W.recIn K Q2 "property" = some (.ref f16 :: rs2))
    (l16 : K.lookup f16 = some ⟨oc16, od16, .func (PySem.W.fnOf "menu" "Kitchen.menu" (defArgs s_Kitchen_menu) (defBody s_Kitchen_menu) (defScope s_Kitchen_menu) .none kV16 dc16 pm16 an16 cd16 ct16), sl16⟩)
    (c16 : PySem.W.codeIn K cd16 "Kitchen.menu" = true)
    (k16 : PySem.W.keepIn K (.ref f16) = true)
    (a17 : PySem.W.findIn K (.ref C1) "_check_tool" = some (some (.ref f17)))
    (i17 : PySem.W.isFn K (.ref f17) = true)
    (l17 : K.lookup f17 = some ⟨oc17, od17, .func (PySem.W.fnOf "_check_tool" "Kitchen._check_tool" (defArgs s_Kitchen__check_tool) (defBody s_Kitchen__check_tool) (defScope s_Kitchen__check_tool) .none kV17 dc17 pm17 an17 cd17 ct17), sl17⟩)
    (c17 : PySem.W.codeIn K cd17 "Kitchen._check_tool" = true)
    (k17 : PySem.W.keepIn K (.ref f17) = true)
    (a18 : PySem.W.findIn K (.ref C1) "number_of" = some (some (.ref f18)))
    (i18 : PySem.W.isFn K (.ref f18) = true)
    (l18 : K.lookup f18 = some ⟨oc18, od18, .func (PySem.W.fnOf "number_of" "Kitchen.number_of" (defArgs s_Kitchen_number_of) (defBody s_Kitchen_number_of) (defScope s_Kitchen_number_of) .none kV18 dc18 pm18 an18 cd18 ct18), sl18⟩)
    (c18 : PySem.W.codeIn K cd18 "Kitchen.number_of" = true)
    (k18 : PySem.W.keepIn K (.ref f18) = true)
    (pa0 : PySem.W.findIn K (.ref C1) "tools" = some (some (.ref Q0)))
    (pg0 : PySem.W.specialIn K (.ref Q0) "__get__" = some (some (.builtin "property.__get__")))
    (pt0 : PySem.W.takesIn K (.ref Q0) = some true)
    (pr0 : PySem.W.recIn K Q0 "property" = some (.ref f19 :: rs0))
    (l19 : K.lookup f19 = some ⟨oc19, od19, .func (PySem.W.fnOf "tools" "Kitchen.tools" (defArgs s_Kitchen_tools) (defBody s_Kitchen_tools) (defScope s_Kitchen_tools) .none kV19 dc19 pm19 an19 cd19 ct19), sl19⟩)
    (c19 : PySem.W.codeIn K cd19 "Kitchen.tools" = true)
    (k19 : PySem.W.keepIn K (.ref f19) = true)
    (l20 : K.lookup f20 = some ⟨oc20, od20, .func (PySem.W.fnOf "_law_is_integer" "_law_is_integer" (defArgs s__law_is_integer) (defBody s__law_is_integer) (defScope s__law_is_integer) .none kV20 dc20 pm20 an20 cd20 ct20), sl20⟩)
    (c20 : PySem.W.codeIn K cd20 "_law_is_integer" = true)
    (k20 : PySem.W.keepIn K (.ref f20) = true)
    (pa4 : PySem.W.findIn K (.ref C0) "length" = some (some (.ref Q4)))
    (pg4 : PySem.W.specialIn K (.ref Q4) "__get__" = some (some (.builtin "property.__get__")))
    (pt4 : PySem.W.takesIn K (.ref Q4) = some true)
    (pr4 : PySem.W.recIn K Q4 "property" = some (.ref f21 :: rs4))
    (l21 : K.lookup f21 = some ⟨oc21, od21, .func (PySem.W.fnOf "length" "Dish.length" (defArgs s_Dish_length) (defBody s_Dish_length) (defScope s_Dish_length) .none kV21 dc21 pm21 an21 cd21 ct21), sl21⟩)
    (c21 : PySem.W.codeIn K cd21 "Dish.length" = true)
    (k21 : PySem.W.keepIn K (.ref f21) = true)
    (pa3 : PySem.W.findIn K (.ref C1) "horizon" = some (some (.ref Q3)))
    (pg3 : PySem.W.specialIn K (.ref Q3) "__get__" = some (some (.builtin "property.__get__")))
    (pt3 : PySem.W.takesIn K (.ref Q3) = some true)
    (pr3 : PySem.W.recIn K Q3 "property" = some (.ref f22 :: rs3))
    (l22 : K.lookup f22 = some ⟨oc22, od22, .func (PySem.W.fnOf "horizon" "Kitchen.horizon" (defArgs s_Kitchen_horizon) (defBody s_Kitchen_horizon) (defScope s_Kitchen_horizon) .none kV22 dc22 pm22 an22 cd22 ct22), sl22⟩)
    (c22 : PySem.W.codeIn K cd22 "Kitchen.horizon" = true)
    (k22 : PySem.W.keepIn K (.ref f22) = true)
    (l23 : K.lookup f23 = some ⟨oc23, od23, .func (PySem.W.fnOf "_law_horizon" "_law_horizon" (defArgs s__law_horizon) (defBody s__law_horizon) (defScope s__law_horizon) .none kV23 dc23 pm23 an23 cd23 ct23), sl23⟩)
    (c23 : PySem.W.codeIn K cd23 "_law_horizon" = true)
    (k23 : PySem.W.keepIn K (.ref f23) = true)
    (l24 : K.lookup f24 = some ⟨oc24, od24, .func (PySem.W.fnOf "_law_dish_is" "_law_dish_is" (defArgs s__law_dish_is) (defBody s__law_dish_is) (defScope s__law_dish_is) .none kV24 dc24 pm24 an24 cd24 ct24), sl24⟩)
    (c24 : PySem.W.codeIn K cd24 "_law_dish_is" = true)
    (k24 : PySem.W.keepIn K (.ref f24) = true)
    (pa1 : PySem.W.findIn K (.ref C1) "numbers" = some (some (.ref Q1)))
    (pg1 : PySem.W.specialIn K (.ref Q1) "__get__" = some (some (.builtin "property.__get__")))
    (pt1 : PySem.W.takesIn K (.ref Q1) = some true)
    (pr1 : PySem.W.recIn K Q1 "property" = some (.ref f25 :: rs1))
    (l25 : K.lookup f25 = some ⟨oc25, od25, .func (PySem.W.fnOf "numbers" "Kitchen.numbers" (defArgs s_Kitchen_numbers) (defBody s_Kitchen_numbers) (defScope s_Kitchen_numbers) .none kV25 dc25 pm25 an25 cd25 ct25), sl25⟩)
    (c25 : PySem.W.codeIn K cd25 "Kitchen.numbers" = true)
    (k25 : PySem.W.keepIn K (.ref f25) = true)
    (l26 : K.lookup f26 = some ⟨oc26, od26, .func (PySem.W.fnOf "_law_kitchen_is" "_law_kitchen_is" (defArgs s__law_kitchen_is) (defBody s__law_kitchen_is) (defScope s__law_kitchen_is) .none kV26 dc26 pm26 an26 cd26 ct26), sl26⟩)
    (c26 : PySem.W.codeIn K cd26 "_law_kitchen_is" = true)
    (k26 : PySem.W.keepIn K (.ref f26) = true)
    (a27 : PySem.W.findIn K (.ref C0) "__eq__" = some (some (.ref f27)))
    (i27 : PySem.W.isFn K (.ref f27) = true)
    (l27 : K.lookup f27 = some ⟨oc27, od27, .func (PySem.W.fnOf "__eq__" "Dish.__eq__" (defArgs s_Dish___eq__) (defBody s_Dish___eq__) (defScope s_Dish___eq__) .none kV27 dc27 pm27 an27 cd27 ct27), sl27⟩)
    (c27 : PySem.W.codeIn K cd27 "Dish.__eq__" = true)
    (k27 : PySem.W.keepIn K (.ref f27) = true)
    (l28 : K.lookup f28 = some ⟨oc28, od28, .func (PySem.W.fnOf "law" "law" (defArgs s_law) (defBody s_law) (defScope s_law) .none kV28 dc28 pm28 an28 cd28 ct28), sl28⟩)
    (c28 : PySem.W.codeIn K cd28 "law" = true)
    (k28 : PySem.W.keepIn K (.ref f28) = true)
    (ga0 : PySem.W.plainGet K C0 Str.empty = true)
    (gb0 : PySem.W.hasDictIn K C0 = true)
    (gc0 : PySem.W.plainOver K C0 = true)
    (gd0 : PySem.W.findIn K (.ref C0) "__setattr__" = some (some (.builtin "object.__setattr__")))
    (ge0 : PySem.W.makesIn K C0 = true)
    (gk0 : PySem.W.keepIn K (.ref C0) = true)
    (n0_first : PySem.W.findIn K (.ref C0) "first" = some none)
    (n0_name : PySem.W.findIn K (.ref C0) "name" = some none)
    (n0_needs : PySem.W.findIn K (.ref C0) "needs" = some none)
    (n0_second : PySem.W.findIn K (.ref C0) "second" = some none)
    (ga1 : PySem.W.plainGet K C1 Str.empty = true)
    (gb1 : PySem.W.hasDictIn K C1 = true)
    (gc1 : PySem.W.plainOver K C1 = true)
    (gd1 : PySem.W.findIn K (.ref C1) "__setattr__" = some (some (.builtin "object.__setattr__")))
    (ge1 : PySem.W.makesIn K C1 = true)
    (gk1 : PySem.W.keepIn K (.ref C1) = true)
    (n1__menu : PySem.W.findIn K (.ref C1) "_menu" = some none)
    (n1__numbers : PySem.W.findIn K (.ref C1) "_numbers" = some none)
    (ex0 : PySem.W.excIn K C2 [.type "ValueError", .type "Exception", .type "BaseException", .type "object"] "ValueError.__new__" = true)
    (ek0 : PySem.W.keepIn K (.ref C2) = true)
    (eb0 : PySem.W.subIn K (.ref C2) (.type "BaseException") = some true)
    (et0 : PySem.W.typeIn K (.ref C2) = some (.type "type"))
    (ex1 : PySem.W.excIn K C3 [.type "ValueError", .type "Exception", .type "BaseException", .type "object"] "ValueError.__new__" = true)
    (ek1 : PySem.W.keepIn K (.ref C3) = true)
    (eb1 : PySem.W.subIn K (.ref C3) (.type "BaseException") = some true)
    (et1 : PySem.W.typeIn K (.ref C3) = some (.type "type"))
    (ek2 : PySem.W.keepIn K (.ref C4) = true)
    (eb2 : PySem.W.subIn K (.ref C4) (.type "BaseException") = some true)
    (et2 : PySem.W.typeIn K (.ref C4) = some (.type "type"))
    (oc_n : PySem.W.specialIn K (.builtin "object.__class__") "__get__" = some (some (.builtin "getset_descriptor.__get__")))
    (oc_t : PySem.W.takesIn K (.builtin "object.__class__") = some true)
    (ia0 : PySem.W.findIn K (.ref C0) "__class__" = some (some (.builtin "object.__class__")))
    (im0 : PySem.W.mroIn K C0 (.type "object") = some true)
    (kit_i0_NoneType : PySem.W.kitOne K (.type "NoneType") (.ref C0) = some false)
    (kit_i0_int : PySem.W.kitOne K (.type "int") (.ref C0) = some false)
    (kit_i0_str : PySem.W.kitOne K (.type "str") (.ref C0) = some false)
    (kit_i0_tuple : PySem.W.kitOne K (.type "tuple") (.ref C0) = some false)
    (kit_i0_list : PySem.W.kitOne K (.type "list") (.ref C0) = some false)
    (qF0 : PySem.W.findIn K (.ref C4) "__init__" = some (some (.ref g0)))
    (qT0 : PySem.W.typeIn K (.ref g0) = some (.type "function"))
    (qI0 : K.lookup g0 = some ⟨go0, gd0_, .func (NdefX.NF.fd ⟨"__init__", "UnknownTool.__init__", defArgs s_UnknownTool___init__, defBody s_UnknownTool___init__, defScope s_UnknownTool___init__, [(("__class__" : Str), gc0_)], gk0_⟩ gdoc0 gpm0 gct0), gsl0⟩)
    (qC0 : PySem.W.codeIn K (.ref gk0_) "UnknownTool.__init__" = true)
    (qL0 : K.lookup gc0_ = some ⟨gl0, gm0, .cell (some (.ref C4)), gn0⟩)
    (qD0 : K.lookup gk0_ = some ⟨gp0, gq0, .fields gv0, gr0⟩)
    (rV0 : gv0[2]? = some (.str gfile0 gtf0))
    (rG0 : (l.prog.main.file == gfile0) = true)
    (rH0 : (l.prog.main.scope.names.lookup ("super" : Str)).isSome = false)
    (qA0 : PySem.W.nsIn K PySem.cStatics "thirdparty.any" = some none)
    (sS0 : PySem.W.ks_superIn K C4 C4 "__init__" = some (some (.builtin "ValueError.__init__")))
    (qB0 : PySem.W.subIn K (.ref C4) (.type "ValueError") = some true)
    (qM0 : PySem.W.mroIn K C4 (.ref C4) = some true)
    (qX0 : K.lookup C4 = some (excClassObj hn0 hq0 C4 hN0 hbs0 hbm0 true hsn0 hsub0 hab0 hcol0 hdd0 h00 h10 h20 h30 h50 "ValueError.__new__"))
    (rR0 : PySem.HandSPX.refsVE hbm0 = true)
    (qY0 : PySem.W.findIn K (.ref C4) "__setattr__" = some (some (.builtin "object.__setattr__")))
    (qN0 : PySem.W.findIn K (.ref C4) "tool" = some none)
    (qn0 : PySem.W.findIn K (.ref C0) "__ne__" = some (some (.builtin "object.__ne__")))
    (qo0 : PySem.W.mroIn K C0 (.type "object") = some true)
    (qm0 : PySem.W.mroIn K C0 (.type "NoneType") = some false)
    (qf0_int : PySem.W.notFirst K C0 (.type "int") = true)
    (qf0_str : PySem.W.notFirst K C0 (.type "str") = true)
    (qf0_bool : PySem.W.notFirst K C0 (.type "bool") = true)
    (qf0_tuple : PySem.W.notFirst K C0 (.type "tuple") = true)
    (qf0_list : PySem.W.notFirst K C0 (.type "list") = true)
    (qf0_NoneType : PySem.W.notFirst K C0 (.type "NoneType") = true)
    (z_all : PySem.W.nsIn K mainGlobals "all" = some none)
    (z_bool : PySem.W.nsIn K mainGlobals "bool" = some none)
    (z_dict : PySem.W.nsIn K mainGlobals "dict" = some none)
    (z_int : PySem.W.nsIn K mainGlobals "int" = some none)
    (z_isinstance : PySem.W.nsIn K mainGlobals "isinstance" = some none)
    (z_len : PySem.W.nsIn K mainGlobals "len" = some none)
    (z_list : PySem.W.nsIn K mainGlobals "list" = some none)
    (z_max : PySem.W.nsIn K mainGlobals "max" = some none)
    (z_min : PySem.W.nsIn K mainGlobals "min" = some none)
    (z_range : PySem.W.nsIn K mainGlobals "range" = some none)
    (z_reversed : PySem.W.nsIn K mainGlobals "reversed" = some none)
    (z_set : PySem.W.nsIn K mainGlobals "set" = some none)
    (z_sorted : PySem.W.nsIn K mainGlobals "sorted" = some none)
    (z_str : PySem.W.nsIn K mainGlobals "str" = some none)
    (z_super : PySem.W.nsIn K mainGlobals "super" = some none)
    (z_tuple : PySem.W.nsIn K mainGlobals "tuple" = some none)
    (v_LETTERS : PySem.W.nsIn K mainGlobals "LETTERS" = some (some (.str "abcdefghijklmnopqrstuvwxyz" tk_LETTERS)))
    (v_MOST_LETTERS : PySem.W.nsIn K mainGlobals "MOST_LETTERS" = some (some (.int 12 tk_MOST_LETTERS)))
    (kd11_first : PySem.W.nsIn K kv11 "first" = some (some (.int 0 td11_first)))
    (kd11_second : PySem.W.nsIn K kv11 "second" = some (some (.int 0 td11_second))) :
    ∃ fd : FuncData, (∀ (s : Shared) (v : Value), BindsTo s fd ⟨[v], []⟩ [("_law_script", v)]) ∧ ∀ base : Heap, K.In base → base.Ns mainGlobals mg → FnOk l.prog w K mg base (L2.CX l.prog w) 6 fa fd ["_law_script"] (spLaw K) := by
  have e := hfa.symm.trans (PySem.W.mg_of X G a28)
  cases e
  have F0 := fun_mk (st := s__law_pick) l0 c0 k0
  have F1 := fun_mk (st := s__law_draw) l1 c1 k1
  have F2 := fun_mk (st := s__law_namelist) l2 c2 k2
  have F3 := fun_mk (st := s__law_rawlist) l3 c3 k3
  have F4 := fun_mk (st := s__law_worth) l4 c4 k4
  have F5 := fun_mk (st := s__law_merge) l5 c5 k5
  have F6 := fun_mk (st := s__law_broad) l6 c6 k6
  have F7 := fun_mk (st := s__law_tools) l7 c7 k7
  have F8 := fun_mk (st := s_is_name) l8 c8 k8
  have F9 := fun_mk (st := s__check_dish) l9 c9 k9
  have F10 := fun_mk (st := s__merged) l10 c10 k10
  have F11 := fun_mk (st := s_Dish___init__) l11 c11 k11
  have F12 := fun_mk (st := s__law_dishes) l12 c12 k12
  have F13 := fun_mk (st := s__check_tools) l13 c13 k13
  have F14 := fun_mk (st := s__check_menu) l14 c14 k14
  have F15 := fun_mk (st := s_Kitchen___init__) l15 c15 k15
  have F16 := fun_mk (st := s_Kitchen_menu) l16 c16 k16
  have F17 := fun_mk (st := s_Kitchen__check_tool) l17 c17 k17
  have F18 := fun_mk (st := s_Kitchen_number_of) l18 c18 k18
  have F19 := fun_mk (st := s_Kitchen_tools) l19 c19 k19
  have F20 := fun_mk (st := s__law_is_integer) l20 c20 k20
  have F21 := fun_mk (st := s_Dish_length) l21 c21 k21
  have F22 := fun_mk (st := s_Kitchen_horizon) l22 c22 k22
  have F23 := fun_mk (st := s__law_horizon) l23 c23 k23
  have F24 := fun_mk (st := s__law_dish_is) l24 c24 k24
  have F25 := fun_mk (st := s_Kitchen_numbers) l25 c25 k25
  have F26 := fun_mk (st := s__law_kitchen_is) l26 c26 k26
  have F27 := fun_mk (st := s_Dish___eq__) l27 c27 k27
  have F28 := fun_mk (st := s_law) l28 c28 k28
  have D0 : FunD K "__init__" "Dish.__init__" (defArgs s_Dish___init__) (defBody s_Dish___init__) (defScope s_Dish___init__) [] [("first", .int 0), ("second", .int 0)] f11 _ := ⟨⟨_, _, _, _, _, _, _, _, _, _, rfl, l11, c11, .inl ⟨rfl, rfl⟩, .inr ⟨kv11, rfl, kw_all2 ⟨_, kd11_first, ⟨_, rfl⟩⟩ ⟨_, kd11_second, ⟨_, rfl⟩⟩⟩⟩, k11⟩
  have kb0 := D0.kbinds0 (ps := ["self", "name", "needs", "first", "second"]) 3 ["first", "second"] [] (fun us mv ws => us ++ ws) (by decide) (by simp) (fun r1 r2 r3 => r1.append r3) fun D doc pm an cdv ct us mv ws h1 h2 h3 => by
    match us, mv, ws, h1, h2, h3 with
    | [u0, u1, u2], [], [w0, w1], _, _, _ => exact rfl
  have D2 : FunD K "__init__" "Dish.__init__" (defArgs s_Dish___init__) (defBody s_Dish___init__) (defScope s_Dish___init__) [] [("first", .int 0), ("second", .int 0)] f11 _ := ⟨⟨_, _, _, _, _, _, _, _, _, _, rfl, l11, c11, .inl ⟨rfl, rfl⟩, .inr ⟨kv11, rfl, kw_all2 ⟨_, kd11_first, ⟨_, rfl⟩⟩ ⟨_, kd11_second, ⟨_, rfl⟩⟩⟩⟩, k11⟩
  have kb2 := D2.kbinds0 (ps := ["self", "name", "needs", "first", "second"]) 3 ["first"] [("second", .int 0)] (fun us mv ws => us ++ ws ++ mv) (by decide) (by simp) (fun r1 r2 r3 => (r1.append r3).append r2) fun D doc pm an cdv ct us mv ws h1 h2 h3 => by
    match us, mv, ws, h1, h2, h3 with
    | [u0, u1, u2], [m0], [w0], _, _, _ => exact ⟨_, _, _, _, _, _, rfl, rfl, rfl⟩
  have T : Txt l.prog K mg (clK K) { _law_pick := f0, _law_draw := f1, _law_namelist := f2, _law_rawlist := f3, _law_worth := f4, _law_merge := f5, _law_broad := f6, _law_tools := f7, is_name := f8, _check_dish := f9, _merged := f10, Dish___init__ := f11, _law_dishes := f12, _check_tools := f13, _check_menu := f14, Kitchen___init__ := f15, Kitchen_menu := f16, Kitchen__check_tool := f17, Kitchen_number_of := f18, Kitchen_tools := f19, _law_is_integer := f20, Dish_length := f21, Kitchen_horizon := f22, _law_horizon := f23, _law_dish_is := f24, Kitchen_numbers := f25, _law_kitchen_is := f26, Dish___eq__ := f27, law := fa, C_Dish := C0, C_Kitchen := C1, C_InvalidDish := C2, C_InvalidKitchen := C3, C_UnknownTool := C4, Q_Kitchen_tools := Q0, Q_Kitchen_numbers := Q1, Q_Kitchen_menu := Q2, Q_Kitchen_horizon := Q3, Q_Dish_length := Q4, _law_pick_d := _, _law_draw_d := _, _law_namelist_d := _, _law_rawlist_d := _, _law_worth_d := _, _law_merge_d := _, _law_broad_d := _, _law_tools_d := _, is_name_d := _, _check_dish_d := _, _merged_d := _, Dish___init___d := _, _law_dishes_d := _, _check_tools_d := _, _check_menu_d := _, Kitchen___init___d := _, Kitchen_menu_d := _, Kitchen__check_tool_d := _, Kitchen_number_of_d := _, Kitchen_tools_d := _, _law_is_integer_d := _, Dish_length_d := _, Kitchen_horizon_d := _, _law_horizon_d := _, _law_dish_is_d := _, Kitchen_numbers_d := _, _law_kitchen_is_d := _, Dish___eq___d := _, law_d := _, XI_UnknownTool := g0, cc_UnknownTool := gc0_, cd_UnknownTool := gk0_, XI_UnknownTool_d := _ } := {
    F__law_pick := (F0),
    g__law_pick := (PySem.W.mg_of X G a0),
    b__law_pick := (F0.binds fun _ _ _ _ _ _ us hl => match us, hl with | [_, _], _ => rfl),
    F__law_draw := (F1),
    g__law_draw := (PySem.W.mg_of X G a1),
    b__law_draw := (F1.binds fun _ _ _ _ _ _ us hl => match us, hl with | [_, _, _], _ => rfl),
    F__law_namelist := (F2),
    g__law_namelist := (PySem.W.mg_of X G a2),
    b__law_namelist := (F2.binds fun _ _ _ _ _ _ us hl => match us, hl with | [_, _], _ => rfl),
    F__law_rawlist := (F3),
    g__law_rawlist := (PySem.W.mg_of X G a3),
    b__law_rawlist := (F3.binds fun _ _ _ _ _ _ us hl => match us, hl with | [_, _, _, _], _ => rfl),
    F__law_worth := (F4),
    g__law_worth := (PySem.W.mg_of X G a4),
    b__law_worth := (F4.binds fun _ _ _ _ _ _ us hl => match us, hl with | [_, _], _ => rfl),
    F__law_merge := (F5),
    g__law_merge := (PySem.W.mg_of X G a5),
    b__law_merge := (F5.binds fun _ _ _ _ _ _ us hl => match us, hl with | [_], _ => rfl),
    F__law_broad := (F6),
    g__law_broad := (PySem.W.mg_of X G a6),
    b__law_broad := (F6.binds fun _ _ _ _ _ _ us hl => match us, hl with | [_, _], _ => rfl),
    F__law_tools := (F7),
    g__law_tools := (PySem.W.mg_of X G a7),
    b__law_tools := (F7.binds fun _ _ _ _ _ _ us hl => match us, hl with | [_], _ => rfl),
    F_is_name := (F8),
    g_is_name := (PySem.W.mg_of X G a8),
    b_is_name := (F8.binds fun _ _ _ _ _ _ us hl => match us, hl with | [_], _ => rfl),
    F__check_dish := (F9),
    g__check_dish := (PySem.W.mg_of X G a9),
    b__check_dish := (F9.binds fun _ _ _ _ _ _ us hl => match us, hl with | [_, _], _ => rfl),
    F__merged := (F10),
    g__merged := (PySem.W.mg_of X G a10),
    b__merged := (F10.binds fun _ _ _ _ _ _ us hl => match us, hl with | [_], _ => rfl),
    F_Dish___init__ := (F11),
    F__law_dishes := (F12),
    g__law_dishes := (PySem.W.mg_of X G a12),
    b__law_dishes := (F12.binds fun _ _ _ _ _ _ us hl => match us, hl with | [_], _ => rfl),
    F__check_tools := (F13),
    g__check_tools := (PySem.W.mg_of X G a13),
    b__check_tools := (F13.binds fun _ _ _ _ _ _ us hl => match us, hl with | [_], _ => rfl),
    F__check_menu := (F14),
    g__check_menu := (PySem.W.mg_of X G a14),
    b__check_menu := (F14.binds fun _ _ _ _ _ _ us hl => match us, hl with | [_, _], _ => rfl),
    F_Kitchen___init__ := (F15),
    F_Kitchen_menu := (F16),
    b_Kitchen_menu := (F16.binds fun _ _ _ _ _ _ us hl => match us, hl with | [_], _ => rfl),
    F_Kitchen__check_tool := (F17),
    b_Kitchen__check_tool := (F17.binds fun _ _ _ _ _ _ us hl => match us, hl with | [_, _], _ => rfl),
    F_Kitchen_number_of := (F18),
    b_Kitchen_number_of := (F18.binds fun _ _ _ _ _ _ us hl => match us, hl with | [_, _], _ => rfl),
    F_Kitchen_tools := (F19),
    b_Kitchen_tools := (F19.binds fun _ _ _ _ _ _ us hl => match us, hl with | [_], _ => rfl),
    F__law_is_integer := (F20),
    g__law_is_integer := (PySem.W.mg_of X G a20),
    b__law_is_integer := (F20.binds fun _ _ _ _ _ _ us hl => match us, hl with | [_], _ => rfl),
    F_Dish_length := (F21),
    b_Dish_length := (F21.binds fun _ _ _ _ _ _ us hl => match us, hl with | [_], _ => rfl),
    F_Kitchen_horizon := (F22),
    b_Kitchen_horizon := (F22.binds fun _ _ _ _ _ _ us hl => match us, hl with | [_], _ => rfl),
    F__law_horizon := (F23),
    g__law_horizon := (PySem.W.mg_of X G a23),
    b__law_horizon := (F23.binds fun _ _ _ _ _ _ us hl => match us, hl with | [_], _ => rfl),
    F__law_dish_is := (F24),
    g__law_dish_is := (PySem.W.mg_of X G a24),
    b__law_dish_is := (F24.binds fun _ _ _ _ _ _ us hl => match us, hl with | [_, _, _, _], _ => rfl),
    F_Kitchen_numbers := (F25),
    b_Kitchen_numbers := (F25.binds fun _ _ _ _ _ _ us hl => match us, hl with | [_], _ => rfl),
    F__law_kitchen_is := (F26),
    g__law_kitchen_is := (PySem.W.mg_of X G a26),
    b__law_kitchen_is := (F26.binds fun _ _ _ _ _ _ us hl => match us, hl with | [_, _], _ => rfl),
    F_Dish___eq__ := (F27),
    b_Dish___eq__ := (F27.binds fun _ _ _ _ _ _ us hl => match us, hl with | [_, _], _ => rfl),
    F_law := (F28),
    g_law := (PySem.W.mg_of X G a28),
    b_law := (F28.binds fun _ _ _ _ _ _ us hl => match us, hl with | [_], _ => rfl),
    g_Dish := (PySem.W.mg_of X G ac0),
    l_Dish := (clK_of ac0),
    g_Kitchen := (PySem.W.mg_of X G ac1),
    l_Kitchen := (clK_of ac1),
    g_InvalidDish := (PySem.W.mg_of X G ac2),
    l_InvalidDish := (clK_of ac2),
    g_InvalidKitchen := (PySem.W.mg_of X G ac3),
    l_InvalidKitchen := (clK_of ac3),
    g_UnknownTool := (PySem.W.mg_of X G ac4),
    l_UnknownTool := (clK_of ac4),
    ie_Dish := (⟨⟨ga0, gb0, gc0, gd0⟩, ia0, oc_n, oc_t, im0, kit_i0_NoneType, kit_i0_int, kit_i0_str, kit_i0_tuple, kit_i0_list⟩),
    su_UnknownTool := (⟨⟨_, _, _, _, _, _, rfl, qI0⟩, qC0, ⟨_, _, _, _, rfl, qL0⟩, ⟨_, _, _, _, _, _, qD0, rV0, rG0⟩, rH0, qA0, sS0, qB0, qM0, ⟨⟨_, _, _, _, _, _, _, _, _, _, _, _, _, _, _, qX0, rR0⟩, qY0, eb2, et2, ek2⟩⟩),
    oe_UnknownTool := (⟨⟨_, _, _, _, _, _, _, _, _, _, _, _, _, _, _, qX0, rR0⟩, qY0, eb2, et2, ek2⟩),
    in_UnknownTool := (qF0),
    ti_UnknownTool := (qT0),
    bx_UnknownTool := (.all fun us hl => match us, hl with | [_, _], _ => rfl),
    nx_UnknownTool := (qN0),
    oq_Dish := (⟨a27, i27, qn0, qo0, qm0, qf0_int, qf0_str, qf0_bool, qf0_tuple, qf0_list, qf0_NoneType⟩),
    K_Dish := (⟨ga0, gb0, gc0, gd0⟩),
    N_Dish_first := (n0_first),
    N_Dish_name := (n0_name),
    N_Dish_needs := (n0_needs),
    N_Dish_second := (n0_second),
    M_Dish := (⟨ge0, a11, i11, gk0⟩),
    K_Kitchen := (⟨ga1, gb1, gc1, gd1⟩),
    N_Kitchen__menu := (n1__menu),
    N_Kitchen__numbers := (n1__numbers),
    M_Kitchen := (⟨ge1, a15, i15, gk1⟩),
    Me_Kitchen__check_tool := (⟨a17, i17, k17⟩),
    Me_Kitchen_number_of := (⟨a18, i18, k18⟩),
    Me_Dish___eq__ := (⟨a27, i27, k27⟩),
    P_Kitchen_tools := (⟨pa0, pg0, pt0, _, pr0⟩),
    P_Kitchen_numbers := (⟨pa1, pg1, pt1, _, pr1⟩),
    P_Kitchen_menu := (⟨pa2, pg2, pt2, _, pr2⟩),
    P_Kitchen_horizon := (⟨pa3, pg3, pt3, _, pr3⟩),
    P_Dish_length := (⟨pa4, pg4, pt4, _, pr4⟩),
    x_InvalidDish := (ex0),
    k_InvalidDish := (ek0),
    e_InvalidDish := (eb0),
    t_InvalidDish := (et0),
    x_InvalidKitchen := (ex1),
    k_InvalidKitchen := (ek1),
    e_InvalidKitchen := (eb1),
    t_InvalidKitchen := (et1),
    k_UnknownTool := (ek2),
    e_UnknownTool := (eb2),
    t_UnknownTool := (et2),
    kb_0 := ((let ⟨mv, q⟩ := kb0; ⟨_, q⟩)),
    kb_1 := (⟨_, kbn_plain (F15.binds fun _ _ _ _ _ _ us hl => match us, hl with | [_, _, _], _ => rfl) rfl⟩),
    kb_2 := ((let ⟨mv, q⟩ := kb2; ⟨_, q⟩)),
    z_all := (PySem.W.mg_none_of X G z_all),
    z_bool := (PySem.W.mg_none_of X G z_bool),
    z_dict := (PySem.W.mg_none_of X G z_dict),
    z_int := (PySem.W.mg_none_of X G z_int),
    z_isinstance := (PySem.W.mg_none_of X G z_isinstance),
    z_len := (PySem.W.mg_none_of X G z_len),
    z_list := (PySem.W.mg_none_of X G z_list),
    z_max := (PySem.W.mg_none_of X G z_max),
    z_min := (PySem.W.mg_none_of X G z_min),
    z_range := (PySem.W.mg_none_of X G z_range),
    z_reversed := (PySem.W.mg_none_of X G z_reversed),
    z_set := (PySem.W.mg_none_of X G z_set),
    z_sorted := (PySem.W.mg_none_of X G z_sorted),
    z_str := (PySem.W.mg_none_of X G z_str),
    z_super := (PySem.W.mg_none_of X G z_super),
    z_tuple := (PySem.W.mg_none_of X G z_tuple),
    c_LETTERS := (⟨_, PySem.W.mg_of X G v_LETTERS⟩),
    c_MOST_LETTERS := (⟨_, PySem.W.mg_of X G v_MOST_LETTERS⟩) }
  exact ⟨_, fun s v => .of_eq rfl, fun base _ _ => FnOk.imp (ok_law T) (spLaw_of law_true)⟩
end Mx
open PySem PySem.W PyProof.Rows
set_option maxRecDepth 100000 in
set_option maxHeartbeats 0 in
theorem PySem.Challenge.cw_mixpace_k10_kitchen_fields_holds : PySem.Challenge.rw_mixpace_k10_kitchen_fields.Holds := by
  w_on; o_law; k_head; (case hw => w_witness2)
  k_fill
  refine L2.walk_of (l := PySem.Challenge.rw_mixpace_k10_kitchen_fields) (n := 63) (k := 6) (x := "_law_script") (CX := fun w => L2.CX PySem.Challenge.rw_mixpace_k10_kitchen_fields.prog w) (sp := fun w => Mx.spLaw _) rfl (by decide) rfl ⟨rfl, by decide, by decide⟩ (fun w h Y => PySem.W.kIn_of Y) ?F (fun _ _ a ns hl _ hS => ⟨a, ns, rfl, hS, hl, fun _ => rfl⟩) (fun _ H s e s' h => Mx.noCX H s e s' h)
  case F =>
    intro w mg fa h KX G hmg
    refine' Mx.all_mk KX G hmg ?a0 ?a1 ?a2 ?a3 ?a4 ?a5 ?a6 ?a7 ?a8 ?a9 ?a10 ?a12 ?a13 ?a14 ?a20 ?a23 ?a24 ?a26 ?a28 ?ac0 ?ac1 ?ac2 ?ac3 ?ac4 ?l0 ?c0 ?k0 ?l1 ?c1 ?k1 ?l2 ?c2 ?k2 ?l3 ?c3 ?k3 ?l4 ?c4 ?k4 ?l5 ?c5 ?k5 ?l6 ?c6 ?k6 ?l7 ?c7 ?k7 ?l8 ?c8 ?k8 ?l9 ?c9 ?k9 ?l10 ?c10 ?k10 ?a11 ?i11 ?l11 ?c11 ?k11 ?l12 ?c12 ?k12 ?l13 ?c13 ?k13 ?l14 ?c14 ?k14 ?a15 ?i15 ?l15 ?c15 ?k15 ?pa2 ?pg2 ?pt2 ?pr2 ?l16 ?c16 ?k16 ?a17 ?i17 ?l17 ?c17 ?k17 ?a18 ?i18 ?l18 ?c18 ?k18 ?pa0 ?pg0 ?pt0 ?pr0 ?l19 ?c19 ?k19 ?l20 ?c20 ?k20 ?pa4 ?pg4 ?pt4 ?pr4 ?l21 ?c21 ?k21 ?pa3 ?pg3 ?pt3 ?pr3 ?l22 ?c22 ?k22 ?l23 ?c23 ?k23 ?l24 ?c24 ?k24 ?pa1 ?pg1 ?pt1 ?pr1 ?l25 ?c25 ?k25 ?l26 ?c26 ?k26 ?a27 ?i27 ?l27 ?c27 ?k27 ?l28 ?c28 ?k28 ?ga0 ?gb0 ?gc0 ?gd0 ?ge0 ?gk0 ?n0_first ?n0_name ?n0_needs ?n0_second ?ga1 ?gb1 ?gc1 ?gd1 ?ge1 ?gk1 ?n1__menu ?n1__numbers ?ex0 ?ek0 ?eb0 ?et0 ?ex1 ?ek1 ?eb1 ?et1 ?ek2 ?eb2 ?et2 ?oc_n ?oc_t ?ia0 ?im0 ?kit_i0_NoneType ?kit_i0_int ?kit_i0_str ?kit_i0_tuple ?kit_i0_list ?qF0 ?qT0 ?qI0 ?qC0 ?qL0 ?qD0 ?rV0 ?rG0 ?rH0 ?qA0 ?sS0 ?qB0 ?qM0 ?qX0 ?rR0 ?qY0 ?qN0 ?qn0 ?qo0 ?qm0 ?qf0_int ?qf0_str ?qf0_bool ?qf0_tuple ?qf0_list ?qf0_NoneType ?z_all ?z_bool ?z_dict ?z_int ?z_isinstance ?z_len ?z_list ?z_max ?z_min ?z_range ?z_reversed ?z_set ?z_sorted ?z_str ?z_super ?z_tuple ?v_LETTERS ?v_MOST_LETTERS ?kd11_first ?kd11_second
    (case a0 => k_is); (case a1 => k_is); (case a2 => k_is); (case a3 => k_is); (case a4 => k_is); (case a5 => k_is)
    (case a6 => k_is); (case a7 => k_is); (case a8 => k_is); (case a9 => k_is); (case a10 => k_is); (case a12 => k_is)
    (case a13 => k_is); (case a14 => k_is); (case a20 => k_is); (case a23 => k_is); (case a24 => k_is); (case a26 => k_is)
    (case a28 => k_is); (case ac0 => k_is); (case ac1 => k_is); (case ac2 => k_is); (case ac3 => k_is); (case ac4 => k_is)
    (case l0 => k_is); (case c0 => k_is); (case k0 => k_is); (case l1 => k_is); (case c1 => k_is); (case k1 => k_is)
    (case l2 => k_is); (case c2 => k_is); (case k2 => k_is); (case l3 => k_is); (case c3 => k_is); (case k3 => k_is)
    (case l4 => k_is); (case c4 => k_is); (case k4 => k_is); (case l5 => k_is); (case c5 => k_is); (case k5 => k_is)
    (case l6 => k_is); (case c6 => k_is); (case k6 => k_is); (case l7 => k_is); (case c7 => k_is); (case k7 => k_is)
    (case l8 => k_is); (case c8 => k_is); (case k8 => k_is); (case l9 => k_is); (case c9 => k_is); (case k9 => k_is)
    (case l10 => k_is); (case c10 => k_is); (case k10 => k_is); (case a11 => k_is); (case i11 => k_is); (case l11 => k_is)
    (case c11 => k_is); (case k11 => k_is); (case l12 => k_is); (case c12 => k_is); (case k12 => k_is); (case l13 => k_is)
    (case c13 => k_is); (case k13 => k_is); (case l14 => k_is); (case c14 => k_is); (case k14 => k_is); (case a15 => k_is)
    (case i15 => k_is); (case l15 => k_is); (case c15 => k_is); (case k15 => k_is); (case pa2 => k_is); (case pg2 => k_is)
    (case pt2 => k_is); (case pr2 => k_is); (case l16 => k_is); (case c16 => k_is); (case k16 => k_is); (case a17 => k_is)
    (case i17 => k_is); (case l17 => k_is); (case c17 => k_is); (case k17 => k_is); (case a18 => k_is); (case i18 => k_is)
    (case l18 => k_is); (case c18 => k_is); (case k18 => k_is); (case pa0 => k_is); (case pg0 => k_is); (case pt0 => k_is)
    (case pr0 => k_is); (case l19 => k_is); (case c19 => k_is); (case k19 => k_is); (case l20 => k_is); (case c20 => k_is)
    (case k20 => k_is); (case pa4 => k_is); (case pg4 => k_is); (case pt4 => k_is); (case pr4 => k_is); (case l21 => k_is)
    (case c21 => k_is); (case k21 => k_is); (case pa3 => k_is); (case pg3 => k_is); (case pt3 => k_is); (case pr3 => k_is)
    (case l22 => k_is); (case c22 => k_is); (case k22 => k_is); (case l23 => k_is); (case c23 => k_is); (case k23 => k_is)
    (case l24 => k_is); (case c24 => k_is); (case k24 => k_is); (case pa1 => k_is); (case pg1 => k_is); (case pt1 => k_is)
    (case pr1 => k_is); (case l25 => k_is); (case c25 => k_is); (case k25 => k_is); (case l26 => k_is); (case c26 => k_is)
    (case k26 => k_is); (case a27 => k_is); (case i27 => k_is); (case l27 => k_is); (case c27 => k_is); (case k27 => k_is)
    (case l28 => k_is); (case c28 => k_is); (case k28 => k_is); (case ga0 => k_is); (case gb0 => k_is); (case gc0 => k_is)
    (case gd0 => k_is); (case ge0 => k_is); (case gk0 => k_is); (case n0_first => k_is); (case n0_name => k_is); (case n0_needs => k_is)
    (case n0_second => k_is); (case ga1 => k_is); (case gb1 => k_is); (case gc1 => k_is); (case gd1 => k_is); (case ge1 => k_is)
    (case gk1 => k_is); (case n1__menu => k_is); (case n1__numbers => k_is); (case ex0 => k_exc); (case ek0 => k_is); (case eb0 => k_is)
    (case et0 => k_is); (case ex1 => k_exc); (case ek1 => k_is); (case eb1 => k_is); (case et1 => k_is); (case ek2 => k_is)
    (case eb2 => k_is); (case et2 => k_is); (case oc_n => k_is); (case oc_t => k_is); (case ia0 => k_is); (case im0 => k_is)
    (case kit_i0_NoneType => kit_is); (case kit_i0_int => kit_is); (case kit_i0_str => kit_is); (case kit_i0_tuple => kit_is); (case kit_i0_list => kit_is); (case qF0 => k_is)
    (case qT0 => k_is); (case qI0 => k_is); (case qC0 => k_is); (case qL0 => k_is); (case qD0 => k_is); (case rV0 => first | rfl | decide +kernel)
    (case rG0 => first | rfl | decide +kernel); (case rH0 => first | rfl | decide +kernel); (case qA0 => k_is); (case sS0 => ks_is); (case qB0 => k_is); (case qM0 => k_is)
    (case qX0 => k_is); (case rR0 => first | rfl | decide +kernel); (case qY0 => k_is); (case qN0 => k_is); (case qn0 => k_is); (case qo0 => k_is)
    (case qm0 => k_is); (case qf0_int => k_is); (case qf0_str => k_is); (case qf0_bool => k_is); (case qf0_tuple => k_is); (case qf0_list => k_is)
    (case qf0_NoneType => k_is); (case z_all => k_is); (case z_bool => k_is); (case z_dict => k_is); (case z_int => k_is); (case z_isinstance => k_is)
    (case z_len => k_is); (case z_list => k_is); (case z_max => k_is); (case z_min => k_is); (case z_range => k_is); (case z_reversed => k_is)
    (case z_set => k_is); (case z_sorted => k_is); (case z_str => k_is); (case z_super => k_is); (case z_tuple => k_is); (case v_LETTERS => k_is)
    (case v_MOST_LETTERS => k_is); (case kd11_first => k_is); (case kd11_second => k_is)
