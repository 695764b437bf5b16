import PyProof.Rows.All
import Wide.All
import OpenK.AllK
import Wide.FinOn
import HandS.ForMost
import HandS.ForExc
import HandS.IsInst
import HandS.More
import KE.DataEq
import HandS.CallSlots
import HandS.Conv
import HandS.SortRule
import HandS.MakeKwOnly
import HandS.Property
import HandS.FStr
import KE.KOpsOwn
import HandS.Star
import HandS.Strs
import HandS.SetFor
import HandS.SetTxt0
import HandS.RaiseMore
import HandS.TryOnly
import HandS.ExcField
import HandS.ExcIs
import KE.KExcIs
import HandS.OwnEq
import KE.KExcSuper
import HandS.Nested
import HandS.ExcInit
import HandS.Gcd
import PyProof.FitsBits
import KE.IntBitsLaws
import HandS.Zip
import OpenK.KMeth
import HandS.Rev
import HandS.RevTup
import PyProof.ListNew
import PyProof.ListRange
import HandS.DictSubView
import HandS.SortKw
import KE.KDictSum
import KE.DatumOrd
import HandS.TupMul
import HandS.TupAny
import KE.GoesZip
import KE.GoesMore
import PyProof.ListIndex
import PyProof.ListIndexNeg
import KE.GoesEnum
import HandS.ListItems
import HandS.HotCalls
import HandS.Style
import PySem.Challenge.RW_mixpace_k31_region_refusals
set_option Elab.async false
set_option linter.all false
set_option maxRecDepth 100000
set_option maxHeartbeats 4000000
namespace Mx
open PySem PySem.Spec PyProof.Rows L2

/-! ### data -/
inductive Dt where
  | non | bl (b : Bool) | int (i : Int) | str (s : Str) | ty (n : String)
  | tup (l : List Dt) | lst (l : List Dt) | frl (l : List Dt)
  | ins (c : Str) (fs : List (Str × Dt))
  | dk (kvs : List (Key × Dt)) | dt (kvs : List (List Key × Dt)) | ftp (l : List Str)

/-- the classes' addresses, by name -/
abbrev Cf := Str → Option Addr
/-- these, and the exception that is handled: its address, its class, its dict -/
structure Cl where
  of : Cf
  xc : Option (Addr × Value × Option Addr)
instance : CoeFun Cl (fun _ => Cf) := ⟨Cl.of⟩
instance : Coe Cl Cf := ⟨Cl.of⟩
abbrev Fr := PySem.W.Frag

mutual
inductive Rep (K : Fr) (cl : Cf) (H : Hp) : V → Dt → Prop
  | non : Rep K cl H .non .non
  | bl (b : Bool) : Rep K cl H (.bl b) (.bl b)
  | int (i : Int) : Rep K cl H (.int i) (.int i)
  | str (x : Str) : Rep K cl H (.str x) (.str x)
  | ty (n : String) : Rep K cl H (.ty n) (.ty n)
  | tup {a : Addr} {xs : List V} {ds : List Dt} : H a = some (.tup xs) → RepL K cl H xs ds → Rep K cl H (.ref a) (.tup ds)
  | lst {a : Addr} {xs : List V} {ds : List Dt} : H a = some (.lst xs) → RepL K cl H xs ds → Rep K cl H (.ref a) (.lst ds)
  | frl {a : Addr} {xs : List V} {ds : List Dt} : SqL K H a xs → RepL K cl H xs ds → Rep K cl H (.ref a) (.frl ds)
  | ins {a C dx : Addr} {c : Str} {fv : List (Str × V)} {fs : List (Str × Dt)} : cl c = some C → H a = some (.ins C dx fv) → fv.map (·.1) = fs.map (·.1) → RepL K cl H (fv.map (·.2)) (fs.map (·.2)) → Rep K cl H (.ref a) (.ins c fs)
  | dk {a : Addr} {kv : List (Key × V)} {kvs : List (Key × Dt)} : H a = some (.dK kv) → kv.map (·.1) = kvs.map (·.1) → RepL K cl H (kv.map (·.2)) (kvs.map (·.2)) → Rep K cl H (.ref a) (.dk kvs)
  | dt {a : Addr} {kv : List (List Key × V)} {kvs : List (List Key × Dt)} : H a = some (.dT kv) → kv.map (·.1) = kvs.map (·.1) → RepL K cl H (kv.map (·.2)) (kvs.map (·.2)) → Rep K cl H (.ref a) (.dt kvs)
  | ftp {a : Addr} {o : Obj} {l : List Str} : H a = some (.frz o (.tup (l.map V.str))) → o.cls = .type "tuple" → o.dict = none → Rep K cl H (.ref a) (.ftp l)
inductive RepL (K : Fr) (cl : Cf) (H : Hp) : List V → List Dt → Prop
  | nil : RepL K cl H [] []
  | cons {v : V} {d : Dt} {vs : List V} {ds : List Dt} : Rep K cl H v d → RepL K cl H vs ds → RepL K cl H (v :: vs) (d :: ds)
end

section
variable {K : Fr} {cl : Cf} {H H' H1 : Hp}
mutual
theorem Rep.mono (e : Same H H') : ∀ {v : V} {d : Dt}, Rep K cl H v d → Rep K cl H' v d
  | _, _, .non => .non
  | _, _, .bl b => .bl b
  | _, _, .int i => .int i
  | _, _, .str x => .str x
  | _, _, .ty n => .ty n
  | _, _, .tup h r => .tup (e _ _ h) (RepL.mono e r)
  | _, _, .lst h r => .lst (e _ _ h) (RepL.mono e r)
  | _, _, .frl h r => .frl (e.seq h) (RepL.mono e r)
  | _, _, .ins c h k r => .ins c (e _ _ h) k (RepL.mono e r)
  | _, _, .dk h k r => .dk (e _ _ h) k (RepL.mono e r)
  | _, _, .dt h k r => .dt (e _ _ h) k (RepL.mono e r)
  | _, _, .ftp h c d => .ftp (e _ _ h) c d
theorem RepL.mono (e : Same H H') : ∀ {vs : List V} {ds : List Dt}, RepL K cl H vs ds → RepL K cl H' vs ds
  | _, _, .nil => .nil
  | _, _, .cons h r => .cons (Rep.mono e h) (RepL.mono e r)
end
theorem RepL.len : ∀ {vs : List V} {ds : List Dt}, RepL K cl H vs ds → vs.length = ds.length
  | _, _, .nil => rfl
  | _, _, .cons _ r => by rw [List.length_cons, List.length_cons, r.len]
theorem RepL.get : ∀ {vs : List V} {ds : List Dt} {i : Nat} {d : Dt}, RepL K cl H vs ds → ds[i]? = some d → ∃ v, vs[i]? = some v ∧ Rep K cl H v d
  | _, _, _, _, .nil, e => by simp at e
  | _, _, 0, _, .cons h _, e => by simp at e; subst e; exact ⟨_, rfl, h⟩
  | _, _, i + 1, _, .cons _ r, e => by simpa using r.get (i := i) (by simpa using e)
theorem RepL.getV : ∀ {vs : List V} {ds : List Dt} {i : Nat} {v : V}, RepL K cl H vs ds → vs[i]? = some v → ∃ d, ds[i]? = some d ∧ Rep K cl H v d
  | _, _, _, _, .nil, e => by simp at e
  | _, _, 0, _, .cons h _, e => by simp at e; subst e; exact ⟨_, rfl, h⟩
  | _, _, i + 1, _, .cons _ r, e => by simpa using r.getV (i := i) (by simpa using e)
theorem RepL.app : ∀ {vs ws : List V} {ds es : List Dt}, RepL K cl H vs ds → RepL K cl H ws es → RepL K cl H (vs ++ ws) (ds ++ es)
  | _, _, _, _, .nil, s => s
  | _, _, _, _, .cons h r, s => .cons h (r.app s)
theorem RepL.take : ∀ {vs : List V} {ds : List Dt} (n : Nat), RepL K cl H vs ds → RepL K cl H (vs.take n) (ds.take n)
  | _, _, 0, r => by simpa using RepL.nil
  | _, _, _ + 1, .nil => .nil
  | _, _, n + 1, .cons h r => .cons h (r.take n)
theorem RepL.drop : ∀ {vs : List V} {ds : List Dt} (n : Nat), RepL K cl H vs ds → RepL K cl H (vs.drop n) (ds.drop n)
  | _, _, 0, r => r
  | _, _, _ + 1, .nil => .nil
  | _, _, n + 1, .cons h r => r.drop n
theorem RepL.set {v : V} {d : Dt} (h : Rep K cl H v d) : ∀ {vs : List V} {ds : List Dt} (i : Nat), RepL K cl H vs ds → RepL K cl H (vs.set i v) (ds.set i d)
  | _, _, _, .nil => .nil
  | _, _, 0, .cons _ r => .cons h r
  | _, _, i + 1, .cons g r => .cons g (RepL.set h i r)
theorem RepL.one {v : V} {d : Dt} (h : Rep K cl H v d) : RepL K cl H [v] [d] := .cons h .nil
theorem RepL.rev : ∀ {vs : List V} {ds : List Dt}, RepL K cl H vs ds → RepL K cl H vs.reverse ds.reverse
  | _, _, .nil => .nil
  | _, _, .cons h r => by
    rw [List.reverse_cons, List.reverse_cons]
    exact r.rev.app (RepL.one h)
theorem RepL.ints : ∀ {vs : List V} {ns : List Int}, RepL K cl H vs (ns.map Dt.int) → vs = ns.map V.int
  | _, [], .nil => rfl
  | _, n :: ns, .cons (.int _) r => by rw [r.ints]; rfl
theorem RepL.ofInts : ∀ (ns : List Int), RepL K cl H (ns.map V.int) (ns.map Dt.int)
  | [] => .nil
  | n :: ns => .cons (.int n) (RepL.ofInts ns)
theorem RepL.bools : ∀ {vs : List V} {ns : List Bool}, RepL K cl H vs (ns.map Dt.bl) → vs = ns.map V.bl
  | _, [], .nil => rfl
  | _, n :: ns, .cons (.bl _) r => by rw [r.bools]; rfl
theorem RepL.strs : ∀ {vs : List V} {ns : List Str}, RepL K cl H vs (ns.map Dt.str) → vs = ns.map V.str
  | _, [], .nil => rfl
  | _, n :: ns, .cons (.str _) r => by rw [r.strs]; rfl
theorem RepL.ofStrs : ∀ (ns : List Str), RepL K cl H (ns.map V.str) (ns.map Dt.str)
  | [] => .nil
  | n :: ns => .cons (.str n) (RepL.ofStrs ns)
end

/-! ### results -/
inductive R (α : Type) where
  | bad | ex (c : Str) (fs : List (Str × Dt)) | ok (a : α)
def R.bind {α β : Type} : R α → (α → R β) → R β
  | .bad, _ => .bad
  | .ex c fs, _ => .ex c fs
  | .ok a, f => f a

@[simp] theorem bind_ok {α β : Type} (a : α) (f : α → R β) : R.bind (.ok a) f = f a := rfl
@[simp] theorem bind_bad {α β : Type} (f : α → R β) : R.bind (.bad : R α) f = .bad := rfl
@[simp] theorem bind_ex {α β : Type} (c : Str) (fs : List (Str × Dt)) (f : α → R β) : R.bind (.ex c fs : R α) f = .ex c fs := rfl
/-! ### slots -/
/-- an owned tree: shared data, own lists, own instances -/
inductive Ow where
  | sh (d : Dt) | ol (l : List Ow) | oi (c : Str) (fs : List (Str × Ow))
inductive Sl where
  | no | sh (d : Dt) | ol (l : List Dt) | oi (x : Addr) (c : Str) (fs : List (Str × Dt)) | ok (kvs : List (Key × Dt)) | ot (kvs : List (List Key × Dt)) | xc (c : Str) (fs : List (Str × Dt)) | br (l : List Dt) | ow (t : Ow)
abbrev Ds := List Sl
/-- what an owned object is: a list, an instance, a dict -/
def MutO : Option HO → Bool
  | some (.lst _) => true
  | some (.ins _ _ _) => true
  | some (.dK _) => true
  | some (.dT _) => true
  | _ => false
theorem mutO_none (h : MutO none = true) : False := Bool.noConfusion h
theorem mutO_some {o : Option HO} (h : MutO o = true) : ∃ u, o = some u := by
  cases o with
  | none => exact (mutO_none h).elim
  | some u => exact ⟨u, rfl⟩
def hid (O : List Addr) (H : Hp) : Hp := fun a => if a ∈ O then none else H a
def Sl.own : Sl → Bool
  | .no => false | .sh _ => false | .xc _ _ => false | .br _ => false | .ow _ => false | _ => true
theorem hid_same (O : List Addr) (H : Hp) : Same (hid O H) H := fun b o e => by
  unfold hid at e
  split at e
  · cases e
  · exact e
theorem hid_nin {O : List Addr} {H : Hp} {a : Addr} (h : a ∉ O) : hid O H a = H a := by unfold hid; rw [if_neg h]
theorem hid_mono {O : List Addr} {H H' : Hp} (e : Same H H') : Same (hid O H) (hid O H') := fun b o h => by
  unfold hid at h ⊢
  split at h
  · cases h
  · rename_i q
    rw [if_neg q]
    exact e b o h
theorem hid_sub {O O' : List Addr} {H : Hp} (s : ∀ a, a ∈ O' → a ∈ O) : Same (hid O H) (hid O' H) := fun b o h => by
  unfold hid at h ⊢
  split at h
  · cases h
  · rename_i q
    rw [if_neg fun z => q (s b z)]
    exact h
theorem hid_upd {O : List Addr} {H : Hp} {a : Addr} {o : HO} (h : a ∈ O) : hid O (upd H a o) = hid O H := by
  funext b
  unfold hid
  split
  · rfl
  · rename_i q
    rw [upd_ne (fun e : b = a => q (e ▸ h))]
theorem hid_new {O : List Addr} {H H' : Hp} {p : Addr} (e : Same H H') (n : H p = none) : Same (hid O H) (hid (p :: O) H') := fun b o h => by
  unfold hid at h ⊢
  split at h
  · cases h
  · rename_i q
    have bp : b ≠ p := fun z => by rw [z, n] at h; cases h
    rw [if_neg (fun z => (List.mem_cons.mp z).elim bp q)]
    exact e b o h

section
variable (K : Fr) (cl : Cl)
def OwnAt (H Hh : Hp) (a : Addr) : Sl → Prop
  | .ol l => ∃ vs, H a = some (.lst vs) ∧ RepL K cl Hh vs l
  | .oi x c fs => ∃ C dx fv, (cl c = some C ∧ a = x) ∧ H a = some (.ins C dx fv) ∧ fv.map (·.1) = fs.map (·.1) ∧ RepL K cl Hh (fv.map (·.2)) (fs.map (·.2))
  | .ok kvs => ∃ kv, H a = some (.dK kv) ∧ kv.map (·.1) = kvs.map (·.1) ∧ RepL K cl Hh (kv.map (·.2)) (kvs.map (·.2))
  | .ot kvs => ∃ kv, H a = some (.dT kv) ∧ kv.map (·.1) = kvs.map (·.1) ∧ RepL K cl Hh (kv.map (·.2)) (kvs.map (·.2))
  | _ => False
/-- the exception that is handled, as a slot's value -/
def XcAt (Hh : Hp) (v : Option (Option V)) (c : Str) (fs : List (Str × Dt)) : Prop := ∃ a C d, cl.xc = some (a, .ref C, d) ∧ v = some (some (.ref a)) ∧ cl c = some C ∧
  ((d = none ∧ fs = []) ∨ ∃ dd fv, d = some dd ∧ Hh dd = some (.xd fv) ∧ fv.map (·.1) = fs.map (·.1) ∧ RepL K cl Hh (fv.map (·.2)) (fs.map (·.2)))
/-- a list that is lent to the def: it belongs to the caller -/
def BrAt (H0 : Hp) (O : List Addr) (Hh : Hp) (v : Option (Option V)) (l : List Dt) : Prop := ∃ a xs, v = some (some (.ref a)) ∧ a ∈ O ∧ H0 a = some (.lst xs) ∧ RepL K cl Hh xs l
def SlotOk (H0 : Hp) (O : List Addr) (H : Hp) (v : Option (Option V)) (s : Sl) : Prop :=
  match s with
  | .no => True
  | .sh d => ∃ x, v = some (some x) ∧ Rep K cl (hid O H) x d
  | .xc c fs => XcAt K cl (hid O H) v c fs
  | .br l => BrAt K cl H0 O (hid O H) v l
  | .ow _ => True
  | s => ∃ a, v = some (some (.ref a)) ∧ (a ∈ O ∧ H0 a = none) ∧ OwnAt K cl H (hid O H) a s
mutual
/-- an owned tree in the heap; F: the addresses of its own objects -/
inductive Tr (H Hh : Hp) : V → Ow → List Addr → Prop
  | sh {v : V} {d : Dt} : Rep K cl Hh v d → Tr H Hh v (.sh d) []
  | ol {a : Addr} {vs : List V} {l : List Ow} {F : List Addr} : H a = some (.lst vs) → TrL H Hh vs l F → Tr H Hh (.ref a) (.ol l) (a :: F)
  | oi {a C dx : Addr} {c : Str} {fv : List (Str × V)} {fs : List (Str × Ow)} {F : List Addr} : cl c = some C → H a = some (.ins C dx fv) → fv.map (·.1) = fs.map (·.1) → TrL H Hh (fv.map (·.2)) (fs.map (·.2)) F → Tr H Hh (.ref a) (.oi c fs) (a :: F)
inductive TrL (H Hh : Hp) : List V → List Ow → List Addr → Prop
  | nil : TrL H Hh [] [] []
  | cons {v : V} {t : Ow} {vs : List V} {ts : List Ow} {F G : List Addr} : Tr H Hh v t F → TrL H Hh vs ts G → TrL H Hh (v :: vs) (t :: ts) (F ++ G)
end
/-- the owned trees of the slots -/
def Inn (H0 : Hp) (O : List Addr) (σ : L2.St) (D : Ds) (H : Hp) : Prop := ∃ Fs : Nat → List Addr, ∀ (i : Nat) (t : Ow), D[i]? = some (.ow t) →
  (∃ v, σ[i]? = some (some v) ∧ Tr K cl H (hid O H) v t (Fs i)) ∧ (Fs i).Nodup ∧ (∀ a, a ∈ Fs i → a ∈ O ∧ H0 a = none) ∧
  (∀ (j : Nat) (s : Sl) (a : Addr), D[j]? = some s → s.own = true → σ[j]? = some (some (.ref a)) → a ∉ Fs i) ∧
  (∀ (j : Nat) (t2 : Ow), j ≠ i → D[j]? = some (.ow t2) → ∀ a, a ∈ Fs i → a ∉ Fs j)
structure RS (B : List Addr) (H0 : Hp) (O : List Addr) (σ : L2.St) (D : Ds) (H : Hp) : Prop where
  same : Same H0 H
  bas : ∀ a, a ∈ B → a ∈ O ∧ MutO (H0 a) = true
  own : ∀ a, a ∈ O → (a ∈ B ∨ H0 a = none) ∧ MutO (H a) = true
  len : σ.length = D.length
  slot : ∀ (i : Nat) s, D[i]? = some s → SlotOk K cl H0 O H σ[i]? s
  inj : ∀ (i j : Nat) (s t : Sl) (a : Addr), i ≠ j → D[i]? = some s → D[j]? = some t → s.own = true → t.own = true → σ[i]? = some (some (.ref a)) → σ[j]? ≠ some (some (.ref a))
  inn : Inn K cl H0 O σ D H

def ExOk (E : XK) (O : List Addr) (c : Str) (fs : List (Str × Dt)) (H : Hp) : Prop := ∀ C, cl c = some C →
  (fs = [] → ∀ H', Same H H' → E (.ref C) none H') ∧ (∀ H' d fv, Same H H' → H' d = some (.xd fv) → fv.map (·.1) = fs.map (·.1) → RepL K cl (hid O H') (fv.map (·.2)) (fs.map (·.2)) → E (.ref C) (some d) H')
def PostE (E : XK) (O : List Addr) (H : Hp) (Q : VK) : R Dt → Prop
  | .bad => False
  | .ex c fs => ExOk K cl E O c fs H
  | .ok d => ∀ v H', Same H H' → Rep K cl (hid O H') v d → Q v H'
def PostA (E : XK) (O : List Addr) (H : Hp) (Q : List V → Hp → Prop) : R (List Dt) → Prop
  | .bad => False
  | .ex c fs => ExOk K cl E O c fs H
  | .ok ds => ∀ vs H', Same H H' → RepL K cl (hid O H') vs ds → Q vs H'
def PostT (E : XK) (O : List Addr) (H : Hp) (Q : Bool → Hp → Prop) : R Bool → Prop
  | .bad => False
  | .ex c fs => ExOk K cl E O c fs H
  | .ok b => ∀ H', Same H H' → Q b H'
/-- a new list (its address is told to be new) -/
def PostL (E : XK) (O : List Addr) (H : Hp) (Q : VK) : R (List Dt) → Prop
  | .bad => False
  | .ex c fs => ExOk K cl E O c fs H
  | .ok ds => ∀ p vs H', Same H H' → H p = none → H' p = some (.lst vs) → RepL K cl (hid (p :: O) H') vs ds → Q (.ref p) H'
end

abbrev XE := Ds → R Dt
abbrev XT := Ds → R Bool
abbrev XA := Ds → R (List Dt)
section
variable (K : Fr) (cl : Cl) (E : L2.St → XK)
def Sim (te : TE) (xe : XE) : Prop := ∀ B H0 O σ D H, RS K cl B H0 O σ D H → ∀ Q : VK, PostE K cl (E σ) O H Q (xe D) → te σ H Q
def SimA (ta : TA) (xa : XA) : Prop := ∀ B H0 O σ D H, RS K cl B H0 O σ D H → ∀ Q : List V → Hp → Prop, PostA K cl (E σ) O H Q (xa D) → ta σ H Q
def SimT (tt : TT) (xt : XT) : Prop := ∀ B H0 O σ D H, RS K cl B H0 O σ D H → ∀ Q : Bool → Hp → Prop, PostT K cl (E σ) O H Q (xt D) → tt σ H Q
def SimL (te : TE) (xl : XA) : Prop := ∀ B H0 O σ D H, RS K cl B H0 O σ D H → ∀ Q : VK, PostL K cl (E σ) O H Q (xl D) → te σ H Q
end

section
variable {K : Fr} {cl : Cl} {H0 H H' : Hp} {O : List Addr} {σ : L2.St} {D : Ds}
theorem OwnAt.mono {a : Addr} {Hh Hh' : Hp} (e : Same H H') (e2 : Same Hh Hh') : ∀ {s : Sl}, OwnAt K cl H Hh a s → OwnAt K cl H' Hh' a s
  | .ol _, ⟨vs, h, r⟩ => ⟨vs, e _ _ h, r.mono e2⟩
  | .oi _ _ _, ⟨C, dx, fv, c, h, k, r⟩ => ⟨C, dx, fv, c, e _ _ h, k, r.mono e2⟩
  | .ok _, ⟨kv, h, k, r⟩ => ⟨kv, e _ _ h, k, r.mono e2⟩
  | .ot _, ⟨kv, h, k, r⟩ => ⟨kv, e _ _ h, k, r.mono e2⟩
theorem OwnAt.own {a : Addr} {Hh : Hp} : ∀ {s : Sl}, OwnAt K cl H Hh a s → s.own = true
  | .ol _, _ => rfl
  | .oi _ _ _, _ => rfl
  | .ok _, _ => rfl
  | .ot _, _ => rfl
theorem OwnAt.mutO {a : Addr} {Hh : Hp} : ∀ {s : Sl}, OwnAt K cl H Hh a s → MutO (H a) = true
  | .ol _, ⟨_, h, _⟩ => by rw [h]; rfl
  | .oi _ _ _, ⟨_, _, _, _, h, _⟩ => by rw [h]; rfl
  | .ok _, ⟨_, h, _⟩ => by rw [h]; rfl
  | .ot _, ⟨_, h, _⟩ => by rw [h]; rfl
theorem XcAt.mono {Hh Hh' : Hp} {v : Option (Option V)} {c : Str} {fs : List (Str × Dt)} (e : Same Hh Hh') (h : XcAt K cl Hh v c fs) : XcAt K cl Hh' v c fs := by
  obtain ⟨a, C, d, e1, e2, e3, h⟩ := h
  exact ⟨a, C, d, e1, e2, e3, h.imp id fun ⟨dd, fv, q1, q2, q3, q4⟩ => ⟨dd, fv, q1, e _ _ q2, q3, q4.mono e⟩⟩
mutual
theorem Tr.mono {Hh Hh' : Hp} (e : Same H H') (e2 : Same Hh Hh') : ∀ {v : V} {t : Ow} {F : List Addr}, Tr K cl H Hh v t F → Tr K cl H' Hh' v t F
  | _, _, _, .sh r => .sh (r.mono e2)
  | _, _, _, .ol h r => .ol (e _ _ h) (TrL.mono e e2 r)
  | _, _, _, .oi c h k r => .oi c (e _ _ h) k (TrL.mono e e2 r)
theorem TrL.mono {Hh Hh' : Hp} (e : Same H H') (e2 : Same Hh Hh') : ∀ {vs : List V} {ts : List Ow} {F : List Addr}, TrL K cl H Hh vs ts F → TrL K cl H' Hh' vs ts F
  | _, _, _, .nil => .nil
  | _, _, _, .cons h r => .cons (Tr.mono e e2 h) (TrL.mono e e2 r)
end
mutual
/-- the heap may change elsewhere -/
theorem Tr.agree {Hh : Hp} : ∀ {v : V} {t : Ow} {F : List Addr}, (∀ a, a ∈ F → H' a = H a) → Tr K cl H Hh v t F → Tr K cl H' Hh v t F
  | _, _, _, _, .sh r => .sh r
  | _, _, _, g, .ol h r => .ol ((g _ List.mem_cons_self).trans h) (TrL.agree (fun a m => g a (List.mem_cons_of_mem _ m)) r)
  | _, _, _, g, .oi c h k r => .oi c ((g _ List.mem_cons_self).trans h) k (TrL.agree (fun a m => g a (List.mem_cons_of_mem _ m)) r)
theorem TrL.agree {Hh : Hp} : ∀ {vs : List V} {ts : List Ow} {F : List Addr}, (∀ a, a ∈ F → H' a = H a) → TrL K cl H Hh vs ts F → TrL K cl H' Hh vs ts F
  | _, _, _, _, .nil => .nil
  | _, _, _, g, .cons h r => .cons (Tr.agree (fun a m => g a (List.mem_append_left _ m)) h) (TrL.agree (fun a m => g a (List.mem_append_right _ m)) r)
end
theorem Tr.upd {Hh : Hp} {v : V} {t : Ow} {F : List Addr} {b : Addr} {o : HO} (n : b ∉ F) (h : Tr K cl H Hh v t F) : Tr K cl (upd H b o) Hh v t F :=
  h.agree fun a m => upd_ne fun e => n (e ▸ m)
theorem Inn.none {σ : L2.St} {D : Ds} (h : ∀ (i : Nat) (t : Ow), D[i]? ≠ some (.ow t)) : Inn K cl H0 O σ D H := ⟨fun _ => [], fun i t e => absurd e (h i t)⟩
/-- a heap that knows more, and more that is owned -/
theorem Inn.grow {H0 : Hp} {O' : List Addr} {σ : L2.St} {D : Ds} (h : Inn K cl H0 O σ D H) (e : Same H H') (eh : Same (hid O H) (hid O' H')) (sub : ∀ a, a ∈ O → a ∈ O') : Inn K cl H0 O' σ D H' := by
  obtain ⟨Fs, h⟩ := h
  refine ⟨Fs, fun i t ei => ?_⟩
  obtain ⟨⟨v, hv, tr⟩, nd, fo, ow, dj⟩ := h i t ei
  exact ⟨⟨v, hv, tr.mono e eh⟩, nd, fun a m => ⟨sub a (fo a m).1, (fo a m).2⟩, ow, dj⟩
/-- another slot is stored -/
theorem Inn.put {σ : L2.St} {D : Ds} (h : Inn K cl H0 O σ D H) (i : Nat) (v : Option V) (s : Sl) (hs : ∀ t, s ≠ .ow t) (hn : s.own = true → ∀ a, v = some (.ref a) → a ∉ O) : Inn K cl H0 O (σ.set i v) (D.set i s) H := by
  obtain ⟨Fs, h⟩ := h
  have old : ∀ {j : Nat} {t : Ow}, (D.set i s)[j]? = some (.ow t) → j ≠ i ∧ D[j]? = some (.ow t) := fun {j t} e => by
    by_cases c : i = j
    · subst c
      by_cases hl : i < D.length
      · rw [List.getElem?_set_self hl] at e
        exact absurd (Option.some.inj e) (hs t)
      · rw [List.getElem?_eq_none (by simpa using hl)] at e; cases e
    · rw [List.getElem?_set_ne c] at e; exact ⟨Ne.symm c, e⟩
  refine ⟨Fs, fun j t ej => ?_⟩
  obtain ⟨hj, ej'⟩ := old ej
  obtain ⟨⟨w, hv, tr⟩, nd, fo, ow, dj⟩ := h j t ej'
  refine ⟨⟨w, by rw [List.getElem?_set_ne (Ne.symm hj)]; exact hv, tr⟩, nd, fo, fun k s' a ek os ha m => ?_, fun k t' hk ek => dj k t' hk (old ek).2⟩
  by_cases c : i = k
  · subst c
    by_cases hl : i < D.length
    · rw [List.getElem?_set_self hl] at ek
      cases Option.some.inj ek
      by_cases hl2 : i < σ.length
      · rw [List.getElem?_set_self hl2] at ha
        exact hn os a (Option.some.inj ha) (fo a m).1
      · rw [List.getElem?_eq_none (by simpa using hl2)] at ha; cases ha
    · rw [List.getElem?_eq_none (by simpa using hl)] at ek; cases ek
  · rw [List.getElem?_set_ne c] at ek ha
    exact ow k s' a ek os ha m
theorem SlotOk.mono {v : Option (Option V)} (e : Same H H') {s : Sl} (h : SlotOk K cl H0 O H v s) : SlotOk K cl H0 O H' v s := by
  cases s with
  | no => trivial
  | sh d => obtain ⟨x, e1, r⟩ := h; exact ⟨x, e1, r.mono (hid_mono e)⟩
  | ol l => obtain ⟨a, e1, m, o⟩ := h; exact ⟨a, e1, m, o.mono e (hid_mono e)⟩
  | oi x0 c l => obtain ⟨a, e1, m, o⟩ := h; exact ⟨a, e1, m, o.mono e (hid_mono e)⟩
  | ok l => obtain ⟨a, e1, m, o⟩ := h; exact ⟨a, e1, m, o.mono e (hid_mono e)⟩
  | ot l => obtain ⟨a, e1, m, o⟩ := h; exact ⟨a, e1, m, o.mono e (hid_mono e)⟩
  | xc c l => exact XcAt.mono (hid_mono e) h
  | br l => obtain ⟨a, xs, e1, m, h0, r⟩ := h; exact ⟨a, xs, e1, m, h0, r.mono (hid_mono e)⟩
  | ow t => trivial
variable {B : List Addr}
theorem RS.mono (r : RS K cl B H0 O σ D H) (e : Same H H') : RS K cl B H0 O σ D H' where
  same := r.same.trans e
  bas := r.bas
  own := fun a m => ⟨(r.own a m).1, by
    obtain ⟨o, h⟩ := mutO_some (r.own a m).2
    have q := (r.own a m).2
    rw [h] at q
    rw [e a o h]; exact q⟩
  len := r.len
  slot := fun i s h => (r.slot i s h).mono e
  inj := r.inj
  inn := r.inn.grow e (hid_mono e) fun _ m => m
theorem SlotOk.owned {v : Option (Option V)} {s : Sl} (h : SlotOk K cl H0 O H v s) (o : s.own = true) : ∃ a, v = some (some (.ref a)) ∧ (a ∈ O ∧ H0 a = none) ∧ OwnAt K cl H (hid O H) a s := by
  cases s with
  | no => cases o
  | sh d => cases o
  | ol l => exact h
  | oi x0 c l => exact h
  | ok l => exact h
  | ot l => exact h
  | xc c l => cases o
  | br l => cases o
  | ow t => cases o
theorem SlotOk.of_owned {v : Option (Option V)} {s : Sl} {a : Addr} (e : v = some (some (.ref a))) (m : a ∈ O ∧ H0 a = none) (h : OwnAt K cl H (hid O H) a s) : SlotOk K cl H0 O H v s := by
  cases s with
  | no => exact h.elim
  | sh d => exact h.elim
  | ol l => exact ⟨a, e, m, h⟩
  | oi x0 c l => exact ⟨a, e, m, h⟩
  | ok l => exact ⟨a, e, m, h⟩
  | ot l => exact ⟨a, e, m, h⟩
  | xc c l => exact h.elim
  | br l => exact h.elim
  | ow t => exact h.elim
theorem own_ne {a b : Addr} {Hh : Hp} {s : Sl} {o : HO} (h : OwnAt K cl H Hh a s) (k : b ≠ a) : OwnAt K cl (upd H b o) Hh a s := by
  have e : upd H b o a = H a := upd_ne (Ne.symm k)
  cases s with
  | no => exact h.elim
  | sh d => exact h.elim
  | ol l => obtain ⟨vs, h1, r⟩ := h; exact ⟨vs, e.trans h1, r⟩
  | oi x0 c l => obtain ⟨C, dx, vs, q, h1, r⟩ := h; exact ⟨C, dx, vs, q, e.trans h1, r⟩
  | ok l => obtain ⟨vs, h1, r⟩ := h; exact ⟨vs, e.trans h1, r⟩
  | ot l => obtain ⟨vs, h1, r⟩ := h; exact ⟨vs, e.trans h1, r⟩
  | xc c l => exact h.elim
  | br l => exact h.elim
  | ow t => exact h.elim
theorem set_get {α : Type} {l : List α} {i j : Nat} {x y : α} (h : (l.set i x)[j]? = some y) : (j = i ∧ y = x ∧ i < l.length) ∨ (j ≠ i ∧ l[j]? = some y) := by
  by_cases e : i = j
  · subst e
    by_cases hl : i < l.length
    · rw [List.getElem?_set_self hl] at h
      exact .inl ⟨rfl, (Option.some.inj h).symm, hl⟩
    · rw [List.getElem?_eq_none (by simpa using hl)] at h; cases h
  · rw [List.getElem?_set_ne e] at h
    exact .inr ⟨Ne.symm e, h⟩
/-- a slot is stored: a shared value -/
theorem RS.setSh (r : RS K cl B H0 O σ D H) (i : Nat) {v : V} {d : Dt} (h : Rep K cl (hid O H) v d) : RS K cl B H0 O (σ.set i (some v)) (D.set i (.sh d)) H where
  same := r.same
  bas := r.bas
  own := r.own
  len := by rw [List.length_set, List.length_set]; exact r.len
  slot := fun j s e => by
    rcases set_get e with ⟨rfl, rfl, hl⟩ | ⟨hj, e'⟩
    · exact ⟨v, by rw [List.getElem?_set_self (by rw [r.len]; exact hl)], h⟩
    · rw [List.getElem?_set_ne (Ne.symm hj)]
      exact r.slot j s e'
  inj := fun j k s t a hjk e1 e2 o1 o2 h1 => by
    rcases set_get e1 with ⟨rfl, rfl, _⟩ | ⟨hj, e1'⟩
    · cases o1
    · rcases set_get e2 with ⟨rfl, rfl, _⟩ | ⟨hk, e2'⟩
      · cases o2
      · rw [List.getElem?_set_ne (Ne.symm hj)] at h1
        rw [List.getElem?_set_ne (Ne.symm hk)]
        exact r.inj j k s t a hjk e1' e2' o1 o2 h1
  inn := r.inn.put i (some v) (.sh d) (fun t e => by cases e) (fun e => by cases e)
/-- a slot is forgotten -/
theorem RS.setNo (r : RS K cl B H0 O σ D H) (i : Nat) (v : Option V) : RS K cl B H0 O (σ.set i v) (D.set i .no) H where
  same := r.same
  bas := r.bas
  own := r.own
  len := by rw [List.length_set, List.length_set]; exact r.len
  slot := fun j s e => by
    rcases set_get e with ⟨rfl, rfl, hl⟩ | ⟨hj, e'⟩
    · trivial
    · rw [List.getElem?_set_ne (Ne.symm hj)]
      exact r.slot j s e'
  inj := fun j k s t a hjk e1 e2 o1 o2 h1 => by
    rcases set_get e1 with ⟨rfl, rfl, _⟩ | ⟨hj, e1'⟩
    · cases o1
    · rcases set_get e2 with ⟨rfl, rfl, _⟩ | ⟨hk, e2'⟩
      · cases o2
      · rw [List.getElem?_set_ne (Ne.symm hj)] at h1
        rw [List.getElem?_set_ne (Ne.symm hk)]
        exact r.inj j k s t a hjk e1' e2' o1 o2 h1
  inn := r.inn.put i v .no (fun t e => by cases e) (fun e => by cases e)
/-- a slot is stored: a new owned object -/
theorem RS.setOwn (r : RS K cl B H0 O σ D H) (i : Nat) {p : Addr} {s : Sl} (e : Same H H') (n : H p = none) (h : OwnAt K cl H' (hid (p :: O) H') p s) (hs : MutO (H' p) = true) : RS K cl B H0 (p :: O) (σ.set i (some (.ref p))) (D.set i s) H' where
  same := r.same.trans e
  bas := fun a m => ⟨List.mem_cons_of_mem _ (r.bas a m).1, (r.bas a m).2⟩
  own := fun a m => by
    rcases List.mem_cons.mp m with rfl | m
    · exact ⟨.inr (r.same.free n), hs⟩
    · exact (r.mono e).own a m
  len := by rw [List.length_set, List.length_set]; exact r.len
  slot := fun j t et => by
    rcases set_get et with ⟨rfl, rfl, hl⟩ | ⟨hj, e'⟩
    · exact SlotOk.of_owned (by rw [List.getElem?_set_self (by rw [r.len]; exact hl)]) ⟨List.mem_cons_self, r.same.free n⟩ h
    · rw [List.getElem?_set_ne (Ne.symm hj)]
      have q := r.slot j t e'
      cases ho : t.own with
      | true =>
        obtain ⟨a, e1, m, o⟩ := q.owned ho
        exact SlotOk.of_owned e1 ⟨List.mem_cons_of_mem _ m.1, m.2⟩ (o.mono e (hid_new e n))
      | false =>
        cases t with
        | no => trivial
        | sh d => obtain ⟨x, e1, rr⟩ := q; exact ⟨x, e1, rr.mono (hid_new e n)⟩
        | ol l => cases ho
        | oi x0 c l => cases ho
        | ok l => cases ho
        | ot l => cases ho
        | xc c l => exact XcAt.mono (hid_new e n) q
        | br l => obtain ⟨a, xs, e1, m, h0, rr⟩ := q; exact ⟨a, xs, e1, List.mem_cons_of_mem _ m, h0, rr.mono (hid_new e n)⟩
        | ow t => trivial
  inj := fun j k s' t a hjk e1 e2 o1 o2 h1 => by
    have fresh : ∀ (j : Nat) (t : Sl), D[j]? = some t → t.own = true → σ[j]? ≠ some (some (.ref p)) := fun j t ej oj q => by
      obtain ⟨b, e3, m, _⟩ := (r.slot j t ej).owned oj
      rw [q] at e3
      cases e3
      have := (r.own p m.1).2
      rw [n] at this
      exact (mutO_none this).elim
    rcases set_get e1 with ⟨rfl, rfl, hl⟩ | ⟨hj, e1'⟩
    · rcases set_get e2 with ⟨rfl, _, _⟩ | ⟨hk, e2'⟩
      · exact absurd rfl hjk
      · rw [List.getElem?_set_self (by rw [r.len]; exact hl)] at h1
        cases h1
        rw [List.getElem?_set_ne (Ne.symm hk)]
        exact fresh k t e2' o2
    · rw [List.getElem?_set_ne (Ne.symm hj)] at h1
      rcases set_get e2 with ⟨rfl, rfl, hl⟩ | ⟨hk, e2'⟩
      · rw [List.getElem?_set_self (by rw [r.len]; exact hl)]
        intro q
        cases q
        exact fresh j s' e1' o1 h1
      · rw [List.getElem?_set_ne (Ne.symm hk)]
        exact r.inj j k s' t a hjk e1' e2' o1 o2 h1
  inn := by
    have np : p ∉ O := fun m => by
      have := (r.own p m).2
      rw [n] at this
      exact mutO_none this
    exact (r.inn.put i (some (.ref p)) s (fun t e' => by subst e'; exact h) (fun _ a ea => by cases ea; exact np)).grow e (hid_new e n) fun a m => List.mem_cons_of_mem _ m
/-- the owned object of a slot is changed -/
theorem RS.mut (r : RS K cl B H0 O σ D H) {i : Nat} {s s' : Sl} {a : Addr} {o : HO} (hi : D[i]? = some s) (ho : s.own = true) (ha : σ[i]? = some (some (.ref a)))
    (h : OwnAt K cl (upd H a o) (hid O H) a s') : RS K cl B H0 O σ (D.set i s') (upd H a o) := by
  obtain ⟨b, e1, m, ow⟩ := (r.slot i s hi).owned ho
  rw [ha] at e1
  cases e1
  have hn := m.2
  refine ⟨fun b o' e => by rw [upd_ne (ne_of_none e hn)]; exact r.same b o' e, r.bas, fun b mb => ⟨(r.own b mb).1, ?_⟩, by rw [List.length_set]; exact r.len, fun j t et => ?_, fun j k s1 t b hjk e1 e2 o1 o2 h1 => ?_, ?_⟩
  · by_cases e : b = a
    · subst e; exact h.mutO
    · rw [upd_ne e]; exact (r.own b mb).2
  · rcases set_get et with ⟨rfl, rfl, hl⟩ | ⟨hj, e'⟩
    · exact SlotOk.of_owned ha m (by rw [hid_upd m.1]; exact h)
    · have q := r.slot j t e'
      cases ho2 : t.own with
      | true =>
        obtain ⟨c, e1, mc, oc⟩ := q.owned ho2
        have hca : a ≠ c := fun z => by
          subst z
          exact r.inj i j s t a (Ne.symm hj) hi e' ho ho2 ha e1
        exact SlotOk.of_owned e1 mc (by rw [hid_upd m.1]; exact own_ne oc hca)
      | false =>
        cases t with
        | no => trivial
        | sh d => obtain ⟨x, e1, rr⟩ := q; exact ⟨x, e1, by rw [hid_upd m.1]; exact rr⟩
        | ol l => cases ho2
        | oi x0 c l => cases ho2
        | ok l => cases ho2
        | ot l => cases ho2
        | xc c l => exact XcAt.mono (by rw [hid_upd m.1]; exact Same.refl _) q
        | br l => obtain ⟨c, xs, e1, mc, h0, rr⟩ := q; exact ⟨c, xs, e1, mc, h0, by rw [hid_upd m.1]; exact rr⟩
        | ow t => trivial
  · have f : ∀ (j : Nat) (t : Sl), (D.set i s')[j]? = some t → t.own = true → ∃ t', D[j]? = some t' ∧ t'.own = true := fun j t ej oj => by
      rcases set_get ej with ⟨rfl, rfl, hl⟩ | ⟨hj, e'⟩
      · exact ⟨s, hi, ho⟩
      · exact ⟨t, e', oj⟩
    obtain ⟨s1', q1, q2⟩ := f j s1 e1 o1
    obtain ⟨t', q3, q4⟩ := f k t e2 o2
    exact r.inj j k s1' t' b hjk q1 q3 q2 q4 h1
  · obtain ⟨Fs, q⟩ := r.inn
    have old : ∀ {j : Nat} {t : Ow}, (D.set i s')[j]? = some (.ow t) → D[j]? = some (.ow t) := fun {j t} e => by
      rcases set_get e with ⟨rfl, rfl, hl⟩ | ⟨hj, e'⟩
      · exact h.elim
      · exact e'
    refine ⟨Fs, fun j t ej => ?_⟩
    obtain ⟨⟨w, hv, tr⟩, nd, fo, own, dj⟩ := q j t (old ej)
    have na : a ∉ Fs j := own i s a hi ho ha
    refine ⟨⟨w, hv, by rw [hid_upd m.1]; exact tr.upd na⟩, nd, fo, fun k s1 b ek os hb => ?_, fun k t' hk ek => dj k t' hk (old ek)⟩
    rcases set_get ek with ⟨rfl, rfl, hl⟩ | ⟨hk, e'⟩
    · rw [ha] at hb
      cases hb
      exact na
    · exact own k s1 b e' os hb
/-- a slot's owned object becomes shared -/
def Sl.frz : Sl → Sl
  | .ol l => .sh (.lst l)
  | .oi _ c fs => .sh (.ins c fs)
  | .ok kvs => .sh (.dk kvs)
  | .ot kvs => .sh (.dt kvs)
  | s => s
def Frz (i : Nat) (D : Ds) : Ds := D.set i ((D.getD i .no).frz)
theorem RS.frz' (r : RS K cl B H0 O σ D H) (i : Nat) : ∃ O', RS K cl B H0 O' σ (Frz i D) H ∧ (∀ a, a ∈ O' → a ∈ O) ∧ ∀ a, a ∈ O → a ∈ O' ∨ ∃ s, D[i]? = some s ∧ OwnAt K cl H (hid O H) a s := by
  unfold Frz
  cases hi : D[i]? with
  | none => exact ⟨O, by rw [List.set_eq_of_length_le (List.getElem?_eq_none_iff.mp hi)]; exact r, fun a m => m, fun a m => .inl m⟩
  | some s =>
    have hg : D.getD i .no = s := by rw [List.getD_eq_getElem?_getD, hi]; rfl
    rw [hg]
    cases ho : s.own with
    | false =>
      have : s.frz = s := by cases s <;> first | rfl | cases ho
      rw [this]
      have hD : D.set i s = D := by
        obtain ⟨hl, e⟩ := List.getElem?_eq_some_iff.mp hi
        rw [← e]; exact List.set_getElem_self hl
      rw [hD]
      exact ⟨O, r, fun a m => m, fun a m => .inl m⟩
    | true =>
      obtain ⟨a, ha, m, ow⟩ := (r.slot i s hi).owned ho
      have hB : a ∉ B := fun z => by
        have := (r.bas a z).2
        rw [m.2] at this; exact (mutO_none this).elim
      refine ⟨O.filter (· ≠ a), ⟨r.same, fun b mb => ⟨List.mem_filter.mpr ⟨(r.bas b mb).1, by simp; rintro rfl; exact hB mb⟩, (r.bas b mb).2⟩, fun b mb => r.own b (List.mem_filter.mp mb).1, by rw [List.length_set]; exact r.len, fun j t et => ?_, fun j k s1 t b hjk e1 e2 o1 o2 h1 => ?_, ?_⟩, fun b m => (List.mem_filter.mp m).1, fun b m => if e : b = a then .inr ⟨s, rfl, e ▸ ow⟩ else .inl (List.mem_filter.mpr ⟨m, by simpa using e⟩)⟩
      · have sub : Same (hid O H) (hid (O.filter (· ≠ a)) H) := hid_sub fun b mb => (List.mem_filter.mp mb).1
        have hna : a ∉ O.filter (· ≠ a) := fun z => by simpa using (List.mem_filter.mp z).2
        have hha : hid (O.filter (· ≠ a)) H a = H a := hid_nin hna
        rcases set_get et with ⟨rfl, rfl, hl⟩ | ⟨hj, e'⟩
        · cases s with
          | no => cases ho
          | sh d => cases ho
          | ol l => obtain ⟨vs, h1, rr⟩ := ow; exact ⟨.ref a, ha, .lst (hha.trans h1) (rr.mono sub)⟩
          | oi x0 c l => obtain ⟨C, dx, fv, c1, h1, k1, rr⟩ := ow; exact ⟨.ref a, ha, .ins c1.1 (hha.trans h1) k1 (rr.mono sub)⟩
          | ok l => obtain ⟨vs, h1, k1, rr⟩ := ow; exact ⟨.ref a, ha, .dk (hha.trans h1) k1 (rr.mono sub)⟩
          | ot l => obtain ⟨vs, h1, k1, rr⟩ := ow; exact ⟨.ref a, ha, .dt (hha.trans h1) k1 (rr.mono sub)⟩
          | xc c l => cases ho
          | br l => cases ho
          | ow t => cases ho
        · have q := r.slot j t e'
          cases ho2 : t.own with
          | true =>
            obtain ⟨c, e1, mc, oc⟩ := q.owned ho2
            have hca : c ≠ a := fun z => by
              subst z
              exact r.inj i j s t c (Ne.symm hj) hi e' ho ho2 ha e1
            exact SlotOk.of_owned e1 ⟨List.mem_filter.mpr ⟨mc.1, by simpa using hca⟩, mc.2⟩ (oc.mono (fun _ _ z => z) sub)
          | false =>
            cases t with
            | no => trivial
            | sh d => obtain ⟨x, e1, rr⟩ := q; exact ⟨x, e1, rr.mono sub⟩
            | ol l => cases ho2
            | oi x0 c l => cases ho2
            | ok l => cases ho2
            | ot l => cases ho2
            | xc c l => exact XcAt.mono sub q
            | br l => obtain ⟨c, xs, e1, mc, h0, rr⟩ := q; exact ⟨c, xs, e1, List.mem_filter.mpr ⟨mc, by simp; rintro rfl; rw [m.2] at h0; cases h0⟩, h0, rr.mono sub⟩
            | ow t => trivial
      · rcases set_get e1 with ⟨rfl, rfl, hl⟩ | ⟨hj, e1'⟩
        · have : s.frz.own = false := by cases s <;> first | rfl | cases ho
          rw [this] at o1; cases o1
        · rcases set_get e2 with ⟨rfl, rfl, hl⟩ | ⟨hk, e2'⟩
          · have : s.frz.own = false := by cases s <;> first | rfl | cases ho
            rw [this] at o2; cases o2
          · exact r.inj j k s1 t b hjk e1' e2' o1 o2 h1
      · obtain ⟨Fs, q⟩ := r.inn
        have sub : Same (hid O H) (hid (O.filter (· ≠ a)) H) := hid_sub fun b mb => (List.mem_filter.mp mb).1
        have old : ∀ {j : Nat} {t : Ow}, (D.set i s.frz)[j]? = some (.ow t) → D[j]? = some (.ow t) := fun {j t} e => by
          rcases set_get e with ⟨rfl, e2, hl⟩ | ⟨hj, e'⟩
          · cases s <;> simp [Sl.frz, Sl.own] at e2 ho
          · exact e'
        refine ⟨Fs, fun j t ej => ?_⟩
        obtain ⟨⟨w, hv, tr⟩, nd, fo, own, dj⟩ := q j t (old ej)
        have na : a ∉ Fs j := own i s a hi ho ha
        refine ⟨⟨w, hv, tr.mono (Same.refl _) sub⟩, nd, fun b m => ⟨List.mem_filter.mpr ⟨(fo b m).1, by simpa using fun e : b = a => na (e ▸ m)⟩, (fo b m).2⟩, fun k s1 b ek os hb => ?_, fun k t' hk ek => dj k t' hk (old ek)⟩
        rcases set_get ek with ⟨rfl, rfl, hl⟩ | ⟨hk, e'⟩
        · have : s.frz.own = false := by cases s <;> first | rfl | cases ho
          rw [this] at os; cases os
        · exact own k s1 b e' os hb
theorem RS.frz (r : RS K cl B H0 O σ D H) (i : Nat) : ∃ O', RS K cl B H0 O' σ (Frz i D) H ∧ ∀ a, a ∈ O' → a ∈ O := by
  obtain ⟨O', h, s, _⟩ := r.frz' i
  exact ⟨O', h, s⟩
end
end Mx
namespace Mx
open PySem PySem.Spec PyProof.Rows L2

section
variable (K : Fr) (cl : Cl)
/-- a value whose outermost object may be owned -/
def RepB (O : List Addr) (H : Hp) (v : V) : Dt → Prop
  | .lst ds => ∃ a vs, v = .ref a ∧ H a = some (.lst vs) ∧ RepL K cl (hid O H) vs ds
  | .tup ds => ∃ a vs, v = .ref a ∧ H a = some (.tup vs) ∧ RepL K cl (hid O H) vs ds
  | .frl ds => ∃ a vs, v = .ref a ∧ SqL K H a vs ∧ RepL K cl (hid O H) vs ds
  | .ins c fs => ∃ a C dx fv, v = .ref a ∧ cl c = some C ∧ H a = some (.ins C dx fv) ∧ fv.map (·.1) = fs.map (·.1) ∧ RepL K cl (hid O H) (fv.map (·.2)) (fs.map (·.2))
  | .dk kvs => ∃ a kv, v = .ref a ∧ H a = some (.dK kv) ∧ kv.map (·.1) = kvs.map (·.1) ∧ RepL K cl (hid O H) (kv.map (·.2)) (kvs.map (·.2))
  | .dt kvs => ∃ a kv, v = .ref a ∧ H a = some (.dT kv) ∧ kv.map (·.1) = kvs.map (·.1) ∧ RepL K cl (hid O H) (kv.map (·.2)) (kvs.map (·.2))
  | d => Rep K cl (hid O H) v d
inductive RepBL (O : List Addr) (H : Hp) : List V → List Dt → Prop
  | nil : RepBL O H [] []
  | cons {v : V} {d : Dt} {vs : List V} {ds : List Dt} : RepB K cl O H v d → RepBL O H vs ds → RepBL O H (v :: vs) (d :: ds)
def PostB (E : XK) (O : List Addr) (H : Hp) (Q : VK) : R Dt → Prop
  | .bad => False
  | .ex c fs => ExOk K cl E O c fs H
  | .ok d => ∀ v H', Same H H' → RepB K cl O H' v d → Q v H'
def PostBA (E : XK) (O : List Addr) (H : Hp) (Q : List V → Hp → Prop) : R (List Dt) → Prop
  | .bad => False
  | .ex c fs => ExOk K cl E O c fs H
  | .ok ds => ∀ vs H', Same H H' → RepBL K cl O H' vs ds → Q vs H'
variable (E : L2.St → XK)
def SimB (te : TE) (xe : XE) : Prop := ∀ B H0 O σ D H, RS K cl B H0 O σ D H → ∀ Q : VK, PostB K cl (E σ) O H Q (xe D) → te σ H Q
def SimBA (ta : TA) (xa : XA) : Prop := ∀ B H0 O σ D H, RS K cl B H0 O σ D H → ∀ Q : List V → Hp → Prop, PostBA K cl (E σ) O H Q (xa D) → ta σ H Q
/-- an operation on values; what is raised is not its own -/
def Trk (O : List Addr) (H : Hp) : Prop := ∀ a, a ∈ O → MutO (H a) = true
def OpS (r : R2) (f : Dt → Dt → R Dt) : Prop := ∀ O H x y a b E, Trk O H → RepB K cl O H x a → RepB K cl O H y b → ∀ Q : VK, PostE K cl E O H Q (f a b) → r x y H Q
def UnS (r : V → Hp → VK → Prop) (f : Dt → R Dt) : Prop := ∀ O H x a E, Trk O H → RepB K cl O H x a → ∀ Q : VK, PostE K cl E O H Q (f a) → r x H Q
def CaS (r : List V → Hp → VK → Prop) (f : List Dt → R Dt) : Prop := ∀ O H xs ds E, Trk O H → RepBL K cl O H xs ds → ∀ Q : VK, PostE K cl E O H Q (f ds) → r xs H Q
def CaL (r : List V → Hp → VK → Prop) (f : List Dt → R (List Dt)) : Prop := ∀ O H xs ds E, Trk O H → RepBL K cl O H xs ds → ∀ Q : VK, PostL K cl E O H Q (f ds) → r xs H Q
end

section
variable {K : Fr} {cl : Cl} {E : L2.St → XK} {H H' H1 : Hp} {O : List Addr}
theorem RepB.of {v : V} {d : Dt} (h : Rep K cl (hid O H) v d) : RepB K cl O H v d := by
  cases h with
  | non => exact .non
  | bl b => exact .bl b
  | int i => exact .int i
  | str x => exact .str x
  | ty n => exact .ty n
  | tup h r => exact ⟨_, _, rfl, hid_same O H _ _ h, r⟩
  | lst h r => exact ⟨_, _, rfl, hid_same O H _ _ h, r⟩
  | frl h r => exact ⟨_, _, rfl, (hid_same O H).seq h, r⟩
  | ins c h k r => exact ⟨_, _, _, _, rfl, c, hid_same O H _ _ h, k, r⟩
  | dk h k r => exact ⟨_, _, rfl, hid_same O H _ _ h, k, r⟩
  | dt h k r => exact ⟨_, _, rfl, hid_same O H _ _ h, k, r⟩
  | ftp h c d => exact .ftp h c d
theorem RepB.mono (e : Same H H') {v : V} {d : Dt} (h : RepB K cl O H v d) : RepB K cl O H' v d := by
  cases d with
  | lst ds => obtain ⟨a, vs, rfl, h1, r⟩ := h; exact ⟨a, vs, rfl, e _ _ h1, r.mono (hid_mono e)⟩
  | tup ds => obtain ⟨a, vs, rfl, h1, r⟩ := h; exact ⟨a, vs, rfl, e _ _ h1, r.mono (hid_mono e)⟩
  | frl ds => obtain ⟨a, vs, rfl, h1, r⟩ := h; exact ⟨a, vs, rfl, e.seq h1, r.mono (hid_mono e)⟩
  | ins c fs => obtain ⟨a, C, dx, fv, rfl, c1, h1, k, r⟩ := h; exact ⟨a, C, dx, fv, rfl, c1, e _ _ h1, k, r.mono (hid_mono e)⟩
  | dk ds => obtain ⟨a, vs, rfl, h1, k, r⟩ := h; exact ⟨a, vs, rfl, e _ _ h1, k, r.mono (hid_mono e)⟩
  | dt ds => obtain ⟨a, vs, rfl, h1, k, r⟩ := h; exact ⟨a, vs, rfl, e _ _ h1, k, r.mono (hid_mono e)⟩
  | non => exact Rep.mono (hid_mono e) h
  | bl b => exact Rep.mono (hid_mono e) h
  | int i => exact Rep.mono (hid_mono e) h
  | str s => exact Rep.mono (hid_mono e) h
  | ty n => exact Rep.mono (hid_mono e) h
  | ftp l => exact Rep.mono (hid_mono e) h
theorem RepBL.mono (e : Same H H') : ∀ {vs : List V} {ds : List Dt}, RepBL K cl O H vs ds → RepBL K cl O H' vs ds
  | _, _, .nil => .nil
  | _, _, .cons h r => .cons (h.mono e) (r.mono e)
theorem RepB.full {v : V} {d : Dt} (h : RepB K cl O H v d) : Rep K cl H v d := by
  cases d with
  | lst ds => obtain ⟨a, vs, rfl, h1, r⟩ := h; exact .lst h1 (r.mono (hid_same O H))
  | tup ds => obtain ⟨a, vs, rfl, h1, r⟩ := h; exact .tup h1 (r.mono (hid_same O H))
  | frl ds => obtain ⟨a, vs, rfl, h1, r⟩ := h; exact .frl h1 (r.mono (hid_same O H))
  | ins c fs => obtain ⟨a, C, dx, fv, rfl, c1, h1, k, r⟩ := h; exact .ins c1 h1 k (r.mono (hid_same O H))
  | dk ds => obtain ⟨a, vs, rfl, h1, k, r⟩ := h; exact .dk h1 k (r.mono (hid_same O H))
  | dt ds => obtain ⟨a, vs, rfl, h1, k, r⟩ := h; exact .dt h1 k (r.mono (hid_same O H))
  | non => exact Rep.mono (hid_same O H) h
  | bl b => exact Rep.mono (hid_same O H) h
  | int i => exact Rep.mono (hid_same O H) h
  | str s => exact Rep.mono (hid_same O H) h
  | ty n => exact Rep.mono (hid_same O H) h
  | ftp l => exact Rep.mono (hid_same O H) h
theorem RepB.int_ {v : V} {i : Int} (h : RepB K cl O H v (.int i)) : v = .int i := by cases h; rfl
theorem RepB.str_ {v : V} {i : Str} (h : RepB K cl O H v (.str i)) : v = .str i := by cases h; rfl
theorem RepB.bl_ {v : V} {i : Bool} (h : RepB K cl O H v (.bl i)) : v = .bl i := by cases h; rfl
theorem RepB.non_ {v : V} (h : RepB K cl O H v .non) : v = .non := by cases h; rfl
theorem RepB.ty_ {v : V} {n : String} (h : RepB K cl O H v (.ty n)) : v = .ty n := by cases h; rfl
theorem ExOk.mono {E : XK} {c : Str} {fs : List (Str × Dt)} (e : Same H H') (h : ExOk K cl E O c fs H) : ExOk K cl E O c fs H' := fun C hc =>
  ⟨fun z H2 e2 => (h C hc).1 z H2 (e.trans e2), fun H2 d fv e2 => (h C hc).2 H2 d fv (e.trans e2)⟩
theorem ExOk.sub {E : XK} {O' : List Addr} {c : Str} {fs : List (Str × Dt)} (i : ∀ a, a ∈ O → a ∈ O') (h : ExOk K cl E O c fs H) : ExOk K cl E O' c fs H := fun C hc =>
  ⟨(h C hc).1, fun H2 d fv e2 hd hk r => (h C hc).2 H2 d fv e2 hd hk (r.mono (hid_sub i))⟩

/-! the ways of two steps -/
theorem simB_of {te : TE} {xe : XE} (h : Sim K cl E te xe) : SimB K cl E te xe := fun B H0 O σ D H r Q q => h B H0 O σ D H r Q (by
  revert q
  cases xe D with
  | bad => exact id
  | ex c fs => exact id
  | ok d => exact fun q v H' e h => q v H' e (.of h))
def xVar (i : Nat) : XE := fun D => match D[i]? with
  | some (.sh d) => .ok d
  | _ => .bad
def Sl.dat : Sl → R Dt
  | .no => .bad | .sh d => .ok d | .ol l => .ok (.lst l) | .oi _ c fs => .ok (.ins c fs) | .ok kvs => .ok (.dk kvs) | .ot kvs => .ok (.dt kvs) | .xc _ _ => .bad | .br l => .ok (.lst l) | .ow _ => .bad
def xVarB (i : Nat) : XE := fun D => match D[i]? with
  | some s => s.dat
  | none => .bad
def shO : Option Sl → R Dt
  | some (.sh d) => .ok d
  | _ => .bad
@[simp] theorem shO_sh (d : Dt) : shO (some (.sh d)) = .ok d := rfl
@[simp] theorem xVar_ap (i : Nat) (D : Ds) : xVar i D = shO D[i]? := rfl
def datO : Option Sl → R Dt
  | some s => s.dat
  | none => .bad
@[simp] theorem datO_some (s : Sl) : datO (some s) = s.dat := rfl
@[simp] theorem xVarB_ap (i : Nat) (D : Ds) : xVarB i D = datO D[i]? := rfl
@[simp] theorem dat_sh (d : Dt) : (Sl.sh d).dat = .ok d := rfl
@[simp] theorem dat_ol (l : List Dt) : (Sl.ol l).dat = .ok (.lst l) := rfl
@[simp] theorem dat_oi (x : Addr) (c : Str) (fs : List (Str × Dt)) : (Sl.oi x c fs).dat = .ok (.ins c fs) := rfl
@[simp] theorem dat_ok (l : List (Key × Dt)) : (Sl.ok l).dat = .ok (.dk l) := rfl
@[simp] theorem dat_br (l : List Dt) : (Sl.br l).dat = .ok (.lst l) := rfl
@[simp] theorem dat_ot (l : List (List Key × Dt)) : (Sl.ot l).dat = .ok (.dt l) := rfl
theorem sim_var {i : Nat} : Sim K cl E (tVar i) (xVar i) := fun B H0 O σ D H r Q q => by
  unfold xVar at q
  split at q
  · rename_i d h
    obtain ⟨x, e, rr⟩ := r.slot i _ h
    exact ⟨x, e, q x H (Same.refl H) rr⟩
  · exact q.elim
theorem simB_var {i : Nat} : SimB K cl E (tVar i) (xVarB i) := fun B H0 O σ D H r Q q => by
  unfold xVarB at q
  split at q
  · rename_i s h
    have z := r.slot i _ h
    cases s with
    | no => exact q.elim
    | sh d => obtain ⟨x, e, rr⟩ := z; exact ⟨x, e, q x H (Same.refl H) (.of rr)⟩
    | ol l => obtain ⟨a, e, m, vs, h1, rr⟩ := z; exact ⟨_, e, q _ H (Same.refl H) ⟨a, vs, rfl, h1, rr⟩⟩
    | oi x0 c fs => obtain ⟨a, e, m, C, dx, fv, c1, h1, k, rr⟩ := z; exact ⟨_, e, q _ H (Same.refl H) ⟨a, C, dx, fv, rfl, c1.1, h1, k, rr⟩⟩
    | ok l => obtain ⟨a, e, m, vs, h1, k, rr⟩ := z; exact ⟨_, e, q _ H (Same.refl H) ⟨a, vs, rfl, h1, k, rr⟩⟩
    | ot l => obtain ⟨a, e, m, vs, h1, k, rr⟩ := z; exact ⟨_, e, q _ H (Same.refl H) ⟨a, vs, rfl, h1, k, rr⟩⟩
    | xc c l => exact q.elim
    | br l => obtain ⟨a, xs, e, m, h0, rr⟩ := z; exact ⟨_, e, q _ H (Same.refl H) ⟨a, xs, rfl, r.same _ _ h0, rr⟩⟩
    | ow t => exact q.elim
  · exact q.elim
@[simp] def xC (d : Dt) : XE := fun _ => .ok d
theorem sim_int {i : Int} : Sim K cl E (tC (.int i)) (xC (.int i)) := fun B H0 O σ D H r Q q => q _ H (Same.refl H) (.int i)
theorem sim_str {i : Str} : Sim K cl E (tC (.str i)) (xC (.str i)) := fun B H0 O σ D H r Q q => q _ H (Same.refl H) (.str i)
theorem sim_bl {i : Bool} : Sim K cl E (tC (.bl i)) (xC (.bl i)) := fun B H0 O σ D H r Q q => q _ H (Same.refl H) (.bl i)
theorem sim_ty {i : String} : Sim K cl E (tC (.ty i)) (xC (.ty i)) := fun B H0 O σ D H r Q q => q _ H (Same.refl H) (.ty i)
theorem sim_non : Sim K cl E (tC .non) (xC .non) := fun B H0 O σ D H r Q q => q _ H (Same.refl H) .non

@[simp] def x2 (f : Dt → Dt → R Dt) (xa xb : XE) : XE := fun D => (xa D).bind fun a => (xb D).bind fun b => f a b
theorem sim_op {r : R2} {f : Dt → Dt → R Dt} {ta tb : TE} {xa xb : XE} (ho : OpS K cl r f) (ha : SimB K cl E ta xa) (hb : SimB K cl E tb xb) : Sim K cl E (tOp r ta tb) (x2 f xa xb) := fun B H0 O σ D H s Q q => by
  unfold x2 at q
  refine ha B H0 O σ D H s _ ?_
  cases ea : xa D with
  | bad => rw [ea] at q; exact q.elim
  | ex c fs => rw [ea] at q; exact q
  | ok a =>
    rw [ea] at q
    intro x H1 e1 rx
    refine hb B H0 O σ D H1 (s.mono e1) _ ?_
    simp only [R.bind] at q
    cases eb : xb D with
    | bad => rw [eb] at q; exact q.elim
    | ex c fs => rw [eb] at q; exact ExOk.mono e1 q
    | ok b =>
      rw [eb] at q
      intro y H2 e2 ry
      refine ho O H2 x y a b (E σ) (fun a m => (((s.mono e1).mono e2).own a m).2) (rx.mono e2) ry Q ?_
      simp only [R.bind] at q
      revert q
      cases f a b with
      | bad => exact id
      | ex c fs => exact fun q => ExOk.mono (e1.trans e2) q
      | ok d => exact fun q v H' e h => q v H' ((e1.trans e2).trans e) h
@[simp] def x1 (f : Dt → R Dt) (xa : XE) : XE := fun D => (xa D).bind f
theorem sim_un {r : V → Hp → VK → Prop} {f : Dt → R Dt} {ta : TE} {xa : XE} (ho : UnS K cl r f) (ha : SimB K cl E ta xa) : Sim K cl E (tUn r ta) (x1 f xa) := fun B H0 O σ D H s Q q => by
  unfold x1 at q
  refine ha B H0 O σ D H s _ ?_
  cases ea : xa D with
  | bad => rw [ea] at q; exact q.elim
  | ex c fs => rw [ea] at q; exact q
  | ok a =>
    rw [ea] at q
    intro x H1 e1 rx
    refine ho O H1 x a (E σ) (fun a m => ((s.mono e1).own a m).2) rx Q ?_
    simp only [R.bind] at q
    revert q
    cases f a with
    | bad => exact id
    | ex c fs => exact fun q => ExOk.mono e1 q
    | ok d => exact fun q v H' e h => q v H' (e1.trans e) h

/-! arguments -/
@[simp] def xNil : XA := fun _ => .ok []
@[simp] def xCons (xa : XE) (xr : XA) : XA := fun D => (xa D).bind fun a => (xr D).bind fun r => .ok (a :: r)
theorem sa_nil : SimA K cl E tNil xNil := fun B H0 O σ D H r Q q => q _ H (Same.refl H) .nil
theorem sa_cons {ta : TE} {tr : TA} {xa : XE} {xr : XA} (ha : Sim K cl E ta xa) (hr : SimA K cl E tr xr) : SimA K cl E (tCons ta tr) (xCons xa xr) := fun B H0 O σ D H s Q q => by
  unfold xCons at q
  refine ha B H0 O σ D H s _ ?_
  cases ea : xa D with
  | bad => rw [ea] at q; exact q.elim
  | ex c fs => rw [ea] at q; exact q
  | ok a =>
    rw [ea] at q
    intro x H1 e1 rx
    refine hr B H0 O σ D H1 (s.mono e1) _ ?_
    simp only [R.bind] at q
    cases eb : xr D with
    | bad => rw [eb] at q; exact q.elim
    | ex c fs => rw [eb] at q; exact ExOk.mono e1 q
    | ok b =>
      rw [eb] at q
      intro y H2 e2 ry
      exact q _ H2 (e1.trans e2) (.cons (rx.mono (hid_mono e2)) ry)
theorem sba_nil : SimBA K cl E tNil xNil := fun B H0 O σ D H r Q q => q _ H (Same.refl H) .nil
theorem sba_cons {ta : TE} {tr : TA} {xa : XE} {xr : XA} (ha : SimB K cl E ta xa) (hr : SimBA K cl E tr xr) : SimBA K cl E (tCons ta tr) (xCons xa xr) := fun B H0 O σ D H s Q q => by
  unfold xCons at q
  refine ha B H0 O σ D H s _ ?_
  cases ea : xa D with
  | bad => rw [ea] at q; exact q.elim
  | ex c fs => rw [ea] at q; exact q
  | ok a =>
    rw [ea] at q
    intro x H1 e1 rx
    refine hr B H0 O σ D H1 (s.mono e1) _ ?_
    simp only [R.bind] at q
    cases eb : xr D with
    | bad => rw [eb] at q; exact q.elim
    | ex c fs => rw [eb] at q; exact ExOk.mono e1 q
    | ok b =>
      rw [eb] at q
      intro y H2 e2 ry
      exact q _ H2 (e1.trans e2) (.cons (rx.mono e2) ry)
@[simp] def xCB (f : List Dt → R Dt) (xa : XA) : XE := fun D => (xa D).bind f
@[simp] def xCBL (f : List Dt → R (List Dt)) (xa : XA) : XA := fun D => (xa D).bind f
theorem sim_cb {r : List V → Hp → VK → Prop} {f : List Dt → R Dt} {ta : TA} {xa : XA} (hr : CaS K cl r f) (ha : SimBA K cl E ta xa) : Sim K cl E (tCB r ta) (xCB f xa) := fun B H0 O σ D H s Q q => by
  refine ha B H0 O σ D H s _ ?_
  cases ea : xa D with
  | bad => simp only [xCB, xCBL, ea] at q; exact q.elim
  | ex c fs => simp only [xCB, xCBL, ea] at q; exact q
  | ok a =>
    simp only [xCB, xCBL, ea] at q
    intro x H1 e1 rx
    refine hr O H1 x a (E σ) (fun a m => ((s.mono e1).own a m).2) rx Q ?_
    simp only [R.bind] at q
    revert q
    cases f a with
    | bad => exact id
    | ex c fs => exact fun q => ExOk.mono e1 q
    | ok d => exact fun q v H' e h => q v H' (e1.trans e) h
theorem simL_cb {r : List V → Hp → VK → Prop} {f : List Dt → R (List Dt)} {ta : TA} {xa : XA} (hr : CaL K cl r f) (ha : SimBA K cl E ta xa) : SimL K cl E (tCB r ta) (xCBL f xa) := fun B H0 O σ D H s Q q => by
  refine ha B H0 O σ D H s _ ?_
  cases ea : xa D with
  | bad => simp only [xCB, xCBL, ea] at q; exact q.elim
  | ex c fs => simp only [xCB, xCBL, ea] at q; exact q
  | ok a =>
    simp only [xCB, xCBL, ea] at q
    intro x H1 e1 rx
    refine hr O H1 x a (E σ) (fun a m => ((s.mono e1).own a m).2) rx Q ?_
    simp only [R.bind] at q
    revert q
    cases f a with
    | bad => exact id
    | ex c fs => exact fun q => ExOk.mono e1 q
    | ok d => exact fun q p vs H' e n h1 h => q p vs H' (e1.trans e) (e1.free n) h1 h
/-- a new list as a shared value -/
@[simp] def xL (xl : XA) : XE := fun D => (xl D).bind fun l => .ok (.lst l)
theorem sim_L {te : TE} {xl : XA} (h : SimL K cl E te xl) : Sim K cl E te (xL xl) := fun B H0 O σ D H s Q q => by
  unfold xL at q
  refine h B H0 O σ D H s _ ?_
  cases ea : xl D with
  | bad => rw [ea] at q; exact q.elim
  | ex c fs => rw [ea] at q; exact q
  | ok a =>
    rw [ea] at q
    intro p vs H' e n h1 r
    have hp : p ∉ O := fun m => by
      have := (s.own p m).2
      rw [n] at this; exact mutO_none this
    exact q _ H' e (.lst ((hid_nin hp).trans h1) (r.mono (hid_sub fun a m => List.mem_cons_of_mem _ m)))

/-! displays -/
def capL {α : Type} (l : List α) (r : R β) : R β := if l.length ≤ 1000000 then r else .bad
theorem sz_of {n : Nat} (h : n ≤ 1000000) : n ≤ sizeLine := by rw [sizeLine_eq]; omega
theorem sz_lt {n : Nat} (h : n < 1000000) : n < sizeLine := by rw [sizeLine_eq]; omega
@[simp] def xTup (xa : XA) : XE := fun D => (xa D).bind fun l => if l.length ≤ 1000000 then .ok (.tup l) else .bad
@[simp] def xLst (xa : XA) : XA := fun D => (xa D).bind fun l => if l.length ≤ 1000000 then .ok l else .bad
theorem new_hid {H H1 : Hp} {p : Addr} {o : HO} (n : H1 p = none) {B : List Addr} {H0 : Hp} {σ : L2.St} {D : Ds} (s : RS K cl B H0 O σ D H) (e : Same H H1) : hid O (upd H1 p o) p = some o := by
  have hp : p ∉ O := fun m => by
    have := (s.own p m).2
    rw [e.free n] at this; exact mutO_none this
  rw [hid_nin hp, upd_same]
theorem same_upd {H : Hp} {p : Addr} {o : HO} (h : H p = none) : Same H (upd H p o) := fun b x e => by
  rw [upd_ne (ne_of_none e h)]
  exact e
theorem sim_tup {ta : TA} {xa : XA} (ha : SimA K cl E ta xa) : Sim K cl E (tTup ta) (xTup xa) := fun B H0 O σ D H s Q q => by
  unfold xTup at q
  refine ha B H0 O σ D H s _ ?_
  cases ea : xa D with
  | bad => rw [ea] at q; exact q.elim
  | ex c fs => rw [ea] at q; exact q
  | ok a =>
    rw [ea] at q
    intro vs H1 e1 r
    simp only [R.bind] at q
    split at q
    · rename_i hl
      refine ⟨by rw [r.len]; exact sz_of hl, fun p n => q _ _ (e1.trans (same_upd n)) (.tup (new_hid n s e1) (r.mono (hid_mono (same_upd n))))⟩
    · exact q.elim
theorem simL_lst {ta : TA} {xa : XA} (ha : SimA K cl E ta xa) : SimL K cl E (tLst ta) (xLst xa) := fun B H0 O σ D H s Q q => by
  unfold xLst at q
  refine ha B H0 O σ D H s _ ?_
  cases ea : xa D with
  | bad => rw [ea] at q; exact q.elim
  | ex c fs => rw [ea] at q; exact q
  | ok a =>
    rw [ea] at q
    intro vs H1 e1 r
    simp only [R.bind] at q
    split at q
    · rename_i hl
      refine ⟨by rw [r.len]; exact sz_of hl, fun p n => q p vs _ (e1.trans (same_upd n)) (e1.free n) upd_same (r.mono (hid_new (same_upd n) n))⟩
    · exact q.elim

/-! tests and truth of bools -/
def dTest : Dt → R Bool
  | .bl b => .ok b
  | _ => .bad
@[simp] theorem dTest_bl (b : Bool) : dTest (.bl b) = .ok b := rfl
@[simp] def xTest (xe : XE) : XT := fun D => (xe D).bind dTest
theorem st_test {te : TE} {xe : XE} (h : Sim K cl E te xe) : SimT K cl E (tTest te) (xTest xe) := fun B H0 O σ D H s Q q => by
  unfold xTest at q
  refine h B H0 O σ D H s _ ?_
  cases ea : xe D with
  | bad => rw [ea] at q; exact q.elim
  | ex c fs => rw [ea] at q; exact q
  | ok d =>
    rw [ea] at q
    cases d with
    | bl b =>
      intro v H' e r
      cases r
      exact ⟨b, rfl, q H' e⟩
    | _ => exact q.elim
theorem st_B {te : TE} {xe : XE} (h : Sim K cl E te xe) : SimT K cl E (tB te) (xTest xe) := st_test h
@[simp] def xAnd (xa xb : XT) : XT := fun D => (xa D).bind fun a => if a = true then xb D else .ok false
@[simp] def xOr (xa xb : XT) : XT := fun D => (xa D).bind fun a => if a = true then .ok true else xb D
@[simp] def xNot (xa : XT) : XT := fun D => (xa D).bind fun a => .ok (!a)
theorem post_T {E : XK} {Q : Bool → Hp → Prop} (e : Same H H') {x : R Bool} (q : PostT K cl E O H Q x) : PostT K cl E O H' Q x := by
  cases x with
  | bad => exact q
  | ex c fs => exact ExOk.mono e q
  | ok b => exact fun H2 e2 => q H2 (e.trans e2)
theorem post_E {E : XK} {Q : VK} (e : Same H H') {x : R Dt} (q : PostE K cl E O H Q x) : PostE K cl E O H' Q x := by
  cases x with
  | bad => exact q
  | ex c fs => exact ExOk.mono e q
  | ok b => exact fun v H2 e2 => q v H2 (e.trans e2)
theorem post_L {E : XK} {Q : VK} (e : Same H H') {x : R (List Dt)} (q : PostL K cl E O H Q x) : PostL K cl E O H' Q x := by
  cases x with
  | bad => exact q
  | ex c fs => exact ExOk.mono e q
  | ok b => exact fun p vs H2 e2 n => q p vs H2 (e.trans e2) (e.free n)
theorem st_and {ta tb : TT} {xa xb : XT} (ha : SimT K cl E ta xa) (hb : SimT K cl E tb xb) : SimT K cl E (tAnd ta tb) (xAnd xa xb) := fun B H0 O σ D H s Q q => by
  unfold xAnd at q
  refine ha B H0 O σ D H s _ ?_
  cases ea : xa D with
  | bad => rw [ea] at q; exact q.elim
  | ex c fs => rw [ea] at q; exact q
  | ok a =>
    rw [ea] at q
    intro H1 e1
    cases a with
    | true => exact hb B H0 O σ D H1 (s.mono e1) Q (post_T e1 q)
    | false => exact q H1 e1
theorem st_or {ta tb : TT} {xa xb : XT} (ha : SimT K cl E ta xa) (hb : SimT K cl E tb xb) : SimT K cl E (tOr ta tb) (xOr xa xb) := fun B H0 O σ D H s Q q => by
  unfold xOr at q
  refine ha B H0 O σ D H s _ ?_
  cases ea : xa D with
  | bad => rw [ea] at q; exact q.elim
  | ex c fs => rw [ea] at q; exact q
  | ok a =>
    rw [ea] at q
    intro H1 e1
    cases a with
    | false => exact hb B H0 O σ D H1 (s.mono e1) Q (post_T e1 q)
    | true => exact q H1 e1
theorem st_not {ta : TT} {xa : XT} (ha : SimT K cl E ta xa) : SimT K cl E (tNot ta) (xNot xa) := fun B H0 O σ D H s Q q => by
  unfold xNot at q
  refine ha B H0 O σ D H s _ ?_
  cases ea : xa D with
  | bad => rw [ea] at q; exact q.elim
  | ex c fs => rw [ea] at q; exact q
  | ok a => rw [ea] at q; exact fun H1 e1 => q H1 e1
def dAndV (r : R Dt) : Dt → R Dt
  | .bl true => r
  | .bl false => .ok (.bl false)
  | _ => .bad
@[simp] theorem dAndV_bl (r : R Dt) (b : Bool) : dAndV r (.bl b) = if b = true then r else .ok (.bl false) := by cases b <;> rfl
@[simp] def xAndV (xa xb : XE) : XE := fun D => (xa D).bind (dAndV (xb D))
def dOrV (r : R Dt) : Dt → R Dt
  | .bl false => r
  | .bl true => .ok (.bl true)
  | _ => .bad
@[simp] theorem dOrV_bl (r : R Dt) (b : Bool) : dOrV r (.bl b) = if b = true then .ok (.bl true) else r := by cases b <;> rfl
@[simp] def xOrV (xa xb : XE) : XE := fun D => (xa D).bind (dOrV (xb D))
def dNotV : Dt → R Dt
  | .bl b => .ok (.bl (!b))
  | _ => .bad
@[simp] theorem dNotV_bl (b : Bool) : dNotV (.bl b) = .ok (.bl (!b)) := rfl
@[simp] def xNotV (xa : XE) : XE := fun D => (xa D).bind dNotV
theorem sim_and {ta tb : TE} {xa xb : XE} (ha : Sim K cl E ta xa) (hb : Sim K cl E tb xb) : Sim K cl E (tAndV ta tb) (xAndV xa xb) := fun B H0 O σ D H s Q q => by
  unfold xAndV at q
  refine ha B H0 O σ D H s _ ?_
  cases ea : xa D with
  | bad => rw [ea] at q; exact q.elim
  | ex c fs => rw [ea] at q; exact q
  | ok a =>
    rw [ea] at q
    intro v H1 e1 r
    cases a with
    | bl b =>
      cases r
      refine ⟨b, rfl, ?_⟩
      cases b with
      | true => exact hb B H0 O σ D H1 (s.mono e1) Q (post_E e1 q)
      | false => exact q _ H1 e1 (.bl _)
    | _ => exact q.elim
theorem sim_or {ta tb : TE} {xa xb : XE} (ha : Sim K cl E ta xa) (hb : Sim K cl E tb xb) : Sim K cl E (tOrV ta tb) (xOrV xa xb) := fun B H0 O σ D H s Q q => by
  unfold xOrV at q
  refine ha B H0 O σ D H s _ ?_
  cases ea : xa D with
  | bad => rw [ea] at q; exact q.elim
  | ex c fs => rw [ea] at q; exact q
  | ok a =>
    rw [ea] at q
    intro v H1 e1 r
    cases a with
    | bl b =>
      cases r
      refine ⟨b, rfl, ?_⟩
      cases b with
      | false => exact hb B H0 O σ D H1 (s.mono e1) Q (post_E e1 q)
      | true => exact q _ H1 e1 (.bl _)
    | _ => exact q.elim
theorem sim_not {ta : TE} {xa : XE} (ha : Sim K cl E ta xa) : Sim K cl E (tNotV ta) (xNotV xa) := fun B H0 O σ D H s Q q => by
  unfold xNotV at q
  refine ha B H0 O σ D H s _ ?_
  cases ea : xa D with
  | bad => rw [ea] at q; exact q.elim
  | ex c fs => rw [ea] at q; exact q
  | ok a =>
    rw [ea] at q
    intro v H1 e1 r
    cases a with
    | bl b => cases r; exact ⟨b, rfl, q _ H1 e1 (.bl _)⟩
    | _ => exact q.elim
@[simp] def xIf (xt : XT) (xa xb : XE) : XE := fun D => (xt D).bind fun b => if b = true then xa D else xb D
theorem sim_if {tt : TT} {ta tb : TE} {xt : XT} {xa xb : XE} (ht : SimT K cl E tt xt) (ha : Sim K cl E ta xa) (hb : Sim K cl E tb xb) : Sim K cl E (tIf tt ta tb) (xIf xt xa xb) := fun B H0 O σ D H s Q q => by
  unfold xIf at q
  refine ht B H0 O σ D H s _ ?_
  cases ea : xt D with
  | bad => rw [ea] at q; exact q.elim
  | ex c fs => rw [ea] at q; exact q
  | ok b =>
    rw [ea] at q
    intro H1 e1
    cases b with
    | true => exact ha B H0 O σ D H1 (s.mono e1) Q (post_E e1 q)
    | false => exact hb B H0 O σ D H1 (s.mono e1) Q (post_E e1 q)

/-! calls of own defs -/
def PureSp (K : Fr) (cl : Cl) (f : List Dt → R Dt) : Sp := fun vs H Q E => ∃ B ds, (∀ a, a ∈ B → MutO (H a) = true) ∧ RepL K cl (hid B H) vs ds ∧ PostE K cl E B H Q (f ds)
theorem sim_call {f : List Dt → R Dt} {ta : TA} {xa : XA} {E0 : XK} (ha : SimA K cl (fun _ => E0) ta xa) : Sim K cl (fun _ => E0) (tCall (PureSp K cl f) [] E0 ta) (fun D => (xa D).bind f) := fun B H0 O σ D H s Q q => by
  refine ha B H0 O σ D H s _ ?_
  cases ea : xa D with
  | bad => simp only [ea] at q; exact q.elim
  | ex c fs => simp only [ea] at q; exact q
  | ok ds =>
    simp only [ea] at q
    intro vs H1 e1 r
    exact ⟨O, ds, fun a m => ((s.mono e1).own a m).2, by rw [List.append_nil]; exact r, post_E e1 q⟩
end
end Mx
namespace Mx
open PySem PySem.Spec PyProof.Rows L2

section
variable {K : Fr} {cl : Cl} {H H' H1 : Hp} {O : List Addr}
theorem ok_ret {E : XK} {Q : VK} {v : V} {d : Dt} (q : PostE K cl E O H Q (.ok d)) (h : Rep K cl (hid O H) v d) : Q v H := q v H (Same.refl H) h

/-! ### two ints -/
@[simp] def dI (f : Int → Int → R Dt) : Dt → Dt → R Dt
  | .int i, .int j => f i j
  | _, _ => .bad
theorem os_I0 {g : Int → Int → V} {f : Int → Int → Dt} (hg : ∀ i j (H : Hp), Rep K cl H (g i j) (f i j)) : OpS K cl (rI0 g) (dI fun i j => .ok (f i j)) := fun O H x y a b E ho rx ry Q q => by
  cases a with
  | int i =>
    cases b with
    | int j =>
      cases rx.int_; cases ry.int_
      exact ⟨i, j, rfl, rfl, ok_ret q (hg i j _)⟩
    | _ => exact q.elim
  | _ => exact q.elim
theorem os_I {C : Int → Int → Prop} [∀ i j, Decidable (C i j)] {g : Int → Int → V} {f : Int → Int → Dt} (hg : ∀ i j (H : Hp), Rep K cl H (g i j) (f i j)) : OpS K cl (rI C g) (dI fun i j => if C i j then .ok (f i j) else .bad) := fun O H x y a b E ho rx ry Q q => by
  cases a with
  | int i =>
    cases b with
    | int j =>
      cases rx.int_; cases ry.int_
      simp only [dI] at q
      split at q
      · rename_i h
        exact ⟨i, j, rfl, rfl, h, ok_ret q (hg i j _)⟩
      · exact q.elim
    | _ => exact q.elim
  | _ => exact q.elim
theorem OpS.alt {r r' : R2} {f g h : Dt → Dt → R Dt} (a : OpS K cl r f) (b : OpS K cl r' g) (e : ∀ x y, h x y = f x y ∨ h x y = g x y) : OpS K cl (fun x y H Q => r x y H Q ∨ r' x y H Q) h := fun O H x y u v E ho rx ry Q q => by
  rcases e u v with e | e
  · rw [e] at q; exact .inl (a O H x y u v E ho rx ry Q q)
  · rw [e] at q; exact .inr (b O H x y u v E ho rx ry Q q)

/-! ### + -/
def rAddS : R2 := fun x y H Q => ∃ i j, x = .str i ∧ y = .str j ∧ i.length + j.length ≤ sizeLine ∧ Q (.str (i ++ j)) H
@[simp] def dAddS : Dt → Dt → R Dt
  | .str i, .str j => if i.length + j.length ≤ 1000000 then .ok (.str (i ++ j)) else .bad
  | _, _ => .bad
theorem os_addS : OpS K cl rAddS dAddS := fun O H x y a b E ho rx ry Q q => by
  cases a with
  | str i =>
    cases b with
    | str j =>
      cases rx.str_; cases ry.str_
      simp only [dAddS] at q
      split at q
      · rename_i h
        exact ⟨i, j, rfl, rfl, sz_of h, ok_ret q (.str _)⟩
      · exact q.elim
    | _ => exact q.elim
  | _ => exact q.elim
theorem hid_upd_new {p : Addr} {o : HO} (n : H p = none) : Same (hid O H) (hid O (upd H p o)) := hid_mono (same_upd n)
theorem hid_at {p : Addr} {o : HO} (h : p ∉ O) : hid O (upd H p o) p = some o := by rw [hid_nin h, upd_same]
def dCat : Dt → Dt → R (List Dt)
  | .lst x, .lst y => if x.length + y.length ≤ 1000000 then .ok (x ++ y) else .bad
  | _, _ => .bad
def dAdd : Dt → Dt → R Dt
  | .int i, .int j => .ok (.int (i + j))
  | .str i, .str j => if i.length + j.length ≤ 1000000 then .ok (.str (i ++ j)) else .bad
  | _, _ => .bad
@[simp] theorem dAdd_int (i j : Int) : dAdd (.int i) (.int j) = .ok (.int (i + j)) := rfl
@[simp] theorem dAdd_str (i j : Str) : dAdd (.str i) (.str j) = if i.length + j.length ≤ 1000000 then .ok (.str (i ++ j)) else .bad := rfl
def rAdd : R2 := fun x y H Q => rI0 (fun i j => .int (i + j)) x y H Q ∨ rAddS x y H Q
theorem op_addA {X : Cx} : OpR X (binaryOp .Add) rAdd := OpR.or op_add op_add_str
theorem os_add : OpS K cl rAdd dAdd := OpS.alt (os_I0 (f := fun i j => .int (i + j)) fun i j H => .int _) os_addS fun x y => by
  cases x <;> cases y <;> first | exact .inl rfl | exact .inr rfl
abbrev rSub : R2 := rI0 fun i j => .int (i - j)
def dSub : Dt → Dt → R Dt := dI fun i j => .ok (.int (i - j))
@[simp] theorem dSub_int (i j : Int) : dSub (.int i) (.int j) = .ok (.int (i - j)) := rfl
theorem os_sub : OpS K cl rSub dSub := os_I0 fun i j H => .int _
/-! ### times -/
instance (i j : Int) : Decidable (CMul i j) := by unfold CMul; infer_instance
instance (i j : Int) : Decidable (CDiv i j) := by unfold CDiv; infer_instance
instance (i j : Int) : Decidable (CDivN i j) := by unfold CDivN; infer_instance
instance (i j : Int) : Decidable (CPow i j) := by unfold CPow; infer_instance
abbrev rMul : R2 := rI CMul fun i j => .int (i * j)
def dMul : Dt → Dt → R Dt := dI fun i j => if CMul i j then .ok (.int (i * j)) else .bad
@[simp] theorem dMul_int (i j : Int) : dMul (.int i) (.int j) = if CMul i j then .ok (.int (i * j)) else .bad := rfl
theorem os_mul : OpS K cl rMul dMul := os_I fun i j H => .int _
abbrev rFdiv : R2 := rI CDivN fun i j => .int (i.fdiv j)
def dFdiv : Dt → Dt → R Dt := dI fun i j => if CDivN i j then .ok (.int (i.fdiv j)) else .bad
@[simp] theorem dFdiv_int (i j : Int) : dFdiv (.int i) (.int j) = if CDivN i j then .ok (.int (i.fdiv j)) else .bad := rfl
theorem os_fdiv : OpS K cl rFdiv dFdiv := os_I fun i j H => .int _
abbrev rMod : R2 := rI (fun _ j => j ≠ 0) fun i j => .int (i.fmod j)
def dMod : Dt → Dt → R Dt := dI fun i j => if j ≠ 0 then .ok (.int (i.fmod j)) else .bad
@[simp] theorem dMod_int (i j : Int) : dMod (.int i) (.int j) = if j ≠ 0 then .ok (.int (i.fmod j)) else .bad := rfl
theorem os_mod : OpS K cl rMod dMod := os_I (C := fun _ j => j ≠ 0) fun i j H => .int _
abbrev rPow : R2 := rI CPow fun i j => .int (i ^ j.toNat)
def dPow : Dt → Dt → R Dt := dI fun i j => if CPow i j then .ok (.int (i ^ j.toNat)) else .bad
@[simp] theorem dPow_int (i j : Int) : dPow (.int i) (.int j) = if CPow i j then .ok (.int (i ^ j.toNat)) else .bad := rfl
theorem os_pow : OpS K cl rPow dPow := os_I fun i j H => .int _
abbrev rNeg : V → Hp → VK → Prop := rU fun i => .int (-i)
def dNeg : Dt → R Dt
  | .int i => .ok (.int (-i))
  | _ => .bad
@[simp] theorem dNeg_int (i : Int) : dNeg (.int i) = .ok (.int (-i)) := rfl
theorem us_neg : UnS K cl rNeg dNeg := fun O H x a E ho rx Q q => by
  cases a with
  | int i => cases rx.int_; exact ⟨i, rfl, ok_ret q (.int _)⟩
  | _ => exact q.elim
/-! ### order -/
abbrev rLtI : R2 := rI0 fun i j => .bl (decide (i < j))
abbrev rLe : R2 := rI0 fun i j => .bl (decide (i ≤ j))
abbrev rGt : R2 := rI0 fun i j => .bl (decide (j < i))
abbrev rGe : R2 := rI0 fun i j => .bl (decide (j ≤ i))
def dLtI : Dt → Dt → R Dt := dI fun i j => .ok (.bl (decide (i < j)))
@[simp] theorem dLtI_int (i j : Int) : dLtI (.int i) (.int j) = .ok (.bl (decide (i < j))) := rfl
def dLe : Dt → Dt → R Dt := dI fun i j => .ok (.bl (decide (i ≤ j)))
@[simp] theorem dLe_int (i j : Int) : dLe (.int i) (.int j) = .ok (.bl (decide (i ≤ j))) := rfl
def dGt : Dt → Dt → R Dt := dI fun i j => .ok (.bl (decide (j < i)))
@[simp] theorem dGt_int (i j : Int) : dGt (.int i) (.int j) = .ok (.bl (decide (j < i))) := rfl
def dGe : Dt → Dt → R Dt := dI fun i j => .ok (.bl (decide (j ≤ i)))
@[simp] theorem dGe_int (i j : Int) : dGe (.int i) (.int j) = .ok (.bl (decide (j ≤ i))) := rfl
theorem os_ltI : OpS K cl rLtI dLtI := os_I0 fun i j H => .bl _
theorem os_le : OpS K cl rLe dLe := os_I0 fun i j H => .bl _
theorem os_gt : OpS K cl rGt dGt := os_I0 fun i j H => .bl _
theorem os_ge : OpS K cl rGe dGe := os_I0 fun i j H => .bl _
/-! ### == -/
mutual
def Dt.py : Dt → PyData
  | .non => .none | .bl b => .bool b | .int i => .int i | .str s => .str s | .ty _ => .none
  | .tup l => .tuple (pyL l) | .lst l => .list (pyL l) | .frl l => .list (pyL l)
  | .ins _ _ => .none | .dk _ => .none | .dt _ => .none | .ftp _ => .none
def pyL : List Dt → List PyData
  | [] => []
  | d :: l => Dt.py d :: pyL l
end
mutual
def Dt.plain : Dt → Bool
  | .non => true | .bl _ => true | .int _ => true | .str _ => true | .ty _ => false
  | .tup l => plainL l | .lst l => plainL l | .frl l => plainL l
  | .ins _ _ => false | .dk _ => false | .dt _ => false | .ftp _ => false
def plainL : List Dt → Bool
  | [] => true
  | d :: l => Dt.plain d && plainL l
end
mutual
theorem Rep.dp : ∀ {v : V} {d : Dt}, Rep K cl H v d → d.plain = true → Dp K H v d.py
  | _, _, .non, _ => .non
  | _, _, .bl b, _ => .bl b
  | _, _, .int i, _ => .int i
  | _, _, .str s, _ => .str s
  | _, _, .tup h r, p => .tup (SqT.of h) (RepL.dp r (by simpa [Dt.plain] using p))
  | _, _, .lst h r, p => .lst (SqL.of h) (RepL.dp r (by simpa [Dt.plain] using p))
  | _, _, .frl h r, p => .lst h (RepL.dp r (by simpa [Dt.plain] using p))
  | _, _, .ty n, p => by simp [Dt.plain] at p
  | _, _, .ins .., p => by simp [Dt.plain] at p
  | _, _, .dk .., p => by simp [Dt.plain] at p
  | _, _, .dt .., p => by simp [Dt.plain] at p
  | _, _, .ftp .., p => by simp [Dt.plain] at p
theorem RepL.dp : ∀ {vs : List V} {ds : List Dt}, RepL K cl H vs ds → plainL ds = true → DpAll K H vs (pyL ds)
  | _, _, .nil, _ => .nil
  | _, _, .cons h r, p => by
    simp only [plainL, Bool.and_eq_true] at p
    exact .cons (Rep.dp h p.1) (RepL.dp r p.2)
end
/-! a comparison of data; nothing is asked of the signs of a text -/
mutual
theorem py_plain : ∀ (d : Dt), PyData.plain d.py = true
  | .non => rfl
  | .bl _ => rfl
  | .int _ => rfl
  | .str _ => rfl
  | .ty _ => rfl
  | .tup l => by simp only [Dt.py, PyData.plain]; exact pyL_plain l
  | .lst l => by simp only [Dt.py, PyData.plain]; exact pyL_plain l
  | .frl l => by simp only [Dt.py, PyData.plain]; exact pyL_plain l
  | .ins _ _ => rfl
  | .dk _ => rfl
  | .dt _ => rfl
  | .ftp _ => rfl
theorem pyL_plain : ∀ (l : List Dt), PyData.plainAll (pyL l) = true
  | [] => rfl
  | d :: l => by simp only [pyL, PyData.plainAll]; rw [py_plain d, pyL_plain l]; rfl
end
def rEqP (K : PySem.W.Frag) : R2 := fun x y H Q => ∃ d e, Dp K H x d ∧ Dp K H y e ∧ (PyData.plain d = true ∧ PyData.plain e = true) ∧ d.depth ≤ 64 ∧ Q (.bl (PyData.eqv d e)) H
def rNeP (K : PySem.W.Frag) : R2 := fun x y H Q => ∃ d e, Dp K H x d ∧ Dp K H y e ∧ (PyData.plain d = true ∧ PyData.plain e = true) ∧ d.depth ≤ 64 ∧ Q (.bl (!PyData.eqv d e)) H
theorem op_eqP {X : Cx} (hu : X.A.units + 64 < cLine) : OpR X (compareOp .Eq) (rEqP X.K) := by
  intro pins s σ H x y v u Q I rx ry h
  obtain ⟨d, e, hd, he, ⟨pd, pe⟩, sd, q⟩ := h
  obtain ⟨as, r1⟩ := Dp.reads I d x v hd rx
  obtain ⟨bs, r2⟩ := Dp.reads I e y u he ry
  exact SeqAt.eq_plain r1 r2 pd pe (by omega) ⟨.bl _, H, I, rfl, q⟩
theorem op_neP {X : Cx} (hu : X.A.units + 64 < cLine) : OpR X (compareOp .NotEq) (rNeP X.K) := by
  intro pins s σ H x y v u Q I rx ry h
  obtain ⟨d, e, hd, he, ⟨pd, pe⟩, sd, q⟩ := h
  obtain ⟨as, r1⟩ := Dp.reads I d x v hd rx
  obtain ⟨bs, r2⟩ := Dp.reads I e y u he ry
  exact SeqAt.ne_plain r1 r2 pd pe (by omega) ⟨.bl _, H, I, rfl, q⟩
/-- may be compared by == -/
def cmpOk (d : Dt) : Bool := d.plain && decide (d.py.depth ≤ 64)
def dEqv (a b : Dt) : Bool := PyData.eqv a.py b.py
def dEq (a b : Dt) : R Dt := if cmpOk a = true ∧ cmpOk b = true then .ok (.bl (dEqv a b)) else .bad
def dNe (a b : Dt) : R Dt := if cmpOk a = true ∧ cmpOk b = true then .ok (.bl (!dEqv a b)) else .bad
theorem os_eq : OpS K cl (rEqP K) dEq := fun O H x y a b E ho rx ry Q q => by
  unfold dEq at q
  split at q
  · rename_i h
    simp only [cmpOk, Bool.and_eq_true, decide_eq_true_iff] at h
    exact ⟨a.py, b.py, rx.full.dp h.1.1, ry.full.dp h.2.1, ⟨py_plain a, py_plain b⟩, h.1.2, ok_ret q (.bl _)⟩
  · exact q.elim
theorem os_ne : OpS K cl (rNeP K) dNe := fun O H x y a b E ho rx ry Q q => by
  unfold dNe at q
  split at q
  · rename_i h
    simp only [cmpOk, Bool.and_eq_true, decide_eq_true_iff] at h
    exact ⟨a.py, b.py, rx.full.dp h.1.1, ry.full.dp h.2.1, ⟨py_plain a, py_plain b⟩, h.1.2, ok_ret q (.bl _)⟩
  · exact q.elim
@[simp] theorem cmpOk_str (i : Str) : cmpOk (.str i) = true := rfl
@[simp] theorem cmpOk_non : cmpOk .non = true := rfl
/-- plain, and of no more than this depth -/
def Dt.fl (n : Nat) (d : Dt) : Prop := d.plain = true ∧ d.py.depth ≤ n
theorem fl_all {n : Nat} : ∀ {l : List Dt}, (∀ d ∈ l, d.fl n) → plainL l = true ∧ PyData.depthAll (pyL l) ≤ n
  | [], _ => ⟨rfl, Nat.zero_le _⟩
  | d :: l, h => by
    obtain ⟨h1, h2⟩ := h d List.mem_cons_self
    obtain ⟨h3, h4⟩ := fl_all fun x m => h x (List.mem_cons_of_mem _ m)
    simp only [plainL, pyL, PyData.depthAll, h1, h3]
    exact ⟨rfl, by omega⟩
theorem fl_tup {n : Nat} {l : List Dt} (h : ∀ d ∈ l, d.fl n) : (Dt.tup l).fl (n + 1) := by
  obtain ⟨h1, h2⟩ := fl_all h
  exact ⟨by simp only [Dt.plain]; exact h1, by simp only [Dt.py, PyData.depth]; omega⟩
theorem fl_lst {n : Nat} {l : List Dt} (h : ∀ d ∈ l, d.fl n) : (Dt.lst l).fl (n + 1) := by
  obtain ⟨h1, h2⟩ := fl_all h
  exact ⟨by simp only [Dt.plain]; exact h1, by simp only [Dt.py, PyData.depth]; omega⟩
theorem fl_int (i : Int) (n : Nat) : (Dt.int i).fl n := ⟨rfl, Nat.zero_le _⟩
theorem fl_str (i : Str) (n : Nat) : (Dt.str i).fl n := ⟨rfl, Nat.zero_le _⟩
theorem fl_cmp {n : Nat} {d : Dt} (h : d.fl n) (hn : n ≤ 64) : cmpOk d = true := by
  unfold cmpOk
  rw [h.1, decide_eq_true (Nat.le_trans h.2 hn)]; rfl
@[simp] theorem cmpOk_int (i : Int) : cmpOk (.int i) = true := rfl
@[simp] theorem cmpOk_bl (i : Bool) : cmpOk (.bl i) = true := rfl
@[simp] theorem dEqv_int (i j : Int) : dEqv (.int i) (.int j) = (i == j) := by simp [dEqv, Dt.py, PyData.eqv]
@[simp] theorem dEqv_str (i j : Str) : dEqv (.str i) (.str j) = (i == j) := by simp [dEqv, Dt.py, PyData.eqv]
/-! ### is None -/
def rIsN : R2 := fun x y H Q => y = .non ∧ Q (.bl (decide (x = .non))) H
def rNotN : R2 := fun x y H Q => y = .non ∧ Q (.bl (!decide (x = .non))) H
@[simp] def Dt.isNon : Dt → Bool
  | .non => true
  | _ => false
@[simp] def dIsN : Dt → Dt → R Dt
  | a, .non => .ok (.bl a.isNon)
  | _, _ => .bad
@[simp] def dNotN : Dt → Dt → R Dt
  | a, .non => .ok (.bl (!a.isNon))
  | _, _ => .bad
theorem RepB.isN {v : V} {d : Dt} (h : RepB K cl O H v d) : decide (v = .non) = d.isNon := by
  cases d with
  | non => cases h; rfl
  | lst l => obtain ⟨a, vs, rfl, _⟩ := h; rfl
  | tup l => obtain ⟨a, vs, rfl, _⟩ := h; rfl
  | frl l => obtain ⟨a, vs, rfl, _⟩ := h; rfl
  | ins c l => obtain ⟨a, C, dx, vs, rfl, _⟩ := h; rfl
  | dk l => obtain ⟨a, vs, rfl, _⟩ := h; rfl
  | dt l => obtain ⟨a, vs, rfl, _⟩ := h; rfl
  | ftp l => cases h; rfl
  | bl b => cases h; rfl
  | int b => cases h; rfl
  | str b => cases h; rfl
  | ty b => cases h; rfl
theorem os_isN : OpS K cl rIsN dIsN := fun O H x y a b E ho rx ry Q q => by
  cases b with
  | non => cases ry.non_; exact ⟨rfl, by rw [rx.isN]; exact ok_ret q (.bl _)⟩
  | _ => cases a <;> exact q.elim
theorem os_notN : OpS K cl rNotN dNotN := fun O H x y a b E ho rx ry Q q => by
  cases b with
  | non => cases ry.non_; exact ⟨rfl, by rw [rx.isN]; exact ok_ret q (.bl _)⟩
  | _ => cases a <;> exact q.elim
theorem op_isNA {X : Cx} : OpR X (compareOp .Is) rIsN := op_isN
theorem op_notNA {X : Cx} : OpR X (compareOp .IsNot) rNotN := op_notN

/-! ### index -/
theorem atI_rep {vs : List V} {ds : List Dt} (r : RepL K cl H vs ds) {i : Int} {d : Dt} (h : atI ds i = some d) : ∃ v, atI vs i = some v ∧ Rep K cl H v d := by
  unfold atI at h ⊢
  rw [r.len]
  obtain ⟨j, e, h⟩ := Option.bind_eq_some_iff.mp h
  obtain ⟨v, h1, h2⟩ := r.get h
  exact ⟨v, by rw [e]; exact h1, h2⟩
def opt {α : Type} : Option α → R α
  | some a => .ok a
  | none => .bad
@[simp] theorem opt_some {α : Type} (a : α) : opt (some a) = .ok a := rfl
@[simp] theorem opt_none {α : Type} : opt (none : Option α) = .bad := rfl
def dIx : Dt → Dt → R Dt
  | .lst l, .int i => opt (atI l i)
  | .tup l, .int i => opt (atI l i)
  | .frl l, .int i => opt (atI l i)
  | .str z, .int i => if z.length ≤ 1000000 then (opt (atI z.cps.toList i)).bind fun c => .ok (.str ⟨#[c]⟩) else .bad
  | _, _ => .bad
@[simp] theorem dIx_lst (l : List Dt) (i : Int) : dIx (.lst l) (.int i) = opt (atI l i) := rfl
@[simp] theorem dIx_tup (l : List Dt) (i : Int) : dIx (.tup l) (.int i) = opt (atI l i) := rfl
@[simp] theorem dIx_frl (l : List Dt) (i : Int) : dIx (.frl l) (.int i) = opt (atI l i) := rfl
theorem os_ix : OpS K cl (rIx K) dIx := fun O H x y a b E ho rx ry Q q => by
  cases b with
  | int i =>
    cases ry.int_
    cases a with
    | lst l =>
      obtain ⟨p, vs, rfl, h, r⟩ := rx
      simp only [dIx_lst] at q
      cases e : atI l i with
      | none => rw [e] at q; exact q.elim
      | some d =>
        rw [e] at q
        obtain ⟨v, e1, rv⟩ := atI_rep r e
        exact .inl ⟨p, vs, i, v, rfl, rfl, SqL.of h, e1, ok_ret q rv⟩
    | frl l =>
      obtain ⟨p, vs, rfl, h, r⟩ := rx
      simp only [dIx_frl] at q
      cases e : atI l i with
      | none => rw [e] at q; exact q.elim
      | some d =>
        rw [e] at q
        obtain ⟨v, e1, rv⟩ := atI_rep r e
        exact .inl ⟨p, vs, i, v, rfl, rfl, h, e1, ok_ret q rv⟩
    | tup l =>
      obtain ⟨p, vs, rfl, h, r⟩ := rx
      simp only [dIx_tup] at q
      cases e : atI l i with
      | none => rw [e] at q; exact q.elim
      | some d =>
        rw [e] at q
        obtain ⟨v, e1, rv⟩ := atI_rep r e
        exact .inr (.inl ⟨p, vs, i, v, rfl, rfl, SqT.of h, e1, ok_ret q rv⟩)
    | str z =>
      cases rx.str_
      simp only [dIx] at q
      split at q
      · rename_i hz
        cases e : atI z.cps.toList i with
        | none => rw [e] at q; exact q.elim
        | some c =>
          rw [e] at q
          exact .inr (.inr ⟨z, i, c, rfl, rfl, sz_of hz, e, ok_ret q (.str _)⟩)
      · exact q.elim
    | _ => exact q.elim
  | _ => cases a <;> exact q.elim
/-! ### slices -/
@[simp] def xNo : Ds → R (Option Int) := fun _ => .ok none
def dPart : Dt → R (Option Int)
  | .int i => .ok (some i)
  | _ => .bad
@[simp] theorem dPart_int (i : Int) : dPart (.int i) = .ok (some i) := rfl
@[simp] def xPart (xe : XE) : Ds → R (Option Int) := fun D => (xe D).bind dPart
def SimO (K : Fr) (cl : Cl) (E : L2.St → XK) (to : TO) (xo : Ds → R (Option Int)) : Prop := ∀ B H0 O σ D H, RS K cl B H0 O σ D H → ∀ Q : Option Int → Hp → Prop,
  (match xo D with
   | .bad => False
   | .ex c fs => ExOk K cl (E σ) O c fs H
   | .ok o => ∀ H', Same H H' → Q o H') → to σ H Q
theorem so_no {E : L2.St → XK} : SimO K cl E tNoPart xNo := fun B H0 O σ D H r Q q => q H (Same.refl H)
theorem so_part {E : L2.St → XK} {te : TE} {xe : XE} (h : Sim K cl E te xe) : SimO K cl E (tPart te) (xPart xe) := fun B H0 O σ D H s Q q => by
  unfold xPart at q
  refine h B H0 O σ D H s _ ?_
  cases ea : xe D with
  | bad => rw [ea] at q; exact q.elim
  | ex c fs => rw [ea] at q; exact q
  | ok d =>
    rw [ea] at q
    cases d with
    | int b =>
      intro v H' e r
      cases r
      exact ⟨b, rfl, q H' e⟩
    | _ => exact q.elim
def cutD (xs : List Dt) (lo hi : Option Int) : List Dt := (xs.drop (HT.sIx xs.length 0 lo)).take (HT.sIx xs.length xs.length hi - HT.sIx xs.length 0 lo)
theorem cut_rep {vs : List V} {ds : List Dt} (r : RepL K cl H vs ds) (lo hi : Option Int) : RepL K cl H (cutV vs lo hi) (cutD ds lo hi) := by
  unfold cutV cutD
  rw [r.len]
  exact (r.drop _).take _
/-- slices of texts -/
@[simp] def xSlS (xe : XE) (xl xh : Ds → R (Option Int)) : XE := fun D => (xe D).bind fun a => (xl D).bind fun l => (xh D).bind fun h => match a with
  | .str z => if z.length ≤ 1000000 then .ok (.str (cutS z l h)) else .bad
  | _ => .bad
theorem sim_slS {E : L2.St → XK} {te : TE} {tl th : TO} {xe : XE} {xl xh : Ds → R (Option Int)} (he : SimB K cl E te xe) (hl : SimO K cl E tl xl) (hh : SimO K cl E th xh) : Sim K cl E (tSl rSlS te tl th) (xSlS xe xl xh) := fun B H0 O σ D H s Q q => by
  unfold xSlS at q
  refine he B H0 O σ D H s _ ?_
  cases ea : xe D with
  | bad => rw [ea] at q; exact q.elim
  | ex c fs => rw [ea] at q; exact q
  | ok a =>
    rw [ea] at q
    intro x H1 e1 rx
    refine hl B H0 O σ D H1 (s.mono e1) _ ?_
    simp only [R.bind] at q
    cases el : xl D with
    | bad => rw [el] at q; exact q.elim
    | ex c fs => rw [el] at q; exact ExOk.mono e1 q
    | ok l =>
      rw [el] at q
      intro H2 e2
      refine hh B H0 O σ D H2 ((s.mono e1).mono e2) _ ?_
      simp only [R.bind] at q
      cases eh : xh D with
      | bad => rw [eh] at q; exact q.elim
      | ex c fs => rw [eh] at q; exact ExOk.mono (e1.trans e2) q
      | ok h =>
        rw [eh] at q
        intro H3 e3
        cases a with
        | str z =>
          cases rx.str_
          simp only at q
          split at q
          · rename_i hz
            exact ⟨z, rfl, sz_of hz, q _ H3 ((e1.trans e2).trans e3) (.str _)⟩
          · exact q.elim
        | _ => exact q.elim
/-- slices of lists -/
@[simp] def xSlL (xe : XE) (xl xh : Ds → R (Option Int)) : XA := fun D => (xe D).bind fun a => (xl D).bind fun l => (xh D).bind fun h => match a with
  | .lst z => .ok (cutD z l h)
  | .frl z => .ok (cutD z l h)
  | _ => .bad
theorem simL_sl {E : L2.St → XK} {te : TE} {tl th : TO} {xe : XE} {xl xh : Ds → R (Option Int)} (he : SimB K cl E te xe) (hl : SimO K cl E tl xl) (hh : SimO K cl E th xh) : SimL K cl E (tSl (rSlL K) te tl th) (xSlL xe xl xh) := fun B H0 O σ D H s Q q => by
  unfold xSlL at q
  refine he B H0 O σ D H s _ ?_
  cases ea : xe D with
  | bad => rw [ea] at q; exact q.elim
  | ex c fs => rw [ea] at q; exact q
  | ok a =>
    rw [ea] at q
    intro x H1 e1 rx
    refine hl B H0 O σ D H1 (s.mono e1) _ ?_
    simp only [R.bind] at q
    cases el : xl D with
    | bad => rw [el] at q; exact q.elim
    | ex c fs => rw [el] at q; exact ExOk.mono e1 q
    | ok l =>
      rw [el] at q
      intro H2 e2
      refine hh B H0 O σ D H2 ((s.mono e1).mono e2) _ ?_
      simp only [R.bind] at q
      cases eh : xh D with
      | bad => rw [eh] at q; exact q.elim
      | ex c fs => rw [eh] at q; exact ExOk.mono (e1.trans e2) q
      | ok h =>
        rw [eh] at q
        intro H3 e3
        have e123 := (e1.trans e2).trans e3
        cases a with
        | lst z =>
          obtain ⟨p, vs, rfl, h1, r⟩ := rx.mono (e2.trans e3)
          refine ⟨p, vs, rfl, SqL.of h1, fun p n => q p _ _ (e123.trans (same_upd n)) (e123.free n) upd_same ((cut_rep r l h).mono (hid_new (same_upd n) n))⟩
        | frl z =>
          obtain ⟨p, vs, rfl, h1, r⟩ := rx.mono (e2.trans e3)
          refine ⟨p, vs, rfl, h1, fun p n => q p _ _ (e123.trans (same_upd n)) (e123.free n) upd_same ((cut_rep r l h).mono (hid_new (same_upd n) n))⟩
        | _ => exact q.elim

/-! ### calls of built-ins -/
def dLen : List Dt → R Dt
  | [.lst l] => .ok (.int (l.length : Nat))
  | [.tup l] => .ok (.int (l.length : Nat))
  | [.frl l] => .ok (.int (l.length : Nat))
  | [.str z] => if z.length ≤ 1000000 then .ok (.int (z.length : Nat)) else .bad
  | _ => .bad
@[simp] theorem dLen_lst (l : List Dt) : dLen [.lst l] = .ok (.int (l.length : Nat)) := rfl
@[simp] theorem dLen_tup (l : List Dt) : dLen [.tup l] = .ok (.int (l.length : Nat)) := rfl
@[simp] theorem dLen_frl (l : List Dt) : dLen [.frl l] = .ok (.int (l.length : Nat)) := rfl
@[simp] theorem dLen_str (z : Str) : dLen [.str z] = if z.length ≤ 1000000 then .ok (.int (z.length : Nat)) else .bad := rfl
def rLen (K : Fr) : List V → Hp → VK → Prop := fun xs H Q => ∃ x n, xs = [x] ∧ LenV K x H n ∧ Q (.int n) H
theorem call_lenA {X : Cx} : CallR X (.builtin "len") (rLen X.K) := call_len
theorem RepBL.one {vs : List V} {d : Dt} (h : RepBL K cl O H vs [d]) : ∃ v, vs = [v] ∧ RepB K cl O H v d := by
  cases h with
  | cons a b => cases b; exact ⟨_, rfl, a⟩
theorem RepBL.two {vs : List V} {d e : Dt} (h : RepBL K cl O H vs [d, e]) : ∃ v w, vs = [v, w] ∧ RepB K cl O H v d ∧ RepB K cl O H w e := by
  cases h with
  | cons a b => cases b with | cons b c => cases c; exact ⟨_, _, rfl, a, b⟩
theorem cs_len : CaS K cl (rLen K) dLen := fun O H xs ds E ho r Q q => by
  match ds, r, q with
  | [.lst l], r, q =>
    obtain ⟨v, rfl, a, vs, rfl, h, rr⟩ := r.one
    exact ⟨_, _, rfl, .inl ⟨vs, SqL.of h, rfl⟩, by rw [rr.len]; exact ok_ret q (.int _)⟩
  | [.frl l], r, q =>
    obtain ⟨v, rfl, a, vs, rfl, h, rr⟩ := r.one
    exact ⟨_, _, rfl, .inl ⟨vs, h, rfl⟩, by rw [rr.len]; exact ok_ret q (.int _)⟩
  | [.tup l], r, q =>
    obtain ⟨v, rfl, a, vs, rfl, h, rr⟩ := r.one
    exact ⟨_, _, rfl, .inr ⟨vs, SqT.of h, rfl⟩, by rw [rr.len]; exact ok_ret q (.int _)⟩
  | [.str z], r, q =>
    obtain ⟨v, rfl, h⟩ := r.one
    cases h.str_
    simp only [dLen] at q
    split at q
    · rename_i hz
      exact ⟨_, _, rfl, ⟨sz_of hz, rfl⟩, ok_ret q (.int _)⟩
    · exact q.elim
  | [], _, q => exact q.elim
  | [.non], _, q => exact q.elim
  | [.bl _], _, q => exact q.elim
  | [.int _], _, q => exact q.elim
  | [.ty _], _, q => exact q.elim
  | [.ins _ _], _, q => exact q.elim
  | [.dk _], _, q => exact q.elim
  | [.dt _], _, q => exact q.elim
  | _ :: _ :: _, _, q => simp only [dLen] at q; exact q.elim
def rInt : List V → Hp → VK → Prop := fun xs H Q => (∃ i, xs = [.int i] ∧ Q (.int i) H) ∨ ∃ k, xs = [.bl k] ∧ Q (.int (if k then 1 else 0)) H
theorem call_intA {X : Cx} : CallR X (.type "int") rInt := call_int1
@[simp] def dInt : List Dt → R Dt
  | [.int i] => .ok (.int i)
  | [.bl k] => .ok (.int (if k then 1 else 0))
  | _ => .bad
theorem cs_int : CaS K cl rInt dInt := fun O H xs ds E ho r Q q => by
  unfold dInt at q
  split at q
  · obtain ⟨v, rfl, h⟩ := r.one
    cases h.int_
    exact .inl ⟨_, rfl, ok_ret q (.int _)⟩
  · obtain ⟨v, rfl, h⟩ := r.one
    cases h.bl_
    exact .inr ⟨_, rfl, ok_ret q (.int _)⟩
  · exact q.elim
def rStrI : List V → Hp → VK → Prop := fun xs H Q => ∃ i, xs = [.int i] ∧ i.natAbs.log2 < 1920 ∧ Q (.str (toString i)) H
@[simp] def dStr : List Dt → R Dt
  | [.int i] => if i.natAbs.log2 < 1920 then .ok (.str (toString i)) else .bad
  | _ => .bad
theorem call_strA {X : Cx} : CallR X (.type "str") rStrI := call_str_int
theorem cs_str : CaS K cl rStrI dStr := fun O H xs ds E ho r Q q => by
  unfold dStr at q
  split at q
  · obtain ⟨v, rfl, h⟩ := r.one
    cases h.int_
    split at q
    · rename_i hl
      exact ⟨_, rfl, hl, ok_ret q (.str _)⟩
    · exact q.elim
  · exact q.elim
def rAbs : List V → Hp → VK → Prop := fun xs H Q => ∃ i, xs = [.int i] ∧ Q (.int (if i < 0 then -i else i)) H
@[simp] def dAbs : List Dt → R Dt
  | [.int i] => .ok (.int (if i < 0 then -i else i))
  | _ => .bad
theorem call_absA {X : Cx} : CallR X (.builtin "abs") rAbs := call_abs
theorem cs_abs : CaS K cl rAbs dAbs := fun O H xs ds E ho r Q q => by
  unfold dAbs at q
  split at q
  · obtain ⟨v, rfl, h⟩ := r.one
    cases h.int_
    exact ⟨_, rfl, ok_ret q (.int _)⟩
  · exact q.elim
def rMax2 : List V → Hp → VK → Prop := fun xs H Q => ∃ i j, xs = [.int i, .int j] ∧ Q (.int (if j > i then j else i)) H
def rMin2 : List V → Hp → VK → Prop := fun xs H Q => ∃ i j, xs = [.int i, .int j] ∧ Q (.int (if j < i then j else i)) H
@[simp] def dMax2 : List Dt → R Dt
  | [.int i, .int j] => .ok (.int (if j > i then j else i))
  | _ => .bad
@[simp] def dMin2 : List Dt → R Dt
  | [.int i, .int j] => .ok (.int (if j < i then j else i))
  | _ => .bad
theorem call_max2A {X : Cx} (h : X.calm = true) : CallR X (.builtin "max") rMax2 := call_max2 h
theorem call_min2A {X : Cx} (h : X.calm = true) : CallR X (.builtin "min") rMin2 := call_min2 h
theorem cs_max2 : CaS K cl rMax2 dMax2 := fun O H xs ds E ho r Q q => by
  unfold dMax2 at q
  split at q
  · obtain ⟨v, w, rfl, h, h'⟩ := r.two
    cases h.int_; cases h'.int_
    exact ⟨_, _, rfl, ok_ret q (.int _)⟩
  · exact q.elim
theorem cs_min2 : CaS K cl rMin2 dMin2 := fun O H xs ds E ho r Q q => by
  unfold dMin2 at q
  split at q
  · obtain ⟨v, w, rfl, h, h'⟩ := r.two
    cases h.int_; cases h'.int_
    exact ⟨_, _, rfl, ok_ret q (.int _)⟩
  · exact q.elim
/-- all of a list of bools -/
def bools : List Dt → Option (List Bool)
  | [] => some []
  | .bl b :: l => (bools l).map fun r => b :: r
  | _ :: _ => none
@[simp] theorem bools_map : ∀ l : List Bool, bools (l.map Dt.bl) = some l
  | [] => rfl
  | b :: l => by rw [List.map_cons]; unfold bools; rw [bools_map l]; rfl
theorem bools_rep : ∀ {vs : List V} {ds : List Dt} {bs : List Bool}, RepL K cl H vs ds → bools ds = some bs → vs = bs.map V.bl
  | _, _, _, .nil, e => by simp only [bools, Option.some.injEq] at e; subst e; rfl
  | _, _, bs, .cons (d := d) (ds := ds) h r, e => by
    cases d with
    | bl b =>
      cases h
      unfold bools at e
      obtain ⟨l, e2, rfl⟩ := Option.map_eq_some_iff.mp e
      rw [bools_rep r e2]; rfl
    | _ => simp [bools] at e
@[simp] def dAll : List Dt → R Dt
  | [.lst l] => (opt (bools l)).bind fun bs => .ok (.bl (bs.all id))
  | _ => .bad
@[simp] def dAny : List Dt → R Dt
  | [.lst l] => (opt (bools l)).bind fun bs => .ok (.bl (bs.any id))
  | _ => .bad
theorem cs_all : CaS K cl (rAll K) dAll := fun O H xs ds E ho r Q q => by
  unfold dAll at q
  split at q
  · obtain ⟨v, rfl, a, vs, rfl, h, rr⟩ := r.one
    rename_i l
    cases e : bools l with
    | none => rw [e] at q; exact q.elim
    | some bs =>
      rw [e] at q
      exact ⟨a, bs, rfl, by rw [← bools_rep rr e]; exact SqL.of h, ok_ret q (.bl _)⟩
  · exact q.elim
theorem cs_any : CaS K cl (rAny K) dAny := fun O H xs ds E ho r Q q => by
  unfold dAny at q
  split at q
  · obtain ⟨v, rfl, a, vs, rfl, h, rr⟩ := r.one
    rename_i l
    cases e : bools l with
    | none => rw [e] at q; exact q.elim
    | some bs =>
      rw [e] at q
      exact ⟨a, bs, rfl, by rw [← bools_rep rr e]; exact SqL.of h, ok_ret q (.bl _)⟩
  · exact q.elim
/-! ### isinstance with a built-in class -/
def Dt.tyN : Dt → Option String
  | .non => some "NoneType" | .bl _ => some "bool" | .int _ => some "int" | .str _ => some "str"
  | .tup _ => some "tuple" | .lst _ => some "list" | .dk _ => some "dict" | .dt _ => some "dict" | _ => none
def dIsi : List Dt → R Dt
  | [d, .ty n] => (opt (d.tyN.bind fun t => kitB t n)).bind fun b => .ok (.bl b)
  | _ => .bad
theorem cs_isi : CaS K cl (rIsi K) dIsi := fun O H xs ds E ho r Q q => by
  unfold dIsi at q
  split at q
  · rename_i d n
    obtain ⟨v, w, rfl, h, h'⟩ := r.two
    cases h'.ty_
    cases e : d.tyN with
    | none => rw [e] at q; exact q.elim
    | some t =>
      rw [e] at q
      simp only [Option.bind_some] at q
      cases e2 : kitB t n with
      | none => rw [e2] at q; exact q.elim
      | some b =>
        rw [e2] at q
        refine ⟨v, .ty n, .type t, .type n, b, rfl, .ty n, ?_, kit_ty e2, ok_ret q (.bl _)⟩
        cases d with
        | non => cases h; cases e; exact .base .non
        | bl b => cases h; cases e; exact .base (.bl _)
        | int b => cases h; cases e; exact .base (.int _)
        | str b => cases h; cases e; exact .base (.str _)
        | tup l => obtain ⟨a, vs, rfl, h, _⟩ := h; cases e; exact .base (.tup h)
        | lst l => obtain ⟨a, vs, rfl, h, _⟩ := h; cases e; exact .base (.lst h)
        | dk l => obtain ⟨a, vs, rfl, h, _⟩ := h; cases e; exact .base (.dK h)
        | dt l => obtain ⟨a, vs, rfl, h, _⟩ := h; cases e; exact .base (.dT h)
        | _ => cases e
  · exact q.elim
/-! ### list(x), tuple(x) -/
def rListOf (K : Fr) : List V → Hp → VK → Prop := fun xs H Q => ∃ p ys, xs = [.ref p] ∧ (SqL K H p ys ∨ SqT K H p ys) ∧ ∀ l, H l = none → Q (.ref l) (upd H l (.lst ys))
theorem call_listA {X : Cx} : CallR X (.type "list") (rListOf X.K) := call_list_of
@[simp] def dList : List Dt → R (List Dt)
  | [.lst l] => .ok l
  | [.tup l] => .ok l
  | [.frl l] => .ok l
  | _ => .bad
theorem new_post {E : XK} {Q : VK} {ds : List Dt} {vs : List V} (q : PostL K cl E O H Q (.ok ds)) (r : RepL K cl (hid O H) vs ds) : ∀ l, H l = none → Q (.ref l) (upd H l (.lst vs)) := fun p n =>
  q p vs _ (same_upd n) n upd_same (r.mono (hid_new (same_upd n) n))
theorem cl_list : CaL K cl (rListOf K) dList := fun O H xs ds E ho r Q q => by
  unfold dList at q
  split at q
  · obtain ⟨v, rfl, a, vs, rfl, h, rr⟩ := r.one
    exact ⟨a, vs, rfl, .inl (SqL.of h), new_post q rr⟩
  · obtain ⟨v, rfl, a, vs, rfl, h, rr⟩ := r.one
    exact ⟨a, vs, rfl, .inr (SqT.of h), new_post q rr⟩
  · obtain ⟨v, rfl, a, vs, rfl, h, rr⟩ := r.one
    exact ⟨a, vs, rfl, .inl h, new_post q rr⟩
  · exact q.elim
def rTupleOf (K : Fr) : List V → Hp → VK → Prop := fun xs H Q => ∃ p ys, xs = [.ref p] ∧ ((SqL K H p ys ∧ ∀ l, H l = none → Q (.ref l) (upd H l (.tup ys))) ∨ (SqT K H p ys ∧ Q (.ref p) H))
theorem call_tupleA {X : Cx} : CallR X (.type "tuple") (rTupleOf X.K) := call_tuple_of
@[simp] def dTuple : List Dt → R Dt
  | [.lst l] => .ok (.tup l)
  | [.frl l] => .ok (.tup l)
  | _ => .bad
theorem trk_nin (ho : Trk O H) {p : Addr} (n : H p = none) : p ∉ O := fun m => by
  have := ho p m
  rw [n] at this; exact mutO_none this
theorem new_tup {E : XK} {Q : VK} {ds : List Dt} {vs : List V} (ho : Trk O H) (q : PostE K cl E O H Q (.ok (.tup ds))) (r : RepL K cl (hid O H) vs ds) : ∀ l, H l = none → Q (.ref l) (upd H l (.tup vs)) := fun p n =>
  q _ _ (same_upd n) (.tup (hid_at (trk_nin ho n)) (r.mono (hid_upd_new n)))
theorem cs_tuple : CaS K cl (rTupleOf K) dTuple := fun O H xs ds E ho r Q q => by
  unfold dTuple at q
  split at q
  · obtain ⟨v, rfl, a, vs, rfl, h, rr⟩ := r.one
    exact ⟨a, vs, rfl, .inl ⟨SqL.of h, new_tup ho q rr⟩⟩
  · obtain ⟨v, rfl, a, vs, rfl, h, rr⟩ := r.one
    exact ⟨a, vs, rfl, .inl ⟨h, new_tup ho q rr⟩⟩
  · exact q.elim
/-! ### methods of texts -/
@[simp] def xBM (f : Dt → List Dt → R Dt) (xo : XE) (xa : XA) : XE := fun D => (xo D).bind fun o => (xa D).bind fun a => f o a
def MtS (K : Fr) (cl : Cl) (T : String) (r : V → List V → Hp → VK → Prop) (f : Dt → List Dt → R Dt) : Prop := ∀ O H H' x xs a ds E, Same H H' → Trk O H' → RepB K cl O H x a → RepBL K cl O H' xs ds → ∀ Q : VK, PostE K cl E O H' Q (f a ds) → tyV K T x H ∧ r x xs H' Q
/-- the receiver's type is asked ahead of the arguments: a value that says it -/
def TyS (K : Fr) (cl : Cl) (T : String) (g : Dt → Bool) : Prop := ∀ O H x a, RepB K cl O H x a → g a = true → tyV K T x H
@[simp] def xBMg (g : Dt → Bool) (f : Dt → List Dt → R Dt) (xo : XE) (xa : XA) : XE := fun D => (xo D).bind fun o => if g o = true then (xa D).bind fun a => f o a else .bad
theorem sim_bm {E : L2.St → XK} {T : String} {r : V → List V → Hp → VK → Prop} {f : Dt → List Dt → R Dt} {g : Dt → Bool} {to : TE} {t : TA} {xo : XE} {xa : XA} (ht : TyS K cl T g)
    (hr : ∀ O H x xs a ds E, Trk O H → RepB K cl O H x a → RepBL K cl O H xs ds → ∀ Q : VK, PostE K cl E O H Q (f a ds) → r x xs H Q) (ho : SimB K cl E to xo) (ha : SimBA K cl E t xa) :
    Sim K cl E (tBM K T r to t) (xBMg g f xo xa) := fun B H0 O σ D H s Q q => by
  refine ho B H0 O σ D H s _ ?_
  cases ea : xo D with
  | bad => simp only [xBMg, ea] at q; exact q.elim
  | ex c fs => simp only [xBMg, ea] at q; exact q
  | ok o =>
    simp only [xBMg, ea, R.bind] at q
    intro x H1 e1 rx
    split at q
    · rename_i hg
      refine ⟨ht O H1 x o rx hg, ?_⟩
      refine ha B H0 O σ D H1 (s.mono e1) _ ?_
      cases eb : xa D with
      | bad => simp only [eb] at q; exact q.elim
      | ex c fs => simp only [eb] at q; exact ExOk.mono e1 q
      | ok ds =>
        simp only [eb] at q
        intro vs H2 e2 rv
        exact hr O H2 x vs o ds (E σ) (fun a m => (((s.mono e1).mono e2).own a m).2) (rx.mono e2) rv Q (post_E (e1.trans e2) q)
    · exact q.elim
@[simp] def Dt.isStr : Dt → Bool
  | .str _ => true
  | _ => false
theorem ty_str : TyS K cl "str" Dt.isStr := fun O H x a h g => by
  cases a with
  | str z => cases h.str_; rfl
  | _ => cases g
def dstrs : List Dt → Option (List Str)
  | [] => some []
  | .str b :: l => (dstrs l).map fun r => b :: r
  | _ :: _ => none
@[simp] theorem dstrs_map : ∀ l : List Str, dstrs (l.map Dt.str) = some l
  | [] => rfl
  | b :: l => by rw [List.map_cons]; unfold dstrs; rw [dstrs_map l]; rfl
theorem dstrs_rep : ∀ {vs : List V} {ds : List Dt} {bs : List Str}, RepL K cl H vs ds → dstrs ds = some bs → vs = bs.map V.str
  | _, _, _, .nil, e => by simp only [dstrs, Option.some.injEq] at e; subst e; rfl
  | _, _, bs, .cons (d := d) (ds := ds) h r, e => by
    cases d with
    | str b =>
      cases h
      unfold dstrs at e
      obtain ⟨l, e2, rfl⟩ := Option.map_eq_some_iff.mp e
      rw [dstrs_rep r e2]; rfl
    | _ => simp [dstrs] at e
def rJoin (K : Fr) : V → List V → Hp → VK → Prop := fun x xs H Q => ∃ a p, ∃ ys : List Str, x = .str a ∧ xs = [.ref p] ∧ (SqL K H p (ys.map V.str) ∨ SqT K H p (ys.map V.str)) ∧ (ys.map (·.length)).sum + ys.length * a.length ≤ 16777216 ∧ Q (.str (Txt.join a ys)) H
theorem mt_joinA {X : Cx} : MtR X "str.join" (rJoin X.K) := mt_join
def dJoin : Dt → List Dt → R Dt
  | .str a, [.lst l] => (opt (dstrs l)).bind fun ys => if (ys.map (·.length)).sum + ys.length * a.length ≤ 16777216 then .ok (.str (Txt.join a ys)) else .bad
  | _, _ => .bad
theorem ms_join : ∀ O H x xs a ds E, Trk O H → RepB K cl O H x a → RepBL K cl O H xs ds → ∀ Q : VK, PostE K cl E O H Q (dJoin a ds) → rJoin K x xs H Q := fun O H x xs a ds E ho rx r Q q => by
  unfold dJoin at q
  split at q
  · obtain ⟨v, rfl, a, vs, rfl, h, rr⟩ := r.one
    cases rx.str_
    rename_i l
    cases e : dstrs l with
    | none => rw [e] at q; exact q.elim
    | some ys =>
      rw [e] at q
      simp only [opt_some, R.bind] at q
      split at q
      · rename_i hz
        have ev := dstrs_rep rr e
        subst ev
        exact ⟨_, a, ys, rfl, rfl, .inl (SqL.of h), hz, ok_ret q (.str _)⟩
      · exact q.elim
  · exact q.elim
/-! ### in, of one sign in a text -/
def rInS : R2 := fun x y H Q => ∃ (c : Nat) (z : Str), x = .str ⟨#[c]⟩ ∧ y = .str z ∧ Q (.bl (decide (c ∈ z.cps.toList))) H
def rNotInS : R2 := fun x y H Q => ∃ (c : Nat) (z : Str), x = .str ⟨#[c]⟩ ∧ y = .str z ∧ Q (.bl (!decide (c ∈ z.cps.toList))) H
theorem op_inS {X : Cx} : OpR X (compareOp .In) rInS := op_in_sign
theorem op_notInS {X : Cx} : OpR X (compareOp .NotIn) rNotInS := op_notIn_sign
def sign (x : Str) : Option Nat := match x.cps.toList with
  | [c] => some c
  | _ => none
theorem sign_eq {x : Str} {c : Nat} (h : sign x = some c) : x = ⟨#[c]⟩ := by
  unfold sign at h
  split at h
  · rename_i d e
    cases h
    cases x with
    | mk cps => congr 1; exact Array.toList_inj.mp (by simpa using e)
  · cases h
@[simp] theorem sign_mk (c : Nat) : sign ⟨#[c]⟩ = some c := rfl
def dInS : Dt → Dt → R Dt
  | .str x, .str z => (opt (sign x)).bind fun c => .ok (.bl (decide (c ∈ z.cps.toList)))
  | _, _ => .bad
def dNotInS : Dt → Dt → R Dt
  | .str x, .str z => (opt (sign x)).bind fun c => .ok (.bl (!decide (c ∈ z.cps.toList)))
  | _, _ => .bad
theorem os_inS : OpS K cl rInS dInS := fun O H x y a b E ho rx ry Q q => by
  unfold dInS at q
  split at q
  · rename_i x z
    cases rx.str_; cases ry.str_
    cases e : sign x with
    | none => rw [e] at q; exact q.elim
    | some c =>
      rw [e] at q
      exact ⟨c, z, by rw [sign_eq e], rfl, ok_ret q (.bl _)⟩
  · exact q.elim
theorem os_notInS : OpS K cl rNotInS dNotInS := fun O H x y a b E ho rx ry Q q => by
  unfold dNotInS at q
  split at q
  · rename_i x z
    cases rx.str_; cases ry.str_
    cases e : sign x with
    | none => rw [e] at q; exact q.elim
    | some c =>
      rw [e] at q
      exact ⟨c, z, by rw [sign_eq e], rfl, ok_ret q (.bl _)⟩
  · exact q.elim
/-! ### chains -/
@[simp] def xChain (f g : Dt → Dt → R Dt) (xa xb xc : XE) : XE := fun D => (xa D).bind fun a => (xb D).bind fun b => (f a b).bind (dAndV ((xc D).bind fun c => g b c))
end
end Mx
namespace Mx
open PySem PySem.Spec PyProof.Rows L2

section
variable {K : Fr} {cl : Cl} {E : L2.St → XK} {H H' H1 H0 : Hp} {O O' : List Addr} {σ : L2.St} {D : Ds} {B : List Addr}
theorem RS.trk (s : RS K cl B H0 O σ D H) : Trk O H := fun a m => (s.own a m).2
theorem sim_chain {f g : Dt → Dt → R Dt} {r r' : R2} {ta tb tc : TE} {xa xb xc : XE} (hf : OpS K cl r f) (hg : OpS K cl r' g) (ha : SimB K cl E ta xa) (hb : SimB K cl E tb xb) (hc : SimB K cl E tc xc) : Sim K cl E (tChain r r' ta tb tc) (xChain f g xa xb xc) := fun B H0 O σ D H s Q q => by
  unfold xChain at q
  refine ha B H0 O σ D H s _ ?_
  cases ea : xa D with
  | bad => rw [ea] at q; exact q.elim
  | ex c fs => rw [ea] at q; exact q
  | ok a =>
    rw [ea] at q
    intro x H1 e1 rx
    refine hb B H0 O σ D H1 (s.mono e1) _ ?_
    simp only [R.bind] at q
    cases eb : xb D with
    | bad => rw [eb] at q; exact q.elim
    | ex c fs => rw [eb] at q; exact ExOk.mono e1 q
    | ok b =>
      rw [eb] at q
      intro y H2 e2 ry
      have s2 := (s.mono e1).mono e2
      refine hf O H2 x y a b (E σ) s2.trk (rx.mono e2) ry _ ?_
      simp only [R.bind] at q
      cases ef : f a b with
      | bad => rw [ef] at q; exact q.elim
      | ex c fs => rw [ef] at q; exact ExOk.mono (e1.trans e2) q
      | ok k =>
        rw [ef] at q
        intro z H3 e3 rz
        cases k with
        | bl k =>
          cases rz
          refine ⟨k, rfl, ?_⟩
          cases k with
          | false => exact q _ H3 ((e1.trans e2).trans e3) (.bl _)
          | true =>
            rw [if_pos rfl]
            refine hc B H0 O σ D H3 (s2.mono e3) _ ?_
            simp only [R.bind] at q
            cases ec : xc D with
            | bad => rw [ec] at q; exact q.elim
            | ex c fs => rw [ec] at q; exact ExOk.mono ((e1.trans e2).trans e3) q
            | ok c =>
              rw [ec] at q
              intro w H4 e4 rw'
              refine hg O H4 y w b c (E σ) ((s2.mono e3).mono e4).trk (ry.mono (e3.trans e4)) rw' _ ?_
              exact post_E (((e1.trans e2).trans e3).trans e4) q
        | _ => exact q.elim

/-! ### statements -/
inductive Out where
  | bad | nx (D : Ds) | rt (d : Dt) | bk (D : Ds) | ct (D : Ds) | ex (c : Str) (fs : List (Str × Dt)) (D : Ds)
abbrev XS := Ds → Out
def PostS (K : Fr) (cl : Cl) (B : List Addr) (H0 : Hp) (E : L2.St → XK) (En : Ends) (O : List Addr) (H : Hp) : Out → Prop
  | .bad => False
  | .nx D => ∀ O' σ' H', RS K cl B H0 O' σ' D H' → Same (hid O H) (hid O' H') → En.nx σ' H'
  | .bk D => ∀ O' σ' H', RS K cl B H0 O' σ' D H' → Same (hid O H) (hid O' H') → En.bk σ' H'
  | .ct D => ∀ O' σ' H', RS K cl B H0 O' σ' D H' → Same (hid O H) (hid O' H') → En.ct σ' H'
  | .rt d => ∀ v H', Same H0 H' → Rep K cl (hid B H') v d → En.rt v H'
  | .ex c fs D => ∀ O' σ' H', RS K cl B H0 O' σ' D H' → Same (hid O H) (hid O' H') → ExOk K cl (E σ') O' c fs H'
def SimS (K : Fr) (cl : Cl) (E : L2.St → XK) (ts : TS) (xs : XS) : Prop := ∀ B H0 O σ D H, RS K cl B H0 O σ D H → ∀ En, PostS K cl B H0 E En O H (xs D) → ts En σ H
theorem PostS.fw {En : Ends} (e : Same (hid O H) (hid O' H')) {o : Out} (q : PostS K cl B H0 E En O H o) : PostS K cl B H0 E En O' H' o := by
  cases o with
  | bad => exact q
  | nx D => exact fun O2 σ2 H2 r f => q O2 σ2 H2 r (e.trans f)
  | bk D => exact fun O2 σ2 H2 r f => q O2 σ2 H2 r (e.trans f)
  | ct D => exact fun O2 σ2 H2 r f => q O2 σ2 H2 r (e.trans f)
  | rt d => exact q
  | ex c fs D => exact fun O2 σ2 H2 r f => q O2 σ2 H2 r (e.trans f)
theorem Same.rfl' {H : Hp} : Same H H := Same.refl H
@[simp] def xsNext : XS := fun D => .nx D
def Out.seq (o : Out) (ys : XS) : Out := match o with
  | .nx D => ys D
  | o => o
@[simp] theorem seq_nx (D : Ds) (ys : XS) : Out.seq (.nx D) ys = ys D := rfl
@[simp] theorem seq_rt (d : Dt) (ys : XS) : Out.seq (.rt d) ys = .rt d := rfl
@[simp] theorem seq_bk (D : Ds) (ys : XS) : Out.seq (.bk D) ys = .bk D := rfl
@[simp] theorem seq_ct (D : Ds) (ys : XS) : Out.seq (.ct D) ys = .ct D := rfl
@[simp] theorem seq_ex (c : Str) (fs : List (Str × Dt)) (D : Ds) (ys : XS) : Out.seq (.ex c fs D) ys = .ex c fs D := rfl
@[simp] theorem seq_bad (ys : XS) : Out.seq .bad ys = .bad := rfl
@[simp] def xsSeq (xs ys : XS) : XS := fun D => (xs D).seq ys
theorem ss_next : SimS K cl E tNext xsNext := fun B H0 O σ D H s En q => q O σ H s (Same.refl _)
theorem ss_seq {t u : TS} {xs ys : XS} (h1 : SimS K cl E t xs) (h2 : SimS K cl E u ys) : SimS K cl E (tSeq t u) (xsSeq xs ys) := fun B H0 O σ D H s En q => by
  refine h1 B H0 O σ D H s _ ?_
  unfold xsSeq at q
  cases e : xs D with
  | nx D1 =>
    rw [e] at q
    exact fun O' σ' H' r f => h2 B H0 O' σ' D1 H' r En (PostS.fw f q)
  | bad => rw [e] at q; exact q
  | rt d => rw [e] at q; exact q
  | bk D => rw [e] at q; exact q
  | ct D => rw [e] at q; exact q
  | ex c fs D => rw [e] at q; exact q
@[simp] def xsBrk : XS := fun D => .bk D
@[simp] def xsCnt : XS := fun D => .ct D
theorem ss_brk : SimS K cl E tBreak xsBrk := fun B H0 O σ D H s En q => q O σ H s (Same.refl _)
theorem ss_cnt : SimS K cl E tCont xsCnt := fun B H0 O σ D H s En q => q O σ H s (Same.refl _)
theorem ss_never {ts : TS} : SimS K cl E ts (fun _ => .bad) := fun B H0 O σ D H s En q => q.elim
@[simp] def xsFrz (i : Nat) (xs : XS) : XS := fun D => xs (Frz i D)
theorem ss_frz {i : Nat} {ts : TS} {xs : XS} (h : SimS K cl E ts xs) : SimS K cl E ts (xsFrz i xs) := fun B H0 O σ D H s En q => by
  obtain ⟨O', r, sub⟩ := s.frz i
  exact h B H0 O' σ _ H r En (PostS.fw (hid_sub sub) q)
def R.out (D : Ds) {α : Type} : R α → (α → Out) → Out
  | .bad, _ => .bad
  | .ex c fs, _ => .ex c fs D
  | .ok a, f => f a
@[simp] theorem out_bad {D : Ds} {α : Type} {f : α → Out} : R.out D .bad f = .bad := rfl
@[simp] theorem out_ex {D : Ds} {α : Type} {c : Str} {fs : List (Str × Dt)} {f : α → Out} : R.out D (.ex c fs) f = .ex c fs D := rfl
@[simp] theorem out_ok {D : Ds} {α : Type} {a : α} {f : α → Out} : R.out D (.ok a) f = f a := rfl
theorem fw_new (s : RS K cl B H0 O σ D H) (e : Same H H') : Same (hid O H) (hid O H') := hid_mono e
@[simp] def xsAsg (i : Nat) (xe : XE) : XS := fun D => (xe D).out D fun d => .nx (D.set i (.sh d))
theorem ss_asg {i : Nat} {te : TE} {xe : XE} (h : Sim K cl E te xe) : SimS K cl E (tAsg te (gName i)) (xsAsg i xe) := fun B H0 O σ D H s En q => by
  unfold xsAsg at q
  refine h B H0 O σ D H s _ ?_
  cases e : xe D with
  | bad => rw [e] at q; exact q.elim
  | ex c fs => rw [e] at q; exact q O σ H s (Same.refl _)
  | ok d =>
    rw [e] at q
    exact fun v H1 e1 r => q O _ H1 ((s.mono e1).setSh i r) (hid_mono e1)
@[simp] def xsAsgL (i : Nat) (xl : XA) : XS := fun D => (xl D).out D fun l => .nx (D.set i (.ol l))
theorem ss_asgL {i : Nat} {te : TE} {xl : XA} (h : SimL K cl E te xl) : SimS K cl E (tAsg te (gName i)) (xsAsgL i xl) := fun B H0 O σ D H s En q => by
  unfold xsAsgL at q
  refine h B H0 O σ D H s _ ?_
  cases e : xl D with
  | bad => rw [e] at q; exact q.elim
  | ex c fs => rw [e] at q; exact q O σ H s (Same.refl _)
  | ok d =>
    rw [e] at q
    exact fun p vs H1 e1 n h1 r => q _ _ H1 (s.setOwn i e1 n ⟨vs, h1, r⟩ (by rw [h1]; rfl)) (hid_new e1 n)
@[simp] def xsRet (xe : XE) : XS := fun D => (xe D).out D fun d => .rt d
theorem hidB (s : RS K cl B H0 O σ D H) {v : V} {d : Dt} (r : Rep K cl (hid O H) v d) : Rep K cl (hid B H) v d := r.mono (hid_sub fun a m => (s.bas a m).1)
theorem ss_ret {te : TE} {xe : XE} (h : Sim K cl E te xe) : SimS K cl E (tRet te) (xsRet xe) := fun B H0 O σ D H s En q => by
  unfold xsRet at q
  refine h B H0 O σ D H s _ ?_
  cases e : xe D with
  | bad => rw [e] at q; exact q.elim
  | ex c fs => rw [e] at q; exact q O σ H s (Same.refl _)
  | ok d =>
    rw [e] at q
    exact fun v H1 e1 r => q v H1 (s.same.trans e1) (hidB (s.mono e1) r)
@[simp] def xsRetN : XS := fun D => .rt .non
theorem ss_retN : SimS K cl E tRetN xsRetN := fun B H0 O σ D H s En q => q _ H s.same .non
@[simp] def xsDrop (xe : XE) : XS := fun D => (xe D).out D fun _ => .nx D
theorem ss_drop {te : TE} {xe : XE} (h : Sim K cl E te xe) : SimS K cl E (tDrop te) (xsDrop xe) := fun B H0 O σ D H s En q => by
  unfold xsDrop at q
  refine h B H0 O σ D H s _ ?_
  cases e : xe D with
  | bad => rw [e] at q; exact q.elim
  | ex c fs => rw [e] at q; exact q O σ H s (Same.refl _)
  | ok d =>
    rw [e] at q
    exact fun v H1 e1 r => q O σ H1 (s.mono e1) (hid_mono e1)
@[simp] def xsIf (xt : XT) (xs ys : XS) : XS := fun D => (xt D).out D fun b => if b = true then xs D else ys D
theorem ss_if {tt : TT} {t u : TS} {xt : XT} {xs ys : XS} (ht : SimT K cl E tt xt) (h1 : SimS K cl E t xs) (h2 : SimS K cl E u ys) : SimS K cl E (tIfS tt t u) (xsIf xt xs ys) := fun B H0 O σ D H s En q => by
  unfold xsIf at q
  refine ht B H0 O σ D H s _ ?_
  cases e : xt D with
  | bad => rw [e] at q; exact q.elim
  | ex c fs => rw [e] at q; exact q O σ H s (Same.refl _)
  | ok b =>
    rw [e] at q
    intro H1 e1
    cases b with
    | true => exact h1 B H0 O σ D H1 (s.mono e1) En (PostS.fw (hid_mono e1) q)
    | false => exact h2 B H0 O σ D H1 (s.mono e1) En (PostS.fw (hid_mono e1) q)

def R.get {α : Type} : R α → (α → Out) → Out
  | .ok a, f => f a
  | _, _ => .bad
@[simp] theorem get_ok {α : Type} {a : α} {f : α → Out} : R.get (.ok a) f = f a := rfl
/-! ### a list of one's own is changed -/
theorem own_at (s : RS K cl B H0 O σ D H) {i : Nat} {t : Sl} (hi : D[i]? = some t) (ho : t.own = true) : ∃ a, σ[i]? = some (some (.ref a)) ∧ a ∈ O ∧ OwnAt K cl H (hid O H) a t := by
  obtain ⟨a, e, m, h⟩ := (s.slot i t hi).owned ho
  exact ⟨a, e, m.1, h⟩
def Sl.lst? : Option Sl → R (List Dt)
  | some (.ol l) => .ok l
  | _ => .bad
@[simp] theorem lst?_ol (l : List Dt) : Sl.lst? (some (.ol l)) = .ok l := rfl
theorem lst?_eq {o : Option Sl} {l : List Dt} (h : Sl.lst? o = .ok l) : o = some (.ol l) := by
  unfold Sl.lst? at h
  split at h
  · simp only [R.ok.injEq] at h; subst h; rfl
  · cases h
theorem lst?_ex {o : Option Sl} {c : Str} {fs : List (Str × Dt)} (h : Sl.lst? o = .ex c fs) : False := by
  unfold Sl.lst? at h
  split at h <;> cases h
/-- xs.m(e) -/
@[simp] def xsApp (i : Nat) (xe : XE) : XS := fun D => (Sl.lst? D[i]?).out D fun l => (xe D).out D fun d => if l.length < 1000000 then .nx (D.set i (.ol (l ++ [d]))) else .bad
theorem ss_app {i : Nat} {te : TE} {xe : XE} (h : Sim K cl E te xe) : SimS K cl E (tDrop (tBM K "list" rAppend (tVar i) (tCons te tNil))) (xsApp i xe) := fun B H0 O σ D H s En q => by
  unfold xsApp at q
  cases el : Sl.lst? D[i]? with
  | bad => rw [el] at q; exact q.elim
  | ex c fs => exact (lst?_ex el).elim
  | ok l =>
    rw [el] at q
    have hi := lst?_eq el
    obtain ⟨a, ea, ma, vs, ha, ra⟩ := own_at s hi rfl
    refine ⟨.ref a, ea, .inl ⟨rfl, vs, SqL.of ha⟩, ?_⟩
    refine h B H0 O σ D H s _ ?_
    cases e : xe D with
    | bad => rw [e] at q; exact q.elim
    | ex c fs => rw [e] at q; exact q O σ H s (Same.refl _)
    | ok d =>
      rw [e] at q
      simp only [out_ok] at q
      intro v H1 e1 rv
      split at q
      · rename_i hz
        refine ⟨a, vs, v, rfl, rfl, e1 _ _ ha, sz_lt (by rw [ra.len]; exact hz), ?_⟩
        refine q O σ _ ((s.mono e1).mut hi rfl ea ⟨_, upd_same, (ra.mono (hid_mono e1)).app (RepL.one rv)⟩) ?_
        rw [hid_upd ma]
        exact hid_mono e1
      · exact q.elim
def rInsert : V → List V → Hp → VK → Prop := fun x vs H Q => ∃ (l : Addr) (xs : List V) (i : Int) (y : V), x = .ref l ∧ vs = [.int i, y] ∧ H l = some (.lst xs) ∧ xs.length < sizeLine ∧ 0 ≤ i ∧ i < 2 ^ 63 ∧ Q .non (upd H l (.lst (xs.take i.toNat ++ [y] ++ xs.drop i.toNat)))
theorem mt_insertA {X : Cx} : MtM X "list.insert" rInsert := mt_insert
def insO (D : Ds) (i : Nat) (l : List Dt) (d : Dt) : Dt → Out
  | .int k => if l.length < 1000000 ∧ 0 ≤ k ∧ k < 2 ^ 63 then .nx (D.set i (.ol (l.take k.toNat ++ [d] ++ l.drop k.toNat))) else .bad
  | _ => .bad
@[simp] theorem insO_int (D : Ds) (i : Nat) (l : List Dt) (d : Dt) (k : Int) : insO D i l d (.int k) = if l.length < 1000000 ∧ 0 ≤ k ∧ k < 2 ^ 63 then .nx (D.set i (.ol (l.take k.toNat ++ [d] ++ l.drop k.toNat))) else .bad := rfl
@[simp] def xsIns (i : Nat) (xk xe : XE) : XS := fun D => (Sl.lst? D[i]?).out D fun l => (xk D).out D fun k => (xe D).out D fun d => insO D i l d k
theorem ss_ins {i : Nat} {tk te : TE} {xk xe : XE} (hk : Sim K cl E tk xk) (h : Sim K cl E te xe) : SimS K cl E (tDrop (tBM K "list" rInsert (tVar i) (tCons tk (tCons te tNil)))) (xsIns i xk xe) := fun B H0 O σ D H s En q => by
  unfold xsIns at q
  cases el : Sl.lst? D[i]? with
  | bad => rw [el] at q; exact q.elim
  | ex c fs => exact (lst?_ex el).elim
  | ok l =>
    rw [el] at q
    have hi := lst?_eq el
    obtain ⟨a, ea, ma, vs, ha, ra⟩ := own_at s hi rfl
    refine ⟨.ref a, ea, .inl ⟨rfl, vs, SqL.of ha⟩, ?_⟩
    refine hk B H0 O σ D H s _ ?_
    cases ek : xk D with
    | bad => rw [ek] at q; exact q.elim
    | ex c fs => rw [ek] at q; exact q O σ H s (Same.refl _)
    | ok k =>
      rw [ek] at q
      simp only [out_ok] at q
      intro w H1 e1 rw'
      refine h B H0 O σ D H1 (s.mono e1) _ ?_
      cases e : xe D with
      | bad => rw [e] at q; exact q.elim
      | ex c fs => rw [e] at q; exact q O σ H1 (s.mono e1) (hid_mono e1)
      | ok d =>
        rw [e] at q
        simp only [out_ok] at q
        intro v H2 e2 rv
        cases k with
        | int k =>
          cases rw'
          simp only [insO_int] at q
          split at q
          · rename_i hz
            have e12 := e1.trans e2
            refine ⟨a, vs, k, v, rfl, rfl, e12 _ _ ha, sz_lt (by rw [ra.len]; exact hz.1), hz.2.1, hz.2.2, ?_⟩
            have ra' := ra.mono (hid_mono (O := O) e12)
            refine q O σ _ ((s.mono e12).mut hi rfl ea ⟨_, upd_same, ((ra'.take _).app (RepL.one rv)).app (ra'.drop _)⟩) ?_
            rw [hid_upd ma]
            exact hid_mono e12
          · exact q.elim
        | _ => exact q.elim
/-- xs[k] = e -/
def setO (D : Ds) (i : Nat) (l : List Dt) (d : Dt) : Dt → Out
  | .int k => (opt (ixN l.length k)).get fun j => .nx (D.set i (.ol (l.set j d)))
  | _ => .bad
@[simp] theorem setO_int (D : Ds) (i : Nat) (l : List Dt) (d : Dt) (k : Int) : setO D i l d (.int k) = (opt (ixN l.length k)).get fun j => .nx (D.set i (.ol (l.set j d))) := rfl
@[simp] def xsSetL (i : Nat) (xk xe : XE) : XS := fun D => (xe D).out D fun d => (Sl.lst? D[i]?).out D fun l => (xk D).out D fun k => setO D i l d k
theorem ss_setL {i : Nat} {tk te : TE} {xk xe : XE} (hk : Sim K cl E tk xk) (h : Sim K cl E te xe) : SimS K cl E (tAsg te (gSub (tVar i) tk rSetL)) (xsSetL i xk xe) := fun B H0 O σ D H s En q => by
  unfold xsSetL at q
  refine h B H0 O σ D H s _ ?_
  cases e : xe D with
  | bad => rw [e] at q; exact q.elim
  | ex c fs => rw [e] at q; exact q O σ H s (Same.refl _)
  | ok d =>
    rw [e] at q
    simp only [out_ok] at q
    intro v H1 e1 rv
    cases el : Sl.lst? D[i]? with
    | bad => rw [el] at q; exact q.elim
    | ex c fs => exact (lst?_ex el).elim
    | ok l =>
      rw [el] at q
      simp only [out_ok] at q
      have hi := lst?_eq el
      obtain ⟨a, ea, ma, vs, ha, ra⟩ := own_at (s.mono e1) hi rfl
      refine ⟨.ref a, ea, ?_⟩
      refine hk B H0 O σ D H1 (s.mono e1) _ ?_
      cases ek : xk D with
      | bad => rw [ek] at q; exact q.elim
      | ex c fs => rw [ek] at q; exact q O σ H1 (s.mono e1) (hid_mono e1)
      | ok k =>
        rw [ek] at q
        simp only [out_ok] at q
        intro w H2 e2 rw'
        cases k with
        | int k =>
          cases rw'
          simp only [setO_int] at q
          cases ej : ixN l.length k with
          | none => rw [ej] at q; exact q.elim
          | some j =>
            rw [ej] at q
            simp only [opt_some, get_ok] at q
            refine ⟨a, vs, k, j, rfl, rfl, e2 _ _ ha, by rw [ra.len]; exact ej, ?_⟩
            refine q O σ _ ((s.mono (e1.trans e2)).mut hi rfl ea ⟨_, upd_same, RepL.set (rv.mono (hid_mono e2)) j (ra.mono (hid_mono e2))⟩) ?_
            rw [hid_upd ma]
            exact hid_mono (e1.trans e2)
        | _ => exact q.elim
/-- xs.m() -/
theorem ss_own0 {i : Nat} {r : V → List V → Hp → VK → Prop} {g : List Dt → R (List Dt)}
    (hr : ∀ (a : Addr) (H Hh : Hp) vs l, H a = some (.lst vs) → RepL K cl Hh vs l → ∀ l', g l = .ok l' → ∃ vs', RepL K cl Hh vs' l' ∧ ∀ Q : VK, (∀ v, Q v (upd H a (.lst vs'))) → r (.ref a) [] H Q) (hx : ∀ l c fs, g l ≠ .ex c fs) :
    SimS K cl E (tDrop (tBM0 K "list" r (tVar i))) (fun D => (Sl.lst? D[i]?).out D fun l => (g l).out D fun l' => .nx (D.set i (.ol l'))) := fun B H0 O σ D H s En q => by
  cases el : Sl.lst? D[i]? with
  | bad => simp only [el] at q; exact q.elim
  | ex c fs => exact (lst?_ex el).elim
  | ok l =>
    simp only [el, out_ok] at q
    have hi := lst?_eq el
    obtain ⟨a, ea, ma, vs, ha, ra⟩ := own_at s hi rfl
    cases eg : g l with
    | bad => rw [eg] at q; exact q.elim
    | ex c fs => exact (hx l c fs eg).elim
    | ok l' =>
      rw [eg] at q
      obtain ⟨vs', r', k⟩ := hr a H _ vs l ha ra l' eg
      refine ⟨.ref a, ea, .inl ⟨rfl, vs, SqL.of ha⟩, k _ fun v => q O σ _ (s.mut hi rfl ea ⟨_, upd_same, r'⟩) ?_⟩
      rw [hid_upd ma]
      exact Same.refl _
@[simp] def xsClear (i : Nat) : XS := fun D => (Sl.lst? D[i]?).out D fun l => (R.ok []).out D fun l' => .nx (D.set i (.ol l'))
theorem ss_clear {i : Nat} : SimS K cl E (tDrop (tBM0 K "list" rClear (tVar i))) (xsClear i) := ss_own0 (g := fun _ => .ok []) (fun a H Hh vs l ha ra l' e => by
  cases e; exact ⟨[], .nil, fun Q q => ⟨a, vs, rfl, rfl, ha, q _⟩⟩) fun l c fs => by simp
@[simp] def xsRev (i : Nat) : XS := fun D => (Sl.lst? D[i]?).out D fun l => (R.ok l.reverse).out D fun l' => .nx (D.set i (.ol l'))
theorem ss_rev {i : Nat} : SimS K cl E (tDrop (tBM0 K "list" rReverse (tVar i))) (xsRev i) := ss_own0 (g := fun l => .ok l.reverse) (fun a H Hh vs l ha ra l' e => by
  cases e; exact ⟨_, ra.rev, fun Q q => ⟨a, vs, rfl, rfl, ha, q _⟩⟩) fun l c fs => by simp

/-! ### targets -/
abbrev XG := Dt → Ds → R Ds
def SimG (K : Fr) (cl : Cl) (g : TG) (xg : XG) : Prop := ∀ B H0 O σ D H, RS K cl B H0 O σ D H → ∀ v d, Rep K cl (hid O H) v d → ∀ (Q : L2.St → Hp → Prop) D', xg d D = .ok D' → (∀ σ', RS K cl B H0 O σ' D' H → Q σ' H) → g v σ H Q
@[simp] def xgName (i : Nat) : XG := fun d D => .ok (D.set i (.sh d))
theorem sg_name {i : Nat} : SimG K cl (gName i) (xgName i) := fun B H0 O σ D H s v d r Q D' e q => by
  simp only [xgName, R.ok.injEq] at e
  subst e
  exact q _ (s.setSh i r)
def SimGs (K : Fr) (cl : Cl) (g : TGs) (xg : List Dt → Ds → R Ds) : Prop := ∀ B H0 O σ D H, RS K cl B H0 O σ D H → ∀ vs ds, RepL K cl (hid O H) vs ds → ∀ (Q : L2.St → Hp → Prop) D', xg ds D = .ok D' → (∀ σ', RS K cl B H0 O σ' D' H → Q σ' H) → g vs σ H Q
@[simp] def xgNil : List Dt → Ds → R Ds
  | [], D => .ok D
  | _ :: _, _ => .bad
@[simp] def xgCons (x : XG) (xs : List Dt → Ds → R Ds) : List Dt → Ds → R Ds
  | d :: r, D => (x d D).bind fun D1 => xs r D1
  | [], _ => .bad
theorem sgs_nil : SimGs K cl gNil xgNil := fun B H0 O σ D H s vs ds r Q D' e q => by
  cases r with
  | nil => simp only [xgNil, R.ok.injEq] at e; subst e; exact ⟨rfl, q σ s⟩
  | cons h r => cases e
theorem sgs_cons {g : TG} {gs : TGs} {x : XG} {xs : List Dt → Ds → R Ds} (h1 : SimG K cl g x) (h2 : SimGs K cl gs xs) : SimGs K cl (gCons g gs) (xgCons x xs) := fun B H0 O σ D H s vs ds r Q D' e q => by
  cases r with
  | nil => cases e
  | cons h r =>
    rename_i v d vs ds
    simp only [xgCons] at e
    cases e1 : x d D with
    | bad => rw [e1] at e; cases e
    | ex c fs => rw [e1] at e; cases e
    | ok D1 =>
      rw [e1] at e
      refine ⟨v, vs, rfl, h1 B H0 O σ D H s v d h _ D1 e1 fun σ1 s1 => ?_⟩
      exact h2 B H0 O σ1 D1 H s1 vs ds r Q D' e q
@[simp] def xgTup (n : Nat) (xs : List Dt → Ds → R Ds) : XG := fun d D => match d with
  | .tup l => if l.length = n then xs l D else .bad
  | _ => .bad
theorem sg_tup {n : Nat} {gs : TGs} {xs : List Dt → Ds → R Ds} (h : SimGs K cl gs xs) : SimG K cl (gTup K n gs) (xgTup n xs) := fun B H0 O σ D H s v d r Q D' e q => by
  unfold xgTup at e
  split at e
  · split at e
    · rename_i l hl
      cases r with
      | tup ha ra =>
        exact ⟨_, _, rfl, SqT.of (hid_same _ _ _ _ ha), by rw [ra.len]; exact hl, h B H0 O σ D H s _ _ ra Q D' e q⟩
    · cases e
  · cases e
/-- target = value, any target -/
@[simp] def xsAsgG (xg : XG) (xe : XE) : XS := fun D => (xe D).out D fun d => (xg d D).get fun D' => .nx D'
theorem ss_asgG {g : TG} {xg : XG} {te : TE} {xe : XE} (hg : SimG K cl g xg) (h : Sim K cl E te xe) : SimS K cl E (tAsg te g) (xsAsgG xg xe) := fun B H0 O σ D H s En q => by
  unfold xsAsgG at q
  refine h B H0 O σ D H s _ ?_
  cases e : xe D with
  | bad => rw [e] at q; exact q.elim
  | ex c fs => rw [e] at q; exact q O σ H s (Same.refl _)
  | ok d =>
    rw [e] at q
    intro v H1 e1 r
    simp only [out_ok] at q
    cases eg : xg d D with
    | bad => rw [eg] at q; exact q.elim
    | ex c fs => rw [eg] at q; exact q.elim
    | ok D' =>
      rw [eg] at q
      simp only [get_ok] at q
      exact hg B H0 O σ D H1 (s.mono e1) v d r _ D' eg fun σ' s' => q O σ' H1 s' (hid_mono e1)

/-! ### what is walked -/
/-- the iterator J gives the items l, as long as what is visible now stays so -/
def Goes (K : Fr) (cl : Cl) (J : It) (l : List Dt) (O : List Addr) (H H0 : Hp) : Prop := ∀ (i : Nat) O' H', Same H0 H' → Same (hid O H) (hid O' H') → Trk O' H' →
  (∀ d, l[i]? = some d → J.go i H' ∧ ∀ x H2, J.yld i H' x H2 → Same H' H2 ∧ Rep K cl (hid O' H2) x d) ∧ (i = l.length → J.stop i H')
def SimI (K : Fr) (cl : Cl) (E : L2.St → XK) (wi : TI) (xi : XA) : Prop := ∀ B H0 O σ D H, RS K cl B H0 O σ D H → ∀ R : It → Hp → Prop, (match xi D with
  | .bad => False
  | .ex c fs => ExOk K cl (E σ) O c fs H
  | .ok l => ∀ J H1, Same H H1 → Goes K cl J l O H1 H0 → R J H1) → wi σ H R
theorem rep_at {vs : List V} {ds : List Dt} (r : RepL K cl H vs ds) {i : Nat} {d : Dt} {v : V} (hd : ds[i]? = some d) (hv : vs[i]? = some v) : Rep K cl H v d := by
  obtain ⟨w, e, h⟩ := r.get hd
  rw [hv] at e
  cases e
  exact h
/-- over a list or a tuple -/
def dItems : Dt → R (List Dt)
  | .lst l => .ok l
  | .frl l => .ok l
  | _ => .bad
@[simp] theorem dItems_lst (l : List Dt) : dItems (.lst l) = .ok l := rfl
@[simp] theorem dItems_frl (l : List Dt) : dItems (.frl l) = .ok l := rfl
@[simp] def xItems (xe : XE) : XA := fun D => (xe D).bind dItems
def dItemsT : Dt → R (List Dt)
  | .tup l => .ok l
  | _ => .bad
@[simp] theorem dItemsT_tup (l : List Dt) : dItemsT (.tup l) = .ok l := rfl
@[simp] def xItemsT (xe : XE) : XA := fun D => (xe D).bind dItemsT
theorem goes_list {a : Addr} {vs : List V} {ds : List Dt} (h : SqL K (hid O H) a vs) (r : RepL K cl (hid O H) vs ds) : Goes K cl (Itl K a) ds O H H0 := fun i O' H' _ e t => by
  have h' : SqL K H' a vs := (hid_same O' H').seq (e.seq h)
  refine ⟨fun d hd => ?_, fun hi => ⟨vs, h', by rw [r.len, hi]; exact Nat.le_refl _⟩⟩
  obtain ⟨v, hv, rv⟩ := r.get hd
  exact ⟨⟨vs, v, h', hv⟩, fun x H2 y => by
    obtain ⟨rfl, y⟩ := y
    have := y vs h'
    rw [hv] at this
    cases this
    exact ⟨Same.refl _, rv.mono e⟩⟩
theorem goes_tup {a : Addr} {vs : List V} {ds : List Dt} (h : SqT K (hid O H) a vs) (hm : ∀ H H' : Hp, Same H H' → SqT K H a vs → SqT K H' a vs) (r : RepL K cl (hid O H) vs ds) : Goes K cl (Itt K a) ds O H H0 := fun i O' H' _ e t => by
  have h' : SqT K H' a vs := hm _ _ (hid_same O' H') (hm _ _ e h)
  refine ⟨fun d hd => ?_, fun hi => ⟨vs, h', by rw [r.len, hi]; exact Nat.le_refl _⟩⟩
  obtain ⟨v, hv, rv⟩ := r.get hd
  exact ⟨⟨vs, v, h', hv⟩, fun x H2 y => by
    obtain ⟨rfl, y⟩ := y
    have := y vs h'
    rw [hv] at this
    cases this
    exact ⟨Same.refl _, rv.mono e⟩⟩
theorem si_list {te : TE} {xe : XE} (h : Sim K cl E te xe) : SimI K cl E (iList K te) (xItems xe) := fun B H0 O σ D H s Rk q => by
  unfold xItems at q
  refine h B H0 O σ D H s _ ?_
  cases e : xe D with
  | bad => rw [e] at q; exact q.elim
  | ex c fs => rw [e] at q; exact q
  | ok d =>
    rw [e] at q
    intro v H1 e1 r
    cases d with
    | lst l =>
      cases r with
      | lst ha ra => exact ⟨_, rfl, ⟨_, SqL.of (hid_same _ _ _ _ ha)⟩, q _ H1 e1 (goes_list (SqL.of ha) ra)⟩
    | frl l =>
      cases r with
      | frl ha ra => exact ⟨_, rfl, ⟨_, (hid_same _ _).seq ha⟩, q _ H1 e1 (goes_list ha ra)⟩
    | _ => exact q.elim
theorem sqt_of_mono {a : Addr} {vs : List V} : ∀ H H' : Hp, Same H H' → H a = some (.tup vs) → SqT K H' a vs := fun H H' e h => SqT.of (e _ _ h)
theorem si_tup {te : TE} {xe : XE} (h : Sim K cl E te xe) : SimI K cl E (iTup K te) (xItemsT xe) := fun B H0 O σ D H s Rk q => by
  unfold xItemsT at q
  refine h B H0 O σ D H s _ ?_
  cases e : xe D with
  | bad => rw [e] at q; exact q.elim
  | ex c fs => rw [e] at q; exact q
  | ok d =>
    rw [e] at q
    intro v H1 e1 r
    cases d with
    | tup l =>
      cases r with
      | @tup a vs _ ha ra =>
        refine ⟨_, rfl, ⟨_, SqT.of (hid_same _ _ _ _ ha)⟩, q _ H1 e1 fun i O' H' _ e t => ?_⟩
        have h' : SqT K H' a vs := SqT.of (hid_same O' H' _ _ (e _ _ ha))
        refine ⟨fun d hd => ?_, fun hi => ⟨vs, h', by rw [ra.len, hi]; exact Nat.le_refl _⟩⟩
        obtain ⟨v, hv, rv⟩ := ra.get hd
        exact ⟨⟨vs, v, h', hv⟩, fun x H2 y => by
          obtain ⟨rfl, y⟩ := y
          have := y vs h'
          rw [hv] at this
          cases this
          exact ⟨Same.refl _, rv.mono e⟩⟩
    | _ => exact q.elim
/-- over range(n), range(a, b) -/
def rgD (lo : Int) (n : Nat) : List Dt := (List.range n).map fun i => .int (lo + (i : Nat))
theorem goes_rng {lo : Int} {n : Nat} : Goes K cl (Itr lo n) (rgD lo n) O H H0 := fun i O' H' _ e t => by
  refine ⟨fun d hd => ?_, fun hi => ?_⟩
  · unfold rgD at hd
    rw [List.getElem?_map] at hd
    obtain ⟨j, hj, rfl⟩ := Option.map_eq_some_iff.mp hd
    obtain ⟨hl, e2⟩ := List.getElem?_eq_some_iff.mp hj
    rw [List.getElem_range] at e2
    subst e2
    exact ⟨by show i < n; simpa using hl, fun x H2 y => by
      obtain ⟨rfl, rfl⟩ := y
      exact ⟨Same.refl _, .int _⟩⟩
  · show n ≤ i
    rw [hi]; unfold rgD; simp
def dRng1 : List Dt → R (List Dt)
  | [.int j] => if -(2 ^ 62) ≤ j ∧ j < 2 ^ 62 then .ok (rgD 0 j.toNat) else .bad
  | _ => .bad
theorem dRng1_int {j : Int} (h : -(2 ^ 62) ≤ j ∧ j < 2 ^ 62) : dRng1 [.int j] = .ok (rgD 0 j.toNat) := if_pos h
@[simp] def xRng1 (xa : XA) : XA := fun D => (xa D).bind dRng1
theorem RepL.one_ {vs : List V} {d : Dt} (h : RepL K cl H vs [d]) : ∃ v, vs = [v] ∧ Rep K cl H v d := by
  cases h with
  | cons a b => cases b; exact ⟨_, rfl, a⟩
theorem RepL.two_ {vs : List V} {d e : Dt} (h : RepL K cl H vs [d, e]) : ∃ v w, vs = [v, w] ∧ Rep K cl H v d ∧ Rep K cl H w e := by
  cases h with
  | cons a b => cases b with | cons b c => cases c; exact ⟨_, _, rfl, a, b⟩
theorem si_rng1 {ta : TA} {xa : XA} (h : SimA K cl E ta xa) : SimI K cl E (iRng1 ta) (xRng1 xa) := fun B H0 O σ D H s Rk q => by
  unfold xRng1 at q
  refine h B H0 O σ D H s _ ?_
  cases e : xa D with
  | bad => rw [e] at q; exact q.elim
  | ex c fs => rw [e] at q; exact q
  | ok ds =>
    rw [e] at q
    intro vs H1 e1 r
    match ds, r, q with
    | [.int j], r, q =>
      by_cases hb : -(2 ^ 62) ≤ j ∧ j < 2 ^ 62
      · simp only [bind_ok, dRng1_int hb] at q
        obtain ⟨v, rfl, rv⟩ := r.one_
        cases rv
        exact ⟨j, rfl, hb.1, hb.2, q _ H1 e1 goes_rng⟩
      · simp only [bind_ok, dRng1, if_neg hb] at q
    | [], r, q => exact q.elim
    | .non :: l, r, q => cases l <;> exact q.elim
    | .bl _ :: l, r, q => cases l <;> exact q.elim
    | .str _ :: l, r, q => cases l <;> exact q.elim
    | .ty _ :: l, r, q => cases l <;> exact q.elim
    | .tup _ :: l, r, q => cases l <;> exact q.elim
    | .lst _ :: l, r, q => cases l <;> exact q.elim
    | .frl _ :: l, r, q => cases l <;> exact q.elim
    | .ins _ _ :: l, r, q => cases l <;> exact q.elim
    | .dk _ :: l, r, q => cases l <;> exact q.elim
    | .dt _ :: l, r, q => cases l <;> exact q.elim
    | .int _ :: _ :: _, r, q => exact q.elim
def ints2 : List Dt → Option (Int × Int)
  | [.int i, .int j] => some (i, j)
  | _ => none
theorem ints2_eq {l : List Dt} {p : Int × Int} (h : ints2 l = some p) : l = [.int p.1, .int p.2] := by
  unfold ints2 at h
  split at h
  · cases h; rfl
  · cases h
@[simp] def xRng2 (xa : XA) : XA := fun D => (xa D).bind fun l => (opt (ints2 l)).bind fun p => if (-(2 ^ 62) ≤ p.1 ∧ p.1 < 2 ^ 62) ∧ -(2 ^ 62) ≤ p.2 ∧ p.2 < 2 ^ 62 then .ok (rgD p.1 (p.2 - p.1).toNat) else .bad
theorem si_rng2 {ta : TA} {xa : XA} (h : SimA K cl E ta xa) : SimI K cl E (iRng2 ta) (xRng2 xa) := fun B H0 O σ D H s Rk q => by
  unfold xRng2 at q
  refine h B H0 O σ D H s _ ?_
  cases e : xa D with
  | bad => rw [e] at q; exact q.elim
  | ex c fs => rw [e] at q; exact q
  | ok ds =>
    rw [e] at q
    intro vs H1 e1 r
    simp only [R.bind] at q
    cases e2 : ints2 ds with
    | none => rw [e2] at q; exact q.elim
    | some p =>
      rw [e2] at q
      have := ints2_eq e2
      subst this
      simp only [opt_some, R.bind] at q
      by_cases hb : (-(2 ^ 62) ≤ p.1 ∧ p.1 < 2 ^ 62) ∧ -(2 ^ 62) ≤ p.2 ∧ p.2 < 2 ^ 62
      · rw [if_pos hb] at q
        obtain ⟨v, w, rfl, rv, rw'⟩ := r.two_
        cases rv; cases rw'
        exact ⟨_, _, rfl, ⟨hb.1.1, hb.1.2, hb.2.1, hb.2.2⟩, q _ H1 e1 goes_rng⟩
      · rw [if_neg hb] at q
        exact q.elim
/-- over a text -/
def sgD (x : Str) : List Dt := x.cps.toList.map fun c => .str ⟨#[c]⟩
def dSigns : Dt → R (List Dt)
  | .str x => .ok (sgD x)
  | _ => .bad
@[simp] theorem dSigns_str (x : Str) : dSigns (.str x) = .ok (sgD x) := rfl
@[simp] def xSigns (xe : XE) : XA := fun D => (xe D).bind dSigns
theorem si_str {te : TE} {xe : XE} (h : Sim K cl E te xe) : SimI K cl E (iStr te) (xSigns xe) := fun B H0 O σ D H s Rk q => by
  unfold xSigns at q
  refine h B H0 O σ D H s _ ?_
  cases e : xe D with
  | bad => rw [e] at q; exact q.elim
  | ex c fs => rw [e] at q; exact q
  | ok d =>
    rw [e] at q
    intro v H1 e1 r
    cases d with
    | str x =>
      cases r
      refine ⟨x, rfl, q _ H1 e1 fun i O' H' _ e t => ⟨fun d hd => ?_, fun hi => ?_⟩⟩
      · unfold sgD at hd
        rw [List.getElem?_map] at hd
        obtain ⟨c, hc, rfl⟩ := Option.map_eq_some_iff.mp hd
        obtain ⟨hl, _⟩ := List.getElem?_eq_some_iff.mp hc
        exact ⟨by show i < x.cps.size; simpa using hl, fun y H2 z => by
          obtain ⟨rfl, c', h1, rfl⟩ := z
          rw [← Array.getElem?_toList, hc] at h1
          cases h1
          exact ⟨Same.refl _, .str _⟩⟩
      · show x.cps.size ≤ i
        rw [hi]; unfold sgD; simp
    | _ => exact q.elim

/-! ### loops -/
def xLoop (xg : XG) (xb : XS) : List Dt → Ds → Out
  | [], D => .nx D
  | d :: r, D => (xg d D).get fun D1 => match xb D1 with
    | .nx D2 => xLoop xg xb r D2
    | .ct D2 => xLoop xg xb r D2
    | .bk D2 => .nx D2
    | o => o
@[simp] def xsFor (xi : XA) (xg : XG) (xb : XS) : XS := fun D => (xi D).out D fun l => xLoop xg xb l D
theorem ss_for {wi : TI} {g : TG} {tb : TS} {xi : XA} {xg : XG} {xb : XS} (hi : SimI K cl E wi xi) (hg : SimG K cl g xg) (hb : SimS K cl E tb xb) : SimS K cl E (tFor wi g tb) (xsFor xi xg xb) := fun B H0 O σ D H s En q => by
  unfold xsFor at q
  refine hi B H0 O σ D H s _ ?_
  cases e : xi D with
  | bad => rw [e] at q; exact q.elim
  | ex c fs => rw [e] at q; exact q O σ H s (Same.refl _)
  | ok l =>
    rw [e] at q
    intro J H1 e1 go
    refine ⟨fun i m σ' H' => m = l.length - i ∧ i ≤ l.length ∧ ∃ O' D', RS K cl B H0 O' σ' D' H' ∧ Same (hid O H1) (hid O' H') ∧ PostS K cl B H0 E En O' H' (xLoop xg xb (l.drop i) D'),
      ⟨l.length, rfl, Nat.zero_le _, O, D, s.mono e1, Same.refl _, PostS.fw (hid_mono e1) q⟩, ?_⟩
    rintro i m σ' H' ⟨rfl, hle, O', D', s', f', q'⟩
    have g' := go i O' H' s'.same f' s'.trk
    by_cases hlt : i < l.length
    · refine .inr ⟨(g'.1 _ (List.getElem?_eq_getElem hlt)).1, fun σ2 H2 => ∃ O2 D2, RS K cl B H0 O2 σ2 D2 H2 ∧ Same (hid O H1) (hid O2 H2) ∧ PostS K cl B H0 E En O2 H2 (xLoop xg xb (l.drop (i + 1)) D2), ?_, ?_⟩
      · rintro σ2 H2 ⟨O2, D2, a, b, c⟩
        exact ⟨_, by omega, rfl, hlt, O2, D2, a, b, c⟩
      · intro x H2 y
        obtain ⟨e2, rx⟩ := (g'.1 _ (List.getElem?_eq_getElem hlt)).2 x H2 y
        have hd : l.drop i = l[i] :: l.drop (i + 1) := List.drop_eq_getElem_cons hlt
        rw [hd] at q'
        unfold xLoop at q'
        cases eg : xg l[i] D' with
        | bad => rw [eg] at q'; exact q'.elim
        | ex c fs => rw [eg] at q'; exact q'.elim
        | ok D1 =>
          rw [eg] at q'
          simp only [get_ok] at q'
          refine hg B H0 O' σ' D' H2 (s'.mono e2) x _ rx _ D1 eg fun σ3 s3 => ?_
          have f3 : Same (hid O' H') (hid O' H2) := hid_mono e2
          refine hb B H0 O' σ3 D1 H2 s3 _ ?_
          cases eb : xb D1 with
          | bad => rw [eb] at q'; exact q'
          | nx D2 =>
            rw [eb] at q'
            exact fun O4 σ4 H4 s4 f4 => ⟨O4, D2, s4, (f'.trans f3).trans f4, PostS.fw (f3.trans f4) q'⟩
          | ct D2 =>
            rw [eb] at q'
            exact fun O4 σ4 H4 s4 f4 => ⟨O4, D2, s4, (f'.trans f3).trans f4, PostS.fw (f3.trans f4) q'⟩
          | bk D2 =>
            rw [eb] at q'
            exact fun O4 σ4 H4 s4 f4 => q' O4 σ4 H4 s4 (f3.trans f4)
          | rt d => rw [eb] at q'; exact q'
          | ex c fs D2 =>
            rw [eb] at q'
            exact fun O4 σ4 H4 s4 f4 => q' O4 σ4 H4 s4 (f3.trans f4)
    · have hi' : i = l.length := by omega
      refine .inl ⟨g'.2 hi', ?_⟩
      rw [hi', List.drop_length] at q'
      exact q' O' σ' H' s' (Same.refl _)
def xWh (xt : XT) (xb : XS) : Nat → Ds → Out
  | 0, _ => .bad
  | n + 1, D => (xt D).out D fun b => if b = true then (match xb D with
    | .nx D2 => xWh xt xb n D2
    | .ct D2 => xWh xt xb n D2
    | .bk D2 => .nx D2
    | o => o) else .nx D
theorem ss_while {tt : TT} {tb : TS} {xt : XT} {xb : XS} (n : Nat) (ht : SimT K cl E tt xt) (hb : SimS K cl E tb xb) : SimS K cl E (tWhile tt tb) (xWh xt xb n) := fun B H0 O σ D H s En q => by
  refine ⟨fun m σ' H' => ∃ O' D', RS K cl B H0 O' σ' D' H' ∧ PostS K cl B H0 E En O' H' (xWh xt xb m D'), ⟨n, O, D, s, q⟩, ?_⟩
  rintro m σ' H' ⟨O', D', s', q'⟩
  cases m with
  | zero => exact q'.elim
  | succ m =>
    unfold xWh at q'
    refine ht B H0 O' σ' D' H' s' _ ?_
    cases e : xt D' with
    | bad => rw [e] at q'; exact q'.elim
    | ex c fs => rw [e] at q'; exact q' O' σ' H' s' (Same.refl _)
    | ok b =>
      rw [e] at q'
      intro H1 e1
      simp only [out_ok] at q'
      cases b with
      | false => exact q' O' σ' H1 (s'.mono e1) (hid_mono e1)
      | true =>
        rw [if_pos rfl] at q' ⊢
        refine ⟨fun σ2 H2 => ∃ O2 D2, RS K cl B H0 O2 σ2 D2 H2 ∧ PostS K cl B H0 E En O2 H2 (xWh xt xb m D2), fun σ2 H2 ⟨O2, D2, a, c⟩ => ⟨m, Nat.lt_succ_self m, O2, D2, a, c⟩, ?_⟩
        refine hb B H0 O' σ' D' H1 (s'.mono e1) _ ?_
        have f1 : Same (hid O' H') (hid O' H1) := hid_mono e1
        cases eb : xb D' with
        | bad => rw [eb] at q'; exact q'
        | nx D2 => rw [eb] at q'; exact fun O4 σ4 H4 s4 f4 => ⟨O4, D2, s4, PostS.fw (f1.trans f4) q'⟩
        | ct D2 => rw [eb] at q'; exact fun O4 σ4 H4 s4 f4 => ⟨O4, D2, s4, PostS.fw (f1.trans f4) q'⟩
        | bk D2 => rw [eb] at q'; exact fun O4 σ4 H4 s4 f4 => q' O4 σ4 H4 s4 (f1.trans f4)
        | rt d => rw [eb] at q'; exact q'
        | ex c fs D2 => rw [eb] at q'; exact fun O4 σ4 H4 s4 f4 => q' O4 σ4 H4 s4 (f1.trans f4)
end
end Mx
namespace Mx
open PySem PySem.Spec PyProof.Rows L2

section
variable {K : Fr} {cl : Cl} {E : L2.St → XK} {H H' H1 H0 : Hp} {O O' : List Addr} {σ : L2.St} {D : Ds} {B : List Addr}
/-! ### comprehensions -/
def wipeD (D : Ds) : List Nat → Ds
  | [] => D
  | v :: vs => (wipeD D vs).set v .no
theorem RS.wipe (s : RS K cl B H0 O σ D H) : ∀ vs : List Nat, RS K cl B H0 O (L2.wipe σ vs) (wipeD D vs) H
  | [] => s
  | v :: vs => (s.wipe vs).setNo v none
theorem wipe_get (σ : L2.St) : ∀ (vs : List Nat) (j : Nat), (L2.wipe σ vs)[j]? = if j ∈ vs then σ[j]?.map (fun _ => none) else σ[j]?
  | [], j => by simp [L2.wipe]
  | v :: vs, j => by
    unfold L2.wipe
    rw [List.getElem?_set, wipe_get σ vs j]
    by_cases e : v = j
    · subst e
      rw [if_pos rfl, if_pos List.mem_cons_self]
      by_cases hl : v < (L2.wipe σ vs).length
      · rw [if_pos hl]
        rw [L2.wipe_length] at hl
        rw [List.getElem?_eq_getElem hl]; rfl
      · rw [if_neg hl]
        rw [L2.wipe_length] at hl
        rw [List.getElem?_eq_none (by omega)]; rfl
    · rw [if_neg e]
      by_cases hm : j ∈ vs
      · rw [if_pos hm, if_pos (List.mem_cons_of_mem _ hm)]
      · rw [if_neg hm, if_neg (fun z => (List.mem_cons.mp z).elim (fun z => e z.symm) hm)]
theorem wipe_idem (σ : L2.St) (vs : List Nat) : L2.wipe (L2.wipe σ vs) vs = L2.wipe σ vs := by
  apply List.ext_getElem?
  intro j
  rw [wipe_get, wipe_get]
  by_cases hm : j ∈ vs
  · rw [if_pos hm, if_pos hm]; cases σ[j]? <;> rfl
  · rw [if_neg hm, if_neg hm]
theorem wipe_set (σ : L2.St) (vs : List Nat) {i : Nat} {x : Option V} (h : i ∈ vs) : L2.wipe (σ.set i x) vs = L2.wipe σ vs := by
  apply List.ext_getElem?
  intro j
  rw [wipe_get, wipe_get]
  by_cases hm : j ∈ vs
  · rw [if_pos hm, if_pos hm, List.getElem?_set]
    by_cases e : i = j
    · subst e
      by_cases hl : i < σ.length
      · rw [if_pos rfl, if_pos hl, List.getElem?_eq_getElem hl]; rfl
      · rw [if_pos rfl, if_neg hl, List.getElem?_eq_none (by omega)]
    · rw [if_neg e]
  · rw [if_neg hm, if_neg hm, List.getElem?_set_ne (fun z : i = j => hm (z ▸ h))]
def SimGW (K : Fr) (cl : Cl) (vs : List Nat) (g : TG) (xg : XG) : Prop := ∀ B H0 O σ D H, RS K cl B H0 O σ D H → ∀ v d, Rep K cl (hid O H) v d → ∀ (Q : L2.St → Hp → Prop) D', xg d D = .ok D' → (∀ σ', RS K cl B H0 O σ' D' H → L2.wipe σ' vs = L2.wipe σ vs → Q σ' H) → g v σ H Q
theorem sgw_name {i : Nat} {vs : List Nat} (h : i ∈ vs) : SimGW K cl vs (gName i) (xgName i) := fun B H0 O σ D H s v d r Q D' e q => by
  simp only [xgName, R.ok.injEq] at e
  subst e
  exact q _ (s.setSh i r) (wipe_set σ vs h)
def SimGsW (K : Fr) (cl : Cl) (vs : List Nat) (g : TGs) (xg : List Dt → Ds → R Ds) : Prop := ∀ B H0 O σ D H, RS K cl B H0 O σ D H → ∀ ws ds, RepL K cl (hid O H) ws ds → ∀ (Q : L2.St → Hp → Prop) D', xg ds D = .ok D' → (∀ σ', RS K cl B H0 O σ' D' H → L2.wipe σ' vs = L2.wipe σ vs → Q σ' H) → g ws σ H Q
theorem sgsw_nil {vs : List Nat} : SimGsW K cl vs gNil xgNil := fun B H0 O σ D H s ws ds r Q D' e q => by
  cases r with
  | nil => simp only [xgNil, R.ok.injEq] at e; subst e; exact ⟨rfl, q σ s rfl⟩
  | cons h r => cases e
theorem sgsw_cons {vs : List Nat} {g : TG} {gs : TGs} {x : XG} {xs : List Dt → Ds → R Ds} (h1 : SimGW K cl vs g x) (h2 : SimGsW K cl vs gs xs) : SimGsW K cl vs (gCons g gs) (xgCons x xs) := fun B H0 O σ D H s ws ds r Q D' e q => by
  cases r with
  | nil => cases e
  | cons h r =>
    rename_i v d ws ds
    simp only [xgCons] at e
    cases e1 : x d D with
    | bad => rw [e1] at e; cases e
    | ex c fs => rw [e1] at e; cases e
    | ok D1 =>
      rw [e1] at e
      refine ⟨v, ws, rfl, h1 B H0 O σ D H s v d h _ D1 e1 fun σ1 s1 w1 => ?_⟩
      exact h2 B H0 O σ1 D1 H s1 ws ds r Q D' e fun σ' s' w' => q σ' s' (w'.trans w1)
theorem sgw_tup {vs : List Nat} {n : Nat} {gs : TGs} {xs : List Dt → Ds → R Ds} (h : SimGsW K cl vs gs xs) : SimGW K cl vs (gTup K n gs) (xgTup n xs) := fun B H0 O σ D H s v d r Q D' e q => by
  unfold xgTup at e
  split at e
  · split at e
    · rename_i l hl
      cases r with
      | tup ha ra => exact ⟨_, _, rfl, SqT.of (hid_same _ _ _ _ ha), by rw [ra.len]; exact hl, h B H0 O σ D H s _ _ ra Q D' e q⟩
    · cases e
  · cases e
def xComp (xg : XG) (xt : XT) (xe : XE) (D0 : Ds) : List Dt → List Dt → R (List Dt)
  | [], acc => .ok acc
  | d :: r, acc => match xg d D0 with
    | .ok D1 => match xt D1 with
      | .ok true => match xe D1 with
        | .ok y => if acc.length < 1000000 then xComp xg xt xe D0 r (acc ++ [y]) else .bad
        | _ => .bad
      | .ok false => xComp xg xt xe D0 r acc
      | _ => .bad
    | _ => .bad
@[simp] def xLc (xi : XA) (xg : XG) (xt : XT) (xe : XE) (vs : List Nat) : XA := fun D => (xi D).bind fun l => xComp xg xt xe (wipeD D vs) l []
theorem hid_cons {L : Addr} : hid (L :: O) H = hid O (hid [L] H) := by
  funext a
  unfold hid
  by_cases h : a ∈ O
  · rw [if_pos h, if_pos (List.mem_cons_of_mem _ h)]
  · rw [if_neg h]
    by_cases e : a = L
    · rw [if_pos (by rw [e]; exact List.mem_cons_self), if_pos (by rw [e]; exact List.mem_singleton.mpr rfl)]
    · rw [if_neg (fun z => (List.mem_cons.mp z).elim e h), if_neg (fun z => e (List.mem_singleton.mp z))]
theorem hid_self {L : Addr} : hid [L] H L = none := by unfold hid; rw [if_pos (List.mem_singleton.mpr rfl)]
theorem RS.addOwn {L : Addr} {acc : List V} {ds : List Dt} (s : RS K cl B H0 O σ D (hid [L] H)) (h : H L = some (.lst acc)) (r : RepL K cl (hid (L :: O) H) acc ds) : RS K cl B H0 (L :: O) σ D H := by
  have q := s.setOwn D.length (s := .ol ds) (hid_same [L] H) hid_self ⟨acc, h, r⟩ (by rw [h]; rfl)
  rw [List.set_eq_of_length_le (by rw [s.len]; exact Nat.le_refl _), List.set_eq_of_length_le (Nat.le_refl _)] at q
  exact q
@[simp] def xYes : XT := fun _ => .ok true
theorem st_yes : SimT K cl E tYes xYes := fun B H0 O σ D H s Q q => q H (Same.refl H)
theorem simL_lc {wi : TI} {g : TG} {tt : TT} {te : TE} {vs : List Nat} {xi : XA} {xg : XG} {xt : XT} {xe : XE} (hi : SimI K cl E wi xi) (hg : SimGW K cl vs g xg) (ht : SimT K cl (fun _ => E0) tt xt) (he : Sim K cl (fun _ => E0) te xe) :
    SimL K cl E (tLc wi g tt te vs) (xLc xi xg xt xe vs) := fun B H0 O σ D H s Q q => by
  unfold xLc at q
  refine hi B H0 O σ D H s _ ?_
  cases e : xi D with
  | bad => rw [e] at q; exact q.elim
  | ex c fs => rw [e] at q; exact q
  | ok l =>
    rw [e] at q
    simp only [Mx.R.bind] at q
    intro J H1 e1 go L nL
    cases ec : xComp xg xt xe (wipeD D vs) l [] with
    | bad => rw [ec] at q; exact q.elim
    | ex c fs =>
      exfalso
      have : ∀ (l acc : List Dt), xComp xg xt xe (wipeD D vs) l acc ≠ .ex c fs := by
        intro l
        induction l with
        | nil => intro acc h; cases h
        | cons d r ih =>
          intro acc h
          unfold xComp at h
          split at h
          · split at h
            · split at h
              · split at h
                · exact ih _ h
                · cases h
              · cases h
            · exact ih _ h
            · cases h
          · cases h
      exact this _ _ ec
    | ok res =>
      rw [ec] at q
      have s1 := (s.mono e1).wipe vs
      have hu : hid [L] (upd H1 L (.lst [])) = hid [L] H1 := hid_upd (List.mem_singleton.mpr rfl)
      have hH1 : hid [L] H1 = H1 := by
        funext a
        unfold hid
        split
        · rename_i h; rw [List.mem_singleton.mp h, nL]
        · rfl
      refine ⟨fun i m H2 => m = l.length - i ∧ i ≤ l.length ∧ ∃ acc ds, RS K cl B H0 O (L2.wipe σ vs) (wipeD D vs) (hid [L] H2) ∧ Same H1 H2 ∧ H2 L = some (.lst acc) ∧ RepL K cl (hid (L :: O) H2) acc ds ∧ xComp xg xt xe (wipeD D vs) (l.drop i) ds = .ok res,
        ⟨l.length, rfl, Nat.zero_le _, [], [], by rw [hu, hH1]; exact s1, same_upd nL, upd_same, .nil, ec⟩, ?_⟩
      rintro i m H2 ⟨rfl, hle, acc, ds, s2, f2, hL, ra, c2⟩
      have sO := s2.addOwn hL ra
      have fO : Same (hid O H1) (hid (L :: O) H2) := hid_new f2 nL
      have g' := go i (L :: O) H2 sO.same fO sO.trk
      by_cases hlt : i < l.length
      · have hd : l.drop i = l[i] :: l.drop (i + 1) := List.drop_eq_getElem_cons hlt
        rw [hd] at c2
        unfold xComp at c2
        refine .inr ⟨(g'.1 _ (List.getElem?_eq_getElem hlt)).1, fun H3 => ∃ acc ds, RS K cl B H0 O (L2.wipe σ vs) (wipeD D vs) (hid [L] H3) ∧ Same H1 H3 ∧ H3 L = some (.lst acc) ∧ RepL K cl (hid (L :: O) H3) acc ds ∧ xComp xg xt xe (wipeD D vs) (l.drop (i + 1)) ds = .ok res, ?_, ?_⟩
        · rintro H3 ⟨acc, ds, a, b, c, d, f⟩
          exact ⟨_, by omega, rfl, hlt, acc, ds, a, b, c, d, f⟩
        · intro x H3 y
          obtain ⟨e3, rx⟩ := (g'.1 _ (List.getElem?_eq_getElem hlt)).2 x H3 y
          cases eg : xg l[i] (wipeD D vs) with
          | bad => rw [eg] at c2; cases c2
          | ex c fs => rw [eg] at c2; cases c2
          | ok D1 =>
            rw [eg] at c2
            simp only at c2
            refine hg B H0 (L :: O) _ _ H3 (sO.mono e3) x _ rx _ D1 eg fun σ3 s3 w3 => ⟨by rw [w3, wipe_idem], ?_⟩
            refine ht B H0 (L :: O) σ3 D1 H3 s3 _ ?_
            cases et : xt D1 with
            | bad => rw [et] at c2; cases c2
            | ex c fs => rw [et] at c2; cases c2
            | ok b =>
              rw [et] at c2
              intro H4 e4
              cases b with
              | false =>
                simp only at c2
                have e34 := e3.trans e4
                exact ⟨acc, ds, s2.mono (hid_mono e34), f2.trans e34, e34 _ _ hL, ra.mono (hid_mono e34), c2⟩
              | true =>
                simp only at c2
                rw [if_pos rfl]
                refine he B H0 (L :: O) σ3 D1 H4 (s3.mono e4) _ ?_
                cases ee : xe D1 with
                | bad => rw [ee] at c2; cases c2
                | ex c fs => rw [ee] at c2; cases c2
                | ok y =>
                  rw [ee] at c2
                  simp only at c2
                  intro v H5 e5 ry
                  split at c2
                  · rename_i hz
                    have e345 := (e3.trans e4).trans e5
                    have hup : hid [L] (upd H5 L (.lst (acc ++ [v]))) = hid [L] H5 := hid_upd (List.mem_singleton.mpr rfl)
                    have hup2 : hid (L :: O) (upd H5 L (.lst (acc ++ [v]))) = hid (L :: O) H5 := hid_upd List.mem_cons_self
                    refine ⟨acc, e345 _ _ hL, sz_lt (by rw [ra.len]; exact hz), acc ++ [v], ds ++ [y], by rw [hup]; exact s2.mono (hid_mono e345), ?_, upd_same, by rw [hup2]; exact (ra.mono (hid_mono e345)).app (RepL.one ry), c2⟩
                    intro a o ha
                    rw [upd_ne (ne_of_none ha nL)]
                    exact e345 _ _ (f2 _ _ ha)
                  · cases c2
      · have hi' : i = l.length := by omega
        refine .inl ⟨g'.2 hi', ?_⟩
        rw [hi', List.drop_length] at c2
        simp only [xComp, R.ok.injEq] at c2
        subst c2
        exact q L acc H2 (e1.trans f2) (e1.free nL) hL ra

/-! ### calls -/
@[simp] def xCall (f : List Dt → R Dt) (xa : XA) : XE := fun D => (xa D).bind f
theorem simS_call {f : List Dt → R Dt} {ta : TA} {xa : XA} (ha : SimA K cl E ta xa) : Sim K cl E (tCallSD (PureSp K cl f) [] E ta) (xCall f xa) := fun B H0 O σ D H s Q q => by
  refine ha B H0 O σ D H s _ ?_
  cases ea : xa D with
  | bad => simp only [xCall, ea] at q; exact q.elim
  | ex c fs => simp only [xCall, ea] at q; exact q
  | ok ds =>
    simp only [xCall, ea] at q
    intro vs H1 e1 r
    exact ⟨O, ds, (s.mono e1).trk, by rw [List.append_nil]; exact r, post_E e1 q⟩

/-! ### a def -/
theorem rs_start {N : List Str} {vs : List V} {ds : List Dt} (hB : ∀ a, a ∈ B → MutO (H a) = true) (r : RepL K cl (hid B H) vs ds) (hl : vs.length ≤ N.length) :
    RS K cl B H B (start N vs) (ds.map Sl.sh ++ List.replicate (N.length - ds.length) .no) H where
  same := Same.refl H
  bas := fun a m => ⟨m, hB a m⟩
  own := fun a m => ⟨.inl m, hB a m⟩
  len := by simp [L2.start, r.len]
  slot := fun i s h => by
    by_cases hi : i < ds.length
    · rw [List.getElem?_append_left (by simpa using hi), List.getElem?_map] at h
      obtain ⟨d, hd, rfl⟩ := Option.map_eq_some_iff.mp h
      obtain ⟨v, hv, rv⟩ := r.get hd
      refine ⟨v, ?_, rv⟩
      unfold L2.start
      rw [List.getElem?_append_left (by rw [List.length_map, r.len]; exact hi), List.getElem?_map, hv]
      rfl
    · rw [List.getElem?_append_right (by simpa using hi)] at h
      have := List.eq_of_mem_replicate (List.mem_of_getElem? h)
      subst this
      trivial
  inj := fun i j s t a hij e1 e2 o1 o2 h1 => by
    have hs : ∀ (i : Nat) s, (ds.map Sl.sh ++ List.replicate (N.length - ds.length) Sl.no)[i]? = some s → s.own = false := fun i s h => by
      have m := List.mem_of_getElem? h
      rcases List.mem_append.mp m with m | m
      · obtain ⟨d, _, rfl⟩ := List.mem_map.mp m; rfl
      · have := List.eq_of_mem_replicate m; subst this; rfl
    rw [hs i s e1] at o1
    cases o1
  inn := Inn.none fun i t h => by
    have m := List.mem_of_getElem? h
    rcases List.mem_append.mp m with m | m
    · obtain ⟨d, _, e⟩ := List.mem_map.mp m; cases e
    · have := List.eq_of_mem_replicate m; cases this
/-- what a def's body gives for the arguments ds; n names in all -/
def runD (n : Nat) (xs : XS) (ds : List Dt) : R Dt := match xs (ds.map Sl.sh ++ List.replicate (n - ds.length) .no) with
  | .rt d => .ok d
  | .nx _ => .ok .non
  | .ex c fs _ => .ex c fs
  | _ => .bad
def funD (k n : Nat) (xs : XS) (ds : List Dt) : R Dt := if ds.length = k then runD n xs ds else .bad
theorem body_ok {N : List Str} {ts : TS} {xs : XS} {vs : List V} {H : Hp} {Q : VK} {E : XK} {k : Nat} (hs : SimS K cl (fun _ => E) ts xs) (hk : vs.length = k) (hN : k ≤ N.length)
    (h : PureSp K cl (funD k N.length xs) vs H Q E) : ts { nx := fun _ H' => Q .non H', rt := Q } (start N vs) H := by
  obtain ⟨B, ds, hB, r, q⟩ := h
  unfold funD at q
  rw [if_pos (by rw [← r.len]; exact hk)] at q
  refine hs B H B _ _ H (rs_start hB r (by omega)) _ ?_
  unfold runD at q
  cases e : xs (ds.map Sl.sh ++ List.replicate (N.length - ds.length) .no) with
  | bad => rw [e] at q; exact q.elim
  | nx D => rw [e] at q; exact fun O' σ' H' s f => q _ H' s.same .non
  | rt d => rw [e] at q; exact fun v H' e1 r => q v H' e1 r
  | bk D => rw [e] at q; exact q.elim
  | ct D => rw [e] at q; exact q.elim
  | ex c fs D => rw [e] at q; exact fun O' σ' H' s f => (ExOk.mono s.same q).sub fun a m => (s.bas a m).1
theorem PureSp.len {k n : Nat} {xs : XS} {vs : List V} {H : Hp} {Q : VK} {E : XK} (h : PureSp K cl (funD k n xs) vs H Q E) : vs.length = k := by
  obtain ⟨B, ds, hB, r, q⟩ := h
  unfold funD at q
  split at q
  · rename_i e; rw [r.len]; exact e
  · exact q.elim
end
end Mx
namespace Mx
open PySem PySem.Spec PyProof.Rows L2
theorem passB {X : Cx} (σ : L2.St) : PassesAt (L2.CX X.prog X.w) X σ E0 := fun _ _ _ _ _ _ c => by
  obtain ⟨_, _, _, _, _, _, _, _, _, _, _, _, z⟩ := c
  exact z.elim
section
variable {K : Fr} {cl : Cl} {E : L2.St → XK} {H H' H1 H0 : Hp} {O O' : List Addr} {σ : L2.St} {D : Ds} {B : List Addr}
/-- a slice of a text or of a list, as a shared value -/
def rSlA (K : Fr) : V → Option Int → Option Int → Hp → VK → Prop := fun x lo hi H Q => rSlS x lo hi H Q ∨ rSlL K x lo hi H Q
theorem sl_A {X : Cx} : SlR X (rSlA X.K) := SlR.or sl_str sl_list
def dSlA (a : Dt) (l h : Option Int) : R Dt := match a with
  | .str z => if z.length ≤ 1000000 then .ok (.str (cutS z l h)) else .bad
  | .lst z => .ok (.lst (cutD z l h))
  | .frl z => .ok (.lst (cutD z l h))
  | _ => .bad
@[simp] def xSlA (xe : XE) (xl xh : Ds → R (Option Int)) : XE := fun D => (xe D).bind fun a => (xl D).bind fun l => (xh D).bind fun h => dSlA a l h
theorem sim_slA {te : TE} {tl th : TO} {xe : XE} {xl xh : Ds → R (Option Int)} (he : SimB K cl E te xe) (hl : SimO K cl E tl xl) (hh : SimO K cl E th xh) : Sim K cl E (tSl (rSlA K) te tl th) (xSlA xe xl xh) := fun B H0 O σ D H s Q q => by
  unfold xSlA at q
  refine he B H0 O σ D H s _ ?_
  cases ea : xe D with
  | bad => rw [ea] at q; exact q.elim
  | ex c fs => rw [ea] at q; exact q
  | ok a =>
    rw [ea] at q
    intro x H1 e1 rx
    refine hl B H0 O σ D H1 (s.mono e1) _ ?_
    simp only [Mx.R.bind] at q
    cases el : xl D with
    | bad => rw [el] at q; exact q.elim
    | ex c fs => rw [el] at q; exact ExOk.mono e1 q
    | ok l =>
      rw [el] at q
      intro H2 e2
      refine hh B H0 O σ D H2 ((s.mono e1).mono e2) _ ?_
      simp only [Mx.R.bind] at q
      cases eh : xh D with
      | bad => rw [eh] at q; exact q.elim
      | ex c fs => rw [eh] at q; exact ExOk.mono (e1.trans e2) q
      | ok h =>
        rw [eh] at q
        intro H3 e3
        have e123 := (e1.trans e2).trans e3
        have t3 : Trk O H3 := (s.mono e123).trk
        have new : ∀ {vs : List V} {ds : List Dt} {p : Addr}, RepL K cl (hid O H3) vs ds → H3 p = none → Rep K cl (hid O (upd H3 p (.lst vs))) (.ref p) (.lst ds) := fun r n => .lst (hid_at (trk_nin t3 n)) (r.mono (hid_upd_new n))
        cases a with
        | str z =>
          cases rx.str_
          simp only [dSlA, Mx.R.bind] at q
          split at q
          · rename_i hz
            exact .inl ⟨z, rfl, sz_of hz, q _ H3 e123 (.str _)⟩
          · exact q.elim
        | lst z =>
          obtain ⟨p, vs, rfl, h1, r⟩ := rx.mono (e2.trans e3)
          exact .inr ⟨p, vs, rfl, SqL.of h1, fun p n => q _ _ (e123.trans (same_upd n)) (new (cut_rep r l h) n)⟩
        | frl z =>
          obtain ⟨p, vs, rfl, h1, r⟩ := rx.mono (e2.trans e3)
          exact .inr ⟨p, vs, rfl, h1, fun p n => q _ _ (e123.trans (same_upd n)) (new (cut_rep r l h) n)⟩
        | _ => exact q.elim
end
end Mx
namespace MxT
open PySem PyProof.Rows L2
/-- values that are these keys -/
abbrev KeysAre (vs : List Value) (ks : List Key) : Prop := Paired (fun u k => keyIs k u = true) vs ks
def keyLt : Key → Key → Bool
  | .inl i, .inl j => decide (i < j)
  | .inr x, .inr y => decide (x.cps.toList < y.cps.toList)
  | _, _ => false
def alike : Key → Key → Bool
  | .inl _, .inl _ => true
  | .inr _, .inr _ => true
  | _, _ => false
def lexK : List Key → List Key → Bool
  | [], [] => false
  | [], _ :: _ => true
  | _ :: _, [] => false
  | x :: xs, y :: ys => if x = y then lexK xs ys else keyLt x y
def alikeL : List Key → List Key → Bool
  | x :: xs, y :: ys => alike x y && alikeL xs ys
  | _, _ => true
theorem eqAt_key (A : Around) (s : Shared) {u v : Value} {a b : Key} (hu : keyIs a u = true) (hv : keyIs b v = true) : ∃ e, SeqAt.EqAt A s u v e ∧ (e = true ↔ a = b) := by
  rcases keyIs_shape hu with ⟨i, t, rfl, rfl⟩ | ⟨x, t, rfl, rfl⟩
  · rcases keyIs_shape hv with ⟨j, t', rfl, rfl⟩ | ⟨y, t', rfl, rfl⟩
    · exact ⟨_, SeqAt.EqAt.int_int i t j t', by simp⟩
    · exact ⟨_, SeqAt.EqAt.int_str i t y t', by simp⟩
  · rcases keyIs_shape hv with ⟨j, t', rfl, rfl⟩ | ⟨y, t', rfl, rfl⟩
    · exact ⟨_, SeqAt.EqAt.str_int x t j t', by simp⟩
    · exact ⟨_, SeqAt.EqAt.str_str x t y t', by simp⟩
theorem rcLt_key (A : Around) (s : Shared) {u v : Value} {a b : Key} (hu : keyIs a u = true) (hv : keyIs b v = true) (al : alike a b = true) (prog : Program) (w : World) (E : Value → Shared → Prop) (Q : Value → Shared → Prop) (h : Q (.bool (keyLt a b)) s) :
    wpAny (model prog w) A (richCompare .Lt u v) Q E s := by
  rcases keyIs_shape hu with ⟨i, t, rfl, rfl⟩ | ⟨x, t, rfl, rfl⟩
  · rcases keyIs_shape hv with ⟨j, t', rfl, rfl⟩ | ⟨y, t', rfl, rfl⟩
    · exact (PyProof.Rows.lt_int h : wpAny (model prog w) A (compareOp .Lt (.int i t) (.int j t')) Q E s)
    · cases al
  · rcases keyIs_shape hv with ⟨j, t', rfl, rfl⟩ | ⟨y, t', rfl, rfl⟩
    · cases al
    · exact (lt_str h : wpAny (model prog w) A (compareOp .Lt (.str x t) (.str y t')) Q E s)
section
open PySem.SeqAt
open PySem.AutoSeq1 (wpAny_loadPart')
open PySem.MeetsSeq PySem.MeetsSeq2 PySem.MeetsSeq3
theorem tuple_lt_keys (l b : Addr) (items items2 : Array Value) (n n2 : Nat) (dd dd2 : Option Addr) (sl sl2 : Array (Option Value)) (ns ms : List Key) (hi : KeysAre items.toList ns) (hj : KeysAre items2.toList ms) (al : alikeL ns ms = true) :
    Meets (Builtin.«tuple.__lt__» ⟨[.ref l, .ref b], []⟩)
      (fun _ R s => s.heap.get? l = some { cls := .type "tuple", dict := dd, data := .seq items n, slots := sl } ∧ s.heap.get? b = some { cls := .type "tuple", dict := dd2, data := .seq items2 n2, slots := sl2 } ∧
        R (.ok (.ret (.bool (lexK ns ms)))) s) :=
  .of_wp fun prog w A R s h => by
    obtain ⟨hp, g, d, tk, os⟩ := s; obtain ⟨hl, hb, h⟩ := h
    have f2 := AutoSeq1.sub_tuple_tuple
    have z1 : items.size = ns.length := by rw [← hi.length]; simp
    have z2 : items2.size = ms.length := by rw [← hj.length]; simp
    wp_walk using wpAny_loadPart' hl, wpAny_loadPart' hb, wpAny_forIn_list _ (fun rest b s' => b.1 = none ∧ s' = ⟨hp, g, d, tk, os⟩ ∧ ∃ (vs ws : List Value) (ns' ms' : List Key), rest = vs.zip ws ∧
      KeysAre vs ns' ∧ KeysAre ws ms' ∧ alikeL ns' ms' = true ∧ ns'.length + items2.size = ms'.length + items.size ∧ R (.ok (.ret (.bool (lexK ns' ms')))) ⟨hp, g, d, tk, os⟩) _
    case turn =>
      rintro ⟨y, x⟩ rest b s' ⟨hb', rfl, vs, ws, ns', ms', hz, hvi, hwi, hal, hlen, hR⟩
      cases hvi with
      | nil => rw [List.zip_nil_left] at hz; cases hz
      | @cons v a vs' ns'' ha hvi' =>
        cases hwi with
        | nil => rw [List.zip_nil_right] at hz; cases hz
        | @cons v2 c ws' ms'' hc hwi' =>
          rw [List.zip_cons_cons] at hz
          injection hz with hyx hrest
          injection hyx with hy hx
          subst hy hx
          simp only [alikeL, Bool.and_eq_true] at hal
          simp only [lexK] at hR
          simp only [List.length_cons] at hlen
          obtain ⟨e, he, hiff⟩ := eqAt_key A.in1 ⟨hp, g, d, tk, os⟩ ha hc
          refine wpAny_bind (he prog w _ _ ?_)
          cases e with
          | true =>
            rw [if_pos (hiff.mp rfl)] at hR
            wp_walk
            exact ⟨rfl, rfl, _, _, _, _, hrest, hvi', hwi', hal.2, by omega, hR⟩
          | false =>
            rw [if_neg (fun q => absurd (hiff.mpr q) Bool.false_ne_true)] at hR
            have hri := rcLt_key A.in1 ⟨hp, g, d, tk, os⟩ ha hc hal.1 prog w
            wp_walk using hri
            exact ⟨_, rfl, by simpa using hR⟩
    case fin =>
      rintro ⟨b1, b2⟩ s' ⟨hb', rfl, vs, ws, ns', ms', hz, hvi, hwi, hal, hlen, hR⟩
      simp only at hb'
      subst hb'
      have hv : lexK ns' ms' = decide (items.size < items2.size) := by
        cases hvi with
        | nil =>
          cases hwi with
          | nil =>
            simp only [List.length_nil] at hlen
            show false = _
            exact (decide_eq_false (by omega)).symm
          | cons u hw =>
            simp only [List.length_nil, List.length_cons] at hlen
            show true = _
            exact (decide_eq_true (by omega)).symm
        | cons t hv =>
          cases hwi with
          | nil =>
            simp only [List.length_nil, List.length_cons] at hlen
            show false = _
            exact (decide_eq_false (by omega)).symm
          | cons u hw =>
            rw [List.zip_cons_cons] at hz
            cases hz
      rw [hv] at hR
      wp_walk
      exact ⟨_, rfl, by simpa [Builtin.Tuple.tupleCompareSizes] using hR⟩
    case h =>
      exact ⟨rfl, rfl, items.toList, items2.toList, ns, ms, rfl, hi, hj, al, by omega, h⟩
end
section
variable {prog : Program} {w : World} {A : Around} {E : Value → Shared → Prop} {s : Shared}
theorem lt_tupKeys {l b : Addr} {items items2 : Array Value} {ns ms : List Key} {Q : Value → Shared → Prop} (hl : IsTup s.heap l items) (hb : IsTup s.heap b items2) (hi : KeysAre items.toList ns) (hj : KeysAre items2.toList ms) (al : alikeL ns ms = true)
    (hu : A.units < cLine) (h : Q (.bool (lexK ns ms)) s) : wpAny (model prog w) A (compareOp .Lt (.ref l) (.ref b)) Q E s := by
  obtain ⟨⟨cls, dd, data, sl⟩, ho, hc, n, hd⟩ := id hl
  obtain ⟨⟨cls2, dd2, data2, sl2⟩, ho2, hc2, n2, hd2⟩ := id hb
  simp only at hc hd hc2 hd2
  subst hc hd hc2 hd2
  exact richCompare_meets_room (op := .Lt) ⟨_, ho, rfl⟩ ⟨_, ho2, rfl⟩ PySem.F.slot_tuple_lt PySem.F.entry_tuple_lt (PySem.F.args_tuple_lt_2 _ _) (tuple_lt_keys l b items items2 n n2 dd dd2 sl sl2 ns ms hi hj al)
    ⟨ho, ho2, show Value.bool (lexK ns ms) ≠ Value.notImplemented ∧ Q (.bool (lexK ns ms)) s from ⟨(fun x => nomatch x), h⟩⟩ hu
end
end MxT
namespace Mx
open PySem PySem.Spec PyProof.Rows L2
theorem keysAre_of : ∀ {ks : List Key} {us : List Value}, Vals (ks.map kV) us → MxT.KeysAre us ks
  | [], _, .nil => .nil
  | .inl i :: ks, _, .cons r t => by
    obtain ⟨tk, rfl⟩ := r
    exact .cons (keyIs_int i tk) (keysAre_of t)
  | .inr x :: ks, _, .cons r t => by
    obtain ⟨tk, rfl⟩ := r
    exact .cons (keyIs_str x tk) (keysAre_of t)
def rLtK (K : PySem.W.Frag) : R2 := fun x y H Q => ∃ (a b : Addr) (ns ms : List Key), x = .ref a ∧ y = .ref b ∧ SqT K H a (ns.map kV) ∧ SqT K H b (ms.map kV) ∧ MxT.alikeL ns ms = true ∧ Q (.bl (MxT.lexK ns ms)) H
theorem op_ltK {X : Cx} (hu : X.A.units < cLine) : OpR X (compareOp .Lt) (rLtK X.K) := by
  intro pins s σ H x y v u Q I rx ry h
  obtain ⟨a, b, ns, ms, rfl, rfl, ha, hb, al, q⟩ := h
  cases rx
  cases ry
  obtain ⟨its, r1, p1, _⟩ := I.tuple ha
  obtain ⟨its2, r2, p2, _⟩ := I.tuple hb
  exact MxT.lt_tupKeys p1 p2 (keysAre_of r1) (keysAre_of r2) al hu ⟨.bl (MxT.lexK ns ms), H, I, rfl, q⟩
def keyOf : Dt → Option Key
  | .int i => some (.inl i)
  | .str x => some (.inr x)
  | _ => none
def keysOf : List Dt → Option (List Key)
  | [] => some []
  | d :: l => (keyOf d).bind fun k => (keysOf l).map fun r => k :: r
def keyD : Key → Dt
  | .inl i => .int i
  | .inr x => .str x
section
variable {K : Fr} {cl : Cl} {E : L2.St → XK} {H H' H1 H0 : Hp} {O O' : List Addr} {σ : L2.St} {D : Ds} {B : List Addr}
theorem keyOf_rep {v : V} {d : Dt} {k : Key} (h : Rep K cl H v d) (e : keyOf d = some k) : v = kV k := by
  cases h <;> simp only [keyOf] at e <;> cases e <;> rfl
theorem keysOf_rep : ∀ {vs : List V} {ds : List Dt} {ks : List Key}, RepL K cl H vs ds → keysOf ds = some ks → vs = ks.map kV
  | _, _, _, .nil, e => by simp only [keysOf, Option.some.injEq] at e; subst e; rfl
  | _, _, ks, .cons h r, e => by
    unfold keysOf at e
    obtain ⟨k, e1, e2⟩ := Option.bind_eq_some_iff.mp e
    obtain ⟨l, e3, rfl⟩ := Option.map_eq_some_iff.mp e2
    rw [keyOf_rep h e1, keysOf_rep r e3]
    rfl
theorem keyD_rep (k : Key) : Rep K cl H (kV k) (keyD k) := by
  cases k with
  | inl i => exact .int i
  | inr x => exact .str x
theorem keysD_rep : ∀ (ks : List Key), RepL K cl H (ks.map kV) (ks.map keyD)
  | [] => .nil
  | k :: ks => .cons (keyD_rep k) (keysD_rep ks)
@[simp] theorem keyOf_int (i : Int) : keyOf (.int i) = some (.inl i) := rfl
@[simp] theorem keyOf_str (i : Str) : keyOf (.str i) = some (.inr i) := rfl
@[simp] theorem keyOf_D (k : Key) : keyOf (keyD k) = some k := by cases k <;> rfl
def dLtK : Dt → Dt → R Dt
  | .tup l, .tup m => (opt (keysOf l)).bind fun ns => (opt (keysOf m)).bind fun ms => if MxT.alikeL ns ms = true then .ok (.bl (MxT.lexK ns ms)) else .bad
  | _, _ => .bad
theorem os_ltK : OpS K cl (rLtK K) dLtK := fun O H x y a b E ho rx ry Q q => by
  unfold dLtK at q
  split at q
  · rename_i l m
    obtain ⟨p, vs, rfl, h1, r1⟩ := rx
    obtain ⟨p', vs', rfl, h2, r2⟩ := ry
    cases e1 : keysOf l with
    | none => rw [e1] at q; exact q.elim
    | some ns =>
      rw [e1] at q
      simp only [opt_some, Mx.R.bind] at q
      cases e2 : keysOf m with
      | none => rw [e2] at q; exact q.elim
      | some ms =>
        rw [e2] at q
        simp only [opt_some, Mx.R.bind] at q
        split at q
        · rename_i al
          have v1 := keysOf_rep r1 e1
          have v2 := keysOf_rep r2 e2
          subst v1 v2
          exact ⟨p, p', ns, ms, rfl, rfl, SqT.of h1, SqT.of h2, al, ok_ret q (.bl _)⟩
        · exact q.elim
  · exact q.elim
end
end Mx
namespace MxT
open PySem PyProof.Rows L2 Srt SrtO
abbrev IS := Int × List Nat
def lexIS (p q : IS) : Bool := if p.1 = q.1 then decide (p.2 < q.2) else decide (p.1 < q.1)
theorem ln_irrefl (a : List Nat) : ¬ a < a := List.lt_irrefl a
theorem ln_asymm {a b : List Nat} (h : a < b) : ¬ b < a := List.lt_asymm h
theorem ln_trans {a b c : List Nat} (h : ¬ a < b) (k : ¬ b < c) : ¬ a < c := by
  have h1 : b ≤ a := List.not_lt.mp h
  have h2 : c ≤ b := List.not_lt.mp k
  exact List.not_lt.mpr (List.le_trans h2 h1)
theorem lexIS_swo {α : Type} (k : α → IS) : Swo fun v u => lexIS (k v) (k u) := by
  refine ⟨fun x y h => ?_, fun x y z h1 h2 => ?_⟩
  · unfold lexIS at h ⊢
    by_cases e : (k x).1 = (k y).1
    · rw [if_pos e] at h
      rw [if_pos e.symm]
      exact decide_eq_false (ln_asymm (of_decide_eq_true h))
    · rw [if_neg e] at h
      rw [if_neg (Ne.symm e)]
      have := of_decide_eq_true h
      exact decide_eq_false (by omega)
  · unfold lexIS at h1 h2 ⊢
    by_cases e1 : (k y).1 = (k x).1
    · rw [if_pos e1] at h1
      by_cases e2 : (k z).1 = (k y).1
      · rw [if_pos e2] at h2
        rw [if_pos (e2.trans e1)]
        exact decide_eq_false (ln_trans (of_decide_eq_false h2) (of_decide_eq_false h1))
      · rw [if_neg e2] at h2
        have := of_decide_eq_false h2
        rw [if_neg (by omega)]
        exact decide_eq_false (by omega)
    · rw [if_neg e1] at h1
      have := of_decide_eq_false h1
      by_cases e2 : (k z).1 = (k y).1
      · rw [if_neg (by omega)]
        exact decide_eq_false (by omega)
      · rw [if_neg e2] at h2
        have := of_decide_eq_false h2
        rw [if_neg (by omega)]
        exact decide_eq_false (by omega)
def IsIS (h : Heap) (v : Value) (p : IS) : Prop := ∃ a o t u n x, v = .ref a ∧ h.get? a = some o ∧ o.cls = .type "tuple" ∧ o.data = .seq #[.int p.1 t, .str x u] n ∧ x.cps.toList = p.2
theorem IsIS.keeps {h h' : Heap} {v : Value} {q : IS} (p : IsIS h v q) (k : ∀ b o, h.get? b = some o → o.cls = .type "tuple" → h'.get? b = some o) : IsIS h' v q := by
  obtain ⟨a, o, t, u, n, x, e, ho, hc, hd, hx⟩ := p
  exact ⟨a, o, t, u, n, x, e, k _ _ ho hc, hc, hd, hx⟩
section
variable {prog : Program} {w : World} {A : Around} {E : Value → Shared → Prop} {s : Shared}
theorem IS_firsts {h : Heap} {k : Value → IS} : ∀ {vs : List Value}, (∀ v ∈ vs, IsIS h v (k v)) → ∃ fs : List Value, PySem.W.KatTups h vs fs ∧ fs.length = vs.length ∧ ∀ f ∈ fs, ∃ x t, f = Value.int x t
  | [], _ => ⟨[], PySem.W.KatTups.nil, rfl, fun _ hm => by simp at hm⟩
  | v :: vs, hp => by
    obtain ⟨fs, h1, h2, h3⟩ := IS_firsts (vs := vs) fun v' hm => hp v' (List.mem_cons_of_mem _ hm)
    obtain ⟨a, o, t, u, n, x, e, ho, hc, hd, hx⟩ := hp v (List.mem_cons_self ..)
    subst e
    refine ⟨.int _ t :: fs, PySem.W.KatTups.cons ho hc hd rfl h1, by rw [List.length_cons, List.length_cons, h2], fun f hm => ?_⟩
    rcases List.mem_cons.mp hm with rfl | hm
    · exact ⟨_, _, rfl⟩
    · exact h3 f hm
theorem IS_cmp {vs : List Value} {k : Value → IS} (hp : ∀ v ∈ vs, IsIS s.heap v (k v)) : Cmp prog w A s (tuples' true) (fun p => p.1 ∈ vs) (lt2 fun v u => lexIS (k v) (k u)) := by
  intro p q hm hm'
  have h1 := hp _ hm
  have h2 := hp _ hm'
  show wpAny (model prog w) A (keyLt' (tuples' true) p.1 q.1) (fun r s' => s' = s ∧ r = lexIS (k p.1) (k q.1)) (fun _ _ => False) s
  unfold lexIS
  obtain ⟨a, o, t, u, n, y, e, ho, hc, hd, hy⟩ := h1
  obtain ⟨a', o', t', u', n', y', e', ho', hc', hd', hy'⟩ := h2
  rw [← hy, ← hy']
  generalize (k p.1).1 = x at hd ⊢
  generalize (k q.1).1 = x' at hd' ⊢
  rw [e, e']
  refine PySem.W.kat_lt ho hd ho' hd' ?_
  show PySem.W.KatLex prog w A true (decide (2 < 2)) _ [(.int x t, .int x' t'), (.str y u, .str y' u')] 0 s
  refine PySem.W.kat_cons (SeqAt.EqAt.int_int x t x' t' prog w _ _ ?_)
  refine PySem.W.kat_go (fun e1 => ?_) (fun e1 => ?_)
  · have ex : x = x' := by simpa using e1
    refine PySem.W.kat_yes (PySem.W.kat_cons (SeqAt.EqAt.str_str y u y' u' prog w _ _ ?_))
    refine PySem.W.kat_go (fun e2 => ?_) (fun e2 => ?_)
    · have ey : y = y' := by simpa using e2
      have e3 : (if x = x' then decide (y.cps.toList < y'.cps.toList) else decide (x < x')) = false := by
        rw [if_pos ex, ey]
        exact decide_eq_false (ln_irrefl _)
      exact PySem.W.kat_yes (PySem.W.kat_nil ⟨rfl, e3.symm⟩)
    · have e3 : (if x = x' then decide (y.cps.toList < y'.cps.toList) else decide (x < x')) = decide (y.cps.toList < y'.cps.toList) := if_pos ex
      refine PySem.W.kat_no (PySem.W.kat_one _ _ (lt_str ?_))
      exact (show s = s ∧ decide (y.cps.toList < y'.cps.toList) = (if x = x' then decide (y.cps.toList < y'.cps.toList) else decide (x < x')) from ⟨rfl, e3.symm⟩)
  · have ex : ¬ x = x' := by simpa using e1
    have e3 : (if x = x' then decide (y.cps.toList < y'.cps.toList) else decide (x < x')) = decide (x < x') := if_neg ex
    exact PySem.W.kat_no (oneLt_int ⟨rfl, e3.symm⟩)
theorem IS_sortable {a : Addr} {vs : List Value} {k : Value → IS} (h0 : 0 < vs.length) (hp : ∀ v ∈ vs, IsIS s.heap v (k v)) (ha : ∀ o, s.heap.get? a = some o → o.cls ≠ .type "tuple") : SortableO prog w A s a vs fun v u => lexIS (k v) (k u) := by
  intro h' keep
  have hp' : ∀ v ∈ vs, IsIS h' v (k v) := fun v hm => (hp v hm).keeps fun b o e c => keep b o (fun z => by subst z; exact ha o e c) e
  obtain ⟨fs, h1, h2, h3⟩ := IS_firsts hp'
  refine ⟨tuples' true, fun Q E hq => ?_, IS_cmp hp'⟩
  refine PySem.W.kat_kind (T := .type "int") h1 (by omega) (fun f hm => ?_) (by rfl) ?_
  · obtain ⟨x, t, rfl⟩ := h3 f hm
    exact PySem.W.Looks.now
  · have e : (Value.type "int" != Value.type "tuple") = true := by first | decide +kernel | rfl | decide
    rw [e]
    exact hq
end
end MxT
namespace L2
open PySem PySem.Spec PyProof.Rows
/-- the int and the signs of a key (i, x) -/
def isK : List Key → MxT.IS
  | [.inl i, .inr x] => (i, x.cps.toList)
  | _ => (0, [])
def okIS (k : List Key) : Prop := ∃ i x, k = [.inl i, .inr x]
theorem pair_all {α β : Type} {F : α → β → Prop} : ∀ {l : List α} {m : List β}, Paired F l m → ∀ b ∈ m, ∃ a ∈ l, F a b
  | _, _, .cons h t, b, hb => by
    rcases List.mem_cons.mp hb with e | hb
    · exact ⟨_, List.mem_cons_self, e ▸ h⟩
    · obtain ⟨a, ha, hf⟩ := pair_all t b hb
      exact ⟨a, List.mem_cons_of_mem _ ha, hf⟩
def addrOf : Value → Addr
  | .ref a => a
  | _ => 0
/-- the key that stands at an address -/
def keyAt (H : Hp) (a : Addr) : List Key := match H a with
  | some (.tup [.int i, .str x]) => [.inl i, .inr x]
  | _ => []
theorem keyAt_eq {H : Hp} {b : Addr} {k : List Key} (h : H b = some (.tup (k.map kV))) (ok : okIS k) : keyAt H b = k := by
  obtain ⟨i, x, rfl⟩ := ok
  unfold keyAt
  rw [h]
  rfl
/-- sorted(d), the keys of d pairs of an int and a text -/
def rSortedDT : List V → Hp → VK → Prop := fun xs H Q => ∃ (a : Addr) (kvs : List (List Key × V)), xs = [.ref a] ∧ Rd H a (.dT kvs) ∧ (∀ p ∈ kvs, okIS p.1) ∧
  ∀ (p : Addr) (bs : List Addr) (ks : List (List Key)), Paired (fun k b => H b = some (.tup (k.map kV))) ks bs → ks.Perm (kvs.map (·.1)) → ks.Pairwise (fun k m => MxT.lexIS (isK m) (isK k) = false) → H p = none → Q (.ref p) (upd H p (.lst (bs.map V.ref)))
theorem paired_kat {H : Hp} : ∀ (bs : List Addr), (∀ b ∈ bs, okIS (keyAt H b) ∧ H b = some (.tup ((keyAt H b).map kV))) → Paired (fun k b => H b = some (.tup (k.map kV))) (bs.map (keyAt H)) bs
  | [], _ => .nil
  | b :: bs, h => .cons (h b List.mem_cons_self).2 (paired_kat bs fun c hc => h c (List.mem_cons_of_mem _ hc))
theorem cr_sortedDT {X : Cx} (hcalm : X.calm = true) : CallR X (.builtin "sorted") rSortedDT := by
  intro pins s σ H xs us Q I r q
  obtain ⟨d, kvs, ex, hd, hok, q⟩ := q
  subst ex
  obtain ⟨u, rfl, rx⟩ := r.one
  cases rx
  obtain ⟨z, hs, ks, pr, o, es, ep, ho, hx, hdt, he, hn⟩ := (show ObjOk X.prog X.w H s.heap d (.dT kvs) from hd.ok I.hok)
  have l1 : es.size = ks.length := size_of_entries he
  have l2 : kvs.length = ks.length := Paired.length pr
  have h16 : es.size ≤ sizeLine := by omega
  refine Calls.call_function_entry PyProof.Rows.kind_sorted PyProof.Rows.plain_sorted PyProof.Rows.entry_sorted (PyProof.Rows.args_sorted1 _) ?_
  unfold Builtin.«sorted»
  refine wpAny_bind (m := checkCount "sorted" 1 1 _) (wpAny_pure ?_)
  refine wpAny_bind (PySem.W.kdu_collect (A := X.A.in1) (kdl_raw hs hx hdt) (I.ok.hd hcalm) ho h16 fun h' tk acc hk it => ?_)
  have ea : acc.toList = (ks.map fun x => x.2.1).map Value.ref := by
    have hl : acc.toList.length = ks.length := by rw [Array.length_toList, it.1]; exact l1
    apply List.ext_getElem?
    intro j
    rw [List.getElem?_map, List.getElem?_map]
    cases hj : acc.toList[j]? with
    | none =>
      have h1 := List.getElem?_eq_none_iff.mp hj
      rw [List.getElem?_eq_none (by omega)]
      all_goals rfl
    | some v =>
      obtain ⟨en, hen, hv⟩ := it.2 j v (by rw [← Array.getElem?_toList]; exact hj)
      have qe := entry_at he j
      rw [hen] at qe
      cases hb : ks[j]? with
      | none =>
        rw [hb] at qe
        exact nomatch (show some en = none from qe)
      | some b =>
        rw [hb] at qe
        have e2 : en = entryOfKey (tupleKind (mixKind X.prog X.w)) b := Option.some.inj qe
        rw [hv, e2]
        all_goals rfl
  have hal : acc.toList.length = ks.length := by rw [ea, List.length_map, List.length_map]
  have I1 : Inv X pins σ H { s with heap := h', toks := tk } := I.kept hk
  refine wpAny_bind (wpAny_newList ?_ (by rw [hal, ← l2]; exact z))
  have hoL : (h'.push (seqObj "list" acc.toList.toArray 0)).get? h'.objs.size = some (seqObj "list" acc.toList.toArray 0) := Heap.get?_push_size _ rfl
  show wpAny _ _ _ _ _ { s with heap := h'.push (seqObj "list" acc.toList.toArray 0), toks := tk }
  have isk := isKeys_of pr
  have keys : ∀ b ∈ ks.map (fun x => x.2.1), okIS (keyAt H b) ∧ H b = some (.tup ((keyAt H b).map kV)) := fun b hb => by
    obtain ⟨p, hp, hH⟩ := pair_all isk b hb
    have ok := hok p hp
    rw [keyAt_eq hH ok]
    exact ⟨ok, hH⟩
  have mapk : (ks.map fun x => x.2.1).map (keyAt H) = kvs.map (·.1) := by
    have : ∀ {l : List (List Key × V)} {m : List Addr}, Paired (fun p b => H b = some (.tup (p.1.map kV))) l m → (∀ p ∈ l, okIS p.1) → m.map (keyAt H) = l.map (·.1) := by
      intro l m pr ok
      induction pr with
      | nil => rfl
      | cons h t ih =>
        rw [List.map_cons, List.map_cons, keyAt_eq h (ok _ List.mem_cons_self), ih fun p hp => ok p (List.mem_cons_of_mem _ hp)]
    exact this isk hok
  have kk : ∀ (v : Value), v ∈ acc.toList → MxT.IsIS (h'.push (seqObj "list" acc.toList.toArray 0)) v (isK (keyAt H (addrOf v))) := fun v hv => by
    rw [ea] at hv
    obtain ⟨b, hb, rfl⟩ := List.mem_map.mp hv
    obtain ⟨ok, hH⟩ := keys b hb
    show MxT.IsIS _ (.ref b) (isK (keyAt H b))
    obtain ⟨i, x, ek⟩ := ok
    rw [ek] at hH ⊢
    obtain ⟨_, its, rv, oT, hoT, hcT, n, hdT⟩ := (show ObjOk X.prog X.w H h' b _ from I1.hok _ _ hH)
    obtain ⟨u1, u2, rfl, ri, rj⟩ := vals2 rv
    obtain ⟨t1, rfl⟩ := ri
    obtain ⟨t2, rfl⟩ := rj
    exact ⟨b, oT, t1, t2, n, x, rfl, Heap.get?_push_of_some _ hoT, hcT, hdT, rfl⟩
  refine wpAny_bind (wpAny_holding (wpAny_call_entry PyProof.Rows.slot_list_sort ⟨_, hoL, rfl⟩ PyProof.Rows.entry_list_sort
    (SrtO.list_sort_ord (s := { s with heap := h'.push (seqObj "list" acc.toList.toArray 0), toks := tk }) (MxT.lexIS_swo fun v => isK (keyAt H (addrOf v))) hoL (by rw [hal, ← l2]; exact z)
      (fun h2 => MxT.IS_sortable (s := { s with heap := h'.push (seqObj "list" acc.toList.toArray 0), toks := tk }) (by omega) kk fun oo e => by
        have e' : some oo = some (seqObj "list" acc.toList.toArray 0) := e.symm.trans hoL
        cases e'
        intro c
        exact absurd (Value.type.inj c) (by decide)) fun out hs hb => ⟨_, rfl, ?_⟩)
    (PyProof.Rows.args_list_sort _)))
  refine wpAny_pure ⟨_, rfl, ?_⟩
  have hout : ∀ v ∈ out, ∃ b, v = Value.ref b ∧ b ∈ ks.map (fun x => x.2.1) := fun v hv => by
    have := hb.perm.mem_iff.mp hv
    rw [ea] at this
    obtain ⟨b, hb, rfl⟩ := List.mem_map.mp this
    exact ⟨b, rfl, hb⟩
  have eout : out = (out.map addrOf).map Value.ref := by
    rw [List.map_map]
    symm
    have : out.map (Value.ref ∘ addrOf) = out.map id := List.map_congr_left fun v hv => by
      obtain ⟨b, rfl, _⟩ := hout v hv
      rfl
    rw [this, List.map_id]
  have kp : ∀ b o, h'.get? b = some o → (sortedHeap (h'.push (seqObj "list" acc.toList.toArray 0)) h'.objs.size acc.toList out.toArray).get? b = some o := fun b o e1 => by
    have hlt := Heap.lt_size e1
    rw [sortedHeap_old (Nat.ne_of_lt hlt) (by rw [size_push']; exact Nat.lt_succ_of_lt hlt)]
    exact Heap.get?_push_of_some _ e1
  obtain ⟨e2, at2⟩ := sortedHeap_at (out := out.toArray) hoL
  have rv : Vals ((out.map addrOf).map V.ref) out := by
    have := vals_refs (out.map addrOf)
    rw [← eout] at this
    exact this
  have hlen : out.length = kvs.length := by rw [hb.len, hal, l2]
  refine ⟨.ref h'.objs.size, _, I1.laid (t' := tk) (o := .lst ((out.map addrOf).map V.ref)) kp (Nat.le_refl _) ⟨by rw [List.length_map, List.length_map, hlen]; exact z, out, e2, rv, at2⟩, rfl, ?_⟩
  refine q _ (out.map addrOf) ((out.map addrOf).map (keyAt H)) (paired_kat _ fun b hb' => ?_) ?_ ?_ (I1.hok.fresh (Nat.le_refl _))
  · obtain ⟨v, hv, rfl⟩ := List.mem_map.mp hb'
    obtain ⟨b, rfl, hb2⟩ := hout v hv
    exact keys b hb2
  · rw [← mapk]
    have p := hb.perm
    rw [ea] at p
    have p2 := p.map addrOf
    have e3 : ((ks.map fun x => x.2.1).map Value.ref).map addrOf = ks.map fun x => x.2.1 := by
      rw [List.map_map]
      have : (ks.map fun x => x.2.1).map (addrOf ∘ Value.ref) = (ks.map fun x => x.2.1).map id := List.map_congr_left fun _ _ => rfl
      rw [this, List.map_id]
    rw [e3] at p2
    exact p2.map _
  · rw [List.map_map]
    exact List.pairwise_map.mpr hs
end L2
namespace Mx
open PySem PySem.Spec PyProof.Rows L2

section
variable {K : Fr} {cl : Cl} {E : L2.St → XK} {H H' H1 H0 : Hp} {O O' : List Addr} {σ : L2.St} {D : Ds} {B : List Addr}
/-! ### pairs -/
section
variable {κ : Type} [DecidableEq κ]
def getG {α : Type} : List (κ × α) → κ → Option α
  | [], _ => none
  | p :: r, k => if p.1 = k then some p.2 else getG r k
def putG {α : Type} : List (κ × α) → κ → α → List (κ × α)
  | [], k, v => [(k, v)]
  | p :: r, k, v => if p.1 = k then (p.1, v) :: r else p :: putG r k v
theorem getG_valV : ∀ (l : List (κ × V)) (k : κ), valV l k = getG l k
  | [], _ => rfl
  | p :: r, k => by
    unfold getG
    by_cases e : p.1 = k
    · rw [if_pos e, valV_pos e]
    · rw [if_neg e, valV_neg e, getG_valV r k]
theorem getG_rep {α β : Type} {F : α → β → Prop} : ∀ {l : List (κ × α)} {m : List (κ × β)} {k : κ}, l.map (·.1) = m.map (·.1) → (∀ (i : Nat) a b, (l.map (·.2))[i]? = some a → (m.map (·.2))[i]? = some b → F a b) →
    (getG l k = none ∧ getG m k = none) ∨ ∃ a b, getG l k = some a ∧ getG m k = some b ∧ F a b
  | [], [], _, _, _ => .inl ⟨rfl, rfl⟩
  | [], _ :: _, _, e, _ => by cases e
  | _ :: _, [], _, e, _ => by cases e
  | p :: l, q :: m, k, e, h => by
    simp only [List.map_cons, List.cons.injEq] at e
    unfold getG
    by_cases c : p.1 = k
    · rw [if_pos c, if_pos (e.1 ▸ c)]
      exact .inr ⟨_, _, rfl, rfl, h 0 p.2 q.2 rfl rfl⟩
    · rw [if_neg c, if_neg (fun z => c (e.1.trans z))]
      exact getG_rep e.2 fun i a b ha hb => h (i + 1) a b (by simpa using ha) (by simpa using hb)
theorem getG_keys {α : Type} : ∀ {l : List (κ × α)} {k : κ}, k ∉ l.map (·.1) → getG l k = none
  | [], _, _ => rfl
  | p :: r, k, h => by
    simp only [List.map_cons, List.mem_cons, not_or] at h
    unfold getG
    rw [if_neg (fun e => h.1 e.symm)]
    exact getG_keys h.2
/-- the layer's store in a dict is this one, where no key stands twice -/
theorem putG_putK : ∀ (l : List (κ × V)) (k : κ) (v : V), (l.map (·.1)).Nodup → putK l k v = putG l k v
  | [], k, v, _ => by simp [putK, putG]
  | p :: r, k, v, hn => by
    obtain ⟨h1, h2⟩ := List.nodup_cons.mp (show (p.1 :: r.map (·.1)).Nodup from hn)
    have ih := putG_putK r k v h2
    unfold putG
    by_cases e : p.1 = k
    · rw [if_pos e]
      unfold putK
      have : ((p :: r).any fun kv => decide (kv.1 = k)) = true := by simp [e]
      rw [if_pos this, List.map_cons, if_pos e]
      congr 1
      have : ∀ q ∈ r, (if q.1 = k then (q.1, v) else q) = q := fun q hq => by
        rw [if_neg]
        intro z
        exact h1 (by rw [e, ← z]; exact List.mem_map_of_mem hq)
      rw [List.map_congr_left this]; simp
    · rw [if_neg e, ← ih]
      unfold putK
      have : ((p :: r).any fun kv => decide (kv.1 = k)) = (r.any fun kv => decide (kv.1 = k)) := by simp [e]
      rw [this]
      split
      · rw [List.map_cons, if_neg e]
      · rfl
theorem putG_keys {α β : Type} : ∀ {l : List (κ × α)} {m : List (κ × β)} {k : κ} {v : α} {w : β}, l.map (·.1) = m.map (·.1) → (putG l k v).map (·.1) = (putG m k w).map (·.1)
  | [], [], _, _, _, _ => rfl
  | [], _ :: _, _, _, _, e => by cases e
  | _ :: _, [], _, _, _, e => by cases e
  | p :: l, q :: m, k, v, w, e => by
    simp only [List.map_cons, List.cons.injEq] at e
    unfold putG
    by_cases c : p.1 = k
    · rw [if_pos c, if_pos (e.1 ▸ c), List.map_cons, List.map_cons, e.2, e.1]
    · rw [if_neg c, if_neg (fun z => c (e.1.trans z)), List.map_cons, List.map_cons, putG_keys e.2, e.1]
theorem putG_vals {k : κ} {v : V} {d : Dt} (hv : Rep K cl H v d) : ∀ {l : List (κ × V)} {m : List (κ × Dt)}, l.map (·.1) = m.map (·.1) → RepL K cl H (l.map (·.2)) (m.map (·.2)) → RepL K cl H ((putG l k v).map (·.2)) ((putG m k d).map (·.2))
  | [], [], _, _ => .cons hv .nil
  | [], _ :: _, e, _ => by cases e
  | _ :: _, [], e, _ => by cases e
  | p :: l, q :: m, e, r => by
    simp only [List.map_cons, List.cons.injEq] at e
    simp only [List.map_cons] at r
    cases r with
    | cons h r =>
      unfold putG
      by_cases c : p.1 = k
      · rw [if_pos c, if_pos (e.1 ▸ c)]; exact .cons hv r
      · rw [if_neg c, if_neg (fun z => c (e.1.trans z))]; exact .cons h (putG_vals hv e.2 r)
end
theorem repL_at {l : List V} {m : List Dt} (r : RepL K cl H l m) : ∀ (i : Nat) a b, l[i]? = some a → m[i]? = some b → Rep K cl H a b := fun i a b ha hb => rep_at r hb ha
/-! ### a dict of one's own, its keys tuples -/
@[simp] def xsNewT (i : Nat) : XS := fun D => .nx (D.set i (.ot []))
theorem ss_newT {i : Nat} : SimS K cl E (tAsg tDNewT (gName i)) (xsNewT i) := fun B H0 O σ D H s En q => fun p n =>
  q _ _ _ (s.setOwn i (same_upd n) n ⟨[], upd_same, rfl, .nil⟩ (by rw [upd_same]; rfl)) (hid_new (same_upd n) n)
def dKeyT : Dt → R (List Key)
  | .tup l => opt (keysOf l)
  | _ => .bad
@[simp] theorem dKeyT_tup (l : List Dt) : dKeyT (.tup l) = opt (keysOf l) := rfl
theorem dKeyT_rep {v : V} {d : Dt} {k : List Key} (h : Rep K cl H v d) (e : dKeyT d = .ok k) : ∃ b, v = .ref b ∧ H b = some (.tup (k.map kV)) := by
  cases d with
  | tup l =>
    simp only [dKeyT] at e
    cases e2 : keysOf l with
    | none => rw [e2] at e; cases e
    | some ks =>
      rw [e2] at e
      cases e
      cases h with
      | tup ha ra =>
        have := keysOf_rep ra e2
        subst this
        exact ⟨_, rfl, ha⟩
  | _ => cases e
theorem dKeyT_ex {d : Dt} {c : Str} {fs : List (Str × Dt)} : dKeyT d ≠ .ex c fs := by
  intro e
  cases d with
  | tup l => simp only [dKeyT] at e; cases e2 : keysOf l <;> rw [e2] at e <;> cases e
  | _ => cases e
def Sl.ot? : Option Sl → R (List (List Key × Dt))
  | some (.ot l) => .ok l
  | _ => .bad
@[simp] theorem ot?_ot (l : List (List Key × Dt)) : Sl.ot? (some (.ot l)) = .ok l := rfl
theorem ot?_eq {o : Option Sl} {l : List (List Key × Dt)} (h : Sl.ot? o = .ok l) : o = some (.ot l) := by
  unfold Sl.ot? at h
  split at h
  · simp only [R.ok.injEq] at h; subst h; rfl
  · cases h
theorem ot?_ex {o : Option Sl} {c : Str} {fs : List (Str × Dt)} (h : Sl.ot? o = .ex c fs) : False := by
  unfold Sl.ot? at h
  split at h <;> cases h
/-- d[k] = v -/
@[simp] def xsPutT (i : Nat) (xk xv : XE) : XS := fun D => (xv D).out D fun v => (Sl.ot? D[i]?).out D fun l => (xk D).out D fun k => (dKeyT k).get fun ks => if l.length < 1000000 ∧ (l.map (·.1)).Nodup then .nx (D.set i (.ot (putG l ks v))) else .bad
theorem ss_putT {i : Nat} {tk tv : TE} {xk xv : XE} (hk : Sim K cl E tk xk) (hv : Sim K cl E tv xv) : SimS K cl E (sDPut (tVar i) tk tv) (xsPutT i xk xv) := fun B H0 O σ D H s En q => by
  unfold xsPutT at q
  refine hv B H0 O σ D H s _ ?_
  cases e : xv D with
  | bad => rw [e] at q; exact q.elim
  | ex c fs => rw [e] at q; exact q O σ H s (Same.refl _)
  | ok d =>
    rw [e] at q
    simp only [out_ok] at q
    intro v H1 e1 rv
    cases el : Sl.ot? D[i]? with
    | bad => rw [el] at q; exact q.elim
    | ex c fs => exact (ot?_ex el).elim
    | ok l =>
      rw [el] at q
      simp only [out_ok] at q
      have hi := ot?_eq el
      obtain ⟨a, ea, ma, kv, ha, hkeys, ra⟩ := own_at (s.mono e1) hi rfl
      refine ⟨.ref a, ea, ?_⟩
      refine hk B H0 O σ D H1 (s.mono e1) _ ?_
      cases ek : xk D with
      | bad => rw [ek] at q; exact q.elim
      | ex c fs => rw [ek] at q; exact q O σ H1 (s.mono e1) (hid_mono e1)
      | ok k =>
        rw [ek] at q
        simp only [out_ok] at q
        intro w H2 e2 rk
        cases eK : dKeyT k with
        | bad => rw [eK] at q; exact q.elim
        | ex c fs => exact (dKeyT_ex eK).elim
        | ok ks =>
          rw [eK] at q
          simp only [get_ok] at q
          split at q
          · rename_i hz
            obtain ⟨b, rfl, hb⟩ := dKeyT_rep rk eK
            have hl : kv.length = l.length := by
              have := congrArg List.length hkeys
              simpa using this
            refine ⟨a, _, rfl, DPut.t (e2 _ _ ha) (hid_same _ _ _ _ hb) (sz_lt (by rw [hl]; exact hz.1)), ?_⟩
            rw [putG_putK kv ks v (by rw [hkeys]; exact hz.2)]
            refine q O σ _ ((s.mono (e1.trans e2)).mut hi rfl ea ⟨_, upd_same, putG_keys hkeys, putG_vals (rv.mono (hid_mono e2)) hkeys (ra.mono (hid_mono e2))⟩) ?_
            rw [hid_upd ma]
            exact hid_mono (e1.trans e2)
          · exact q.elim
def dDt : Dt → R (List (List Key × Dt))
  | .dt l => .ok l
  | _ => .bad
@[simp] theorem dDt_dt (l : List (List Key × Dt)) : dDt (.dt l) = .ok l := rfl
theorem dDt_eq {d : Dt} {l : List (List Key × Dt)} (h : dDt d = .ok l) : d = .dt l := by
  cases d <;> simp only [dDt] at h <;> cases h <;> rfl
theorem dDt_ex {d : Dt} {c : Str} {fs : List (Str × Dt)} (h : dDt d = .ex c fs) : False := by cases d <;> simp only [dDt] at h <;> cases h
/-- d.get(k, x) -/
@[simp] def xGetT (xd xk xx : XE) : XE := fun D => (xd D).bind fun d => (dDt d).bind fun l => (xk D).bind fun k => (xx D).bind fun x => (dKeyT k).bind fun ks => .ok ((getG l ks).getD x)
theorem sim_getT {td tk tx : TE} {xd xk xx : XE} (hd : SimB K cl E td xd) (hk : Sim K cl E tk xk) (hx : Sim K cl E tx xx) : Sim K cl E (tDGet2 td tk tx) (xGetT xd xk xx) := fun B H0 O σ D H s Q q => by
  unfold xGetT at q
  refine hd B H0 O σ D H s _ ?_
  cases e : xd D with
  | bad => rw [e] at q; exact q.elim
  | ex c fs => rw [e] at q; exact q
  | ok d =>
    rw [e] at q
    simp only [Mx.R.bind] at q
    cases edt : dDt d with
    | bad => rw [edt] at q; exact q.elim
    | ex c fs => exact (dDt_ex edt).elim
    | ok l =>
      rw [edt] at q
      simp only [Mx.R.bind] at q
      have := dDt_eq edt
      subst this
      intro v H1 e1 rd
      obtain ⟨a, kv, rfl, ha, hkeys, ra⟩ := rd
      refine ⟨a, rfl, .inr ⟨kv, .inl ha⟩, ?_⟩
      refine hk B H0 O σ D H1 (s.mono e1) _ ?_
      cases ek : xk D with
      | bad => rw [ek] at q; exact q.elim
      | ex c fs => rw [ek] at q; exact ExOk.mono e1 q
      | ok k =>
        rw [ek] at q
        simp only [Mx.R.bind] at q
        intro w H2 e2 rk
        refine hx B H0 O σ D H2 ((s.mono e1).mono e2) _ ?_
        cases ex : xx D with
        | bad => rw [ex] at q; exact q.elim
        | ex c fs => rw [ex] at q; exact ExOk.mono (e1.trans e2) q
        | ok x =>
          rw [ex] at q
          simp only [Mx.R.bind] at q
          intro z H3 e3 rz
          cases eK : dKeyT k with
          | bad => rw [eK] at q; exact q.elim
          | ex c fs => exact (dKeyT_ex eK).elim
          | ok ks =>
            rw [eK] at q
            simp only [Mx.R.bind] at q
            obtain ⟨b, rfl, hb⟩ := dKeyT_rep rk eK
            have ha3 := (e2.trans e3) _ _ ha
            have hb3 : H3 b = some (.tup (ks.map kV)) := e3 _ _ (hid_same _ _ _ _ hb)
            refine ⟨valV kv ks, DGet.t ha3 hb3, ?_⟩
            rw [getG_valV]
            rcases getG_rep (k := ks) hkeys (repL_at (ra.mono (hid_mono (e2.trans e3)))) with ⟨h1, h2⟩ | ⟨a', b', h1, h2, h3⟩
            · rw [h1]; rw [h2] at q; exact q _ H3 ((e1.trans e2).trans e3) rz
            · rw [h1]; rw [h2] at q; exact q _ H3 ((e1.trans e2).trans e3) h3
/-- d[k], there -/
@[simp] def xDget (xd xk : XE) : XE := fun D => (xd D).bind fun d => (dDt d).bind fun l => (xk D).bind fun k => (dKeyT k).bind fun ks => opt (getG l ks)
theorem sim_dget {td tk : TE} {xd xk : XE} (hd : SimB K cl E td xd) (hk : Sim K cl E tk xk) : Sim K cl E (tDGet td tk) (xDget xd xk) := fun B H0 O σ D H s Q q => by
  unfold xDget at q
  refine hd B H0 O σ D H s _ ?_
  cases e : xd D with
  | bad => rw [e] at q; exact q.elim
  | ex c fs => rw [e] at q; exact q
  | ok d =>
    rw [e] at q
    simp only [Mx.R.bind] at q
    cases edt : dDt d with
    | bad => rw [edt] at q; exact q.elim
    | ex c fs => exact (dDt_ex edt).elim
    | ok l =>
      rw [edt] at q
      simp only [Mx.R.bind] at q
      have := dDt_eq edt
      subst this
      intro v H1 e1 rd
      obtain ⟨a, kv, rfl, ha, hkeys, ra⟩ := rd
      refine hk B H0 O σ D H1 (s.mono e1) _ ?_
      cases ek : xk D with
      | bad => rw [ek] at q; exact q.elim
      | ex c fs => rw [ek] at q; exact ExOk.mono e1 q
      | ok k =>
        rw [ek] at q
        simp only [Mx.R.bind] at q
        intro w H2 e2 rk
        cases eK : dKeyT k with
        | bad => rw [eK] at q; exact q.elim
        | ex c fs => exact (dKeyT_ex eK).elim
        | ok ks =>
          rw [eK] at q
          simp only [Mx.R.bind] at q
          obtain ⟨b, rfl, hb⟩ := dKeyT_rep rk eK
          have ha3 := e2 _ _ ha
          have hb3 : H2 b = some (.tup (ks.map kV)) := hid_same _ _ _ _ hb
          rcases getG_rep (k := ks) hkeys (repL_at (ra.mono (hid_mono e2))) with ⟨h1, h2⟩ | ⟨a', b', h1, h2, h3⟩
          · rw [h2] at q; exact q.elim
          · rw [h2] at q
            exact ⟨a, a', rfl, by rw [← h1, ← getG_valV]; exact DGet.t ha3 hb3, q _ H2 (e1.trans e2) h3⟩
/-- sorted(d), the keys pairs of an int and a text -/
def okB : List Key → Bool
  | [.inl _, .inr _] => true
  | _ => false
theorem okB_ok {k : List Key} (h : okB k = true) : okIS k := by
  unfold okB at h
  split at h
  · exact ⟨_, _, rfl⟩
  · cases h
def leK (k m : List Key) : Bool := !MxT.lexIS (isK m) (isK k)
def sortK (l : List (List Key)) : List (List Key) := l.mergeSort leK
def dSortT : List Dt → R (List Dt)
  | [.dt l] => if (l.all fun p => okB p.1) = true then .ok ((sortK (l.map (·.1))).map fun k => .tup (k.map keyD)) else .bad
  | _ => .bad
theorem str_ext {x y : Str} (h : x.cps.toList = y.cps.toList) : x = y := by
  cases x; cases y; congr 1; exact Array.toList_inj.mp h
theorem isK_inj {k m : List Key} (h1 : okIS k) (h2 : okIS m) (e : isK k = isK m) : k = m := by
  obtain ⟨i, x, rfl⟩ := h1
  obtain ⟨j, y, rfl⟩ := h2
  simp only [isK, Prod.mk.injEq] at e
  rw [e.1, str_ext e.2]
theorem lexIS_eq {a b : MxT.IS} (h1 : MxT.lexIS a b = false) (h2 : MxT.lexIS b a = false) : a = b := by
  unfold MxT.lexIS at h1 h2
  by_cases e : a.1 = b.1
  · rw [if_pos e] at h1
    rw [if_pos e.symm] at h2
    have q1 := List.not_lt.mp (of_decide_eq_false h1)
    have q2 := List.not_lt.mp (of_decide_eq_false h2)
    exact Prod.ext e (List.le_antisymm q2 q1)
  · rw [if_neg e] at h1
    rw [if_neg (Ne.symm e)] at h2
    have := of_decide_eq_false h1
    have := of_decide_eq_false h2
    omega
theorem leK_trans (a b c : List Key) (h1 : leK a b = true) (h2 : leK b c = true) : leK a c = true := by
  unfold leK at *
  simp only [Bool.not_eq_true'] at *
  exact (MxT.lexIS_swo isK).tr a b c h1 h2
theorem leK_total (a b : List Key) : (leK a b || leK b a) = true := by
  unfold leK
  cases e : MxT.lexIS (isK b) (isK a) with
  | false => simp
  | true => simp [(MxT.lexIS_swo isK).asym b a e]
theorem sortK_uniq {l m : List (List Key)} (hp : m.Perm l) (hs : m.Pairwise fun k m => leK k m = true) (ok : ∀ k ∈ l, okIS k) : m = sortK l := by
  refine List.Perm.eq_of_pairwise (le := fun k m => leK k m = true) (fun a b ha hb h1 h2 => ?_) hs (List.pairwise_mergeSort leK_trans leK_total l) (hp.trans (List.mergeSort_perm l leK).symm)
  have oa := ok a (hp.mem_iff.mp ha)
  have ob := ok b ((List.mergeSort_perm l leK).mem_iff.mp hb)
  unfold leK at h1 h2
  simp only [Bool.not_eq_true'] at h1 h2
  exact isK_inj oa ob (lexIS_eq h2 h1)
theorem paired_rep : ∀ {ks : List (List Key)} {bs : List Addr}, Paired (fun k b => H b = some (.tup (k.map kV))) ks bs → (∀ b, b ∈ bs → H' b = H b) → RepL K cl H' (bs.map V.ref) (ks.map fun k => .tup (k.map keyD))
  | _, _, .nil, _ => .nil
  | _, _, .cons (b := b) h t, k => .cons (.tup ((k b List.mem_cons_self).trans h) (keysD_rep _)) (paired_rep t fun b hb => k b (List.mem_cons_of_mem _ hb))
theorem cl_sortT : CaL K cl rSortedDT dSortT := fun O H xs ds E ho r Q q => by
  unfold dSortT at q
  split at q
  · rename_i l
    split at q
    · rename_i hall
      obtain ⟨v, rfl, a, kv, rfl, h, hk, rr⟩ := r.one
      have okl : ∀ p ∈ l, okIS p.1 := fun p hp => okB_ok (List.all_eq_true.mp hall p hp)
      have okk : ∀ k ∈ l.map (·.1), okIS k := fun k hk' => by
        obtain ⟨p, hp, rfl⟩ := List.mem_map.mp hk'
        exact okl p hp
      refine ⟨a, kv, rfl, .inl h, fun p hp => okk _ (by rw [← hk]; exact List.mem_map_of_mem hp), fun p bs ks pr perm srt n => ?_⟩
      rw [hk] at perm
      have e := sortK_uniq perm (srt.imp fun {a b} z => by unfold leK; rw [z]; rfl) okk
      have hb : ∀ b, b ∈ bs → b ∉ p :: O := fun b hb m => by
        obtain ⟨k, hk2, hH⟩ := pair_all pr b hb
        rcases List.mem_cons.mp m with e2 | m
        · rw [e2, n] at hH; cases hH
        · have := ho b m
          rw [hH] at this
          cases this
      refine q p (bs.map V.ref) _ (same_upd n) n upd_same ?_
      rw [← e]
      refine paired_rep pr fun b hb' => ?_
      rw [hid_nin (hb b hb'), upd_ne (fun e2 : b = p => hb b hb' (by rw [e2]; exact List.mem_cons_self))]
    · exact q.elim
  · exact q.elim
end
end Mx
namespace Mx
open PySem PySem.Spec PyProof.Rows L2
section
variable {K : Fr} {cl : Cl} {E : L2.St → XK} {H H' H1 H0 : Hp} {O O' : List Addr} {σ : L2.St} {D : Ds} {B : List Addr}
/-! ### raise C('..'), C without a dict of its own -/
@[simp] def xsRaise (c : Str) : XS := fun D => .ex c [] D
theorem ss_raise {E0 : XK} {c : Str} {C : Addr} (hc : cl c = some C) : SimS K cl (fun _ => E0) (fun _ σ H => (fun (_ : L2.St) (H : Hp) (Q : XK) => Q (.ref C) none H) σ H fun cls d H' => (fun (cls : Value) (d : Option Addr) (_ : L2.St) (H : Hp) => E0 cls d H) cls d σ H') (xsRaise c) := fun B H0 O σ D H s En q =>
  (q O σ H s (Same.refl _) C hc).1 rfl H (Same.refl _)
/-! ### fields -/
theorem lookup_rep : ∀ {l : List (Str × V)} {m : List (Str × Dt)} {f : Str} {d : Dt}, l.map (·.1) = m.map (·.1) → RepL K cl H (l.map (·.2)) (m.map (·.2)) → m.lookup f = some d → ∃ v, l.lookup f = some v ∧ Rep K cl H v d
  | [], [], _, _, _, _, h => by cases h
  | [], _ :: _, _, _, e, _, _ => by cases e
  | _ :: _, [], _, _, e, _, _ => by cases e
  | p :: l, q :: m, f, d, e, r, h => by
    simp only [List.map_cons, List.cons.injEq] at e
    simp only [List.map_cons] at r
    cases r with
    | cons h1 r =>
      obtain ⟨p1, p2⟩ := p
      obtain ⟨q1, q2⟩ := q
      simp only at e h1
      rw [List.lookup_cons] at h ⊢
      rw [e.1]
      cases c : f == q1 with
      | true => rw [c] at h; cases h; exact ⟨_, rfl, h1⟩
      | false => rw [c] at h; exact lookup_rep e.2 r h
def dFld (c f : Str) : Dt → R Dt
  | .ins c' fs => if c' = c then opt (fs.lookup f) else .bad
  | _ => .bad
@[simp] theorem dFld_ins (c f c' : Str) (fs : List (Str × Dt)) : dFld c f (.ins c' fs) = if c' = c then opt (fs.lookup f) else .bad := rfl
theorem opt_ex {α : Type} {o : Option α} {c : Str} {fs : List (Str × Dt)} (h : opt o = .ex c fs) : False := by cases o <;> cases h
theorem sim_fld {ta : TE} {xa : XE} {c f : Str} {C : Addr} (hc : cl c = some C) (kc : Cls K C) (kn : NoAttr K C f) (ha : SimB K cl E ta xa) : Sim K cl E (tFld K ta f) (x1 (dFld c f) xa) := fun B H0 O σ D H s Q q => by
  unfold x1 at q
  refine ha B H0 O σ D H s _ ?_
  cases e : xa D with
  | bad => rw [e] at q; exact q.elim
  | ex c fs => rw [e] at q; exact q
  | ok d =>
    rw [e] at q
    simp only [Mx.R.bind] at q
    intro v H1 e1 rd
    cases d with
    | ins c' fs =>
      simp only [dFld_ins] at q
      split at q
      · rename_i ec
        subst ec
        obtain ⟨a, C', dx, fv, rfl, c1, h1, hk, rr⟩ := rd
        rw [hc] at c1
        cases c1
        cases el : fs.lookup f with
        | none => rw [el] at q; exact q.elim
        | some d =>
          rw [el] at q
          obtain ⟨v, lv, rv⟩ := lookup_rep hk rr el
          exact ⟨a, C, dx, fv, v, rfl, h1, kc, kn, lv, q v H1 e1 rv⟩
      · exact q.elim
    | _ => exact q.elim
def Sl.oi? : Option Sl → R (Addr × Str × List (Str × Dt))
  | some (.oi x c fs) => .ok (x, c, fs)
  | _ => .bad
@[simp] theorem oi?_oi (x : Addr) (c : Str) (fs : List (Str × Dt)) : Sl.oi? (some (.oi x c fs)) = .ok (x, c, fs) := rfl
theorem oi?_eq {o : Option Sl} {p : Addr × Str × List (Str × Dt)} (h : Sl.oi? o = .ok p) : o = some (.oi p.1 p.2.1 p.2.2) := by
  unfold Sl.oi? at h
  split at h
  · simp only [R.ok.injEq] at h; subst h; rfl
  · cases h
theorem oi?_ex {o : Option Sl} {c : Str} {fs : List (Str × Dt)} (h : Sl.oi? o = .ex c fs) : False := by
  unfold Sl.oi? at h
  split at h <;> cases h
theorem putF_G (f : Str) (v : V) : ∀ l : List (Str × V), putF f v l = putG l f v
  | [] => rfl
  | (g, x) :: r => by
    show (if g = f then (g, v) :: r else (g, x) :: putF f v r) = if g = f then (g, v) :: r else (g, x) :: putG r f v
    rw [putF_G f v r]
/-- self.f = e -/
@[simp] def xsFld (i : Nat) (c f : Str) (xe : XE) : XS := fun D => (xe D).out D fun d => (Sl.oi? D[i]?).out D fun p => if p.2.1 = c ∧ p.2.2.length < 1000 then .nx (D.set i (.oi p.1 p.2.1 (putG p.2.2 f d))) else .bad
theorem ss_fld {i : Nat} {c f : Str} {C : Addr} {te : TE} {xe : XE} (hc : cl c = some C) (kc : Cls K C) (kn : NoAttr K C f) (h : Sim K cl E te xe) : SimS K cl E (sFld K (tVar i) te f) (xsFld i c f xe) := fun B H0 O σ D H s En q => by
  unfold xsFld at q
  refine h B H0 O σ D H s _ ?_
  cases e : xe D with
  | bad => rw [e] at q; exact q.elim
  | ex c fs => rw [e] at q; exact q O σ H s (Same.refl _)
  | ok d =>
    rw [e] at q
    simp only [out_ok] at q
    intro v H1 e1 rv
    cases el : Sl.oi? D[i]? with
    | bad => rw [el] at q; exact q.elim
    | ex c fs => exact (oi?_ex el).elim
    | ok p =>
      rw [el] at q
      simp only [out_ok] at q
      have hi := oi?_eq el
      split at q
      · rename_i hz
        obtain ⟨a, ea, ma, C', dx, fv, c1, ha, hk, ra⟩ := own_at (s.mono e1) hi rfl
        have c0 := c1.1
        rw [hz.1, hc] at c0
        cases c0
        have hl : fv.length = p.2.2.length := by
          have := congrArg List.length hk
          simpa using this
        refine ⟨.ref a, ea, a, C, dx, fv, rfl, ha, kc, kn, by rw [hl]; exact hz.2, ?_⟩
        rw [putF_G]
        refine q O σ _ ((s.mono e1).mut hi rfl ea ⟨C, dx, _, c1, upd_same, putG_keys hk, putG_vals rv hk ra⟩) ?_
        rw [hid_upd ma]
        exact hid_mono e1
      · exact q.elim
/-! ### an __init__ and the making of an instance -/
def PostI (K : Fr) (cl : Cl) (E : XK) (B : List Addr) (H0 : Hp) (x C : Addr) (Q : VK) : R (List (Str × Dt)) → Prop
  | .bad => False
  | .ex c fs => ExOk K cl E B c fs H0
  | .ok fs => ∀ H' dx fv, Same H0 H' → H' x = some (.ins C dx fv) → fv.map (·.1) = fs.map (·.1) → RepL K cl (hid (x :: B) H') (fv.map (·.2)) (fs.map (·.2)) → Q .non H'
def InitSp (K : Fr) (cl : Cl) (c : Str) (f : List Dt → R (List (Str × Dt))) : Sp := fun vs H Q E => ∃ B ds H0 x dx C rest, cl c = some C ∧ vs = .ref x :: rest ∧ H = upd (upd H0 dx (.own x)) x (.ins C dx []) ∧ H0 x = none ∧ H0 dx = none ∧ dx ≠ x ∧
  (∀ a, a ∈ B → MutO (H0 a) = true) ∧ RepL K cl (hid B H0) rest ds ∧ PostI K cl E B H0 x C Q (f ds)
/-- what the body of an __init__ gives; self stands at x -/
def runI (c : Str) (n : Nat) (xs : XS) (x : Addr) (ds : List Dt) : R (List (Str × Dt)) := match xs (Sl.oi x c [] :: (ds.map Sl.sh ++ List.replicate (n - (ds.length + 1)) .no)) with
  | .nx D => match D[0]? with
    | some (Sl.oi y c' fs) => if y = x ∧ c' = c then .ok fs else .bad
    | _ => .bad
  | .ex c fs _ => .ex c fs
  | _ => .bad
theorem init_ok {N : List Str} {ts : TS} {xs : XS} {vs : List V} {H : Hp} {Q : VK} {E : XK} {c : Str} {k : Nat} {f : List Dt → R (List (Str × Dt))} (hs : SimS K cl (fun _ => E) ts xs) (hN : k + 1 ≤ N.length)
    (hf : ∀ x ds r, f ds = r → r ≠ .bad → ds.length = k ∧ runI c N.length xs x ds = r) (h : InitSp K cl c f vs H Q E) : ts { nx := fun _ H' => Q .non H', rt := Q } (L2.start N vs) H := by
  obtain ⟨B, ds, H0, x, dx, C, rest, hc, rfl, rfl, nx, nd, ne, hB, r, q⟩ := h
  have nb : f ds ≠ .bad := fun e => by rw [e] at q; exact q
  obtain ⟨hlen, hrun⟩ := hf x ds _ rfl nb
  have e1 : Same H0 (upd (upd H0 dx (.own x)) x (.ins C dx [])) := fun b o e => by
    rw [upd_ne (ne_of_none e nx), upd_ne (ne_of_none e nd)]; exact e
  have rs0 : RS K cl B H0 B (L2.start N (V.ref x :: rest)) (.no :: (ds.map Sl.sh ++ List.replicate (N.length - (ds.length + 1)) .no)) H0 := by
    refine ⟨Same.refl _, fun a m => ⟨m, hB a m⟩, fun a m => ⟨.inl m, hB a m⟩, ?_, fun i s h => ?_, fun i j s t a hij a1 a2 o1 o2 h1 => ?_, Inn.none fun i t h => ?_⟩
    · simp [L2.start, r.len]
    · cases i with
      | zero => simp at h; subst h; trivial
      | succ i =>
        rw [List.getElem?_cons_succ] at h
        by_cases hi : i < ds.length
        · rw [List.getElem?_append_left (by simpa using hi), List.getElem?_map] at h
          obtain ⟨d, hd, rfl⟩ := Option.map_eq_some_iff.mp h
          obtain ⟨v, hv, rv⟩ := r.get hd
          refine ⟨v, ?_, rv⟩
          unfold L2.start
          rw [List.getElem?_append_left (by rw [List.length_map, List.length_cons, r.len]; omega), List.getElem?_map, List.getElem?_cons_succ, hv]
          rfl
        · rw [List.getElem?_append_right (by simpa using hi)] at h
          have := List.eq_of_mem_replicate (List.mem_of_getElem? h)
          subst this
          trivial
    · have hs : ∀ (i : Nat) s, (Sl.no :: (ds.map Sl.sh ++ List.replicate (N.length - (ds.length + 1)) .no))[i]? = some s → s.own = false := fun i s h => by
        have m := List.mem_of_getElem? h
        rcases List.mem_cons.mp m with rfl | m
        · rfl
        rcases List.mem_append.mp m with m | m
        · obtain ⟨d, _, rfl⟩ := List.mem_map.mp m; rfl
        · have := List.eq_of_mem_replicate m; subst this; rfl
      rw [hs i s a1] at o1
      cases o1
    · have m := List.mem_of_getElem? h
      rcases List.mem_cons.mp m with e | m
      · cases e
      rcases List.mem_append.mp m with m | m
      · obtain ⟨d, _, e⟩ := List.mem_map.mp m; cases e
      · have := List.eq_of_mem_replicate m; cases this
  have rs1 := rs0.setOwn 0 (p := x) (s := .oi x c []) e1 nx ⟨C, dx, [], ⟨hc, rfl⟩, upd_same, rfl, .nil⟩ (by rw [upd_same]; rfl)
  have es : (L2.start N (V.ref x :: rest)).set 0 (some (.ref x)) = L2.start N (V.ref x :: rest) := by simp [L2.start]
  rw [es] at rs1
  refine hs B H0 (x :: B) _ _ _ rs1 _ ?_
  show PostS K cl B H0 (fun _ => E) _ _ _ (xs (Sl.oi x c [] :: (ds.map Sl.sh ++ List.replicate (N.length - (ds.length + 1)) .no)))
  rw [← hrun] at q
  unfold runI at q
  cases e : xs (Sl.oi x c [] :: (ds.map Sl.sh ++ List.replicate (N.length - (ds.length + 1)) .no)) with
  | bad => rw [e] at q; exact q.elim
  | nx D =>
    rw [e] at q
    simp only at q
    intro O' σ' H' s f
    split at q
    · rename_i y c' fs hD
      split at q
      · rename_i hy
        obtain ⟨rfl, rfl⟩ := hy
        obtain ⟨a, ea, ma, C', dx', fv, c1, ha, hk, ra⟩ := own_at s hD rfl
        obtain ⟨c2, rfl⟩ := c1
        rw [hc] at c2
        cases c2
        have hx' : H' a = some (.ins C dx' fv) := ha
        have sub : ∀ b, b ∈ a :: B → b ∈ O' := fun b m => by
          rcases List.mem_cons.mp m with rfl | m
          · exact ma
          · exact (s.bas b m).1
        exact q H' dx' fv s.same hx' hk (ra.mono (hid_sub sub))
      · exact q.elim
    · exact q.elim
  | rt d => rw [e] at q; exact q.elim
  | bk D => rw [e] at q; exact q.elim
  | ct D => rw [e] at q; exact q.elim
  | ex c fs D => rw [e] at q; exact fun O' σ' H' s f => (ExOk.mono s.same q).sub fun a m => (s.bas a m).1
theorem initSp_len {c : Str} {f : List Dt → R (List (Str × Dt))} {k : Nat} {vs : List V} {H : Hp} {Q : VK} {E : XK} (h : InitSp K cl c f vs H Q E) (hf : ∀ ds : List Dt, ¬ ds.length = k → f ds = .bad) : vs.length = k + 1 := by
  obtain ⟨B, ds, H0, x, dx, C, rest, hc, rfl, rfl, nx, nd, ne, hB, r, q⟩ := h
  by_cases e : ds.length = k
  · rw [List.length_cons, r.len, e]
  · rw [hf ds e] at q
    exact q.elim
/-- how the values of a call come to the parameters behind self, on both sides -/
def ArgsOk (n m : Nat) (gV : List V → List V → List V) (gD : List Dt → List Dt → List Dt) : Prop := ∀ (K : Fr) (cl : Cl) (H : Hp) (x : Addr) vs zs ds es, vs.length = n → zs.length = m → RepL K cl H vs ds → RepL K cl H zs es → ∃ rest, gV (.ref x :: vs) zs = .ref x :: rest ∧ RepL K cl H rest (gD ds es)
@[simp] def xMake (c : Str) (n m : Nat) (f : List Dt → R (List (Str × Dt))) (gD : List Dt → List Dt → List Dt) (xa xk : XA) : XE := fun D => (xa D).bind fun ds => (xk D).bind fun es => if ds.length = n ∧ es.length = m then (f (gD ds es)).bind fun fs => .ok (.ins c fs) else .bad
theorem sim_make {c : Str} {C : Addr} {n m : Nat} {f : List Dt → R (List (Str × Dt))} {gV : List V → List V → List V} {gD : List Dt → List Dt → List Dt} {E0 : XK} {ta tk : TA} {xa xk : XA} (hc : cl c = some C) (hg : ArgsOk n m gV gD)
    (ha : SimA K cl (fun _ => E0) ta xa) (hk : SimA K cl (fun _ => E0) tk xk) : Sim K cl (fun _ => E0) (tMakeK C n m (InitSp K cl c f) gV E0 ta tk) (xMake c n m f gD xa xk) := fun B H0 O σ D H s Q q => by
  unfold xMake at q
  refine ha B H0 O σ D H s _ ?_
  cases ea : xa D with
  | bad => rw [ea] at q; exact q.elim
  | ex c fs => rw [ea] at q; exact q
  | ok ds =>
    rw [ea] at q
    simp only [Mx.R.bind] at q
    intro vs H1 e1 r1
    refine hk B H0 O σ D H1 (s.mono e1) _ ?_
    cases ek : xk D with
    | bad => rw [ek] at q; exact q.elim
    | ex c fs => rw [ek] at q; exact ExOk.mono e1 q
    | ok es =>
      rw [ek] at q
      simp only [Mx.R.bind] at q
      intro zs H2 e2 r2
      by_cases hl : ds.length = n ∧ es.length = m
      · rw [if_pos hl] at q
        have e12 := e1.trans e2
        have s2 := s.mono e12
        refine ⟨by rw [r1.len]; exact hl.1, by rw [r2.len]; exact hl.2, fun x dx nx nd ne => ?_⟩
        obtain ⟨rest, eg, rr⟩ := hg K cl (hid O H2) x vs zs ds es (by rw [r1.len]; exact hl.1) (by rw [r2.len]; exact hl.2) (r1.mono (hid_mono e2)) r2
        rw [eg]
        refine ⟨O, gD ds es, H2, x, dx, C, rest, hc, rfl, rfl, nx, nd, ne, s2.trk, rr, ?_⟩
        cases ef : f (gD ds es) with
        | bad => rw [ef] at q; exact q.elim
        | ex c fs => rw [ef] at q; exact ExOk.mono e12 q
        | ok fs =>
          rw [ef] at q
          intro H' dx' fv e3 hx hkeys rf
          refine ⟨rfl, q _ H' (e12.trans e3) (.ins (dx := dx') hc (by rw [hid_nin (trk_nin s2.trk nx)]; exact hx) hkeys (rf.mono (hid_sub fun a m => List.mem_cons_of_mem _ m)))⟩
      · rw [if_neg hl] at q
        exact q.elim
/-! ### a property -/
def R.okOr {α : Type} : R α → R α
  | .ok a => .ok a
  | _ => .bad
@[simp] theorem okOr_ok {α : Type} (a : α) : R.okOr (.ok a) = .ok a := rfl
def dProp (c : Str) (f : List Dt → R Dt) (d : Dt) : R Dt := match d with
  | .ins c' fs => if c' = c then (f [.ins c' fs]).okOr else .bad
  | _ => .bad
@[simp] theorem dProp_ins (c : Str) (f : List Dt → R Dt) (fs : List (Str × Dt)) : dProp c f (.ins c fs) = (f [.ins c fs]).okOr := by simp [dProp]
theorem sim_prop {c : Str} {C : Addr} {f : List Dt → R Dt} {E1 : XK} {ta : TE} {xa : XE} (hc : cl c = some C) (ha : Sim K cl E ta xa) :
    Sim K cl E (tProp C (PureSp K cl f) [] E1 ta) (x1 (dProp c f) xa) := fun B H0 O σ D H s Q q => by
  unfold x1 at q
  refine ha B H0 O σ D H s _ ?_
  cases ea : xa D with
  | bad => rw [ea] at q; exact q.elim
  | ex c fs => rw [ea] at q; exact q
  | ok d =>
    rw [ea] at q
    simp only [Mx.R.bind] at q
    intro v H1 e1 r
    cases d with
    | ins c' fs =>
      simp only [dProp] at q
      by_cases hd : c' = c
      · rw [if_pos hd] at q
        subst hd
        have r' := r
        cases r with
        | ins c1 h1 hk rr =>
          rw [hc] at c1
          cases c1
          refine ⟨_, _, _, rfl, hid_same _ _ _ _ h1, O, [.ins c' fs], (s.mono e1).trk, RepL.one r', ?_⟩
          cases ef : f [.ins c' fs] with
          | bad => rw [ef] at q; exact q.elim
          | ex c2 fs2 => rw [ef] at q; exact q.elim
          | ok d => rw [ef] at q; exact fun v H' e h => q v H' (e1.trans e) h
      · rw [if_neg hd] at q
        exact q.elim
    | _ => exact q.elim
end
/-! ### the ends -/
/-- the classes by their names, as the top has left them -/
def clF (K : Fr) : Cf := fun s => match PySem.W.nsIn K mainGlobals s with
  | some (some (.ref C)) => some C
  | _ => none
def clK (K : Fr) : Cl := ⟨clF K, none⟩
theorem clK_of {K : Fr} {s : Str} {C : Addr} (h : PySem.W.nsIn K mainGlobals s = some (some (.ref C))) : clK K s = some C := by
  show clF K s = some C
  unfold clF
  rw [h]
theorem FnOk.imp {P : Program} {w : World} {K : Fr} {mg : Str → Option Value} {base : Heap} {CX : CXT} {k : Nat} {f : Addr} {fd : FuncData} {ps : List Str} {sp sp' : Sp} (F : FnOk P w K mg base CX k f fd ps sp) (h : ∀ vs H Q E, sp' vs H Q E → sp vs H Q E) : FnOk P w K mg base CX k f fd ps sp' :=
  ⟨fun vs H Q E q => F.len vs H Q E (h vs H Q E q), fun A outer s H args us vs Q E hr e b r q => F.run A outer s H args us vs Q E hr e b r (h vs H Q E q)⟩
def spLaw (K : Fr) : Sp := fun vs H Q _ => ∃ (a : Addr) (ns : List Int), vs = [.ref a] ∧ SqL K H a (ns.map V.int) ∧ ns.length ≤ 63 ∧ ∀ H', Q (.bl true) H'
theorem spLaw_of {K : Fr} {cl : Cl} {m : List Dt → R Dt} (hm : ∀ ns : List Int, ns.length ≤ 63 → m [.frl (ns.map Dt.int)] = .ok (.bl true)) (vs : List V) (H : Hp) (Q : VK) (E : XK) (h : spLaw K vs H Q E) : PureSp K cl m vs H Q E := by
  obtain ⟨a, ns, rfl, hS, hl, q⟩ := h
  have e : hid [] H = H := by funext b; unfold hid; rw [if_neg (by simp)]
  refine ⟨[], [.frl (ns.map Dt.int)], (fun b m => nomatch m), (by rw [e]; exact RepL.one (.frl hS (RepL.ofInts ns))), ?_⟩
  rw [hm ns hl]
  intro v H' e2 r
  cases r
  exact q H'
theorem noCX {P : Program} {w : World} (H : Hp) (s : Shared) (e : Value) (s' : Shared) (h : L2.CX P w [] H s (fun _ _ _ => False) e s') : False := by
  obtain ⟨_, _, _, _, _, _, _, _, _, _, _, _, z⟩ := h
  exact z
theorem kw_all1 {α : Type} {P : α → Prop} {a : α} (h : P a) : ∀ q ∈ [a], P q := fun q m => by rw [List.mem_singleton.mp m]; exact h
theorem kw_all2 {α : Type} {P : α → Prop} {a b : α} (h : P a) (k : P b) : ∀ q ∈ [a, b], P q := fun q m => by
  rcases List.mem_cons.mp m with e | m
  · rw [e]; exact h
  · exact kw_all1 k q m
end Mx
namespace Mx
open PySem PySem.Spec PyProof.Rows L2
/-! a value without lists and dicts; an own list is lent for a call that gives such a value -/
mutual
def Dt.cln : Dt → Bool
  | .lst _ => false | .frl _ => false | .dk _ => false | .dt _ => false | .ftp _ => false
  | .tup l => clnL l
  | .ins _ fs => clnF fs
  | _ => true
def clnL : List Dt → Bool
  | [] => true
  | d :: ds => d.cln && clnL ds
def clnF : List (Str × Dt) → Bool
  | [] => true
  | (_, d) :: fs => d.cln && clnF fs
end
@[simp] theorem cln_int (i : Int) : (Dt.int i).cln = true := by simp only [Dt.cln]
@[simp] theorem cln_str (i : Str) : (Dt.str i).cln = true := by simp only [Dt.cln]
@[simp] theorem cln_bl (i : Bool) : (Dt.bl i).cln = true := by simp only [Dt.cln]
@[simp] theorem cln_non : (Dt.non).cln = true := by simp only [Dt.cln]
@[simp] theorem cln_tup (l : List Dt) : (Dt.tup l).cln = clnL l := by simp only [Dt.cln]
@[simp] theorem cln_ins (c : Str) (l : List (Str × Dt)) : (Dt.ins c l).cln = clnF l := by simp only [Dt.cln]
@[simp] theorem clnL_nil : clnL [] = true := by simp only [clnL]
@[simp] theorem clnL_cons (d : Dt) (l : List Dt) : clnL (d :: l) = (d.cln && clnL l) := by simp only [clnL]
@[simp] theorem clnF_nil : clnF [] = true := by simp only [clnF]
@[simp] theorem clnF_cons (k : Str) (d : Dt) (l : List (Str × Dt)) : clnF ((k, d) :: l) = (d.cln && clnF l) := by simp only [clnF]
theorem clnL_all : ∀ {l : List Dt}, (∀ d, d ∈ l → d.cln = true) → clnL l = true
  | [], _ => clnL_nil
  | d :: l, h => by rw [clnL_cons, h d List.mem_cons_self, clnL_all fun x m => h x (List.mem_cons_of_mem _ m)]; rfl
theorem clnF_map : ∀ {fs : List (Str × Dt)}, clnF fs = true → clnL (fs.map (·.2)) = true
  | [], _ => clnL_nil
  | (k, d) :: fs, h => by
    rw [clnF_cons, Bool.and_eq_true] at h
    rw [List.map_cons, clnL_cons, h.1, clnF_map h.2]; rfl
theorem cln_lst {l : List Dt} (h : (Dt.lst l).cln = true) : False := by simp only [Dt.cln] at h; cases h
theorem cln_frl {l : List Dt} (h : (Dt.frl l).cln = true) : False := by simp only [Dt.cln] at h; cases h
theorem cln_dk {l : List (Key × Dt)} (h : (Dt.dk l).cln = true) : False := by simp only [Dt.cln] at h; cases h
theorem cln_dt {l : List (List Key × Dt)} (h : (Dt.dt l).cln = true) : False := by simp only [Dt.cln] at h; cases h
theorem cln_ftp {l : List Str} (h : (Dt.ftp l).cln = true) : False := by simp only [Dt.cln] at h; cases h
def isTI : HO → Bool
  | .tup _ => true
  | .ins _ _ _ => true
  | _ => false
section
variable {K : Fr} {cl : Cl} {E : L2.St → XK} {H1 H2 : Hp}
mutual
theorem Rep.cln (s : ∀ a o, H1 a = some o → isTI o = true → H2 a = some o) : ∀ {v : V} {d : Dt}, Rep K cl H1 v d → d.cln = true → Rep K cl H2 v d
  | _, _, .non, _ => .non
  | _, _, .bl b, _ => .bl b
  | _, _, .int i, _ => .int i
  | _, _, .str x, _ => .str x
  | _, _, .ty n, _ => .ty n
  | _, _, .tup h r, c => .tup (s _ _ h rfl) (RepL.cln s r (by rw [← cln_tup]; exact c))
  | _, _, .lst _ _, c => (cln_lst c).elim
  | _, _, .frl _ _, c => (cln_frl c).elim
  | _, _, .dk _ _ _, c => (cln_dk c).elim
  | _, _, .dt _ _ _, c => (cln_dt c).elim
  | _, _, .ftp _ _ _, c => (cln_ftp c).elim
  | _, _, .ins k h e r, c => .ins k (s _ _ h rfl) e (RepL.cln s r (clnF_map (by rw [cln_ins] at c; exact c)))
theorem RepL.cln (s : ∀ a o, H1 a = some o → isTI o = true → H2 a = some o) : ∀ {vs : List V} {ds : List Dt}, RepL K cl H1 vs ds → clnL ds = true → RepL K cl H2 vs ds
  | _, _, .nil, _ => .nil
  | _, _, .cons h r, c => .cons (Rep.cln s h (by rw [clnL_cons, Bool.and_eq_true] at c; exact c.1)) (RepL.cln s r (by rw [clnL_cons, Bool.and_eq_true] at c; exact c.2))
end
def Sl.lk : Sl → Bool
  | .ol _ => true
  | .ok _ => true
  | .ot _ => true
  | _ => false
@[simp] theorem lk_ol (l : List Dt) : (Sl.ol l).lk = true := rfl
def R.bor : R Dt → R Dt
  | .bad => .bad
  | .ex c fs => if clnL (fs.map (·.2)) = true then .ex c fs else .bad
  | .ok d => if d.cln = true then .ok d else .bad
@[simp] theorem bor_bad : R.bor .bad = .bad := rfl
@[simp] theorem bor_ex (c : Str) (fs : List (Str × Dt)) : R.bor (.ex c fs) = if clnL (fs.map (·.2)) = true then .ex c fs else .bad := rfl
@[simp] theorem bor_ok (d : Dt) : R.bor (.ok d) = if d.cln = true then .ok d else .bad := rfl
@[simp] def xBor (i : Nat) (xe : XE) : XE := fun D => if (D.getD i .no).lk = true then (xe (Frz i D)).bor else .bad
theorem sim_bor {i : Nat} {te : TE} {xe : XE} (h : Sim K cl E te xe) : Sim K cl E te (xBor i xe) := fun B H0 O σ D H s Q q => by
  unfold xBor at q
  split at q
  · rename_i hk
    obtain ⟨O', r, sub, oth⟩ := s.frz' i
    have up : ∀ H', Same H H' → ∀ b o, hid O' H' b = some o → isTI o = true → hid O H' b = some o := fun H' e1 b o hb ho => by
      by_cases hbO' : b ∈ O'
      · unfold hid at hb; rw [if_pos hbO'] at hb; cases hb
      · rw [hid_nin hbO'] at hb
        by_cases hbO : b ∈ O
        · rcases oth b hbO with z | ⟨t, et, ow⟩
          · exact absurd z hbO'
          · have hg : D.getD i .no = t := by rw [List.getD_eq_getElem?_getD, et]; rfl
            rw [hg] at hk
            cases t with
            | ol l => obtain ⟨vs, h1, _⟩ := ow; rw [e1 _ _ h1] at hb; cases hb; cases ho
            | ok l => obtain ⟨vs, h1, _⟩ := ow; rw [e1 _ _ h1] at hb; cases hb; cases ho
            | ot l => obtain ⟨vs, h1, _⟩ := ow; rw [e1 _ _ h1] at hb; cases hb; cases ho
            | no => cases hk
            | sh d => cases hk
            | oi x c l => cases hk
            | xc c l => cases hk
            | br l => cases hk
            | ow t => cases hk
        · rw [hid_nin hbO]; exact hb
    refine h B H0 O' σ _ H r Q ?_
    revert q
    cases xe (Frz i D) with
    | bad => exact id
    | ex c fs =>
      intro q
      rw [bor_ex] at q
      split at q
      · rename_i hc
        exact fun C hC => ⟨(q C hC).1, fun H2 d fv e2 hd hk2 rr => (q C hC).2 H2 d fv e2 hd hk2 (rr.cln (up H2 e2) hc)⟩
      · exact q.elim
    | ok d =>
      intro q
      rw [bor_ok] at q
      split at q
      · rename_i hc
        exact fun v H' e1 rv => q v H' e1 (rv.cln (up H' e1) hc)
      · exact q.elim
  · exact q.elim
end
end Mx
namespace Mx
open PySem PySem.Spec PyProof.Rows L2
section
variable {K : Fr} {cl : Cl} {E : L2.St → XK} {H H' H1 : Hp} {O : List Addr}
/-! ### operators that give a new list -/
def OpL (K : Fr) (cl : Cl) (r : R2) (f : Dt → Dt → R (List Dt)) : Prop := ∀ O H x y a b E, Trk O H → RepB K cl O H x a → RepB K cl O H y b → ∀ Q : VK, PostL K cl E O H Q (f a b) → r x y H Q
@[simp] def x2L (f : Dt → Dt → R (List Dt)) (xa xb : XE) : XA := fun D => (xa D).bind fun a => (xb D).bind fun b => f a b
theorem simL_op {r : R2} {f : Dt → Dt → R (List Dt)} {ta tb : TE} {xa xb : XE} (ho : OpL K cl r f) (ha : SimB K cl E ta xa) (hb : SimB K cl E tb xb) : SimL K cl E (tOp r ta tb) (x2L f xa xb) := fun B H0 O σ D H s Q q => by
  unfold x2L at q
  refine ha B H0 O σ D H s _ ?_
  cases ea : xa D with
  | bad => rw [ea] at q; exact q.elim
  | ex c fs => rw [ea] at q; exact q
  | ok a =>
    rw [ea] at q
    intro x H1 e1 rx
    refine hb B H0 O σ D H1 (s.mono e1) _ ?_
    simp only [R.bind] at q
    cases eb : xb D with
    | bad => rw [eb] at q; exact q.elim
    | ex c fs => rw [eb] at q; exact ExOk.mono e1 q
    | ok b =>
      rw [eb] at q
      intro y H2 e2 ry
      refine ho O H2 x y a b (E σ) (fun a m => (((s.mono e1).mono e2).own a m).2) (rx.mono e2) ry Q ?_
      simp only [R.bind] at q
      revert q
      cases f a b with
      | bad => exact id
      | ex c fs => exact fun q => ExOk.mono (e1.trans e2) q
      | ok d => exact fun q p vs H' e n h1 h => q p vs H' ((e1.trans e2).trans e) ((e1.trans e2).free n) h1 h
def dCatL : Dt → Dt → R (List Dt)
  | .lst l, .lst m => if l.length + m.length ≤ 1000000 then .ok (l ++ m) else .bad
  | _, _ => .bad
@[simp] theorem dCatL_lst (l m : List Dt) : dCatL (.lst l) (.lst m) = if l.length + m.length ≤ 1000000 then .ok (l ++ m) else .bad := rfl
theorem ol_catL : OpL K cl rCat dCatL := fun O H x y a b E ho rx ry Q q => by
  unfold dCatL at q
  split at q
  · split at q
    · rename_i l m hl
      obtain ⟨p, vs, rfl, h1, r1⟩ := rx
      obtain ⟨p', vs', rfl, h2, r2⟩ := ry
      refine ⟨p, p', vs, vs', rfl, rfl, h1, h2, by rw [r1.len, r2.len]; exact sz_of hl, fun c n => ?_⟩
      exact q c _ _ (same_upd n) n upd_same ((r1.app r2).mono (hid_new (same_upd n) n))
    · exact q.elim
  · exact q.elim
/-! ### f-strings -/
@[simp] def dFmt : Dt → R Dt
  | .str y => if y.length ≤ 1000000 then .ok (.str y) else .bad
  | .int i => if i.natAbs.log2 < 1920 then .ok (.str (toString i)) else .bad
  | _ => .bad
theorem sim_fmt {te : TE} {xe : XE} (h : Sim K cl E te xe) : Sim K cl E (tFmt te) (x1 dFmt xe) := fun B H0 O σ D H s Q q => by
  unfold x1 at q
  refine h B H0 O σ D H s _ ?_
  cases e : xe D with
  | bad => rw [e] at q; exact q.elim
  | ex c fs => rw [e] at q; exact q
  | ok d =>
    rw [e] at q
    simp only [R.bind] at q
    intro v H1 e1 r
    cases d with
    | str y =>
      cases r
      simp only [dFmt] at q
      split at q
      · rename_i hy
        exact .inl ⟨y, rfl, sz_of hy, q _ H1 e1 (.str _)⟩
      · exact q.elim
    | int i =>
      cases r
      simp only [dFmt] at q
      split at q
      · rename_i hy
        exact .inr ⟨i, rfl, hy, q _ H1 e1 (.str _)⟩
      · exact q.elim
    | _ => exact q.elim
inductive SimJ (K : Fr) (cl : Cl) (E : L2.St → XK) : List TE → List XE → Prop
  | nil : SimJ K cl E [] []
  | cons {te : TE} {xe : XE} {ts : List TE} {xs : List XE} : Sim K cl E te xe → SimJ K cl E ts xs → SimJ K cl E (te :: ts) (xe :: xs)
def xJs : List XE → Str → Ds → R Str
  | [], acc, _ => .ok acc
  | x :: xs, acc, D => (x D).bind fun d => match d with
    | .str y => if (acc ++ y).length ≤ 1000000 then xJs xs (acc ++ y) D else .bad
    | _ => .bad
@[simp] def xFst (xs : List XE) : XE := fun D => (xJs xs Str.empty D).bind fun s => .ok (.str s)
theorem simJ_run {ts : List TE} {xs : List XE} (h : SimJ K cl E ts xs) : ∀ (acc : Str) (B : List Addr) (H0 : Hp) (O : List Addr) (σ : L2.St) (D : Ds) (H : Hp), RS K cl B H0 O σ D H → ∀ Q : Str → Hp → Prop,
    (match xJs xs acc D with
      | .bad => False
      | .ex c fs => ExOk K cl (E σ) O c fs H
      | .ok s => ∀ H', Same H H' → Q s H') → tJs ts acc σ H Q := by
  induction h with
  | nil => exact fun acc B H0 O σ D H s Q q => q H (Same.refl H)
  | cons h r ih =>
    rename_i te xe ts xs
    intro acc B H0 O σ D H s Q q
    refine h B H0 O σ D H s _ ?_
    unfold xJs at q
    cases e : xe D with
    | bad => simp only [e, R.bind] at q
    | ex c fs => simp only [e, R.bind] at q; exact q
    | ok d =>
      simp only [e, R.bind] at q
      intro v H1 e1 rv
      cases d with
      | str y =>
        cases rv
        simp only at q
        split at q
        · exact q.elim
        · rename_i heq
          split at heq
          · rename_i hy
            refine ⟨y, rfl, sz_of hy, ih _ B H0 O σ D H1 (s.mono e1) Q ?_⟩
            rw [heq]; exact ExOk.mono e1 q
          · cases heq
        · rename_i heq
          split at heq
          · rename_i hy
            refine ⟨y, rfl, sz_of hy, ih _ B H0 O σ D H1 (s.mono e1) Q ?_⟩
            rw [heq]; exact fun H' e' => q H' (e1.trans e')
          · cases heq
      | _ => exact q.elim
theorem sim_fst {ts : List TE} {xs : List XE} (h : SimJ K cl E ts xs) : Sim K cl E (fun σ H Q => tJs ts Str.empty σ H fun out H1 => Q (.str out) H1) (xFst xs) := fun B H0 O σ D H s Q q => by
  refine simJ_run h Str.empty B H0 O σ D H s _ ?_
  unfold xFst at q
  revert q
  cases xJs xs Str.empty D with
  | bad => exact id
  | ex c fs => exact id
  | ok x => exact fun q H' e' => q _ H' e' (.str _)
end
end Mx
namespace L2
open PySem PySem.Spec PyProof.Rows
section
variable {X : Cx} {CX : CXT} {k : Nat} {C f : Addr} {fd : FuncData} {ps : List Str} {sp : Sp} {E : XK}
/-- an operator of one value that the value's own class answers -/
def rOwn1 (C : Addr) (sp : Sp) (E : XK) : V → Hp → VK → Prop := fun x H Q => ∃ a dx fs, x = .ref a ∧ H a = some (.ins C dx fs) ∧ sp [.ref a] H Q E
theorem un_invOwn (at_ : PySem.W.findIn X.K (.ref C) "__invert__" = some (some (.ref f))) (fn : PySem.W.isFn X.K (.ref f) = true) (F : FnOk X.prog X.w X.K X.mg X.base CX k f fd ps sp) (hr : Room k X.A) (hb : Binds X.K fd ps []) (hx : Passes CX X E) :
    UnR X (unaryOp .Invert) (rOwn1 C sp E) := by
  intro pins s σ H x v Q I rx q0
  obtain ⟨a, dx, fs, rfl, ea, q⟩ := q0
  obtain rfl : v = Value.ref a := rx
  obtain ⟨mA, ob, _, _, _, _⟩ := ins_get I.hok ea
  obtain ⟨od, J, _⟩ := ob.look
  have r := run_fn (ds := []) (dvs := []) F hr hb .nil hx I (us := [.ref a]) (vs := [.ref a]) (.cons rfl .nil) q
  unfold unaryOp
  refine wpAny_holding ?_
  refine wpAny_bind (PySem.W.special_fn I.kIn J at_ (beq_iff_eq.mp fn) ?_)
  exact wpAny_mono r (fun _ _ z => wpAny_pure z) fun _ _ z => z
end
end L2
namespace Mx
open PySem PySem.Spec PyProof.Rows L2
section
variable {K : Fr} {cl : Cl} {E : L2.St → XK} {H H' H1 : Hp} {O : List Addr}
theorem lookup_none_of : ∀ {l : List (Str × V)} {m : List (Str × Dt)} {f : Str}, l.map (·.1) = m.map (·.1) → m.lookup f = none → l.lookup f = none
  | [], _, _, _, _ => rfl
  | _ :: _, [], _, e, _ => by cases e
  | p :: l, q :: m, f, e, h => by
    obtain ⟨p1, p2⟩ := p
    obtain ⟨q1, q2⟩ := q
    simp only [List.map_cons, List.cons.injEq] at e
    obtain ⟨e1, e2⟩ := e
    subst e1
    simp only [List.lookup] at h ⊢
    split at h
    · cases h
    · exact lookup_none_of e2 h
/-- an operator of one object, by its class's own def -/
def dOwn (c : Str) (f : List Dt → R Dt) (o : Dt) : R Dt := match o with
  | .ins c' fs => if c' = c then f [.ins c' fs] else .bad
  | _ => .bad
theorem sim_own1 {c : Str} {C : Addr} {f : List Dt → R Dt} {E0 : XK} {ta : TE} {xa : XE} (hc : cl c = some C) (ha : Sim K cl (fun _ => E0) ta xa) :
    Sim K cl (fun _ => E0) (tUn (rOwn1 C (PureSp K cl f) E0) ta) (x1 (dOwn c f) xa) := fun B H0 O σ D H s Q q => by
  unfold x1 at q
  refine ha B H0 O σ D H s _ ?_
  cases e : xa D with
  | bad => rw [e] at q; exact q.elim
  | ex c' fs => rw [e] at q; exact q
  | ok d =>
    rw [e] at q
    simp only [R.bind] at q
    intro v H1 e1 r
    cases d with
    | ins c' fs =>
      simp only [dOwn] at q
      split at q
      · rename_i hcc
        subst hcc
        cases r with
        | ins k1 h1 k2 rr =>
          rw [hc] at k1
          cases k1
          exact ⟨_, _, _, rfl, hid_same O H1 _ _ h1, O, [.ins c' fs], (s.mono e1).trk, .cons (.ins hc h1 k2 rr) .nil, post_E e1 q⟩
      · exact q.elim
    | _ => exact q.elim
/-- a method of an object -/
def isM (c m : Str) (o : Dt) : Bool := match o with
  | .ins c' fs => decide (c' = c) && (fs.lookup m).isNone
  | _ => false
@[simp] def xMeth (c m : Str) (f : List Dt → R Dt) (xo : XE) (xa : XA) : XE := fun D => (xo D).bind fun o => if isM c m o = true then (xa D).bind fun l => f (o :: l) else .bad
theorem sim_meth {c m : Str} {C : Addr} {f : List Dt → R Dt} {E0 : XK} {to : TE} {ta : TA} {xo : XE} {xa : XA} (hc : cl c = some C) (ho : Sim K cl (fun _ => E0) to xo) (ha : SimA K cl (fun _ => E0) ta xa) :
    Sim K cl (fun _ => E0) (tMeth C m (PureSp K cl f) [] E0 to ta) (xMeth c m f xo xa) := fun B H0 O σ D H s Q q => by
  unfold xMeth at q
  refine ho B H0 O σ D H s _ ?_
  cases e : xo D with
  | bad => rw [e] at q; exact q.elim
  | ex c' fs => rw [e] at q; exact q
  | ok d =>
    rw [e] at q
    simp only [R.bind] at q
    intro v H1 e1 r
    split at q
    · rename_i hm
      cases d with
      | ins c' fs =>
        simp only [isM, Bool.and_eq_true, decide_eq_true_iff, Option.isNone_iff_eq_none] at hm
        obtain ⟨hcc, hl⟩ := hm
        subst hcc
        cases r with
        | ins k1 h1 k2 rr =>
          rw [hc] at k1
          cases k1
          refine ⟨_, _, _, rfl, hid_same O H1 _ _ h1, lookup_none_of k2 hl, ?_⟩
          refine ha B H0 O σ D H1 (s.mono e1) _ ?_
          cases ea : xa D with
          | bad => rw [ea] at q; exact q.elim
          | ex c2 fs2 => rw [ea] at q; exact ExOk.mono e1 q
          | ok ds =>
            rw [ea] at q
            simp only [R.bind] at q
            intro vs H2 e2 rv
            refine ⟨O, .ins c' fs :: ds, ((s.mono e1).mono e2).trk, ?_, post_E (e1.trans e2) q⟩
            rw [List.append_nil]
            exact .cons ((Rep.ins hc h1 k2 rr).mono (hid_mono e2)) rv
      | _ => cases hm
    · exact q.elim
end
end Mx
namespace L2
open PySem PySem.Spec PyProof.Rows PySem.W
section
variable {X : Cx} {CX : CXT} {k : Nat} {C f : Addr} {fd : FuncData} {ps : List Str} {sp : Sp} {E : XK}
/-- an operator of two objects of one class -/
theorem same_class {op : Operator} {b : Value} {s : Shared} {a : Addr} {ox : Obj} {od : Option Obj} {Q : Value → Shared → Prop} {E : Value → Shared → Prop} {A : Around} {K : Frag} {prog : Program} {w : World} (kin : K.In s.heap) (J : InstAt s.heap a ox C od)
    (tb : Looks (model prog w) s.heap (typeOf b) (.ref C)) (first : selfFirst K C = true) (at_ : findIn K (.ref C) (PySem.dunder op.info.2) = some (some (.ref f))) (fn : isFn K (.ref f) = true)
    (h : wpAny (model prog w) A (call (.ref f) [.ref a, b]) (PySem.W.CmpBack Q) E s) : wpAny (model prog w) A (binaryOp op (.ref a) b) Q E s := by
  obtain ⟨cd, more, e1, e2⟩ := ksp_first first
  rcases hi : op.info with ⟨sy, nm⟩
  rw [hi] at at_
  dsimp only at at_
  have run := ksp_try kin J at_ fn h
  obtain ⟨hp, g1, g2, g3, g4⟩ := s
  have t1 : Looks (model prog w) hp (typeOf (.ref a)) (.ref C) := J.type
  have t2 : Looks (model prog w) hp (fillsNumberSlot (.ref C) nm) true := fills_K kin e1 e2 at_
  simp only [binaryOp, hi]
  refine wpAny_holding (wpAny_bind ?_)
  unfold binaryOp1
  refine wpAny_bind (t1.at (wpAny_bind (tb.at (wpAny_bind (t2.at ?_)))))
  simp only [beq_self_eq_true, if_true]
  ksp_lk
  refine wpAny_mono run (fun r s' z => ?_) fun _ _ z => z
  obtain ⟨v, rfl, q⟩ := z
  ksp_lk
  exact q
theorem not_ni {v : V} {u : Value} {Q : Value → Shared → Prop} {s' : Shared} (r : RelV v u) (h : Q u s') : PySem.W.CmpBack Q u s' := by
  cases v <;> first | (obtain ⟨t, rfl⟩ := r; exact h) | (obtain rfl := r; exact h) | (cases r; exact h)
def rOwn2 (C : Addr) (sp : Sp) (E : XK) : R2 := fun x y H Q => ∃ a dx fs b dy gs, x = .ref a ∧ y = .ref b ∧ H a = some (.ins C dx fs) ∧ H b = some (.ins C dy gs) ∧ sp [.ref a, .ref b] H Q E
theorem op_own2 {op : Operator} {nm : Str} (hn : PySem.dunder op.info.2 = nm) (first : selfFirst X.K C = true) (at_ : findIn X.K (.ref C) nm = some (some (.ref f))) (fn : isFn X.K (.ref f) = true) (F : FnOk X.prog X.w X.K X.mg X.base CX k f fd ps sp) (hr : Room k X.A) (hb : Binds X.K fd ps []) (hx : Passes CX X E) :
    OpR X (binaryOp op) (rOwn2 C sp E) := by
  intro pins s σ H x y v u Q I rx ry q0
  obtain ⟨a, dx, fs, b, dy, gs, rfl, rfl, ea, eb, q⟩ := q0
  obtain rfl : v = Value.ref a := rx
  obtain rfl : u = Value.ref b := ry
  obtain ⟨mA, oa, _, _, _, _⟩ := ins_get I.hok ea
  obtain ⟨od, J, _⟩ := oa.look
  obtain ⟨mB, ob, _, _, _, _⟩ := ins_get I.hok eb
  obtain ⟨od2, J2, _⟩ := ob.look
  have r := run_fn (ds := []) (dvs := []) F hr hb .nil hx I (us := [.ref a, .ref b]) (vs := [.ref a, .ref b]) (.cons rfl (.cons rfl .nil)) q
  refine same_class I.kIn J J2.type first (hn ▸ at_) fn (wpAny_mono r (fun z s' hz => ?_) fun _ _ z => z)
  obtain ⟨v, H', I', rv, q'⟩ := hz
  exact not_ni rv ⟨v, H', I', rv, q'⟩
end
end L2
namespace Mx
open PySem PySem.Spec PyProof.Rows L2
section
variable {K : Fr} {cl : Cl} {H H' H1 : Hp} {O : List Addr}
def dOwn2 (c : Str) (f : List Dt → R Dt) (o p : Dt) : R Dt := match o, p with
  | .ins c1 fs, .ins c2 gs => if c1 = c ∧ c2 = c then f [.ins c1 fs, .ins c2 gs] else .bad
  | _, _ => .bad
theorem sim_own2 {c : Str} {C : Addr} {f : List Dt → R Dt} {E0 : XK} {ta tb : TE} {xa xb : XE} (hc : cl c = some C) (ha : Sim K cl (fun _ => E0) ta xa) (hb : Sim K cl (fun _ => E0) tb xb) :
    Sim K cl (fun _ => E0) (tOp (rOwn2 C (PureSp K cl f) E0) ta tb) (x2 (dOwn2 c f) xa xb) := fun B H0 O σ D H s Q q => by
  unfold x2 at q
  refine ha B H0 O σ D H s _ ?_
  cases ea : xa D with
  | bad => rw [ea] at q; exact q.elim
  | ex c' fs => rw [ea] at q; exact q
  | ok d =>
    rw [ea] at q
    simp only [R.bind] at q
    intro x H1 e1 rx
    refine hb B H0 O σ D H1 (s.mono e1) _ ?_
    cases eb : xb D with
    | bad => rw [eb] at q; exact q.elim
    | ex c' fs => rw [eb] at q; exact ExOk.mono e1 q
    | ok d2 =>
      rw [eb] at q
      simp only [R.bind] at q
      intro y H2 e2 ry
      unfold dOwn2 at q
      split at q
      · split at q
        · rename_i hcc
          obtain ⟨rfl, rfl⟩ := hcc
          have rx2 := rx.mono (hid_mono (O := O) e2)
          have rx3 := rx2
          have ry3 := ry
          cases rx2 with
          | ins k1 h1 k2 rr =>
            cases ry with
            | ins j1 g1 j2 rr2 =>
              rw [hc] at k1 j1
              cases k1; cases j1
              exact ⟨_, _, _, _, _, _, rfl, rfl, hid_same O H2 _ _ h1, hid_same O H2 _ _ g1, O, _, ((s.mono e1).mono e2).trk, .cons rx3 (.cons ry3 .nil), post_E (e1.trans e2) q⟩
        · exact q.elim
      · exact q.elim
/-- *e within a display -/
def dSpl (o : Dt) : R (List Dt) := match o with
  | .tup l => .ok l
  | .lst l => .ok l
  | _ => .bad
@[simp] theorem dSpl_tup (l : List Dt) : dSpl (.tup l) = .ok l := rfl
@[simp] theorem dSpl_lst (l : List Dt) : dSpl (.lst l) = .ok l := rfl
@[simp] def xStar (xe : XE) (xr : XA) : XA := fun D => (xe D).bind fun d => (dSpl d).bind fun l => (xr D).bind fun r => .ok (l ++ r)
theorem sa_star {E : L2.St → XK} {te : TE} {t : TA} {xe : XE} {xr : XA} (he : SimB K cl E te xe) (hr : SimA K cl E t xr) : SimA K cl E (StX.tStar K te t) (xStar xe xr) := fun B H0 O σ D H s Q q => by
  unfold xStar at q
  refine he B H0 O σ D H s _ ?_
  cases e : xe D with
  | bad => rw [e] at q; exact q.elim
  | ex c' fs => rw [e] at q; exact q
  | ok d =>
    rw [e] at q
    simp only [R.bind] at q
    intro v H1 e1 rv
    have fin : ∀ (xs : List V) (l : List Dt), RepL K cl (hid O H1) xs l → dSpl d = .ok l → t σ H1 fun ys H2 => Q (xs ++ ys) H2 := fun xs l rl hd => by
      rw [hd] at q
      refine hr B H0 O σ D H1 (s.mono e1) _ ?_
      cases er : xr D with
      | bad => rw [er] at q; exact q.elim
      | ex c' fs => rw [er] at q; exact ExOk.mono e1 q
      | ok r =>
        rw [er] at q
        intro ys H2 e2 ry
        exact q _ _ (e1.trans e2) ((rl.mono (hid_mono e2)).app ry)
    cases d with
    | tup l =>
      obtain ⟨a, vs, rfl, h1, rl⟩ := rv
      exact ⟨a, vs, rfl, .inl (SqT.of h1), fin vs l rl rfl⟩
    | lst l =>
      obtain ⟨a, vs, rfl, h1, rl⟩ := rv
      exact ⟨a, vs, rfl, .inr (SqL.of h1), fin vs l rl rfl⟩
    | _ => exact q.elim
end
end Mx
namespace MxZ
open PySem PySem.Spec PyProof.Rows L2 PySem.Froz
/-! ### a set of texts whose table can be walked -/
def GoodS (w : World) (e : Int × Value) : Prop := ∃ x t, e.2 = Value.str x t ∧ e.1 = hashStr w x
def keyS (e : Int × Value) : Str := strOf e.2
def TxR (w : World) (h : Heap) (a : Addr) (l : List Str) : Prop := ∃ D : SD, h.get? a = some (sObj "set" D) ∧ (∀ e ∈ D.1.toList, GoodS w e) ∧ (D.1.toList.map keyS).Perm l ∧ D.2.2.fits D.1.size = true ∧ Ris D.2.2.place.toList ∧
  (w.params.followText "set-order" = true ∨ D.2.2.led = true)
section
variable {P : Program} {w : World} {A : Around} {E : Value → Shared → Prop} {s : Shared} {h h' : Heap} {a : Addr} {l : List Str}
theorem TxR.at (R : TxR w h a l) (k : ∀ o, h.get? a = some o → h'.get? a = some o) : TxR w h' a l := let ⟨D, e, r⟩ := R; ⟨D, k _ e, r⟩
theorem goodS_is {e : Int × Value} (g : GoodS w e) (k : Str) : (strKind P w).is k e.2 = true ↔ keyS e = k := by
  obtain ⟨x, t, e1, _⟩ := g
  unfold keyS
  rw [e1]
  show Value.isStrOf k (Value.str x t) = true ↔ x = k
  simp [Value.isStrOf]
theorem goodS_el {l : List (Int × Value)} (g : ∀ e ∈ l, GoodS w e) : ElemsOf (strKind P w) l := fun e m => by
  obtain ⟨x, t, e1, e2⟩ := g e m
  refine ⟨⟨x, ?_, e2⟩, by rw [e1]; rfl⟩
  rw [e1]
  exact is_str x t
theorem txOk_of {D : SD} (g : ∀ e ∈ D.1.toList, GoodS w e) (p : (D.1.toList.map keyS).Perm l) (f : D.2.2.fits D.1.size = true) : TxOk P w D l where
  el := goodS_el g
  mem := fun k => by
    rw [← p.mem_iff, List.mem_map]
    exact ⟨fun ⟨e, m, q⟩ => ⟨e, m, (goodS_is (g e m) k).2 q⟩, fun ⟨e, m, q⟩ => ⟨e, m, (goodS_is (g e m) k).1 q⟩⟩
  sz := by rw [← p.length_eq, List.length_map, Array.length_toList]
  fit := f
/-- one more text, new -/
theorem tx_new {k : Str} {u : Tok} {Q : Bool → Shared → Prop} (R : TxR w s.heap a l) (hk : k ∉ l) (hb : l.length + 1 < scanBound)
    (hq : ∀ h2, (∀ b o, b ≠ a → s.heap.get? b = some o → h2.get? b = some o) → TxR w h2 a (k :: l) → Q true { s with heap := h2 }) : wpAny (model P w) A (setAddHashed a (.str k u) (hashStr w k)) Q E s := by
  obtain ⟨D, ho, g, p, f, r, ld⟩ := R
  obtain ⟨es, ep, t⟩ := D
  have F : TxOk P w (es, ep, t) l := txOk_of g p f
  refine add_x ho F hk hb (hq _ (fun b o hne e => ?_) ?_)
  · exact (Heap.get?_update_other _ _ (Ne.symm hne)).trans e
  · refine ⟨addTx (hashStr w k) (.str k u) (es, ep, t), get_upd _ ho rfl, ?_⟩
    have F2 := add_ok (P := P) (k := k) u F
    have pm := layNew_perm t es (hashStr w k) (.str k u)
    have r1 := layNew_ris t es (hashStr w k) (.str k u) r
    have l1 := layNew_led t es (hashStr w k) (.str k u)
    have fin : ∀ (es2 : Array (Int × Value)), es2.toList.Perm (es.push (hashStr w k, Value.str k u)).toList → (∀ e ∈ es2.toList, GoodS w e) ∧ (es2.toList.map keyS).Perm (k :: l) := fun es2 q => by
      rw [Array.toList_push] at q
      have q2 : es2.toList.Perm ((hashStr w k, Value.str k u) :: es.toList) := q.trans List.perm_append_comm
      refine ⟨fun e m => ?_, (q2.map keyS).trans (p.cons k)⟩
      rcases List.mem_cons.mp (q2.mem_iff.mp m) with z | z
      · exact ⟨k, u, by rw [z], by rw [z]⟩
      · exact g e z
    have ff := F2.fit
    unfold addTx tailTx at ff ⊢
    dsimp only at ff ⊢
    generalize layNew t es (hashStr w k) (Value.str k u) = L at pm r1 l1 ff ⊢
    obtain ⟨es1, t1, wd, gv⟩ := L
    dsimp only at pm r1 l1 ff ⊢
    have r2 : Ris (if t1.plain = true then { t1 with plain := false } else t1).place.toList := by split <;> exact r1
    have l2 : (if t1.plain = true then { t1 with plain := false } else t1).led = t.led := by split <;> exact l1
    generalize (if t1.plain = true then { t1 with plain := false } else t1) = t2 at r2 l2 ff ⊢
    by_cases c : (!wd && t2.tooFull) = true
    · rw [if_pos c] at ff ⊢
      have y := fin _ ((relayAll_perm t2 es1 (SetTable.grown es1.size)).trans pm)
      exact ⟨y.1, y.2, ff, relayAll_ris t2 es1 _, ld.imp id fun z => by rw [relayAll_led, l2]; exact z⟩
    · rw [if_neg c] at ff ⊢
      have y := fin _ pm
      exact ⟨y.1, y.2, ff, r2, ld.imp id fun z => by rw [l2]; exact z⟩
/-- a text that is there already -/
theorem tx_old {k : Str} {u : Tok} {Q : Bool → Shared → Prop} (R : TxR w s.heap a l) (hk : k ∈ l) (hb : l.length < scanBound) (hq : Q false s) : wpAny (model P w) A (setAddHashed a (.str k u) (hashStr w k)) Q E s := by
  obtain ⟨D, ho, g, p, f, r, ld⟩ := R
  obtain ⟨es, ep, t⟩ := D
  have F : TxOk P w (es, ep, t) l := txOk_of g p f
  have z0 : es.size < scanBound := by have := F.sz; dsimp only at this; omega
  have kk : (strKind P w).is k (.str k u) = true := is_str k u
  obtain ⟨e, me, qe⟩ := (F.mem k).1 hk
  obtain ⟨j, hj⟩ : ∃ j, List.findIdx? (fun e => (strKind P w).is k e.2) es.toList = some j := by
    cases c : List.findIdx? (fun e => (strKind P w).is k e.2) es.toList with
    | some j => exact ⟨j, rfl⟩
    | none =>
      have := List.findIdx?_eq_none_iff.mp c e me
      rw [qe] at this
      cases this
  have ww := wpAny_setScan_of (knd := strKind P w) (A := A) (E := E) (adding := true) (s := s) (Q := fun m s' => m = .found (0 + j) ∧ s' = s) kk ho (es := es) (ep := ep) (t := t) rfl F.fit F.el (by rw [hj]; exact ⟨rfl, rfl⟩)
  unfold setAddHashed; unfold setAddHashedIn
  refine wpAny_holding (wpAny_bind (wpAny_setState_of ho (es := es) (ep := ep) (t := t) rfl F.fit ?_))
  dsimp only; rw [byScan_of (knd := strKind P w) (x := Value.str k u) rfl z0 F.el]; simp only [↓reduceIte]; unfold setAddByScan
  refine wpAny_bind (wpAny_bind (wpAny_rule (wpAny_bind (wpAny_mono ww (fun m s' q => ?_) fun _ _ z => z))))
  obtain ⟨rfl, rfl⟩ := q
  dsimp only; exact wpAny_pure (wpAny_pure hq)
/-! ### set.update's loop over texts -/
def ddS : List Str → List Str
  | [] => []
  | x :: r => if x ∈ r then ddS r else x :: ddS r
theorem mem_ddS : ∀ (l : List Str) (k : Str), k ∈ ddS l ↔ k ∈ l
  | [], k => Iff.rfl
  | x :: r, k => by
    unfold ddS
    have ih := mem_ddS r k
    split
    · rename_i hx
      rw [ih, List.mem_cons]
      exact ⟨.inr, fun z => z.elim (fun e => e ▸ hx) id⟩
    · rw [List.mem_cons, List.mem_cons, ih]
theorem nd_ddS : ∀ (l : List Str), (ddS l).Nodup
  | [] => List.nodup_nil
  | x :: r => by
    unfold ddS
    split
    · exact nd_ddS r
    · rename_i hx
      exact List.nodup_cons.mpr ⟨fun z => hx ((mem_ddS r x).1 z), nd_ddS r⟩
theorem len_ddS : ∀ (l : List Str), (ddS l).length ≤ l.length
  | [] => Nat.le_refl _
  | x :: r => by
    unfold ddS
    have ih := len_ddS r
    split <;> simp <;> omega
theorem ddS_step {xs : List Str} {i : Nat} {z : Str} (h : xs[i]? = some z) : (xs.take (i + 1)).reverse = z :: (xs.take i).reverse := by
  rw [List.take_add_one, h]; simp
theorem upd_strs {I : Addr} {fp wr : List Addr} {G : Array GenState → Array GenState → Prop} {n : Nat} {Pv : Nat → Value → Prop} {St : Nat → Shared → Prop} {R : Result → Shared → Prop} (W : WalksS P w A.in1 I fp wr G n Pv St) (S : Addr)
    (hSf : S ∉ fp) (xs : List Str) (hn : n = xs.length) (hb : xs.length + 1 < scanBound) (hval : ∀ i v, Pv i v → ∃ k t, xs[i]? = some k ∧ v = .str k t) : ∀ (k i : Nat) (s : Shared), n - i = k → i ≤ n → St i s →
      TxR w s.heap S (ddS (xs.take i).reverse) → (∀ s', Moved (S :: wr) G s s' → TxR w s'.heap S (ddS xs.reverse) → R (.ok (.ret .none)) s') → codeAny (model P w) A (.builtin "set.update.loop" ⟨[.ref S, .ref I], []⟩) R s := by
  have nw : S ∉ wr := fun z => hSf (W.sub _ z)
  have inc : ∀ b ∈ wr, b ∈ S :: wr := fun b m => List.mem_cons_of_mem _ m
  intro k
  induction k with
  | zero =>
    intro i s ek hi st hS hR
    obtain rfl : i = n := by omega
    refine codeAny_builtin F.entry_set_update_loop (by
      rw [Around.under_plainId F.plain_set_update_loop _]
      show wpAny _ A.in1 (pyNext (.ref I) >>= _) _ _ _
      refine wpAny_bind (W.done s _ _ st fun s' hm => ?_)
      show wpAny _ A.in1 (ret Value.none) _ _ _
      have e : xs.take i = xs := List.take_of_length_le (by omega)
      rw [e] at hS
      exact wpAny_pure (hR s' (hm.mono inc) (hS.at fun o e => hm.heap S o nw e)))
  | succ k ih =>
    intro i s ek hi st hS hR
    have lt : i < n := by omega
    refine codeAny_builtin F.entry_set_update_loop (by
      rw [Around.under_plainId F.plain_set_update_loop _]
      show wpAny _ A.in1 (pyNext (.ref I) >>= _) _ _ _
      refine wpAny_bind (W.item i s _ _ lt st fun v s' hP st' hm => ?_)
      obtain ⟨z, t, hz, rfl⟩ := hval i v hP
      have hS1 : TxR w s'.heap S (ddS (xs.take i).reverse) := hS.at fun o e => hm.heap S o nw e
      have hlen : (ddS (xs.take i).reverse).length ≤ i := Nat.le_trans (len_ddS _) (by simp; omega)
      show wpAny _ A.in1 (holding [Value.str z t] (setAdd S (.str z t)) >>= _) _ _ _
      refine wpAny_bind (wpAny_holding ?_)
      unfold setAdd
      refine wpAny_holding (wpAny_bind ((strKind P w).pyHash (k := z) (is_str z t) ?_))
      have go : ∀ (h2 : Heap) (b : Bool), (∀ c o, c ≠ S → s'.heap.get? c = some o → h2.get? c = some o) → TxR w h2 S (ddS (xs.take (i + 1)).reverse) →
          codeAny (model P w) A (.builtin "set.update.loop" ⟨[.ref S, .ref I], []⟩) R { s' with heap := h2, toks := s'.toks + 1 } := fun h2 b keep r2 =>
        ih (i + 1) _ (by omega) lt (W.frame _ s' _ _ st' (Nat.le_succ _) fun c m o e => keep c o (fun q : c = S => hSf (by rw [← q]; exact m)) e) r2 fun s'' hm2 hS2 =>
          hR s'' (Moved.trans W.gtrans ((hm.mono inc).then_heap (Nat.le_succ _) fun c o m e => keep c o (fun q : c = S => m (by rw [q]; exact List.mem_cons_self)) e) hm2) hS2
      by_cases hmem : z ∈ ddS (xs.take i).reverse
      · refine tx_old (s := { s' with toks := s'.toks + 1 }) hS1 hmem (by omega) ?_
        refine wpAny_pure ⟨plainId_quiet F.plain_set_update_loop _, go s'.heap false (fun _ _ _ e => e) ?_⟩
        rw [ddS_step hz]
        unfold ddS
        rw [if_pos ((mem_ddS _ _).1 hmem)]
        exact hS1
      · refine tx_new (s := { s' with toks := s'.toks + 1 }) hS1 hmem (by omega) fun h2 keep r2 => ?_
        refine wpAny_pure ⟨plainId_quiet F.plain_set_update_loop _, go h2 true keep ?_⟩
        rw [ddS_step hz]
        unfold ddS
        rw [if_neg (fun q => hmem ((mem_ddS _ _).2 q))]
        exact r2)
end
end MxZ
namespace MxZ
open PySem PySem.Spec PyProof.Rows L2 PySem.Froz
abbrev set0 (w : World) : Obj := { cls := .type "set", dict := none, data := .set #[] 0 (.fresh 0 0 (!w.params.followText "set-order")) }
section
variable {P : Program} {w : World} {A : Around} {E : Value → Shared → Prop} {s : Shared}
/-- set(l), l a list: what its loop leaves -/
theorem set_shell {l : Addr} {items : Array Value} {Q : Value → Shared → Prop} (Z : Heap → Prop) (hh : A.handled = none) (hl : s.heap.IsList l items)
    (lp : ∀ (B : Around) (I : Addr) (s2 : Shared) (R : Result → Shared → Prop), B.handled = none → l ≠ I → s.heap.objs.size ∉ [I, l] → s2.heap.get? s.heap.objs.size = some (set0 w) → s2.heap.IsListIter I l 0 → s2.heap.IsList l items →
      (∀ s', Moved [s.heap.objs.size, I] (fun a b => b = a) s2 s' → Z s'.heap → R (.ok (.ret .none)) s') → codeAny (model P w) B (.builtin "set.update.loop" ⟨[.ref s.heap.objs.size, .ref I], []⟩) R s2)
    (h : ∀ (h' : Heap) (tk : Nat), Z h' → (∀ b o, s.heap.get? b = some o → h'.get? b = some o) → Q (.ref s.heap.objs.size) { s with heap := h', toks := tk }) : wpAny (model P w) A (call (.type "set") [.ref l]) Q E s := by
  obtain ⟨c, tl, hmro⟩ := F.called_set.mro; have hmade := F.called_set.made; have hsub := F.called_set.sub
  refine wpAny_call (codeAny_of_tree (by
    show wpAny _ _ (callAny (.type "set") _) _ _ _
    refine wpAny_pure ⟨Code.quiet_builtin _ (by decide +kernel), codeAny_builtin PySem.F.entry_type_call (by
      rw [Around.under_plain (weight_type_call_type "set" [.ref l] []) rfl]
      have h1 := PySem.F.called_set.notType; have h2 := PySem.F.called_set.canCreate; have hct := PySem.F.typeCall_set_1 (.ref l)
      repeat (any_goals (first | assumption | wp_step))
      refine codeAny_mono (code_set_led1 (.ref l) (E := E) (Q₁ := fun obj t => obj = .ref s.heap.objs.size ∧ t = { s with heap := s.heap.push (set0 w) }) ⟨rfl, rfl⟩) fun r t hr => ?_
      have kill : (∃ v, r = .ok (.ret v)) ∨ ¬ ∃ v, r = .ok (.ret v) := Classical.em _
      rcases kill with ⟨obj, rfl⟩ | no
      · obtain ⟨rfl, rfl⟩ := hr
        have gS : (s.heap.push (set0 w)).get? s.heap.objs.size = some (set0 w) := Heap.get?_push_size _ rfl
        have tS : Shared.TypeIs { s with heap := s.heap.push (set0 w) } (.ref s.heap.objs.size) "set" := ⟨_, gS, rfl⟩
        have hli := PySem.F.called_set.init.lookup; have hbi := PySem.F.called_set.init.bind (.ref s.heap.objs.size)
        repeat (any_goals (first | assumption | wp_step))
        refine codeAny_mono (codeAny_call_builtin (R := wants (fun r t => r = .none ∧ ∃ h' tk, t = { s with heap := h', toks := tk } ∧ Z h' ∧ (∀ b o, s.heap.get? b = some o → h'.get? b = some o)) E) PySem.F.called_set.init.plain PySem.F.entry_set_init
          (check_set_init_1 tS ?_)) fun r2 t2 hr2 => ?_
        · obtain ⟨ol, hol, hcl, nl, hdl⟩ := hl
          obtain ⟨ocls, odict, odata, oslots⟩ := ol
          simp only at hcl hdl
          subst hcl; subst hdl
          have hol2 : (s.heap.push (set0 w)).get? l = some { cls := .type "list", dict := odict, data := .seq items nl, slots := oslots } := Heap.get?_push_of_some _ hol
          have q1 := F.sub_list_set; have q2 := F.sub_list_frozenset
          have q3 : (Value.type "list" == Value.type "dict") = false := by decide
          have il : (s.heap.push (set0 w)).IsList l items := ⟨_, hol2, rfl, nl, rfl⟩
          unfold Builtin.«set.__init__» noKeywords; unfold Builtin.Frozenset.updateFrom; generalize ePI : pyIter = PI
          wp_walk
          subst ePI
          refine wpAny_pyIter_list il (wpAny_bind (wpAny_runValue ?_))
          have ls : l < s.heap.objs.size := Heap.lt_size hol
          have z1 : (s.heap.push (set0 w)).objs.size = s.heap.objs.size + 1 := Heap.size_push ..
          have gS2 : ((s.heap.push (set0 w)).push { cls := .type "list_iterator", data := .fields #[.ref l, .int 0 0] }).get? s.heap.objs.size = some (set0 w) := Heap.get?_push_of_some _ gS
          refine lp _ (s.heap.push (set0 w)).objs.size _ _ (by simp [hh]) (by rw [z1]; exact Nat.ne_of_lt (Nat.lt_succ_of_lt ls)) (by rw [z1]; simp only [List.mem_cons, List.not_mem_nil, or_false]; exact fun q => q.elim (fun q => absurd q (Nat.ne_of_lt (Nat.lt_succ_self _))) fun q => absurd q (Nat.ne_of_gt ls)) gS2 ⟨_, Heap.get?_push_size _ rfl, rfl, rfl⟩ (il.push _) fun s' hm hz => ?_
          rw [hm.eq_with]
          show wpAny _ _ _ _ _ _
          refine wpAny_pure ?_
          show wpAny _ _ (ret Value.none) _ _ _
          refine wpAny_pure ⟨rfl, s'.heap, s'.toks, rfl, hz, fun b o e => ?_⟩
          have lb : b < s.heap.objs.size := Heap.lt_size e
          refine hm.heap b o (fun q => ?_) (Heap.get?_push_of_some _ (Heap.get?_push_of_some _ e))
          rw [z1] at q
          simp only [List.mem_cons, List.not_mem_nil, or_false] at q; exact q.elim (fun q => Nat.ne_of_lt lb q) fun q => Nat.ne_of_lt (Nat.lt_succ_of_lt lb) q
        · have kill2 : (∃ v, r2 = .ok (.ret v)) ∨ ¬ ∃ v, r2 = .ok (.ret v) := Classical.em _
          rcases kill2 with ⟨v, rfl⟩ | no2
          · obtain ⟨rfl, h', tk, rfl, hz, hk⟩ := hr2
            repeat (any_goals (first | assumption | wp_step))
            exact h _ _ hz hk
          · match r2, hr2, no2 with
            | .error e, z, _ => exact z
            | .ok (.ret v), _, n => exact absurd ⟨v, rfl⟩ n
            | .ok .next, z, _ => exact z.elim
            | .ok .brk, z, _ => exact z.elim
            | .ok .cont, z, _ => exact z.elim
      · match r, hr, no with
        | .error e, z, _ => exact z
        | .ok (.ret v), _, n => exact absurd ⟨v, rfl⟩ n
        | .ok .next, z, _ => exact z.elim
        | .ok .brk, z, _ => exact z.elim
        | .ok .cont, z, _ => exact z.elim)⟩))
theorem set_of_strs {l : Addr} {items : Array Value} (xs : List Str) {Q : Value → Shared → Prop} (hh : A.handled = none) (hl : s.heap.IsList l items) (hi : StrsAre items.toList xs) (hb : xs.length + 1 < scanBound)
    (h : ∀ (h' : Heap) (tk : Nat), TxR w h' s.heap.objs.size (ddS xs.reverse) → (∀ b o, s.heap.get? b = some o → h'.get? b = some o) → Q (.ref s.heap.objs.size) { s with heap := h', toks := tk }) :
    wpAny (model P w) A (call (.type "set") [.ref l]) Q E s := by
  have hz : items.size = xs.length := by rw [← StrsAre.len_eq hi, Array.length_toList]
  refine set_shell (fun h' => TxR w h' s.heap.objs.size (ddS xs.reverse)) hh hl (fun B I s2 R hB hne hS g it il fin => ?_) h
  refine upd_strs ((Walks.list (A := B.in1) (by simp [hB]) I l hne items).toS) s.heap.objs.size hS xs hz hb (fun i v e => ?_) _ 0 s2 rfl (Nat.zero_le _) ⟨it, il⟩ ⟨(#[], 0, .fresh 0 0 (!w.params.followText "set-order")), g, fun e m => by simp at m, .nil, rfl, .nil, ?_⟩ fun s' hm r => fin s' hm r
  · obtain ⟨t, e2⟩ := SS.strs_at hi i v (by rw [Array.getElem?_toList]; exact e)
    have li : i < xs.length := by rw [← hz]; exact (Array.getElem?_eq_some_iff.mp e).1
    exact ⟨xs[i], t, List.getElem?_eq_getElem li, by rw [e2, List.getD_eq_getElem?_getD, List.getElem?_eq_getElem li]; rfl⟩
  · show _ ∨ (!w.params.followText "set-order") = true
    cases w.params.followText "set-order"
    · exact .inr rfl
    · exact .inl rfl
theorem set_of_ints {l : Addr} {items : Array Value} (ns : List Int) {Q : Value → Shared → Prop} (hh : A.handled = none) (hl : s.heap.IsList l items) (hi : IntsAre items.toList ns) (hb : ns.length + 1 < scanBound)
    (h : ∀ (h' : Heap) (tk : Nat), (∃ c, c ≤ ns.length ∧ SetR w h' s.heap.objs.size (fun j => decide (j ∈ ns)) c) → (∀ b o, s.heap.get? b = some o → h'.get? b = some o) → Q (.ref s.heap.objs.size) { s with heap := h', toks := tk }) :
    wpAny (model P w) A (call (.type "set") [.ref l]) Q E s := by
  have hz : items.size = ns.length := by have q := IntsAre.length hi; rw [Array.length_toList] at q; exact q
  refine set_shell (fun h' => ∃ c, c ≤ ns.length ∧ SetR w h' s.heap.objs.size (fun j => decide (j ∈ ns)) c) hh hl (fun B I s2 R hB hne hS g it il fin => ?_) h
  refine set_update_ints ((Walks.list (A := B.in1) (by simp [hB]) I l hne items).toS) s.heap.objs.size hS ns hz hb (fun i v e => ?_) _ 0 s2 rfl (Nat.zero_le _) ⟨it, il⟩ ⟨0, Nat.le_refl _, setR_new_at g⟩ fun s' c hm hc r => fin s' hm ⟨c, by omega, r⟩
  obtain ⟨t, e2⟩ := PyProof.Rows.IntsAre.int_at hi i v (by rw [Array.getElem?_toList]; exact e)
  have li : i < ns.length := by rw [← hz]; exact (Array.getElem?_eq_some_iff.mp e).1
  exact ⟨ns[i], t, List.getElem?_eq_getElem li, by rw [e2, List.getD_eq_getElem?_getD, List.getElem?_eq_getElem li]; rfl⟩
/-- sorted(set of texts) -/
theorem sorted_tx {a : Addr} {l : List Str} {Q : Value → Shared → Prop} (R : TxR w s.heap a l) (hh : A.handled = none) (h64 : l.length < 64)
    (hq : ∀ s' p (out : Array Value) (c : Nat) (ys : List Str), (∀ b o, s.heap.get? b = some o → s'.heap.get? b = some o) → s'.gens = s.gens → s'.os = s.os → s.heap.objs.size ≤ p → s'.heap.get? p = some (seqObj "list" out c) →
      StrsAre out.toList ys → ys.Perm l → sortedS ys = true → Q (.ref p) s') : wpAny (model P w) A (call (.builtin "sorted") [.ref a]) Q E s := by
  obtain ⟨D, ho, g, pl, f, r, ld⟩ := R
  obtain ⟨es, ep, t⟩ := D
  have sz : es.size = l.length := by rw [← pl.length_eq, List.length_map, Array.length_toList]
  refine Calls.call_function_entry kind_sorted plain_sorted entry_sorted (args_sorted1 _) (by
    unfold Builtin.«sorted»
    refine wpAny_bind (m := checkCount "sorted" 1 1 _) (wpAny_pure (wpAny_bind (collect_set (A := A.in1) (es := es) (ep := ep) (t := t) hh ⟨_, ho, rfl, rfl⟩ f (by unfold scanBound; omega) r ld fun s1 vs k1 hz g1 o1 pm => ?_)))
    have vl : vs.length = l.length := by rw [pm.length_eq, List.length_map, Array.length_toList, sz]
    have hS : StrsAre vs (vs.map strOf) := strsAre_map vs fun v hv => by
      obtain ⟨e, he, q⟩ := List.mem_map.mp (pm.mem_iff.mp hv)
      obtain ⟨x, tk, h1, _⟩ := g e he
      exact ⟨x, tk, by rw [← q]; exact h1⟩
    have pk : (vs.map strOf).Perm l := by
      have q := pm.map strOf
      rw [List.map_map] at q
      exact q.trans pl
    refine wpAny_bind (wpAny_newList ?_ (by rw [vl, sizeLine_eq]; omega))
    have hoL : (s1.heap.push (seqObj "list" vs.toArray 0)).get? s1.heap.objs.size = some (seqObj "list" vs.toArray 0) := Heap.get?_push_size _ rfl
    refine wpAny_bind (wpAny_holding (wpAny_call_entry slot_list_sort ⟨_, hoL, rfl⟩ entry_list_sort (list_sort_treeK strKind_oneLt hoL hS.keysOf (fun v1 v2 rest e => keyKind_strs (by rw [← e]; exact hS)) (by rw [vl]; exact h64) fun st a1 a2 => ⟨_, rfl, ?_⟩) (args_list_sort _)))
    obtain ⟨ys, y1, y2, y3⟩ := sorted_out_str hS a1 a2
    obtain ⟨c, hc⟩ := sortedHeap_at (vs := vs) (out := (arrOf st).map (·.2)) hoL
    refine wpAny_pure ⟨_, rfl, hq _ s1.heap.objs.size _ c ys (fun b u e => ?_) g1 o1 hz hc y1 (y2.trans pk) y3⟩
    have q := k1 b u e
    have lt := Heap.lt_size q
    show (sortedHeap (s1.heap.push (seqObj "list" vs.toArray 0)) s1.heap.objs.size vs _).get? b = some u
    rw [sortedHeap_old (Nat.ne_of_lt lt) (by rw [size_push']; exact Nat.lt_succ_of_lt lt)]; exact Heap.get?_push_of_some _ q)
end
end MxZ
namespace MxZ
open PySem PySem.Spec PyProof.Rows L2 PySem.Froz
/-- the set of texts at a -/
def TxO (w : World) (a : Addr) (l : List Str) : HO := .ext fun h => TxR w h a l
theorem txO_ok {w : World} {P : Program} {H : Hp} {h : Heap} {a : Addr} {l : List Str} (R : TxR w h a l) : ObjOk P w H h a (TxO w a l) := by
  have ⟨_, ho, _⟩ := R
  exact ⟨R, ⟨_, ho⟩, fun _ _ p _ => p.at ‹_›⟩
section
variable {X : Cx}
/-- set(l), l a list of ints or of texts -/
def rSetA (K : PySem.W.Frag) (w : World) : List V → Hp → VK → Prop := fun xs H Q => ∃ p : Addr, xs = [V.ref p] ∧
  ((∃ ns : List Int, SqL K H p (ns.map V.int) ∧ ns.length < 64 ∧ ∀ a c, H a = none → c ≤ ns.length → Q (.ref a) (upd H a (SetO w a (fun j => decide (j ∈ ns)) c))) ∨
    (∃ ts : List Str, SqL K H p (ts.map V.str) ∧ ts.length < 64 ∧ ∀ a, H a = none → Q (.ref a) (upd H a (TxO w a (ddS ts.reverse)))))
theorem cr_setA (hc : X.calm = true) : CallR X (.type "set") (rSetA X.K X.w) := by
  intro pins s σ H xs us Q I r h
  obtain ⟨p, rfl, h⟩ := h
  rw [Vals.ref1 r]
  rcases h with ⟨ns, hq, hl, q⟩ | ⟨ts, hq, hl, q⟩
  · obtain ⟨its, rv, pl, _⟩ := I.list hq
    refine set_of_ints ns (I.ok.hd hc) pl.isList (by simpa using rv.ints) (by unfold scanBound; omega) fun h' tk ⟨c, hcn, R⟩ k => ?_
    exact ⟨.ref _, _, I.laid (t' := tk) k (Nat.le_refl _) (setO_new R), rfl, q _ c (I.hok.fresh (Nat.le_refl _)) hcn⟩
  · obtain ⟨its, rv, pl, _⟩ := I.list hq
    refine set_of_strs ts (I.ok.hd hc) pl.isList (by simpa using rv.strs) (by unfold scanBound; omega) fun h' tk R k => ?_
    exact ⟨.ref _, _, I.laid (t' := tk) k (Nat.le_refl _) (txO_ok R), rfl, q _ (I.hok.fresh (Nat.le_refl _))⟩
/-- sorted(such a set) -/
def rSortA (w : World) : List V → Hp → VK → Prop := fun vs H Q => rSortedSet w vs H Q ∨ ∃ (a : Addr) (l : List Str), vs = [V.ref a] ∧ H a = some (TxO w a l) ∧ l.length < 64 ∧
  ∀ (ys : List Str) (p : Addr), ys.Perm l → sortedS ys = true → H p = none → Q (.ref p) (upd H p (.lst (ys.map V.str)))
theorem cr_sortA (hc : X.calm = true) : CallR X (.builtin "sorted") (rSortA X.w) := by
  intro pins s σ H vs us Q I r h
  rcases h with h | ⟨a, l, rfl, ha, h64, q⟩
  · exact cr_sortedSet hc pins s σ H vs us Q I r h
  · have R : TxR X.w s.heap a l := (I.hok a _ ha).1
    rw [Vals.ref1 r]
    refine sorted_tx R (I.ok.hd hc) h64 fun s' p out c ys k g o hp hg hi hs hm => ?_
    have hn : H p = none := I.hok.fresh hp
    have J : Inv X pins σ (upd H p (.lst (ys.map V.str))) { s with heap := s'.heap, gens := s'.gens, drawn := s'.drawn, toks := s'.toks } :=
      I.call (ch := []) (Un.laid k hp hn) (I.hok.laid k hp ⟨by rw [List.length_map, hs.length_eq, sizeLine_eq]; omega, out.toList, c, vals_of_strs hi, hg⟩) (by rw [g]; exact I.bare) (fun _ z => nomatch z)
    have e : s' = { s with heap := s'.heap, gens := s'.gens, drawn := s'.drawn, toks := s'.toks } := by
      cases s'; cases s; cases o; rfl
    rw [e]; exact ⟨.ref p, _, J, rfl, q ys p hs hm hn⟩
end
/-! ### the one rising list -/
theorem srt_uniq {α : Type} {lt : α → α → Prop} (ir : ∀ a, ¬ lt a a) (as : ∀ a b, lt a b → ¬ lt b a) : ∀ (l m : List α), l.Pairwise lt → m.Pairwise lt → (∀ k, k ∈ l ↔ k ∈ m) → l = m
  | [], [], _, _, _ => rfl
  | [], y :: m, _, _, h => by have := (h y).2 List.mem_cons_self; cases this
  | x :: l, [], _, _, h => by have := (h x).1 List.mem_cons_self; cases this
  | x :: l, y :: m, pl, pm, h => by
    obtain ⟨p1, p2⟩ := List.pairwise_cons.mp pl
    obtain ⟨q1, q2⟩ := List.pairwise_cons.mp pm
    have e : x = y := by
      rcases List.mem_cons.mp ((h x).1 List.mem_cons_self) with e | hx
      · exact e
      · rcases List.mem_cons.mp ((h y).2 List.mem_cons_self) with e | hy
        · exact e.symm
        · exact absurd (p1 y hy) (as _ _ (q1 x hx))
    subst e
    refine congrArg _ (srt_uniq ir as l m p2 q2 fun k => ?_)
    have hk := h k
    rw [List.mem_cons, List.mem_cons] at hk
    constructor
    · intro hl
      rcases hk.1 (.inr hl) with e | z
      · exact absurd (p1 k hl) (by rw [e]; exact ir x)
      · exact z
    · intro hm
      rcases hk.2 (.inr hm) with e | z
      · exact absurd (q1 k hm) (by rw [e]; exact ir x)
      · exact z
def insU {α : Type} (lt : α → α → Bool) (x : α) : List α → List α
  | [] => [x]
  | y :: r => if lt x y = true then x :: y :: r else if lt y x = true then y :: insU lt x r else y :: r
def sdU {α : Type} (lt : α → α → Bool) (l : List α) : List α := l.foldr (insU lt) []
section
variable {α : Type} {lt : α → α → Bool} (tri : ∀ a b, lt a b = false → lt b a = false → a = b) (tr : ∀ a b c, lt a b = true → lt b c = true → lt a c = true)
include tri in
theorem mem_insU (x : α) : ∀ (l : List α) (k : α), k ∈ insU lt x l ↔ k = x ∨ k ∈ l
  | [], k => by unfold insU; simp
  | y :: r, k => by
    unfold insU
    split
    · simp
    · rename_i h1
      split
      · rw [List.mem_cons, mem_insU x r k, List.mem_cons]
        constructor
        · rintro (h | h | h)
          · exact .inr (.inl h)
          · exact .inl h
          · exact .inr (.inr h)
        · rintro (h | h | h)
          · exact .inr (.inl h)
          · exact .inl h
          · exact .inr (.inr h)
      · rename_i h2
        have e := tri x y (by simpa using h1) (by simpa using h2)
        subst e
        rw [List.mem_cons]
        exact ⟨.inr, fun h => h.elim (fun e => .inl e) id⟩
include tri in
theorem mem_sdU : ∀ (l : List α) (k : α), k ∈ sdU lt l ↔ k ∈ l
  | [], k => by simp [sdU]
  | x :: r, k => by
    show k ∈ insU lt x (sdU lt r) ↔ _
    rw [mem_insU tri, mem_sdU r k, List.mem_cons]
include tri tr in
theorem pw_insU (x : α) : ∀ (l : List α), l.Pairwise (fun a b => lt a b = true) → (insU lt x l).Pairwise (fun a b => lt a b = true)
  | [], _ => by unfold insU; exact List.pairwise_singleton ..
  | y :: r, h => by
    obtain ⟨h1, h2⟩ := List.pairwise_cons.mp h
    unfold insU
    split
    · rename_i c
      exact List.pairwise_cons.mpr ⟨fun z hz => (List.mem_cons.mp hz).elim (fun e => e ▸ c) fun hz => tr _ _ _ c (h1 z hz), h⟩
    · split
      · rename_i c
        refine List.pairwise_cons.mpr ⟨fun z hz => ?_, pw_insU x r h2⟩
        rcases (mem_insU tri x r z).1 hz with e | hz
        · rw [e]; exact c
        · exact h1 z hz
      · exact h
include tri tr in
theorem pw_sdU : ∀ (l : List α), (sdU lt l).Pairwise (fun a b => lt a b = true)
  | [] => .nil
  | x :: r => pw_insU tri tr x _ (pw_sdU r)
end
def ltI (a b : Int) : Bool := decide (a < b)
def ltT (a b : Str) : Bool := decide (a.cps.toList < b.cps.toList)
theorem ltI_tri (a b : Int) (h1 : ltI a b = false) (h2 : ltI b a = false) : a = b := by
  have := of_decide_eq_false h1; have := of_decide_eq_false h2; omega
theorem ltI_tr (a b c : Int) (h1 : ltI a b = true) (h2 : ltI b c = true) : ltI a c = true := by
  have := of_decide_eq_true h1; have := of_decide_eq_true h2; exact decide_eq_true (by omega)
theorem ltT_tri (a b : Str) (h1 : ltT a b = false) (h2 : ltT b a = false) : a = b :=
  Mx.str_ext (List.le_antisymm (List.not_lt.mp (of_decide_eq_false h2)) (List.not_lt.mp (of_decide_eq_false h1)))
theorem ltT_tr (a b c : Str) (h1 : ltT a b = true) (h2 : ltT b c = true) : ltT a c = true := decide_eq_true (List.lt_trans (of_decide_eq_true h1) (of_decide_eq_true h2))
theorem ints_uniq {ns ys : List Int} (p : ys.Pairwise (· < ·)) (m : ∀ k, k ∈ ys ↔ k ∈ ns) : ys = sdU ltI ns :=
  srt_uniq (lt := fun a b => ltI a b = true) (fun a h => absurd (of_decide_eq_true h) (Int.lt_irrefl a)) (fun a b h k => absurd (of_decide_eq_true h) (Int.lt_asymm (of_decide_eq_true k))) ys _ (p.imp fun z => decide_eq_true z) (pw_sdU ltI_tri ltI_tr ns) fun k => (m k).trans (mem_sdU ltI_tri ns k).symm
theorem rising_pw : ∀ (l : List Str) (p : Str), risingS p l = true → (p :: l).Pairwise fun a b => ltT b a = false
  | [], p, _ => List.pairwise_singleton ..
  | x :: r, p, h => by
    have h' : (!ltCps x.cps.toList p.cps.toList && risingS x r) = true := h
    obtain ⟨h1, h2⟩ := Bool.and_eq_true_iff.mp h'
    have ih := rising_pw r x h2
    have hx : ltT x p = false := by
      rw [ltCps_eq] at h1
      simpa [ltT] using h1
    refine List.pairwise_cons.mpr ⟨fun z hz => ?_, ih⟩
    rcases List.mem_cons.mp hz with rfl | hz
    · exact hx
    · have hzx := (List.pairwise_cons.mp ih).1 z hz
      exact decide_eq_false (List.not_lt.mpr (List.le_trans (List.not_lt.mp (of_decide_eq_false hx)) (List.not_lt.mp (of_decide_eq_false hzx))))
theorem strs_uniq {ts l ys : List Str} (hp : ys.Perm l) (nd : l.Nodup) (hs : sortedS ys = true) (m : ∀ k, k ∈ l ↔ k ∈ ts) : ys = sdU ltT ts := by
  have pw : ys.Pairwise fun a b => ltT b a = false := by
    cases ys with
    | nil => exact .nil
    | cons x r => exact rising_pw r x hs
  have ndy : ys.Nodup := hp.nodup_iff.mpr nd
  have pw2 : ys.Pairwise fun a b => ltT a b = true := by
    refine (pw.and ndy).imp fun {a b} h => ?_
    cases e : ltT a b with
    | true => rfl
    | false => exact absurd (ltT_tri a b e h.1) h.2
  refine srt_uniq (lt := fun a b => ltT a b = true) (fun a h => absurd (of_decide_eq_true h) (List.lt_irrefl _)) (fun a b h k => absurd (of_decide_eq_true h) (List.lt_asymm (of_decide_eq_true k))) ys _ pw2 (pw_sdU ltT_tri ltT_tr ts) fun k => ?_
  rw [hp.mem_iff, m k, mem_sdU ltT_tri]
end MxZ
namespace Mx
open PySem PySem.Spec PyProof.Rows L2 MxZ
def intsD : List Dt → Option (List Int)
  | [] => some []
  | .int i :: r => (intsD r).map (i :: ·)
  | _ :: _ => none
def strsD : List Dt → Option (List Str)
  | [] => some []
  | .str i :: r => (strsD r).map (i :: ·)
  | _ :: _ => none
theorem intsD_eq : ∀ {l : List Dt} {ns : List Int}, intsD l = some ns → l = ns.map Dt.int
  | [], ns, h => by simp only [intsD, Option.some.injEq] at h; subst h; rfl
  | d :: r, ns, h => by
    cases d <;> simp only [intsD] at h <;> try cases h
    cases e : intsD r with
    | none => rw [e] at h; cases h
    | some m =>
      rw [e] at h
      simp only [Option.map_some, Option.some.injEq] at h
      subst h
      rw [intsD_eq e]; rfl
theorem strsD_eq : ∀ {l : List Dt} {ns : List Str}, strsD l = some ns → l = ns.map Dt.str
  | [], ns, h => by simp only [strsD, Option.some.injEq] at h; subst h; rfl
  | d :: r, ns, h => by
    cases d <;> simp only [strsD] at h <;> try cases h
    cases e : strsD r with
    | none => rw [e] at h; cases h
    | some m =>
      rw [e] at h
      simp only [Option.map_some, Option.some.injEq] at h
      subst h
      rw [strsD_eq e]; rfl
@[simp] theorem intsD_map : ∀ ns : List Int, intsD (ns.map Dt.int) = some ns
  | [] => rfl
  | n :: r => by show (intsD (r.map Dt.int)).map _ = _; rw [intsD_map r]; rfl
@[simp] theorem strsD_map : ∀ ns : List Str, strsD (ns.map Dt.str) = some ns
  | [] => rfl
  | n :: r => by show (strsD (r.map Dt.str)).map _ = _; rw [strsD_map r]; rfl
theorem intsD_strs {n : Str} {r : List Str} : intsD ((n :: r).map Dt.str) = none := rfl
/-- sorted(set(l)) -/
def dSS : List Dt → R (List Dt)
  | [.lst l] => match intsD l with
    | some ns => if l.length < 64 then .ok ((sdU ltI ns).map Dt.int) else .bad
    | none => match strsD l with
      | some ts => if l.length < 64 then .ok ((sdU ltT ts).map Dt.str) else .bad
      | none => .bad
  | _ => .bad
section
variable {K : Fr} {cl : Cl} {E : L2.St → XK} {H H' H1 : Hp} {O : List Addr} {w : World}
theorem cl_ss : CaL K cl (fun vs H Q => rSetA K w vs H fun v H2 => rSortA w [v] H2 Q) dSS := fun O H xs ds E ho r Q q => by
  unfold dSS at q
  split at q
  · rename_i l
    obtain ⟨v, rfl, a, vs, rfl, h, rr⟩ := r.one
    have post : ∀ {H2 : Hp} {b : Addr} {o : HO} {ns' : List V} {ds' : List Dt}, H2 = upd H b o → H b = none → (∀ Hx, RepL K cl Hx ns' ds') → PostL K cl E O H Q (.ok ds') → ∀ p, H2 p = none → Q (.ref p) (upd H2 p (.lst ns')) := fun {H2 b o ns' ds'} e nb rp q p np => by
      subst e
      have sm : Same H (upd (upd H b o) p (.lst ns')) := (same_upd nb).trans (same_upd np)
      have hn : H p = none := by
        by_cases e2 : p = b
        · rw [e2]; exact nb
        · rw [upd_ne e2] at np; exact np
      exact q p ns' _ sm hn upd_same (rp _)
    split at q
    · rename_i ns hi
      split at q
      · rename_i hl
        have hl2 := intsD_eq hi
        subst hl2
        rw [rr.ints] at h
        rw [List.length_map] at hl
        refine ⟨a, rfl, .inl ⟨ns, SqL.of h, hl, fun b c nb hc => .inl ⟨b, _, c, rfl, upd_same, by omega, fun ys p pw hm _ np => ?_⟩⟩⟩
        have e := ints_uniq (ns := ns) pw fun k => by rw [hm k, decide_eq_true_eq]
        rw [e]
        exact post rfl nb (fun Hx => RepL.ofInts _) q p np
      · exact q.elim
    · split at q
      · rename_i ts hi
        split at q
        · rename_i hl
          have hl2 := strsD_eq hi
          subst hl2
          rw [rr.strs] at h
          rw [List.length_map] at hl
          refine ⟨a, rfl, .inr ⟨ts, SqL.of h, hl, fun b nb => .inr ⟨b, _, rfl, upd_same, ?_, fun ys p pm hs np => ?_⟩⟩⟩
          · have := len_ddS ts.reverse
            rw [List.length_reverse] at this
            omega
          · have e := strs_uniq (ts := ts) pm (nd_ddS _) hs fun k => by rw [mem_ddS, List.mem_reverse]
            rw [e]
            exact post rfl nb (fun Hx => RepL.ofStrs _) q p np
        · exact q.elim
      · exact q.elim
  · exact q.elim
theorem simL_ss {ta : TA} {xa : XA} (ha : SimBA K cl E ta xa) : SimL K cl E (tCB (rSortA w) (tCons (tCB (rSetA K w) ta) tNil)) (xCBL dSS xa) := simL_cb (r := fun vs H Q => rSetA K w vs H fun v H2 => rSortA w [v] H2 Q) cl_ss ha
end
end Mx
namespace Mx
open PySem PySem.Spec PyProof.Rows L2
section
variable {K : Fr} {cl : Cl} {E : L2.St → XK} {H H' H1 H0 : Hp} {O O' : List Addr} {σ : L2.St} {D : Ds} {B : List Addr}
/-! ### a target, its change seen over other heaps too -/
def Tra (K : Fr) (cl : Cl) (B : List Addr) (H0 : Hp) (O : List Addr) (H : Hp) (σ : L2.St) (D : Ds) (σ' : L2.St) (D' : Ds) : Prop := ∀ O2 H2, Same (hid O H) (hid O2 H2) → RS K cl B H0 O2 σ D H2 → RS K cl B H0 O2 σ' D' H2
def SimG2 (K : Fr) (cl : Cl) (vs : List Nat) (g : TG) (xg : XG) : Prop := ∀ B H0 O σ D H, RS K cl B H0 O σ D H → ∀ v d, Rep K cl (hid O H) v d → ∀ (Q : L2.St → Hp → Prop) D', xg d D = .ok D' →
  (∀ σ', RS K cl B H0 O σ' D' H → Tra K cl B H0 O H σ D σ' D' → L2.wipe σ' vs = L2.wipe σ vs → Q σ' H) → g v σ H Q
def SimGs2 (K : Fr) (cl : Cl) (vs : List Nat) (g : TGs) (xg : List Dt → Ds → R Ds) : Prop := ∀ B H0 O σ D H, RS K cl B H0 O σ D H → ∀ ws ds, RepL K cl (hid O H) ws ds → ∀ (Q : L2.St → Hp → Prop) D', xg ds D = .ok D' →
  (∀ σ', RS K cl B H0 O σ' D' H → Tra K cl B H0 O H σ D σ' D' → L2.wipe σ' vs = L2.wipe σ vs → Q σ' H) → g ws σ H Q
theorem sg2_name {i : Nat} {vs : List Nat} (h : i ∈ vs) : SimG2 K cl vs (gName i) (xgName i) := fun B H0 O σ D H s v d r Q D' e q => by
  simp only [xgName, R.ok.injEq] at e
  subst e
  exact q _ (s.setSh i r) (fun O2 H2 sm s2 => s2.setSh i (r.mono sm)) (wipe_set σ vs h)
theorem sgs2_nil {vs : List Nat} : SimGs2 K cl vs gNil xgNil := fun B H0 O σ D H s ws ds r Q D' e q => by
  cases r with
  | nil => simp only [xgNil, R.ok.injEq] at e; subst e; exact ⟨rfl, q σ s (fun _ _ _ z => z) rfl⟩
  | cons h r => cases e
theorem sgs2_cons {vs : List Nat} {g : TG} {gs : TGs} {x : XG} {xs : List Dt → Ds → R Ds} (h1 : SimG2 K cl vs g x) (h2 : SimGs2 K cl vs gs xs) : SimGs2 K cl vs (gCons g gs) (xgCons x xs) := fun B H0 O σ D H s ws ds r Q D' e q => by
  cases r with
  | nil => cases e
  | cons h r =>
    rename_i v d ws ds
    simp only [xgCons] at e
    cases e1 : x d D with
    | bad => rw [e1] at e; cases e
    | ex c fs => rw [e1] at e; cases e
    | ok D1 =>
      rw [e1] at e
      refine ⟨v, ws, rfl, h1 B H0 O σ D H s v d h _ D1 e1 fun σ1 s1 t1 w1 => ?_⟩
      exact h2 B H0 O σ1 D1 H s1 ws ds r Q D' e fun σ' s' t' w' => q σ' s' (fun O2 H2 sm z => t' O2 H2 sm (t1 O2 H2 sm z)) (w'.trans w1)
theorem sg2_tup {vs : List Nat} {n : Nat} {gs : TGs} {xs : List Dt → Ds → R Ds} (h : SimGs2 K cl vs gs xs) : SimG2 K cl vs (gTup K n gs) (xgTup n xs) := fun B H0 O σ D H s v d r Q D' e q => by
  unfold xgTup at e
  split at e
  · split at e
    · rename_i l hl
      cases r with
      | tup ha ra => exact ⟨_, _, rfl, SqT.of (hid_same _ _ _ _ ha), by rw [ra.len]; exact hl, h B H0 O σ D H s _ _ ra Q D' e q⟩
    · cases e
  · cases e
/-! ### two fors -/
def xComp2 (xg : XG) (xt : XT) (xi1 : XA) (xg1 : XG) (xt1 : XT) (xe : XE) (vs1 : List Nat) (D0 : Ds) : List Dt → List Dt → R (List Dt)
  | [], acc => .ok acc
  | d :: r, acc => match xg d D0 with
    | .ok D1 => match xt D1 with
      | .ok true => match xi1 D1 with
        | .ok l1 => match xComp xg1 xt1 xe (wipeD D1 vs1) l1 acc with
          | .ok acc2 => xComp2 xg xt xi1 xg1 xt1 xe vs1 D0 r acc2
          | _ => .bad
        | _ => .bad
      | .ok false => xComp2 xg xt xi1 xg1 xt1 xe vs1 D0 r acc
      | _ => .bad
    | _ => .bad
@[simp] def xLc2 (xi : XA) (xg : XG) (xt : XT) (xi1 : XA) (xg1 : XG) (xt1 : XT) (xe : XE) (vs vs1 : List Nat) : XA := fun D => (xi D).bind fun l => xComp2 xg xt xi1 xg1 xt1 xe vs1 (wipeD D vs) l []
theorem xComp2_ex {xg : XG} {xt : XT} {xi1 : XA} {xg1 : XG} {xt1 : XT} {xe : XE} {vs1 : List Nat} {D0 : Ds} {c : Str} {fs : List (Str × Dt)} : ∀ (l acc : List Dt), xComp2 xg xt xi1 xg1 xt1 xe vs1 D0 l acc ≠ .ex c fs := by
  intro l
  induction l with
  | nil => intro acc h; cases h
  | cons d r ih =>
    intro acc h
    unfold xComp2 at h
    split at h
    · split at h
      · split at h
        · split at h
          · exact ih _ h
          · cases h
        · cases h
      · exact ih _ h
      · cases h
    · cases h
/-- the inner for: L the new list, HH the heap before it -/
theorem lc_in {g : TG} {tt : TT} {te : TE} {vs : List Nat} {xg : XG} {xt : XT} {xe : XE} {E0 : XK} (hg : SimGW K cl vs g xg) (ht : SimT K cl (fun _ => E0) tt xt) (he : Sim K cl (fun _ => E0) te xe)
    {L : Addr} {HH : Hp} (nL : HH L = none) {J : It} {l : List Dt} {acc : List V} {ds res : List Dt} (s : RS K cl B H0 O σ D (hid [L] H)) (f : Same HH H) (hL : H L = some (.lst acc)) (ra : RepL K cl (hid (L :: O) H) acc ds) (go : Goes K cl J l (L :: O) H H0)
    (ec : xComp xg xt xe (wipeD D vs) l ds = .ok res) (Fin : Hp → Prop) (fin : ∀ acc2 H2, Same (hid [L] H) (hid [L] H2) → Same HH H2 → H2 L = some (.lst acc2) → RepL K cl (hid (L :: O) H2) acc2 res → Fin H2) :
    ∃ W : Nat → Nat → Hp → Prop, (∃ m, W 0 m H) ∧ ∀ j k H, W j k H → (J.stop j H ∧ Fin H) ∨ (J.go j H ∧ ∃ Nx : Hp → Prop, (∀ H', Nx H' → ∃ k', k' < k ∧ W (j + 1) k' H') ∧ ∀ x H', J.yld j H x H' → g x (L2.wipe σ vs) H' fun σ3 H5 => L2.wipe σ3 vs = L2.wipe σ vs ∧ tt σ3 H5 fun b H6 =>
      if b = true then te σ3 H6 fun y H7 => ∃ acc, H7 L = some (.lst acc) ∧ acc.length < sizeLine ∧ Nx (upd H7 L (.lst (acc ++ [y]))) else Nx H6) := by
  have s1 := s.wipe vs
  refine ⟨fun i m H2 => m = l.length - i ∧ i ≤ l.length ∧ ∃ acc ds, Same (hid [L] H) (hid [L] H2) ∧ Same HH H2 ∧ H2 L = some (.lst acc) ∧ RepL K cl (hid (L :: O) H2) acc ds ∧ xComp xg xt xe (wipeD D vs) (l.drop i) ds = .ok res,
    ⟨l.length, rfl, Nat.zero_le _, acc, ds, Same.refl _, f, hL, ra, ec⟩, ?_⟩
  rintro i m H2 ⟨rfl, hle, acc, ds, m2, f2, hL, ra, c2⟩
  have s2 := s1.mono m2
  have sO := s2.addOwn hL ra
  have mO : Same (hid (L :: O) H) (hid (L :: O) H2) := by rw [hid_cons (H := H), hid_cons (H := H2)]; exact hid_mono m2
  have g' := go i (L :: O) H2 sO.same mO sO.trk
  by_cases hlt : i < l.length
  · have hd : l.drop i = l[i] :: l.drop (i + 1) := List.drop_eq_getElem_cons hlt
    rw [hd] at c2
    unfold xComp at c2
    refine .inr ⟨(g'.1 _ (List.getElem?_eq_getElem hlt)).1, fun H3 => ∃ acc ds, Same (hid [L] H) (hid [L] H3) ∧ Same HH H3 ∧ H3 L = some (.lst acc) ∧ RepL K cl (hid (L :: O) H3) acc ds ∧ xComp xg xt xe (wipeD D vs) (l.drop (i + 1)) ds = .ok res, ?_, ?_⟩
    · rintro H3 ⟨acc, ds, a, b, c, d, f⟩
      exact ⟨_, by omega, rfl, hlt, acc, ds, a, b, c, d, f⟩
    · intro x H3 y
      obtain ⟨e3, rx⟩ := (g'.1 _ (List.getElem?_eq_getElem hlt)).2 x H3 y
      cases eg : xg l[i] (wipeD D vs) with
      | bad => rw [eg] at c2; cases c2
      | ex c fs => rw [eg] at c2; cases c2
      | ok D1 =>
        rw [eg] at c2
        simp only at c2
        refine hg B H0 (L :: O) _ _ H3 (sO.mono e3) x _ rx _ D1 eg fun σ3 s3 w3 => ⟨by rw [w3, wipe_idem], ?_⟩
        refine ht B H0 (L :: O) σ3 D1 H3 s3 _ ?_
        cases et : xt D1 with
        | bad => rw [et] at c2; cases c2
        | ex c fs => rw [et] at c2; cases c2
        | ok b =>
          rw [et] at c2
          intro H4 e4
          cases b with
          | false =>
            simp only at c2
            have e34 := e3.trans e4
            exact ⟨acc, ds, m2.trans (hid_mono e34), f2.trans e34, e34 _ _ hL, ra.mono (hid_mono e34), c2⟩
          | true =>
            simp only at c2
            rw [if_pos rfl]
            refine he B H0 (L :: O) σ3 D1 H4 (s3.mono e4) _ ?_
            cases ee : xe D1 with
            | bad => rw [ee] at c2; cases c2
            | ex c fs => rw [ee] at c2; cases c2
            | ok y =>
              rw [ee] at c2
              simp only at c2
              intro v H5 e5 ry
              split at c2
              · rename_i hz
                have e345 := (e3.trans e4).trans e5
                have hup : hid [L] (upd H5 L (.lst (acc ++ [v]))) = hid [L] H5 := hid_upd (List.mem_singleton.mpr rfl)
                have hup2 : hid (L :: O) (upd H5 L (.lst (acc ++ [v]))) = hid (L :: O) H5 := hid_upd List.mem_cons_self
                refine ⟨acc, e345 _ _ hL, sz_lt (by rw [ra.len]; exact hz), acc ++ [v], ds ++ [y], by rw [hup]; exact m2.trans (hid_mono e345), ?_, upd_same, by rw [hup2]; exact (ra.mono (hid_mono e345)).app (RepL.one ry), c2⟩
                intro a o ha
                rw [upd_ne (ne_of_none ha nL)]
                exact e345 _ _ (f2 _ _ ha)
              · cases c2
  · have hi' : i = l.length := by omega
    refine .inl ⟨g'.2 hi', ?_⟩
    rw [hi', List.drop_length] at c2
    simp only [xComp, R.ok.injEq] at c2
    subst c2
    exact fin acc H2 m2 f2 hL ra
theorem simL_lc2 {wi wi1 : TI} {g g1 : TG} {tt tt1 : TT} {te : TE} {vs vs1 : List Nat} {xi xi1 : XA} {xg xg1 : XG} {xt xt1 : XT} {xe : XE} {E0 : XK} (hi : SimI K cl E wi xi) (hg : SimG2 K cl vs g xg) (ht : SimT K cl (fun _ => E0) tt xt)
    (hi1 : SimI K cl (fun _ => E0) wi1 xi1) (hg1 : SimGW K cl vs1 g1 xg1) (ht1 : SimT K cl (fun _ => E0) tt1 xt1) (he : Sim K cl (fun _ => E0) te xe) :
    SimL K cl E (tLc2 wi g tt wi1 g1 tt1 te vs vs1) (xLc2 xi xg xt xi1 xg1 xt1 xe vs vs1) := fun B H0 O σ D H s Q q => by
  unfold xLc2 at q
  refine hi B H0 O σ D H s _ ?_
  cases e : xi D with
  | bad => rw [e] at q; exact q.elim
  | ex c fs => rw [e] at q; exact q
  | ok l =>
    rw [e] at q
    simp only [Mx.R.bind] at q
    intro J H1 e1 go L nL
    cases ec : xComp2 xg xt xi1 xg1 xt1 xe vs1 (wipeD D vs) l [] with
    | bad => rw [ec] at q; exact q.elim
    | ex c fs => exact (xComp2_ex _ _ ec).elim
    | ok res =>
      rw [ec] at q
      have s1 := (s.mono e1).wipe vs
      have hu : hid [L] (upd H1 L (.lst [])) = hid [L] H1 := hid_upd (List.mem_singleton.mpr rfl)
      have hH1 : hid [L] H1 = H1 := by
        funext a
        unfold hid
        split
        · rename_i h; rw [List.mem_singleton.mp h, nL]
        · rfl
      refine ⟨fun i m H2 => m = l.length - i ∧ i ≤ l.length ∧ ∃ acc ds, RS K cl B H0 O (L2.wipe σ vs) (wipeD D vs) (hid [L] H2) ∧ Same H1 H2 ∧ H2 L = some (.lst acc) ∧ RepL K cl (hid (L :: O) H2) acc ds ∧ xComp2 xg xt xi1 xg1 xt1 xe vs1 (wipeD D vs) (l.drop i) ds = .ok res,
        ⟨l.length, rfl, Nat.zero_le _, [], [], by rw [hu, hH1]; exact s1, same_upd nL, upd_same, .nil, ec⟩, ?_⟩
      rintro i m H2 ⟨rfl, hle, acc, ds, s2, f2, hL, ra, c2⟩
      have sO := s2.addOwn hL ra
      have fO : Same (hid O H1) (hid (L :: O) H2) := hid_new f2 nL
      have g' := go i (L :: O) H2 sO.same fO sO.trk
      by_cases hlt : i < l.length
      · have hd : l.drop i = l[i] :: l.drop (i + 1) := List.drop_eq_getElem_cons hlt
        rw [hd] at c2
        unfold xComp2 at c2
        refine .inr ⟨(g'.1 _ (List.getElem?_eq_getElem hlt)).1, fun H3 => ∃ acc ds, RS K cl B H0 O (L2.wipe σ vs) (wipeD D vs) (hid [L] H3) ∧ Same H1 H3 ∧ H3 L = some (.lst acc) ∧ RepL K cl (hid (L :: O) H3) acc ds ∧ xComp2 xg xt xi1 xg1 xt1 xe vs1 (wipeD D vs) (l.drop (i + 1)) ds = .ok res, ?_, ?_⟩
        · rintro H3 ⟨acc, ds, a, b, c, d, f⟩
          exact ⟨_, by omega, rfl, hlt, acc, ds, a, b, c, d, f⟩
        · intro x H3 y
          obtain ⟨e3, rx⟩ := (g'.1 _ (List.getElem?_eq_getElem hlt)).2 x H3 y
          cases eg : xg l[i] (wipeD D vs) with
          | bad => rw [eg] at c2; cases c2
          | ex c fs => rw [eg] at c2; cases c2
          | ok D1 =>
            rw [eg] at c2
            simp only at c2
            refine hg B H0 (L :: O) _ _ H3 (sO.mono e3) x _ rx _ D1 eg fun σ3 s3 t3 w3 => ⟨by rw [w3, wipe_idem], ?_⟩
            have s3L : RS K cl B H0 O σ3 D1 (hid [L] H3) := t3 O _ (by rw [hid_cons]; exact Same.refl _) (s2.mono (hid_mono e3))
            refine ht B H0 (L :: O) σ3 D1 H3 s3 _ ?_
            cases et : xt D1 with
            | bad => rw [et] at c2; cases c2
            | ex c fs => rw [et] at c2; cases c2
            | ok b =>
              rw [et] at c2
              intro H4 e4
              have e34 := e3.trans e4
              cases b with
              | false =>
                simp only at c2
                exact ⟨acc, ds, s2.mono (hid_mono e34), f2.trans e34, e34 _ _ hL, ra.mono (hid_mono e34), c2⟩
              | true =>
                simp only at c2
                rw [if_pos rfl]
                refine hi1 B H0 (L :: O) σ3 D1 H4 (s3.mono e4) _ ?_
                cases ee : xi1 D1 with
                | bad => rw [ee] at c2; cases c2
                | ex c fs => rw [ee] at c2; cases c2
                | ok l1 =>
                  rw [ee] at c2
                  simp only at c2
                  intro J1 H5 e5 go1
                  have e345 := e34.trans e5
                  cases er : xComp xg1 xt1 xe (wipeD D1 vs1) l1 ds with
                  | bad => rw [er] at c2; cases c2
                  | ex c fs => rw [er] at c2; cases c2
                  | ok r2 =>
                    rw [er] at c2
                    simp only at c2
                    exact lc_in hg1 ht1 he nL (s3L.mono (hid_mono (e4.trans e5))) (f2.trans e345) (e345 _ _ hL) (ra.mono (hid_mono e345)) go1 er _ fun acc2 H6 m6 f6 h6 r6 =>
                      ⟨acc2, r2, s2.mono ((hid_mono e345).trans m6), f6, h6, r6, c2⟩
      · have hi' : i = l.length := by omega
        refine .inl ⟨g'.2 hi', ?_⟩
        rw [hi', List.drop_length] at c2
        simp only [xComp2, R.ok.injEq] at c2
        subst c2
        exact q L acc H2 (e1.trans f2) (e1.free nL) hL ra
/-! ### key in a dict with tuple keys -/
@[simp] def xDin (xk xd : XE) : XE := fun D => (xk D).bind fun k => (dKeyT k).bind fun ks => (xd D).bind fun d => (dDt d).bind fun l => .ok (.bl (getG l ks).isSome)
theorem sim_din {td tk : TE} {xd xk : XE} (hk : Sim K cl E tk xk) (hd : SimB K cl E td xd) : Sim K cl E (tDIn tk td) (xDin xk xd) := fun B H0 O σ D H s Q q => by
  unfold xDin at q
  refine hk B H0 O σ D H s _ ?_
  cases ek : xk D with
  | bad => rw [ek] at q; exact q.elim
  | ex c fs => rw [ek] at q; exact q
  | ok k =>
    rw [ek] at q
    simp only [Mx.R.bind] at q
    intro w H1 e1 rk
    cases eK : dKeyT k with
    | bad => rw [eK] at q; exact q.elim
    | ex c fs => exact (dKeyT_ex eK).elim
    | ok ks =>
      rw [eK] at q
      simp only [Mx.R.bind] at q
      obtain ⟨b, rfl, hb⟩ := dKeyT_rep rk eK
      refine hd B H0 O σ D H1 (s.mono e1) _ ?_
      cases e : xd D with
      | bad => rw [e] at q; exact q.elim
      | ex c fs => rw [e] at q; exact ExOk.mono e1 q
      | ok d =>
        rw [e] at q
        simp only [Mx.R.bind] at q
        cases edt : dDt d with
        | bad => rw [edt] at q; exact q.elim
        | ex c fs => exact (dDt_ex edt).elim
        | ok l =>
          rw [edt] at q
          simp only [Mx.R.bind] at q
          have := dDt_eq edt
          subst this
          intro v H2 e2 rd
          obtain ⟨a, kv, rfl, ha, hkeys, ra⟩ := rd
          have hb3 : H2 b = some (.tup (ks.map kV)) := e2 _ _ (hid_same _ _ _ _ hb)
          refine ⟨a, _, rfl, DGet.t ha hb3, ?_⟩
          have e3 : (valV kv ks).isSome = (getG l ks).isSome := by
            rw [getG_valV]
            rcases getG_rep (k := ks) hkeys (repL_at ra) with ⟨h1, h2⟩ | ⟨a', b', h1, h2, h3⟩
            · rw [h1, h2]; rfl
            · rw [h1, h2]; rfl
          rw [e3]
          exact q _ H2 (e1.trans e2) (.bl _)
/-! ### str of an int or of a text -/
def rStrB : List V → Hp → VK → Prop := fun xs H Q => rStrI xs H Q ∨ ∃ a, xs = [V.str a] ∧ Q (.str a) H
theorem call_strB {X : Cx} : CallR X (.type "str") rStrB := fun pins s σ H xs us Q I r h => h.elim (fun h => call_strA pins s σ H xs us Q I r h) fun h => SkE.call_str_str pins s σ H xs us Q I r h
@[simp] def dStr2 : List Dt → R Dt
  | [.int i] => dStr [.int i]
  | [.str a] => .ok (.str a)
  | _ => .bad
theorem cs_strB : CaS K cl rStrB dStr2 := fun O H xs ds E ho r Q q => by
  unfold dStr2 at q
  split at q
  · exact .inl (cs_str O H xs _ E ho r Q q)
  · obtain ⟨v, rfl, rv⟩ := r.one
    cases rv
    exact .inr ⟨_, rfl, q _ H (Same.refl H) (.str _)⟩
  · exact q.elim
end
end Mx
namespace Mx
open PySem PySem.Spec PyProof.Rows L2
section
variable {K : Fr} {cl : Cl} {E : L2.St → XK} {E0 : XK} {H H' H1 H0 : Hp} {O O' : List Addr} {σ : L2.St} {D : Ds} {B : List Addr}
/-! ### an exception is handled -/
def Sl.isXc : Sl → Bool
  | .xc _ _ => true
  | _ => false
def noXc (D : Ds) : Bool := D.all fun s => !s.isXc
abbrev hCl (cl : Cl) (x : Option (Addr × Value × Option Addr)) : Cl := ⟨cl.of, x⟩
theorem slot_any {x y : Option (Addr × Value × Option Addr)} {v : Option (Option V)} : ∀ {s : Sl}, s.isXc = false → SlotOk K (hCl cl x) H0 O H v s → SlotOk K (hCl cl y) H0 O H v s
  | .no, _, _ => True.intro
  | .sh _, _, h => h
  | .ol _, _, ⟨a, e, m, vs, h, r⟩ => ⟨a, e, m, vs, h, r⟩
  | .oi _ _ _, _, ⟨a, e, m, C, dx, fv, c, h, k, r⟩ => ⟨a, e, m, C, dx, fv, c, h, k, r⟩
  | .ok _, _, ⟨a, e, m, vs, h, k, r⟩ => ⟨a, e, m, vs, h, k, r⟩
  | .ot _, _, ⟨a, e, m, vs, h, k, r⟩ => ⟨a, e, m, vs, h, k, r⟩
  | .xc _ _, n, _ => by cases n
  | .br _, _, ⟨a, xs, e, m, h0, r⟩ => ⟨a, xs, e, m, h0, r⟩
  | .ow _, _, _ => True.intro
mutual
theorem Tr.any {x y : Option (Addr × Value × Option Addr)} {Hh : Hp} : ∀ {v : V} {t : Ow} {F : List Addr}, Tr K (hCl cl x) H Hh v t F → Tr K (hCl cl y) H Hh v t F
  | _, _, _, .sh r => .sh r
  | _, _, _, .ol h r => .ol h (TrL.any r)
  | _, _, _, .oi c h k r => .oi c h k (TrL.any r)
theorem TrL.any {x y : Option (Addr × Value × Option Addr)} {Hh : Hp} : ∀ {vs : List V} {ts : List Ow} {F : List Addr}, TrL K (hCl cl x) H Hh vs ts F → TrL K (hCl cl y) H Hh vs ts F
  | _, _, _, .nil => .nil
  | _, _, _, .cons h r => .cons (Tr.any h) (TrL.any r)
end
theorem Inn.any {x y : Option (Addr × Value × Option Addr)} (h : Inn K (hCl cl x) H0 O σ D H) : Inn K (hCl cl y) H0 O σ D H := by
  obtain ⟨Fs, h⟩ := h
  refine ⟨Fs, fun i t e => ?_⟩
  obtain ⟨⟨v, hv, tr⟩, r⟩ := h i t e
  exact ⟨⟨v, hv, tr.any⟩, r⟩
theorem noXc_at (h : noXc D = true) {i : Nat} {s : Sl} (e : D[i]? = some s) : s.isXc = false := by
  have := List.all_eq_true.mp h s (List.mem_of_getElem? e)
  simpa using this
theorem RS.any {x y : Option (Addr × Value × Option Addr)} (s : RS K (hCl cl x) B H0 O σ D H) (n : noXc D = true) : RS K (hCl cl y) B H0 O σ D H where
  same := s.same
  bas := s.bas
  own := s.own
  len := s.len
  slot := fun i t e => slot_any (noXc_at n e) (s.slot i t e)
  inj := s.inj
  inn := s.inn.any
theorem RS.catch {a C : Addr} {d : Option Addr} {i : Nat} {c : Str} {fs : List (Str × Dt)} (s : RS K cl B H0 O σ D H) (n : noXc D = true) (x : XcAt K (hCl cl (some (a, .ref C, d))) (hid O H) (some (some (.ref a))) c fs) :
    RS K (hCl cl (some (a, .ref C, d))) B H0 O (σ.set i (some (.ref a))) (D.set i (.xc c fs)) H where
  same := s.same
  bas := s.bas
  own := s.own
  len := by rw [List.length_set, List.length_set]; exact s.len
  slot := fun j t e => by
    rcases set_get e with ⟨rfl, rfl, hl⟩ | ⟨hj, e'⟩
    · rw [List.getElem?_set_self (by rw [s.len]; exact hl)]
      exact x
    · rw [List.getElem?_set_ne (Ne.symm hj)]
      exact slot_any (x := cl.xc) (noXc_at n e') (s.slot j t e')
  inj := fun j k t u b hjk e1 e2 o1 o2 h1 => by
    rcases set_get e1 with ⟨rfl, rfl, _⟩ | ⟨hj, e1'⟩
    · cases o1
    · rcases set_get e2 with ⟨rfl, rfl, _⟩ | ⟨hk, e2'⟩
      · cases o2
      · rw [List.getElem?_set_ne (Ne.symm hj)] at h1
        rw [List.getElem?_set_ne (Ne.symm hk)]
        exact s.inj j k t u b hjk e1' e2' o1 o2 h1
  inn := (s.inn.any (x := cl.xc)).put i (some (.ref a)) (.xc c fs) (fun t e => by cases e) (fun e => by cases e)
def Out.endX (i : Nat) : Out → Out
  | .nx D => if noXc (D.set i .no) = true then .nx (D.set i .no) else .bad
  | .bk D => if noXc (D.set i .no) = true then .bk (D.set i .no) else .bad
  | .ct D => if noXc (D.set i .no) = true then .ct (D.set i .no) else .bad
  | .rt d => .rt d
  | _ => .bad
@[simp] theorem endX_rt (i : Nat) (d : Dt) : Out.endX i (.rt d) = .rt d := rfl
@[simp] theorem endX_nx (i : Nat) (D : Ds) : Out.endX i (.nx D) = if noXc (D.set i .no) = true then .nx (D.set i .no) else .bad := rfl
/-- try: .. except C as e: .. -/
def Out.tryAs (i : Nat) (cs ns : List Str) (xh : XS) : Out → Out
  | .ex c fs D => if c ∈ cs then (if noXc D = true then Out.endX i (xh (D.set i (.xc c fs))) else .bad) else if c ∈ ns then .ex c fs D else .bad
  | o => o
@[simp] theorem tryAs_ex (i : Nat) (cs ns : List Str) (xh : XS) (c : Str) (fs : List (Str × Dt)) (D : Ds) :
    Out.tryAs i cs ns xh (.ex c fs D) = if c ∈ cs then (if noXc D = true then Out.endX i (xh (D.set i (.xc c fs))) else .bad) else if c ∈ ns then .ex c fs D else .bad := rfl
@[simp] theorem tryAs_rt (i : Nat) (cs ns : List Str) (xh : XS) (d : Dt) : Out.tryAs i cs ns xh (.rt d) = .rt d := rfl
@[simp] theorem tryAs_nx (i : Nat) (cs ns : List Str) (xh : XS) (D : Ds) : Out.tryAs i cs ns xh (.nx D) = .nx D := rfl
@[simp] def xsTryAs (i : Nat) (cs ns : List Str) (xb xh : XS) : XS := fun D => (xb D).tryAs i cs ns xh
/-- what the clause asks of the classes -/
def Catch (K : Fr) (cl : Cl) (c0 : Value) (b : Bool) : List Str → Prop
  | [] => True
  | c :: r => (∀ C, cl c = some C → PySem.W.exmOne K (.ref C) c0 = some b) ∧ Catch K cl c0 b r
theorem Catch.get {c0 : Value} {b : Bool} : ∀ {l : List Str}, Catch K cl c0 b l → ∀ {c : Str}, c ∈ l → ∀ {C : Addr}, cl c = some C → PySem.W.exmOne K (.ref C) c0 = some b
  | _ :: _, ⟨h, r⟩, c, m, C, e => (List.mem_cons.mp m).elim (fun q => by subst q; exact h C e) fun q => r.get q e
theorem catch_nil {c0 : Value} {b : Bool} : Catch K cl c0 b [] := True.intro
theorem catch_one {c0 : Value} {b : Bool} {c : Str} {C : Addr} {l : List Str} (hc : cl c = some C) (h : PySem.W.exmOne K (.ref C) c0 = some b) (r : Catch K cl c0 b l) : Catch K cl c0 b (c :: l) :=
  ⟨fun C' e => by rw [hc] at e; cases e; exact h, r⟩
/-- the reading of the whole statement -/
def tTryAs (K : Fr) (c0 : Value) (i : Nat) (tb : WX → TS) (ts : Addr → Value → Option Addr → TS) (Wout : WX) : TS := fun En σ H => tb (wAs K c0 i ts Wout En) En σ H
theorem ps_tryAsM {X : Cx} {x n : Str} {c : Value} {i : Nat} {body suite : List Stmt} {b0 : Stmt} {np pos pos' : Pos} {tb : WX → TS} {ts : Addr → Value → Option Addr → TS} {Wout : WX} (hs : X.stack = X.env :: X.outer) (hf : X.env.frame = some X.env.locals) (hN : X.N.Nodup)
    (hi : X.N[i]? = some n) (hln : X.env.kindOf n = some .local) (hc : Names X x c) (tk : L2.Takes X Wout)
    (hb : ∀ (W : WX) (pn : List (Addr × Obj)) (xe : Value → Shared → Prop), L2.Takes (X.tr pn xe) W → PassesOwn (model X.prog X.w) X.A X.env xe → PSs (X.tr pn xe) body (tb W))
    (hsu : ∀ (a : Addr) (oe : Obj) (cls : Value) (d : Option Addr) (pn : List (Addr × Obj)), Zc cls d oe → (∃ vs, oe.data = .fields vs) → PSs (X.suite a ((a, oe) :: pn)) (b0 :: suite) (ts a cls d)) :
    PS X (.Try body [.ExceptHandler (some (.Name x np)) (some n) (b0 :: suite) pos'] [] [] pos) (tTryAs X.K c i tb ts Wout) := ps_try_as hs hf hN hi hln hc tk hb hsu
theorem ss_tryAs {i : Nat} {cs ns : List Str} {c0 : Value} {tb : WX → TS} {ts : Addr → Value → Option Addr → TS} {xb xh : XS} {E1 : L2.St → XK} (hcs : Catch K cl c0 true cs) (hns : Catch K cl c0 false ns)
    (hb : ∀ W : WX, SimS K cl (WE W) (tb W) xb) (hs : ∀ (a C : Addr) (d : Option Addr), SimS K (hCl cl (some (a, .ref C, d))) E1 (ts a (.ref C) d) xh) :
    SimS K cl (fun _ => E0) (tTryAs K c0 i tb ts (fun cls d _ H => E0 cls d H)) (xsTryAs i cs ns xb xh) := fun B H0 O σ D H s En q => by
  unfold xsTryAs at q
  unfold tTryAs
  refine hb _ B H0 O σ D H s En ?_
  cases e : xb D with
  | bad => rw [e] at q; exact q.elim
  | nx D => rw [e] at q; exact q
  | bk D => rw [e] at q; exact q
  | ct D => rw [e] at q; exact q
  | rt d => rw [e] at q; exact q
  | ex c fs D1 =>
    rw [e] at q
    rw [tryAs_ex] at q
    intro O2 σ2 H2 s2 f2
    have key : ∀ (b : Bool), (∀ C, cl c = some C → PySem.W.exmOne K (.ref C) c0 = some b) → (∀ (H3 : Hp) (C : Addr) (d : Option Addr), b = true → Same H2 H3 → cl c = some C → ((d = none ∧ fs = []) ∨ ∃ dd fv, d = some dd ∧ hid O2 H3 dd = some (.xd fv) ∧ fv.map (·.1) = fs.map (·.1) ∧ RepL K cl (hid O2 H3) (fv.map (·.2)) (fs.map (·.2))) → ∀ a,
        ts a (.ref C) d { nx := fun σ' H' => En.nx (σ'.set i none) H', rt := En.rt, bk := fun σ' H' => En.bk (σ'.set i none) H', ct := fun σ' H' => En.ct (σ'.set i none) H' } (σ2.set i (some (.ref a))) H3) →
        (b = false → ExOk K cl E0 O2 c fs H2) → ExOk K cl (WE (wAs K c0 i ts (fun cls d _ H => E0 cls d H) En) σ2) O2 c fs H2 := fun b hb1 hyes hno C hC => by
      refine ⟨fun z H3 e3 => ⟨b, hb1 C hC, fun hb a na => hyes H3 C none hb e3 hC (.inl ⟨rfl, z⟩) a, fun hb => ((hno hb) C hC).1 z H3 e3⟩, fun H3 dd fv e3 hd hk r => ⟨b, hb1 C hC, fun hb a na => hyes H3 C (some dd) hb e3 hC (.inr ⟨dd, fv, rfl, ?_, hk, r⟩) a, fun hb => ((hno hb) C hC).2 H3 dd fv e3 hd hk r⟩⟩
      have nd : dd ∉ O2 := fun m => by
        have z := ((s2.mono e3).own dd m).2
        rw [hd] at z
        cases z
      rw [hid_nin nd]
      exact hd
    split at q
    · rename_i hm
      split at q
      · rename_i hn
        refine key true (fun C hC => hcs.get hm hC) (fun H3 C d _ e3 hC hx a => ?_) (fun z => by cases z)
        have s3 : RS K (hCl cl (some (a, .ref C, d))) B H0 O2 (σ2.set i (some (.ref a))) (D1.set i (.xc c fs)) H3 := (s2.mono e3).catch hn ⟨a, C, d, rfl, rfl, hC, hx⟩
        refine hs a C d B H0 O2 _ _ H3 s3 _ ?_
        have f3 : Same (hid O H) (hid O2 H3) := f2.trans (hid_mono e3)
        cases eh : xh (D1.set i (.xc c fs)) with
        | bad => rw [eh] at q; exact q.elim
        | ex c' fs' D2 => rw [eh] at q; exact q.elim
        | rt d2 => rw [eh] at q; exact q
        | nx D2 =>
          rw [eh] at q
          intro O4 σ4 H4 s4 f4
          simp only [Out.endX] at q
          split at q
          · rename_i hn2
            exact q O4 _ H4 ((s4.setNo i none).any (x := some (a, .ref C, d)) (y := cl.xc) hn2) (f3.trans f4)
          · exact q.elim
        | bk D2 =>
          rw [eh] at q
          intro O4 σ4 H4 s4 f4
          simp only [Out.endX] at q
          split at q
          · rename_i hn2
            exact q O4 _ H4 ((s4.setNo i none).any (x := some (a, .ref C, d)) (y := cl.xc) hn2) (f3.trans f4)
          · exact q.elim
        | ct D2 =>
          rw [eh] at q
          intro O4 σ4 H4 s4 f4
          simp only [Out.endX] at q
          split at q
          · rename_i hn2
            exact q O4 _ H4 ((s4.setNo i none).any (x := some (a, .ref C, d)) (y := cl.xc) hn2) (f3.trans f4)
          · exact q.elim
      · exact q.elim
    · split at q
      · rename_i hm
        exact key false (fun C hC => hns.get hm hC) (fun _ _ _ z => by cases z) (fun _ => q O2 σ2 H2 s2 f2)
      · exact q.elim
/-! ### isinstance(e, C), e handled -/
/-- what the class of an exception must say -/
structure ExcE (K : PySem.W.Frag) (D : Addr) : Prop where
  c : (PySem.W.clsIn K D).isSome = true
  g : PySem.W.findIn K (.ref D) "__getattribute__" = some (some (.builtin "BaseException.__getattribute__"))
  k : PySem.W.findIn K (.ref D) "__getattr__" = some none
  s : PySem.W.subIn K (.ref D) (.type "BaseException") = some true
  a : PySem.W.findIn K (.ref D) "__class__" = some (some (.builtin "object.__class__"))
  n : PySem.W.specialIn K (.builtin "object.__class__") "__get__" = some (some (.builtin "getset_descriptor.__get__"))
  t : PySem.W.takesIn K (.builtin "object.__class__") = some true
  m : PySem.W.mroIn K D (.type "object") = some true
def rIsX (K : PySem.W.Frag) (a : Addr) (cls : Value) (d : Option Addr) : List V → Hp → VK → Prop := fun xs H Q => ∃ (D : Addr) (c : V) (cv : Value) (b : Bool), xs = [V.ref a, c] ∧ cls = .ref D ∧ ExcE K D ∧ ClsV c cv ∧ PySem.W.kitOne K (.ref D) cv = some b ∧
  (d = none ∨ ∃ dd fv, d = some dd ∧ H dd = some (.xd fv)) ∧ Q (.bl b) H
theorem call_isX {X : Cx} {a : Addr} {cls : Value} {d : Option Addr} {oe : Obj} {pn : List (Addr × Obj)} (hz : Zc cls d oe) (hf : ∃ vs, oe.data = .fields vs) : CallR (X.suite a ((a, oe) :: pn)) (.builtin "isinstance") (rIsX X.K a cls d) := by
  intro pins s σ H xs us Q I r h
  obtain ⟨D, c, cv, b, rfl, rfl, T, hc, e, hd, q⟩ := h
  obtain ⟨u1, u2, rfl, r1, r2⟩ := vals2 r
  obtain rfl : u1 = Value.ref a := r1
  have e2 := hc.eq r2
  subst e2
  obtain ⟨hget, _⟩ := I.pin (a, oe) (List.mem_append.mpr (.inl List.mem_cons_self))
  obtain ⟨vs, hv⟩ := hf
  have J : ∃ od, PySem.W.InstAt s.heap a oe D od := by
    rcases hd with rfl | ⟨dd, fv, rfl, hx⟩
    · refine ⟨none, hget, hz.1, by unfold PySem.W.notCls; rw [hv], ?_⟩
      rw [hz.2]; trivial
    · obtain ⟨mA, hns, hr⟩ := (show ObjOk X.prog X.w H s.heap dd (.xd fv) from I.hok dd _ hx)
      obtain ⟨od, ho, hl⟩ := lookIn_ns hns
      refine ⟨some od, hget, hz.1, by unfold PySem.W.notCls; rw [hv], ?_⟩
      rw [hz.2]; exact ho
  obtain ⟨od, J⟩ := J
  exact PySem.W.kia_one (PySem.W.kitx_exc T.c T.g T.k T.s T.a T.n T.t T.m) I.kIn J e (fun z => nomatch z) fun tk => ⟨.bl b, H, I.kept (t' := tk) fun _ _ z => z, rfl, q⟩
/-- the classes that may come, and what isinstance says of them -/
def IsTab (K : Fr) (cl : Cl) (cv : Value) : List (Str × Bool) → Prop
  | [] => True
  | p :: r => (∀ C, cl p.1 = some C → ExcE K C ∧ PySem.W.kitOne K (.ref C) cv = some p.2) ∧ IsTab K cl cv r
theorem IsTab.get {cv : Value} : ∀ {l : List (Str × Bool)} {c : Str} {b : Bool}, IsTab K cl cv l → l.lookup c = some b → ∀ {C : Addr}, cl c = some C → ExcE K C ∧ PySem.W.kitOne K (.ref C) cv = some b
  | p :: r, c, b, ⟨h, t⟩, e, C, hC => by
    rw [List.lookup_cons] at e
    cases q : c == p.1 with
    | true =>
      rw [q] at e
      have := eq_of_beq q
      subst this
      simp only [Option.some.injEq] at e
      subst e
      exact h C hC
    | false =>
      rw [q] at e
      exact t.get e hC
theorem tab_nil {cv : Value} : IsTab K cl cv [] := True.intro
theorem tab_one {cv : Value} {c : Str} {b : Bool} {C : Addr} {l : List (Str × Bool)} (hc : cl c = some C) (x : ExcE K C) (h : PySem.W.kitOne K (.ref C) cv = some b) (r : IsTab K cl cv l) : IsTab K cl cv ((c, b) :: l) :=
  ⟨fun C' e => by rw [hc] at e; cases e; exact ⟨x, h⟩, r⟩
def Sl.xc? : Option Sl → R (Str × List (Str × Dt))
  | some (.xc c fs) => .ok (c, fs)
  | _ => .bad
@[simp] theorem xc?_xc (c : Str) (fs : List (Str × Dt)) : Sl.xc? (some (.xc c fs)) = .ok (c, fs) := rfl
@[simp] def xIsX (i : Nat) (tab : List (Str × Bool)) : XE := fun D => (Sl.xc? D[i]?).bind fun p => (opt (tab.lookup p.1)).bind fun b => .ok (.bl b)
theorem sim_isX {i : Nat} {tab : List (Str × Bool)} {a C : Addr} {d : Option Addr} {c : V} {cv : Value} (hc : ClsV c cv) (ht : IsTab K cl cv tab) :
    Sim K (hCl cl (some (a, .ref C, d))) E (tCB (rIsX K a (.ref C) d) (tCons (tVar i) (tCons (tC c) tNil))) (xIsX i tab) := fun B H0 O σ D H s Q q => by
  unfold xIsX at q
  cases e : D[i]? with
  | none => rw [e] at q; exact q.elim
  | some t =>
    rw [e] at q
    cases t with
    | xc n fs =>
      simp only [xc?_xc, Mx.R.bind] at q
      cases el : tab.lookup n with
      | none => rw [el] at q; exact q.elim
      | some b =>
        rw [el] at q
        obtain ⟨a', C', d', e1, e2, e3, h⟩ := s.slot i _ e
        simp only [Option.some.injEq, Prod.mk.injEq, Value.ref.injEq] at e1
        obtain ⟨rfl, rfl, rfl⟩ := e1
        obtain ⟨x1, x2⟩ := ht.get el e3
        refine ⟨_, e2, C, c, cv, b, rfl, rfl, x1, hc, x2, ?_, q _ H (Same.refl H) (.bl b)⟩
        exact h.imp (fun z => z.1) fun ⟨dd, fv, h1, h2, _⟩ => ⟨dd, fv, h1, hid_same _ _ _ _ h2⟩
    | _ => exact q.elim
/-! ### e.f, e handled -/
def XfTab (K : Fr) (cl : Cl) (f : Str) : List Str → Prop
  | [] => True
  | c :: r => (∀ C, cl c = some C → XfC K C ∧ PySem.W.findIn K (.ref C) f = some none) ∧ XfTab K cl f r
end
end Mx
namespace L2
open PySem PySem.Spec PyProof.Rows PySem.W
section
variable {X : Cx} {CX : CXT} {k n : Nat} {C f : Addr} {fd : FuncData} {ps ks : List Str} {sp : Sp} {E : L2.St → XK}
/-- an operator of an object and an int, by the object's class's own def; what it lets out may speak of the slots -/
structure OwnT (K : Frag) (C f : Addr) (op : Operator) (T : String) : Prop where
  first : selfFirst K C = true
  at_ : findIn K (.ref C) (PySem.dunder op.info.2) = some (some (.ref f))
  fn : isFn K (.ref f) = true
  back : findIn K (.ref C) (dunderR op.info.2) = some none
  t1 : ∃ fo, findIn K (.type T) (PySem.dunder op.info.2) = some fo
  t2 : ∃ ro, findIn K (.type T) (dunderR op.info.2) = some ro
  sub : subIn K (.type T) (.ref C) = some false
def tOwnT (C : Addr) (sp : Sp) (E : L2.St → XK) (ta tb : TE) : TE := fun σ H Q => ta σ H fun x H1 => tb σ H1 fun y H2 => ∃ a dx fs i, x = .ref a ∧ y = .int i ∧ H2 a = some (.ins C dx fs) ∧ sp [.ref a, .int i] H2 Q (E σ)
theorem pe_ownT {a b : Expr} {op : Operator} {pos : Pos} {ta tb : TE} (T : OwnT X.K C f op "int") (F : FnOk X.prog X.w X.K X.mg X.base CX k f fd ps sp) (hr : Room k X.A) (hb : Binds X.K fd ps []) (hx : ∀ σ, PassesAt CX X σ (E σ)) (ha : PE X a ta) (hbb : PE X b tb) :
    PE X (.BinOp a op b pos) (tOwnT C sp E ta tb) := by
  refine ⟨fun pins s σ H Q I h => wpAny_BinOp (binT ha hbb I h fun v u s2 x y H2 I2 rx ry q => ?_)⟩
  obtain ⟨a, dx, fs, i, rfl, rfl, ea, q⟩ := q
  obtain rfl : v = Value.ref a := rx
  obtain ⟨mA, ob, _⟩ := ins_get I2.hok ea
  obtain ⟨od, J, _⟩ := ob.look
  have run := run_fnS (E := E) F hr hb (hx σ) I2 (us := [.ref a, u]) (vs := [.ref a, .int i]) (.cons rfl (.cons ry .nil)) q
  obtain ⟨t, rfl⟩ := ry
  obtain ⟨m, fr⟩ := I2.fr
  obtain ⟨fo, t1⟩ := T.t1; obtain ⟨ro, t2⟩ := T.t2
  exact ksp_binT fr I2.ok.mod.kin J rfl T.first T.at_ T.fn T.back (.inl rfl) t1 t2 T.sub (wpAny_mono run (fun z s' ⟨v, H', I', rv, q'⟩ => not_ni rv ⟨v, H', I', rv, q'⟩) fun _ _ z => z)
/-- C(..), what it lets out may speak of the slots -/
def tMakeKS (C : Addr) (n m : Nat) (sp : Sp) (gV : List V → List V → List V) (E : L2.St → XK) (t tk : TA) : TE := fun σ H Q => tMakeK C n m sp gV (E σ) t tk σ H Q
theorem pe_makeKS {x : Str} {p pos : Pos} {e : Expr} {es : List Expr} {kws : List Keyword} {t tk : TA} {g : List Value → List Value → List Value} {gV : List V → List V → List V} (M : Mk X.K C f) (F : FnOk X.prog X.w X.K X.mg X.base CX k f fd ps sp) (hr : Room (k + 1) X.A)
    (hg : Gl X x) (hm : X.mg x = some (.ref C)) (hb : KBn X.K fd ps (n + 1) ks g gV) (hx : ∀ σ, PassesAt CX X σ (E σ)) (ha : PA X (e :: es) t) (hkw : PK X kws tk)
    (hall : (backToKw pos (keywordEach kws X.env)).all (·.1.isSome) = true := by rfl) (hks : (backToKw pos (keywordEach kws X.env)).filterMap (·.1) = ks := by rfl) (hdb : (x == ("__debug__" : Str)) = false := by decide)
    (he : starEach (e :: es) X.env = (false, eval e X.env) :: starEach es X.env := by rfl) (hpl : ((backTo pos (starEach (e :: es) X.env)).any (·.1) || (backToKw pos (keywordEach kws X.env)).any (·.1.isNone)) = false := by rfl) :
    PE X (.Call (.Name x p) (e :: es) kws pos) (tMakeKS C n ks.length sp gV E t tk) := by
  refine ⟨fun pins s σ H Q I h => wpAny_Call_Name_kw (ld_glob I hg hm (PySem.W.callWith_KW (h₀ := X.base) I.ok.mod.kin M.kp hall (thn (ha.run pos pins s σ H _ I h) fun us s1 ⟨vs, H1, I1, r, q⟩ =>
    thn (hkw.run pos pins s1 σ H1 _ I1 q) fun ws s2 ⟨zs, H2, I2, rz, l1, l2, q2⟩ => ⟨I2.kIn, ?_⟩) hpl he) hdb)⟩
  rw [hks]
  have hq := q2 (s2.heap.objs.size + 1) s2.heap.objs.size (I2.hok.fresh (Nat.le_succ _)) (I2.hok.fresh (Nat.le_refl _)) (Nat.ne_of_lt (Nat.lt_succ_self _))
  have J := Inv.made (C := C) I2
  have rr := hb.rel (Paired.cons (show RelV (.ref (s2.heap.objs.size + 1)) (.ref (s2.heap.objs.size + 1)) from rfl) r) rz
  have ln : (Value.ref (s2.heap.objs.size + 1) :: us).length = n + 1 := by rw [List.length_cons, ← r.length, l1]
  refine wpAny_call (make_map (f := f) I2.kIn M.makes M.init (beq_iff_eq.mp M.fn) (codeAny_mono (F.run _ X.stack _ _ ⟨_ :: us, ks.zip ws⟩ _ _ _ (E σ) (hr.make C us (ks.zip ws)) (J.env0.make C us (ks.zip ws)) (hb.to _ _ ws J.kIn ln (rz.length.symm.trans l2)) rr hq) fun o s' z => ?_))
  match o, z with
  | .error e, z => exact hx σ pins _ _ e s' J z
  | .ok (.ret u), z =>
    obtain ⟨v, H', I3, rv, ev, q3⟩ := J.after z
    subst ev
    exact ⟨rv, ⟨V.ref _, H', I3, rfl, q3⟩⟩
  | .ok .next, z => exact z.elim
  | .ok .brk, z => exact z.elim
  | .ok .cont, z => exact z.elim
end
end L2
namespace Mx
open PySem PySem.Spec PyProof.Rows L2
section
variable {K : Fr} {cl : Cl} {E : L2.St → XK} {H H' H1 H0 : Hp} {O O' : List Addr} {σ : L2.St} {D : Ds} {B : List Addr}
def dOwnT (c : Str) (f : List Dt → R Dt) (o p : Dt) : R Dt := match o, p with
  | .ins c1 fs, .int i => if c1 = c then f [.ins c1 fs, .int i] else .bad
  | _, _ => .bad
theorem sim_ownT {c : Str} {C : Addr} {f : List Dt → R Dt} {ta tb : TE} {xa xb : XE} (hc : cl c = some C) (ha : Sim K cl E ta xa) (hb : Sim K cl E tb xb) :
    Sim K cl E (tOwnT C (PureSp K cl f) E ta tb) (x2 (dOwnT c f) xa xb) := fun B H0 O σ D H s Q q => by
  unfold x2 at q
  refine ha B H0 O σ D H s _ ?_
  cases ea : xa D with
  | bad => rw [ea] at q; exact q.elim
  | ex c' fs => rw [ea] at q; exact q
  | ok d =>
    rw [ea] at q
    simp only [R.bind] at q
    intro x H1 e1 rx
    refine hb B H0 O σ D H1 (s.mono e1) _ ?_
    cases eb : xb D with
    | bad => rw [eb] at q; exact q.elim
    | ex c' fs => rw [eb] at q; exact ExOk.mono e1 q
    | ok d2 =>
      rw [eb] at q
      simp only [R.bind] at q
      intro y H2 e2 ry
      unfold dOwnT at q
      split at q
      · split at q
        · rename_i hcc
          subst hcc
          have rx2 := rx.mono (hid_mono (O := O) e2)
          have rx3 := rx2
          cases ry with
          | int i =>
            cases rx2 with
            | ins k1 h1 k2 rr =>
              rw [hc] at k1
              cases k1
              exact ⟨_, _, _, _, rfl, rfl, hid_same O H2 _ _ h1, O, _, ((s.mono e1).mono e2).trk, .cons rx3 (.cons (.int _) .nil), post_E (e1.trans e2) q⟩
        · exact q.elim
      · exact q.elim
theorem sim_makeS {c : Str} {C : Addr} {n m : Nat} {f : List Dt → R (List (Str × Dt))} {gV : List V → List V → List V} {gD : List Dt → List Dt → List Dt} {ta tk : TA} {xa xk : XA} (hc : cl c = some C) (hg : ArgsOk n m gV gD)
    (ha : SimA K cl E ta xa) (hk : SimA K cl E tk xk) : Sim K cl E (tMakeKS C n m (InitSp K cl c f) gV E ta tk) (xMake c n m f gD xa xk) := fun B H0 O σ D H s Q q => by
  unfold xMake at q
  refine ha B H0 O σ D H s _ ?_
  cases ea : xa D with
  | bad => rw [ea] at q; exact q.elim
  | ex c fs => rw [ea] at q; exact q
  | ok ds =>
    rw [ea] at q
    simp only [Mx.R.bind] at q
    intro vs H1 e1 r1
    refine hk B H0 O σ D H1 (s.mono e1) _ ?_
    cases ek : xk D with
    | bad => rw [ek] at q; exact q.elim
    | ex c fs => rw [ek] at q; exact ExOk.mono e1 q
    | ok es =>
      rw [ek] at q
      simp only [Mx.R.bind] at q
      intro zs H2 e2 r2
      by_cases hl : ds.length = n ∧ es.length = m
      · rw [if_pos hl] at q
        have e12 := e1.trans e2
        have s2 := s.mono e12
        refine ⟨by rw [r1.len]; exact hl.1, by rw [r2.len]; exact hl.2, fun x dx nx nd ne => ?_⟩
        obtain ⟨rest, eg, rr⟩ := hg K cl (hid O H2) x vs zs ds es (by rw [r1.len]; exact hl.1) (by rw [r2.len]; exact hl.2) (r1.mono (hid_mono e2)) r2
        rw [eg]
        refine ⟨O, gD ds es, H2, x, dx, C, rest, hc, rfl, rfl, nx, nd, ne, s2.trk, rr, ?_⟩
        cases ef : f (gD ds es) with
        | bad => rw [ef] at q; exact q.elim
        | ex c fs => rw [ef] at q; exact ExOk.mono e12 q
        | ok fs =>
          rw [ef] at q
          intro H' dx' fv e3 hx hkeys rf
          refine ⟨rfl, q _ H' (e12.trans e3) (.ins (dx := dx') hc (by rw [hid_nin (trk_nin s2.trk nx)]; exact hx) hkeys (rf.mono (hid_sub fun a m => List.mem_cons_of_mem _ m)))⟩
      · rw [if_neg hl] at q
        exact q.elim
/-! ### isinstance(x, C), C an own class -/
structure InsE (K : Fr) (C : Addr) : Prop where
  cl : Cls K C
  ha : PySem.W.findIn K (.ref C) "__class__" = some (some (.builtin "object.__class__"))
  hn : PySem.W.specialIn K (.builtin "object.__class__") "__get__" = some (some (.builtin "getset_descriptor.__get__"))
  ht : PySem.W.takesIn K (.builtin "object.__class__") = some true
  hm : PySem.W.mroIn K C (.type "object") = some true
  no : PySem.W.kitOne K (.type "NoneType") (.ref C) = some false
  int : PySem.W.kitOne K (.type "int") (.ref C) = some false
  str : PySem.W.kitOne K (.type "str") (.ref C) = some false
  tup : PySem.W.kitOne K (.type "tuple") (.ref C) = some false
  lst : PySem.W.kitOne K (.type "list") (.ref C) = some false
def dIsO (c : Str) : Dt → R Dt
  | .ins c' _ => if c' = c then .ok (.bl true) else .bad
  | .non => .ok (.bl false)
  | .int _ => .ok (.bl false)
  | .str _ => .ok (.bl false)
  | .tup _ => .ok (.bl false)
  | .lst _ => .ok (.bl false)
  | _ => .bad
@[simp] theorem dIsO_non (c : Str) : dIsO c .non = .ok (.bl false) := rfl
@[simp] theorem dIsO_int (c : Str) (i : Int) : dIsO c (.int i) = .ok (.bl false) := rfl
@[simp] theorem dIsO_str (c : Str) (i : Str) : dIsO c (.str i) = .ok (.bl false) := rfl
@[simp] theorem dIsO_tup (c : Str) (i : List Dt) : dIsO c (.tup i) = .ok (.bl false) := rfl
@[simp] theorem dIsO_lst (c : Str) (i : List Dt) : dIsO c (.lst i) = .ok (.bl false) := rfl
@[simp] theorem dIsO_ins (c c' : Str) (fs : List (Str × Dt)) : dIsO c (.ins c' fs) = if c' = c then .ok (.bl true) else .bad := rfl
theorem sim_isO {c : Str} {C : Addr} {ta : TE} {xa : XE} (hc : cl c = some C) (T : InsE K C) (ha : SimB K cl E ta xa) : Sim K cl E (tCB (rIsi K) (tCons ta (tCons (tC (.ref C)) tNil))) (x1 (dIsO c) xa) := fun B H0 O σ D H s Q q => by
  unfold x1 at q
  refine ha B H0 O σ D H s _ ?_
  cases ea : xa D with
  | bad => rw [ea] at q; exact q.elim
  | ex c' fs => rw [ea] at q; exact q
  | ok d =>
    rw [ea] at q
    simp only [R.bind] at q
    intro x H1 e1 rx
    have go : ∀ (t : Value) (b : Bool), TyX K H1 x t → PySem.W.kitOne K t (.ref C) = some b → PostE K cl (E σ) O H Q (.ok (.bl b)) → rIsi K [x, .ref C] H1 Q := fun t b ty e q =>
      ⟨x, .ref C, t, .ref C, b, rfl, .own C, ty, e, q _ H1 e1 (.bl b)⟩
    cases d with
    | non => cases rx; exact go _ _ (.base .non) T.no q
    | int i => cases rx; exact go _ _ (.base (.int _)) T.int q
    | str i => cases rx; exact go _ _ (.base (.str _)) T.str q
    | tup l => obtain ⟨a, vs, rfl, h, _⟩ := rx; exact go _ _ (.base (.tup h)) T.tup q
    | lst l => obtain ⟨a, vs, rfl, h, _⟩ := rx; exact go _ _ (.base (.lst h)) T.lst q
    | ins c' fs =>
      rw [dIsO_ins] at q
      split at q
      · rename_i e
        subst e
        obtain ⟨a, C', dx, fv, rfl, c1, h1, hk, rr⟩ := rx
        rw [hc] at c1
        cases c1
        exact go (.ref C) true (.base (.ins h1 T.cl T.ha T.hn T.ht T.hm)) (by unfold PySem.W.kitOne; rw [if_pos (beq_self_eq_true _)]) q
      · exact q.elim
    | _ => exact q.elim
/-! ### e.f, e handled -/
@[simp] def xXf (i : Nat) (n f : Str) : XE := fun D => (Sl.xc? D[i]?).bind fun p => if p.1 = n then opt (p.2.lookup f) else .bad
theorem sim_xf {i : Nat} {n f : Str} {a C C' : Addr} {d : Option Addr} (hc : cl n = some C) : Sim K (hCl cl (some (a, .ref C', d))) E (tXf a (.ref C') d C f (tVar i)) (xXf i n f) := fun B H0 O σ D H s Q q => by
  unfold xXf at q
  cases e : D[i]? with
  | none => rw [e] at q; exact q.elim
  | some t =>
    rw [e] at q
    cases t with
    | xc n' fs =>
      simp only [xc?_xc, Mx.R.bind] at q
      split at q
      · rename_i en
        subst en
        obtain ⟨a', C2, d', e1, e2, e3, h⟩ := s.slot i _ e
        simp only [Option.some.injEq, Prod.mk.injEq, Value.ref.injEq] at e1
        obtain ⟨rfl, rfl, rfl⟩ := e1
        have e4 : cl n' = some C' := e3
        rw [hc] at e4
        cases e4
        rcases h with ⟨h1, h2⟩ | ⟨dd, fv, h1, h2, hk, rr⟩
        · subst h2
          exact q.elim
        · cases el : fs.lookup f with
          | none => rw [el] at q; exact q.elim
          | some dv =>
            rw [el] at q
            obtain ⟨v, lv, rv⟩ := lookup_rep hk rr el
            exact ⟨_, e2, rfl, rfl, dd, fv, v, h1, hid_same _ _ _ _ h2, lv, q v H (Same.refl H) rv⟩
      · exact q.elim
    | _ => exact q.elim
end
end Mx
namespace Mx
open PySem PySem.Spec PyProof.Rows L2
section
variable {K : Fr} {cl : Cl} {E : L2.St → XK} {H H' H1 H0 : Hp} {O O' : List Addr} {σ : L2.St} {D : Ds} {B : List Addr}
/-! ### isinstance(e, (C, ..)), e handled -/
def rIsXT (K : PySem.W.Frag) (a : Addr) (cls : Value) (d : Option Addr) : List V → Hp → VK → Prop := fun xs H Q => ∃ (D tp : Addr) (cs : List V) (us : List Value) (b : Bool), xs = [V.ref a, .ref tp] ∧ H tp = some (.tup cs) ∧ cls = .ref D ∧ ExcE K D ∧ Paired ClsV cs us ∧
  PySem.W.kitAny K (.ref D) us = some b ∧ (d = none ∨ ∃ dd fv, d = some dd ∧ H dd = some (.xd fv)) ∧ Q (.bl b) H
theorem call_isXT {X : Cx} {a : Addr} {cls : Value} {d : Option Addr} {oe : Obj} {pn : List (Addr × Obj)} (hz : Zc cls d oe) (hf : ∃ vs, oe.data = .fields vs) : CallR (X.suite a ((a, oe) :: pn)) (.builtin "isinstance") (rIsXT X.K a cls d) := by
  intro pins s σ H xs us Q I r h
  obtain ⟨D, tp, cs, ws, b, rfl, hT, rfl, T, hc, e, hd, q⟩ := h
  obtain ⟨u1, u2, rfl, r1, r2⟩ := vals2 r
  obtain rfl : u1 = Value.ref a := r1
  obtain rfl : u2 = Value.ref tp := r2
  obtain ⟨hget, _⟩ := I.pin (a, oe) (List.mem_append.mpr (.inl List.mem_cons_self))
  obtain ⟨vs, hv⟩ := hf
  have J : ∃ od, PySem.W.InstAt s.heap a oe D od := by
    rcases hd with rfl | ⟨dd, fv, rfl, hx⟩
    · refine ⟨none, hget, hz.1, by unfold PySem.W.notCls; rw [hv], ?_⟩
      rw [hz.2]; trivial
    · obtain ⟨mA, hns, hr⟩ := (show ObjOk X.prog X.w H s.heap dd (.xd fv) from I.hok dd _ hx)
      obtain ⟨od, ho, hl⟩ := lookIn_ns hns
      refine ⟨some od, hget, hz.1, by unfold PySem.W.notCls; rw [hv], ?_⟩
      rw [hz.2]; exact ho
  obtain ⟨od, J⟩ := J
  obtain ⟨_, its, rv, o, h1, h2, n, h3⟩ := (show ObjOk X.prog X.w H s.heap tp (.tup cs) from I.hok tp _ hT)
  have e3 := ClsV.all hc rv
  subst e3
  obtain ⟨oc, od2, dt, sl⟩ := o
  simp only at h2 h3
  subst h2 h3
  exact PySem.W.kia_tup (PySem.W.kitx_exc T.c T.g T.k T.s T.a T.n T.t T.m) I.kIn J h1 e (fun z => nomatch z) fun tk => ⟨.bl b, H, I.kept (t' := tk) fun _ _ z => z, rfl, q⟩
def IsTabT (K : Fr) (cl : Cl) (us : List Value) : List (Str × Bool) → Prop
  | [] => True
  | p :: r => (∀ C, cl p.1 = some C → ExcE K C ∧ PySem.W.kitAny K (.ref C) us = some p.2) ∧ IsTabT K cl us r
theorem IsTabT.get {us : List Value} : ∀ {l : List (Str × Bool)} {c : Str} {b : Bool}, IsTabT K cl us l → l.lookup c = some b → ∀ {C : Addr}, cl c = some C → ExcE K C ∧ PySem.W.kitAny K (.ref C) us = some b
  | p :: r, c, b, ⟨h, t⟩, e, C, hC => by
    rw [List.lookup_cons] at e
    cases q : c == p.1 with
    | true =>
      rw [q] at e
      have := eq_of_beq q
      subst this
      simp only [Option.some.injEq] at e
      subst e
      exact h C hC
    | false =>
      rw [q] at e
      exact t.get e hC
theorem tabT_nil {us : List Value} : IsTabT K cl us [] := True.intro
theorem tabT_one {us : List Value} {c : Str} {b : Bool} {C : Addr} {l : List (Str × Bool)} (hc : cl c = some C) (x : ExcE K C) (h : PySem.W.kitAny K (.ref C) us = some b) (r : IsTabT K cl us l) : IsTabT K cl us ((c, b) :: l) :=
  ⟨fun C' e => by rw [hc] at e; cases e; exact ⟨x, h⟩, r⟩
theorem sim_isXT {i : Nat} {tab : List (Str × Bool)} {a C : Addr} {d : Option Addr} {cs : List V} {us : List Value} {ta : TA} (hta : ∀ σ H Q, ta σ H Q = Q cs H) (hl : cs.length ≤ 1000) (hc : Paired ClsV cs us) (ht : IsTabT K cl us tab) :
    Sim K (hCl cl (some (a, .ref C, d))) E (tCB (rIsXT K a (.ref C) d) (tCons (tVar i) (tCons (tTup ta) tNil))) (xIsX i tab) := fun B H0 O σ D H s Q q => by
  unfold xIsX at q
  cases e : D[i]? with
  | none => rw [e] at q; exact q.elim
  | some t =>
    rw [e] at q
    cases t with
    | xc n fs =>
      simp only [xc?_xc, Mx.R.bind] at q
      cases el : tab.lookup n with
      | none => rw [el] at q; exact q.elim
      | some b =>
        rw [el] at q
        obtain ⟨a', C', d', e1, e2, e3, h⟩ := s.slot i _ e
        simp only [Option.some.injEq, Prod.mk.injEq, Value.ref.injEq] at e1
        obtain ⟨rfl, rfl, rfl⟩ := e1
        obtain ⟨x1, x2⟩ := ht.get el e3
        refine ⟨_, e2, ?_⟩
        show ta σ H _
        rw [hta]
        refine ⟨by rw [sizeLine_eq]; omega, fun p np => ?_⟩
        refine ⟨C, p, cs, us, b, rfl, upd_same, rfl, x1, hc, x2, ?_, q _ _ (same_upd np) (.bl b)⟩
        exact h.imp (fun z => z.1) fun ⟨dd, fv, h1, h2, _⟩ => ⟨dd, fv, h1, (same_upd np) _ _ (hid_same _ _ _ _ h2)⟩
    | _ => exact q.elim
/-! ### a statement that is never reached -/
theorem ps_never {X : Cx} {st : Stmt} : PS X st (fun _ _ _ => False) := ⟨fun _ _ _ _ _ _ h => h.elim⟩
end
end Mx
namespace GX
open PySem PySem.SeqAt PySem.Spec
open AutoSeq1 (wpAny_loadPart')
open MeetsSeq MeetsSeq2 MeetsSeq3 SeqRoads2
section
variable {prog : Program} {w : World} {A : Around} {R : Result → Shared → Prop}
/-- x in a list whose items answer by defs of the text: at each turn the list is read anew -/
def InI (prog : Program) (w : World) (A : Around) (E : Value → Shared → Prop) (l : Addr) (x : Value) (N : Nat) (T : Shared → Prop) (I : Nat → Shared → Prop) : Prop :=
  ∀ i s, I i s → ∃ (items : Array Value) (n : Nat), s.heap.get? l = some { cls := .type "list", data := .seq items n } ∧ items.size = N ∧
    ∀ (h1 : i < items.size), wpAny (model prog w) A.in1 (eqBool items[i] x) (fun r s' => if r = true then T s' else I (i + 1) s') E s
theorem in_loopG (l : Addr) (x : Value) (N : Nat) (T : Shared → Prop) (I : Nat → Shared → Prop) (hl : InI prog w A (fun e s' => R (.error e) s') l x N T I)
    (finT : ∀ s, T s → R (.ok (.ret (.bool true))) s) (finF : ∀ s, I N s → R (.ok (.ret (.bool false))) s) (k : Nat) :
    ∀ i : Nat, N - i = k → i ≤ N → ∀ s, I i s →
      wpAny (model prog w) A.in1 (Builtin.«list.__contains__.loop» ⟨[.ref l, x, rawInt i], []⟩) (GQ.FinOf prog w A R) (fun e s' => R (.error e) s') s := by
  induction k with
  | zero =>
    intro i hk hi s h
    obtain ⟨items, n, hl1, hs1, _⟩ := hl _ _ h
    have hi' : i = N := by omega
    have hR : R (.ok (.ret (.bool false))) s := finF s (hi' ▸ h)
    obtain ⟨hp, g, d, tk, os⟩ := s
    wp_walk using wpAny_loadPart' hl1
    have hi1 : items[((i : Nat) : Int).toNat]? = none := by simp; omega
    rw [hi1]
    wp_walk
    exact hR
  | succ k ih =>
    intro i hk hi s h
    obtain ⟨items, n, hl1, hs1, turn⟩ := hl _ _ h
    have hlt : i < items.size := by omega
    have ht := turn hlt
    obtain ⟨hp, g, d, tk, os⟩ := s
    wp_walk using wpAny_loadPart' hl1
    have hi1 : items[((i : Nat) : Int).toNat]? = some items[i] := by simp [hlt]
    have hc : ((i : Int) + 1) = ((i + 1 : Nat) : Int) := by omega
    rw [hi1]
    refine wpAny_bind (wpAny_mono ht (fun r s2 h2 => ?_) fun _ _ x => x)
    cases r with
    | true =>
      have hR := finT s2 h2
      obtain ⟨hp2, g2, d2, tk2, os2⟩ := s2
      wp_walk
      exact hR
    | false =>
      have hrec := ih (i + 1) (by omega) (by omega) s2 h2
      obtain ⟨hp2, g2, d2, tk2, os2⟩ := s2
      wp_walk
      rw [hc]
      exact ⟨plainId_quiet plain_contains_loop _, codeAny_builtin entry_contains_loop (by
        rw [Around.under_plainId plain_contains_loop _]
        exact hrec)⟩
theorem list_inG (l : Addr) (x : Value) (N : Nat) (T : Shared → Prop) (I : Nat → Shared → Prop) (hl : InI prog w A (fun e s' => R (.error e) s') l x N T I)
    (finT : ∀ s, T s → R (.ok (.ret (.bool true))) s) (finF : ∀ s, I N s → R (.ok (.ret (.bool false))) s) {s : Shared} (h : I 0 s) :
    wpAny (model prog w) A.in1 (Builtin.«list.__contains__» ⟨[.ref l, x], []⟩) (GQ.FinOf prog w A R) (fun e s' => R (.error e) s') s := by
  obtain ⟨items, n, hl1, hs1, _⟩ := hl _ _ h
  have hrec := in_loopG (A := A) (R := R) l x N T I hl finT finF _ 0 rfl (Nat.zero_le _) s h
  obtain ⟨hp, g, d, tk, os⟩ := s
  wp_walk using wpAny_loadPart' hl1
  exact ⟨plainId_quiet plain_contains_loop _, codeAny_builtin entry_contains_loop (by
    rw [Around.under_plainId plain_contains_loop _]
    exact hrec)⟩
end
section
variable {prog : Program} {w : World} {A : Around} {E : Value → Shared → Prop} {s : Shared}
theorem op_inG {l : Addr} {x : Value} {N : Nat} {Q : Value → Shared → Prop} (T : Shared → Prop) (I : Nat → Shared → Prop) (hl : InI prog w A E l x N T I)
    (finT : ∀ s, T s → Q (.bool true) s) (finF : ∀ s, I N s → Q (.bool false) s) (h : I 0 s) : wpAny (model prog w) A (compareOp .In x (.ref l)) Q E s := by
  obtain ⟨items, n, hl1, hs1, _⟩ := hl _ _ h
  show wpAny _ _ (do return .bool (← contains (.ref l) x)) Q E s
  refine wpAny_bind (wpAny_contains_slot (T := "list") ⟨_, hl1, rfl⟩ F.slot_list_contains ?_)
  refine GQ.call_here F.slot_list_contains ⟨_, hl1, rfl⟩ F.entry_list_contains (F.args_list_contains_2 _ _) ?_
  exact list_inG (R := wants (fun v s' => wpAny (model prog w) A (truthy v) (fun b s'' => wpAny (model prog w) A (pure (Value.bool b)) Q E s'') E s') E) l x N T I hl (fun s' q => wpAny_truthy_bool (wpAny_pure (finT s' q))) (fun s' q => wpAny_truthy_bool (wpAny_pure (finF s' q))) h
theorem eqBool_noneG {b : Addr} {Q : Bool → Shared → Prop} (h : wpAny (model prog w) A (richCompare .Eq .none (.ref b)) (fun v s' => ∃ r, v = .bool r ∧ Q r s') E s) : wpAny (model prog w) A (eqBool .none (.ref b)) Q E s := by
  unfold eqBool
  refine wpAny_holding ?_
  refine wpAny_ite_split (fun hab => absurd (eq_of_beq hab) (by simp)) (fun _ => ?_)
  refine wpAny_bind (wpAny_mono h (fun v s' hv => ?_) fun _ _ x => x)
  obtain ⟨r, rfl, q⟩ := hv
  exact wpAny_truthy_bool q
end
end GX
namespace L2
open PySem PySem.Spec PyProof.Rows PySem.W
/-- what a class of the text with its own == says to ==, != and in -/
structure OwnQ (K : Frag) (C f : Addr) : Prop where
  at_ : findIn K (.ref C) "__eq__" = some (some (.ref f))
  fn : isFn K (.ref f) = true
  ne : findIn K (.ref C) "__ne__" = some (some (.builtin "object.__ne__"))
  obj : mroIn K C (.type "object") = some true
  non : mroIn K C (.type "NoneType") = some false
  int : notFirst K C (.type "int") = true
  str : notFirst K C (.type "str") = true
  bool : notFirst K C (.type "bool") = true
  tup : notFirst K C (.type "tuple") = true
  lst : notFirst K C (.type "list") = true
  nonR : notFirst K C (.type "NoneType") = true
theorem OwnQ.of {K : Frag} {C f : Addr} {T : Value} (h : subIn K T (.ref C) = some false) : notFirst K C T = true := by unfold notFirst; rw [h]; simp
theorem OwnQ.self {K : Frag} {C f : Addr} (_ : OwnQ K C f) : notFirst K C (.ref C) = true := by simp [notFirst]
section
variable {X : Cx} {CX : CXT} {k n : Nat} {C f : Addr} {fd : FuncData} {ps : List Str} {sp : Sp} {E : XK}
theorem run_fnIn {pins : List (Addr × Obj)} {σ : L2.St} {H : Hp} {s : Shared} {Q : VK} {us : List Value} {vs : List V} (F : FnOk X.prog X.w X.K X.mg X.base CX k f fd ps sp) (hr : Room (k + 1) X.A) (hb : Binds X.K fd ps []) (hx : Passes CX X E)
    (I : Inv X pins σ H s) (r : Vals vs us) (h : sp vs H Q E) : wpAny (model X.prog X.w) X.A.in1 (call (.ref f) us) (EP X pins σ Q) X.xe s := by
  have hl : us.length = ps.length := by rw [← r.length]; exact F.len _ _ _ _ h
  have hb2 := hb s us I.kIn (by rw [List.append_nil]; exact hl)
  rw [List.append_nil] at hb2
  refine wpAny_call (codeAny_mono (F.run X.A.in1 X.stack s H ⟨us, []⟩ us vs Q E hr.in1 I.env0.in1 hb2 r h) fun r s' hq => ?_)
  cases r with
  | error e => exact hx pins σ H s e s' I hq
  | ok fl =>
    cases fl with
    | ret u => exact I.after hq
    | next => exact False.elim hq
    | brk => exact False.elim hq
    | cont => exact False.elim hq
/-- a datum of a type that is not first -/
inductive EqR (K : Frag) (C : Addr) (H : Hp) : V → Prop
  | non : EqR K C H .non
  | int (i : Int) : EqR K C H (.int i)
  | str (x : Str) : EqR K C H (.str x)
  | bl (b : Bool) : EqR K C H (.bl b)
  | tup {a : Addr} {xs : List V} : H a = some (.tup xs) → EqR K C H (.ref a)
  | lst {a : Addr} {xs : List V} : H a = some (.lst xs) → EqR K C H (.ref a)
  | ins {a dx : Addr} {fs : List (Str × V)} : H a = some (.ins C dx fs) → EqR K C H (.ref a)
theorem EqR.look {pins : List (Addr × Obj)} {σ : L2.St} {H : Hp} {s : Shared} {x : V} {u : Value} (h : OwnQ X.K C f) (I : Inv X pins σ H s) (r : RelV x u) (e : EqR X.K C H x) :
    ∃ t, Looks (model X.prog X.w) s.heap (typeOf u) t ∧ notFirst X.K C t = true := by
  have go : ∀ t, TyX X.K H x t → notFirst X.K C t = true → ∃ t, Looks (model X.prog X.w) s.heap (typeOf u) t ∧ notFirst X.K C t = true := fun t ty nf => by
    obtain ⟨P, kx, p, _⟩ := kit_of I r ty
    exact ⟨t, kx.ty _ _ I.kIn p, nf⟩
  cases e with
  | non => exact go _ (.base .non) h.nonR
  | int i => exact go _ (.base (.int i)) h.int
  | str i => exact go _ (.base (.str i)) h.str
  | bl i => exact go _ (.base (.bl i)) h.bool
  | tup e => exact go _ (.base (.tup e)) h.tup
  | lst e => exact go _ (.base (.lst e)) h.lst
  | ins e =>
    obtain ⟨mA, o, _⟩ := ins_get I.hok e
    obtain ⟨od, J, _⟩ := o.look
    obtain rfl : u = Value.ref _ := r
    exact ⟨_, J.type, h.self⟩
/-- o == x, o an object with its own == -/
def rEqO (K : Frag) (C : Addr) (sp : Sp) (E : XK) : R2 := fun x y H Q => ∃ a dx fs, x = .ref a ∧ H a = some (.ins C dx fs) ∧ EqR K C H y ∧ sp [.ref a, y] H Q E
theorem op_eqO (h : OwnQ X.K C f) (F : FnOk X.prog X.w X.K X.mg X.base CX k f fd ps sp) (hr : Room k X.A) (hb : Binds X.K fd ps []) (hx : Passes CX X E) : OpR X (compareOp .Eq) (rEqO X.K C sp E) := by
  intro pins s σ H x y v u Q I rx ry q0
  obtain ⟨a, dx, fs, rfl, ea, er, q⟩ := q0
  obtain rfl : v = Value.ref a := rx
  obtain ⟨mA, oa, _⟩ := ins_get I.hok ea
  obtain ⟨od, J, _⟩ := oa.look
  obtain ⟨m, fr⟩ := I.fr
  obtain ⟨t, lt, nf⟩ := er.look h I ry
  have r := run_fn (ds := []) (dvs := []) F hr hb .nil hx I (us := [.ref a, u]) (vs := [.ref a, y]) (.cons rfl (.cons ry .nil)) q
  exact PySem.W.cmp_K (op := .Eq) hr.units0 fr I.ok.mod.kin J lt nf h.at_ h.fn (wpAny_mono r (fun z s' hz => by
    obtain ⟨v, H', I', rv, q'⟩ := hz
    exact not_ni rv ⟨v, H', I', rv, q'⟩) fun _ _ z => z)
/-- o != x by the class's own == -/
def rNeO (K : Frag) (C : Addr) (sp : Sp) (E : XK) : R2 := fun x y H Q => ∃ a dx fs, x = .ref a ∧ H a = some (.ins C dx fs) ∧ EqR K C H y ∧ sp [.ref a, y] H (fun z H' => ∃ b, z = .bl b ∧ Q (.bl !b) H') E
theorem kneo_find {name : Str} {id : String} {args : List Value} {prog : Program} {w : World} {A : Around} {E : Value → Shared → Prop} {s : Shared} {K : Frag} {x C : Addr} {ox : Obj} {od : Option Obj} {Q : Option Value → Shared → Prop} (X : K.In s.heap) (I : InstAt s.heap x ox C od) (hs : findIn K (.ref C) name = some (some (.builtin id)))
    (hb : ∀ self, bindSpecial (.builtin id) self = pure (.builtin id, [self])) (h : wpAny (model prog w) A (call (.builtin id) (.ref x :: args)) (fun v => Q (some v)) E s) : wpAny (model prog w) A (callSpecialIfBound? (.ref x) name args) Q E s := by
  simp only [callSpecialIfBound?, bindSpecialIfBound?]
  refine wpAny_holding (wpAny_bind (wpAny_bind (wpAny_bind (I.type.here ((looks_findIn X hs).here ?_)))))
  refine wpAny_bind (wpAny_askSetting (wpAny_ite ?_))
  have fin : wpAny (model prog w) A (call (.builtin id) ([.ref x] ++ args) >>= fun v => pure (some v)) Q E s := wpAny_bind (wpAny_mono h (fun v s' h' => wpAny_pure h') fun _ _ h' => h')
  split
  · exact wpAny_bind ((Looks.of_pure (hb _)).here (wpAny_pure (by exact fin)))
  · exact wpAny_tryCatch (wpAny_bind ((Looks.of_pure (hb _)).here (wpAny_pure (by exact fin))))
open Builtin in
theorem kneo_body {prog : Program} {w : World} {A : Around} {E : Value → Shared → Prop} {s : Shared} {K : Frag} {x C f : Addr} {y : Value} {ox : Obj} {od : Option Obj} {Q : Value → Shared → Prop} (hu : A.in1.units < cLine) (X : K.In s.heap) (I : InstAt s.heap x ox C od) (hm : mroIn K C (.type "object") = some true)
    (hs : findIn K (.ref C) "__eq__" = some (some (.ref f))) (hf : isFn K (.ref f) = true) (h : wpAny (model prog w) A.in1 (call (.ref f) [.ref x, y]) (fun v s' => ∃ b, v = .bool b ∧ Q (.bool !b) s') E s) :
    wpAny (model prog w) A (call (.builtin "object.__ne__") [.ref x, y]) Q E s := by
  refine wpAny_call (codeAny_call_builtin F.cmp_object.ne.plain F.cmpEntry_ne (check_slot (i := "object.__ne__") (owner := "object") (n := "__ne__") F.cmpKind_ne F.cmpSplit_ne (I.type.andThen (looks_mroIn X hm)) (F.cmpArgs_ne _ _) ?_))
  unfold Builtin.«object.__ne__»
  refine wpAny_bind (m := slotArgs "__ne__" 1 _) (wpAny_pure ?_)
  refine wpAny_bind (m := cRoomFor _ _) (wpAny_cRoomFor hu ?_)
  refine wpAny_bind (m := callSpecialIfBound? (.ref x) (Str.ofString "__eq__") _) (ifBound_K X I hs hf (wpAny_mono h (fun r s' hq => ?_) fun _ _ y => y))
  obtain ⟨b, rfl, q⟩ := hq
  exact wpAny_bind (wpAny_truthy_bool (wpAny_pure q))
theorem op_neO (h : OwnQ X.K C f) (F : FnOk X.prog X.w X.K X.mg X.base CX k f fd ps sp) (hr : Room (k + 1) X.A) (hb : Binds X.K fd ps []) (hx : Passes CX X E) : OpR X (compareOp .NotEq) (rNeO X.K C sp E) := by
  intro pins s σ H x y v u Q I rx ry q0
  obtain ⟨a, dx, fs, rfl, ea, er, q⟩ := q0
  obtain rfl : v = Value.ref a := rx
  obtain ⟨mA, oa, _⟩ := ins_get I.hok ea
  obtain ⟨od, J, _⟩ := oa.look
  obtain ⟨m, fr⟩ := I.fr
  obtain ⟨t, lt, nf⟩ := er.look h I ry
  have r := run_fnIn F hr hb hx I (us := [.ref a, u]) (vs := [.ref a, y]) (.cons rfl (.cons ry .nil)) q
  have one : wpAny (model X.prog X.w) X.A (tryCompare (.ref a) "__ne__" u) (fun r s' => ∃ v, r = some v ∧ EP X pins σ Q v s') X.xe s := by
    unfold tryCompare
    refine wpAny_bind (kneo_find I.kIn J h.ne PySem.F.cmp_object.ne.bind (kneo_body hr.in1.units0 I.kIn J h.obj h.at_ h.fn (wpAny_mono r (fun z s' hz => ?_) fun _ _ z => z)))
    obtain ⟨v, H', I', rv, b, rfl, q'⟩ := hz
    obtain rfl : z = Value.bool b := rv
    exact ⟨b, rfl, wpAny_pure ⟨_, rfl, ⟨V.bl (!b), H', I', rfl, q'⟩⟩⟩
  show wpAny _ _ (richCompare .NotEq (.ref a) u) _ _ s
  unfold richCompare
  simp only [oneThing_ref]
  refine wpAny_holding (wpAny_bind (wpAny_cRoomFor hr.units0 ?_))
  refine wpAny_bind (J.type.here (wpAny_bind (lt.here ?_)))
  split
  · rename_i q
    have e : subIn X.K t (.ref C) = some false := by
      rcases Bool.or_eq_true_iff.mp nf with e | e
      · rw [beq_iff_eq.mp e] at q; simp at q
      · exact beq_iff_eq.mp e
    refine wpAny_bind ((looks_subIn I.kIn e).here ?_)
    simp only [Bool.false_eq_true, if_false]
    refine wpAny_bind (wpAny_mono one (fun r s' z => ?_) fun _ _ e => e)
    obtain ⟨v, rfl, hq⟩ := z
    exact wpAny_pure hq
  · refine wpAny_bind (wpAny_pure ?_)
    simp only [Bool.false_eq_true, if_false]
    refine wpAny_bind (wpAny_mono one (fun r s' z => ?_) fun _ _ e => e)
    obtain ⟨v, rfl, hq⟩ := z
    exact wpAny_pure hq
/-- None == o -/
theorem none_eqO {pins : List (Addr × Obj)} {σ : L2.St} {H : Hp} {s : Shared} {a : Addr} {dx : Addr} {fs : List (Str × V)} {Q : VK} (h : OwnQ X.K C f) (F : FnOk X.prog X.w X.K X.mg X.base CX k f fd ps sp) (hr : Room (k + 1) X.A) (hb : Binds X.K fd ps []) (hx : Passes CX X E) (I : Inv X pins σ H s)
    (ea : H a = some (.ins C dx fs)) (q : sp [.ref a, .non] H Q E) : wpAny (model X.prog X.w) X.A.in1 (richCompare .Eq .none (.ref a)) (EP X pins σ Q) X.xe s := by
  obtain ⟨mA, oa, _⟩ := ins_get I.hok ea
  obtain ⟨od, J, _⟩ := oa.look
  have r := run_fnIn F hr hb hx I (us := [.ref a, .none]) (vs := [.ref a, .non]) (.cons rfl (.cons rfl .nil)) q
  have tn : s.TypeIs .none "NoneType" := rfl
  have one : wpAny (model X.prog X.w) X.A.in1 (tryCompare (.ref a) (cmpInfo .Eq).2.2 .none) (fun r s' => ∃ v, r = some v ∧ EP X pins σ Q v s') X.xe s := by
    unfold tryCompare
    refine wpAny_bind (ifBound_K I.kIn J h.at_ h.fn (wpAny_mono r (fun z s' hz => ?_) fun _ _ z => z))
    obtain ⟨v, H', I', rv, q'⟩ := hz
    have go : EP X pins σ Q z s' := ⟨v, H', I', rv, q'⟩
    clear q'
    cases v <;> first | (obtain ⟨t, rfl⟩ := rv; exact wpAny_pure ⟨_, rfl, go⟩) | (obtain rfl := rv; exact wpAny_pure ⟨_, rfl, go⟩) | (cases rv; exact wpAny_pure ⟨_, rfl, go⟩)
  unfold richCompare
  rw [tn.oneThing_none]
  refine wpAny_holding (wpAny_bind (wpAny_cRoomFor hr.in1.units0 ?_))
  refine wpAny_bind ((Looks.of_pure (show typeOf .none = pure (.type "NoneType") from rfl)).here (wpAny_bind (J.type.here ?_)))
  simp only [show (Value.type "NoneType" != Value.ref C) = true from rfl, if_true]
  refine wpAny_bind ((looks_subIn (t := .ref C) I.kIn h.non).here ?_)
  simp only [Bool.false_eq_true, if_false, Bool.not_false, if_true]
  refine wpAny_bind (wpAny_tryCompare_declines (name := Str.ofString "__eq__") tn PySem.F.slot_NoneType_eq ?_)
  refine call_gives (Q := fun v s' => v = Value.notImplemented ∧ wpAny (model X.prog X.w) X.A.in1 _ (EP X pins σ Q) X.xe s') PySem.F.slot_NoneType_eq tn PySem.F.entry_NoneType_eq (PySem.F.args_NoneType_eq_2 _ _) (PySem.SeqAt.NoneType___eq___none_ref_0 a) ?_
  show Value.notImplemented = Value.notImplemented ∧ wpAny (model X.prog X.w) X.A.in1 _ (EP X pins σ Q) X.xe s
  refine ⟨rfl, ?_⟩
  refine wpAny_bind (m := tryCompare (Value.ref a) (Str.ofString "__eq__") Value.none) (wpAny_mono one (fun r s' z => ?_) fun _ _ e => e)
  obtain ⟨v, rfl, hq⟩ := z
  exact wpAny_pure hq
/-- o in a list of objects of its class and of None -/
def InRun (C : Addr) (sp : Sp) (E : XK) (a : Addr) (Q : VK) : List V → Hp → Prop
  | [], H => Q (.bl false) H
  | y :: r, H => (y = .non ∧ sp [.ref a, .non] H (fun z H' => ∃ b, z = .bl b ∧ Same H H' ∧ if b = true then Q (.bl true) H' else InRun C sp E a Q r H') E) ∨
      (∃ b dy gs, y = .ref b ∧ H b = some (.ins C dy gs) ∧ (b = a → Q (.bl true) H) ∧ (b ≠ a → sp [.ref b, .ref a] H (fun z H' => ∃ b, z = .bl b ∧ Same H H' ∧ if b = true then Q (.bl true) H' else InRun C sp E a Q r H') E))
def rInO (C : Addr) (sp : Sp) (E : XK) : R2 := fun x y H Q => ∃ a dx fs p xs, x = .ref a ∧ y = .ref p ∧ H a = some (.ins C dx fs) ∧ H p = some (.lst xs) ∧ InRun C sp E a Q xs H
theorem op_inO (h : OwnQ X.K C f) (F : FnOk X.prog X.w X.K X.mg X.base CX k f fd ps sp) (hr : Room (k + 1) X.A) (hb : Binds X.K fd ps []) (hx : Passes CX X E) : OpR X (compareOp .In) (rInO C sp E) := by
  intro pins s σ H x y v u Q I rx ry q0
  obtain ⟨a, dx, fs, p, xs, rfl, rfl, ea, ep, q⟩ := q0
  obtain rfl : v = Value.ref a := rx
  obtain rfl : u = Value.ref p := ry
  refine GX.op_inG (N := xs.length) (EP X pins σ Q (.bool true)) (fun i s' => ∃ H', Inv X pins σ H' s' ∧ Same H H' ∧ i ≤ xs.length ∧ InRun C sp E a Q (xs.drop i) H') (fun i s' z => ?_) (fun s' z => z) (fun s' z => ?_) ⟨H, I, Same.refl H, Nat.zero_le _, q⟩
  · obtain ⟨H1, I1, e1, hi, z⟩ := z
    obtain ⟨_, its, n, r, e⟩ := I1.hok p _ (e1 _ _ ep)
    refine ⟨its.toArray, n, e, by rw [List.size_toArray, ← r.length], fun h1 => ?_⟩
    have k1 : i < xs.length := by rw [r.length]; simpa using h1
    obtain ⟨w, hw, rw_⟩ := r.get (List.getElem?_eq_getElem k1)
    have hw2 : its.toArray[i] = w := by
      have h1' : i < its.length := by simpa using h1
      rw [List.getElem?_eq_getElem h1'] at hw
      simpa using hw
    rw [hw2]
    rw [List.drop_eq_getElem_cons k1] at z
    unfold InRun at z
    have fin : ∀ (r : Value) (s2 : Shared), EP X pins σ (fun z H' => ∃ b, z = .bl b ∧ Same H1 H' ∧ if b = true then Q (.bl true) H' else InRun C sp E a Q (xs.drop (i + 1)) H') r s2 →
        ∃ b, r = .bool b ∧ if b = true then EP X pins σ Q (.bool true) s2 else ∃ H', Inv X pins σ H' s2 ∧ Same H H' ∧ i + 1 ≤ xs.length ∧ InRun C sp E a Q (xs.drop (i + 1)) H' := fun r s2 hz => by
      obtain ⟨v, H', I', rv, b, rfl, e2, q'⟩ := hz
      obtain rfl : r = Value.bool b := rv
      refine ⟨b, rfl, ?_⟩
      cases b with
      | true => exact ⟨V.bl true, H', I', rfl, q'⟩
      | false => exact ⟨H', I', e1.trans e2, k1, q'⟩
    rcases z with ⟨ey, q1⟩ | ⟨b, dy, gs, ey, eb, q1, q2⟩
    · rw [ey] at rw_
      obtain rfl : w = Value.none := rw_
      exact GX.eqBool_noneG (wpAny_mono (none_eqO h F hr hb hx I1 (e1 _ _ ea) q1) (fun r s2 hz => fin r s2 hz) fun _ _ z => z)
    · rw [ey] at rw_
      obtain rfl : w = Value.ref b := rw_
      by_cases hab : b = a
      · subst hab
        exact SeqAt.EqAt.same (A := X.A.in1) (s := s') (.ref b) X.prog X.w X.xe _ ⟨V.bl true, H1, I1, rfl, q1 rfl⟩
      · refine GQ.eqBool_refG hab ?_
        obtain ⟨mA, oa, _⟩ := ins_get I1.hok (e1 _ _ ea)
        obtain ⟨od, J, _⟩ := oa.look
        obtain ⟨mB, ob, _⟩ := ins_get I1.hok eb
        obtain ⟨od2, J2, _⟩ := ob.look
        obtain ⟨m, fr⟩ := I1.fr
        have r := run_fnIn F hr hb hx I1 (us := [.ref b, .ref a]) (vs := [.ref b, .ref a]) (.cons rfl (.cons rfl .nil)) (q2 hab)
        refine PySem.W.cmp_K (op := .Eq) hr.in1.units0 fr I1.ok.mod.kin J2 J.type h.self h.at_ h.fn (wpAny_mono r (fun z s2 hz => ?_) fun _ _ z => z)
        obtain ⟨b2, rfl, hz2⟩ := fin z s2 hz
        exact ⟨b2, rfl, hz2⟩
  · obtain ⟨H1, I1, e1, hi, z⟩ := z
    rw [List.drop_length] at z
    exact ⟨V.bl false, H1, I1, rfl, z⟩
end
end L2
namespace Mx
open PySem PySem.Spec PyProof.Rows L2
section
variable {K : Fr} {cl : Cl} {H H' H1 : Hp} {O : List Addr}
def eqOk (c : Str) : Dt → Prop
  | .non => True | .bl _ => True | .int _ => True | .str _ => True | .tup _ => True | .lst _ => True
  | .ins c2 _ => c2 = c
  | _ => False
instance (c : Str) (d : Dt) : Decidable (eqOk c d) := by cases d <;> unfold eqOk <;> infer_instance
@[simp] theorem eqOk_non (c : Str) : eqOk c .non := True.intro
@[simp] theorem eqOk_int (c : Str) (i : Int) : eqOk c (.int i) := True.intro
@[simp] theorem eqOk_str (c : Str) (i : Str) : eqOk c (.str i) := True.intro
@[simp] theorem eqOk_bl (c : Str) (i : Bool) : eqOk c (.bl i) := True.intro
@[simp] theorem eqOk_tup (c : Str) (i : List Dt) : eqOk c (.tup i) := True.intro
@[simp] theorem eqOk_lst (c : Str) (i : List Dt) : eqOk c (.lst i) := True.intro
@[simp] theorem eqOk_ins (c c2 : Str) (fs : List (Str × Dt)) : eqOk c (.ins c2 fs) ↔ c2 = c := Iff.rfl
def dEqO (c : Str) (f : List Dt → R Dt) : Dt → Dt → R Dt := fun o p => match o with
  | .ins c1 fs => if c1 = c ∧ eqOk c p then f [.ins c1 fs, p] else .bad
  | _ => .bad
@[simp] theorem dEqO_ins (c c1 : Str) (f : List Dt → R Dt) (fs : List (Str × Dt)) (p : Dt) : dEqO c f (.ins c1 fs) p = if c1 = c ∧ eqOk c p then f [.ins c1 fs, p] else .bad := rfl
def dFlip : Dt → R Dt
  | .bl b => .ok (.bl !b)
  | _ => .bad
@[simp] theorem dFlip_bl (b : Bool) : dFlip (.bl b) = .ok (.bl !b) := rfl
def dNeO (c : Str) (f : List Dt → R Dt) : Dt → Dt → R Dt := fun o p => (dEqO c f o p).bind dFlip
@[simp] theorem dNeO_ins (c c1 : Str) (f : List Dt → R Dt) (fs : List (Str × Dt)) (p : Dt) : dNeO c f (.ins c1 fs) p = (if c1 = c ∧ eqOk c p then f [.ins c1 fs, p] else .bad).bind dFlip := rfl
theorem eqR_of {c : Str} {C : Addr} {x : V} {d : Dt} (hc : cl c = some C) (r : Rep K cl (hid O H) x d) (h : eqOk c d) : EqR K C H x := by
  cases r with
  | non => exact .non
  | bl b => exact .bl b
  | int b => exact .int b
  | str b => exact .str b
  | tup e _ => exact .tup (hid_same _ _ _ _ e)
  | lst e _ => exact .lst (hid_same _ _ _ _ e)
  | ins k e _ _ =>
    cases (show _ = c from h)
    rw [hc] at k
    cases k
    exact .ins (hid_same _ _ _ _ e)
  | _ => exact h.elim
/-- two operands, then what the op asks of them -/
theorem sim_two {r : R2} {g : Dt → Dt → R Dt} {E0 : XK} {ta tb : TE} {xa xb : XE} (ha : Sim K cl (fun _ => E0) ta xa) (hb : Sim K cl (fun _ => E0) tb xb)
    (h : ∀ O H x y a b, Trk O H → Rep K cl (hid O H) x a → Rep K cl (hid O H) y b → ∀ Q : VK, PostE K cl E0 O H Q (g a b) → r x y H Q) : Sim K cl (fun _ => E0) (tOp r ta tb) (x2 g xa xb) := fun B H0 O σ D H s Q q => by
  unfold x2 at q
  refine ha B H0 O σ D H s _ ?_
  cases ea : xa D with
  | bad => rw [ea] at q; exact q.elim
  | ex c' fs => rw [ea] at q; exact q
  | ok d =>
    rw [ea] at q
    simp only [R.bind] at q
    intro x H1 e1 rx
    refine hb B H0 O σ D H1 (s.mono e1) _ ?_
    cases eb : xb D with
    | bad => rw [eb] at q; exact q.elim
    | ex c' fs => rw [eb] at q; exact ExOk.mono e1 q
    | ok d2 =>
      rw [eb] at q
      simp only [R.bind] at q
      intro y H2 e2 ry
      exact h _ _ _ _ _ _ ((s.mono e1).mono e2).trk (rx.mono (hid_mono e2)) ry _ (post_E (e1.trans e2) q)
theorem sim_eqO {c : Str} {C : Addr} {f : List Dt → R Dt} {E0 : XK} {ta tb : TE} {xa xb : XE} (hc : cl c = some C) (ha : Sim K cl (fun _ => E0) ta xa) (hb : Sim K cl (fun _ => E0) tb xb) :
    Sim K cl (fun _ => E0) (tOp (rEqO K C (PureSp K cl f) E0) ta tb) (x2 (dEqO c f) xa xb) := sim_two ha hb fun O H x y a b tr rx ry Q q => by
  cases rx with
  | ins k e kk rr =>
    rw [dEqO_ins] at q
    split at q
    · rename_i h
      obtain ⟨rfl, h⟩ := h
      rw [hc] at k
      cases k
      exact ⟨_, _, _, rfl, hid_same _ _ _ _ e, eqR_of hc ry h, O, _, tr, .cons (.ins hc e kk rr) (.cons ry .nil), q⟩
    · exact q.elim
  | _ => exact q.elim
theorem sim_neO {c : Str} {C : Addr} {f : List Dt → R Dt} {E0 : XK} {ta tb : TE} {xa xb : XE} (hc : cl c = some C) (ha : Sim K cl (fun _ => E0) ta xa) (hb : Sim K cl (fun _ => E0) tb xb) :
    Sim K cl (fun _ => E0) (tOp (rNeO K C (PureSp K cl f) E0) ta tb) (x2 (dNeO c f) xa xb) := sim_two ha hb fun O H x y a b tr rx ry Q q => by
  cases rx with
  | ins k e kk rr =>
    rw [dNeO_ins] at q
    split at q
    · rename_i h
      obtain ⟨rfl, h⟩ := h
      rw [hc] at k
      cases k
      refine ⟨_, _, _, rfl, hid_same _ _ _ _ e, eqR_of hc ry h, O, _, tr, .cons (.ins hc e kk rr) (.cons ry .nil), ?_⟩
      revert q
      generalize f _ = z
      intro q
      cases z with
      | bad => exact q
      | ex c fs => exact q
      | ok d =>
        rw [bind_ok] at q
        cases d with
        | bl b =>
          intro v H' e' r'
          cases r'
          exact ⟨_, rfl, q _ H' e' (.bl _)⟩
        | _ => exact q.elim
    · exact q.elim
  | _ => exact q.elim
/-! ### o in a list of objects and None -/
def sc0 : Dt → Bool
  | .non => true | .bl _ => true | .int _ => true | .str _ => true | _ => false
def sc1 : Dt → Bool
  | .tup l => l.all sc0 | d => sc0 d
def sc2 : Dt → Bool
  | .tup l => l.all sc1 | d => sc0 d
theorem rep_fun0 {v : V} {d d' : Dt} (h : sc0 d = true) (h' : sc0 d' = true) (r : Rep K cl H v d) (r' : Rep K cl H v d') : d = d' := by
  cases r <;> first | (cases r' <;> first | rfl | cases h') | cases h
theorem repL_fun {P : Dt → Bool} (hP : ∀ {v : V} {d d' : Dt}, P d = true → P d' = true → Rep K cl H v d → Rep K cl H v d' → d = d') :
    ∀ {vs : List V} {ds ds' : List Dt}, ds.all P = true → ds'.all P = true → RepL K cl H vs ds → RepL K cl H vs ds' → ds = ds'
  | _, _, _, _, _, .nil, .nil => rfl
  | _, _, _, h, h', .cons a r, .cons a' r' => by
    rw [List.all_cons, Bool.and_eq_true] at h h'
    rw [hP h.1 h'.1 a a', repL_fun hP h.2 h'.2 r r']
theorem rep_fun_tup {P Q : Dt → Bool} (hP : ∀ {v : V} {d d' : Dt}, P d = true → P d' = true → Rep K cl H v d → Rep K cl H v d' → d = d') (hQ : ∀ l, Q (.tup l) = l.all P) (hQ0 : ∀ d, (∀ l, d ≠ .tup l) → Q d = sc0 d)
    {v : V} {d d' : Dt} (h : Q d = true) (h' : Q d' = true) (r : Rep K cl H v d) (r' : Rep K cl H v d') : d = d' := by
  by_cases ht : ∃ l, d = .tup l
  · obtain ⟨l, rfl⟩ := ht
    by_cases ht' : ∃ l, d' = .tup l
    · obtain ⟨l', rfl⟩ := ht'
      cases r with
      | tup e rr =>
        cases r' with
        | tup e' rr' =>
          rw [e] at e'
          cases e'
          rw [hQ] at h h'
          rw [repL_fun hP h h' rr rr']
    · rw [hQ0 d' (fun l e => ht' ⟨l, e⟩)] at h'
      cases r with
      | tup e rr => cases r' <;> first | cases h' | exact absurd ⟨_, rfl⟩ ht'
  · rw [hQ0 d (fun l e => ht ⟨l, e⟩)] at h
    by_cases ht' : ∃ l, d' = .tup l
    · obtain ⟨l', rfl⟩ := ht'
      cases r' with
      | tup e rr => cases r <;> first | cases h | exact absurd ⟨_, rfl⟩ ht
    · rw [hQ0 d' (fun l e => ht' ⟨l, e⟩)] at h'
      exact rep_fun0 h h' r r'
theorem rep_fun1 {v : V} {d d' : Dt} (h : sc1 d = true) (h' : sc1 d' = true) (r : Rep K cl H v d) (r' : Rep K cl H v d') : d = d' :=
  rep_fun_tup (P := sc0) (Q := sc1) (fun h h' r r' => rep_fun0 h h' r r') (fun _ => rfl) (fun d n => by cases d <;> first | rfl | exact absurd rfl (n _)) h h' r r'
theorem rep_fun2 {v : V} {d d' : Dt} (h : sc2 d = true) (h' : sc2 d' = true) (r : Rep K cl H v d) (r' : Rep K cl H v d') : d = d' :=
  rep_fun_tup (P := sc1) (Q := sc2) (fun h h' r r' => rep_fun1 h h' r r') (fun _ => rfl) (fun d n => by cases d <;> first | rfl | exact absurd rfl (n _)) h h' r r'
theorem map_pair_ext : ∀ {l m : List (Str × Dt)}, l.map (·.1) = m.map (·.1) → l.map (·.2) = m.map (·.2) → l = m
  | [], [], _, _ => rfl
  | [], _ :: _, e, _ => by cases e
  | _ :: _, [], e, _ => by cases e
  | (a, b) :: l, (c, d) :: m, e, e2 => by
    simp only [List.map_cons, List.cons.injEq] at e e2
    rw [e.1, e2.1, map_pair_ext e.2 e2.2]
theorem ins_fun {a : Addr} {c : Str} {fs gs : List (Str × Dt)} (h : (fs.map (·.2)).all sc2 = true) (h' : (gs.map (·.2)).all sc2 = true) (r : Rep K cl H (.ref a) (.ins c fs)) (r' : Rep K cl H (.ref a) (.ins c gs)) : fs = gs := by
  cases r with
  | ins k e kk rr =>
    cases r' with
    | ins k' e' kk' rr' =>
      rw [e] at e'
      cases e'
      exact map_pair_ext (kk.symm.trans kk') (repL_fun (fun h h' r r' => rep_fun2 h h' r r') h h' rr rr')
def dTr (x : R Dt) : Dt → R Dt
  | .bl true => .ok (.bl true)
  | .bl false => x
  | _ => .bad
@[simp] theorem dTr_t (x : R Dt) : dTr x (.bl true) = .ok (.bl true) := rfl
@[simp] theorem dTr_f (x : R Dt) : dTr x (.bl false) = x := rfl
def dOnly (x : R Dt) : Dt → R Dt
  | .bl true => x
  | _ => .bad
@[simp] theorem dOnly_t (x : R Dt) : dOnly x (.bl true) = x := rfl
def noEx : R Dt → R Dt
  | .ok d => .ok d
  | _ => .bad
@[simp] theorem noEx_ok (d : Dt) : noEx (.ok d) = .ok d := rfl
theorem trk_mono (tr : Trk O H) (e : Same H H') : Trk O H' := fun a m => by
  obtain ⟨u, hu⟩ := mutO_some (tr a m)
  rw [e _ _ hu, ← hu]
  exact tr a m
def dInL (c : Str) (f : List Dt → R Dt) (fs : List (Str × Dt)) : List Dt → R Dt
  | [] => .ok (.bl false)
  | .non :: r => (f [.ins c fs, .non]).bind (dTr (dInL c f fs r))
  | .ins c2 gs :: r => if c2 = c ∧ (gs.map (·.2)).all sc2 = true ∧ (fs.map (·.2)).all sc2 = true then (noEx (f [.ins c gs, .ins c fs])).bind (dTr ((noEx (f [.ins c fs, .ins c fs])).bind (dOnly (dInL c f fs r)))) else .bad
  | _ => .bad
def dInO (c : Str) (f : List Dt → R Dt) : Dt → Dt → R Dt := fun o p => match o, p with
  | .ins c1 fs, .lst l => if c1 = c then dInL c f fs l else .bad
  | _, _ => .bad
@[simp] theorem dInO_ins (c c1 : Str) (f : List Dt → R Dt) (fs : List (Str × Dt)) (l : List Dt) : dInO c f (.ins c1 fs) (.lst l) = if c1 = c then dInL c f fs l else .bad := rfl
theorem inRun_of {c : Str} {C : Addr} {f : List Dt → R Dt} {fs : List (Str × Dt)} {E0 : XK} {a : Addr} {Q : VK} (hc : cl c = some C) : ∀ {l : List Dt} {xs : List V} {H : Hp}, Trk O H → RepL K cl (hid O H) xs l → Rep K cl (hid O H) (.ref a) (.ins c fs) →
    PostE K cl E0 O H Q (dInL c f fs l) → InRun C (PureSp K cl f) E0 a Q xs H
  | _, _, H, tr, .nil, ra, q => q _ H (Same.refl H) (.bl false)
  | .non :: l, _ :: xs, H, tr, .cons (.non) r, ra, q => by
    refine .inl ⟨rfl, O, _, tr, .cons ra (.cons .non .nil), ?_⟩
    unfold dInL at q
    revert q
    generalize f _ = z
    intro q
    cases z with
    | bad => exact q
    | ex c fs => exact q
    | ok d =>
      rw [bind_ok] at q
      intro v H' e' r'
      cases r' with
      | bl b =>
        refine ⟨b, rfl, e', ?_⟩
        cases b with
        | true => exact q _ H' e' (.bl true)
        | false => exact inRun_of hc (trk_mono tr e') (r.mono (hid_mono e')) (ra.mono (hid_mono e')) (post_E e' q)
      | _ => exact q.elim
  | .ins c2 gs :: l, _ :: xs, H, tr, .cons rb r, ra, q => by
    unfold dInL at q
    split at q
    · rename_i h
      obtain ⟨rfl, h1, h2⟩ := h
      have rb2 := rb
      cases rb2 with
      | @ins b C' dy _ fv _ k e kk rr =>
        rw [hc] at k
        cases k
        refine .inr ⟨b, _, _, rfl, hid_same _ _ _ _ e, fun eb => ?_, fun nb => ⟨O, _, tr, .cons rb (.cons ra .nil), ?_⟩⟩
        · subst eb
          have := ins_fun h1 h2 rb ra
          subst this
          revert q
          generalize f _ = z
          intro q
          cases z with
          | bad => exact q.elim
          | ex c fs => exact q.elim
          | ok d =>
            rw [noEx_ok, bind_ok, bind_ok] at q
            cases d with
            | bl b => cases b with
              | true => exact q _ H (Same.refl H) (.bl true)
              | false => exact q.elim
            | _ => exact q.elim
        · revert q
          generalize f [.ins c2 gs, .ins c2 fs] = z
          intro q
          cases z with
          | bad => exact q.elim
          | ex c fs => exact q.elim
          | ok d =>
            rw [noEx_ok, bind_ok] at q
            intro v H' e' r'
            cases r' with
            | bl b =>
              refine ⟨b, rfl, e', ?_⟩
              cases b with
              | true => exact q _ H' e' (.bl true)
              | false =>
                rw [dTr_f] at q
                revert q
                generalize f _ = z
                intro q
                cases z with
                | bad => exact q.elim
                | ex c fs => exact q.elim
                | ok d =>
                  rw [noEx_ok, bind_ok] at q
                  cases d with
                  | bl b => cases b with
                    | true => exact inRun_of hc (trk_mono tr e') (r.mono (hid_mono e')) (ra.mono (hid_mono e')) (post_E e' q)
                    | false => exact q.elim
                  | _ => exact q.elim
            | _ => exact q.elim
    · exact q.elim
theorem sim_inO {c : Str} {C : Addr} {f : List Dt → R Dt} {E0 : XK} {ta tb : TE} {xa xb : XE} (hc : cl c = some C) (ha : Sim K cl (fun _ => E0) ta xa) (hb : Sim K cl (fun _ => E0) tb xb) :
    Sim K cl (fun _ => E0) (tOp (rInO C (PureSp K cl f) E0) ta tb) (x2 (dInO c f) xa xb) := sim_two ha hb fun O H x y a b tr rx ry Q q => by
  cases rx with
  | ins k e kk rr =>
    cases ry with
    | lst e2 r2 =>
      rw [dInO_ins] at q
      split at q
      · rename_i h
        subst h
        rw [hc] at k
        cases k
        exact ⟨_, _, _, _, _, rfl, rfl, hid_same _ _ _ _ e, hid_same _ _ _ _ e2, inRun_of hc tr r2 (.ins hc e kk rr) q⟩
      · exact q.elim
    | _ => exact q.elim
  | _ => exact q.elim
/-! ### two keywords in the other order -/
def swp {α : Type} : List α → List α
  | [a, b] => [b, a]
  | l => l
theorem Vals.swp {vs : List V} {us : List Value} (r : L2.Vals vs us) : L2.Vals (swp vs) (swp us) := by
  match vs, us, r with
  | [], [], .nil => exact .nil
  | [a], [b], .cons p .nil => exact .cons p .nil
  | [a, a2], [b, b2], .cons p (.cons q .nil) => exact .cons q (.cons p .nil)
  | a :: a2 :: a3 :: l, b :: b2 :: b3 :: m, r => exact r
end
end Mx
namespace L2
open PySem PySem.Spec PyProof.Rows PySem.W NdefX
/-- an exception's own __init__, which begins by super().__init__(..) -/
structure SuF (P : Program) (K : Frag) (f C : Addr) (F : NF) (fd : FuncData) : Prop where
  fn : ∃ (oc : Value) (od : Option Addr) (sl : Array (Option Value)) (doc pm ctv : Value), fd = F.fd doc pm ctv ∧ K.lookup f = some ⟨oc, od, .func fd, sl⟩
  code : codeIn K (.ref F.c) F.qual = true
  cell : ∃ (cc : Addr) (cl : Value) (cd : Option Addr) (cs : Array (Option Value)), F.cl = [(("__class__" : Str), cc)] ∧ K.lookup cc = some ⟨cl, cd, .cell (some (.ref C)), cs⟩
  file : ∃ (c : Value) (d : Option Addr) (vs : Array Value) (cs : Array (Option Value)) (file : Str) (tf : Tok), K.lookup F.c = some ⟨c, d, .fields vs, cs⟩ ∧ vs[2]? = some (.str file tf) ∧ (P.main.file == file) = true
  top : (P.main.scope.names.lookup ("super" : Str)).isSome = false
  any : nsIn K cStatics "thirdparty.any" = some none
  ini : ks_superIn K C C "__init__" = some (some (.builtin "ValueError.__init__"))
  sub : subIn K (.ref C) (.type "ValueError") = some true
  self : mroIn K C (.ref C) = some true
  oex : OexC K C
section
variable {CX : CXT} {P : Program} {w : World} {K : Frag} {mg : Str → Option Value} {base : Heap} {F : NF} {f C : Addr} {fd : FuncData} {k : Nat}
/-- the wrapper at u, bound to the exception at a, called -/
theorem call_mw {A : Around} {E : Value → Shared → Prop} {X : Cx} {pins : List (Addr × Obj)} {σ : L2.St} {H : Hp} {s : Shared} {u a : Addr} {us : List Value} {Q : Value → Shared → Prop} (T : OexC X.K C) (I : Inv X pins σ H s) (ea : H a = some (exo a C none)) (hu : s.heap.get? u = some (kxs_mw "ValueError.__init__" a))
    (hl : us.length ≤ sizeLine) (h : ∀ s', Inv X pins σ H s' → Q .none s') : wpAny (model X.prog X.w) A (call (.ref u) us) Q E s := by
  obtain ⟨nm, q, N, bs, bm, sn, sub, ab, col, dd, k0, k1, k2, k3, k5, hC, hbm⟩ := T.cls
  obtain ⟨t1, ho⟩ := exo_at I.hok ea
  have hC' := I.kIn _ _ hC
  obtain ⟨hp, g, d, t, os⟩ := s
  have b1 : (Value.type "method-wrapper" == Value.type "method" || Value.type "method-wrapper" == Value.type "builtin_function_or_method" || Value.type "method-wrapper" == Value.type "method-wrapper") = true := by decide
  refine wpAny_call (codeAny_of_tree (show wpAny _ A.in1 (callAny (.ref u) ⟨us, []⟩) _ _ _ from ?_))
  simp only [callAny]
  refine wpAny_bind (wpAny_load hu ?_)
  simp only [kxs_mw, b1, if_true]
  refine KFB.if_so (show _ = true by decide) (wpAny_bind (check_bound_init PySem.F.excBase_ValueError.toExcCallFacts hC' ho rfl (wpAny_bind (wpAny_pure (wpAny_pure ⟨plainId_quiet PySem.F.excBase_ValueError.init.plain _, codeAny_builtin PySem.F.excBase_ValueError.initEntry ?_⟩)))))
  refine exc_init_tree (cls := .ref C) (t0 := t1) (dv := none) (c2 := .none) (c3 := .none) (b4 := .bool false) ho hl fun h' k hx ht => ?_
  have J := I.write (t' := t) (x := a) (e := a) (o := exo a C none) (by rw [ea]; exact True.intro) (.inl rfl) k ⟨_, hx⟩ (exo_ok hx)
  have eu : upd H a (exo a C none) = H := funext fun b => if hb : b = a then by rw [hb, upd_same, ea] else upd_ne hb
  rw [eu] at J
  exact h _ J
/-- what such an __init__ promises: self is given the field fld -/
def spEx (C : Addr) (fld : Str) (ta : L2.St → Hp → (List V → Hp → Prop) → Prop) (σ0 : List V → L2.St) : Sp := fun vs H Q _ => ∃ a x, vs = [.ref a, x] ∧ H a = some (exo a C none) ∧ ta (σ0 vs) H (fun us H2 => us.length ≤ 1000 ∧ H2 = H) ∧
  ∀ dx, H dx = none → dx ≠ a → Q .non (upd (upd H dx (exd dx [(fld, x)])) a (exo a C (some dx)))
theorem fn_exc {e : Expr} {es : List Expr} {ar : Arg} {p fld : Str} {p0 p1 p2 p3 p4 p5 p6 p7 p8 : Pos} {ta : TA} (S : SuF P K f C F fd) (hmg : mg "super" = none) (SC : NScope ["self", p, "__class__"] ["self", p] ["__class__"] F.scope) (hks : F.scope.names.lookup ("super" : Str) = some .globalImplicit)
    (hb : F.body = [.Expr (.Call (.Attribute (.Call (.Name "super" p0) [] [] p1) "__init__" p2) (e :: es) [] p3) p4, .Assign [.Attribute (.Name "self" p5) fld p6] (.Name p p7) p8])
    (hpar : (F.params.posonlyargs ++ F.params.args).head? = some ar) (har : ar.arg = "self") (hno : findIn K (.ref C) fld = some none)
    (he : ∀ env, starEach (e :: es) env = (false, eval e env) :: starEach es env) (hpl : ∀ pos env, (backTo pos (starEach es env)).any (·.1) = false)
    (hin : ∀ L, interactive (envF F f L) = false) (hev : ∀ L, ∃ pl : Sem Bool, eval (.Call (.Attribute (.Call (.Name "super" p0) [] [] p1) "__init__" p2) (e :: es) [] p3) (envF F f L) = (do
      let ov ← attributeBase (.Call (.Name "super" p0) [] [] p1) "__init__" (envF F f L) (eval (.Call (.Name "super" p0) [] [] p1) (envF F f L))
      standAt p2.atName
      let (g, first) ← holding [ov] (getMethod ov "__init__" pl)
      callWith p3 g first (backTo p3 (starEach (e :: es) (envF F f L))) []))
    (hA : ∀ A outer s H E, PA (ncx CX P w K mg base ["self", p, "__class__"] F f A outer s H E) (e :: es) ta)
    (h2 : ∀ A outer s H E, PSs (ncx CX P w K mg base ["self", p, "__class__"] F f A outer s H E) [.Assign [.Attribute (.Name "self" p5) fld p6] (.Name p p7) p8] (tOst K fld (tVar 0) (tVar 1)))
    : FnOk P w K mg base CX (k + 1) f fd ["self", p] (spEx C fld ta fun vs => startF ["self", p, "__class__"] vs [some (.ref C)]) := by
  refine ⟨fun vs H Q E h => by obtain ⟨a, x, rfl, _⟩ := h; rfl, fun A outer s H args us vs Q E hr e0 hbd r hsp => ?_⟩
  obtain ⟨a, x, rfl, ea, hta, hq⟩ := hsp
  obtain ⟨oc, od, sl, doc, pm, ctv, rfl, lk⟩ := S.fn
  obtain ⟨cc, ccl, ccd, ccs, hcl, lc⟩ := S.cell
  obtain ⟨fc, fdd, fvs, fcs, file, tf, lf, hvs, hfile⟩ := S.file
  have kp0 : ∀ b o, base.get? b = some o → s.heap.get? b = some o := fun b o e => (e0.bs b o e).1
  have KX : K.In s.heap := e0.mod.kin.keeps kp0
  have lim : s.heap.NoLimit := e0.mod.nolimit.keeps kp0
  have CA : CellsAt F.cl ["__class__"] [some (.ref C)] s.heap H := by
    rw [hcl]
    have cl1 : ∀ y c, [(("__class__" : Str), cc)].lookup y = some c → y = "__class__" ∧ c = cc := fun y c e => by
      simp only [List.lookup_cons, List.lookup_nil] at e
      split at e
      · rename_i q
        exact ⟨eq_of_beq q, (Option.some.inj e).symm⟩
      · cases e
    refine ⟨rfl, fun y c e => ?_, fun y z c e1 e2 => by rw [(cl1 y c e1).1, (cl1 z c e2).1], fun i y hy => ?_⟩
    · obtain ⟨_, rfl⟩ := cl1 y c e
      exact ⟨(e0.bs _ _ (e0.mod.kin _ _ lc)).2, _, _, KX _ _ lc, rfl⟩
    · have : y = "__class__" := by
        cases i with
        | zero => simpa using hy.symm
        | succ i => simp at hy
      subst this
      refine ⟨cc, by simp, fun v hv => ?_⟩
      have : v = .ref C := by
        cases i with
        | zero => simpa using hv.symm
        | succ i => simp at hv
      subst this
      exact ⟨_, rfl, _, KX _ _ lc, rfl⟩
  refine codeAny_call_function hr.depth (KX _ _ lk) rfl SC.co SC.gen rfl (codeRec_of KX S.code) (hbd _ _ _ _ ?_)
  refine wpAny_newFunctionEnv SC.nocell (fun ⟨n, _⟩ hy => SC.par n (List.of_mem_zip hy).1) (fun h₁ hns hsb => ⟨lim.fresh _ hsb, ?_⟩) SC.kind
  show codeAny _ _ (.func F.body (envF F f s.heap.objs.size)) _ _
  refine ks_codeAny_funcAt ?_
  have kp : ∀ b o, s.heap.get? b = some o → h₁.get? b = some o := fun b o e => hsb.extBut b o (Nat.ne_of_lt (Heap.lt_size e)) (Heap.get?_push_of_some _ e)
  have I := inv_startN (CX := CX) (E := E) (f := f) (tk := s.toks + (([("self" : Str), p] : List Str).zip us).length) SC hr.hd e0 rfl r CA hns kp
  have go := h2 A outer s H E
  have gA := hA A outer s H E
  obtain ⟨hp, g, dr, tk, os⟩ := s
  have J := I
  obtain ⟨m, hm, hl⟩ := I.loc
  have KX1 : K.In h₁ := KX.keeps kp
  have vself : m "self" = some (.ref a) := by
    obtain ⟨u, ru, lk'⟩ := hl 0 "self" (.ref a) rfl rfl (.inl (SC.par "self" (by simp)))
    obtain rfl : u = Value.ref a := ru
    rcases lk' with ⟨_, h⟩ | ⟨h, _⟩
    · exact h
    · exfalso
      have := SC.par "self" (by simp)
      rcases h with h | h
      · have h' : F.scope.names.lookup ("self" : Str) = some .cell := h
        rw [this] at h'
        cases h'
      · have h' : F.scope.names.lookup ("self" : Str) = some .free := h
        rw [this] at h'
        cases h'
  have cls : ∃ cd, clsIn K C = some cd := by
    have := S.ini
    unfold ks_superIn at this
    cases e : clsIn K C with
    | none => rw [e] at this; cases this
    | some cd => exact ⟨cd, rfl⟩
  obtain ⟨cd, hcd⟩ := cls
  obtain ⟨oC, hC1, hC2⟩ : ∃ oC, h₁.get? C = some oC ∧ oC.data = .cls cd := by
    unfold clsIn at hcd
    split at hcd
    · rename_i c d cd' sl ho
      cases hcd
      exact ⟨_, KX1 _ _ ho, rfl⟩
    · cases hcd
  obtain ⟨t1, hob⟩ := exo_at I.hok ea
  rw [hb]
  obtain ⟨pl, hev⟩ := hev hp.objs.size
  refine ks_wpAt_execs_cons (ks_wpAt_Expr_any (ks_wpAt_MethodCall (pl := pl) ?_ hev) (hin _) ?hs)
  case hs => rfl
  refine ks_wpAt_super_base hks (SC.frk "__class__" (by simp)) rfl rfl (KX1 _ _ lk) rfl hpar rfl (KX1 _ _ lf) rfl hvs hfile S.top ?_
  obtain ⟨mb, hb1, hb2⟩ := e0.mod.blt
  refine ks_loadName_global SC.kind hks (Calls.loadGlobal_builtin (e0.mod.glob.keeps fun b o z => kp _ _ (kp0 b o z)) hmg (hb1.keeps fun b o z => kp _ _ (kp0 b o z)) ((hb2 "super" (by decide)).trans (show bootBuiltins "super" = some (.type "super") from by decide +kernel)) ⟨rfl, ?_⟩)
  refine wpAny_loadName_free (c := cc) (v := .ref C) SC.kind (SC.frk "__class__" (by simp)) (by show F.cl.lookup ("__class__" : Str) = some cc; rw [hcl]; simp) ⟨_, KX1 _ _ lc, rfl⟩ ?_
  rw [har]
  refine wpAny_loadName_local SC.kind (SC.par "self" (by simp)) hm vself ?_
  refine ks_wpAny_isType_cls hC1 hC2 ⟨rfl, ?_⟩
  refine ks_wpAny_call_super hC1 hC2 hob rfl (fun c z => nomatch z) (looks_mroIn KX1 S.self) (fun h₂ e2 k2 => ?_)
  have KX2 : K.In h₂ := KX1.keeps k2
  have IA : InstAt h₂ a _ C none := ⟨k2 _ _ hob, rfl, rfl, trivial⟩
  have ini : alongIn K "__init__" ((cd.mro.dropWhile (· != .ref C)).drop 1) = some (some (.builtin "ValueError.__init__")) := by
    have := S.ini
    unfold ks_superIn at this
    rw [hcd] at this
    exact this
  refine kxs_getMethod kxs_ValueError e2 (looks_opaque KX2 S.any) (l₀ := cd.mro) (fun A Q E s k q => wpAny_bind ((looks_clsIn KX2 hcd) A _ E s k (wpAny_pure q))) rfl KX2 ini (IA.type.andThen (looks_subIn KX2 S.sub)) (ks_ne KX2 IA hcd) rfl ?_
  have kk : ∀ b o, h₁.get? b = some o → (h₂.push (kxs_mw "ValueError.__init__" a)).get? b = some o := fun b o z => Heap.get?_push_of_some _ (k2 _ _ z)
  have fresh : H h₂.objs.size = none := by
    cases z : H h₂.objs.size with
    | none => rfl
    | some o => exact absurd ((I.kept (t' := 0) k2).hok _ _ z).lt (Nat.lt_irrefl _)
  have nloc : h₂.objs.size ≠ hp.objs.size := by
    obtain ⟨oL, es, ep, hL, _⟩ := hm
    exact (Nat.ne_of_lt (Heap.lt_size (k2 _ _ hL))).symm
  have I2 := (I.kept (h' := h₂.push (kxs_mw "ValueError.__init__" a)) (t' := tk + (([("self" : Str), p] : List Str).zip us).length + 1) kk).pins_of (pins' := [(h₂.objs.size, kxs_mw "ValueError.__init__" a)]) fun q hq => by
    rw [List.mem_singleton.mp hq]
    exact ⟨Heap.get?_push_at rfl rfl, fresh, nloc, (I.kept (t' := 0) k2).nofs (Nat.le_refl _), fun v z => nomatch z⟩
  have run := gA.run p3 _ _ _ _ _ I2 hta
  rw [he] at run ⊢
  refine kxs_callWith (i := "ValueError.__init__") (x := a) (by show (false || (backTo p3 (starEach es (envF F f hp.objs.size))).any (·.1)) = false; rw [hpl]; rfl) (Calls.evalArgs_plain (wpAny_mono run (fun vs s4 z => ?_) fun _ _ z => z))
  obtain ⟨ws, H2, I4, rv, hlen, rfl⟩ := z
  have pin := (I4.pin (h₂.objs.size, kxs_mw "ValueError.__init__" a) (List.mem_append_right _ List.mem_cons_self)).1
  refine ⟨pin, call_mw S.oex I4 ea pin (by show ([] ++ vs).length ≤ _; rw [List.nil_append, ← Paired.length rv, sizeLine_eq]; omega) fun s5 J5 => ?_⟩
  refine wpAt_of_wpAny (wpAny_mono (go.run _ s5 _ _ { nx := fun _ H' => Q .non H', rt := Q } J5 ⟨x, rfl, .ref a, rfl, a, C, rfl, S.oex, hno, .inl ⟨ea, fun dx n ne => hq dx n ne⟩⟩) (fun fl s' hs => ?_) fun _ _ z => z)
  have fin : ∀ {σ' : L2.St} {H' : Hp} {v : V} {u : Value}, Inv (ncx CX P w K mg base ["self", p, "__class__"] F f A outer ⟨hp, g, dr, tk, os⟩ H2 E) [(h₂.objs.size, kxs_mw "ValueError.__init__" a)] σ' H' s' → RelV v u → Q v H' → CE outer P w H2 ⟨hp, g, dr, tk, os⟩ Q u s' := fun {σ' H' v u} J rv q =>
    ⟨v, H', J.os, J.bare, J.base, J.hok, rv, q⟩
  cases fl with
  | ret u => exact let ⟨v, σ', H', J, rv, q⟩ := hs; fin J rv q
  | next => exact let ⟨σ', H', J, q⟩ := hs; fin (v := V.non) (u := Value.none) J rfl q
  | brk => exact let ⟨_, _, _, q⟩ := hs; False.elim q
  | cont => exact let ⟨_, _, _, q⟩ := hs; False.elim q
end
end L2
namespace Mx
open PySem PySem.Spec PyProof.Rows L2
section
variable {K : Fr} {cl : Cl} {H H' H1 : Hp} {O : List Addr}
/-- raise C(e), C's own __init__ gives it the field fld -/
@[simp] def xsRaiseF (c fld : Str) (ok : Dt → Bool) (xe : XE) : XS := fun D => (xe D).out D fun d => if ok d = true then .ex c [(fld, d)] D else .bad
theorem ss_raiseF {E0 : XK} {c fld : Str} {C : Addr} {te : TE} {xe : XE} {tm : TA} {σ0 : List V → L2.St} {ok : Dt → Bool} (hc : cl c = some C)
    (hm : ∀ (x : V) (d : Dt) (Hr H : Hp) (a : Addr), Rep K cl Hr x d → ok d = true → tm (σ0 [.ref a, x]) H (fun us H2 => us.length ≤ 1000 ∧ H2 = H)) (ha : Sim K cl (fun _ => E0) te xe) :
    SimS K cl (fun _ => E0) (fun _ σ H => tMkO C (spEx C fld tm σ0) [] (tCons te tNil) σ H fun cls d H' => E0 cls d H') (xsRaiseF c fld ok xe) := fun B H0 O σ D H s En q => by
  unfold xsRaiseF at q
  refine ha B H0 O σ D H s _ ?_
  cases e : xe D with
  | bad => rw [e] at q; exact q.elim
  | ex c' fs => rw [e] at q; exact q O σ H s (Same.refl _)
  | ok d =>
    rw [e] at q
    simp only [out_ok] at q
    intro x H1 e1 rx
    split at q
    · rename_i hk
      refine ⟨by simp, fun a na => ⟨a, x, rfl, upd_same, hm x d _ _ a rx hk, fun dx nx ne => ?_⟩⟩
      have n1 : H1 dx = none := by rw [upd_ne ne] at nx; exact nx
      have hd : (upd (upd (upd H1 a (exo a C none)) dx (exd dx [(fld, x)])) a (exo a C (some dx))) dx = some (exd dx [(fld, x)]) := by rw [upd_ne ne, upd_same]
      refine ⟨rfl, dx, [(fld, x)], upd_same, hd, n1, ?_⟩
      have sm : Same H1 (upd (del (upd (upd (upd H1 a (exo a C none)) dx (exd dx [(fld, x)])) a (exo a C (some dx))) a) dx (.xd [(fld, x)])) := fun b o hb => by
        have ba : b ≠ a := fun z => by rw [z, na] at hb; cases hb
        have bd : b ≠ dx := fun z => by rw [z, n1] at hb; cases hb
        rw [upd_ne bd, del_ne ba, upd_ne ba, upd_ne bd, upd_ne ba, hb]
      exact (q O σ H1 (s.mono e1) (hid_mono e1) C hc).2 _ dx [(fld, x)] sm upd_same rfl (.cons (rx.mono (hid_mono sm)) .nil)
    · exact q.elim
end
end Mx
set_option exponentiation.threshold 5000
namespace L2
open PySem PySem.Spec PyProof.Rows
/-! ### whole numbers of some size -/
/-- numbers up to here may be multiplied and divided -/
@[irreducible] def lineB : Nat := 2 ^ 4096
theorem lineB_eq : lineB = 2 ^ 4096 := by unfold lineB; rfl
theorem lt_lineB {n k : Nat} (h : n < 2 ^ k) (hk : k ≤ 4096) : n < lineB := by rw [lineB_eq]; exact Nat.lt_of_lt_of_le h (Nat.pow_le_pow_right (by decide) hk)
theorem log_lineB {n : Nat} (h : n < lineB) : n.log2 < 9000 := by
  rw [lineB_eq] at h
  by_cases h0 : n = 0
  · rw [h0, Nat.log2_zero]; decide
  · have : n.log2 < 4096 := (Nat.log2_lt h0).mpr h
    omega
def CMulB (i j : Int) : Prop := CMul i j ∨ (i.natAbs < lineB ∧ j.natAbs < lineB)
theorem cmulB_of {i j : Int} (h : i.natAbs < lineB) (h2 : j.natAbs < lineB) : CMulB i j := .inr ⟨h, h2⟩
theorem cmulB_l (i j : Int) (h : -(2 ^ 64) < i ∧ i < 2 ^ 64) : CMulB i j := .inl (.inl h)
theorem cmulB_r (i j : Int) (h : -(2 ^ 64) < j ∧ j < 2 ^ 64) : CMulB i j := .inl (.inr h)
def CDivB (i j : Int) : Prop := j ≠ 0 ∧ j.natAbs < lineB
instance (i j : Int) : Decidable (CMul i j) := by unfold CMul; infer_instance
instance (i j : Int) : Decidable (CMulB i j) := by unfold CMulB; infer_instance
instance (i j : Int) : Decidable (CDivB i j) := by unfold CDivB; infer_instance
theorem bits_lineB {i : Int} (h : i.natAbs < lineB) : Builtin.Int.intBits i ≤ 2 ^ 20 := by
  rw [lineB_eq] at h
  exact Nat.le_trans ((PySem.intBits_le_iff (m := 4096)).mpr h) (by decide)
section
variable {X : Cx}
theorem op_mulB : OpR X (binaryOp .Mult) (rI CMulB fun i j => .int (i * j)) := opI fun _ _ _ _ _ _ _ hc q => mul_int q (hc.elim CMul.ok fun h => .of_bits (bits_lineB h.1) (bits_lineB h.2))
theorem op_fdivB : OpR X (binaryOp .FloorDiv) (rI CDivB fun i j => .int (i.fdiv j)) := opI fun _ _ _ _ _ _ _ hc q => floordiv_int hc.1 q (.inl (PyProof.noPylong_of_log2 (log_lineB hc.2)))
/-! ### gcd of two and of three -/
theorem args_gcd3 (a b c : Value) : argsOk "math.gcd" ⟨[a, b, c], []⟩ := by unfold argsOk; kernel_rfl
theorem run_gcd3 (a : Int) (t : Tok) (b : Int) (u : Tok) (c : Int) (v : Tok) : Gives (Builtin.«math.gcd» ⟨[.int a t, .int b u, .int c v], []⟩) (.int (((((Nat.gcd 0 a.natAbs).gcd b.natAbs).gcd c.natAbs : Nat) : Int))) :=
  .of_wp fun M A E s Q h => by
    obtain ⟨hp, g, d, tk, os⟩ := s
    wp_walk
    exact ⟨_, rfl, h⟩
def rGcd3 : List V → Hp → VK → Prop := fun vs H Q => ∃ a b c : Int, vs = [.int a, .int b, .int c] ∧ Q (.int ((((a.natAbs.gcd b.natAbs).gcd c.natAbs : Nat)) : Int)) H
def rGcdA : List V → Hp → VK → Prop := fun vs H Q => rGcd vs H Q ∨ rGcd3 vs H Q
theorem cr_gcdA : CallR X (.builtin "math.gcd") rGcdA := by
  intro pins s σ H vs us Q I r h
  rcases h with h | ⟨a, b, c, rfl, q⟩
  · exact cr_gcd pins s σ H vs us Q I r h
  · cases r with
    | cons r1 r =>
      cases r with
      | cons r2 r =>
        cases r with
        | cons r3 r =>
          cases r
          obtain ⟨t, rfl⟩ := r1
          obtain ⟨u, rfl⟩ := r2
          obtain ⟨v, rfl⟩ := r3
          have g := run_gcd3 a t b u c v
          rw [Nat.gcd_zero_left] at g
          exact call_function_meets PySem.W.MGF.kind_gcd PySem.W.MGF.plain_gcd PySem.W.MGF.entry_gcd (args_gcd3 _ _ _) g.meets ⟨.int _, H, I.tok _, ⟨_, rfl⟩, q⟩
end
end L2
namespace Mx
open PySem PySem.Spec PyProof.Rows L2
section
variable {K : Fr} {cl : Cl} {E : L2.St → XK}
abbrev rMulB : R2 := rI CMulB fun i j => .int (i * j)
def dMulB : Dt → Dt → R Dt := dI fun i j => if CMulB i j then .ok (.int (i * j)) else .bad
@[simp] theorem dMulB_int (i j : Int) : dMulB (.int i) (.int j) = if CMulB i j then .ok (.int (i * j)) else .bad := rfl
theorem os_mulB : OpS K cl rMulB dMulB := os_I fun i j H => .int _
abbrev rFdivB : R2 := rI CDivB fun i j => .int (i.fdiv j)
def dFdivB : Dt → Dt → R Dt := dI fun i j => if CDivB i j then .ok (.int (i.fdiv j)) else .bad
@[simp] theorem dFdivB_int (i j : Int) : dFdivB (.int i) (.int j) = if CDivB i j then .ok (.int (i.fdiv j)) else .bad := rfl
theorem os_fdivB : OpS K cl rFdivB dFdivB := os_I fun i j H => .int _
def dGcd : List Dt → R Dt
  | [.int a, .int b] => .ok (.int ((Nat.gcd a.natAbs b.natAbs : Nat) : Int))
  | [.int a, .int b, .int c] => .ok (.int ((((a.natAbs.gcd b.natAbs).gcd c.natAbs : Nat)) : Int))
  | _ => .bad
@[simp] theorem dGcd_2 (a b : Int) : dGcd [.int a, .int b] = .ok (.int ((Nat.gcd a.natAbs b.natAbs : Nat) : Int)) := rfl
@[simp] theorem dGcd_3 (a b c : Int) : dGcd [.int a, .int b, .int c] = .ok (.int ((((a.natAbs.gcd b.natAbs).gcd c.natAbs : Nat)) : Int)) := rfl
theorem cs_gcd : CaS K cl rGcdA dGcd := fun O H xs ds E ho r Q q => by
  unfold dGcd at q
  split at q
  · cases r with
    | cons r1 r => cases r with
      | cons r2 r =>
        cases r
        cases r1.int_
        cases r2.int_
        exact .inl ⟨_, _, rfl, ok_ret q (.int _)⟩
  · cases r with
    | cons r1 r => cases r with
      | cons r2 r => cases r with
        | cons r3 r =>
          cases r
          cases r1.int_
          cases r2.int_
          cases r3.int_
          exact .inr ⟨_, _, _, rfl, ok_ret q (.int _)⟩
  · exact q.elim
end
end Mx
namespace L2
open PySem PySem.Spec PyProof.Rows PySem.W
/-- what a class of the text with its own `in` says to it -/
structure OwnC (K : Frag) (C f : Addr) : Prop where
  at_ : findIn K (.ref C) "__contains__" = some (some (.ref f))
  fn : isFn K (.ref f) = true
section
variable {X : Cx} {CX : CXT} {k n : Nat} {C f : Addr} {fd : FuncData} {ps : List Str} {sp : Sp} {E : XK}
/-- x in o, o an object with its own __contains__ -/
def rInC (C : Addr) (sp : Sp) (E : XK) : R2 := fun x y H Q => ∃ a dx fs, y = .ref a ∧ H a = some (.ins C dx fs) ∧ sp [.ref a, x] H (fun z H' => ∃ b, z = .bl b ∧ Q (.bl b) H') E
theorem op_inC (h : OwnC X.K C f) (F : FnOk X.prog X.w X.K X.mg X.base CX k f fd ps sp) (hr : Room k X.A) (hb : Binds X.K fd ps []) (hx : Passes CX X E) : OpR X (compareOp .In) (rInC C sp E) := by
  intro pins s σ H x y v u Q I rx ry q0
  obtain ⟨a, dx, fs, rfl, ea, q⟩ := q0
  obtain rfl : u = Value.ref a := ry
  obtain ⟨mA, oa, _⟩ := ins_get I.hok ea
  obtain ⟨od, J, _⟩ := oa.look
  obtain ⟨m, fr⟩ := I.fr
  have r := run_fn (ds := []) (dvs := []) F hr hb .nil hx I (us := [.ref a, v]) (vs := [.ref a, x]) (.cons rfl (.cons rx .nil)) q
  exact PySem.W.in_K fr I.ok.mod.kin J h.at_ h.fn (wpAny_mono r (fun z s' hz => by
    obtain ⟨v, H', I', rv, b, rfl, q'⟩ := hz
    obtain rfl : z = Value.bool b := rv
    exact wpAny_truthy_bool ⟨V.bl b, H', I', rfl, q'⟩) fun _ _ z => z)
end
end L2
namespace Mx
open PySem PySem.Spec PyProof.Rows L2
section
variable {K : Fr} {cl : Cl} {H H' H1 H0 : Hp} {O : List Addr} {E : L2.St → XK}
/-! ### x in o -/
def dInC (c : Str) (f : List Dt → R Dt) : Dt → Dt → R Dt := fun x o => match o with
  | .ins c1 fs => if c1 = c then (f [.ins c1 fs, x]).bind (fun d => match d with | .bl b => .ok (.bl b) | _ => .bad) else .bad
  | _ => .bad
def dBl : Dt → R Dt
  | .bl b => .ok (.bl b)
  | _ => .bad
@[simp] theorem dBl_bl (b : Bool) : dBl (.bl b) = .ok (.bl b) := rfl
theorem dInC_ins' (c c1 : Str) (f : List Dt → R Dt) (fs : List (Str × Dt)) (x : Dt) : dInC c f x (.ins c1 fs) = if c1 = c then (f [.ins c1 fs, x]).bind dBl else .bad := rfl
@[simp] theorem dInC_ins (c c1 : Str) (f : List Dt → R Dt) (fs : List (Str × Dt)) (x : Dt) : dInC c f x (.ins c1 fs) = if c1 = c then (f [.ins c1 fs, x]).bind dBl else .bad := rfl
theorem sim_inC {c : Str} {C : Addr} {f : List Dt → R Dt} {E0 : XK} {ta tb : TE} {xa xb : XE} (hc : cl c = some C) (ha : Sim K cl (fun _ => E0) ta xa) (hb : Sim K cl (fun _ => E0) tb xb) :
    Sim K cl (fun _ => E0) (tOp (rInC C (PureSp K cl f) E0) ta tb) (x2 (dInC c f) xa xb) := sim_two ha hb fun O H x y a b tr rx ry Q q => by
  cases ry with
  | ins k e kk rr =>
    rw [dInC_ins] at q
    split at q
    · rename_i h
      subst h
      rw [hc] at k
      cases k
      refine ⟨_, _, _, rfl, hid_same _ _ _ _ e, O, _, tr, .cons (.ins hc e kk rr) (.cons rx .nil), ?_⟩
      revert q
      generalize f _ = z
      intro q
      cases z with
      | bad => exact q
      | ex c fs => exact q
      | ok d =>
        rw [bind_ok] at q
        cases d with
        | bl b =>
          intro v H' e' r'
          cases r'
          exact ⟨_, rfl, q _ H' e' (.bl _)⟩
        | _ => exact q.elim
    · exact q.elim
  | _ => exact q.elim
/-! ### for a, b in zip(xs, ys): two lists -/
def zipD : List Dt → List Dt → List Dt
  | a :: l, b :: m => .tup [a, b] :: zipD l m
  | _, _ => []
@[simp] theorem zipD_cons (a b : Dt) (l m : List Dt) : zipD (a :: l) (b :: m) = .tup [a, b] :: zipD l m := rfl
@[simp] theorem zipD_nil (m : List Dt) : zipD [] m = [] := by cases m <;> rfl
@[simp] theorem zipD_nil2 (m : List Dt) : zipD m [] = [] := by cases m <;> rfl
theorem zipD_get : ∀ {l m : List Dt} {i : Nat} {d : Dt}, (zipD l m)[i]? = some d → ∃ a b, l[i]? = some a ∧ m[i]? = some b ∧ d = .tup [a, b]
  | [], m, i, d, h => by simp at h
  | _ :: _, [], i, d, h => by simp at h
  | a :: l, b :: m, 0, d, h => by simp at h; exact ⟨a, b, rfl, rfl, h.symm⟩
  | a :: l, b :: m, i + 1, d, h => by simpa using zipD_get (l := l) (m := m) (i := i) (by simpa using h)
theorem zipD_len : ∀ (l m : List Dt), (zipD l m).length = min l.length m.length
  | [], m => by simp
  | _ :: _, [] => by simp
  | a :: l, b :: m => by rw [zipD_cons, List.length_cons, zipD_len l m, List.length_cons, List.length_cons]; omega
theorem goes_zip {a b : Addr} {vs ws : List V} {ds es : List Dt} (h : SqL K (hid O H) a vs) (h2 : SqL K (hid O H) b ws) (r : RepL K cl (hid O H) vs ds) (r2 : RepL K cl (hid O H) ws es) : Goes K cl (Itz K a b) (zipD ds es) O H H0 := fun i O' H' _ e t => by
  have h' : SqL K H' a vs := (hid_same O' H').seq (e.seq h)
  have h2' : SqL K H' b ws := (hid_same O' H').seq (e.seq h2)
  refine ⟨fun d hd => ?_, fun hi => ⟨vs, ws, h', h2', by rw [zipD_len] at hi; rw [r.len, r2.len]; omega⟩⟩
  obtain ⟨x, y, hx, hy, rfl⟩ := zipD_get hd
  obtain ⟨v, hv, rv⟩ := r.get hx
  obtain ⟨w, hw, rw_⟩ := r2.get hy
  refine ⟨⟨vs, ws, v, w, h', h2', hv, hw⟩, fun z H2 q => ?_⟩
  obtain ⟨T, x', y', rfl, hT, rfl, f1, f2⟩ := q
  have a1 := f1 vs h'
  have a2 := f2 ws h2'
  rw [hv] at a1; rw [hw] at a2
  cases a1; cases a2
  have nT : T ∉ O' := fun m => by have := t T m; rw [hT] at this; exact mutO_none this
  refine ⟨same_upd hT, .tup (hid_at nT) (.cons ((rv.mono e).mono (hid_mono (same_upd hT))) (.cons ((rw_.mono e).mono (hid_mono (same_upd hT))) .nil))⟩
def lst2 : List Dt → R (List Dt × List Dt)
  | [.lst a, .lst b] => .ok (a, b)
  | _ => .bad
@[simp] theorem lst2_ok (a b : List Dt) : lst2 [.lst a, .lst b] = .ok (a, b) := rfl
@[simp] def xZip (xa : XA) : XA := fun D => (xa D).bind fun l => (lst2 l).bind fun p => .ok (zipD p.1 p.2)
theorem si_zip {ta : TA} {xa : XA} (h : SimA K cl E ta xa) : SimI K cl E (RZ.iZipA K ta) (xZip xa) := fun B H0 O σ D H s Rk q => by
  unfold xZip at q
  refine h B H0 O σ D H s _ ?_
  cases e : xa D with
  | bad => rw [e] at q; exact q.elim
  | ex c fs => rw [e] at q; exact q
  | ok l =>
    rw [e] at q
    simp only [R.bind] at q
    intro vs H1 e1 r
    cases r with
    | nil => exact q.elim
    | cons r1 r => cases r with
      | nil => cases r1 <;> exact q.elim
      | cons r2 r => cases r with
        | cons r3 r => cases r1 <;> first | exact q.elim | (cases r2 <;> exact q.elim)
        | nil =>
          cases r1 <;> first | exact q.elim | skip
          cases r2 <;> first | exact q.elim | skip
          rename_i a vs ds ha ra b ws es hb rb
          exact ⟨a, b, vs, ws, rfl, .inl ⟨SqL.of (hid_same _ _ _ _ ha), SqL.of (hid_same _ _ _ _ hb), q _ H1 e1 (goes_zip (SqL.of ha) (SqL.of hb) ra rb)⟩⟩
/-! ### x += e, whole numbers -/
def augI (g : Int → Int → Int) : Dt → Dt → R Dt
  | .int i, .int j => .ok (.int (g i j))
  | _, _ => .bad
@[simp] theorem augI_int (g : Int → Int → Int) (i j : Int) : augI g (.int i) (.int j) = .ok (.int (g i j)) := rfl
@[simp] def xsAug (i : Nat) (g : Int → Int → Int) (xe : XE) : XS := fun D => (shO D[i]?).out D fun a => (xe D).out D fun b => (augI g a b).get fun d => .nx (D.set i (.sh d))
theorem ss_aug {i : Nat} {g : Int → Int → Int} {te : TE} {xe : XE} (h : Sim K cl E te xe) : SimS K cl E (tAug i te (ipI g)) (xsAug i g xe) := fun B H0 O σ D H s En q => by
  unfold xsAug at q
  cases hi : D[i]? with
  | none => rw [hi] at q; exact q.elim
  | some sl =>
    rw [hi] at q
    cases sl with
    | sh a =>
      obtain ⟨x, e1, rr⟩ := s.slot i _ hi
      refine ⟨x, e1, ?_⟩
      simp only [shO_sh, out_ok] at q
      refine h B H0 O σ D H s _ ?_
      cases e : xe D with
      | bad => rw [e] at q; exact q.elim
      | ex c fs => rw [e] at q; exact q O σ H s (Same.refl _)
      | ok b =>
        rw [e] at q
        intro y H1 f1 r1
        cases a <;> first | exact q.elim | skip
        cases b <;> first | exact q.elim | skip
        cases rr
        cases r1
        exact ⟨_, _, rfl, rfl, q O _ H1 ((s.mono f1).setSh i (.int _)) (hid_mono f1)⟩
    | _ => exact q.elim
end
end Mx
namespace L2
open PySem PySem.Spec PyProof.Rows
/-- a call without keywords, as one with keywords -/
theorem kbn_plain {K : PySem.W.Frag} {fd : FuncData} {ps : List Str} {n : Nat} (b : Binds K fd ps []) (hn : ps.length = n) : KBn K fd ps n [] (fun us ws => us ++ ws) (fun vs zs => vs ++ zs) where
  to := fun s us ws X h1 h2 => by
    have e : ws = [] := List.eq_nil_of_length_eq_zero (by simpa using h2)
    subst e
    exact b s us X (by rw [List.append_nil, h1, hn])
  rel := fun r1 r2 => r1.append r2
end L2
namespace Mx
open PySem PySem.Spec PyProof.Rows L2
section
variable {K : Fr} {cl : Cl} {H H' H1 H0 : Hp} {O O' B : List Addr} {E : L2.St → XK} {E0 : XK} {σ : L2.St} {D : Ds}
/-! ### a list that a def has been lent -/
def itemsS : Option Sl → R (List Dt)
  | some (.sh d) => dItems d
  | some (.br l) => .ok l
  | _ => .bad
@[simp] theorem itemsS_sh (d : Dt) : itemsS (some (.sh d)) = dItems d := rfl
@[simp] theorem itemsS_br (l : List Dt) : itemsS (some (.br l)) = .ok l := rfl
@[simp] def xItemsV (i : Nat) : XA := fun D => itemsS D[i]?
theorem goes_br {a : Addr} {vs : List V} {ds : List Dt} (h : H0 a = some (.lst vs)) (r : RepL K cl (hid O H) vs ds) : Goes K cl (Itl K a) ds O H H0 := fun i O' H' e0 e t => by
  have h' : SqL K H' a vs := SqL.of (e0 _ _ h)
  refine ⟨fun d hd => ?_, fun hi => ⟨vs, h', by rw [r.len, hi]; exact Nat.le_refl _⟩⟩
  obtain ⟨v, hv, rv⟩ := r.get hd
  exact ⟨⟨vs, v, h', hv⟩, fun x H2 y => by
    obtain ⟨rfl, y⟩ := y
    have := y vs h'
    rw [hv] at this
    cases this
    exact ⟨Same.refl _, rv.mono e⟩⟩
theorem si_slot {i : Nat} : SimI K cl E (iList K (tVar i)) (xItemsV i) := fun B H0 O σ D H s Rk q => by
  unfold xItemsV at q
  cases e : D[i]? with
  | none => rw [e] at q; exact q.elim
  | some sl =>
    rw [e] at q
    cases sl with
    | sh d =>
      obtain ⟨x, ex, r⟩ := s.slot i _ e
      refine ⟨x, ex, ?_⟩
      simp only [itemsS_sh] at q
      cases d with
      | lst l =>
        cases r with
        | lst ha ra => exact ⟨_, rfl, ⟨_, SqL.of (hid_same _ _ _ _ ha)⟩, q _ H (Same.refl _) (goes_list (SqL.of ha) ra)⟩
      | frl l =>
        cases r with
        | frl ha ra => exact ⟨_, rfl, ⟨_, (hid_same _ _).seq ha⟩, q _ H (Same.refl _) (goes_list ha ra)⟩
      | _ => exact q.elim
    | br l =>
      obtain ⟨a, xs, ex, m, h0, r⟩ := s.slot i _ e
      exact ⟨_, ex, _, rfl, ⟨_, SqL.of (s.same _ _ h0)⟩, q _ H (Same.refl _) (goes_br h0 r)⟩
    | _ => exact q.elim
/-- arguments, some of which are lent lists -/
inductive RepM (K : Fr) (cl : Cl) (O : List Addr) (H : Hp) : List Bool → List V → List Dt → Prop
  | nil : RepM K cl O H [] [] []
  | lent {a : Addr} {xs : List V} {l : List Dt} {ms : List Bool} {vs : List V} {ds : List Dt} : a ∈ O → H a = some (.lst xs) → RepL K cl (hid O H) xs l → RepM K cl O H ms vs ds → RepM K cl O H (true :: ms) (.ref a :: vs) (.lst l :: ds)
  | cons {v : V} {d : Dt} {ms : List Bool} {vs : List V} {ds : List Dt} : Rep K cl (hid O H) v d → RepM K cl O H ms vs ds → RepM K cl O H (false :: ms) (v :: vs) (d :: ds)
theorem RepM.mono (e : Same H H') : ∀ {ms : List Bool} {vs : List V} {ds : List Dt}, RepM K cl O H ms vs ds → RepM K cl O H' ms vs ds
  | _, _, _, .nil => .nil
  | _, _, _, .lent m h r q => .lent m (e _ _ h) (r.mono (hid_mono e)) (q.mono e)
  | _, _, _, .cons r q => .cons (r.mono (hid_mono e)) (q.mono e)
theorem RepM.len : ∀ {ms : List Bool} {vs : List V} {ds : List Dt}, RepM K cl O H ms vs ds → vs.length = ds.length
  | _, _, _, .nil => rfl
  | _, _, _, .lent _ _ _ q => by rw [List.length_cons, List.length_cons, q.len]
  | _, _, _, .cons _ q => by rw [List.length_cons, List.length_cons, q.len]
/-- the slots of such arguments -/
def slM : List Bool → List Dt → List Sl
  | true :: ms, .lst l :: ds => .br l :: slM ms ds
  | _ :: ms, d :: ds => .sh d :: slM ms ds
  | _, _ => []
theorem slM_ow {t : Ow} : ∀ {ms : List Bool} {ds : List Dt}, Sl.ow t ∈ slM ms ds → False := by
  intro ms
  induction ms with
  | nil => intro ds h; simp [slM] at h
  | cons b ms ih =>
    intro ds h
    cases ds with
    | nil => simp [slM] at h
    | cons d ds =>
      unfold slM at h
      split at h
      · rename_i e1 e2
        cases e1; cases e2
        rcases List.mem_cons.mp h with e | m
        · cases e
        · exact ih m
      · rename_i e1 e2
        cases e1; cases e2
        rcases List.mem_cons.mp h with e | m
        · cases e
        · exact ih m
      · cases h
theorem RepM.slots (hB : ∀ a, a ∈ O → MutO (H a) = true) : ∀ {ms : List Bool} {vs : List V} {ds : List Dt}, RepM K cl O H ms vs ds → (slM ms ds).length = ds.length ∧ ∀ (i : Nat) s, (slM ms ds)[i]? = some s → s.own = false ∧ ∀ (w : Option (Option V)), w = (vs[i]?).map some → SlotOk K cl H O H w s
  | _, _, _, .nil => ⟨rfl, fun i s h => by simp [slM] at h⟩
  | _, _, _, .lent (l := l) m h r q => by
    obtain ⟨q1, q2⟩ := q.slots hB
    refine ⟨by simp [slM, q1], fun i s hs => ?_⟩
    cases i with
    | zero => simp [slM] at hs; subst hs; exact ⟨rfl, fun w e => ⟨_, _, by rw [e]; rfl, m, h, r⟩⟩
    | succ i => exact q2 i s (by simpa [slM] using hs)
  | _, _, _, .cons (d := d) (ms := ms) (ds := ds) r q => by
    obtain ⟨q1, q2⟩ := q.slots hB
    have e : slM (false :: ms) (d :: ds) = .sh d :: slM ms ds := rfl
    rw [e]
    refine ⟨by simp [q1], fun i s hs => ?_⟩
    cases i with
    | zero => simp at hs; subst hs; exact ⟨rfl, fun w e => ⟨_, by rw [e]; rfl, r⟩⟩
    | succ i => exact q2 i s (by simpa using hs)
def InitSpM (K : Fr) (cl : Cl) (c : Str) (ms : List Bool) (f : List Dt → R (List (Str × Dt))) : Sp := fun vs H Q E => ∃ B ds H0 x dx C rest, cl c = some C ∧ vs = .ref x :: rest ∧ H = upd (upd H0 dx (.own x)) x (.ins C dx []) ∧ H0 x = none ∧ H0 dx = none ∧ dx ≠ x ∧
  (∀ a, a ∈ B → MutO (H0 a) = true) ∧ RepM K cl B H0 ms rest ds ∧ PostI K cl E B H0 x C Q (f ds)
def runIM (c : Str) (n : Nat) (ms : List Bool) (xs : XS) (x : Addr) (ds : List Dt) : R (List (Str × Dt)) := match xs (Sl.oi x c [] :: (slM ms ds ++ List.replicate (n - (ds.length + 1)) .no)) with
  | .nx D => match D[0]? with
    | some (Sl.oi y c' fs) => if y = x ∧ c' = c then .ok fs else .bad
    | _ => .bad
  | .ex c fs _ => .ex c fs
  | _ => .bad
theorem init_okM {N : List Str} {ts : TS} {xs : XS} {vs : List V} {H : Hp} {Q : VK} {E : XK} {c : Str} {ms : List Bool} {k : Nat} {f : List Dt → R (List (Str × Dt))} (hs : SimS K cl (fun _ => E) ts xs) (hN : k + 1 ≤ N.length)
    (hf : ∀ x ds r, f ds = r → r ≠ .bad → ds.length = k ∧ runIM c N.length ms xs x ds = r) (h : InitSpM K cl c ms f vs H Q E) : ts { nx := fun _ H' => Q .non H', rt := Q } (L2.start N vs) H := by
  obtain ⟨B, ds, H0, x, dx, C, rest, hc, rfl, rfl, nx, nd, ne, hB, r, q⟩ := h
  have nb : f ds ≠ .bad := fun e => by rw [e] at q; exact q
  obtain ⟨hlen, hrun⟩ := hf x ds _ rfl nb
  obtain ⟨sl, so⟩ := r.slots hB
  have e1 : Same H0 (upd (upd H0 dx (.own x)) x (.ins C dx [])) := fun b o e => by
    rw [upd_ne (ne_of_none e nx), upd_ne (ne_of_none e nd)]; exact e
  have rs0 : RS K cl B H0 B (L2.start N (V.ref x :: rest)) (.no :: (slM ms ds ++ List.replicate (N.length - (ds.length + 1)) .no)) H0 := by
    refine ⟨Same.refl _, fun a m => ⟨m, hB a m⟩, fun a m => ⟨.inl m, hB a m⟩, ?_, fun i s h => ?_, fun i j s t a hij a1 a2 o1 o2 h1 => ?_, Inn.none fun i t h => ?_⟩
    · simp [L2.start, r.len, sl]
    · cases i with
      | zero => simp at h; subst h; trivial
      | succ i =>
        rw [List.getElem?_cons_succ] at h
        by_cases hi : i < ds.length
        · rw [List.getElem?_append_left (by rw [sl]; exact hi)] at h
          refine (so i s h).2 _ ?_
          unfold L2.start
          rw [List.getElem?_append_left (by rw [List.length_map, List.length_cons, r.len]; omega), List.getElem?_map, List.getElem?_cons_succ]
        · rw [List.getElem?_append_right (by rw [sl]; omega)] at h
          have := List.eq_of_mem_replicate (List.mem_of_getElem? h)
          subst this
          trivial
    · have hs : ∀ (i : Nat) s, (Sl.no :: (slM ms ds ++ List.replicate (N.length - (ds.length + 1)) .no))[i]? = some s → s.own = false := fun i s h => by
        have m := List.mem_of_getElem? h
        rcases List.mem_cons.mp m with rfl | m
        · rfl
        rcases List.mem_append.mp m with m | m
        · obtain ⟨j, hj⟩ := List.mem_iff_getElem?.mp m
          exact (so j s hj).1
        · have := List.eq_of_mem_replicate m; subst this; rfl
      rw [hs i s a1] at o1
      cases o1
    · have m := List.mem_of_getElem? h
      rcases List.mem_cons.mp m with e | m
      · cases e
      rcases List.mem_append.mp m with m | m
      · exact slM_ow m
      · have := List.eq_of_mem_replicate m; cases this
  have rs1 := rs0.setOwn 0 (p := x) (s := .oi x c []) e1 nx ⟨C, dx, [], ⟨hc, rfl⟩, upd_same, rfl, .nil⟩ (by rw [upd_same]; rfl)
  have es : (L2.start N (V.ref x :: rest)).set 0 (some (.ref x)) = L2.start N (V.ref x :: rest) := by simp [L2.start]
  rw [es] at rs1
  refine hs B H0 (x :: B) _ _ _ rs1 _ ?_
  show PostS K cl B H0 (fun _ => E) _ _ _ (xs (Sl.oi x c [] :: (slM ms ds ++ List.replicate (N.length - (ds.length + 1)) .no)))
  rw [← hrun] at q
  unfold runIM at q
  cases e : xs (Sl.oi x c [] :: (slM ms ds ++ List.replicate (N.length - (ds.length + 1)) .no)) with
  | bad => rw [e] at q; exact q.elim
  | nx D =>
    rw [e] at q
    simp only at q
    intro O' σ' H' s f
    split at q
    · rename_i y c' fs hD
      split at q
      · rename_i hy
        obtain ⟨rfl, rfl⟩ := hy
        obtain ⟨a, ea, ma, C', dx', fv, c1, ha, hk, ra⟩ := own_at s hD rfl
        obtain ⟨c2, rfl⟩ := c1
        rw [hc] at c2
        cases c2
        have hx' : H' a = some (.ins C dx' fv) := ha
        have sub : ∀ b, b ∈ a :: B → b ∈ O' := fun b m => by
          rcases List.mem_cons.mp m with rfl | m
          · exact ma
          · exact (s.bas b m).1
        exact q H' dx' fv s.same hx' hk (ra.mono (hid_sub sub))
      · exact q.elim
    · exact q.elim
  | rt d => rw [e] at q; exact q.elim
  | bk D => rw [e] at q; exact q.elim
  | ct D => rw [e] at q; exact q.elim
  | ex c fs D => rw [e] at q; exact fun O' σ' H' s f => (ExOk.mono s.same q).sub fun a m => (s.bas a m).1
theorem initSpM_len {c : Str} {ms : List Bool} {f : List Dt → R (List (Str × Dt))} {k : Nat} {vs : List V} {H : Hp} {Q : VK} {E : XK} (h : InitSpM K cl c ms f vs H Q E) (hf : ∀ ds : List Dt, ¬ ds.length = k → f ds = .bad) : vs.length = k + 1 := by
  obtain ⟨B, ds, H0, x, dx, C, rest, hc, rfl, rfl, nx, nd, ne, hB, r, q⟩ := h
  by_cases e : ds.length = k
  · rw [List.length_cons, r.len, e]
  · rw [hf ds e] at q
    exact q.elim
/-! the caller's side -/
def PostM (K : Fr) (cl : Cl) (E : XK) (O : List Addr) (ms : List Bool) (H : Hp) (Q : List V → Hp → Prop) : R (List Dt) → Prop
  | .bad => False
  | .ex c fs => ExOk K cl E O c fs H
  | .ok ds => ∀ vs H', Same H H' → RepM K cl O H' ms vs ds → Q vs H'
def SimM (K : Fr) (cl : Cl) (E : L2.St → XK) (ms : List Bool) (ta : TA) (xa : XA) : Prop := ∀ B H0 O σ D H, RS K cl B H0 O σ D H → ∀ Q : List V → Hp → Prop, PostM K cl (E σ) O ms H Q (xa D) → ta σ H Q
theorem sm_nil : SimM K cl E [] tNil xNil := fun B H0 O σ D H r Q q => q _ H (Same.refl H) .nil
theorem sm_cons {ms : List Bool} {ta : TE} {tr : TA} {xa : XE} {xr : XA} (ha : Sim K cl E ta xa) (hr : SimM K cl E ms tr xr) : SimM K cl E (false :: ms) (tCons ta tr) (xCons xa xr) := fun B H0 O σ D H s Q q => by
  unfold xCons at q
  refine ha B H0 O σ D H s _ ?_
  cases ea : xa D with
  | bad => rw [ea] at q; exact q.elim
  | ex c fs => rw [ea] at q; exact q
  | ok a =>
    rw [ea] at q
    intro x H1 e1 rx
    refine hr B H0 O σ D H1 (s.mono e1) _ ?_
    simp only [R.bind] at q
    cases eb : xr D with
    | bad => rw [eb] at q; exact q.elim
    | ex c fs => rw [eb] at q; exact ExOk.mono e1 q
    | ok b =>
      rw [eb] at q
      intro y H2 e2 ry
      exact q _ H2 (e1.trans e2) (.cons (rx.mono (hid_mono e2)) ry)
def lentS : Option Sl → R Dt
  | some (.ol l) => .ok (.lst l)
  | some (.br l) => .ok (.lst l)
  | _ => .bad
@[simp] theorem lentS_ol (l : List Dt) : lentS (some (.ol l)) = .ok (.lst l) := rfl
@[simp] theorem lentS_br (l : List Dt) : lentS (some (.br l)) = .ok (.lst l) := rfl
@[simp] def xLent (i : Nat) : XE := fun D => lentS D[i]?
theorem sm_lent {i : Nat} {ms : List Bool} {tr : TA} {xr : XA} (hr : SimM K cl E ms tr xr) : SimM K cl E (true :: ms) (tCons (tVar i) tr) (xCons (xLent i) xr) := fun B H0 O σ D H s Q q => by
  unfold xCons xLent at q
  cases ei : D[i]? with
  | none => rw [ei] at q; exact q.elim
  | some sl =>
    have go : ∀ (l : List Dt) (a : Addr) (xs : List V), σ[i]? = some (some (.ref a)) → a ∈ O → H a = some (.lst xs) → RepL K cl (hid O H) xs l → ((R.ok (Dt.lst l)).bind fun a => (xr D).bind fun r => .ok (a :: r)) = (lentS D[i]?).bind (fun a => (xr D).bind fun r => .ok (a :: r)) → tCons (tVar i) tr σ H Q := fun l a xs e m h r eq => by
      rw [← eq] at q
      refine ⟨_, e, ?_⟩
      refine hr B H0 O σ D H s _ ?_
      simp only [R.bind] at q
      cases eb : xr D with
      | bad => rw [eb] at q; exact q.elim
      | ex c fs => rw [eb] at q; exact q
      | ok b =>
        rw [eb] at q
        intro y H2 e2 ry
        exact q _ H2 e2 (.lent m (e2 _ _ h) (r.mono (hid_mono e2)) ry)
    cases sl with
    | ol l =>
      obtain ⟨a, e, m, vs, h1, rr⟩ := s.slot i _ ei
      exact go l a vs e m.1 h1 rr (by rw [ei]; rfl)
    | br l =>
      obtain ⟨a, xs, e, m, h0, rr⟩ := s.slot i _ ei
      exact go l a xs e m (s.same _ _ h0) rr (by rw [ei]; rfl)
    | _ => rw [ei] at q; exact q.elim
theorem RepM.ref {ms : List Bool} {vs : List V} {ds : List Dt} (h : RepM K cl O H ms vs ds) : RepM K cl O H ms vs ds := h
@[simp] def xMakeM (c : Str) (n : Nat) (f : List Dt → R (List (Str × Dt))) (xa : XA) : XE := fun D => (xa D).bind fun ds => if ds.length = n then (f ds).bind fun fs => .ok (.ins c fs) else .bad
theorem sim_makeM {c : Str} {C : Addr} {n : Nat} {ms : List Bool} {f : List Dt → R (List (Str × Dt))} {gV : List V → List V → List V} {ta : TA} {xa : XA} (hc : cl c = some C) (hg : ∀ x vs, gV (.ref x :: vs) [] = .ref x :: vs)
    (ha : SimM K cl (fun _ => E0) ms ta xa) : Sim K cl (fun _ => E0) (tMakeK C n 0 (InitSpM K cl c ms f) gV E0 ta tNil) (xMakeM c n f xa) := fun B H0 O σ D H s Q q => by
  unfold xMakeM at q
  refine ha B H0 O σ D H s _ ?_
  cases ea : xa D with
  | bad => rw [ea] at q; exact q.elim
  | ex c fs => rw [ea] at q; exact q
  | ok ds =>
    rw [ea] at q
    simp only [Mx.R.bind] at q
    intro vs H1 e1 r1
    show tNil σ H1 _
    by_cases hl : ds.length = n
    · rw [if_pos hl] at q
      have s2 := s.mono e1
      refine ⟨by rw [r1.len]; exact hl, rfl, fun x dx nx nd ne => ?_⟩
      rw [hg]
      refine ⟨O, ds, H1, x, dx, C, vs, hc, rfl, rfl, nx, nd, ne, s2.trk, r1, ?_⟩
      cases ef : f ds with
      | bad => rw [ef] at q; exact q.elim
      | ex c fs => rw [ef] at q; exact ExOk.mono e1 q
      | ok fs =>
        rw [ef] at q
        intro H' dx' fv e3 hx hkeys rf
        refine ⟨rfl, q _ H' (e1.trans e3) (.ins (dx := dx') hc (by rw [hid_nin (trk_nin s2.trk nx)]; exact hx) hkeys (rf.mono (hid_sub fun a m => List.mem_cons_of_mem _ m)))⟩
    · rw [if_neg hl] at q
      exact q.elim
/-- what the body of an __init__ gives, by the slots behind self -/
def runJ (c : Str) (xs : XS) (x : Addr) (rest : List Sl) : R (List (Str × Dt)) := match xs (Sl.oi x c [] :: rest) with
  | .nx D => match D[0]? with
    | some (Sl.oi y c' fs) => if y = x ∧ c' = c then .ok fs else .bad
    | _ => .bad
  | .ex c fs _ => .ex c fs
  | _ => .bad
theorem runI_J (c : Str) (n : Nat) (xs : XS) (x : Addr) (ds : List Dt) : runI c n xs x ds = runJ c xs x (ds.map Sl.sh ++ List.replicate (n - (ds.length + 1)) .no) := rfl
theorem runIM_J (c : Str) (n : Nat) (ms : List Bool) (xs : XS) (x : Addr) (ds : List Dt) : runIM c n ms xs x ds = runJ c xs x (slM ms ds ++ List.replicate (n - (ds.length + 1)) .no) := rfl
theorem slM_cons (b : Bool) (a : Dt) : ∃ s, ∀ ms ds, slM (b :: ms) (a :: ds) = s :: slM ms ds := by
  cases b
  · exact ⟨_, fun _ _ => rfl⟩
  · cases a <;> exact ⟨_, fun _ _ => rfl⟩
theorem slM_nil : slM [] [] = [] := rfl
end
end Mx
namespace Mx
open PySem PySem.Spec PyProof.Rows L2
section
variable {K : Fr} {cl : Cl} {H H' H1 H0 : Hp} {O O' B : List Addr} {E : L2.St → XK} {E0 : XK} {σ : L2.St} {D : Ds}
/-! ### a def that returns a new list -/
inductive OutR where
  | bad | rt (l : List Dt) | ex (c : Str) (fs : List (Str × Dt)) (D : Ds)
abbrev XR := Ds → OutR
def PostR (K : Fr) (cl : Cl) (B : List Addr) (H0 : Hp) (E : L2.St → XK) (En : Ends) (O : List Addr) (H : Hp) : OutR → Prop
  | .bad => False
  | .rt l => ∀ p vs H', Same H0 H' → H0 p = none → H' p = some (.lst vs) → RepL K cl (hid (p :: B) H') vs l → En.rt (.ref p) H'
  | .ex c fs D => ∀ O' σ' H', RS K cl B H0 O' σ' D H' → Same (hid O H) (hid O' H') → ExOk K cl (E σ') O' c fs H'
def SimR (K : Fr) (cl : Cl) (E : L2.St → XK) (ts : TS) (xr : XR) : Prop := ∀ B H0 O σ D H, RS K cl B H0 O σ D H → ∀ En, PostR K cl B H0 E En O H (xr D) → ts En σ H
def R.outR (D : Ds) {α : Type} : R α → (α → OutR) → OutR
  | .bad, _ => .bad
  | .ex c fs, _ => .ex c fs D
  | .ok a, f => f a
@[simp] theorem outR_bad {D : Ds} {α : Type} {f : α → OutR} : R.outR D .bad f = .bad := rfl
@[simp] theorem outR_ex {D : Ds} {α : Type} {c : Str} {fs : List (Str × Dt)} {f : α → OutR} : R.outR D (.ex c fs) f = .ex c fs D := rfl
@[simp] theorem outR_ok {D : Ds} {α : Type} {a : α} {f : α → OutR} : R.outR D (.ok a) f = f a := rfl
theorem base_sub {a : Addr} (s : RS K cl B H0 O σ D H) (e : Same H H') {p : Addr} (m : p ∈ O ∨ True) : ∀ b, b ∈ p :: B → b ∈ p :: O := fun b hb => by
  rcases List.mem_cons.mp hb with rfl | hb
  · exact List.mem_cons_self
  · exact List.mem_cons_of_mem _ (s.bas b hb).1
@[simp] def xrRet (xl : XA) : XR := fun D => (xl D).outR D fun l => .rt l
theorem sr_ret {te : TE} {xl : XA} (h : SimL K cl E te xl) : SimR K cl E (tRet te) (xrRet xl) := fun B H0 O σ D H s En q => by
  unfold xrRet at q
  refine h B H0 O σ D H s _ ?_
  cases e : xl D with
  | bad => rw [e] at q; exact q.elim
  | ex c fs => rw [e] at q; exact q O σ H s (Same.refl _)
  | ok l =>
    rw [e] at q
    intro p vs H1 e1 np hp r
    exact q p vs H1 (s.same.trans e1) (s.same.free np) hp (r.mono (hid_sub fun b hb => by
      rcases List.mem_cons.mp hb with rfl | hb
      · exact List.mem_cons_self
      · exact List.mem_cons_of_mem _ (s.bas b hb).1))
def ownL : Option Sl → R (List Dt)
  | some (.ol l) => .ok l
  | _ => .bad
@[simp] theorem ownL_ol (l : List Dt) : ownL (some (.ol l)) = .ok l := rfl
@[simp] def xrOwn (i : Nat) : XR := fun D => (ownL D[i]?).outR D fun l => .rt l
theorem sr_own {i : Nat} : SimR K cl E (tRet (tVar i)) (xrOwn i) := fun B H0 O σ D H s En q => by
  unfold xrOwn at q
  cases e : D[i]? with
  | none => rw [e] at q; exact q.elim
  | some sl =>
    rw [e] at q
    cases sl with
    | ol l =>
      obtain ⟨a, ea, m, vs, h1, rr⟩ := s.slot i _ e
      refine ⟨_, ea, q a vs H s.same m.2 h1 (rr.mono (hid_sub fun b hb => ?_))⟩
      rcases List.mem_cons.mp hb with rfl | hb
      · exact m.1
      · exact (s.bas b hb).1
    | _ => exact q.elim
def Out.seqR (o : Out) (ys : XR) : OutR := match o with
  | .nx D => ys D
  | .ex c fs D => .ex c fs D
  | _ => .bad
@[simp] theorem seqR_nx (D : Ds) (ys : XR) : Out.seqR (.nx D) ys = ys D := rfl
@[simp] theorem seqR_ex (c : Str) (fs : List (Str × Dt)) (D : Ds) (ys : XR) : Out.seqR (.ex c fs D) ys = .ex c fs D := rfl
@[simp] def xrSeq (xs : XS) (ys : XR) : XR := fun D => (xs D).seqR ys
theorem PostR.fw {En : Ends} (e : Same (hid O H) (hid O' H')) {o : OutR} (q : PostR K cl B H0 E En O H o) : PostR K cl B H0 E En O' H' o := by
  cases o with
  | bad => exact q
  | rt l => exact q
  | ex c fs D => exact fun O2 σ2 H2 r f => q O2 σ2 H2 r (e.trans f)
theorem sr_seq {t u : TS} {xs : XS} {ys : XR} (h1 : SimS K cl E t xs) (h2 : SimR K cl E u ys) : SimR K cl E (tSeq t u) (xrSeq xs ys) := fun B H0 O σ D H s En q => by
  refine h1 B H0 O σ D H s _ ?_
  unfold xrSeq at q
  cases e : xs D with
  | nx D1 =>
    rw [e] at q
    exact fun O' σ' H' r f => h2 B H0 O' σ' D1 H' r En (PostR.fw f q)
  | ex c fs D1 => rw [e] at q; exact q
  | _ => rw [e] at q; exact q.elim
def LstSp (K : Fr) (cl : Cl) (f : List Dt → R (List Dt)) : Sp := fun vs H Q E => ∃ B ds, (∀ a, a ∈ B → MutO (H a) = true) ∧ RepL K cl (hid B H) vs ds ∧ PostL K cl E B H Q (f ds)
def runR (n : Nat) (xr : XR) (ds : List Dt) : R (List Dt) := match xr (ds.map Sl.sh ++ List.replicate (n - ds.length) .no) with
  | .rt l => .ok l
  | .ex c fs _ => .ex c fs
  | _ => .bad
def funR (k n : Nat) (xr : XR) (ds : List Dt) : R (List Dt) := if ds.length = k then runR n xr ds else .bad
theorem body_okR {N : List Str} {ts : TS} {xr : XR} {vs : List V} {H : Hp} {Q : VK} {E : XK} {k : Nat} (hs : SimR K cl (fun _ => E) ts xr) (hk : vs.length = k) (hN : k ≤ N.length)
    (h : LstSp K cl (funR k N.length xr) vs H Q E) : ts { nx := fun _ H' => Q .non H', rt := Q } (start N vs) H := by
  obtain ⟨B, ds, hB, r, q⟩ := h
  unfold funR at q
  rw [if_pos (by rw [← r.len]; exact hk)] at q
  refine hs B H B _ _ H (rs_start hB r (by omega)) _ ?_
  unfold runR at q
  cases e : xr (ds.map Sl.sh ++ List.replicate (N.length - ds.length) .no) with
  | bad => rw [e] at q; exact q.elim
  | rt l => rw [e] at q; exact fun p vs H' e1 np hp r => q p vs H' e1 np hp r
  | ex c fs D => rw [e] at q; exact fun O' σ' H' s f => (ExOk.mono s.same q).sub fun a m => (s.bas a m).1
theorem LstSp.len {k n : Nat} {xr : XR} {vs : List V} {H : Hp} {Q : VK} {E : XK} (h : LstSp K cl (funR k n xr) vs H Q E) : vs.length = k := by
  obtain ⟨B, ds, hB, r, q⟩ := h
  unfold funR at q
  split at q
  · rename_i e; rw [r.len]; exact e
  · exact q.elim
@[simp] def xCallL (f : List Dt → R (List Dt)) (xa : XA) : XA := fun D => (xa D).bind f
theorem simL_call {f : List Dt → R (List Dt)} {ta : TA} {xa : XA} (ha : SimA K cl E ta xa) : SimL K cl E (tCallSD (LstSp K cl f) [] E ta) (xCallL f xa) := fun B H0 O σ D H s Q q => by
  refine ha B H0 O σ D H s _ ?_
  cases ea : xa D with
  | bad => simp only [xCallL, ea] at q; exact q.elim
  | ex c fs => simp only [xCallL, ea] at q; exact q
  | ok ds =>
    simp only [xCallL, ea] at q
    intro vs H1 e1 r
    exact ⟨O, ds, (s.mono e1).trk, by rw [List.append_nil]; exact r, post_L e1 q⟩
def R.okOrL : R (List Dt) → R (List Dt)
  | .ok a => .ok a
  | _ => .bad
@[simp] theorem okOrL_ok (a : List Dt) : R.okOrL (.ok a) = .ok a := rfl
def dPropL (c : Str) (f : List Dt → R (List Dt)) (d : Dt) : R (List Dt) := match d with
  | .ins c' fs => if c' = c then (f [.ins c' fs]).okOrL else .bad
  | _ => .bad
@[simp] theorem dPropL_ins (c : Str) (f : List Dt → R (List Dt)) (fs : List (Str × Dt)) : dPropL c f (.ins c fs) = (f [.ins c fs]).okOrL := by simp [dPropL]
@[simp] def x1L (f : Dt → R (List Dt)) (xa : XE) : XA := fun D => (xa D).bind f
theorem simL_prop {c : Str} {C : Addr} {f : List Dt → R (List Dt)} {E1 : XK} {ta : TE} {xa : XE} (hc : cl c = some C) (ha : Sim K cl E ta xa) :
    SimL K cl E (tProp C (LstSp K cl f) [] E1 ta) (x1L (dPropL c f) xa) := fun B H0 O σ D H s Q q => by
  unfold x1L at q
  refine ha B H0 O σ D H s _ ?_
  cases ea : xa D with
  | bad => rw [ea] at q; exact q.elim
  | ex c fs => rw [ea] at q; exact q
  | ok d =>
    rw [ea] at q
    simp only [Mx.R.bind] at q
    intro v H1 e1 r
    cases d with
    | ins c' fs =>
      simp only [dPropL] at q
      by_cases hd : c' = c
      · rw [if_pos hd] at q
        subst hd
        have r' := r
        cases r with
        | ins c1 h1 hk rr =>
          rw [hc] at c1
          cases c1
          refine ⟨_, _, _, rfl, hid_same _ _ _ _ h1, O, [.ins c' fs], (s.mono e1).trk, RepL.one r', ?_⟩
          cases ef : f [.ins c' fs] with
          | bad => rw [ef] at q; exact q.elim
          | ex c2 fs2 => rw [ef] at q; exact q.elim
          | ok d => rw [ef] at q; exact fun p vs H' e n h1 h => q p vs H' (e1.trans e) (e1.free n) h1 h
      · rw [if_neg hd] at q
        exact q.elim
    | _ => exact q.elim
end
end Mx
namespace RT
open PySem PySem.Spec PyProof.Rows L2
section
variable {prog : Program} {w : World} {A : Around} {E : Value → Shared → Prop} {s : Shared} {R : Result → Shared → Prop}
theorem wpAny_list_init_rev {it l : Addr} {items : Array Value} {S : Addr} (hh : A.handled = none) (hit : s.heap.IsRevIter it l ((items.size : Int) - 1)) (hl : s.heap.IsList l items) (hne : l ≠ it) (hSi : S ≠ it) (hSl : S ≠ l) (hn : items.size ≤ sizeLine)
    (hS : s.heap.get? S = some { cls := .type "list", data := .seq #[] })
    (hR : ∀ s' acc' c', Moved [S, it] (fun a b => b = a) s s' → s'.heap.get? S = some { cls := .type "list", dict := none, data := .seq acc' c', slots := #[] } → ItemsOf (fun i v => items[items.size - 1 - i]? = some v) acc' items.size → R (.ok (.ret .none)) s') :
    wpAny (model prog w) A.in1 (Builtin.«list.__init__» ⟨[.ref S, .ref it], []⟩)
      (fun fin s' => match fin with | .done f => R (.ok f) s' | .again c' => c'.quiet = true ∧ codeAny (model prog w) A c' R s') (fun e s' => R (.error e) s') s := by
  have W := (Walks.listRev (prog := prog) (w := w) (A := A.in1) hh it l hne items).toS
  have hSf : S ∉ [it, l] := by simp only [List.mem_cons, List.not_mem_nil, or_false, not_or]; exact ⟨hSi, hSl⟩
  show wpAny _ _ (do let old ← Builtin.List.listItems (.ref S); Builtin.List.listUpdate (.ref S) (fun _ => #[]); letGo old.toList.reverse; Builtin.List.listExtendWith (.ref S) (.ref it) .none) _ _ s
  refine wpAny_bind ?_
  unfold Builtin.List.listItems
  refine wpAny_bind (wpAny_seqItems hS rfl (wpAny_pure ?_))
  show wpAny _ A.in1 (updateSeq S (fun _ => #[]) >>= fun _ => letGo (#[] : Array Value).toList.reverse >>= fun _ => Builtin.List.listExtendWith (.ref S) (.ref it) .none) _ _ s
  refine wpAny_bind (wpAny_updateSeq hS rfl ?_)
  have hS₂ := Heap.get?_update_self (Obj.mapSeq (fun _ => (#[] : Array Value))) hS rfl
  have oth : ∀ b o, b ≠ S → s.heap.get? b = some o → (s.heap.update S (Obj.mapSeq (fun _ => (#[] : Array Value)))).get? b = some o :=
    fun b o hb e => (Heap.get?_update_other _ _ (Ne.symm hb)).trans e
  refine wpAny_bind (wpAny_letGo ?_)
  generalize hsh : s.heap.update S (Obj.mapSeq (fun _ => (#[] : Array Value))) = hp at hS₂ oth
  have hit1 : hp.IsRevIter it l ((items.size : Int) - 1) := hit.at fun o e => oth it o (Ne.symm hSi) e
  have hl1 : hp.IsList l items := by
    obtain ⟨o, ho, r⟩ := id hl
    exact ⟨o, oth l o (Ne.symm hSl) ho, r⟩
  have hT : ({ s with heap := hp } : Shared).TypeIs (.ref it) "list_reverseiterator" := Heap.IsRevIter.typeIs (s := { s with heap := hp }) hit1
  have h1 : Builtin.List.listSameRef (.ref S) (.ref it) = false := by simp [Builtin.List.listSameRef, hSi]
  show wpAny _ A.in1 (Builtin.List.listExtendWith (.ref S) (.ref it) .none) _ _ _
  unfold Builtin.List.listExtendWith
  refine wpAny_bind (wpAny_typeOf hT ?_)
  rw [if_neg (by rw [h1]; decide)]
  refine wpAny_bind (wpAny_pyIter_revIter (s := { s with heap := hp }) hit1 ?_)
  refine wpAny_bind (wpAny_holding ?_)
  unfold Builtin.List.listLengthHint
  refine wpAny_bind (wpAny_specialOf hT nolen_lri ?_)
  show wpAny _ A.in1 (specialOf (Value.ref it) (Str.ofString "__length_hint__") >>= _) _ _ _
  refine wpAny_bind (wpAny_specialOf hT hint_lri ?_)
  generalize hid : ("list_reverseiterator.__length_hint__" : String) = id0
  wp_delta
  rw [show splitId id0 = some ("list_reverseiterator", "__length_hint__") from by subst hid; decide +kernel]
  subst hid
  refine wpAny_bind (wpAny_isInstance (b := true) hT (by rw [isSubtype_type]; kernel_rfl) ?_)
  refine wpAny_pure ?_
  rw [if_neg (by decide)]
  have e0 : ((items.size : Nat) : Int) - 1 - ((0 : Nat) : Int) = (items.size : Int) - 1 := by omega
  refine wpAny_pure ⟨plainId_quiet F.plain_extend_loop _, codeAny_extend_loopS W hn _ hSf _ items.size 0 _ _ _ rfl (Nat.zero_le _) ⟨Nat.zero_le _, by rw [e0]; exact hit1, hl1⟩ hS₂ (ItemsOf.nil _) fun s' acc' c' hm hS' hacc => ?_⟩
  refine hR s' acc' c' ⟨fun b o hb e => hm.heap b o hb (oth b o (fun z => hb (z ▸ List.mem_cons_self)) e), hm.gens, hm.drawn, hm.os, hm.toks⟩ hS' hacc
theorem call_list_rev {it l : Addr} {items : Array Value} {Q : Value → Shared → Prop} (hh : A.handled = none) (hit : s.heap.IsRevIter it l ((items.size : Int) - 1)) (hl : s.heap.IsList l items) (hne : l ≠ it) (hn : items.size ≤ sizeLine)
    (hQ : ∀ (h' : Heap) (tk : Nat) (acc : Array Value) (c : Nat), (∀ b o, b ≠ it → s.heap.get? b = some o → h'.get? b = some o) → h'.get? s.heap.objs.size = some { cls := .type "list", data := .seq acc c } → ItemsOf (fun i v => items[items.size - 1 - i]? = some v) acc items.size →
      Q (.ref s.heap.objs.size) { s with heap := h', toks := tk }) :
    wpAny (model prog w) A (call (.type "list") [.ref it]) Q E s := by
  obtain ⟨oi, hoi, _⟩ := id hit
  obtain ⟨ol, hol, _⟩ := id hl
  have hSi : s.heap.objs.size ≠ it := Nat.ne_of_gt (Heap.lt_size hoi)
  have hSl : s.heap.objs.size ≠ l := Nat.ne_of_gt (Heap.lt_size hol)
  refine callType_codes (Q₁ := fun obj s₁ => obj = .ref s.heap.objs.size ∧ s₁ = { s with heap := s.heap.push { cls := .type "list", data := .seq #[] } }) F.called_list (F.typeCall_list_1 _) F.entry_list_init
    (code_list_new _ ⟨rfl, rfl⟩) fun obj s₁ h₁ => ?_
  obtain ⟨rfl, rfl⟩ := h₁
  have hS : (s.heap.push { cls := .type "list", data := .seq #[] }).get? s.heap.objs.size = some { cls := .type "list", data := .seq #[] } := Heap.get?_push_size _ rfl
  refine ⟨⟨_, hS, rfl⟩, F.args_list_init_2 _ _, ?_⟩
  refine wpAny_list_init_rev (A := A.in1) (s := { s with heap := s.heap.push { cls := .type "list", data := .seq #[] } }) hh (hit.at fun o e => Heap.get?_push_of_some _ e) (hl.push _) hne hSi hSl hn hS fun s' acc' c' hm hS' hacc => ?_
  refine ⟨rfl, ?_⟩
  rw [Moved.eq_with hm]
  refine hQ s'.heap s'.toks acc' c' (fun b o hb e => hm.heap b o (fun hmem => ?_) (Heap.get?_push_of_some _ e)) hS' hacc
  rcases List.mem_cons.mp hmem with e' | hmem
  · exact absurd (Heap.lt_size e) (by rw [e']; exact Nat.lt_irrefl _)
  · exact hb (List.mem_singleton.mp hmem)
end
/-- list(reversed(x)), x a list: a new list -/
def tLstRev (K : PySem.W.Frag) (te : TE) : TE := fun σ H Q => te σ H fun v H1 => ∃ (a : Addr) (xs : List V), v = .ref a ∧ SqL K H1 a xs ∧ ∀ q, H1 q = none → Q (.ref q) (upd H1 q (.lst xs.reverse))
section
variable {X : Cx}
theorem pe_lstRev {e : Expr} {te : TE} {p p2 pos pos2 : Pos} (hc : X.calm = true) (hg : Gl X "list") (hm : X.mg "list" = none) (hg2 : Gl X "reversed") (hm2 : X.mg "reversed" = none) (he : PE X e te)
    (hs : starEach [e] X.env = (false, eval e X.env) :: starEach [] X.env := by rfl)
    (hs2 : starEach [.Call (.Name "reversed" p2) [e] [] pos2] X.env = (false, eval (.Call (.Name "reversed" p2) [e] [] pos2) X.env) :: starEach [] X.env := by rfl) :
    PE X (.Call (.Name "list" p) [.Call (.Name "reversed" p2) [e] [] pos2] [] pos) (tLstRev X.K te) := by
  refine ⟨fun pins s σ H Q I h => ?_⟩
  refine Call_ (ld_blt I hg hm boot_list (PyProof.Rows.callWith_type1 (args_cons (Call_ (ld_blt I hg2 hm2 PyProof.Rows.boot_reversed (PyProof.Rows.callWith_type1 (args_cons (thn (he.run pins s σ H _ I h) fun u s1 ⟨v, H1, I1, r1, q1⟩ => args_nil ?_) hs) hs rfl))) hs2) hs2 rfl))
  obtain ⟨a, xs, ev, hq, q⟩ := q1
  subst ev
  obtain rfl : u = Value.ref a := r1
  obtain ⟨its, rv, p', hz⟩ := I1.list hq
  refine call_reversed_list p'.isList (args_nil ?_)
  have k0 : ∀ b o, s1.heap.get? b = some o → (s1.heap.push (revObj a ((its.toArray.size : Int) - 1))).get? b = some o := fun b o e => Heap.get?_push_of_some _ e
  have I2 : Inv X pins σ H1 { s1 with heap := s1.heap.push (revObj a ((its.toArray.size : Int) - 1)) } := I1.kept (t' := s1.toks) k0
  have fp := I1.fpOk (H' := H1) (b := s1.heap.objs.size) (Nat.le_refl _) (I1.hok.fresh (Nat.le_refl _))
  have hl := p'.isList
  obtain ⟨ol, hol, _⟩ := id hl
  have hne : a ≠ s1.heap.objs.size := Nat.ne_of_lt (Heap.lt_size hol)
  have hn : its.toArray.size ≤ sizeLine := by rw [List.size_toArray, ← rv.length]; exact hz
  have hsz : (s1.heap.push (revObj a ((its.toArray.size : Int) - 1))).objs.size = s1.heap.objs.size + 1 := Heap.size_push _ _
  refine call_list_rev (s := { s1 with heap := s1.heap.push (revObj a ((its.toArray.size : Int) - 1)) }) (I1.ok.hd hc) ⟨_, Heap.get?_push_size _ rfl, rfl, rfl⟩ (hl.push _) hne hn fun h' tk acc c hk hS hi => ?_
  have new : ObjOk X.prog X.w (upd H1 (s1.heap.push (revObj a ((its.toArray.size : Int) - 1))).objs.size (.lst xs.reverse)) h' (s1.heap.push (revObj a ((its.toArray.size : Int) - 1))).objs.size (.lst xs.reverse) :=
    ⟨by rw [List.length_reverse]; exact hz, acc.toList, c, vals_rev rv hi, by rw [Array.toArray_toList]; exact hS⟩
  have I3 := I2.turnedNew (t' := tk) (ch := [s1.heap.objs.size]) (h' := h') (fun b o hb e => hk b o (fun z => hb (by rw [z]; exact List.mem_singleton.mpr rfl)) e) (fun b hb => by rw [List.mem_singleton.mp hb]; exact fp) (Nat.le_refl _) new
  exact ⟨.ref _, _, I3, rfl, q _ (I2.hok.fresh (Nat.le_refl _))⟩
end
end RT
namespace Mx
open PySem PySem.Spec PyProof.Rows L2
section
variable {K : Fr} {cl : Cl} {H H' H1 H0 : Hp} {O O' B : List Addr} {E : L2.St → XK} {E0 : XK} {σ : L2.St} {D : Ds}
@[simp] def xRev (xe : XE) : XA := fun D => (xe D).bind fun d => (dItems d).bind fun l => .ok l.reverse
theorem simL_rev {te : TE} {xe : XE} (h : SimB K cl E te xe) : SimL K cl E (RT.tLstRev K te) (xRev xe) := fun B H0 O σ D H s Q q => by
  unfold xRev at q
  refine h B H0 O σ D H s _ ?_
  cases e : xe D with
  | bad => rw [e] at q; exact q.elim
  | ex c fs => rw [e] at q; exact q
  | ok d =>
    rw [e] at q
    simp only [R.bind] at q
    intro v H1 e1 r
    cases d with
    | lst l =>
      obtain ⟨a, vs, rfl, h1, rr⟩ := r
      exact ⟨a, vs, rfl, SqL.of h1, fun p np => q p _ _ (e1.trans (same_upd np)) (e1.free np) upd_same (rr.rev.mono (hid_new (same_upd np) np))⟩
    | frl l =>
      obtain ⟨a, vs, rfl, h1, rr⟩ := r
      exact ⟨a, vs, rfl, h1, fun p np => q p _ _ (e1.trans (same_upd np)) (e1.free np) upd_same (rr.rev.mono (hid_new (same_upd np) np))⟩
    | _ => exact q.elim
end
end Mx
namespace L2
open PySem PySem.Spec PyProof.Rows PySem.W
/-- what a class of the text with its own <= says to it -/
structure OwnLe (K : Frag) (C f : Addr) : Prop where
  at_ : findIn K (.ref C) "__le__" = some (some (.ref f))
  fn : isFn K (.ref f) = true
section
variable {X : Cx} {CX : CXT} {k n : Nat} {C f : Addr} {fd : FuncData} {ps : List Str} {sp : Sp} {E : XK}
def rLeO (C : Addr) (sp : Sp) (E : XK) : R2 := fun x y H Q => ∃ a dx fs b dy gs, x = .ref a ∧ y = .ref b ∧ H a = some (.ins C dx fs) ∧ H b = some (.ins C dy gs) ∧ sp [.ref a, .ref b] H (fun z H' => ∃ b, z = .bl b ∧ Q (.bl b) H') E
theorem op_leO (h : OwnLe X.K C f) (F : FnOk X.prog X.w X.K X.mg X.base CX k f fd ps sp) (hr : Room k X.A) (hb : Binds X.K fd ps []) (hx : Passes CX X E) : OpR X (compareOp .LtE) (rLeO C sp E) := by
  intro pins s σ H x y v u Q I rx ry q0
  obtain ⟨a, dx, fs, b, dy, gs, rfl, rfl, ea, eb, q⟩ := q0
  obtain rfl : v = Value.ref a := rx
  obtain rfl : u = Value.ref b := ry
  obtain ⟨mA, oa, _⟩ := ins_get I.hok ea
  obtain ⟨od, J, _⟩ := oa.look
  obtain ⟨mB, ob, _⟩ := ins_get I.hok eb
  obtain ⟨od2, J2, _⟩ := ob.look
  obtain ⟨m, fr⟩ := I.fr
  have r := run_fn (ds := []) (dvs := []) F hr hb .nil hx I (us := [.ref a, .ref b]) (vs := [.ref a, .ref b]) (.cons rfl (.cons rfl .nil)) q
  have nf : notFirst X.K C (.ref C) = true := by simp [notFirst]
  exact PySem.W.cmp_K (op := .LtE) hr.units0 fr I.ok.mod.kin J J2.type nf h.at_ h.fn (wpAny_mono r (fun z s' hz => by
    obtain ⟨v, H', I', rv, b, rfl, q'⟩ := hz
    obtain rfl : z = Value.bool b := rv
    exact ⟨V.bl b, H', I', rfl, q'⟩) fun _ _ z => z)
/-- x not in o, o an object with its own __contains__ -/
def rNinC (C : Addr) (sp : Sp) (E : XK) : R2 := fun x y H Q => ∃ a dx fs, y = .ref a ∧ H a = some (.ins C dx fs) ∧ sp [.ref a, x] H (fun z H' => ∃ b, z = .bl b ∧ Q (.bl !b) H') E
theorem op_ninC (h : OwnC X.K C f) (F : FnOk X.prog X.w X.K X.mg X.base CX k f fd ps sp) (hr : Room k X.A) (hb : Binds X.K fd ps []) (hx : Passes CX X E) : OpR X (compareOp .NotIn) (rNinC C sp E) := by
  intro pins s σ H x y v u Q I rx ry q0
  obtain ⟨a, dx, fs, rfl, ea, q⟩ := q0
  obtain rfl : u = Value.ref a := ry
  obtain ⟨mA, oa, _⟩ := ins_get I.hok ea
  obtain ⟨od, J, _⟩ := oa.look
  obtain ⟨m, fr⟩ := I.fr
  have r := run_fn (ds := []) (dvs := []) F hr hb .nil hx I (us := [.ref a, v]) (vs := [.ref a, x]) (.cons rfl (.cons rx .nil)) q
  exact PySem.W.notIn_K fr I.ok.mod.kin J h.at_ h.fn (wpAny_mono r (fun z s' hz => by
    obtain ⟨v, H', I', rv, b, rfl, q'⟩ := hz
    obtain rfl : z = Value.bool b := rv
    exact wpAny_truthy_bool ⟨V.bl !b, H', I', rfl, q'⟩) fun _ _ z => z)
end
end L2
namespace Mx
open PySem PySem.Spec PyProof.Rows L2
section
variable {K : Fr} {cl : Cl} {H H' H1 H0 : Hp} {O : List Addr} {E : L2.St → XK}
def dLeO (c : Str) (f : List Dt → R Dt) : Dt → Dt → R Dt := fun x o => match x, o with
  | .ins c1 fs, .ins c2 gs => if c1 = c ∧ c2 = c then (f [.ins c1 fs, .ins c2 gs]).bind dBl else .bad
  | _, _ => .bad
@[simp] theorem dLeO_ins (c c1 c2 : Str) (f : List Dt → R Dt) (fs gs : List (Str × Dt)) : dLeO c f (.ins c1 fs) (.ins c2 gs) = if c1 = c ∧ c2 = c then (f [.ins c1 fs, .ins c2 gs]).bind dBl else .bad := rfl
theorem sim_leO {c : Str} {C : Addr} {f : List Dt → R Dt} {E0 : XK} {ta tb : TE} {xa xb : XE} (hc : cl c = some C) (ha : Sim K cl (fun _ => E0) ta xa) (hb : Sim K cl (fun _ => E0) tb xb) :
    Sim K cl (fun _ => E0) (tOp (rLeO C (PureSp K cl f) E0) ta tb) (x2 (dLeO c f) xa xb) := sim_two ha hb fun O H x y a b tr rx ry Q q => by
  cases rx <;> first | exact q.elim | skip
  cases ry <;> first | exact q.elim | skip
  rename_i a C1 dx c1 fv fs k1 e1 kk1 rr1 b C2 dy c2 gv gs k2 e2 kk2 rr2
  rw [dLeO_ins] at q
  split at q
  · rename_i h
    obtain ⟨rfl, rfl⟩ := h
    rw [hc] at k1 k2
    cases k1
    cases k2
    refine ⟨_, _, _, _, _, _, rfl, rfl, hid_same _ _ _ _ e1, hid_same _ _ _ _ e2, O, _, tr, .cons (.ins hc e1 kk1 rr1) (.cons (.ins hc e2 kk2 rr2) .nil), ?_⟩
    revert q
    generalize f _ = z
    intro q
    cases z with
    | bad => exact q
    | ex c fs => exact q
    | ok d =>
      rw [bind_ok] at q
      cases d with
      | bl b =>
        intro v H' e' r'
        cases r'
        exact ⟨_, rfl, q _ H' e' (.bl _)⟩
      | _ => exact q.elim
  · exact q.elim
def dNinC (c : Str) (f : List Dt → R Dt) : Dt → Dt → R Dt := fun x o => (dInC c f x o).bind dFlip
@[simp] theorem dNinC_eq (c : Str) (f : List Dt → R Dt) (x o : Dt) : dNinC c f x o = (dInC c f x o).bind dFlip := rfl
theorem sim_ninC {c : Str} {C : Addr} {f : List Dt → R Dt} {E0 : XK} {ta tb : TE} {xa xb : XE} (hc : cl c = some C) (ha : Sim K cl (fun _ => E0) ta xa) (hb : Sim K cl (fun _ => E0) tb xb) :
    Sim K cl (fun _ => E0) (tOp (rNinC C (PureSp K cl f) E0) ta tb) (x2 (dNinC c f) xa xb) := sim_two ha hb fun O H x y a b tr rx ry Q q => by
  cases ry with
  | ins k e kk rr =>
    rw [dNinC_eq, dInC_ins] at q
    split at q
    · rename_i h
      subst h
      rw [hc] at k
      cases k
      refine ⟨_, _, _, rfl, hid_same _ _ _ _ e, O, _, tr, .cons (.ins hc e kk rr) (.cons rx .nil), ?_⟩
      revert q
      generalize f _ = z
      intro q
      cases z with
      | bad => exact q
      | ex c fs => exact q
      | ok d =>
        rw [bind_ok] at q
        cases d with
        | bl b =>
          intro v H' e' r'
          cases r'
          exact ⟨_, rfl, q _ H' e' (.bl _)⟩
        | _ => exact q.elim
    · exact q.elim
  | _ => exact q.elim
end
end Mx
namespace Mx
open PySem PySem.Spec PyProof.Rows L2
/-! ### dicts with numbers and texts for keys -/
section
variable {K : Fr} {cl : Cl} {E : L2.St → XK} {H H' H1 H0 : Hp} {O O' : List Addr} {σ : L2.St} {D : Ds} {B : List Addr}
@[simp] def xsNewK (i : Nat) : XS := fun D => .nx (D.set i (.ok []))
theorem ss_newK {i : Nat} : SimS K cl E (tAsg tDNewK (gName i)) (xsNewK i) := fun B H0 O σ D H s En q => fun p n =>
  q _ _ _ (s.setOwn i (same_upd n) n ⟨[], upd_same, rfl, .nil⟩ (by rw [upd_same]; rfl)) (hid_new (same_upd n) n)
def dKeyK : Dt → R Key
  | .int i => .ok (.inl i)
  | .str x => .ok (.inr x)
  | _ => .bad
@[simp] theorem dKeyK_int (i : Int) : dKeyK (.int i) = .ok (.inl i) := rfl
@[simp] theorem dKeyK_str (x : Str) : dKeyK (.str x) = .ok (.inr x) := rfl
theorem dKeyK_rep {v : V} {d : Dt} {k : Key} (h : Rep K cl H v d) (e : dKeyK d = .ok k) : v = kV k := by
  cases h <;> simp only [dKeyK] at e <;> cases e <;> rfl
theorem dKeyK_ex {d : Dt} {c : Str} {fs : List (Str × Dt)} : dKeyK d ≠ .ex c fs := by
  intro e
  cases d <;> simp only [dKeyK] at e <;> cases e
def Sl.ok? : Option Sl → R (List (Key × Dt))
  | some (.ok l) => .ok l
  | _ => .bad
@[simp] theorem ok?_ok (l : List (Key × Dt)) : Sl.ok? (some (.ok l)) = .ok l := rfl
theorem ok?_eq {o : Option Sl} {l : List (Key × Dt)} (h : Sl.ok? o = .ok l) : o = some (.ok l) := by
  unfold Sl.ok? at h
  split at h
  · simp only [R.ok.injEq] at h; subst h; rfl
  · cases h
theorem ok?_ex {o : Option Sl} {c : Str} {fs : List (Str × Dt)} (h : Sl.ok? o = .ex c fs) : False := by
  unfold Sl.ok? at h
  split at h <;> cases h
/-- d[k] = v -/
@[simp] def xsPutK (i : Nat) (xk xv : XE) : XS := fun D => (xv D).out D fun v => (Sl.ok? D[i]?).out D fun l => (xk D).out D fun k => (dKeyK k).get fun ks => if l.length < 1000000 ∧ (l.map (·.1)).Nodup then .nx (D.set i (.ok (putG l ks v))) else .bad
theorem ss_putK {i : Nat} {tk tv : TE} {xk xv : XE} (hk : Sim K cl E tk xk) (hv : Sim K cl E tv xv) : SimS K cl E (sDPut (tVar i) tk tv) (xsPutK i xk xv) := fun B H0 O σ D H s En q => by
  unfold xsPutK at q
  refine hv B H0 O σ D H s _ ?_
  cases e : xv D with
  | bad => rw [e] at q; exact q.elim
  | ex c fs => rw [e] at q; exact q O σ H s (Same.refl _)
  | ok d =>
    rw [e] at q
    simp only [out_ok] at q
    intro v H1 e1 rv
    cases el : Sl.ok? D[i]? with
    | bad => rw [el] at q; exact q.elim
    | ex c fs => exact (ok?_ex el).elim
    | ok l =>
      rw [el] at q
      simp only [out_ok] at q
      have hi := ok?_eq el
      obtain ⟨a, ea, ma, kv, ha, hkeys, ra⟩ := own_at (s.mono e1) hi rfl
      refine ⟨.ref a, ea, ?_⟩
      refine hk B H0 O σ D H1 (s.mono e1) _ ?_
      cases ek : xk D with
      | bad => rw [ek] at q; exact q.elim
      | ex c fs => rw [ek] at q; exact q O σ H1 (s.mono e1) (hid_mono e1)
      | ok k =>
        rw [ek] at q
        simp only [out_ok] at q
        intro w H2 e2 rk
        cases eK : dKeyK k with
        | bad => rw [eK] at q; exact q.elim
        | ex c fs => exact (dKeyK_ex eK).elim
        | ok ks =>
          rw [eK] at q
          simp only [get_ok] at q
          split at q
          · rename_i hz
            have ew := dKeyK_rep rk eK
            subst ew
            have hl : kv.length = l.length := by
              have := congrArg List.length hkeys
              simpa using this
            refine ⟨a, _, rfl, DPut.k (e2 _ _ ha) (sz_lt (by rw [hl]; exact hz.1)), ?_⟩
            rw [putG_putK kv ks v (by rw [hkeys]; exact hz.2)]
            refine q O σ _ ((s.mono (e1.trans e2)).mut hi rfl ea ⟨_, upd_same, putG_keys hkeys, putG_vals (rv.mono (hid_mono e2)) hkeys (ra.mono (hid_mono e2))⟩) ?_
            rw [hid_upd ma]
            exact hid_mono (e1.trans e2)
          · exact q.elim
def dDk : Dt → R (List (Key × Dt))
  | .dk l => .ok l
  | _ => .bad
@[simp] theorem dDk_dk (l : List (Key × Dt)) : dDk (.dk l) = .ok l := rfl
theorem dDk_eq {d : Dt} {l : List (Key × Dt)} (h : dDk d = .ok l) : d = .dk l := by
  cases d <;> simp only [dDk] at h <;> cases h <;> rfl
theorem dDk_ex {d : Dt} {c : Str} {fs : List (Str × Dt)} (h : dDk d = .ex c fs) : False := by cases d <;> simp only [dDk] at h <;> cases h
/-- k in d, k not in d -/
@[simp] def xDinK (xk xd : XE) : XE := fun D => (xk D).bind fun k => (dKeyK k).bind fun ks => (xd D).bind fun d => (dDk d).bind fun l => .ok (.bl (getG l ks).isSome)
@[simp] def xDninK (xk xd : XE) : XE := fun D => (xk D).bind fun k => (dKeyK k).bind fun ks => (xd D).bind fun d => (dDk d).bind fun l => .ok (.bl (!(getG l ks).isSome))
theorem getK_some {kv : List (Key × V)} {l : List (Key × Dt)} {ks : Key} (hkeys : kv.map (·.1) = l.map (·.1)) (ra : RepL K cl H (kv.map (·.2)) (l.map (·.2))) : (valV kv ks).isSome = (getG l ks).isSome := by
  rw [getG_valV]
  rcases getG_rep (k := ks) hkeys (repL_at ra) with ⟨h1, h2⟩ | ⟨a', b', h1, h2, h3⟩
  · rw [h1, h2]; rfl
  · rw [h1, h2]; rfl
theorem sim_dinK {td tk : TE} {xd xk : XE} (hk : Sim K cl E tk xk) (hd : SimB K cl E td xd) : Sim K cl E (tDIn tk td) (xDinK xk xd) := fun B H0 O σ D H s Q q => by
  unfold xDinK at q
  refine hk B H0 O σ D H s _ ?_
  cases ek : xk D with
  | bad => rw [ek] at q; exact q.elim
  | ex c fs => rw [ek] at q; exact q
  | ok k =>
    rw [ek] at q
    simp only [Mx.R.bind] at q
    intro w H1 e1 rk
    cases eK : dKeyK k with
    | bad => rw [eK] at q; exact q.elim
    | ex c fs => exact (dKeyK_ex eK).elim
    | ok ks =>
      rw [eK] at q
      simp only [Mx.R.bind] at q
      have ew := dKeyK_rep rk eK
      subst ew
      refine hd B H0 O σ D H1 (s.mono e1) _ ?_
      cases e : xd D with
      | bad => rw [e] at q; exact q.elim
      | ex c fs => rw [e] at q; exact ExOk.mono e1 q
      | ok d =>
        rw [e] at q
        simp only [Mx.R.bind] at q
        cases edt : dDk d with
        | bad => rw [edt] at q; exact q.elim
        | ex c fs => exact (dDk_ex edt).elim
        | ok l =>
          rw [edt] at q
          simp only [Mx.R.bind] at q
          have := dDk_eq edt
          subst this
          intro v H2 e2 rd
          obtain ⟨a, kv, rfl, ha, hkeys, ra⟩ := rd
          refine ⟨a, _, rfl, DGet.k ha, ?_⟩
          rw [getK_some hkeys ra]
          exact q _ H2 (e1.trans e2) (.bl _)
theorem sim_dninK {td tk : TE} {xd xk : XE} (hk : Sim K cl E tk xk) (hd : SimB K cl E td xd) : Sim K cl E (tDNotIn tk td) (xDninK xk xd) := fun B H0 O σ D H s Q q => by
  unfold xDninK at q
  refine hk B H0 O σ D H s _ ?_
  cases ek : xk D with
  | bad => rw [ek] at q; exact q.elim
  | ex c fs => rw [ek] at q; exact q
  | ok k =>
    rw [ek] at q
    simp only [Mx.R.bind] at q
    intro w H1 e1 rk
    cases eK : dKeyK k with
    | bad => rw [eK] at q; exact q.elim
    | ex c fs => exact (dKeyK_ex eK).elim
    | ok ks =>
      rw [eK] at q
      simp only [Mx.R.bind] at q
      have ew := dKeyK_rep rk eK
      subst ew
      refine hd B H0 O σ D H1 (s.mono e1) _ ?_
      cases e : xd D with
      | bad => rw [e] at q; exact q.elim
      | ex c fs => rw [e] at q; exact ExOk.mono e1 q
      | ok d =>
        rw [e] at q
        simp only [Mx.R.bind] at q
        cases edt : dDk d with
        | bad => rw [edt] at q; exact q.elim
        | ex c fs => exact (dDk_ex edt).elim
        | ok l =>
          rw [edt] at q
          simp only [Mx.R.bind] at q
          have := dDk_eq edt
          subst this
          intro v H2 e2 rd
          obtain ⟨a, kv, rfl, ha, hkeys, ra⟩ := rd
          refine ⟨a, _, rfl, DGet.k ha, ?_⟩
          rw [getK_some hkeys ra]
          exact q _ H2 (e1.trans e2) (.bl _)
/-- d[k], there -/
@[simp] def xDgetK (xd xk : XE) : XE := fun D => (xd D).bind fun d => (dDk d).bind fun l => (xk D).bind fun k => (dKeyK k).bind fun ks => opt (getG l ks)
theorem sim_dgetK {td tk : TE} {xd xk : XE} (hd : SimB K cl E td xd) (hk : Sim K cl E tk xk) : Sim K cl E (tDGet td tk) (xDgetK xd xk) := fun B H0 O σ D H s Q q => by
  unfold xDgetK at q
  refine hd B H0 O σ D H s _ ?_
  cases e : xd D with
  | bad => rw [e] at q; exact q.elim
  | ex c fs => rw [e] at q; exact q
  | ok d =>
    rw [e] at q
    simp only [Mx.R.bind] at q
    cases edt : dDk d with
    | bad => rw [edt] at q; exact q.elim
    | ex c fs => exact (dDk_ex edt).elim
    | ok l =>
      rw [edt] at q
      simp only [Mx.R.bind] at q
      have := dDk_eq edt
      subst this
      intro v H1 e1 rd
      obtain ⟨a, kv, rfl, ha, hkeys, ra⟩ := rd
      refine hk B H0 O σ D H1 (s.mono e1) _ ?_
      cases ek : xk D with
      | bad => rw [ek] at q; exact q.elim
      | ex c fs => rw [ek] at q; exact ExOk.mono e1 q
      | ok k =>
        rw [ek] at q
        simp only [Mx.R.bind] at q
        intro w H2 e2 rk
        cases eK : dKeyK k with
        | bad => rw [eK] at q; exact q.elim
        | ex c fs => exact (dKeyK_ex eK).elim
        | ok ks =>
          rw [eK] at q
          simp only [Mx.R.bind] at q
          have ew := dKeyK_rep rk eK
          subst ew
          rcases getG_rep (k := ks) hkeys (repL_at (ra.mono (hid_mono e2))) with ⟨h1, h2⟩ | ⟨a', b', h1, h2, h3⟩
          · rw [h2] at q; exact q.elim
          · rw [h2] at q
            refine ⟨a, a', rfl, ?_, q _ H2 (e1.trans e2) h3⟩
            rw [← h1, ← getG_valV]
            exact DGet.k (e2 _ _ ha)
end
end Mx
namespace DT
open PySem PySem.Spec PyProof.Rows L2 PySem.W
/-! ### tuple(d), tuple(d.values()) -/
section
variable {prog : Program} {w : World} {A : Around} {E : Value → Shared → Prop} {s : Shared} {T : String} {r d : Addr} {n : Nat} {P : Nat → Value → Prop} {OK : Heap → Prop}
theorem code_tuple_src {Q₁ : Value → Shared → Prop} (S : KdlSrc prog w T r d n P OK) (hh : A.handled = none) (hok : OK s.heap) (hn : n ≤ sizeLine)
    (h : ∀ (h' : Heap) (tk : Nat) (acc : Array Value), (∀ b o, s.heap.get? b = some o → h'.get? b = some o) → ItemsOf P acc n →
      Q₁ (.ref h'.objs.size) { s with heap := h'.push { cls := .type "tuple", data := .seq acc }, toks := tk }) :
    codeAny (model prog w) A (.call (.builtin "tuple.__new__") ⟨[.type "tuple", .ref r], []⟩) (wants Q₁ E) s := by
  refine codeAny_of_tree ?_
  show wpAny _ A.in1 (do checkBuiltinCall "tuple.__new__" ⟨[.type "tuple", .ref r], []⟩; again (.builtin "tuple.__new__" ⟨[.type "tuple", .ref r], []⟩)) _ _ s
  refine wpAny_bind (wpAny_of_eq (F.newCall_tuple_1 _) (wpAny_pure ⟨plainId_quiet F.plain_tuple_new _, codeAny_builtin F.entry_tuple_new ?_⟩))
  rw [Around.under_plainId F.plain_tuple_new _]
  have hsub := sub_tuple_self
  have hinit := init_tuple_lookup
  have hmh := madeHere_tuple
  have hTI : s.TypeIs (.ref r) T := S.type s hok
  have hh1 : A.in1.handled = none := hh
  have hnt := S.notTuple
  wp_walk using wpAny_typeOf hTI, kdu_collect (A := A.in1) S hh1 hok hn
  intro h' tk acc hk hacc
  show wpAny _ _ (Builtin.Tuple.tupleExact acc.toList.toArray >>= fun v => ret v) _ _ _
  unfold Builtin.Tuple.tupleExact
  refine wpAny_bind (wpAny_newObj_type ?_ (by show acc.toList.toArray.size ≤ sizeLine; simp only [Array.toArray_toList]; rw [hacc.1]; exact hn))
  refine wpAny_pure ?_
  have e : acc.toList.toArray = acc := by simp
  rw [e]
  exact h h' tk acc hk hacc
theorem call_tuple_src {Q : Value → Shared → Prop} (S : KdlSrc prog w T r d n P OK) (hh : A.handled = none) (hok : OK s.heap) (hn : n ≤ sizeLine)
    (hQ : ∀ (h' : Heap) (tk : Nat) (acc : Array Value), (∀ b o, s.heap.get? b = some o → h'.get? b = some o) → ItemsOf P acc n →
      Q (.ref h'.objs.size) { s with heap := h'.push { cls := .type "tuple", data := .seq acc }, toks := tk }) :
    wpAny (model prog w) A (call (.type "tuple") [.ref r]) Q E s := by
  refine callType_codes (Q₁ := fun obj s₁ => s₁.TypeIs obj "tuple" ∧ Q obj s₁) F.called_tuple (F.typeCall_tuple_1 _) F.entry_object_init
    (code_tuple_src (A := A.in1) S hh hok hn fun h' tk acc hk hacc => ⟨⟨_, Heap.get?_push_size _ rfl, rfl⟩, hQ h' tk acc hk hacc⟩) fun obj s₁ h₁ => ?_
  exact ⟨h₁.1, F.args_object_init_2 obj _, object_init_meets F.called_tuple.init.lookup F.called_tuple.made (by decide) prog w A.in1 _ s₁ ⟨h₁.1, rfl, h₁.2⟩⟩
variable {X : Cx} {H : Hp} {pins : List (Addr × Obj)} {σ : L2.St} {s : Shared}
def rTupK : List V → Hp → VK → Prop := fun xs H Q => ∃ (a : Addr) (kvs : List (Key × V)), xs = [.ref a] ∧ Rd H a (.dK kvs) ∧ ∀ p, H p = none → Q (.ref p) (upd H p (.tup (kvs.map fun kv => kV kv.1)))
/-- tuple(d): its keys -/
theorem cr_tupK (hcalm : X.calm = true) : CallR X (.type "tuple") rTupK := by
  intro pins s σ H xs us Q I r q
  obtain ⟨a, kvs, ex, hd, q⟩ := q
  subst ex
  obtain ⟨u, eu, rx⟩ := vals1 r
  subst eu
  cases rx
  obtain ⟨z, lo, vs, rel, dd⟩ := dk_rd I.hok hd
  obtain ⟨ep, hat⟩ := dd.dictAt
  have ek : (kvs.map fun kv => kV kv.1) = vs.map fun p => kV p.1 := by
    have e := congrArg (List.map kV) rel.keys
    rw [List.map_map, List.map_map] at e
    exact e
  refine call_tuple_src (PySem.W.kdl_dict (knd := mixKind X.prog X.w) (kvs := vs) (ep := ep) lo) (I.ok.hd hcalm) hat (by rw [← rel.length]; exact z) fun h' tk acc hk hacc => ?_
  have hv : Vals (vs.map fun p => kV p.1) acc.toList := keys_at (by rw [Array.length_toList]; exact hacc.1) fun j v e => hacc.2 j v (by rw [← Array.getElem?_toList]; exact e)
  have I1 : Inv X pins σ H { s with heap := h', toks := tk } := I.kept hk
  have I2 : Inv X pins σ (upd H h'.objs.size (.tup (kvs.map fun kv => kV kv.1))) { s with heap := h'.push { cls := .type "tuple", data := .seq acc }, toks := tk } :=
    I1.laid (t' := tk) (fun b o e => Heap.get?_push_of_some _ e) (Nat.le_refl _) (show ObjOk X.prog X.w _ _ _ (.tup (kvs.map fun kv => kV kv.1)) from ⟨by rw [List.length_map]; exact z, acc.toList, by rw [ek]; exact hv, by
      have e : acc = acc.toList.toArray := by simp
      rw [e]; exact IsTup.new _ _⟩)
  exact ⟨.ref h'.objs.size, _, I2, rfl, q _ (I1.hok.fresh (Nat.le_refl _))⟩
/-- d.values() -/
def rVals : V → List V → Hp → VK → Prop := fun x xs H Q => ∃ (a : Addr) (kvs : List (Key × V)), x = .ref a ∧ xs = [] ∧ Rd H a (.dK kvs) ∧ ∀ p, H p = none → Q (.ref p) (upd H p (viewO "dict_values" p a))
theorem mt_vals : MtR X "dict.values" rVals := by
  intro pins s σ H x xs v us Q I rx rv h
  obtain ⟨a, kvs, rfl, rfl, hd, q⟩ := h
  cases rx
  cases rv
  obtain ⟨z, lo, vs, rel, dd⟩ := dk_rd I.hok hd
  refine call_meetsIn PySem.F.slot_dict_values dd.typeIs PySem.F.entry_dict_values (PySem.F.args_dict_values_1 _) (meets_dict_values (mixKind X.prog X.w) a lo) ⟨⟨vs, dd⟩, ?_⟩
  exact ⟨.ref s.heap.objs.size, _, I.laid (t' := s.toks) (fun b o q => Heap.get?_push_of_some _ q) (Nat.le_refl _) (viewO_ok (Heap.get?_push_size _ rfl)), rfl, q _ (I.hok.fresh (Nat.le_refl _))⟩
theorem vals_at : ∀ {kvs : List (Key × V)} {vs : List (Key × Value)} {us : List Value}, KV kvs vs → us.length = vs.length → (∀ (j : Nat) (v : Value), us[j]? = some v → ∃ k, vs[j]? = some (k, v)) → Vals (kvs.map (·.2)) us := by
  intro kvs vs us h
  induction h generalizing us with
  | nil =>
    intro hl _
    cases us with
    | nil => exact .nil
    | cons a b => cases hl
  | cons hp ht ih =>
    intro hl h
    cases us with
    | nil => cases hl
    | cons u us =>
      obtain ⟨k, e1⟩ := h 0 u rfl
      have e1 := Option.some.inj e1
      rw [List.map_cons]
      refine .cons ?_ (ih (by simpa using hl) fun j v e => h (j + 1) v (by simpa using e))
      subst e1
      exact hp.2
def rTupV : List V → Hp → VK → Prop := fun xs H Q => ∃ (p a : Addr) (kvs : List (Key × V)), xs = [.ref p] ∧ H p = some (viewO "dict_values" p a) ∧ Rd H a (.dK kvs) ∧ ∀ q, H q = none → Q (.ref q) (upd H q (.tup (kvs.map (·.2))))
/-- tuple(view): the values -/
theorem cr_tupV (hcalm : X.calm = true) : CallR X (.type "tuple") rTupV := by
  intro pins s σ H xs us Q I r q
  obtain ⟨p, a, kvs, ex, hp, hd, q⟩ := q
  subst ex
  obtain ⟨u, eu, rx⟩ := vals1 r
  subst eu
  cases rx
  obtain ⟨z, lo, vs, rel, dd⟩ := dk_rd I.hok hd
  obtain ⟨ep, hat⟩ := dd.dictAt
  have hv : s.heap.get? p = some (DSub.viewOb "dict_values" a) := (show ObjOk X.prog X.w H s.heap p (viewO "dict_values" p a) from I.hok p _ hp).1
  refine call_tuple_src (PySem.W.kdl_values (knd := mixKind X.prog X.w) (kvs := vs) (ep := ep) (r := p) (d := a)) (I.ok.hd hcalm) ⟨⟨_, hv, rfl, rfl⟩, hat⟩ (by rw [← rel.length]; exact z) fun h' tk acc hk hacc => ?_
  have hv : Vals (kvs.map (·.2)) acc.toList := vals_at rel (by rw [Array.length_toList]; exact hacc.1) fun j v e => hacc.2 j v (by rw [← Array.getElem?_toList]; exact e)
  have I1 : Inv X pins σ H { s with heap := h', toks := tk } := I.kept hk
  have I2 : Inv X pins σ (upd H h'.objs.size (.tup (kvs.map (·.2)))) { s with heap := h'.push { cls := .type "tuple", data := .seq acc }, toks := tk } :=
    I1.laid (t' := tk) (fun b o e => Heap.get?_push_of_some _ e) (Nat.le_refl _) (show ObjOk X.prog X.w _ _ _ (.tup (kvs.map (·.2))) from ⟨by rw [List.length_map]; exact z, acc.toList, hv, by
      have e : acc = acc.toList.toArray := by simp
      rw [e]; exact IsTup.new _ _⟩)
  exact ⟨.ref h'.objs.size, _, I2, rfl, q _ (I1.hok.fresh (Nat.le_refl _))⟩
/-- max(l, default=d) of ints -/
def maxI (d : Int) : List Int → Int
  | [] => d
  | y :: ys => ys.foldl (fun a b => if a < b then b else a) y
def rMaxDef (K : PySem.W.Frag) : List V → List V → Hp → VK → Prop := fun vs zs H Q => ∃ (a : Addr) (ns : List Int) (d : Int), vs = [V.ref a] ∧ zs = [.int d] ∧ SqL K H a (ns.map V.int) ∧ Q (.int (maxI d ns)) H
theorem hold_ints {h : Heap} : ∀ {ns : List Int} {us : List Value}, Vals (ns.map V.int) us → HoldAll h us ns
  | [], us, r => by cases r; exact .nil
  | n :: ns, us, r => by
    rw [List.map_cons] at r
    cases r with
    | cons hx ht =>
      obtain ⟨t, rfl⟩ := hx
      exact HoldAll.cons ⟨_, Reads.int ..⟩ (hold_ints ht)
theorem cr_maxDef (hc : X.calm = true) (hu : X.A.units + 1 < cLine) : CallRK X (.builtin "max") [Str.ofString "default"] (rMaxDef X.K) := by
  intro pins s σ H vs zs us ws Q I r rz h
  obtain ⟨a, ns, d, rfl, rfl, hs, q⟩ := h
  obtain rfl := Vals.ref1 r
  obtain ⟨w1, rfl, e1⟩ := vals1 rz
  obtain ⟨t1, rfl⟩ := e1
  obtain ⟨its, rv, hl, _⟩ := I.list hs
  show wpAny _ _ (call (.builtin "max") [.ref a] [(Str.ofString "default", .int d t1)]) _ _ _
  refine max_list_datum_default (α := Int) (I.ok.hd hc) hl.isList (xs := ns) (hold_ints (by simpa using rv)) (by show X.A.units + 1 + 0 < cLine; omega) (fun e h' tk hk => ?_) fun y ys i v h' tk e hi hv hk => ?_
  · subst e
    exact ⟨.int d, H, I.kept hk, ⟨_, rfl⟩, q⟩
  · subst e
    obtain ⟨as, hr⟩ := hv
    obtain ⟨t, ev⟩ : ∃ t, v = Value.int (maxOf y ys) t := by
      cases hr
      exact ⟨_, rfl⟩
    subst ev
    have em : maxOf y ys = maxI d (y :: ys) := by
      unfold maxOf maxI
      congr 1
      funext a b
      have el : DatumOrd.lt a b = decide (a < b) := rfl
      rw [el]
      by_cases hab : a < b <;> simp [hab]
    exact ⟨.int _, H, I.kept hk, ⟨_, rfl⟩, by rw [em]; exact q⟩
end
end DT

namespace Mx
open PySem PySem.Spec PyProof.Rows L2
section
variable {K : Fr} {cl : Cl} {E : L2.St → XK} {H H' H1 H0 : Hp} {O O' : List Addr} {σ : L2.St} {D : Ds} {B : List Addr}
/-! ### as data -/
def dpairs : List Dt → Option (List (Key × Dt))
  | [] => some []
  | .tup [k, v] :: l => match dKeyK k with
    | .ok k => (dpairs l).map fun r => (k, v) :: r
    | _ => none
  | _ :: _ => none
def dDict : List Dt → R Dt
  | [.lst l] => (opt (dpairs l)).bind fun kvs => if (kvs.map (·.1)).Nodup then .ok (.dk kvs) else .bad
  | [.dk kvs] => .ok (.dk kvs)
  | _ => .bad
def rDictA (K : Fr) : List V → Hp → VK → Prop := fun xs H Q => (∃ (a : Addr) (ps : List Addr) (kvs : List (Key × V)), xs = [.ref a] ∧ SqL K H a (ps.map V.ref) ∧ Paired (fun p kv => SqT K H p [kV kv.1, kv.2]) ps kvs ∧
    ∀ p, H p = none → Q (.ref p) (upd H p (.dK (mergeK [] kvs)))) ∨ ∃ (a : Addr) (kvs : List (Key × V)), xs = [.ref a] ∧ Rd H a (.dK kvs) ∧ ∀ p, H p = none → Q (.ref p) (upd H p (.dK kvs))
theorem call_dictA {X : Cx} (hc : X.calm = true) : CallR X (.type "dict") (rDictA X.K) := CallR.or (call_dictP hc) call_dictD
theorem dpairs_rep : ∀ {vs : List V} {l : List Dt} {kvs : List (Key × Dt)}, RepL K cl H vs l → dpairs l = some kvs → ∃ (ps : List Addr) (kv : List (Key × V)), vs = ps.map V.ref ∧ Paired (fun p q => H p = some (.tup [kV q.1, q.2])) ps kv ∧ kv.map (·.1) = kvs.map (·.1) ∧ RepL K cl H (kv.map (·.2)) (kvs.map (·.2))
  | _, _, kvs, .nil, e => by
    simp only [dpairs, Option.some.injEq] at e
    subst e
    exact ⟨[], [], rfl, .nil, rfl, .nil⟩
  | _, _, kvs, .cons (v := v) (d := d) (vs := vs) (ds := l) hv hl, e => by
    unfold dpairs at e
    split at e
    · rename_i h; cases h
    · rename_i k x l' h
      injection h with h1 h2
      subst h1 h2
      split at e
      · rename_i k' ek
        cases ed : dpairs l with
        | none => rw [ed] at e; cases e
        | some r =>
          rw [ed] at e
          simp only [Option.map_some, Option.some.injEq] at e
          subst e
          obtain ⟨ps, kv, rfl, hp, hk, hr⟩ := dpairs_rep hl ed
          cases hv with
          | tup ha ra =>
            rename_i a xs
            cases ra with
            | cons r1 rt =>
              cases rt with
              | cons r2 rn =>
                cases rn
                have := dKeyK_rep r1 ek
                subst this
                rename_i y
                exact ⟨a :: ps, (k', y) :: kv, rfl, .cons ha hp, by simp [hk], .cons r2 hr⟩
      · cases e
    · cases e
theorem merge_nodup : ∀ (kv acc : List (Key × V)), ((acc ++ kv).map (·.1)).Nodup → mergeK acc kv = acc ++ kv
  | [], acc, _ => by simp [mergeK]
  | q :: kv, acc, h => by
    have e : mergeK acc (q :: kv) = mergeK (putK acc q.1 q.2) kv := rfl
    have hn : q.1 ∉ acc.map (·.1) := by
      rw [List.map_append, List.nodup_append] at h
      intro m
      exact h.2.2 _ m _ (by simp) rfl
    have ha : (acc.map (·.1)).Nodup := by
      rw [List.map_append, List.nodup_append] at h
      exact h.1
    have ep : putG acc q.1 q.2 = acc ++ [q] := by
      have : ∀ l : List (Key × V), q.1 ∉ l.map (·.1) → putG l q.1 q.2 = l ++ [q] := by
        intro l
        induction l with
        | nil => intro _; rfl
        | cons a l ih =>
          intro h
          simp only [List.map_cons, List.mem_cons, not_or] at h
          unfold putG
          rw [if_neg (fun z => h.1 (by first | exact z | exact z.symm)), ih h.2]
          rfl
      exact this acc hn
    rw [e, putG_putK acc q.1 q.2 ha, ep, merge_nodup kv (acc ++ [q]) (by simpa using h)]
    simp
theorem cs_dict : CaS K cl (rDictA K) dDict := fun O H xs ds E ho r Q q => by
  unfold dDict at q
  split at q
  · rename_i l
    cases ep : dpairs l with
    | none => rw [ep] at q; exact q.elim
    | some kvs =>
      rw [ep] at q
      simp only [opt_some, bind_ok] at q
      split at q
      · rename_i nd
        obtain ⟨v, rfl, a, vs, rfl, h, rr⟩ := r.one
        obtain ⟨ps, kv, rfl, hp, hk, hr⟩ := dpairs_rep rr ep
        refine .inl ⟨a, ps, kv, rfl, SqL.of h, ?_, fun p n => ?_⟩
        · have : ∀ {ps : List Addr} {kv : List (Key × V)}, Paired (fun p q => (hid O H) p = some (.tup [kV q.1, q.2])) ps kv → Paired (fun p q => SqT K H p [kV q.1, q.2]) ps kv := by
            intro ps kv h
            induction h with
            | nil => exact .nil
            | cons a _ ih => exact .cons (SqT.of (hid_same _ _ _ _ a)) ih
          exact this hp
        · rw [merge_nodup kv [] (by rw [List.nil_append, hk]; exact nd), List.nil_append]
          exact q _ _ (same_upd n) (.dk (hid_at (trk_nin ho n)) hk (hr.mono (hid_upd_new n)))
      · exact q.elim
  · obtain ⟨v, rfl, a, kv, rfl, ha, hk, hr⟩ := r.one
    exact .inr ⟨a, kv, rfl, .inl ha, fun p n => q _ _ (same_upd n) (.dk (hid_at (trk_nin ho n)) hk (hr.mono (hid_upd_new n)))⟩
  · exact q.elim
end
end Mx
namespace L2
open PySem PySem.Spec PyProof.Rows
/-! ### (x,) * 0 and (x,) * 1 -/
theorem tuple_mul1 (l : Addr) (items : Array Value) (n : Nat) (sl : Array (Option Value)) (dd : Option Addr) (u : Tok) :
    Meets (Builtin.«tuple.__mul__» ⟨[.ref l, .int 1 u], []⟩) (fun _ R s => s.heap.get? l = some { cls := .type "tuple", dict := dd, data := .seq items n, slots := sl } ∧ R (.ok (.ret (Value.ref l))) s) :=
  .of_wp fun prog w A R s h => by
    obtain ⟨hp, g, d, tk, os⟩ := s
    obtain ⟨hl, h⟩ := h
    have f1 := AutoSeq1.idx_int
    have c1 : (items.isEmpty || (1 : Int) == 1) = true := by simp
    wp_walk using wpAny_loadPart' hl
    repeat (first
      | (refine wpAny_ite_false (by decide) ?_; wp_walk using wpAny_loadPart' hl)
      | (refine wpAny_ite_true c1 ?_; wp_walk using wpAny_loadPart' hl))
    exact ⟨_, rfl, h⟩
theorem tuple_mul0 (l : Addr) (items : Array Value) (n : Nat) (sl : Array (Option Value)) (dd : Option Addr) (u : Tok) (c1 : (items.isEmpty || (0 : Int) == 1) = false) :
    Meets (Builtin.«tuple.__mul__» ⟨[.ref l, .int 0 u], []⟩) (fun _ R s => s.heap.get? l = some { cls := .type "tuple", dict := dd, data := .seq items n, slots := sl } ∧
      R (.ok (.ret (Value.ref s.heap.objs.size))) { s with heap := s.heap.push { cls := Value.type "tuple", data := Data.seq #[] }, toks := s.toks }) :=
  .of_wp fun prog w A R s h => by
    obtain ⟨hp, g, d, tk, os⟩ := s
    obtain ⟨hl, h⟩ := h
    have f1 := AutoSeq1.idx_int
    have c1' : ¬ ((items.isEmpty || (0 : Int) == 1) = true) := by rw [c1]; exact Bool.false_ne_true
    have c2 : (decide ((0 : Int) ≤ 0) || items.isEmpty) = true := by simp
    wp_walk using wpAny_loadPart' hl
    repeat (first
      | (refine wpAny_ite_false (by decide) ?_; wp_walk using wpAny_loadPart' hl)
      | (refine wpAny_ite_false (decide_eq_false c1') ?_; wp_walk using wpAny_loadPart' hl)
      | (refine wpAny_ite_true (decide_eq_true c2) ?_; wp_walk using wpAny_loadPart' hl))
    exact ⟨_, rfl, h⟩
section
variable {X : Cx}
def rRep01 (K : PySem.W.Frag) : R2 := fun x y H Q => ∃ l k xs, x = .ref l ∧ y = .int k ∧ SqT K H l xs ∧ xs ≠ [] ∧ ((k = 1 ∧ Q (.ref l) H) ∨ (k = 0 ∧ ∀ p, H p = none → Q (.ref p) (upd H p (.tup []))))
theorem op_rep01 : OpR X (binaryOp .Mult) (rRep01 X.K) := by
  intro pins s σ H x y v u Q I rx ry h
  obtain ⟨l, k, xs, rfl, rfl, hT, hne, q⟩ := h
  cases rx
  obtain ⟨t, rfl⟩ := ry
  obtain ⟨its, r, ⟨⟨cls, dd, data, sl⟩, ho, hc, n, hd⟩, hs⟩ := I.tuple hT
  simp only at hc hd
  subst hc hd
  have hle : its.length = xs.length := r.length.symm
  have hn : its ≠ [] := fun e => hne (by
    rw [e] at hle
    exact List.eq_nil_of_length_eq_zero hle.symm)
  have hi : its.toArray.isEmpty = false := by
    cases its with
    | nil => exact absurd rfl hn
    | cons a b => rfl
  rcases q with ⟨rfl, q⟩ | ⟨rfl, q⟩
  · refine wpAny_binaryOp_repeat_ref (T := "tuple") (U := "int") (by decide) ⟨_, ho, rfl⟩ (fun s' => typeIs_int s' 1 t) noFill_tuple_mul F.fills_int_mul F.slot_int_rmul repeat_tuple F.slot_int_index.lookup
      (call_meets F.slot_int_rmul (typeIs_int s 1 t) F.entry_int_rmul (F.args_int_rmul_2 _ _) (int_rmul_tuple 1 t l its.toArray n dd sl)
        ⟨ho, rfl, ⟨_, ho, rfl⟩, call_meets F.slot_tuple_mul ⟨_, ho, rfl⟩ F.entry_tuple_mul (F.args_tuple_mul_2 _ _) (tuple_mul1 l its.toArray n sl dd t) ⟨ho, ?_⟩⟩)
    exact ⟨.ref l, H, I, rfl, q⟩
  · refine wpAny_binaryOp_repeat_ref (T := "tuple") (U := "int") (by decide) ⟨_, ho, rfl⟩ (fun s' => typeIs_int s' 0 t) noFill_tuple_mul F.fills_int_mul F.slot_int_rmul repeat_tuple F.slot_int_index.lookup
      (call_meets F.slot_int_rmul (typeIs_int s 0 t) F.entry_int_rmul (F.args_int_rmul_2 _ _) (int_rmul_tuple 0 t l its.toArray n dd sl)
        ⟨ho, rfl, ⟨_, ho, rfl⟩, call_meets F.slot_tuple_mul ⟨_, ho, rfl⟩ F.entry_tuple_mul (F.args_tuple_mul_2 _ _) (tuple_mul0 l its.toArray n sl dd t (by rw [hi]; rfl)) ⟨ho, ?_⟩⟩)
    exact ⟨.ref s.heap.objs.size, _, I.laid (t' := s.toks) (o := .tup []) (fun b ob q => Heap.get?_push_of_some _ q) (Nat.le_refl _) ⟨Nat.zero_le _, [], .nil, IsTup.new _ _⟩, rfl, q _ (I.hok.fresh (Nat.le_refl _))⟩
def rRepA (K : PySem.W.Frag) : R2 := fun x y H Q => rRep01 K x y H Q ∨ rRepT K x y H Q
theorem op_repA : OpR X (binaryOp .Mult) (rRepA X.K) := OpR.or op_rep01 op_repT
end
end L2

namespace Mx
open PySem PySem.Spec PyProof.Rows L2
section
variable {K : Fr} {cl : Cl} {E : L2.St → XK} {H H' H1 H0 : Hp} {O O' : List Addr} {σ : L2.St} {D : Ds} {B : List Addr}
/-! ### a tuple repeated -/
def dRepA : Dt → Dt → R Dt
  | .tup l, .int k => if l ≠ [] ∧ 0 ≤ k ∧ k ≤ 1000 ∧ l.length ≤ 1000 then .ok (.tup (List.replicate k.toNat l).flatten) else .bad
  | _, _ => .bad
theorem repL_append {vs ws : List V} {l m : List Dt} (h : RepL K cl H vs l) (h2 : RepL K cl H ws m) : RepL K cl H (vs ++ ws) (l ++ m) := by
  induction vs generalizing l with
  | nil => cases h; exact h2
  | cons v vs ih =>
    cases h with
    | cons a b => exact .cons a (ih b)
theorem repL_flat {vs : List V} {l : List Dt} (h : RepL K cl H vs l) : ∀ n : Nat, RepL K cl H (List.replicate n vs).flatten (List.replicate n l).flatten
  | 0 => .nil
  | n + 1 => by
    rw [List.replicate_succ, List.replicate_succ, List.flatten_cons, List.flatten_cons]
    exact repL_append h (repL_flat h n)
theorem os_repA : OpS K cl (rRepA K) dRepA := fun O H x y a b E ho rx ry Q q => by
  unfold dRepA at q
  split at q
  · rename_i l k
    split at q
    · rename_i h
      obtain ⟨p, vs, rfl, ha, r⟩ := rx
      cases ry.int_
      have hv : vs ≠ [] := fun z => h.1 (by
        have := r.len
        rw [z] at this
        exact List.eq_nil_of_length_eq_zero this.symm)
      have hlen := r.len
      by_cases h1 : k = 1
      · refine .inl ⟨p, k, vs, rfl, rfl, SqT.of ha, hv, .inl ⟨h1, ?_⟩⟩
        subst h1
        have e : (List.replicate (Int.toNat 1) l).flatten = l := by simp
        rw [e] at q
        exact ok_ret q (.tup (by rw [hid_nin (fun m => by have := ho p m; rw [ha] at this; exact Bool.noConfusion this)]; exact ha) r)
      · by_cases h0 : k = 0
        · refine .inl ⟨p, k, vs, rfl, rfl, SqT.of ha, hv, .inr ⟨h0, ?_⟩⟩
          subst h0
          exact new_tup ho q .nil
        · exact .inr ⟨p, k, vs, rfl, rfl, SqT.of ha, hv, by omega, h.2.2.1, by omega, new_tup ho q (repL_flat r k.toNat)⟩
    · exact q.elim
  · exact q.elim
/-! ### tuple(x) of a dict too -/
def rTupA (K : Fr) : List V → Hp → VK → Prop := fun xs H Q => rTupleOf K xs H Q ∨ DT.rTupK xs H Q
theorem call_tupleB {X : Cx} (hc : X.calm = true) : CallR X (.type "tuple") (rTupA X.K) := CallR.or call_tuple_of (DT.cr_tupK hc)
def dTupA : List Dt → R Dt
  | [.dk kvs] => .ok (.tup (kvs.map fun p => keyD p.1))
  | xs => dTuple xs
@[simp] theorem dTupA_dk (kvs : List (Key × Dt)) : dTupA [.dk kvs] = .ok (.tup (kvs.map fun p => keyD p.1)) := rfl
@[simp] theorem dTupA_lst (l : List Dt) : dTupA [.lst l] = .ok (.tup l) := rfl
theorem repL_keys : ∀ ks : List Key, RepL K cl H (ks.map kV) (ks.map keyD)
  | [] => .nil
  | .inl i :: ks => .cons (.int i) (repL_keys ks)
  | .inr x :: ks => .cons (.str x) (repL_keys ks)
theorem cs_tupA : CaS K cl (rTupA K) dTupA := fun O H xs ds E ho r Q q => by
  unfold dTupA at q
  split at q
  · rename_i kvs
    obtain ⟨v, rfl, a, kv, rfl, ha, hk, hr⟩ := r.one
    refine .inr ⟨a, kv, rfl, .inl ha, ?_⟩
    refine new_tup ho q ?_
    have e1 : (kv.map fun q => kV q.1) = (kv.map (·.1)).map kV := by rw [List.map_map]; rfl
    have e2 : (kvs.map fun q => keyD q.1) = (kvs.map (·.1)).map keyD := by rw [List.map_map]; rfl
    rw [e1, e2, hk]
    exact repL_keys _
  · exact .inl (cs_tuple O H xs _ E ho r Q q)
/-- tuple(d.values()) -/
def dTupV : Dt → R Dt
  | .dk kvs => .ok (.tup (kvs.map (·.2)))
  | _ => .bad
@[simp] theorem dTupV_dk (kvs : List (Key × Dt)) : dTupV (.dk kvs) = .ok (.tup (kvs.map (·.2))) := rfl
theorem sim_tupV {td : TE} {xd : XE} (hd : SimB K cl E td xd) : Sim K cl E (tCB DT.rTupV (tCons (tBM0 K "dict" DT.rVals td) tNil)) (x1 dTupV xd) := fun B H0 O σ D H s Q q => by
  unfold x1 at q
  refine hd B H0 O σ D H s _ ?_
  cases e : xd D with
  | bad => rw [e] at q; exact q.elim
  | ex c fs => rw [e] at q; exact q
  | ok d =>
    rw [e] at q
    simp only [bind_ok] at q
    intro v H1 e1 rd
    unfold dTupV at q
    split at q
    · rename_i kvs
      obtain ⟨a, kv, rfl, ha, hk, hr⟩ := rd
      refine ⟨.inr (.inr (.inl ⟨rfl, .inl ⟨kv, ha⟩⟩)), a, kv, rfl, rfl, .inl ha, fun p n => ?_⟩
      have s1 : Same H1 (upd H1 p (viewO "dict_values" p a)) := same_upd n
      refine ⟨p, a, kv, rfl, upd_same, .inl (s1 _ _ ha), fun q2 n2 => ?_⟩
      have s2 : Same (upd H1 p (viewO "dict_values" p a)) (upd (upd H1 p (viewO "dict_values" p a)) q2 (.tup (kv.map (·.2)))) := same_upd n2
      refine q _ _ ((e1.trans s1).trans s2) (.tup ?_ (hr.mono (hid_mono (s1.trans s2))))
      refine hid_at (fun m => ?_)
      have h1 := ((s.mono e1).own q2 m).2
      have n1 : H1 q2 = none := by
        by_cases z : q2 = p
        · rw [z]; exact n
        · rw [upd_ne z] at n2; exact n2
      rw [n1] at h1
      exact mutO_none h1
    · exact q.elim
/-! ### max(l, default=d) -/
def dints : List Dt → Option (List Int)
  | [] => some []
  | .int i :: l => (dints l).map fun r => i :: r
  | _ :: _ => none
@[simp] theorem dints_map : ∀ l : List Int, dints (l.map Dt.int) = some l
  | [] => rfl
  | i :: l => by rw [List.map_cons]; unfold dints; rw [dints_map l]; rfl
theorem dints_rep : ∀ {vs : List V} {l : List Dt} {ns : List Int}, RepL K cl H vs l → dints l = some ns → vs = ns.map V.int
  | _, _, ns, .nil, e => by simp only [dints, Option.some.injEq] at e; subst e; rfl
  | _, _, ns, .cons (ds := l) hv hl, e => by
    unfold dints at e
    split at e
    · rename_i h; cases h
    · rename_i i l' h
      injection h with h1 h2
      subst h1 h2
      cases ed : dints l with
      | none => rw [ed] at e; cases e
      | some r =>
        rw [ed] at e
        simp only [Option.map_some, Option.some.injEq] at e
        subst e
        cases hv
        rw [dints_rep hl ed]; rfl
    · cases e
def dMaxD : List Dt → List Dt → R Dt
  | [.lst l], [.int d] => (opt (dints l)).bind fun ns => .ok (.int (DT.maxI d ns))
  | _, _ => .bad
@[simp] theorem dMaxD_eq (l : List Dt) (d : Int) : dMaxD [.lst l] [.int d] = (opt (dints l)).bind fun ns => .ok (.int (DT.maxI d ns)) := rfl
@[simp] def xMaxD (xa xz : XA) : XE := fun D => (xa D).bind fun a => (xz D).bind fun z => dMaxD a z
theorem sim_maxD {t tk : TA} {xa xz : XA} (ha : SimBA K cl E t xa) (hz : SimBA K cl E tk xz) : Sim K cl E (tCKw (DT.rMaxDef K) t tk) (xMaxD xa xz) := fun B H0 O σ D H s Q q => by
  unfold xMaxD at q
  refine ha B H0 O σ D H s _ ?_
  cases ea : xa D with
  | bad => rw [ea] at q; exact q.elim
  | ex c fs => rw [ea] at q; exact q
  | ok a =>
    rw [ea] at q
    simp only [R.bind] at q
    intro vs H1 e1 rv
    refine hz B H0 O σ D H1 (s.mono e1) _ ?_
    cases ez : xz D with
    | bad => rw [ez] at q; exact q.elim
    | ex c fs => rw [ez] at q; exact ExOk.mono e1 q
    | ok z =>
      rw [ez] at q
      simp only [R.bind] at q
      intro zs H2 e2 rz
      unfold dMaxD at q
      split at q
      · rename_i l d
        cases en : dints l with
        | none => rw [en] at q; exact q.elim
        | some ns =>
          rw [en] at q
          simp only [opt_some, R.bind] at q
          obtain ⟨v, rfl, p, ws, rfl, hp, rr⟩ := rv.one
          have := dints_rep rr en
          subst this
          obtain ⟨z, rfl, hz2⟩ := rz.one
          cases hz2.int_
          exact ⟨p, ns, d, rfl, rfl, SqL.of (e2 _ _ hp), q _ H2 (e1.trans e2) (.int _)⟩
      · exact q.elim
/-! ### the message of an exception with its field within -/
def fmtS : Dt → Option Str
  | .str y => if y.length ≤ 1000 then some y else none
  | .int i => if i.natAbs.log2 < 1920 ∧ (toString i : Str).length ≤ 1000 then some (toString i) else none
  | _ => none
def partT : Option Str → TE
  | some a => tC (.str a)
  | none => tFmt (tVar 1)
def partsB (l : List (Option Str)) : Bool := l.all fun o => match o with
  | some a => decide (a.length ≤ 1000)
  | none => true
theorem parts_len {l : List (Option Str)} (h : partsB l = true) : ∀ a, some a ∈ l → a.length ≤ 1000 := fun a m => by
  have := List.all_eq_true.mp h _ m
  simpa using this
theorem len_catS (x y : Str) : (x ++ y).length = x.length + y.length := by
  show (x.cps ++ y.cps).size = _
  rw [Array.size_append]; rfl
theorem msg_ok {x : V} {d : Dt} {z : Str} {Hr : Hp} {σ : L2.St} (hx : Rep K cl Hr x d) (hs : fmtS d = some z) (h1 : σ[1]? = some (some x)) : ∀ (parts : List (Option Str)) (acc : Str) (H : Hp) (Q : Str → Hp → Prop), acc.length + 1000 * parts.length ≤ 1000000 →
    (∀ a, some a ∈ parts → a.length ≤ 1000) → (∀ out, Q out H) → tJs (parts.map partT) acc σ H Q
  | [], acc, H, Q, _, _, q => q acc
  | p :: parts, acc, H, Q, hl, ha, q => by
    simp only [List.length_cons] at hl
    have sl : sizeLine = 16777216 := sizeLine_eq
    have go : ∀ y : Str, y.length ≤ 1000 → (acc ++ y).length ≤ sizeLine ∧ tJs (parts.map partT) (acc ++ y) σ H Q := fun y hy => by
      have := len_catS acc y
      exact ⟨by omega, msg_ok hx hs h1 parts (acc ++ y) H Q (by omega) (fun a m => ha a (List.mem_cons_of_mem _ m)) q⟩
    cases p with
    | some a =>
      obtain ⟨g1, g2⟩ := go a (ha a List.mem_cons_self)
      exact ⟨a, rfl, g1, g2⟩
    | none =>
      refine ⟨x, h1, ?_⟩
      cases d with
      | str y =>
        simp only [fmtS] at hs
        split at hs
        · rename_i hy
          cases hx
          obtain ⟨g1, g2⟩ := go y hy
          exact .inl ⟨y, rfl, by omega, y, rfl, g1, g2⟩
        · cases hs
      | int i =>
        simp only [fmtS] at hs
        split at hs
        · rename_i hy
          cases hx
          obtain ⟨g1, g2⟩ := go (toString i) hy.2
          exact .inr ⟨i, rfl, hy.1, _, rfl, g1, g2⟩
        · cases hs
      | _ => cases hs
end
end Mx
namespace Mx
open PySem PySem.Spec PyProof.Rows L2
section
variable {K : Fr} {cl : Cl} {E : L2.St → XK} {H H' H1 H0 : Hp} {O O' : List Addr} {σ : L2.St} {D : Ds} {B : List Addr}
/-! ### slices of tuples, tuple + tuple -/
def dSlT (a : Dt) (l h : Option Int) : R Dt := match a with
  | .tup z => .ok (.tup (cutD z l h))
  | _ => .bad
@[simp] theorem dSlT_tup (z : List Dt) (l h : Option Int) : dSlT (.tup z) l h = .ok (.tup (cutD z l h)) := rfl
@[simp] def xSlT (xe : XE) (xl xh : Ds → R (Option Int)) : XE := fun D => (xe D).bind fun a => (xl D).bind fun l => (xh D).bind fun h => dSlT a l h
theorem cutD_whole {l : List Dt} {lo hi : Option Int} (h : HT.sIx l.length 0 lo = 0 ∧ HT.sIx l.length l.length hi = l.length) : cutD l lo hi = l := by
  unfold cutD
  rw [h.1, h.2]
  simp
theorem tup_nin (ho : Trk O H) {p : Addr} {vs : List V} (h : H p = some (.tup vs)) : p ∉ O := fun m => by
  have := ho p m
  rw [h] at this
  exact Bool.noConfusion this
theorem sim_slT {te : TE} {tl th : TO} {xe : XE} {xl xh : Ds → R (Option Int)} (he : SimB K cl E te xe) (hl : SimO K cl E tl xl) (hh : SimO K cl E th xh) : Sim K cl E (tSl (L2.rSlA K) te tl th) (xSlT xe xl xh) := fun B H0 O σ D H s Q q => by
  unfold xSlT at q
  refine he B H0 O σ D H s _ ?_
  cases ea : xe D with
  | bad => rw [ea] at q; exact q.elim
  | ex c fs => rw [ea] at q; exact q
  | ok a =>
    rw [ea] at q
    intro x H1 e1 rx
    refine hl B H0 O σ D H1 (s.mono e1) _ ?_
    simp only [Mx.R.bind] at q
    cases el : xl D with
    | bad => rw [el] at q; exact q.elim
    | ex c fs => rw [el] at q; exact ExOk.mono e1 q
    | ok l =>
      rw [el] at q
      intro H2 e2
      refine hh B H0 O σ D H2 ((s.mono e1).mono e2) _ ?_
      simp only [Mx.R.bind] at q
      cases eh : xh D with
      | bad => rw [eh] at q; exact q.elim
      | ex c fs => rw [eh] at q; exact ExOk.mono (e1.trans e2) q
      | ok h =>
        rw [eh] at q
        intro H3 e3
        have e123 := (e1.trans e2).trans e3
        have t3 : Trk O H3 := (s.mono e123).trk
        cases a with
        | tup z =>
          obtain ⟨p, vs, rfl, ha, r⟩ := rx
          have ha3 := (e2.trans e3) _ _ ha
          have r3 := r.mono (hid_mono (e2.trans e3))
          have hlen := r.len
          refine ⟨p, vs, rfl, SqT.of ha3, fun hw => ?_, fun hw c n => ?_⟩
          · have e : cutD z l h = z := cutD_whole (by rw [← hlen]; exact hw)
            refine q _ H3 e123 ?_
            rw [e]
            exact .tup (by rw [hid_nin (tup_nin t3 ha3)]; exact ha3) r3
          · exact q _ _ (e123.trans (same_upd n)) (.tup (hid_at (trk_nin t3 n)) ((cut_rep r3 l h).mono (hid_upd_new n)))
        | _ => exact q.elim
def dCatT : Dt → Dt → R Dt
  | .tup l, .tup m => if l.length + m.length ≤ 1000000 then .ok (.tup (l ++ m)) else .bad
  | _, _ => .bad
@[simp] theorem dCatT_tup (l m : List Dt) : dCatT (.tup l) (.tup m) = if l.length + m.length ≤ 1000000 then .ok (.tup (l ++ m)) else .bad := rfl
theorem os_catT : OpS K cl (rCatA K) dCatT := fun O H x y a b E ho rx ry Q q => by
  unfold dCatT at q
  split at q
  · split at q
    · rename_i l m hl
      obtain ⟨p, vs, rfl, h1, r1⟩ := rx
      obtain ⟨p', vs', rfl, h2, r2⟩ := ry
      refine ⟨p, p', vs, vs', rfl, rfl, SqT.of h1, SqT.of h2, by rw [r1.len, r2.len]; exact sz_of hl, fun z => ?_, fun _ z => ?_, fun _ _ => new_tup ho q (r1.app r2)⟩
      · subst z
        cases r1
        exact ok_ret q (.tup (by rw [hid_nin (tup_nin ho h2)]; exact h2) r2)
      · subst z
        cases r2
        rw [List.append_nil] at q
        exact ok_ret q (.tup (by rw [hid_nin (tup_nin ho h1)]; exact h1) r1)
    · exact q.elim
  · exact q.elim
end
end Mx
namespace Mx
open PySem PySem.Spec PyProof.Rows L2
section
variable {K : Fr} {cl : Cl} {E : L2.St → XK} {H H' H1 H0 : Hp} {O O' : List Addr} {σ : L2.St} {D : Ds} {B : List Addr}
/-! ### enumerate(list) -/
def enumD : Nat → List Dt → List Dt
  | _, [] => []
  | n, d :: l => .tup [.int (n : Int), d] :: enumD (n + 1) l
@[simp] theorem enumD_nil (n : Nat) : enumD n [] = [] := rfl
@[simp] theorem enumD_cons (n : Nat) (d : Dt) (l : List Dt) : enumD n (d :: l) = .tup [.int (n : Int), d] :: enumD (n + 1) l := rfl
theorem enumD_len : ∀ (n : Nat) (l : List Dt), (enumD n l).length = l.length
  | _, [] => rfl
  | n, d :: l => by rw [enumD_cons, List.length_cons, enumD_len, List.length_cons]
theorem enumD_get : ∀ {n : Nat} {l : List Dt} {i : Nat} {d : Dt}, (enumD n l)[i]? = some d → ∃ x, l[i]? = some x ∧ d = .tup [.int ((n + i : Nat) : Int), x]
  | _, [], i, d, h => by simp at h
  | n, x :: l, 0, d, h => by simp at h; exact ⟨x, rfl, h.symm⟩
  | n, x :: l, i + 1, d, h => by
    obtain ⟨y, h1, h2⟩ := enumD_get (n := n + 1) (l := l) (i := i) (by simpa using h)
    refine ⟨y, by simpa using h1, ?_⟩
    rw [h2, show n + 1 + i = n + (i + 1) by omega]
theorem goes_enum {a : Addr} {vs : List V} {ds : List Dt} (h : SqL K (hid O H) a vs) (r : RepL K cl (hid O H) vs ds) : Goes K cl (Ite K a) (enumD 0 ds) O H H0 := fun i O' H' _ e t => by
  have h' : SqL K H' a vs := (hid_same O' H').seq (e.seq h)
  refine ⟨fun d hd => ?_, fun hi => ⟨vs, h', by rw [enumD_len] at hi; rw [r.len]; omega⟩⟩
  obtain ⟨x, hx, rfl⟩ := enumD_get hd
  obtain ⟨v, hv, rv⟩ := r.get hx
  refine ⟨⟨vs, v, h', hv⟩, fun z H2 q => ?_⟩
  obtain ⟨T, x', rfl, hT, rfl, f1⟩ := q
  have a1 := f1 vs h'
  rw [hv] at a1
  cases a1
  have nT : T ∉ O' := fun m => by have := t T m; rw [hT] at this; exact mutO_none this
  rw [Nat.zero_add]
  exact ⟨same_upd hT, .tup (hid_at nT) (.cons (.int _) (.cons ((rv.mono e).mono (hid_mono (same_upd hT))) .nil))⟩
def lst1 : List Dt → R (List Dt)
  | [.lst a] => .ok a
  | [.frl a] => .ok a
  | _ => .bad
@[simp] theorem lst1_ok (a : List Dt) : lst1 [.lst a] = .ok a := rfl
@[simp] def xEnum (xa : XA) : XA := fun D => (xa D).bind fun l => (lst1 l).bind fun p => .ok (enumD 0 p)
theorem si_enum {ta : TA} {xa : XA} (h : SimA K cl E ta xa) : SimI K cl E (iEnum K ta) (xEnum xa) := fun B H0 O σ D H s Rk q => by
  unfold xEnum at q
  refine h B H0 O σ D H s _ ?_
  cases e : xa D with
  | bad => rw [e] at q; exact q.elim
  | ex c fs => rw [e] at q; exact q
  | ok l =>
    rw [e] at q
    simp only [R.bind] at q
    intro vs H1 e1 r
    cases r with
    | nil => exact q.elim
    | cons r1 r => cases r with
      | cons r2 r => cases r1 <;> exact q.elim
      | nil =>
        cases r1 <;> first | exact q.elim | skip
        · rename_i a vs ds ha ra
          exact ⟨a, vs, rfl, SqL.of (hid_same _ _ _ _ ha), q _ H1 e1 (goes_enum (SqL.of ha) ra)⟩
        · rename_i a vs ds ha ra
          exact ⟨a, vs, rfl, (hid_same _ _).seq ha, q _ H1 e1 (goes_enum ha ra)⟩
end
end Mx
namespace ZM
open PySem PySem.Spec PyProof.Rows L2 PySem.W
/-! ### zip of a list and a tuple, out of the library's zip of any two iterators -/
def ItzM (K : PySem.W.Frag) (a b : Addr) : It :=
  ⟨fun i H => ∃ (xs ys : List V) (x y : V), SqL K H a xs ∧ SqT K H b ys ∧ xs[i]? = some x ∧ ys[i]? = some y,
    fun i H v H' => ∃ T x y, v = .ref T ∧ H T = none ∧ H' = upd H T (.tup [x, y]) ∧ (∀ xs, SqL K H a xs → xs[i]? = some x) ∧ ∀ ys, SqT K H b ys → ys[i]? = some y,
    fun i H => ∃ xs ys : List V, SqL K H a xs ∧ SqT K H b ys ∧ i ≤ xs.length ∧ i ≤ ys.length ∧ (i = xs.length ∨ i = ys.length)⟩
theorem sep_of {z TI TO i1 i2 a b : Addr} (D : ZipApart z TI TO i1 i2 a b) : ZipSep2 z TI TO i1 i2 [i1, a] [i2, b] where
  TIz := D.TIz
  TOz := D.TOz
  TITO := D.TITO
  TIi1 := D.TIi1
  mem1 := by simp
  zf1 := by simp [D.i1z.symm, D.l1z.symm]
  Tf1 := by simp [D.TOi1, D.l1TO.symm]
  TIi2 := D.TIi2
  mem2 := by simp
  zf2 := by simp [D.i2z.symm, D.l2z.symm]
  Tf2 := by simp [D.TOi2, D.l2TO.symm]
  sep1_2 := by simp [D.i12, D.l2i1.symm]
  sep2_1 := by simp [D.i12.symm, D.l1i2.symm]
theorem turn_zipM {P : Program} {w : World} {K : PySem.W.Frag} {elts : List Expr} {kk : Nat} {tpos : Pos} {a b z TI TO i1 i2 : Addr} (D : ZipApart z TI TO i1 i2 a b) :
    Turn P w K (.Tuple elts kk tpos) (ItzM K a b) [z, TI, TO, i1, i2] z (fun i h => IsZip h z TI TO .none ∧ IsTupOf2 h TI (.ref i1) (.ref i2) ∧ (∃ x y, IsTupOf2 h TO x y) ∧ h.IsListIter i1 a i ∧ h.IsTupleIter i2 b i) where
  mem := by simp
  obj := fun i h st c hc => by
    obtain ⟨hz, hTI, ⟨x, y, hTO⟩, ⟨o1, e1, _, d1⟩, ⟨o2, e2, _, d2⟩⟩ := st
    simp only [List.mem_cons, List.not_mem_nil, or_false] at hc
    rcases hc with rfl | rfl | rfl | rfl | rfl
    · exact ⟨_, hz, fun v q => nomatch q⟩
    · exact ⟨_, hTI, fun v q => nomatch q⟩
    · exact ⟨_, hTO, fun v q => nomatch q⟩
    · exact ⟨o1, e1, fun v q => by rw [d1] at q; cases q⟩
    · exact ⟨o2, e2, fun v q => by rw [d2] at q; cases q⟩
  keep := fun i h h' ⟨hz, hTI, ⟨x, y, hTO⟩, h1, h2⟩ k =>
    ⟨k z (by simp) _ hz, k TI (by simp) _ hTI, ⟨x, y, k TO (by simp) _ hTO⟩, h1.at fun o q => k i1 (by simp) o q, h2.at fun o q => k i2 (by simp) o q⟩
  item := by
    intro X hP hw hK hc i pins s σ H E I hf st hg
    subst hP hw hK
    obtain ⟨hz, hTI, ⟨x0, y0, hTO⟩, h1, h2⟩ := st
    obtain ⟨xs, ys, x, y, hqx, hqy, hx, hy⟩ := hg
    obtain ⟨its, rv, p, _⟩ := I.list hqx
    obtain ⟨its2, rv2, p2, _⟩ := I.tuple hqy
    obtain ⟨u, hu, ru⟩ := rv.get hx
    obtain ⟨u2, hu2, ru2⟩ := rv2.get hy
    have big : ∀ c, c ∈ [z, TI, TO, i1, i2] → c < s.heap.objs.size := fun c hcm => by
      simp only [List.mem_cons, List.not_mem_nil, or_false] at hcm
      rcases hcm with rfl | rfl | rfl | rfl | rfl
      · exact Heap.lt_size hz
      · exact Heap.lt_size hTI
      · exact Heap.lt_size hTO
      · obtain ⟨_, e1, _⟩ := h1; exact Heap.lt_size e1
      · obtain ⟨_, e2, _⟩ := h2; exact Heap.lt_size e2
    have hzl : z < s.heap.objs.size := big z (by simp)
    have hh : X.A.handled = none := I.ok.hd hc
    have l1 : i < its.toArray.size := by
      have := (List.getElem?_eq_some_iff.mp hu).1
      simpa using this
    have l2 : i < its2.toArray.size := by
      have := (List.getElem?_eq_some_iff.mp hu2).1
      simpa using this
    refine wpAny_pyNext_zipD2_item (sep_of D) (Draws.list (A := X.A.in1) hh i1 a D.l1i1 its.toArray) (Draws.tuple (A := X.A.in1) hh i2 b D.l2i2 its2.toArray) hz hTI hTO ⟨h1, p.isList⟩ ⟨h2, p2⟩ l1 l2
      fun y1 y2 h' tk q1 q2 z' TO' st1 st2 hT hsz hk => ?_
    have e1 : y1 = u := by
      have q1 : its.toArray[i]? = some y1 := q1
      rw [List.getElem?_toArray, hu] at q1
      exact (Option.some.inj q1).symm
    have e2 : y2 = u2 := by
      have q2 : its2.toArray[i]? = some y2 := q2
      rw [List.getElem?_toArray, hu2] at q2
      exact (Option.some.inj q2).symm
    subst e1 e2
    refine ⟨_, rfl, wpAny_letOwnedTupleGo_zip (s := { s with heap := h', toks := tk }) z' fun h'' z'' sb => ?_⟩
    have hT2 : h''.get? s.heap.objs.size = some { cls := .type "tuple", data := .seq #[y1, y2] } := (sb.2 _ (Nat.ne_of_gt hzl)).trans hT
    have new : ObjOk X.prog X.w (upd H s.heap.objs.size (.tup [x, y])) h'' s.heap.objs.size (.tup [x, y]) :=
      ⟨by show 2 ≤ sizeLine; decide, [y1, y2], .cons ru (.cons ru2 .nil), ⟨_, hT2, rfl, _, rfl⟩⟩
    have I1 : Inv X pins σ (upd H s.heap.objs.size (.tup [x, y])) { s with heap := h'', toks := tk } :=
      I.turnedNew (t' := tk) (ch := [z, TI, TO, i1, i2]) (fun c o hb q => (sb.2 c (fun q' => hb (by simp [q']))).trans (hk c o (fun q' => hb (by simp [q'])) (fun q' => hb (by simp [q'])) (fun q' => hb (by simp [q'])) (fun q' => hb (by simp [q'])) q)) hf (Nat.le_refl _) new
    refine ⟨.ref s.heap.objs.size, _, I1, rfl, ⟨_, x, y, rfl, I.hok.fresh (Nat.le_refl _), rfl, fun l hl => by rw [I.list_inj hl hqx]; exact hx, fun l hl => by rw [I.tuple_inj hl hqy]; exact hy⟩,
      ⟨z'', (sb.2 _ D.TIz).trans (hk _ _ D.TIz D.TITO D.TIi1 D.TIi2 hTI), ⟨y1, y2, (sb.2 _ D.TOz).trans TO'⟩, st1.1.at fun o q => (sb.2 _ D.i1z).trans q, st2.1.at fun o q => (sb.2 _ D.i2z).trans q⟩, fun c hcm => ?_⟩
    rw [upd_ne (Nat.ne_of_lt (big c hcm))]
    exact (hf c hcm).1
  done := by
    intro X hP hw hK hc i pins s σ H E I hf st hg
    subst hP hw hK
    obtain ⟨hz, hTI, ⟨x0, y0, hTO⟩, h1, h2⟩ := st
    obtain ⟨xs, ys, hqx, hqy, le1, le2, hend⟩ := hg
    obtain ⟨its, rv, p, _⟩ := I.list hqx
    obtain ⟨its2, rv2, p2, _⟩ := I.tuple hqy
    have l1 : its.toArray.size = xs.length := by rw [List.size_toArray]; exact rv.length.symm
    have l2 : its2.toArray.size = ys.length := by rw [List.size_toArray]; exact rv2.length.symm
    have hh : X.A.handled = none := I.ok.hd hc
    exact wpAny_pyNext_zipD2_end (sep_of D) (Draws.list (A := X.A.in1) hh i1 a D.l1i1 its.toArray) (Draws.tuple (A := X.A.in1) hh i2 b D.l2i2 its2.toArray) hz hTI hTO ⟨h1, p.isList⟩ ⟨h2, p2⟩ (by omega) (by omega) (by omega)
      fun h' tk hk => ⟨rfl, I.turnedL (t' := tk) (ch := [z, TI, TO, i1, i2]) (fun c o hb q =>
        hk c o (fun q' => hb (by simp [q'])) (fun q' => hb (by simp [q'])) (fun q' => hb (by simp [q'])) (fun q' => hb (by simp [q'])) q) hf⟩
  self := fun A i s Q E st h => wpAny_pyIter_zip st.1 h
def iZipM (K : PySem.W.Frag) (ta : TA) : TI := fun σ H R => ta σ H fun vs H1 => ∃ a b xs ys, vs = [.ref a, .ref b] ∧ SqL K H1 a xs ∧ SqT K H1 b ys ∧ R (ItzM K a b) H1
theorem pi_zipM {X : Cx} {e e2 : Expr} {ta : TA} {p pos tpos : Pos} {elts : List Expr} {kk : Nat} (hg : Gl X "zip") (hm : X.mg "zip" = none) (ha : PA X [e, e2] ta)
    (hs : starEach [e, e2] X.env = (false, eval e X.env) :: starEach [e2] X.env := by rfl) (hpl : (backTo pos (starEach [e2] X.env)).any (·.1) = false := by rfl) :
    PI X (.Tuple elts kk tpos) (.Call (.Name "zip" p) [e, e2] [] pos) (iZipM X.K ta) := by
  refine ⟨fun pins s σ H R I h => ?_⟩
  refine Call_ (ld_blt I hg hm PyProof.Rows.boot_zip (PyProof.Rows.callWith_type1 (thn (ha.run pos pins s σ H _ I h) fun us s1 ⟨vs, H1, I1, r1, a, b, xs, ys, ex, hqx, hqy, q⟩ => ?_) hs hpl))
  subst ex
  obtain ⟨v1, w1, rfl, rx1, rr⟩ : ∃ v w, us = v :: w ∧ RelV (.ref a) v ∧ Vals [.ref b] w := by cases r1 with | cons h t => exact ⟨_, _, rfl, h, t⟩
  obtain ⟨v2, w2, rfl, rx2, rn⟩ : ∃ v w, w1 = v :: w ∧ RelV (.ref b) v ∧ Vals [] w := by cases rr with | cons h t => exact ⟨_, _, rfl, h, t⟩
  cases rn
  obtain rfl : v1 = .ref a := rx1
  obtain rfl : v2 = .ref b := rx2
  obtain ⟨its, rv, p1, _⟩ := I1.list hqx
  obtain ⟨its2, rv2, p2, _⟩ := I1.tuple hqy
  have la : a < s1.heap.objs.size := p1.lt
  have lb : b < s1.heap.objs.size := by obtain ⟨_, ho, _⟩ := id p2; exact Heap.lt_size ho
  refine zip_begins2 (begins_list a its.toArray) (begins_tuple b its2.toArray) p1.isList p2 fun h' hz hTI hTO h1 h2 hsz hk => wpAny_pyIter_zip hz ?_
  have I2 : Inv X pins σ H1 { s1 with heap := h' } := I1.kept (t' := s1.toks) hk
  refine ⟨s1.heap.objs.size + 4, [s1.heap.objs.size + 4, s1.heap.objs.size + 2, s1.heap.objs.size + 3, s1.heap.objs.size, s1.heap.objs.size + 1], _, _, H1, rfl, I2, turn_zipM (PySem.W.ktu_apart s1.heap.objs.size a b la lb), ⟨hz, hTI, ⟨_, _, hTO⟩, ⟨_, h1, rfl, rfl⟩, ⟨_, h2, rfl, rfl⟩⟩, fun c hcm => ?_, q⟩
  have hle : s1.heap.objs.size ≤ c := by
    simp only [List.mem_cons, List.not_mem_nil, or_false] at hcm
    rcases hcm with rfl | rfl | rfl | rfl | rfl
    · exact Nat.le_add_right _ _
    · exact Nat.le_add_right _ _
    · exact Nat.le_add_right _ _
    · exact Nat.le_refl _
    · exact Nat.le_add_right _ _
  exact I1.fpOk hle (I1.hok.fresh hle)
end ZM

namespace Mx
open PySem PySem.Spec PyProof.Rows L2
section
variable {K : Fr} {cl : Cl} {E : L2.St → XK} {H H' H1 H0 : Hp} {O O' : List Addr} {σ : L2.St} {D : Ds} {B : List Addr}
/-! ### as data: zip of two lists, or of a list and a tuple -/
theorem goes_zipM {a b : Addr} {vs ws : List V} {ds es : List Dt} (h : SqL K (hid O H) a vs) (h2 : (hid O H) b = some (.tup ws)) (r : RepL K cl (hid O H) vs ds) (r2 : RepL K cl (hid O H) ws es) : Goes K cl (ZM.ItzM K a b) (zipD ds es) O H H0 := fun i O' H' hi0 e t => by
  have h' : SqL K H' a vs := (hid_same O' H').seq (e.seq h)
  have h2' : SqT K H' b ws := SqT.of ((hid_same O' H') _ _ (e _ _ h2))
  refine ⟨fun d hd => ?_, fun hi => ⟨vs, ws, h', h2', ?_⟩⟩
  · obtain ⟨x, y, hx, hy, rfl⟩ := zipD_get hd
    obtain ⟨v, hv, rv⟩ := r.get hx
    obtain ⟨w, hw, rw_⟩ := r2.get hy
    refine ⟨⟨vs, ws, v, w, h', h2', hv, hw⟩, fun z H2 q => ?_⟩
    obtain ⟨T, x', y', rfl, hT, rfl, f1, f2⟩ := q
    have a1 := f1 vs h'
    have a2 := f2 ws h2'
    rw [hv] at a1; rw [hw] at a2
    cases a1; cases a2
    have nT : T ∉ O' := fun m => by have := t T m; rw [hT] at this; exact mutO_none this
    exact ⟨same_upd hT, .tup (hid_at nT) (.cons ((rv.mono e).mono (hid_mono (same_upd hT))) (.cons ((rw_.mono e).mono (hid_mono (same_upd hT))) .nil))⟩
  · rw [zipD_len] at hi
    have := r.len
    have := r2.len
    omega
def lstT : List Dt → R (List Dt × List Dt)
  | [.lst a, .tup b] => .ok (a, b)
  | _ => .bad
@[simp] theorem lstT_ok (a b : List Dt) : lstT [.lst a, .tup b] = .ok (a, b) := rfl
@[simp] def xZipM (xa : XA) : XA := fun D => (xa D).bind fun l => (lstT l).bind fun p => .ok (zipD p.1 p.2)
theorem si_zipM {ta : TA} {xa : XA} (h : SimA K cl E ta xa) : SimI K cl E (ZM.iZipM K ta) (xZipM xa) := fun B H0 O σ D H s Rk q => by
  unfold xZipM at q
  refine h B H0 O σ D H s _ ?_
  cases e : xa D with
  | bad => rw [e] at q; exact q.elim
  | ex c fs => rw [e] at q; exact q
  | ok l =>
    rw [e] at q
    simp only [R.bind] at q
    intro vs H1 e1 r
    cases r with
    | nil => exact q.elim
    | cons r1 r => cases r with
      | nil => cases r1 <;> exact q.elim
      | cons r2 r => cases r with
        | cons r3 r => cases r1 <;> first | exact q.elim | (cases r2 <;> exact q.elim)
        | nil =>
          cases r1 <;> first | exact q.elim | skip
          cases r2 <;> first | exact q.elim | skip
          rename_i a vs ds ha ra b ws es hb rb
          exact ⟨a, b, vs, ws, rfl, SqL.of (hid_same _ _ _ _ ha), SqT.of (hid_same _ _ _ _ hb), q _ H1 e1 (goes_zipM (SqL.of ha) hb ra rb)⟩
end
end Mx
namespace Mx
open PySem PySem.Spec PyProof.Rows L2
section
variable {K : Fr} {cl : Cl} {E : L2.St → XK} {H H' H1 H0 : Hp} {O O' : List Addr} {σ : L2.St} {D : Ds} {B : List Addr}
@[simp] def xrFrz (i : Nat) (xr : XR) : XR := fun D => xr (Frz i D)
theorem sr_frz {i : Nat} {ts : TS} {xr : XR} (h : SimR K cl E ts xr) : SimR K cl E ts (xrFrz i xr) := fun B H0 O σ D H s En q => by
  obtain ⟨O', r, sub⟩ := s.frz i
  exact h B H0 O' σ _ H r En (PostR.fw (hid_sub sub) q)
end
end Mx
namespace L2
open PySem PySem.Spec PyProof.Rows PySem.W
section
variable {X : Cx}
/-- o[i] of a list, as an augmented store reads it -/
theorem get_list : PGet X (rIxL X.K) := by
  intro pins s σ H x y v u Q I rx ry h
  obtain ⟨p, xs, i, z, rfl, rfl, hq, he, q⟩ := h
  cases rx
  obtain ⟨t, rfl⟩ := ry
  obtain ⟨its, r, pl, hz⟩ := I.list hq
  obtain ⟨j, h1, h2, h3, h4, h5⟩ := atI_get he
  obtain ⟨w, ew, rw'⟩ := r.get h2
  have hl := r.length
  have hn := line63
  have fin : EP X pins σ Q w s := ⟨z, H, I, rw', q⟩
  by_cases h0 : 0 ≤ i
  · have hj : i.toNat = j := by
      rw [seqIndex_of h0 h5] at h1
      exact Option.some.inj h1
    exact wpAny_getItem_list pl.isList h0 (by omega) (by rw [hj]; simpa using ew) fin
  · have hj : (i + (its.toArray.size : Int)).toNat = j := by
      rw [seqIndex_neg (by omega) h4] at h1
      rw [List.size_toArray, ← hl]
      exact Option.some.inj h1
    exact wpAny_getItem_list_neg pl.isList (by omega) (by rw [List.size_toArray] <;> omega) (by omega) (by rw [hj]; simpa using ew) fin
end
end L2
namespace Mx
open PySem PySem.Spec PyProof.Rows L2
section
variable {K : Fr} {cl : Cl} {E : L2.St → XK} {H H' H1 H0 Hh : Hp} {O O' : List Addr} {σ : L2.St} {D : Ds} {B : List Addr}
/-! ### owned trees -/
theorem TrL.len : ∀ {vs : List V} {ts : List Ow} {F : List Addr}, TrL K cl H Hh vs ts F → vs.length = ts.length
  | _, _, _, .nil => rfl
  | _, _, _, .cons _ r => by rw [List.length_cons, List.length_cons, r.len]
/-- one place of a row of trees, and the row around it -/
theorem TrL.hole : ∀ {vs : List V} {ts : List Ow} {F : List Addr} {n : Nat} {t : Ow}, TrL K cl H Hh vs ts F → ts[n]? = some t →
    ∃ w F1 G F2, vs[n]? = some w ∧ F = F1 ++ G ++ F2 ∧ Tr K cl H Hh w t G ∧ ∀ (H' Hh' : Hp) (t' : Ow) (w' : V) (G' : List Addr), Same Hh Hh' → (∀ a, a ∈ F1 ∨ a ∈ F2 → H' a = H a) → Tr K cl H' Hh' w' t' G' → TrL K cl H' Hh' (vs.set n w') (ts.set n t') (F1 ++ G' ++ F2)
  | _, _, _, n, _, .nil, e => by simp at e
  | _, _, _, 0, _, .cons (v := v) (F := F) (G := G) h r, e => by
    simp at e
    subst e
    exact ⟨v, [], F, G, rfl, rfl, h, fun H' Hh' t' w' G' eh g h' => .cons h' ((r.agree fun a m => g a (.inr m)).mono (Same.refl _) eh)⟩
  | _, _, _, n + 1, _, .cons (F := F) h r, e => by
    obtain ⟨w, F1, G, F2, e1, rfl, e3, f⟩ := r.hole (n := n) (by simpa using e)
    refine ⟨w, F ++ F1, G, F2, by simpa using e1, by simp [List.append_assoc], e3, fun H' Hh' t' w' G' eh g h' => ?_⟩
    have := TrL.cons ((h.agree (H' := H') fun a m => g a (.inl (List.mem_append_left _ m))).mono (Same.refl _) eh) (f H' Hh' t' w' G' eh (fun a m => g a (m.imp (fun m => List.mem_append_right _ m) id)) h')
    rw [List.append_assoc, List.append_assoc, ← List.append_assoc F1]
    exact this
mutual
theorem Tr.mutO : ∀ {v : V} {t : Ow} {F : List Addr}, Tr K cl H Hh v t F → ∀ a, a ∈ F → MutO (H a) = true
  | _, _, _, .sh _, a, m => by cases m
  | _, _, _, .ol h r, a, m => by
    rcases List.mem_cons.mp m with rfl | m
    · rw [h]; rfl
    · exact TrL.mutO r a m
  | _, _, _, .oi _ h _ r, a, m => by
    rcases List.mem_cons.mp m with rfl | m
    · rw [h]; rfl
    · exact TrL.mutO r a m
theorem TrL.mutO : ∀ {vs : List V} {ts : List Ow} {F : List Addr}, TrL K cl H Hh vs ts F → ∀ a, a ∈ F → MutO (H a) = true
  | _, _, _, .nil, a, m => by cases m
  | _, _, _, .cons h r, a, m => by
    rcases List.mem_append.mp m with m | m
    · exact Tr.mutO h a m
    · exact TrL.mutO r a m
end
theorem TrL.ofRep : ∀ {vs : List V} {ds : List Dt}, RepL K cl Hh vs ds → TrL K cl H Hh vs (ds.map Ow.sh) []
  | _, _, .nil => .nil
  | _, _, .cons h r => .cons (F := []) (.sh h) (TrL.ofRep r)
theorem TrL.reps : ∀ {vs : List V} {ds : List Dt} {F : List Addr}, TrL K cl H Hh vs (ds.map Ow.sh) F → F = [] ∧ RepL K cl Hh vs ds
  | _, [], _, .nil => ⟨rfl, .nil⟩
  | _, d :: ds, _, .cons (.sh h) r => by
    obtain ⟨rfl, r'⟩ := TrL.reps r
    exact ⟨rfl, .cons h r'⟩
theorem TrL.app : ∀ {vs ws : List V} {ts us : List Ow} {F G : List Addr}, TrL K cl H Hh vs ts F → TrL K cl H Hh ws us G → TrL K cl H Hh (vs ++ ws) (ts ++ us) (F ++ G)
  | _, _, _, _, _, _, .nil, s => s
  | _, _, _, _, _, _, .cons h r, s => by rw [List.append_assoc]; exact .cons h (r.app s)
mutual
/-- what a tree is when it is shared -/
def Ow.dt : Ow → Dt
  | .sh d => d
  | .ol l => .lst (dtL l)
  | .oi c fs => .ins c (dtF fs)
def dtL : List Ow → List Dt
  | [] => []
  | t :: r => t.dt :: dtL r
def dtF : List (Str × Ow) → List (Str × Dt)
  | [] => []
  | (n, t) :: r => (n, t.dt) :: dtF r
end
theorem dtF_1 : ∀ fs : List (Str × Ow), (dtF fs).map (·.1) = fs.map (·.1)
  | [] => rfl
  | (n, t) :: r => by show n :: _ = n :: _; rw [dtF_1 r]
theorem dtF_2 : ∀ fs : List (Str × Ow), (dtF fs).map (·.2) = dtL (fs.map (·.2))
  | [] => rfl
  | (n, t) :: r => by show t.dt :: _ = t.dt :: _; rw [dtF_2 r]
mutual
theorem Tr.rep {Hr : Hp} (e : Same Hh Hr) : ∀ {v : V} {t : Ow} {F : List Addr}, (∀ a, a ∈ F → Hr a = H a) → Tr K cl H Hh v t F → Rep K cl Hr v t.dt
  | _, _, _, _, .sh r => r.mono e
  | _, _, _, g, .ol h r => .lst ((g _ List.mem_cons_self).trans h) (TrL.rep e (fun a m => g a (List.mem_cons_of_mem _ m)) r)
  | _, _, _, g, .oi (fs := fs) c h k r => .ins c ((g _ List.mem_cons_self).trans h) (by rw [dtF_1]; exact k) (by rw [dtF_2]; exact TrL.rep e (fun a m => g a (List.mem_cons_of_mem _ m)) r)
theorem TrL.rep {Hr : Hp} (e : Same Hh Hr) : ∀ {vs : List V} {ts : List Ow} {F : List Addr}, (∀ a, a ∈ F → Hr a = H a) → TrL K cl H Hh vs ts F → RepL K cl Hr vs (dtL ts)
  | _, _, _, _, .nil => .nil
  | _, _, _, g, .cons h r => .cons (Tr.rep e (fun a m => g a (List.mem_append_left _ m)) h) (TrL.rep e (fun a m => g a (List.mem_append_right _ m)) r)
end
theorem hid_newF {F : List Addr} (e : Same H H') (n : ∀ a, a ∈ F → H a = none) : Same (hid O H) (hid (F ++ O) H') := fun b o h => by
  unfold hid at h ⊢
  split at h
  · cases h
  · rename_i q
    have bp : b ∉ F := fun z => by rw [n b z] at h; cases h
    rw [if_neg (fun z => (List.mem_append.mp z).elim bp q)]
    exact e b o h
/-- new objects are owned, no slot knows them yet -/
theorem RS.addF {F : List Addr} (r : RS K cl B H0 O σ D H) (e : Same H H') (n : ∀ a, a ∈ F → H a = none) (mo : ∀ a, a ∈ F → MutO (H' a) = true) : RS K cl B H0 (F ++ O) σ D H' where
  same := r.same.trans e
  bas := fun a m => ⟨List.mem_append_right _ (r.bas a m).1, (r.bas a m).2⟩
  own := fun a m => by
    rcases List.mem_append.mp m with m | m
    · exact ⟨.inr (r.same.free (n a m)), mo a m⟩
    · exact (r.mono e).own a m
  len := r.len
  slot := fun j t e' => by
    have q := r.slot j t e'
    have hh : Same (hid O H) (hid (F ++ O) H') := hid_newF e n
    cases ho : t.own with
    | true =>
      obtain ⟨a, e1, m, o⟩ := q.owned ho
      exact SlotOk.of_owned e1 ⟨List.mem_append_right _ m.1, m.2⟩ (o.mono e hh)
    | false =>
      cases t with
      | no => trivial
      | sh d => obtain ⟨x, e1, rr⟩ := q; exact ⟨x, e1, rr.mono hh⟩
      | ol l => cases ho
      | oi x0 c l => cases ho
      | ok l => cases ho
      | ot l => cases ho
      | xc c l => exact XcAt.mono hh q
      | br l => obtain ⟨a, xs, e1, m, h0, rr⟩ := q; exact ⟨a, xs, e1, List.mem_append_right _ m, h0, rr.mono hh⟩
      | ow t => trivial
  inj := r.inj
  inn := r.inn.grow e (hid_newF e n) fun a m => List.mem_append_right _ m
/-- a slot is stored: a new tree -/
theorem RS.setTree {F : List Addr} {v : V} {t : Ow} (r : RS K cl B H0 O σ D H) (i : Nat) (e : Same H H') (nd : F.Nodup) (n : ∀ a, a ∈ F → H a = none) (h : Tr K cl H' (hid (F ++ O) H') v t F) : RS K cl B H0 (F ++ O) (σ.set i (some v)) (D.set i (.ow t)) H' := by
  have r1 := (r.addF e n h.mutO).setNo i (some v)
  have fO : ∀ a, a ∈ F → a ∉ O := fun a m mo => by
    have := (r.own a mo).2
    rw [n a m] at this
    exact mutO_none this
  have sub : ∀ {j : Nat} {s : Sl}, (D.set i (.ow t))[j]? = some s → j ≠ i → (D.set i .no)[j]? = some s := fun {j s} e' hj => by
    rw [List.getElem?_set_ne (Ne.symm hj)] at e' ⊢; exact e'
  refine ⟨r1.same, r1.bas, r1.own, by rw [List.length_set, List.length_set]; exact r.len, fun j s ej => ?_, fun j k s1 s2 a hjk e1 e2 o1 o2 h1 => ?_, ?_⟩
  · by_cases hj : j = i
    · subst hj
      rcases set_get ej with ⟨_, rfl, _⟩ | ⟨hj, _⟩
      · trivial
      · exact absurd rfl hj
    · exact r1.slot j s (sub ej hj)
  · by_cases hj : j = i
    · subst hj
      rcases set_get e1 with ⟨_, rfl, _⟩ | ⟨hj, _⟩
      · cases o1
      · exact absurd rfl hj
    · by_cases hk : k = i
      · subst hk
        rcases set_get e2 with ⟨_, rfl, _⟩ | ⟨hk, _⟩
        · cases o2
        · exact absurd rfl hk
      · exact r1.inj j k s1 s2 a hjk (sub e1 hj) (sub e2 hk) o1 o2 h1
  · obtain ⟨Fs, q⟩ := r.inn
    refine ⟨fun j => if j = i then F else Fs j, fun j u ej => ?_⟩
    rcases set_get ej with ⟨rfl, eu, hl⟩ | ⟨hj, e'⟩
    · cases eu
      dsimp only
      rw [if_pos rfl]
      refine ⟨⟨v, by rw [List.getElem?_set_self (by rw [r.len]; exact hl)], h⟩, nd, fun a m => ⟨List.mem_append_left _ m, r.same.free (n a m)⟩, fun k s a ek os ha m => ?_, fun k t2 hk ek a m => ?_⟩
      · rcases set_get ek with ⟨rfl, rfl, _⟩ | ⟨hk, ek'⟩
        · cases os
        · rw [List.getElem?_set_ne (Ne.symm hk)] at ha
          obtain ⟨b, eb, mb, _⟩ := (r.slot k s ek').owned os
          rw [ha] at eb
          cases eb
          exact fO a m mb.1
      · rw [if_neg hk]
        rcases set_get ek with ⟨rfl, _, _⟩ | ⟨_, ek'⟩
        · exact absurd rfl hk
        · exact fun mk => fO a m ((q k t2 ek').2.2.1 a mk).1
    · dsimp only
      rw [if_neg hj]
      obtain ⟨⟨w, hw, tw⟩, ndj, fo, own, dj⟩ := q j u e'
      refine ⟨⟨w, by rw [List.getElem?_set_ne (Ne.symm hj)]; exact hw, tw.mono e (hid_newF e n)⟩, ndj, fun a m => ⟨List.mem_append_right _ (fo a m).1, (fo a m).2⟩, fun k s a ek os ha => ?_, fun k t2 hk ek a m => ?_⟩
      · rcases set_get ek with ⟨rfl, rfl, _⟩ | ⟨hk, ek'⟩
        · cases os
        · rw [List.getElem?_set_ne (Ne.symm hk)] at ha
          exact own k s a ek' os ha
      · rcases set_get ek with ⟨rfl, _, _⟩ | ⟨hki, ek'⟩
        · rw [if_pos rfl]
          exact fun mk => fO a mk (fo a m).1
        · rw [if_neg hki]
          exact dj k t2 hk ek' a m
/-- an object of a slot's tree is changed -/
theorem RS.mutTree {i : Nat} {t t' : Ow} {b : Addr} {o : HO} (r : RS K cl B H0 O σ D H) (hi : D[i]? = some (.ow t)) (mo : MutO (some o) = true)
    (hb : ∀ v F, σ[i]? = some (some v) → Tr K cl H (hid O H) v t F → F.Nodup → b ∈ F ∧ Tr K cl (upd H b o) (hid O H) v t' F) : RS K cl B H0 O σ (D.set i (.ow t')) (upd H b o) := by
  obtain ⟨Fs, q⟩ := r.inn
  obtain ⟨⟨v, hv, tr⟩, nd, fo, own, dj⟩ := q i t hi
  obtain ⟨mb, tr'⟩ := hb v (Fs i) hv tr nd
  obtain ⟨bO, b0⟩ := fo b mb
  have hh : hid O (upd H b o) = hid O H := hid_upd bO
  refine ⟨fun c o' e => by rw [upd_ne (ne_of_none e b0)]; exact r.same c o' e, r.bas, fun c mc => ⟨(r.own c mc).1, ?_⟩, by rw [List.length_set]; exact r.len, fun j s ej => ?_, fun j k s1 s2 c hjk e1 e2 o1 o2 h1 => ?_, Fs, fun j u ej => ?_⟩
  · by_cases e : c = b
    · subst e; rw [upd_same]; exact mo
    · rw [upd_ne e]; exact (r.own c mc).2
  · rcases set_get ej with ⟨rfl, rfl, hl⟩ | ⟨hj, e'⟩
    · trivial
    · have qs := r.slot j s e'
      cases ho : s.own with
      | true =>
        obtain ⟨c, e1, mc, oc⟩ := qs.owned ho
        have hcb : b ≠ c := fun z => own j s c e' ho e1 (z ▸ mb)
        exact SlotOk.of_owned e1 mc (by rw [hh]; exact own_ne oc hcb)
      | false =>
        cases s with
        | no => trivial
        | sh d => obtain ⟨x, e1, rr⟩ := qs; exact ⟨x, e1, by rw [hh]; exact rr⟩
        | ol l => cases ho
        | oi x0 c l => cases ho
        | ok l => cases ho
        | ot l => cases ho
        | xc c l => exact XcAt.mono (by rw [hh]; exact Same.refl _) qs
        | br l => obtain ⟨c, xs, e1, mc, h0, rr⟩ := qs; exact ⟨c, xs, e1, mc, h0, by rw [hh]; exact rr⟩
        | ow t => trivial
  · rcases set_get e1 with ⟨rfl, rfl, _⟩ | ⟨hj, e1'⟩
    · cases o1
    · rcases set_get e2 with ⟨rfl, rfl, _⟩ | ⟨hk, e2'⟩
      · cases o2
      · exact r.inj j k s1 s2 c hjk e1' e2' o1 o2 h1
  · have own' : ∀ (j : Nat), (∃ u, D[j]? = some (.ow u)) → ∀ (k : Nat) (s : Sl) (a : Addr), (D.set i (.ow t'))[k]? = some s → s.own = true → σ[k]? = some (some (.ref a)) → a ∉ Fs j := fun j ⟨u, eu⟩ k s a ek os ha => by
      rcases set_get ek with ⟨rfl, rfl, _⟩ | ⟨hk, ek'⟩
      · cases os
      · exact (q j u eu).2.2.2.1 k s a ek' os ha
    have dj' : ∀ (j : Nat), (∃ u, D[j]? = some (.ow u)) → ∀ (k : Nat) (t2 : Ow), k ≠ j → (D.set i (.ow t'))[k]? = some (.ow t2) → ∀ a, a ∈ Fs j → a ∉ Fs k := fun j ⟨u, eu⟩ k t2 hk ek => by
      rcases set_get ek with ⟨rfl, _, _⟩ | ⟨_, ek'⟩
      · exact (q j u eu).2.2.2.2 k t hk hi
      · exact (q j u eu).2.2.2.2 k t2 hk ek'
    rcases set_get ej with ⟨rfl, eu, hl⟩ | ⟨hj, e'⟩
    · cases eu
      exact ⟨⟨v, hv, by rw [hh]; exact tr'⟩, nd, fo, own' j ⟨t, hi⟩, dj' j ⟨t, hi⟩⟩
    · obtain ⟨⟨w, hw, tw⟩, ndj, foj, ownj, djj⟩ := q j u e'
      exact ⟨⟨w, hw, by rw [hh]; exact tw.upd (fun m => dj j u hj e' b mb m)⟩, ndj, foj, own' j ⟨u, e'⟩, dj' j ⟨u, e'⟩⟩
/-- a tree becomes shared -/
def FrzW (i : Nat) (D : Ds) : Ds := match D[i]? with
  | some (.ow t) => D.set i (.sh t.dt)
  | _ => D
theorem RS.frzW (r : RS K cl B H0 O σ D H) (i : Nat) : ∃ O', RS K cl B H0 O' σ (FrzW i D) H ∧ ∀ a, a ∈ O' → a ∈ O := by
  unfold FrzW
  split
  · rename_i t hi
    obtain ⟨Fs, q⟩ := r.inn
    obtain ⟨⟨v, hv, tr⟩, nd, fo, own, dj⟩ := q i t hi
    have subO : ∀ a, a ∈ O.filter (fun a => decide (a ∉ Fs i)) → a ∈ O := fun a m => (List.mem_filter.mp m).1
    have sub : Same (hid O H) (hid (O.filter fun a => decide (a ∉ Fs i)) H) := hid_sub subO
    have hF : ∀ a, a ∈ Fs i → hid (O.filter fun a => decide (a ∉ Fs i)) H a = H a := fun a m => hid_nin fun z => by
      have := (List.mem_filter.mp z).2
      simp at this
      exact this m
    have keep : ∀ {a : Addr}, a ∈ O → a ∉ Fs i → a ∈ O.filter fun a => decide (a ∉ Fs i) := fun {a} m n => List.mem_filter.mpr ⟨m, by simpa using n⟩
    refine ⟨_, ⟨r.same, fun a m => ⟨keep (r.bas a m).1 fun z => by
      have := (r.bas a m).2
      rw [(fo a z).2] at this
      exact mutO_none this, (r.bas a m).2⟩, fun a m => r.own a (subO a m), by rw [List.length_set]; exact r.len, fun j s ej => ?_, fun j k s1 s2 c hjk e1 e2 o1 o2 h1 => ?_, Fs, fun j u ej => ?_⟩, subO⟩
    · rcases set_get ej with ⟨rfl, rfl, hl⟩ | ⟨hj, e'⟩
      · exact ⟨v, hv, tr.rep sub hF⟩
      · have qs := r.slot j s e'
        cases ho : s.own with
        | true =>
          obtain ⟨c, e1, mc, oc⟩ := qs.owned ho
          exact SlotOk.of_owned e1 ⟨keep mc.1 (own j s c e' ho e1), mc.2⟩ (oc.mono (Same.refl _) sub)
        | false =>
          cases s with
          | no => trivial
          | sh d => obtain ⟨x, e1, rr⟩ := qs; exact ⟨x, e1, rr.mono sub⟩
          | ol l => cases ho
          | oi x0 c l => cases ho
          | ok l => cases ho
          | ot l => cases ho
          | xc c l => exact XcAt.mono sub qs
          | br l => obtain ⟨c, xs, e1, mc, h0, rr⟩ := qs; exact ⟨c, xs, e1, keep mc (fun z => by rw [(fo c z).2] at h0; cases h0), h0, rr.mono sub⟩
          | ow t => trivial
    · rcases set_get e1 with ⟨rfl, rfl, _⟩ | ⟨hj, e1'⟩
      · cases o1
      · rcases set_get e2 with ⟨rfl, rfl, _⟩ | ⟨hk, e2'⟩
        · cases o2
        · exact r.inj j k s1 s2 c hjk e1' e2' o1 o2 h1
    · rcases set_get ej with ⟨rfl, eu, hl⟩ | ⟨hj, e'⟩
      · cases eu
      · obtain ⟨⟨w, hw, tw⟩, ndj, foj, ownj, djj⟩ := q j u e'
        refine ⟨⟨w, hw, tw.mono (Same.refl _) sub⟩, ndj, fun a m => ⟨keep (foj a m).1 (djj i t (Ne.symm hj) hi a m), (foj a m).2⟩, fun k s a ek os ha => ?_, fun k t2 hk ek => ?_⟩
        · rcases set_get ek with ⟨rfl, rfl, _⟩ | ⟨hk, ek'⟩
          · cases os
          · exact ownj k s a ek' os ha
        · rcases set_get ek with ⟨rfl, e2, _⟩ | ⟨_, ek'⟩
          · cases e2
          · exact djj k t2 hk ek'
  · exact ⟨O, r, fun a m => m⟩
@[simp] def xsFrzW (i : Nat) (xs : XS) : XS := fun D => xs (FrzW i D)
theorem ss_frzW {i : Nat} {ts : TS} {xs : XS} (h : SimS K cl E ts xs) : SimS K cl E ts (xsFrzW i xs) := fun B H0 O σ D H s En q => by
  obtain ⟨O', r, sub⟩ := s.frzW i
  exact h B H0 O' σ _ H r En (PostS.fw (hid_sub sub) q)
@[simp] def xrFrzW (i : Nat) (xr : XR) : XR := fun D => xr (FrzW i D)
theorem sr_frzW {i : Nat} {ts : TS} {xr : XR} (h : SimR K cl E ts xr) : SimR K cl E ts (xrFrzW i xr) := fun B H0 O σ D H s En q => by
  obtain ⟨O', r, sub⟩ := s.frzW i
  exact h B H0 O' σ _ H r En (PostR.fw (hid_sub sub) q)
end
end Mx
namespace Mx
open PySem PySem.Spec PyProof.Rows L2
abbrev XW := Ds → R Ow
section
variable (K : Fr) (cl : Cl)
/-- a new tree -/
def PostW (E : XK) (O : List Addr) (H : Hp) (Q : VK) : R Ow → Prop
  | .bad => False
  | .ex c fs => ExOk K cl E O c fs H
  | .ok t => ∀ v F H', Same H H' → F.Nodup → (∀ a, a ∈ F → H a = none) → Tr K cl H' (hid (F ++ O) H') v t F → Q v H'
def SimW (E : L2.St → XK) (te : TE) (xw : XW) : Prop := ∀ B H0 O σ D H, RS K cl B H0 O σ D H → ∀ Q : VK, PostW K cl (E σ) O H Q (xw D) → te σ H Q
end
section
variable {K : Fr} {cl : Cl} {E : L2.St → XK} {E0 : XK} {H H' H1 H0 Hh : Hp} {O O' : List Addr} {σ : L2.St} {D : Ds} {B : List Addr}
@[simp] def xwL (xl : XA) : XW := fun D => (xl D).bind fun l => .ok (.ol (l.map Ow.sh))
theorem sw_L {te : TE} {xl : XA} (h : SimL K cl E te xl) : SimW K cl E te (xwL xl) := fun B H0 O σ D H s Q q => by
  unfold xwL at q
  refine h B H0 O σ D H s _ ?_
  cases e : xl D with
  | bad => rw [e] at q; exact q.elim
  | ex c fs => rw [e] at q; exact q
  | ok l =>
    rw [e] at q
    simp only [R.bind] at q
    intro p vs H' e1 np hp r
    exact q (.ref p) [p] H' e1 (by simp) (fun a m => by rw [List.mem_singleton.mp m]; exact np) (.ol hp (TrL.ofRep r))
@[simp] def xsAsgW (i : Nat) (xw : XW) : XS := fun D => (xw D).out D fun t => .nx (D.set i (.ow t))
theorem ss_asgW {i : Nat} {te : TE} {xw : XW} (h : SimW K cl E te xw) : SimS K cl E (tAsg te (gName i)) (xsAsgW i xw) := fun B H0 O σ D H s En q => by
  unfold xsAsgW at q
  refine h B H0 O σ D H s _ ?_
  cases e : xw D with
  | bad => rw [e] at q; exact q.elim
  | ex c fs =>
    rw [e] at q
    exact q O σ H s (Same.refl _)
  | ok t =>
    rw [e] at q
    simp only [out_ok] at q
    intro v F H' e1 nd n tr
    exact q _ _ _ (s.setTree i e1 nd n tr) (hid_newF e1 n)
theorem hid_mem {O O' : List Addr} (h : ∀ a, a ∈ O ↔ a ∈ O') : hid O H = hid O' H := by
  funext a
  unfold hid
  by_cases c : a ∈ O
  · rw [if_pos c, if_pos ((h a).mp c)]
  · rw [if_neg c, if_neg fun z => c ((h a).mpr z)]
def xCompW (xg : XG) (xt : XT) (xw : XW) (D0 : Ds) : List Dt → List Ow → R (List Ow)
  | [], acc => .ok acc
  | d :: r, acc => match xg d D0 with
    | .ok D1 => match xt D1 with
      | .ok true => match xw D1 with
        | .ok y => if acc.length < 1000000 then xCompW xg xt xw D0 r (acc ++ [y]) else .bad
        | _ => .bad
      | .ok false => xCompW xg xt xw D0 r acc
      | _ => .bad
    | _ => .bad
@[simp] def xLcW (xi : XA) (xg : XG) (xt : XT) (xw : XW) (vs : List Nat) : XW := fun D => (xi D).bind fun l => (xCompW xg xt xw (wipeD D vs) l []).bind fun ts => .ok (.ol ts)
theorem compW_ex {xg : XG} {xt : XT} {xw : XW} {D0 : Ds} {c : Str} {fs : List (Str × Dt)} : ∀ (l : List Dt) (acc : List Ow), xCompW xg xt xw D0 l acc ≠ .ex c fs := by
  intro l
  induction l with
  | nil => intro acc h; cases h
  | cons d r ih =>
    intro acc h
    unfold xCompW at h
    split at h
    · split at h
      · split at h
        · split at h
          · exact ih _ h
          · cases h
        · cases h
      · exact ih _ h
      · cases h
    · cases h
theorem sw_lc {wi : TI} {g : TG} {tt : TT} {te : TE} {vs : List Nat} {xi : XA} {xg : XG} {xt : XT} {xw : XW} (hi : SimI K cl E wi xi) (hg : SimGW K cl vs g xg) (ht : SimT K cl (fun _ => E0) tt xt) (he : SimW K cl (fun _ => E0) te xw) :
    SimW K cl E (tLc wi g tt te vs) (xLcW xi xg xt xw vs) := fun B H0 O σ D H s Q q => by
  unfold xLcW at q
  refine hi B H0 O σ D H s _ ?_
  cases e : xi D with
  | bad => rw [e] at q; exact q.elim
  | ex c fs => rw [e] at q; exact q
  | ok l =>
    rw [e] at q
    simp only [Mx.R.bind] at q
    intro J H1 e1 go L nL
    cases ec : xCompW xg xt xw (wipeD D vs) l [] with
    | bad => rw [ec] at q; exact q.elim
    | ex c fs => exact absurd ec (compW_ex _ _)
    | ok res =>
      rw [ec] at q
      simp only at q
      have s1 := (s.mono e1).wipe vs
      have hu : hid [L] (upd H1 L (.lst [])) = hid [L] H1 := hid_upd (List.mem_singleton.mpr rfl)
      have hH1 : hid [L] H1 = H1 := by
        funext a
        unfold hid
        split
        · rename_i h; rw [List.mem_singleton.mp h, nL]
        · rfl
      let W : Nat → Hp → Prop := fun i H2 => ∃ (acc : List V) (ts : List Ow) (P G : List Addr), RS K cl B H0 (P ++ O) (L2.wipe σ vs) (wipeD D vs) (hid [L] H2) ∧ Same H1 H2 ∧ H2 L = some (.lst acc) ∧ (∀ a, a ∈ P ↔ a ∈ G) ∧ G.Nodup ∧ L ∉ G ∧ (∀ a, a ∈ G → H1 a = none) ∧
        TrL K cl H2 (hid (L :: (P ++ O)) H2) acc ts G ∧ xCompW xg xt xw (wipeD D vs) (l.drop i) ts = .ok res
      refine ⟨fun i m H2 => m = l.length - i ∧ i ≤ l.length ∧ W i H2,
        ⟨l.length, rfl, Nat.zero_le _, [], [], [], [], by rw [hu, hH1]; exact s1, same_upd nL, upd_same, fun a => Iff.rfl, .nil, List.not_mem_nil, fun a m => absurd m List.not_mem_nil, .nil, ec⟩, ?_⟩
      rintro i m H2 ⟨rfl, hle, acc, ts, P, G, s2, f2, hL, PG, ndG, LG, nG, tr, c2⟩
      have sO : RS K cl B H0 (L :: (P ++ O)) (L2.wipe σ vs) (wipeD D vs) H2 := s2.addF (F := [L]) (hid_same _ _) (fun a m => by rw [List.mem_singleton.mp m]; exact hid_self) (fun a m => by rw [List.mem_singleton.mp m, hL]; rfl)
      have fO : Same (hid O H1) (hid (L :: (P ++ O)) H2) := hid_newF (F := L :: P) f2 fun a m => by
        rcases List.mem_cons.mp m with rfl | m
        · exact nL
        · exact nG a ((PG a).mp m)
      have g' := go i (L :: (P ++ O)) H2 sO.same fO sO.trk
      by_cases hlt : i < l.length
      · have hd : l.drop i = l[i] :: l.drop (i + 1) := List.drop_eq_getElem_cons hlt
        rw [hd] at c2
        unfold xCompW at c2
        refine .inr ⟨(g'.1 _ (List.getElem?_eq_getElem hlt)).1, fun H3 => W (i + 1) H3, fun H3 w => ⟨_, by omega, rfl, hlt, w⟩, ?_⟩
        intro x H3 y
        obtain ⟨e3, rx⟩ := (g'.1 _ (List.getElem?_eq_getElem hlt)).2 x H3 y
        cases eg : xg l[i] (wipeD D vs) with
        | bad => rw [eg] at c2; cases c2
        | ex c fs => rw [eg] at c2; cases c2
        | ok D1 =>
          rw [eg] at c2
          simp only at c2
          refine hg B H0 _ _ _ H3 (sO.mono e3) x _ rx _ D1 eg fun σ3 s3 w3 => ⟨by rw [w3, wipe_idem], ?_⟩
          refine ht B H0 _ σ3 D1 H3 s3 _ ?_
          cases et : xt D1 with
          | bad => rw [et] at c2; cases c2
          | ex c fs => rw [et] at c2; cases c2
          | ok b =>
            rw [et] at c2
            intro H4 e4
            have e34 := e3.trans e4
            cases b with
            | false =>
              simp only at c2
              exact ⟨acc, ts, P, G, s2.mono (hid_mono e34), f2.trans e34, e34 _ _ hL, PG, ndG, LG, nG, tr.mono e34 (hid_mono e34), c2⟩
            | true =>
              simp only at c2
              rw [if_pos rfl]
              refine he B H0 _ σ3 D1 H4 (s3.mono e4) _ ?_
              cases ee : xw D1 with
              | bad => rw [ee] at c2; cases c2
              | ex c fs => rw [ee] at c2; cases c2
              | ok y =>
                rw [ee] at c2
                simp only at c2
                intro v F H5 e5 ndF nF trF
                split at c2
                · rename_i hz
                  have e345 := e34.trans e5
                  have hL4 : H4 L = some (.lst acc) := e34 _ _ hL
                  have LF : L ∉ F := fun z => by have := nF L z; rw [hL4] at this; cases this
                  have nF2 : ∀ a, a ∈ F → H2 a = none := fun a m => e34.free (nF a m)
                  have GF : ∀ a, a ∈ F → a ∉ G := fun a m z => by
                    have := tr.mutO a z
                    rw [nF2 a m] at this
                    exact mutO_none this
                  have hup : hid [L] (upd H5 L (.lst (acc ++ [v]))) = hid [L] H5 := hid_upd (List.mem_singleton.mpr rfl)
                  refine ⟨acc, e345 _ _ hL, sz_lt (by rw [tr.len]; exact hz), acc ++ [v], ts ++ [y], F ++ P, G ++ F, ?_, ?_, upd_same, fun a => ?_, ?_, fun z => (List.mem_append.mp z).elim LG LF, fun a m => ?_, ?_, c2⟩
                  · rw [hup, List.append_assoc]
                    refine s2.addF (hid_mono e345) (fun a m => ?_) fun a m => ?_
                    · unfold hid
                      split
                      · rfl
                      · exact nF2 a m
                    · have : a ≠ L := fun z => LF (z ▸ m)
                      rw [hid_nin (by simpa using this)]
                      exact trF.mutO a m
                  · intro a o ha
                    rw [upd_ne (ne_of_none ha nL)]
                    exact e345 _ _ (f2 _ _ ha)
                  · simp only [List.mem_append, PG a]
                    exact Or.comm
                  · rw [List.nodup_append]
                    exact ⟨ndG, ndF, fun a m b mb z => GF b mb (z ▸ m)⟩
                  · rcases List.mem_append.mp m with m | m
                    · exact nG a m
                    · exact f2.free (nF2 a m)
                  · have hh : hid (L :: (F ++ P ++ O)) (upd H5 L (.lst (acc ++ [v]))) = hid (L :: (F ++ P ++ O)) H5 := hid_upd List.mem_cons_self
                    have m1 : hid (L :: (F ++ P ++ O)) H5 = hid (F ++ L :: (P ++ O)) H5 := hid_mem fun a => by
                      simp only [List.mem_cons, List.mem_append]
                      constructor
                      · rintro (h | (h | h) | h)
                        · exact .inr (.inl h)
                        · exact .inl h
                        · exact .inr (.inr (.inl h))
                        · exact .inr (.inr (.inr h))
                      · rintro (h | h | h | h)
                        · exact .inr (.inl (.inl h))
                        · exact .inl h
                        · exact .inr (.inl (.inr h))
                        · exact .inr (.inr h)
                    rw [hh, m1]
                    have t1 : TrL K cl H5 (hid (F ++ L :: (P ++ O)) H5) acc ts G := tr.mono e345 (hid_newF e345 nF2)
                    have t2 : TrL K cl H5 (hid (F ++ L :: (P ++ O)) H5) [v] [y] F := by
                      have := TrL.cons trF (TrL.nil (K := K) (cl := cl) (H := H5) (Hh := hid (F ++ L :: (P ++ O)) H5))
                      rwa [List.append_nil] at this
                    exact (t1.app t2).agree fun a m => upd_ne fun z => (List.mem_append.mp m).elim (fun m => LG (z ▸ m)) (fun m => LF (z ▸ m))
                · cases c2
      · have hi' : i = l.length := by omega
        refine .inl ⟨g'.2 hi', ?_⟩
        rw [hi', List.drop_length] at c2
        simp only [xCompW, R.ok.injEq] at c2
        subst c2
        refine q (.ref L) (L :: G) H2 (e1.trans f2) (List.nodup_cons.mpr ⟨LG, ndG⟩) (fun a m => ?_) (.ol hL ?_)
        · rcases List.mem_cons.mp m with rfl | m
          · exact e1.free nL
          · exact e1.free (nG a m)
        · have : hid (L :: G ++ O) H2 = hid (L :: (P ++ O)) H2 := hid_mem fun a => by
            simp only [List.cons_append, List.mem_cons, List.mem_append, PG a]
          rw [this]
          exact tr
end
end Mx
namespace L2
open PySem PySem.Spec PyProof.Rows PySem.W
/-! ### a tuple's method; the tuple is known as it is made -/
section
variable {X : Cx}
/-- a tuple that has no dict of its own -/
def FtV (x : V) (H : Hp) : Prop := ∃ (p : Addr) (o : Obj) (xs : List V), x = .ref p ∧ H p = some (.frz o (.tup xs)) ∧ o.cls = .type "tuple" ∧ o.dict = none
def tBMF (r : V → List V → Hp → VK → Prop) (to : TE) (t : TA) : TE := fun σ H Q => to σ H fun x H1 => FtV x H1 ∧ t σ H1 fun xs H2 => r x xs H2 Q
variable {o e : Expr} {es : List Expr} {to : TE} {t : TA} {name : Str} {apos cpos : Pos} {id : String} {r : V → List V → Hp → VK → Prop}
theorem pe_bmF (pa : PlainAttrs "tuple") (slot : Slot "tuple" name id) (hty : typeOf (.builtin id) = pure (.type "method_descriptor")) (hm : MtR X id r) (ho : PE X o to) (ha : PA X (e :: es) t)
    (hbase : attributeBase o name X.env (eval o X.env) = eval o X.env := by rfl)
    (hfew : ((backTo cpos (starEach (e :: es) X.env)).all (fun x => !x.1) && (backToKw cpos (keywordEach [] X.env)).all (fun x => x.1.isSome)
      && decide ((e :: es).length + ([] : List Keyword).length + (if ([] : List Keyword).isEmpty then 0 else 1) < 30)) = true := by rfl)
    (hline : (apos.endLine == cpos.line) = true := by rfl) (hs : starEach (e :: es) X.env = (false, eval e X.env) :: starEach es X.env := by rfl) (hplain : (backTo cpos (starEach es X.env)).any (·.1) = false := by rfl) :
    PE X (.Call (.Attribute o name apos) (e :: es) [] cpos) (tBMF r to t) := by
  refine ⟨fun pins s σ H Q I h => ?_⟩
  refine wpAny_Call_method_late hbase hfew hline rfl (thn (ho.run pins s σ H _ I h) fun v s1 ⟨x, H1, I1, r1, ty, q1⟩ => ?_)
  obtain ⟨p, ob, xs, rfl, hp, hc, hd⟩ := ty
  cases r1
  have hob : s1.heap.get? p = some ob := (I1.hok p _ hp).1
  refine ⟨"tuple", id, pa, slot, hty, ⟨ob, hob, hc⟩, fun a ea => by cases ea; exact ⟨ob, hob, hd⟩, ?_⟩
  have hA := ha.run cpos pins s1 σ H1 _ I1 q1
  rw [hs] at hA ⊢
  refine Calls.callWith_builtin (by show (false || (backTo cpos (starEach es X.env)).any (·.1)) = false; rw [hplain] <;> rfl) (Calls.evalArgs_plain ?_)
  exact thn hA fun us s2 ⟨vs, H2, I2, r2, q2⟩ => hm pins s2 σ H2 (.ref p) vs (.ref p) us Q I2 rfl r2 q2
def rTupF : List V → Hp → VK → Prop := fun xs H Q => ∃ (a : Addr) (kvs : List (Key × V)), xs = [.ref a] ∧ Rd H a (.dK kvs) ∧ ∀ (p : Addr) (o : Obj), H p = none → o.cls = .type "tuple" → o.dict = none → Q (.ref p) (upd H p (.frz o (.tup (kvs.map fun kv => kV kv.1))))
/-- tuple(d): its keys, the tuple known as it is made -/
theorem cr_tupF (hcalm : X.calm = true) : CallR X (.type "tuple") rTupF := by
  intro pins s σ H xs us Q I r q
  obtain ⟨a, kvs, ex, hd, q⟩ := q
  subst ex
  obtain ⟨u, eu, rx⟩ := vals1 r
  subst eu
  cases rx
  obtain ⟨z, lo, vs, rel, dd⟩ := dk_rd I.hok hd
  obtain ⟨ep, hat⟩ := dd.dictAt
  have ek : (kvs.map fun kv => kV kv.1) = vs.map fun p => kV p.1 := by
    have e := congrArg (List.map kV) rel.keys
    rw [List.map_map, List.map_map] at e
    exact e
  refine DT.call_tuple_src (PySem.W.kdl_dict (knd := mixKind X.prog X.w) (kvs := vs) (ep := ep) lo) (I.ok.hd hcalm) hat (by rw [← rel.length]; exact z) fun h' tk acc hk hacc => ?_
  have hv : Vals (vs.map fun p => kV p.1) acc.toList := keys_at (by rw [Array.length_toList]; exact hacc.1) fun j v e => hacc.2 j v (by rw [← Array.getElem?_toList]; exact e)
  have I1 : Inv X pins σ H { s with heap := h', toks := tk } := I.kept hk
  have I2 : Inv X pins σ (upd H h'.objs.size (.frz { cls := .type "tuple", data := .seq acc } (.tup (kvs.map fun kv => kV kv.1)))) { s with heap := h'.push { cls := .type "tuple", data := .seq acc }, toks := tk } :=
    I1.laid (t' := tk) (fun b o e => Heap.get?_push_of_some _ e) (Nat.le_refl _) ⟨Heap.get?_push_size _ rfl, show ObjOk X.prog X.w _ _ _ (.tup (kvs.map fun kv => kV kv.1)) from ⟨by rw [List.length_map]; exact z, acc.toList, by rw [ek]; exact hv, by
      have e : acc = acc.toList.toArray := by simp
      rw [e]; exact IsTup.new _ _⟩⟩
  exact ⟨.ref h'.objs.size, _, I2, rfl, q _ _ (I1.hok.fresh (Nat.le_refl _)) rfl rfl⟩
end
end L2
namespace Mx
open PySem PySem.Spec PyProof.Rows L2
section
variable {K : Fr} {cl : Cl} {E : L2.St → XK} {E0 : XK} {H H' H1 H0 Hh : Hp} {O O' : List Addr} {σ : L2.St} {D : Ds} {B : List Addr}
/-! ### tuple(d) known as it is made; its index and length -/
def keyStrs : List (Key × Dt) → Option (List Str)
  | [] => some []
  | (.inr k, _) :: r => (keyStrs r).map (k :: ·)
  | _ => none
def dTupF : List Dt → R Dt
  | [.dk kvs] => (opt (keyStrs kvs)).bind fun l => .ok (.ftp l)
  | _ => .bad
theorem keyStrs_V : ∀ {kv : List (Key × V)} {kvs : List (Key × Dt)} {l : List Str}, kv.map (·.1) = kvs.map (·.1) → keyStrs kvs = some l → kv.map (fun p => kV p.1) = l.map V.str
  | [], [], l, _, e => by simp only [keyStrs, Option.some.injEq] at e; subst e; rfl
  | [], _ :: _, _, h, _ => by simp at h
  | _ :: _, [], _, h, _ => by simp at h
  | (k, v) :: kv, (k', d) :: kvs, l, h, e => by
    simp only [List.map_cons, List.cons.injEq] at h
    obtain ⟨rfl, h⟩ := h
    cases k with
    | inl i => simp [keyStrs] at e
    | inr s =>
      simp only [keyStrs, Option.map_eq_some_iff] at e
      obtain ⟨l', e', rfl⟩ := e
      rw [List.map_cons, List.map_cons, keyStrs_V h e']; rfl
theorem cs_tupF : CaS K cl (rTupF) dTupF := fun O H xs ds E ho r Q q => by
  unfold dTupF at q
  split at q
  · rename_i kvs
    cases r with
    | cons h r =>
      cases r
      obtain ⟨a, kv, rfl, ha, hk, rr⟩ := h
      cases e : keyStrs kvs with
      | none => rw [e] at q; exact q.elim
      | some l =>
        rw [e] at q
        simp only [opt_some, R.bind] at q
        refine ⟨a, kv, rfl, Rd.of ha, fun p o np hc hd => ?_⟩
        refine q _ _ (same_upd np) (.ftp (o := o) ?_ hc hd)
        rw [keyStrs_V hk e]
        have : p ∉ O := fun m => by
          have := ho p m
          rw [np] at this
          exact mutO_none this
        rw [hid_nin this, upd_same]
  · exact q.elim
def dIdxS (l : List Str) : List Dt → R Dt
  | [.str z] => (opt (l.idxOf? z)).bind fun j => .ok (.int (j : Nat))
  | _ => .bad
@[simp] theorem dIdxS_str (l : List Str) (z : Str) : dIdxS l [.str z] = (opt (l.idxOf? z)).bind fun j => .ok (.int (j : Nat)) := rfl
@[simp] def xIdxF (xo : XE) (xa : XA) : XE := fun D => (xo D).bind fun o => match o with
  | .ftp l => (xa D).bind (dIdxS l)
  | _ => .bad
abbrev rIdxF (K : Fr) : V → List V → Hp → VK → Prop := fun x xs H Q => ∃ p, ∃ ys : List Str, ∃ z j, x = .ref p ∧ xs = [.str z] ∧ SqT K H p (ys.map V.str) ∧ ys[j]? = some z ∧ (∀ m, m < j → ys[m]? ≠ some z) ∧ Q (.int (j : Nat)) H
theorem idxOf_spec {l : List Str} {z : Str} {j : Nat} (h : l.idxOf? z = some j) : l[j]? = some z ∧ ∀ m, m < j → l[m]? ≠ some z := by
  rw [List.idxOf?_eq_some_iff] at h
  obtain ⟨hj, e, hn⟩ := h
  refine ⟨by rw [List.getElem?_eq_getElem hj, e], fun m hm z' => ?_⟩
  have hml : m < l.length := by omega
  rw [List.getElem?_eq_getElem hml] at z'
  exact hn m hm (Option.some.inj z')
theorem sim_idxF {to : TE} {t : TA} {xo : XE} {xa : XA} (ho : Sim K cl E to xo) (ha : SimA K cl E t xa) : Sim K cl E (tBMF (rIdxF K) to t) (xIdxF xo xa) := fun B H0 O σ D H s Q q => by
  unfold xIdxF at q
  refine ho B H0 O σ D H s _ ?_
  cases e : xo D with
  | bad => rw [e] at q; exact q.elim
  | ex c fs => rw [e] at q; exact q
  | ok o =>
    rw [e] at q
    simp only [R.bind] at q
    intro v H1 e1 r
    split at q
    · rename_i l
      cases r with
      | ftp h hc hd =>
        rename_i a ob
        have h' := hid_same _ _ _ _ h
        refine ⟨⟨_, ob, _, rfl, h', hc, hd⟩, ?_⟩
        refine ha B H0 O σ D H1 (s.mono e1) _ ?_
        cases ea : xa D with
        | bad => rw [ea] at q; exact q.elim
        | ex c fs => rw [ea] at q; exact ExOk.mono e1 q
        | ok ds =>
          rw [ea] at q
          simp only at q
          intro vs H2 e2 rv
          unfold dIdxS at q
          split at q
          · rename_i z
            cases rv with
            | cons h1 r1 =>
              cases r1
              cases h1
              cases ei : l.idxOf? z with
              | none => rw [ei] at q; exact q.elim
              | some j =>
                rw [ei] at q
                obtain ⟨a1, a2⟩ := idxOf_spec ei
                exact ⟨_, l, z, j, rfl, rfl, .inl (.inr ⟨_, e2 _ _ h'⟩), a1, a2, q _ H2 (e1.trans e2) (.int _)⟩
          · exact q.elim
    · exact q.elim
def dLenF : Dt → R Dt
  | .ftp l => .ok (.int (l.length : Nat))
  | _ => .bad
@[simp] theorem dLenF_ftp (l : List Str) : dLenF (.ftp l) = .ok (.int (l.length : Nat)) := rfl
theorem sim_lenF {te : TE} {xe : XE} (h : Sim K cl E te xe) : Sim K cl E (tCB (rLen K) (tCons te tNil)) (x1 dLenF xe) := fun B H0 O σ D H s Q q => by
  unfold x1 at q
  refine h B H0 O σ D H s _ ?_
  cases e : xe D with
  | bad => rw [e] at q; exact q.elim
  | ex c fs => rw [e] at q; exact q
  | ok d =>
    rw [e] at q
    simp only [R.bind] at q
    intro v H1 e1 r
    cases d with
    | ftp l =>
      cases r with
      | ftp h hc hd =>
        have h' := hid_same _ _ _ _ h
        refine ⟨_, _, rfl, .inr ⟨_, .inl (.inr ⟨_, h'⟩), rfl⟩, ?_⟩
        rw [List.length_map]
        exact q _ H1 e1 (.int _)
    | _ => exact q.elim
/-! ### list.index of texts -/
def dIdxL : Dt → List Dt → R Dt
  | .lst l, [.str z] => (opt (dstrs l)).bind fun ys => (opt (ys.idxOf? z)).bind fun j => .ok (.int (j : Nat))
  | .frl l, [.str z] => (opt (dstrs l)).bind fun ys => (opt (ys.idxOf? z)).bind fun j => .ok (.int (j : Nat))
  | _, _ => .bad
@[simp] def Dt.isLst : Dt → Bool
  | .lst _ => true
  | .frl _ => true
  | _ => false
theorem ty_list : TyS K cl "list" Dt.isLst := fun O H x a h g => by
  cases a with
  | lst l => obtain ⟨p, vs, rfl, h1, _⟩ := h; exact .inl ⟨rfl, _, SqL.of h1⟩
  | frl l => obtain ⟨p, vs, rfl, h1, _⟩ := h; exact .inl ⟨rfl, _, h1⟩
  | _ => cases g
theorem ms_idxL : ∀ O H x xs a ds E, Trk O H → RepB K cl O H x a → RepBL K cl O H xs ds → ∀ Q : VK, PostE K cl E O H Q (dIdxL a ds) → rIndex K x xs H Q := fun O H x xs a ds E ho rx r Q q => by
  have go : ∀ (l : List Dt) (p : Addr) (vs : List V) (z : Str) (v : V), SqL K H p vs → RepL K cl (hid O H) vs l → v = .str z → PostE K cl E O H Q ((opt (dstrs l)).bind fun ys => (opt (ys.idxOf? z)).bind fun j => R.ok (Dt.int (j : Nat))) → rIndex K (.ref p) [v] H Q := fun l p vs z v hs rr hv q => by
    subst hv
    cases e : dstrs l with
    | none => rw [e] at q; exact q.elim
    | some ys =>
      rw [e] at q
      simp only [opt_some, R.bind] at q
      have ev := dstrs_rep rr e
      subst ev
      cases ei : ys.idxOf? z with
      | none => rw [ei] at q; exact q.elim
      | some j =>
        rw [ei] at q
        simp only [opt_some, R.bind] at q
        obtain ⟨a1, a2⟩ := idxOf_spec ei
        refine ⟨p, ys.map V.str, .str z, j, .str z, rfl, rfl, hs, rfl, flat_strs ys, by rw [List.getElem?_map, a1]; rfl, by simp [eqV], fun m z' hm hz => ?_, ok_ret q (.int _)⟩
        rw [List.getElem?_map] at hz
        obtain ⟨y, hy, rfl⟩ := Option.map_eq_some_iff.mp hz
        have : y ≠ z := fun c => a2 m hm (c ▸ hy)
        simpa [eqV] using this
  unfold dIdxL at q
  split at q
  · obtain ⟨p, vs, rfl, h1, rr⟩ := rx
    cases r with
    | cons h r => cases r; exact go _ p vs _ _ (SqL.of h1) rr h.str_ q
  · obtain ⟨p, vs, rfl, h1, rr⟩ := rx
    cases r with
    | cons h r => cases r; exact go _ p vs _ _ h1 rr h.str_ q
  · exact q.elim
/-! ### list times a number -/
def dRepL : Dt → Dt → R (List Dt)
  | .lst l, .int k => if l.length ≤ 1000 ∧ -1000000 ≤ k ∧ k ≤ 10000 then .ok (List.replicate k.toNat l).flatten else .bad
  | _, _ => .bad
@[simp] theorem dRepL_ok (l : List Dt) (k : Int) : dRepL (.lst l) (.int k) = if l.length ≤ 1000 ∧ -1000000 ≤ k ∧ k ≤ 10000 then .ok (List.replicate k.toNat l).flatten else .bad := rfl
theorem RepL.flat {vs : List V} {ds : List Dt} (h : RepL K cl H vs ds) : ∀ n : Nat, RepL K cl H (List.replicate n vs).flatten (List.replicate n ds).flatten
  | 0 => .nil
  | n + 1 => by
    rw [List.replicate_succ, List.replicate_succ, List.flatten_cons, List.flatten_cons]
    exact h.app (h.flat n)
theorem ol_repL : OpL K cl rRep dRepL := fun O H x y a b E ho rx ry Q q => by
  unfold dRepL at q
  split at q
  · split at q
    · rename_i l k hl
      obtain ⟨p, vs, rfl, h1, r1⟩ := rx
      cases ry.int_
      have hz : vs.length * k.toNat ≤ sizeLine := by
        rw [r1.len, sizeLine_eq]
        have : l.length * k.toNat ≤ 1000 * 10000 := Nat.mul_le_mul hl.1 (by omega)
        omega
      refine ⟨p, k, vs, rfl, rfl, h1, by omega, by omega, hz, fun c n => ?_⟩
      exact q c _ _ (same_upd n) n upd_same ((r1.flat _).mono (hid_new (same_upd n) n))
    · exact q.elim
  · exact q.elim
end
end Mx
namespace Mx
open PySem PySem.Spec PyProof.Rows L2
section
variable {K : Fr} {cl : Cl} {E : L2.St → XK} {E0 : XK} {H H' H1 H0 Hh : Hp} {O O' : List Addr} {σ : L2.St} {D : Ds} {B : List Addr}
/-! ### a list in a list is changed -/
def owCh : Ow → Dt → R (List Ow)
  | .ol l, .int k => match atI l k with
    | some (.ol l') => .ok l'
    | _ => .bad
  | _, _ => .bad
def owGet (l : List Ow) : Dt → R Dt
  | .int j => match atI l j with
    | some (.sh d) => .ok d
    | _ => .bad
  | _ => .bad
def owPut (d : Dt) : Ow → Dt → Dt → R Ow
  | .ol l, .int k, .int j => (opt (ixN l.length k)).bind fun n => match l[n]? with
    | some (.ol l') => (opt (ixN l'.length j)).bind fun m => .ok (.ol (l.set n (.ol (l'.set m (.sh d)))))
    | _ => .bad
  | _, _, _ => .bad
theorem Tr.foc {v : V} {l l' : List Ow} {F : List Addr} {n : Nat} (tr : Tr K cl H Hh v (.ol l) F) (nd : F.Nodup) (hn : l[n]? = some (.ol l')) :
    ∃ (a : Addr) (vs : List V) (b : Addr) (ws : List V), v = .ref a ∧ H a = some (.lst vs) ∧ vs.length = l.length ∧ vs[n]? = some (.ref b) ∧ H b = some (.lst ws) ∧ ws.length = l'.length ∧ b ∈ F ∧
      (∀ (m : Nat) (d : Dt), l'[m]? = some (.sh d) → ∃ w, ws[m]? = some w ∧ Rep K cl Hh w d) ∧
      (∀ (H2 Hh2 : Hp) (m : Nat) (d : Dt) (w' : V) (d' : Dt), Same H H2 → Same Hh Hh2 → l'[m]? = some (.sh d) → Rep K cl Hh2 w' d' → Tr K cl (L2.upd H2 b (.lst (ws.set m w'))) Hh2 v (.ol (l.set n (.ol (l'.set m (.sh d'))))) F) := by
  cases tr with
  | ol h r =>
    rename_i a vs F'
    obtain ⟨w, F1, G, F2, ew, rfl, tw, f⟩ := r.hole hn
    cases tw with
    | ol hb rb =>
      rename_i b ws G'
      refine ⟨a, vs, b, ws, rfl, h, r.len, ew, hb, rb.len, by simp, fun m d hm => ?_, fun H2 Hh2 m d w' d' e e2 hm rd => ?_⟩
      · obtain ⟨w, _, Gm, _, e1, _, e3, _⟩ := rb.hole hm
        cases e3 with
        | sh r => exact ⟨w, e1, r⟩
      · obtain ⟨w, G1, Gm, G2, e1, eg, e3, g⟩ := rb.hole hm
        cases e3 with
        | sh _ =>
          have mu : ∀ x, x ∈ a :: (F1 ++ (b :: G') ++ F2) → MutO (H x) = true := (Tr.ol (K := K) (cl := cl) h r).mutO
          have kp : ∀ x, x ∈ a :: (F1 ++ (b :: G') ++ F2) → x ≠ b → L2.upd H2 b (.lst (ws.set m w')) x = H x := fun x m nb => by
            rw [upd_ne nb]
            obtain ⟨o, ho⟩ := mutO_some (mu x m)
            rw [ho]; exact e _ _ ho
          have nd' : (a :: (F1 ++ (b :: G') ++ F2)).Nodup := nd
          have nab : a ≠ b := fun z => (List.nodup_cons.mp nd').1 (by rw [z]; simp)
          have nd2 := (List.nodup_cons.mp nd').2
          rw [List.append_assoc, List.nodup_append] at nd2
          obtain ⟨_, nd3, dj⟩ := nd2
          rw [List.cons_append, List.nodup_cons] at nd3
          obtain ⟨bn, nd4⟩ := nd3
          have n1 : ∀ x, x ∈ F1 → x ≠ b := fun x m => dj x m b (by simp)
          have n2 : ∀ x, x ∈ F2 → x ≠ b := fun x m z => bn (by rw [← z]; simp [m])
          have n3 : ∀ x, x ∈ G' → x ≠ b := fun x m z => bn (by rw [← z]; simp [m])
          refine .ol ((kp a List.mem_cons_self nab).trans h) ?_
          have inner := g (L2.upd H2 b (.lst (ws.set m w'))) Hh2 (.sh d') w' [] e2 (fun x mx => by
            have mg : x ∈ G' := by rw [eg]; rcases mx with mx | mx <;> simp [mx]
            exact kp x (by simp [mg]) (n3 x mg)) (.sh rd)
          rw [← eg] at inner
          have outer := f (L2.upd H2 b (.lst (ws.set m w'))) Hh2 (.ol (l'.set m (.sh d'))) (.ref b) (b :: G') e2 (fun x mx => by
            rcases mx with mx | mx
            · exact kp x (by simp [mx]) (n1 x mx)
            · exact kp x (by simp [mx]) (n2 x mx)) (.ol upd_same inner)
          have sv : vs.set n (.ref b) = vs := by
            obtain ⟨hl, e⟩ := List.getElem?_eq_some_iff.mp ew
            rw [← e]; exact List.set_getElem_self hl
          rw [sv] at outer
          exact outer
@[simp] def xsAug2 (i : Nat) (xk xj : XE) (g : Int → Int → Int) (xe : XE) : XS := fun D => match D[i]? with
  | some (.ow t) => (xk D).out D fun k => (owCh t k).out D fun l' => (xj D).out D fun j => (owGet l' j).out D fun old => (xe D).out D fun d => match old, d with
    | .int a, .int b => (owPut (.int (g a b)) t k j).out D fun t' => .nx (D.set i (.ow t'))
    | _, _ => .bad
  | _ => .bad
theorem owCh_ok {t : Ow} {k : Dt} {l' : List Ow} (h : owCh t k = .ok l') : ∃ l kk n, t = .ol l ∧ k = .int kk ∧ ixN l.length kk = some n ∧ l[n]? = some (.ol l') := by
  unfold owCh at h
  split at h
  · rename_i l kk
    split at h
    · rename_i l2 e
      cases h
      unfold atI at e
      obtain ⟨n, e1, e2⟩ := Option.bind_eq_some_iff.mp e
      exact ⟨l, kk, n, rfl, rfl, e1, e2⟩
    · cases h
  · cases h
theorem owGet_ok {l : List Ow} {j d : Dt} (h : owGet l j = .ok d) : ∃ jj m, j = .int jj ∧ ixN l.length jj = some m ∧ l[m]? = some (.sh d) := by
  unfold owGet at h
  split at h
  · rename_i jj
    split at h
    · rename_i d2 e
      cases h
      unfold atI at e
      obtain ⟨n, e1, e2⟩ := Option.bind_eq_some_iff.mp e
      exact ⟨jj, n, rfl, e1, e2⟩
    · cases h
  · cases h
theorem owCh_nex {t : Ow} {k : Dt} {c : Str} {fs : List (Str × Dt)} : owCh t k ≠ .ex c fs := fun h => by
  unfold owCh at h
  split at h
  · split at h <;> cases h
  · cases h
theorem owGet_nex {l : List Ow} {k : Dt} {c : Str} {fs : List (Str × Dt)} : owGet l k ≠ .ex c fs := fun h => by
  unfold owGet at h
  split at h
  · split at h <;> cases h
  · cases h
theorem owPut_of {l l' : List Ow} {kk jj : Int} {n m : Nat} {d : Dt} (h1 : ixN l.length kk = some n) (h2 : l[n]? = some (.ol l')) (h3 : ixN l'.length jj = some m) : owPut d (.ol l) (.int kk) (.int jj) = .ok (.ol (l.set n (.ol (l'.set m (.sh d))))) := by
  show ((opt (ixN l.length kk)).bind _) = _
  rw [h1]
  simp only [opt_some, bind_ok, h2, h3]
theorem ss_aug2 {i : Nat} {tk tj te : TE} {xk xj xe : XE} {g : Int → Int → Int} (hk : Sim K cl E tk xk) (hj : Sim K cl E tj xj) (he : Sim K cl E te xe) :
    SimS K cl E (tAugS (tOp (rIx K) (tVar i) tk) tj te (rIxL K) (ipI g) rSetL) (xsAug2 i xk xj g xe) := fun B H0 O σ D H s En q => by
  unfold xsAug2 at q
  cases ei : D[i]? with
  | none => rw [ei] at q; exact q.elim
  | some sl =>
    rw [ei] at q
    cases sl with
    | ow t =>
      simp only at q
      obtain ⟨Fs, inn⟩ := s.inn
      obtain ⟨⟨v, hv, tr⟩, nd, fo, own, dj⟩ := inn i t ei
      refine ⟨v, hv, hk B H0 O σ D H s _ ?_⟩
      cases ek : xk D with
      | bad => rw [ek] at q; exact q.elim
      | ex c fs => rw [ek] at q; exact q O σ H s (Same.refl _)
      | ok k =>
        rw [ek] at q
        simp only [out_ok] at q
        intro y H1 e1 rk
        cases ec : owCh t k with
        | bad => rw [ec] at q; exact q.elim
        | ex c fs => exact absurd ec owCh_nex
        | ok l' =>
          rw [ec] at q
          simp only [out_ok] at q
          obtain ⟨l, kk, n, rfl, rfl, hix, hl⟩ := owCh_ok ec
          obtain ⟨a, vs, b, ws, rfl, ha, hlen, hb, hbb, hwl, mb, rd, put⟩ := tr.foc nd hl
          cases rk
          refine .inl ⟨a, vs, kk, .ref b, rfl, rfl, SqL.of (e1 _ _ ha), by unfold atI; rw [hlen, hix]; exact hb, ?_⟩
          refine hj B H0 O σ D H1 (s.mono e1) _ ?_
          cases ej : xj D with
          | bad => rw [ej] at q; exact q.elim
          | ex c fs => rw [ej] at q; exact (q O σ H1 (s.mono e1) (hid_mono e1))
          | ok j =>
            rw [ej] at q
            simp only [out_ok] at q
            intro y2 H2 e2 rj
            cases eg : owGet l' j with
            | bad => rw [eg] at q; exact q.elim
            | ex c fs => exact absurd eg owGet_nex
            | ok old =>
              rw [eg] at q
              simp only [out_ok] at q
              obtain ⟨jj, m, rfl, hjx, hm⟩ := owGet_ok eg
              obtain ⟨w, hw, rw'⟩ := rd m old hm
              cases rj
              have e12 := e1.trans e2
              refine ⟨b, ws, jj, w, rfl, rfl, SqL.of (e12 _ _ hbb), by unfold atI; rw [hwl, hjx]; exact hw, ?_⟩
              refine he B H0 O σ D H2 (s.mono e12) _ ?_
              cases ee : xe D with
              | bad => rw [ee] at q; exact q.elim
              | ex c fs => rw [ee] at q; exact (q O σ H2 (s.mono e12) (hid_mono e12))
              | ok d =>
                rw [ee] at q
                simp only [out_ok] at q
                intro y3 H3 e3 rd3
                have e123 := e12.trans e3
                cases old with
                | int x =>
                  cases d with
                  | int z =>
                    simp only at q
                    cases rw'
                    cases rd3
                    rw [owPut_of hix hl hjx] at q
                    simp only [out_ok] at q
                    refine ⟨x, z, rfl, rfl, b, ws, jj, m, rfl, rfl, e123 _ _ hbb, by rw [hwl]; exact hjx, ?_⟩
                    have key := put H3 (hid O H3) m (.int x) (.int (g x z)) (.int (g x z)) e123 (hid_mono e123) hm (.int _)
                    refine q O σ _ ((s.mono e123).mutTree ei rfl fun v2 F2 hv2 tr2 nd2 => ?_) (by rw [hid_upd (fo b mb).1]; exact hid_mono e123)
                    rw [hv] at hv2
                    cases hv2
                    obtain ⟨a', vs', b', ws', ea', ha', _, hb', hbb', _, mb', _, put'⟩ := tr2.foc nd2 hl
                    cases ea'
                    have := e123 _ _ ha
                    rw [this] at ha'
                    cases ha'
                    rw [hb] at hb'
                    cases hb'
                    have := e123 _ _ hbb
                    rw [this] at hbb'
                    cases hbb'
                    exact ⟨mb', put' H3 (hid O H3) m (.int x) (.int (g x z)) (.int (g x z)) (Same.refl _) (Same.refl _) hm (.int _)⟩
                  | _ => exact q.elim
                | _ => exact q.elim
    | _ => exact q.elim
/-- a = x[k]; j = ..; a[j] = a[j] + .. -/
@[simp] def xsAl3 (i a jn : Nat) (xk xj xe : XE) : XS := fun D => match D[i]? with
  | some (.ow t) => if a < D.length ∧ jn < D.length then (xk D).out D fun k => (owCh t k).out D fun l' => (xj (D.set a .no)).out (D.set a .no) fun j => (owGet l' j).out D fun old => (xe ((D.set a .no).set jn (.sh j))).out ((D.set a .no).set jn (.sh j)) fun d => match old, d with
    | .int x, .int z => (owPut (.int (x + z)) t k j).out D fun t' => .nx (((D.set a .no).set jn (.sh j)).set i (.ow t'))
    | _, _ => .bad else .bad
  | _ => .bad
theorem ss_al3 {i a jn : Nat} {tk tj te : TE} {xk xj xe : XE} (h1 : a ≠ i) (h2 : jn ≠ i) (h3 : jn ≠ a) (hk : Sim K cl E tk xk) (hj : Sim K cl E tj xj) (he : Sim K cl E te xe) :
    SimS K cl E (tSeq (tAsg (tOp (rIx K) (tVar i) tk) (gName a)) (tSeq (tAsg tj (gName jn)) (tAsg (tOp rAdd (tOp (rIx K) (tVar a) (tVar jn)) te) (gSub (tVar a) (tVar jn) rSetL)))) (xsAl3 i a jn xk xj xe) := fun B H0 O σ D H s En q => by
  unfold xsAl3 at q
  cases ei : D[i]? with
  | none => rw [ei] at q; exact q.elim
  | some sl =>
    rw [ei] at q
    cases sl with
    | ow t =>
      simp only at q
      split at q
      case isFalse => exact q.elim
      rename_i hl2
      have hla : a < σ.length := by rw [s.len]; exact hl2.1
      have hlj : jn < σ.length := by rw [s.len]; exact hl2.2
      obtain ⟨Fs, inn⟩ := s.inn
      obtain ⟨⟨v, hv, tr⟩, nd, fo, own, dj⟩ := inn i t ei
      refine ⟨v, hv, hk B H0 O σ D H s _ ?_⟩
      cases ek : xk D with
      | bad => rw [ek] at q; exact q.elim
      | ex c fs => rw [ek] at q; exact q O σ H s (Same.refl _)
      | ok k =>
        rw [ek] at q
        simp only [out_ok] at q
        intro y H1 e1 rk
        cases ec : owCh t k with
        | bad => rw [ec] at q; exact q.elim
        | ex c fs => exact absurd ec owCh_nex
        | ok l' =>
          rw [ec] at q
          simp only [out_ok] at q
          obtain ⟨l, kk, n, rfl, rfl, hix, hl⟩ := owCh_ok ec
          obtain ⟨a0, vs, b, ws, rfl, ha, hlen, hb, hbb, hwl, mb, rd, put⟩ := tr.foc nd hl
          cases rk
          refine .inl ⟨a0, vs, kk, .ref b, rfl, rfl, SqL.of (e1 _ _ ha), by unfold atI; rw [hlen, hix]; exact hb, ?_⟩
          have s1 := (s.mono e1).setNo a (some (.ref b))
          refine hj B H0 O _ _ H1 s1 _ ?_
          cases ej : xj (D.set a .no) with
          | bad => rw [ej] at q; exact q.elim
          | ex c fs => rw [ej] at q; exact (q O _ H1 s1 (hid_mono e1))
          | ok j =>
            rw [ej] at q
            simp only [out_ok] at q
            intro y2 H2 e2 rj
            cases eg : owGet l' j with
            | bad => rw [eg] at q; exact q.elim
            | ex c fs => exact absurd eg owGet_nex
            | ok old =>
              rw [eg] at q
              simp only [out_ok] at q
              obtain ⟨jj, m, rfl, hjx, hm⟩ := owGet_ok eg
              obtain ⟨w, hw, rw'⟩ := rd m old hm
              have e12 := e1.trans e2
              have s2 := (s1.mono e2).setSh jn rj
              cases rj
              have sa : ((σ.set a (some (.ref b))).set jn (some (.int jj)))[a]? = some (some (.ref b)) := by
                rw [List.getElem?_set_ne h3, List.getElem?_set_self hla]
              have sj : ((σ.set a (some (.ref b))).set jn (some (.int jj)))[jn]? = some (some (.int jj)) := by
                rw [List.getElem?_set_self (by rw [List.length_set]; exact hlj)]
              refine ⟨_, sa, _, sj, .inl ⟨b, ws, jj, w, rfl, rfl, SqL.of (e12 _ _ hbb), by unfold atI; rw [hwl, hjx]; exact hw, ?_⟩⟩
              refine he B H0 O _ _ H2 s2 _ ?_
              cases ee : xe ((D.set a .no).set jn (.sh (.int jj))) with
              | bad => rw [ee] at q; exact q.elim
              | ex c fs => rw [ee] at q; exact (q O _ H2 s2 (hid_mono e12))
              | ok d =>
                rw [ee] at q
                simp only [out_ok] at q
                intro y3 H3 e3 rd3
                have e123 := e12.trans e3
                cases old with
                | int x =>
                  cases d with
                  | int z =>
                    simp only at q
                    cases rw'
                    cases rd3
                    rw [owPut_of hix hl hjx] at q
                    simp only [out_ok] at q
                    refine .inl ⟨x, z, rfl, rfl, ?_⟩
                    refine ⟨_, sa, _, sj, b, ws, jj, m, rfl, rfl, e123 _ _ hbb, by rw [hwl]; exact hjx, ?_⟩
                    have ei2 : ((D.set a .no).set jn (.sh (.int jj)))[i]? = some (.ow (.ol l)) := by
                      rw [List.getElem?_set_ne h2, List.getElem?_set_ne h1]; exact ei
                    refine q O _ _ ((s2.mono e3).mutTree ei2 rfl fun v2 F2 hv2 tr2 nd2 => ?_) (by rw [hid_upd (fo b mb).1]; exact hid_mono e123)
                    rw [List.getElem?_set_ne h2, List.getElem?_set_ne h1, hv] at hv2
                    cases hv2
                    obtain ⟨a', vs', b', ws', ea', ha', _, hb', hbb', _, mb', _, put'⟩ := tr2.foc nd2 hl
                    cases ea'
                    have := e123 _ _ ha
                    rw [this] at ha'
                    cases ha'
                    rw [hb] at hb'
                    cases hb'
                    have := e123 _ _ hbb
                    rw [this] at hbb'
                    cases hbb'
                    exact ⟨mb', put' H3 (hid O H3) m (.int x) (.int (x + z)) (.int (x + z)) (Same.refl _) (Same.refl _) hm (.int _)⟩
                  | _ => exact q.elim
                | _ => exact q.elim
    | _ => exact q.elim
end
end Mx
namespace ZN
open PySem PySem.Spec PyProof.Rows L2 PySem.W
/-! ### zip of a tuple, a list and a tuple -/
def ItzN (K : PySem.W.Frag) (a b c : Addr) : It :=
  ⟨fun i H => ∃ (xs ys zs : List V) (x y z : V), SqT K H a xs ∧ SqL K H b ys ∧ SqT K H c zs ∧ xs[i]? = some x ∧ ys[i]? = some y ∧ zs[i]? = some z,
    fun i H v H' => ∃ T x y z, v = .ref T ∧ H T = none ∧ H' = upd H T (.tup [x, y, z]) ∧ (∀ xs, SqT K H a xs → xs[i]? = some x) ∧ (∀ ys, SqL K H b ys → ys[i]? = some y) ∧ ∀ zs, SqT K H c zs → zs[i]? = some z,
    fun i H => ∃ xs ys zs : List V, SqT K H a xs ∧ SqL K H b ys ∧ SqT K H c zs ∧ i ≤ xs.length ∧ i ≤ ys.length ∧ i ≤ zs.length ∧ (i = xs.length ∨ i = ys.length ∨ i = zs.length)⟩
theorem turn_zipN {P : Program} {w : World} {K : PySem.W.Frag} {elts : List Expr} {kk : Nat} {tpos : Pos} {a b c z TI TO i1 i2 i3 : Addr} (D : ZipSep3 z TI TO i1 i2 i3 [i1, a] [i2, b] [i3, c]) (l1 : a ≠ i1) (l2 : b ≠ i2) (l3 : c ≠ i3) :
    Turn P w K (.Tuple elts kk tpos) (ItzN K a b c) [z, TI, TO, i1, i2, i3] z (fun i h => IsZip h z TI TO .none ∧ IsTupOf3 h TI (.ref i1) (.ref i2) (.ref i3) ∧ (∃ x y w, IsTupOf3 h TO x y w) ∧ h.IsTupleIter i1 a i ∧ h.IsListIter i2 b i ∧ h.IsTupleIter i3 c i) where
  mem := by simp
  obj := fun i h st c hc => by
    obtain ⟨hz, hTI, ⟨x, y, w, hTO⟩, ⟨o1, e1, _, d1⟩, ⟨o2, e2, _, d2⟩, ⟨o3, e3, _, d3⟩⟩ := st
    simp only [List.mem_cons, List.not_mem_nil, or_false] at hc
    rcases hc with rfl | rfl | rfl | rfl | rfl | rfl
    · exact ⟨_, hz, fun v q => nomatch q⟩
    · exact ⟨_, hTI, fun v q => nomatch q⟩
    · exact ⟨_, hTO, fun v q => nomatch q⟩
    · exact ⟨o1, e1, fun v q => by rw [d1] at q; cases q⟩
    · exact ⟨o2, e2, fun v q => by rw [d2] at q; cases q⟩
    · exact ⟨o3, e3, fun v q => by rw [d3] at q; cases q⟩
  keep := fun i h h' ⟨hz, hTI, ⟨x, y, w, hTO⟩, h1, h2, h3⟩ k =>
    ⟨k z (by simp) _ hz, k TI (by simp) _ hTI, ⟨x, y, w, k TO (by simp) _ hTO⟩, h1.at fun o q => k i1 (by simp) o q, h2.at fun o q => k i2 (by simp) o q, h3.at fun o q => k i3 (by simp) o q⟩
  item := by
    intro X hP hw hK hc i pins s σ H E I hf st hg
    subst hP hw hK
    obtain ⟨hz, hTI, ⟨x0, y0, w0, hTO⟩, h1, h2, h3⟩ := st
    obtain ⟨xs, ys, zs, x, y, w, hqx, hqy, hqz, hx, hy, hw⟩ := hg
    obtain ⟨its, rv, p, _⟩ := I.tuple hqx
    obtain ⟨its2, rv2, p2, _⟩ := I.list hqy
    obtain ⟨its3, rv3, p3, _⟩ := I.tuple hqz
    obtain ⟨u, hu, ru⟩ := rv.get hx
    obtain ⟨u2, hu2, ru2⟩ := rv2.get hy
    obtain ⟨u3, hu3, ru3⟩ := rv3.get hw
    have big : ∀ c, c ∈ [z, TI, TO, i1, i2, i3] → c < s.heap.objs.size := fun c hcm => by
      simp only [List.mem_cons, List.not_mem_nil, or_false] at hcm
      rcases hcm with rfl | rfl | rfl | rfl | rfl | rfl
      · exact Heap.lt_size hz
      · exact Heap.lt_size hTI
      · exact Heap.lt_size hTO
      · obtain ⟨_, e1, _⟩ := h1; exact Heap.lt_size e1
      · obtain ⟨_, e2, _⟩ := h2; exact Heap.lt_size e2
      · obtain ⟨_, e3, _⟩ := h3; exact Heap.lt_size e3
    have hzl : z < s.heap.objs.size := big z (by simp)
    have hh : X.A.handled = none := I.ok.hd hc
    have b1 : i < its.toArray.size := by
      have := (List.getElem?_eq_some_iff.mp hu).1
      simpa using this
    have b2 : i < its2.toArray.size := by
      have := (List.getElem?_eq_some_iff.mp hu2).1
      simpa using this
    have b3 : i < its3.toArray.size := by
      have := (List.getElem?_eq_some_iff.mp hu3).1
      simpa using this
    refine wpAny_pyNext_zipD3_item D (Draws.tuple (A := X.A.in1) hh i1 a l1 its.toArray) (Draws.list (A := X.A.in1) hh i2 b l2 its2.toArray) (Draws.tuple (A := X.A.in1) hh i3 c l3 its3.toArray) hz hTI hTO ⟨h1, p⟩ ⟨h2, p2.isList⟩ ⟨h3, p3⟩ b1 b2 b3
      fun y1 y2 y3 h' tk q1 q2 q3 z' TO' st1 st2 st3 hT hsz hk => ?_
    have e1 : y1 = u := by
      have q1 : its.toArray[i]? = some y1 := q1
      rw [List.getElem?_toArray, hu] at q1
      exact (Option.some.inj q1).symm
    have e2 : y2 = u2 := by
      have q2 : its2.toArray[i]? = some y2 := q2
      rw [List.getElem?_toArray, hu2] at q2
      exact (Option.some.inj q2).symm
    have e3 : y3 = u3 := by
      have q3 : its3.toArray[i]? = some y3 := q3
      rw [List.getElem?_toArray, hu3] at q3
      exact (Option.some.inj q3).symm
    subst e1 e2 e3
    refine ⟨_, rfl, wpAny_letOwnedTupleGo_zip (s := { s with heap := h', toks := tk }) z' fun h'' z'' sb => ?_⟩
    have hT2 : h''.get? s.heap.objs.size = some { cls := .type "tuple", data := .seq #[y1, y2, y3] } := (sb.2 _ (Nat.ne_of_gt hzl)).trans hT
    have new : ObjOk X.prog X.w (upd H s.heap.objs.size (.tup [x, y, w])) h'' s.heap.objs.size (.tup [x, y, w]) :=
      ⟨by show 3 ≤ sizeLine; decide, [y1, y2, y3], .cons ru (.cons ru2 (.cons ru3 .nil)), ⟨_, hT2, rfl, _, rfl⟩⟩
    have I1 : Inv X pins σ (upd H s.heap.objs.size (.tup [x, y, w])) { s with heap := h'', toks := tk } :=
      I.turnedNew (t' := tk) (ch := [z, TI, TO, i1, i2, i3]) (fun c o hb q => (sb.2 c (fun q' => hb (by simp [q']))).trans (hk c o (fun q' => hb (by simp [q'])) (fun q' => hb (by simp [q'])) (fun q' => hb (by simp [q'])) (fun q' => hb (by simp [q'])) (fun q' => hb (by simp [q'])) q)) hf (Nat.le_refl _) new
    refine ⟨.ref s.heap.objs.size, _, I1, rfl, ⟨_, x, y, w, rfl, I.hok.fresh (Nat.le_refl _), rfl, fun l hl => by rw [I.tuple_inj hl hqx]; exact hx, fun l hl => by rw [I.list_inj hl hqy]; exact hy, fun l hl => by rw [I.tuple_inj hl hqz]; exact hw⟩,
      ⟨z'', (sb.2 _ D.TIz).trans (hk _ _ D.TIz D.TITO D.TIi1 D.TIi2 D.TIi3 hTI), ⟨y1, y2, y3, (sb.2 _ D.TOz).trans TO'⟩, st1.1.at fun o q => (sb.2 _ D.zi1.symm).trans q, st2.1.at fun o q => (sb.2 _ D.zi2.symm).trans q, st3.1.at fun o q => (sb.2 _ D.zi3.symm).trans q⟩, fun c hcm => ?_⟩
    rw [upd_ne (Nat.ne_of_lt (big c hcm))]
    exact (hf c hcm).1
  done := by
    intro X hP hw hK hc i pins s σ H E I hf st hg
    subst hP hw hK
    obtain ⟨hz, hTI, ⟨x0, y0, w0, hTO⟩, h1, h2, h3⟩ := st
    obtain ⟨xs, ys, zs, hqx, hqy, hqz, le1, le2, le3, hend⟩ := hg
    obtain ⟨its, rv, p, _⟩ := I.tuple hqx
    obtain ⟨its2, rv2, p2, _⟩ := I.list hqy
    obtain ⟨its3, rv3, p3, _⟩ := I.tuple hqz
    have b1 : its.toArray.size = xs.length := by rw [List.size_toArray]; exact rv.length.symm
    have b2 : its2.toArray.size = ys.length := by rw [List.size_toArray]; exact rv2.length.symm
    have b3 : its3.toArray.size = zs.length := by rw [List.size_toArray]; exact rv3.length.symm
    have hh : X.A.handled = none := I.ok.hd hc
    exact wpAny_pyNext_zipD3_end D (Draws.tuple (A := X.A.in1) hh i1 a l1 its.toArray) (Draws.list (A := X.A.in1) hh i2 b l2 its2.toArray) (Draws.tuple (A := X.A.in1) hh i3 c l3 its3.toArray) hz hTI hTO ⟨h1, p⟩ ⟨h2, p2.isList⟩ ⟨h3, p3⟩ (by omega) (by omega) (by omega) (by omega)
      fun h' tk hk => ⟨rfl, I.turnedL (t' := tk) (ch := [z, TI, TO, i1, i2, i3]) (fun c o hb q =>
        hk c o (fun q' => hb (by simp [q'])) (fun q' => hb (by simp [q'])) (fun q' => hb (by simp [q'])) (fun q' => hb (by simp [q'])) (fun q' => hb (by simp [q'])) q) hf⟩
  self := fun A i s Q E st h => wpAny_pyIter_zip st.1 h
def iZipN (K : PySem.W.Frag) (ta : TA) : TI := fun σ H R => ta σ H fun vs H1 => ∃ a b c xs ys zs, vs = [.ref a, .ref b, .ref c] ∧ SqT K H1 a xs ∧ SqL K H1 b ys ∧ SqT K H1 c zs ∧ R (ItzN K a b c) H1
theorem pi_zipN {X : Cx} {e e2 e3 : Expr} {ta : TA} {p pos tpos : Pos} {elts : List Expr} {kk : Nat} (hg : Gl X "zip") (hm : X.mg "zip" = none) (ha : PA X [e, e2, e3] ta)
    (hs : starEach [e, e2, e3] X.env = (false, eval e X.env) :: starEach [e2, e3] X.env := by rfl) (hpl : (backTo pos (starEach [e2, e3] X.env)).any (·.1) = false := by rfl) :
    PI X (.Tuple elts kk tpos) (.Call (.Name "zip" p) [e, e2, e3] [] pos) (iZipN X.K ta) := by
  refine ⟨fun pins s σ H R I h => ?_⟩
  refine Call_ (ld_blt I hg hm PyProof.Rows.boot_zip (PyProof.Rows.callWith_type1 (thn (ha.run pos pins s σ H _ I h) fun us s1 ⟨vs, H1, I1, r1, a, b, c, xs, ys, zs, ex, hqx, hqy, hqz, q⟩ => ?_) hs hpl))
  subst ex
  obtain ⟨v1, w1, rfl, rx1, rr⟩ : ∃ v w, us = v :: w ∧ RelV (.ref a) v ∧ Vals [.ref b, .ref c] w := by cases r1 with | cons h t => exact ⟨_, _, rfl, h, t⟩
  obtain ⟨v2, w2, rfl, rx2, rr2⟩ : ∃ v w, w1 = v :: w ∧ RelV (.ref b) v ∧ Vals [.ref c] w := by cases rr with | cons h t => exact ⟨_, _, rfl, h, t⟩
  obtain ⟨v3, w3, rfl, rx3, rn⟩ : ∃ v w, w2 = v :: w ∧ RelV (.ref c) v ∧ Vals [] w := by cases rr2 with | cons h t => exact ⟨_, _, rfl, h, t⟩
  cases rn
  obtain rfl : v1 = .ref a := rx1
  obtain rfl : v2 = .ref b := rx2
  obtain rfl : v3 = .ref c := rx3
  obtain ⟨its, rv, p1, _⟩ := I1.tuple hqx
  obtain ⟨its2, rv2, p2, _⟩ := I1.list hqy
  obtain ⟨its3, rv3, p3, _⟩ := I1.tuple hqz
  have la : a < s1.heap.objs.size := by obtain ⟨_, ho, _⟩ := id p1; exact Heap.lt_size ho
  have lb : b < s1.heap.objs.size := p2.lt
  have lc : c < s1.heap.objs.size := by obtain ⟨_, ho, _⟩ := id p3; exact Heap.lt_size ho
  refine zip_begins3 (begins_tuple a its.toArray) (begins_list b its2.toArray) (begins_tuple c its3.toArray) p1 p2.isList p3 fun h' hz hTI hTO h1 h2 h3 hsz hk => wpAny_pyIter_zip hz ?_
  have I2 : Inv X pins σ H1 { s1 with heap := h' } := I1.kept (t' := s1.toks) hk
  have D := zip_sep3 (N := s1.heap.objs.size) (fp1 := [a]) (fp2 := [b]) (fp3 := [c]) (fun x m => by rw [List.mem_singleton.mp m]; exact la) (fun x m => by rw [List.mem_singleton.mp m]; exact lb) (fun x m => by rw [List.mem_singleton.mp m]; exact lc)
  have la' : (a : Nat) < s1.heap.objs.size := la
  have lb' : (b : Nat) < s1.heap.objs.size := lb
  have lc' : (c : Nat) < s1.heap.objs.size := lc
  refine ⟨s1.heap.objs.size + 5, [s1.heap.objs.size + 5, s1.heap.objs.size + 3, s1.heap.objs.size + 4, s1.heap.objs.size, s1.heap.objs.size + 1, s1.heap.objs.size + 2], _, _, H1, rfl, I2, turn_zipN D (Nat.ne_of_lt la') (Nat.ne_of_lt (Nat.lt_succ_of_lt lb')) (Nat.ne_of_lt (Nat.lt_succ_of_lt (Nat.lt_succ_of_lt lc'))), ⟨hz, hTI, ⟨_, _, _, hTO⟩, ⟨_, h1, rfl, rfl⟩, ⟨_, h2, rfl, rfl⟩, ⟨_, h3, rfl, rfl⟩⟩, fun c hcm => ?_, q⟩
  have hle : s1.heap.objs.size ≤ c := by
    simp only [List.mem_cons, List.not_mem_nil, or_false] at hcm
    rcases hcm with rfl | rfl | rfl | rfl | rfl | rfl
    · exact Nat.le_add_right _ _
    · exact Nat.le_add_right _ _
    · exact Nat.le_add_right _ _
    · exact Nat.le_refl _
    · exact Nat.le_add_right _ _
    · exact Nat.le_add_right _ _
  exact I1.fpOk hle (I1.hok.fresh hle)
end ZN
namespace Mx
open PySem PySem.Spec PyProof.Rows L2
section
variable {K : Fr} {cl : Cl} {E : L2.St → XK} {H H' H1 H0 : Hp} {O O' : List Addr} {σ : L2.St} {D : Ds} {B : List Addr}
def zip3D : List Dt → List Dt → List Dt → List Dt
  | x :: xs, y :: ys, z :: zs => .tup [x, y, z] :: zip3D xs ys zs
  | _, _, _ => []
@[simp] theorem zip3D_cons (x y z : Dt) (xs ys zs : List Dt) : zip3D (x :: xs) (y :: ys) (z :: zs) = .tup [x, y, z] :: zip3D xs ys zs := rfl
@[simp] theorem zip3D_nil (ys zs : List Dt) : zip3D [] ys zs = [] := rfl
theorem zip3D_get : ∀ {xs ys zs : List Dt} {i : Nat} {d : Dt}, (zip3D xs ys zs)[i]? = some d → ∃ x y z, xs[i]? = some x ∧ ys[i]? = some y ∧ zs[i]? = some z ∧ d = .tup [x, y, z]
  | [], _, _, _, _, h => by simp [zip3D] at h
  | _ :: _, [], _, _, _, h => by simp [zip3D] at h
  | _ :: _, _ :: _, [], _, _, h => by simp [zip3D] at h
  | x :: xs, y :: ys, z :: zs, 0, d, h => by
    simp [zip3D] at h
    exact ⟨x, y, z, rfl, rfl, rfl, h.symm⟩
  | x :: xs, y :: ys, z :: zs, i + 1, d, h => by
    obtain ⟨a, b, c, h1, h2, h3, h4⟩ := zip3D_get (xs := xs) (ys := ys) (zs := zs) (i := i) (by simpa [zip3D] using h)
    exact ⟨a, b, c, by simpa using h1, by simpa using h2, by simpa using h3, h4⟩
theorem zip3D_len : ∀ (xs ys zs : List Dt), (zip3D xs ys zs).length = min xs.length (min ys.length zs.length)
  | [], _, _ => by simp [zip3D]
  | _ :: _, [], _ => by simp [zip3D]
  | _ :: _, _ :: _, [] => by simp [zip3D]
  | x :: xs, y :: ys, z :: zs => by
    rw [zip3D_cons, List.length_cons, zip3D_len]
    simp only [List.length_cons]
    omega
theorem goes_zipN {a b c : Addr} {vs ws us : List V} {ds es fs : List Dt} (h : (hid O H) a = some (.tup vs)) (h2 : SqL K (hid O H) b ws) (h3 : (hid O H) c = some (.tup us)) (r : RepL K cl (hid O H) vs ds) (r2 : RepL K cl (hid O H) ws es) (r3 : RepL K cl (hid O H) us fs) :
    Goes K cl (ZN.ItzN K a b c) (zip3D ds es fs) O H H0 := fun i O' H' hi0 e t => by
  have h' : SqT K H' a vs := SqT.of ((hid_same O' H') _ _ (e _ _ h))
  have h2' : SqL K H' b ws := (hid_same O' H').seq (e.seq h2)
  have h3' : SqT K H' c us := SqT.of ((hid_same O' H') _ _ (e _ _ h3))
  refine ⟨fun d hd => ?_, fun hi => ⟨vs, ws, us, h', h2', h3', ?_⟩⟩
  · obtain ⟨x, y, z, hx, hy, hz, rfl⟩ := zip3D_get hd
    obtain ⟨v, hv, rv⟩ := r.get hx
    obtain ⟨w, hw, rw_⟩ := r2.get hy
    obtain ⟨u, hu, ru⟩ := r3.get hz
    refine ⟨⟨vs, ws, us, v, w, u, h', h2', h3', hv, hw, hu⟩, fun zz H2 q => ?_⟩
    obtain ⟨T, x', y', z', rfl, hT, rfl, f1, f2, f3⟩ := q
    have a1 := f1 vs h'
    have a2 := f2 ws h2'
    have a3 := f3 us h3'
    rw [hv] at a1; rw [hw] at a2; rw [hu] at a3
    cases a1; cases a2; cases a3
    have nT : T ∉ O' := fun m => by have := t T m; rw [hT] at this; exact mutO_none this
    exact ⟨same_upd hT, .tup (hid_at nT) (.cons ((rv.mono e).mono (hid_mono (same_upd hT))) (.cons ((rw_.mono e).mono (hid_mono (same_upd hT))) (.cons ((ru.mono e).mono (hid_mono (same_upd hT))) .nil)))⟩
  · rw [zip3D_len] at hi
    have := r.len
    have := r2.len
    have := r3.len
    omega
def tlt3 : List Dt → R (List Dt × List Dt × List Dt)
  | [.tup a, .lst b, .tup c] => .ok (a, b, c)
  | _ => .bad
@[simp] theorem tlt3_ok (a b c : List Dt) : tlt3 [.tup a, .lst b, .tup c] = .ok (a, b, c) := rfl
theorem tlt3_inv {l a b c : List Dt} (h : tlt3 l = .ok (a, b, c)) : l = [.tup a, .lst b, .tup c] := by
  unfold tlt3 at h
  split at h
  · cases h; rfl
  · cases h
theorem tlt3_nex {l : List Dt} {c : Str} {fs : List (Str × Dt)} : tlt3 l ≠ .ex c fs := fun h => by
  unfold tlt3 at h
  split at h <;> cases h
@[simp] def xZipN (xa : XA) : XA := fun D => (xa D).bind fun l => (tlt3 l).bind fun p => .ok (zip3D p.1 p.2.1 p.2.2)
theorem si_zipN {ta : TA} {xa : XA} (h : SimA K cl E ta xa) : SimI K cl E (ZN.iZipN K ta) (xZipN xa) := fun B H0 O σ D H s Rk q => by
  unfold xZipN at q
  refine h B H0 O σ D H s _ ?_
  cases e : xa D with
  | bad => rw [e] at q; exact q.elim
  | ex c fs => rw [e] at q; exact q
  | ok l =>
    rw [e] at q
    simp only [R.bind] at q
    intro vs H1 e1 r
    cases et : tlt3 l with
    | bad => rw [et] at q; exact q.elim
    | ex c fs => exact absurd et tlt3_nex
    | ok p =>
      obtain ⟨a, b, c⟩ := p
      rw [et] at q
      cases tlt3_inv et
      cases r with
      | cons r1 r => cases r with
        | cons r2 r => cases r with
          | cons r3 r =>
            cases r
            cases r1 with
            | tup ha ra => cases r2 with
              | lst hb rb => cases r3 with
                | tup hc rc =>
                  exact ⟨_, _, _, _, _, _, rfl, SqT.of (hid_same _ _ _ _ ha), SqL.of (hid_same _ _ _ _ hb), SqT.of (hid_same _ _ _ _ hc), q _ H1 e1 (goes_zipN ha (SqL.of hb) hc ra rb rc)⟩
end
end Mx
namespace Mx
open PySem PySem.Spec PyProof.Rows L2 LiI
section
variable {K : Fr} {cl : Cl} {E : L2.St → XK} {H H' H1 H0 : Hp} {O O' : List Addr} {σ : L2.St} {D : Ds} {B : List Addr}
/-! ### list(d.items()), a dict copied and then changed, {} as a value -/
def itemD (p : Key × Dt) : Dt := .tup [keyD p.1, p.2]
def dItemsK : Dt → R (List Dt)
  | .dk kvs => .ok (kvs.map itemD)
  | _ => .bad
@[simp] theorem dItemsK_dk (kvs : List (Key × Dt)) : dItemsK (.dk kvs) = .ok (kvs.map itemD) := rfl
@[simp] def xItemsK (xe : XE) : XA := fun D => (xe D).bind dItemsK
theorem items_rep {p : Addr} {H H' : Hp} {O : List Addr} (hp : ∀ a, a ∈ O → H a ≠ none) (e : Same H H') (np : H p = none) : ∀ {ts : List Addr} {kv : List (Key × V)} {kvs : List (Key × Dt)}, Paired (fun (t : Addr) (q : Key × V) => H' t = some (.tup [kV q.1, q.2])) ts kv → (∀ t, t ∈ ts → H t = none) → p ∉ ts → kv.map (·.1) = kvs.map (·.1) → RepL K cl (hid O H) (kv.map (·.2)) (kvs.map (·.2)) →
    RepL K cl (hid (p :: O) H') (ts.map V.ref) (kvs.map itemD)
  | [], [], [], .nil, _, _, _, _ => .nil
  | [], [], _ :: _, _, _, _, h, _ => by simp at h
  | t :: ts, (k, v) :: kv, [], _, _, _, h, _ => by simp at h
  | t :: ts, (k, v) :: kv, (k', d) :: kvs, .cons h1 hr, nt, pt, hk, r => by
    simp only [List.map_cons, List.cons.injEq] at hk
    obtain ⟨rfl, hk⟩ := hk
    cases r with
    | cons rv rr =>
      have ht : t ∉ p :: O := fun m => by
        rcases List.mem_cons.mp m with rfl | m
        · exact pt List.mem_cons_self
        · exact hp t m (nt t List.mem_cons_self)
      refine .cons (.tup (by rw [hid_nin ht]; exact h1) (.cons ?_ (.cons (rv.mono (hid_new e np)) .nil))) (items_rep hp e np hr (fun x m => nt x (List.mem_cons_of_mem _ m)) (fun m => pt (List.mem_cons_of_mem _ m)) hk rr)
      cases k with
      | inl i => exact .int i
      | inr s => exact .str s
theorem simL_items {te : TE} {xe : XE} (h : SimB K cl E te xe) : SimL K cl E (tListItems te) (xItemsK xe) := fun B H0 O σ D H s Q q => by
  unfold xItemsK at q
  refine h B H0 O σ D H s _ ?_
  cases e : xe D with
  | bad => rw [e] at q; exact q.elim
  | ex c fs => rw [e] at q; exact q
  | ok d =>
    rw [e] at q
    simp only [R.bind] at q
    intro v H1 e1 r
    cases d with
    | dk kvs =>
      obtain ⟨a, kv, rfl, ha, hk, rr⟩ := r
      refine ⟨a, kv, rfl, ha, fun H2 p ts e2 np nt pt hp hr => ?_⟩
      refine q p _ H2 (e1.trans e2) (e1.free np) hp (items_rep (fun x m => ?_) e2 np hr nt pt hk rr)
      have := (s.mono e1).trk x m
      intro z
      rw [z] at this
      exact mutO_none this
    | _ => exact q.elim
@[simp] def xsDictK (i : Nat) (xa : XA) : XS := fun D => (xa D).out D fun l => match l with
  | [.dk kvs] => .nx (D.set i (.ok kvs))
  | _ => .bad
theorem ss_dictK {i : Nat} {ta : TA} {xa : XA} (h : SimBA K cl E ta xa) : SimS K cl E (tAsg (tCB (rDictA K) ta) (gName i)) (xsDictK i xa) := fun B H0 O σ D H s En q => by
  unfold xsDictK at q
  refine h B H0 O σ D H s _ ?_
  cases e : xa D with
  | bad => rw [e] at q; exact q.elim
  | ex c fs => rw [e] at q; exact q O σ H s (Same.refl _)
  | ok l =>
    rw [e] at q
    simp only [out_ok] at q
    intro vs H1 e1 r
    split at q
    · rename_i kvs
      obtain ⟨v, rfl, a, kv, rfl, ha, hk, hr⟩ := r.one
      refine .inr ⟨a, kv, rfl, .inl ha, fun p n => ?_⟩
      have np : H p = none := e1.free n
      exact q _ _ _ (s.setOwn i (e1.trans (same_upd n)) np ⟨kv, upd_same, hk, hr.mono (hid_new (same_upd n) n)⟩ (by rw [upd_same]; rfl)) (hid_new (e1.trans (same_upd n)) np)
    · exact q.elim
theorem sim_newK : Sim K cl E tDNewK (xC (.dk [])) := fun B H0 O σ D H s Q q => fun p n =>
  q _ _ (same_upd n) (.dk (kv := []) (hid_at (trk_nin s.trk n)) rfl .nil)
end
end Mx
namespace Mx
open PySem PySem.Spec PyProof.Rows L2
section
variable {K : Fr} {cl : Cl} {E : L2.St → XK} {H H' H1 H0 : Hp} {O O' : List Addr} {σ : L2.St} {D : Ds} {B : List Addr}
/-! ### l.pop(k) -/
theorem RepL.erase : ∀ {vs : List V} {ds : List Dt} (n : Nat), RepL K cl H vs ds → RepL K cl H (vs.eraseIdx n) (ds.eraseIdx n)
  | _, _, _, .nil => .nil
  | _, _, 0, .cons _ r => r
  | _, _, n + 1, .cons h r => .cons h (r.erase n)
def popO (D : Ds) (i : Nat) (l : List Dt) : Dt → Out
  | .int k => if l.length ≤ 1000000 then (opt (ixN l.length k)).get fun n => .nx (D.set i (.ol (l.eraseIdx n))) else .bad
  | _ => .bad
@[simp] theorem popO_int (D : Ds) (i : Nat) (l : List Dt) (k : Int) : popO D i l (.int k) = if l.length ≤ 1000000 then (opt (ixN l.length k)).get fun n => .nx (D.set i (.ol (l.eraseIdx n))) else .bad := rfl
@[simp] def xsPop (i : Nat) (xk : XE) : XS := fun D => (Sl.lst? D[i]?).out D fun l => (xk D).out D fun k => popO D i l k
theorem ss_pop {i : Nat} {tk : TE} {xk : XE} (hk : Sim K cl E tk xk) : SimS K cl E (tDrop (tBM K "list" rPopAt (tVar i) (tCons tk tNil))) (xsPop i xk) := fun B H0 O σ D H s En q => by
  unfold xsPop at q
  cases el : Sl.lst? D[i]? with
  | bad => rw [el] at q; exact q.elim
  | ex c fs => exact (lst?_ex el).elim
  | ok l =>
    rw [el] at q
    have hi := lst?_eq el
    obtain ⟨a, ea, ma, vs, ha, ra⟩ := own_at s hi rfl
    refine ⟨.ref a, ea, .inl ⟨rfl, vs, SqL.of ha⟩, ?_⟩
    refine hk B H0 O σ D H s _ ?_
    cases ek : xk D with
    | bad => rw [ek] at q; exact q.elim
    | ex c fs => rw [ek] at q; exact q O σ H s (Same.refl _)
    | ok k =>
      rw [ek] at q
      simp only [out_ok] at q
      intro w H1 e1 rw'
      cases k with
      | int k =>
        cases rw'
        simp only [popO_int] at q
        split at q
        · rename_i hz
          cases en : ixN l.length k with
          | none => rw [en] at q; exact q.elim
          | some n =>
            rw [en] at q
            simp only [opt_some, get_ok] at q
            obtain ⟨h1, h2, h3, h4⟩ := ixN_seq en
            have lv := ra.len
            have hn : n < vs.length := by omega
            refine ⟨a, vs, k, n, vs[n], rfl, rfl, e1 _ _ ha, by omega, by omega, by rw [lv]; exact h1, List.getElem?_eq_getElem hn, ?_⟩
            have ra' := ra.mono (hid_mono (O := O) e1)
            refine q O σ _ ((s.mono e1).mut hi rfl ea ⟨_, upd_same, ra'.erase n⟩) ?_
            rw [hid_upd ma]
            exact hid_mono e1
        · exact q.elim
      | _ => exact q.elim
end
end Mx
namespace L2
open PySem PySem.Spec PyProof.Rows PySem.W
section
variable {X : Cx} {CX : CXT} {k : Nat} {C f : Addr} {fd : FuncData} {ps : List Str} {ds : List Value} {dvs : List V} {sp : Sp} {E : St → XK} {o e : Expr} {es : List Expr} {m : Str} {ta : TE} {t : TA} {apos pos : Pos}
/-- o.m(e, ..), what it lets out may speak of the slots -/
def tMethE (C : Addr) (m : Str) (sp : Sp) (dvs : List V) (E : St → XK) (ta : TE) (t : TA) : TE := fun σ H Q => tMeth C m sp dvs (E σ) ta t σ H Q
theorem pe_methE {pl : Sem Bool} (he : PE X o ta) (c : Cls X.K C) (hm : Meth X.K C m f) (F : FnOk X.prog X.w X.K X.mg X.base CX k f fd ps sp) (hr : Room k X.A) (hb : Binds X.K fd ps ds) (hd : Vals dvs ds) (hx : ∀ σ, PassesAt CX X σ (E σ)) (ha : PA X (e :: es) t)
    (hst : starEach (e :: es) X.env = (false, eval e X.env) :: starEach es X.env := by rfl) (hpl : (backTo pos (starEach es X.env)).any (·.1) = false := by rfl)
    (ht : eval (.Call (.Attribute o m apos) (e :: es) [] pos) X.env = (do
      let ov ← eval o X.env
      standAt apos.atName
      let (f, first) ← holding [ov] (getMethod ov m pl)
      callWith pos f first (backTo pos (starEach (e :: es) X.env)) (backToKw pos (keywordEach [] X.env))) := by rfl) :
    PE X (.Call (.Attribute o m apos) (e :: es) [] pos) (tMethE C m sp dvs E ta t) := by
  refine ⟨fun pins s σ H Q I h => ?_⟩
  refine PySem.W.methodCall_KW (pl := pl) (thn (he.run pins s σ H _ I h) fun u s1 ⟨x, H1, I1, rx, a, dx, fs, ex, ea, l, q⟩ => ?_) ht
  subst ex
  obtain rfl : u = Value.ref a := rx
  refine getmeth_ok I1 ea c hm l ?_
  refine PySem.W.callWith_K (first := [.ref a]) (h₀ := X.base) I.ok.mod.kin hm.kp (thn (ha.run pos pins s1 σ H1 _ I1 q) fun us s2 ⟨vs, H2, I2, r, q2⟩ => ⟨I2.kIn, ?_⟩) hst hpl
  exact run_fnSD (us := .ref a :: us) (vs := .ref a :: vs) F hr hb hd (hx σ) I2 (.cons rfl r) q2
end
end L2
namespace Mx
open PySem PySem.Spec PyProof.Rows L2
section
variable {K : Fr} {cl : Cl} {E : L2.St → XK} {H H' H1 H0 : Hp} {O O' : List Addr} {σ : L2.St} {D : Ds} {B : List Addr}
theorem sim_methE {c m : Str} {C : Addr} {f : List Dt → R Dt} {to : TE} {ta : TA} {xo : XE} {xa : XA} (hc : cl c = some C) (ho : Sim K cl E to xo) (ha : SimA K cl E ta xa) :
    Sim K cl E (tMethE C m (PureSp K cl f) [] E to ta) (xMeth c m f xo xa) := fun B H0 O σ D H s Q q => by
  unfold xMeth at q
  refine ho B H0 O σ D H s _ ?_
  cases e : xo D with
  | bad => rw [e] at q; exact q.elim
  | ex c' fs => rw [e] at q; exact q
  | ok d =>
    rw [e] at q
    simp only [R.bind] at q
    intro v H1 e1 r
    split at q
    · rename_i hm
      cases d with
      | ins c' fs =>
        simp only [isM, Bool.and_eq_true, decide_eq_true_iff, Option.isNone_iff_eq_none] at hm
        obtain ⟨hcc, hl⟩ := hm
        subst hcc
        cases r with
        | ins k1 h1 k2 rr =>
          rw [hc] at k1
          cases k1
          refine ⟨_, _, _, rfl, hid_same O H1 _ _ h1, lookup_none_of k2 hl, ?_⟩
          refine ha B H0 O σ D H1 (s.mono e1) _ ?_
          cases ea : xa D with
          | bad => rw [ea] at q; exact q.elim
          | ex c2 fs2 => rw [ea] at q; exact ExOk.mono e1 q
          | ok ds =>
            rw [ea] at q
            simp only [R.bind] at q
            intro vs H2 e2 rv
            refine ⟨O, .ins c' fs :: ds, ((s.mono e1).mono e2).trk, ?_, post_E (e1.trans e2) q⟩
            rw [List.append_nil]
            exact .cons ((Rep.ins hc h1 k2 rr).mono (hid_mono e2)) rv
      | _ => cases hm
    · exact q.elim
end
end Mx
namespace Mx
open PySem PySem.Spec PyProof.Rows L2
theorem seqE {s r : XS} {D : Ds} {o : Out} (h : (s D).seq r = o) : xsSeq s r D = o := h
theorem seqN {r : XS} {D : Ds} {o : Out} (h : r D = o) : (Out.nx D).seq r = o := h
theorem seqRE {s : XS} {r : XR} {D : Ds} {o : OutR} (h : (s D).seqR r = o) : xrSeq s r D = o := h
theorem seqRN {r : XR} {D : Ds} {o : OutR} (h : r D = o) : (Out.nx D).seqR r = o := h
/-! slots frozen, by their place -/
theorem fzo_0 {l : List Dt} {r : Ds} : Frz 0 (.ol l :: r) = .sh (.lst l) :: r := rfl
theorem fzs_0 {d : Dt} {r : Ds} : Frz 0 (.sh d :: r) = .sh d :: r := rfl
theorem fzo_1 {a0 : Sl} {l : List Dt} {r : Ds} : Frz 1 (a0 :: .ol l :: r) = a0 :: .sh (.lst l) :: r := rfl
theorem fzs_1 {a0 : Sl} {d : Dt} {r : Ds} : Frz 1 (a0 :: .sh d :: r) = a0 :: .sh d :: r := rfl
theorem fzo_2 {a0 a1 : Sl} {l : List Dt} {r : Ds} : Frz 2 (a0 :: a1 :: .ol l :: r) = a0 :: a1 :: .sh (.lst l) :: r := rfl
theorem fzs_2 {a0 a1 : Sl} {d : Dt} {r : Ds} : Frz 2 (a0 :: a1 :: .sh d :: r) = a0 :: a1 :: .sh d :: r := rfl
theorem fzo_3 {a0 a1 a2 : Sl} {l : List Dt} {r : Ds} : Frz 3 (a0 :: a1 :: a2 :: .ol l :: r) = a0 :: a1 :: a2 :: .sh (.lst l) :: r := rfl
theorem fzs_3 {a0 a1 a2 : Sl} {d : Dt} {r : Ds} : Frz 3 (a0 :: a1 :: a2 :: .sh d :: r) = a0 :: a1 :: a2 :: .sh d :: r := rfl
theorem fzo_4 {a0 a1 a2 a3 : Sl} {l : List Dt} {r : Ds} : Frz 4 (a0 :: a1 :: a2 :: a3 :: .ol l :: r) = a0 :: a1 :: a2 :: a3 :: .sh (.lst l) :: r := rfl
theorem fzs_4 {a0 a1 a2 a3 : Sl} {d : Dt} {r : Ds} : Frz 4 (a0 :: a1 :: a2 :: a3 :: .sh d :: r) = a0 :: a1 :: a2 :: a3 :: .sh d :: r := rfl
theorem fzo_5 {a0 a1 a2 a3 a4 : Sl} {l : List Dt} {r : Ds} : Frz 5 (a0 :: a1 :: a2 :: a3 :: a4 :: .ol l :: r) = a0 :: a1 :: a2 :: a3 :: a4 :: .sh (.lst l) :: r := rfl
theorem fzs_5 {a0 a1 a2 a3 a4 : Sl} {d : Dt} {r : Ds} : Frz 5 (a0 :: a1 :: a2 :: a3 :: a4 :: .sh d :: r) = a0 :: a1 :: a2 :: a3 :: a4 :: .sh d :: r := rfl
theorem fzo_6 {a0 a1 a2 a3 a4 a5 : Sl} {l : List Dt} {r : Ds} : Frz 6 (a0 :: a1 :: a2 :: a3 :: a4 :: a5 :: .ol l :: r) = a0 :: a1 :: a2 :: a3 :: a4 :: a5 :: .sh (.lst l) :: r := rfl
theorem fzs_6 {a0 a1 a2 a3 a4 a5 : Sl} {d : Dt} {r : Ds} : Frz 6 (a0 :: a1 :: a2 :: a3 :: a4 :: a5 :: .sh d :: r) = a0 :: a1 :: a2 :: a3 :: a4 :: a5 :: .sh d :: r := rfl
theorem fzo_7 {a0 a1 a2 a3 a4 a5 a6 : Sl} {l : List Dt} {r : Ds} : Frz 7 (a0 :: a1 :: a2 :: a3 :: a4 :: a5 :: a6 :: .ol l :: r) = a0 :: a1 :: a2 :: a3 :: a4 :: a5 :: a6 :: .sh (.lst l) :: r := rfl
theorem fzs_7 {a0 a1 a2 a3 a4 a5 a6 : Sl} {d : Dt} {r : Ds} : Frz 7 (a0 :: a1 :: a2 :: a3 :: a4 :: a5 :: a6 :: .sh d :: r) = a0 :: a1 :: a2 :: a3 :: a4 :: a5 :: a6 :: .sh d :: r := rfl
theorem fzo_8 {a0 a1 a2 a3 a4 a5 a6 a7 : Sl} {l : List Dt} {r : Ds} : Frz 8 (a0 :: a1 :: a2 :: a3 :: a4 :: a5 :: a6 :: a7 :: .ol l :: r) = a0 :: a1 :: a2 :: a3 :: a4 :: a5 :: a6 :: a7 :: .sh (.lst l) :: r := rfl
theorem fzs_8 {a0 a1 a2 a3 a4 a5 a6 a7 : Sl} {d : Dt} {r : Ds} : Frz 8 (a0 :: a1 :: a2 :: a3 :: a4 :: a5 :: a6 :: a7 :: .sh d :: r) = a0 :: a1 :: a2 :: a3 :: a4 :: a5 :: a6 :: a7 :: .sh d :: r := rfl
theorem fzo_9 {a0 a1 a2 a3 a4 a5 a6 a7 a8 : Sl} {l : List Dt} {r : Ds} : Frz 9 (a0 :: a1 :: a2 :: a3 :: a4 :: a5 :: a6 :: a7 :: a8 :: .ol l :: r) = a0 :: a1 :: a2 :: a3 :: a4 :: a5 :: a6 :: a7 :: a8 :: .sh (.lst l) :: r := rfl
theorem fzs_9 {a0 a1 a2 a3 a4 a5 a6 a7 a8 : Sl} {d : Dt} {r : Ds} : Frz 9 (a0 :: a1 :: a2 :: a3 :: a4 :: a5 :: a6 :: a7 :: a8 :: .sh d :: r) = a0 :: a1 :: a2 :: a3 :: a4 :: a5 :: a6 :: a7 :: a8 :: .sh d :: r := rfl
theorem fzo_10 {a0 a1 a2 a3 a4 a5 a6 a7 a8 a9 : Sl} {l : List Dt} {r : Ds} : Frz 10 (a0 :: a1 :: a2 :: a3 :: a4 :: a5 :: a6 :: a7 :: a8 :: a9 :: .ol l :: r) = a0 :: a1 :: a2 :: a3 :: a4 :: a5 :: a6 :: a7 :: a8 :: a9 :: .sh (.lst l) :: r := rfl
theorem fzs_10 {a0 a1 a2 a3 a4 a5 a6 a7 a8 a9 : Sl} {d : Dt} {r : Ds} : Frz 10 (a0 :: a1 :: a2 :: a3 :: a4 :: a5 :: a6 :: a7 :: a8 :: a9 :: .sh d :: r) = a0 :: a1 :: a2 :: a3 :: a4 :: a5 :: a6 :: a7 :: a8 :: a9 :: .sh d :: r := rfl
theorem fzo_11 {a0 a1 a2 a3 a4 a5 a6 a7 a8 a9 a10 : Sl} {l : List Dt} {r : Ds} : Frz 11 (a0 :: a1 :: a2 :: a3 :: a4 :: a5 :: a6 :: a7 :: a8 :: a9 :: a10 :: .ol l :: r) = a0 :: a1 :: a2 :: a3 :: a4 :: a5 :: a6 :: a7 :: a8 :: a9 :: a10 :: .sh (.lst l) :: r := rfl
theorem fzs_11 {a0 a1 a2 a3 a4 a5 a6 a7 a8 a9 a10 : Sl} {d : Dt} {r : Ds} : Frz 11 (a0 :: a1 :: a2 :: a3 :: a4 :: a5 :: a6 :: a7 :: a8 :: a9 :: a10 :: .sh d :: r) = a0 :: a1 :: a2 :: a3 :: a4 :: a5 :: a6 :: a7 :: a8 :: a9 :: a10 :: .sh d :: r := rfl
theorem fzo_12 {a0 a1 a2 a3 a4 a5 a6 a7 a8 a9 a10 a11 : Sl} {l : List Dt} {r : Ds} : Frz 12 (a0 :: a1 :: a2 :: a3 :: a4 :: a5 :: a6 :: a7 :: a8 :: a9 :: a10 :: a11 :: .ol l :: r) = a0 :: a1 :: a2 :: a3 :: a4 :: a5 :: a6 :: a7 :: a8 :: a9 :: a10 :: a11 :: .sh (.lst l) :: r := rfl
theorem fzs_12 {a0 a1 a2 a3 a4 a5 a6 a7 a8 a9 a10 a11 : Sl} {d : Dt} {r : Ds} : Frz 12 (a0 :: a1 :: a2 :: a3 :: a4 :: a5 :: a6 :: a7 :: a8 :: a9 :: a10 :: a11 :: .sh d :: r) = a0 :: a1 :: a2 :: a3 :: a4 :: a5 :: a6 :: a7 :: a8 :: a9 :: a10 :: a11 :: .sh d :: r := rfl
theorem fzo_13 {a0 a1 a2 a3 a4 a5 a6 a7 a8 a9 a10 a11 a12 : Sl} {l : List Dt} {r : Ds} : Frz 13 (a0 :: a1 :: a2 :: a3 :: a4 :: a5 :: a6 :: a7 :: a8 :: a9 :: a10 :: a11 :: a12 :: .ol l :: r) = a0 :: a1 :: a2 :: a3 :: a4 :: a5 :: a6 :: a7 :: a8 :: a9 :: a10 :: a11 :: a12 :: .sh (.lst l) :: r := rfl
theorem fzs_13 {a0 a1 a2 a3 a4 a5 a6 a7 a8 a9 a10 a11 a12 : Sl} {d : Dt} {r : Ds} : Frz 13 (a0 :: a1 :: a2 :: a3 :: a4 :: a5 :: a6 :: a7 :: a8 :: a9 :: a10 :: a11 :: a12 :: .sh d :: r) = a0 :: a1 :: a2 :: a3 :: a4 :: a5 :: a6 :: a7 :: a8 :: a9 :: a10 :: a11 :: a12 :: .sh d :: r := rfl
theorem fzo_14 {a0 a1 a2 a3 a4 a5 a6 a7 a8 a9 a10 a11 a12 a13 : Sl} {l : List Dt} {r : Ds} : Frz 14 (a0 :: a1 :: a2 :: a3 :: a4 :: a5 :: a6 :: a7 :: a8 :: a9 :: a10 :: a11 :: a12 :: a13 :: .ol l :: r) = a0 :: a1 :: a2 :: a3 :: a4 :: a5 :: a6 :: a7 :: a8 :: a9 :: a10 :: a11 :: a12 :: a13 :: .sh (.lst l) :: r := rfl
theorem fzs_14 {a0 a1 a2 a3 a4 a5 a6 a7 a8 a9 a10 a11 a12 a13 : Sl} {d : Dt} {r : Ds} : Frz 14 (a0 :: a1 :: a2 :: a3 :: a4 :: a5 :: a6 :: a7 :: a8 :: a9 :: a10 :: a11 :: a12 :: a13 :: .sh d :: r) = a0 :: a1 :: a2 :: a3 :: a4 :: a5 :: a6 :: a7 :: a8 :: a9 :: a10 :: a11 :: a12 :: a13 :: .sh d :: r := rfl
theorem fzo_15 {a0 a1 a2 a3 a4 a5 a6 a7 a8 a9 a10 a11 a12 a13 a14 : Sl} {l : List Dt} {r : Ds} : Frz 15 (a0 :: a1 :: a2 :: a3 :: a4 :: a5 :: a6 :: a7 :: a8 :: a9 :: a10 :: a11 :: a12 :: a13 :: a14 :: .ol l :: r) = a0 :: a1 :: a2 :: a3 :: a4 :: a5 :: a6 :: a7 :: a8 :: a9 :: a10 :: a11 :: a12 :: a13 :: a14 :: .sh (.lst l) :: r := rfl
theorem fzs_15 {a0 a1 a2 a3 a4 a5 a6 a7 a8 a9 a10 a11 a12 a13 a14 : Sl} {d : Dt} {r : Ds} : Frz 15 (a0 :: a1 :: a2 :: a3 :: a4 :: a5 :: a6 :: a7 :: a8 :: a9 :: a10 :: a11 :: a12 :: a13 :: a14 :: .sh d :: r) = a0 :: a1 :: a2 :: a3 :: a4 :: a5 :: a6 :: a7 :: a8 :: a9 :: a10 :: a11 :: a12 :: a13 :: a14 :: .sh d :: r := rfl
theorem fzo_16 {a0 a1 a2 a3 a4 a5 a6 a7 a8 a9 a10 a11 a12 a13 a14 a15 : Sl} {l : List Dt} {r : Ds} : Frz 16 (a0 :: a1 :: a2 :: a3 :: a4 :: a5 :: a6 :: a7 :: a8 :: a9 :: a10 :: a11 :: a12 :: a13 :: a14 :: a15 :: .ol l :: r) = a0 :: a1 :: a2 :: a3 :: a4 :: a5 :: a6 :: a7 :: a8 :: a9 :: a10 :: a11 :: a12 :: a13 :: a14 :: a15 :: .sh (.lst l) :: r := rfl
theorem fzs_16 {a0 a1 a2 a3 a4 a5 a6 a7 a8 a9 a10 a11 a12 a13 a14 a15 : Sl} {d : Dt} {r : Ds} : Frz 16 (a0 :: a1 :: a2 :: a3 :: a4 :: a5 :: a6 :: a7 :: a8 :: a9 :: a10 :: a11 :: a12 :: a13 :: a14 :: a15 :: .sh d :: r) = a0 :: a1 :: a2 :: a3 :: a4 :: a5 :: a6 :: a7 :: a8 :: a9 :: a10 :: a11 :: a12 :: a13 :: a14 :: a15 :: .sh d :: r := rfl
theorem fzo_17 {a0 a1 a2 a3 a4 a5 a6 a7 a8 a9 a10 a11 a12 a13 a14 a15 a16 : Sl} {l : List Dt} {r : Ds} : Frz 17 (a0 :: a1 :: a2 :: a3 :: a4 :: a5 :: a6 :: a7 :: a8 :: a9 :: a10 :: a11 :: a12 :: a13 :: a14 :: a15 :: a16 :: .ol l :: r) = a0 :: a1 :: a2 :: a3 :: a4 :: a5 :: a6 :: a7 :: a8 :: a9 :: a10 :: a11 :: a12 :: a13 :: a14 :: a15 :: a16 :: .sh (.lst l) :: r := rfl
theorem fzs_17 {a0 a1 a2 a3 a4 a5 a6 a7 a8 a9 a10 a11 a12 a13 a14 a15 a16 : Sl} {d : Dt} {r : Ds} : Frz 17 (a0 :: a1 :: a2 :: a3 :: a4 :: a5 :: a6 :: a7 :: a8 :: a9 :: a10 :: a11 :: a12 :: a13 :: a14 :: a15 :: a16 :: .sh d :: r) = a0 :: a1 :: a2 :: a3 :: a4 :: a5 :: a6 :: a7 :: a8 :: a9 :: a10 :: a11 :: a12 :: a13 :: a14 :: a15 :: a16 :: .sh d :: r := rfl
theorem fzo_18 {a0 a1 a2 a3 a4 a5 a6 a7 a8 a9 a10 a11 a12 a13 a14 a15 a16 a17 : Sl} {l : List Dt} {r : Ds} : Frz 18 (a0 :: a1 :: a2 :: a3 :: a4 :: a5 :: a6 :: a7 :: a8 :: a9 :: a10 :: a11 :: a12 :: a13 :: a14 :: a15 :: a16 :: a17 :: .ol l :: r) = a0 :: a1 :: a2 :: a3 :: a4 :: a5 :: a6 :: a7 :: a8 :: a9 :: a10 :: a11 :: a12 :: a13 :: a14 :: a15 :: a16 :: a17 :: .sh (.lst l) :: r := rfl
theorem fzs_18 {a0 a1 a2 a3 a4 a5 a6 a7 a8 a9 a10 a11 a12 a13 a14 a15 a16 a17 : Sl} {d : Dt} {r : Ds} : Frz 18 (a0 :: a1 :: a2 :: a3 :: a4 :: a5 :: a6 :: a7 :: a8 :: a9 :: a10 :: a11 :: a12 :: a13 :: a14 :: a15 :: a16 :: a17 :: .sh d :: r) = a0 :: a1 :: a2 :: a3 :: a4 :: a5 :: a6 :: a7 :: a8 :: a9 :: a10 :: a11 :: a12 :: a13 :: a14 :: a15 :: a16 :: a17 :: .sh d :: r := rfl
theorem fzo_19 {a0 a1 a2 a3 a4 a5 a6 a7 a8 a9 a10 a11 a12 a13 a14 a15 a16 a17 a18 : Sl} {l : List Dt} {r : Ds} : Frz 19 (a0 :: a1 :: a2 :: a3 :: a4 :: a5 :: a6 :: a7 :: a8 :: a9 :: a10 :: a11 :: a12 :: a13 :: a14 :: a15 :: a16 :: a17 :: a18 :: .ol l :: r) = a0 :: a1 :: a2 :: a3 :: a4 :: a5 :: a6 :: a7 :: a8 :: a9 :: a10 :: a11 :: a12 :: a13 :: a14 :: a15 :: a16 :: a17 :: a18 :: .sh (.lst l) :: r := rfl
theorem fzs_19 {a0 a1 a2 a3 a4 a5 a6 a7 a8 a9 a10 a11 a12 a13 a14 a15 a16 a17 a18 : Sl} {d : Dt} {r : Ds} : Frz 19 (a0 :: a1 :: a2 :: a3 :: a4 :: a5 :: a6 :: a7 :: a8 :: a9 :: a10 :: a11 :: a12 :: a13 :: a14 :: a15 :: a16 :: a17 :: a18 :: .sh d :: r) = a0 :: a1 :: a2 :: a3 :: a4 :: a5 :: a6 :: a7 :: a8 :: a9 :: a10 :: a11 :: a12 :: a13 :: a14 :: a15 :: a16 :: a17 :: a18 :: .sh d :: r := rfl
theorem fzo_20 {a0 a1 a2 a3 a4 a5 a6 a7 a8 a9 a10 a11 a12 a13 a14 a15 a16 a17 a18 a19 : Sl} {l : List Dt} {r : Ds} : Frz 20 (a0 :: a1 :: a2 :: a3 :: a4 :: a5 :: a6 :: a7 :: a8 :: a9 :: a10 :: a11 :: a12 :: a13 :: a14 :: a15 :: a16 :: a17 :: a18 :: a19 :: .ol l :: r) = a0 :: a1 :: a2 :: a3 :: a4 :: a5 :: a6 :: a7 :: a8 :: a9 :: a10 :: a11 :: a12 :: a13 :: a14 :: a15 :: a16 :: a17 :: a18 :: a19 :: .sh (.lst l) :: r := rfl
theorem fzs_20 {a0 a1 a2 a3 a4 a5 a6 a7 a8 a9 a10 a11 a12 a13 a14 a15 a16 a17 a18 a19 : Sl} {d : Dt} {r : Ds} : Frz 20 (a0 :: a1 :: a2 :: a3 :: a4 :: a5 :: a6 :: a7 :: a8 :: a9 :: a10 :: a11 :: a12 :: a13 :: a14 :: a15 :: a16 :: a17 :: a18 :: a19 :: .sh d :: r) = a0 :: a1 :: a2 :: a3 :: a4 :: a5 :: a6 :: a7 :: a8 :: a9 :: a10 :: a11 :: a12 :: a13 :: a14 :: a15 :: a16 :: a17 :: a18 :: a19 :: .sh d :: r := rfl
theorem fzo_21 {a0 a1 a2 a3 a4 a5 a6 a7 a8 a9 a10 a11 a12 a13 a14 a15 a16 a17 a18 a19 a20 : Sl} {l : List Dt} {r : Ds} : Frz 21 (a0 :: a1 :: a2 :: a3 :: a4 :: a5 :: a6 :: a7 :: a8 :: a9 :: a10 :: a11 :: a12 :: a13 :: a14 :: a15 :: a16 :: a17 :: a18 :: a19 :: a20 :: .ol l :: r) = a0 :: a1 :: a2 :: a3 :: a4 :: a5 :: a6 :: a7 :: a8 :: a9 :: a10 :: a11 :: a12 :: a13 :: a14 :: a15 :: a16 :: a17 :: a18 :: a19 :: a20 :: .sh (.lst l) :: r := rfl
theorem fzs_21 {a0 a1 a2 a3 a4 a5 a6 a7 a8 a9 a10 a11 a12 a13 a14 a15 a16 a17 a18 a19 a20 : Sl} {d : Dt} {r : Ds} : Frz 21 (a0 :: a1 :: a2 :: a3 :: a4 :: a5 :: a6 :: a7 :: a8 :: a9 :: a10 :: a11 :: a12 :: a13 :: a14 :: a15 :: a16 :: a17 :: a18 :: a19 :: a20 :: .sh d :: r) = a0 :: a1 :: a2 :: a3 :: a4 :: a5 :: a6 :: a7 :: a8 :: a9 :: a10 :: a11 :: a12 :: a13 :: a14 :: a15 :: a16 :: a17 :: a18 :: a19 :: a20 :: .sh d :: r := rfl
theorem fzo_22 {a0 a1 a2 a3 a4 a5 a6 a7 a8 a9 a10 a11 a12 a13 a14 a15 a16 a17 a18 a19 a20 a21 : Sl} {l : List Dt} {r : Ds} : Frz 22 (a0 :: a1 :: a2 :: a3 :: a4 :: a5 :: a6 :: a7 :: a8 :: a9 :: a10 :: a11 :: a12 :: a13 :: a14 :: a15 :: a16 :: a17 :: a18 :: a19 :: a20 :: a21 :: .ol l :: r) = a0 :: a1 :: a2 :: a3 :: a4 :: a5 :: a6 :: a7 :: a8 :: a9 :: a10 :: a11 :: a12 :: a13 :: a14 :: a15 :: a16 :: a17 :: a18 :: a19 :: a20 :: a21 :: .sh (.lst l) :: r := rfl
theorem fzs_22 {a0 a1 a2 a3 a4 a5 a6 a7 a8 a9 a10 a11 a12 a13 a14 a15 a16 a17 a18 a19 a20 a21 : Sl} {d : Dt} {r : Ds} : Frz 22 (a0 :: a1 :: a2 :: a3 :: a4 :: a5 :: a6 :: a7 :: a8 :: a9 :: a10 :: a11 :: a12 :: a13 :: a14 :: a15 :: a16 :: a17 :: a18 :: a19 :: a20 :: a21 :: .sh d :: r) = a0 :: a1 :: a2 :: a3 :: a4 :: a5 :: a6 :: a7 :: a8 :: a9 :: a10 :: a11 :: a12 :: a13 :: a14 :: a15 :: a16 :: a17 :: a18 :: a19 :: a20 :: a21 :: .sh d :: r := rfl
theorem fzo_23 {a0 a1 a2 a3 a4 a5 a6 a7 a8 a9 a10 a11 a12 a13 a14 a15 a16 a17 a18 a19 a20 a21 a22 : Sl} {l : List Dt} {r : Ds} : Frz 23 (a0 :: a1 :: a2 :: a3 :: a4 :: a5 :: a6 :: a7 :: a8 :: a9 :: a10 :: a11 :: a12 :: a13 :: a14 :: a15 :: a16 :: a17 :: a18 :: a19 :: a20 :: a21 :: a22 :: .ol l :: r) = a0 :: a1 :: a2 :: a3 :: a4 :: a5 :: a6 :: a7 :: a8 :: a9 :: a10 :: a11 :: a12 :: a13 :: a14 :: a15 :: a16 :: a17 :: a18 :: a19 :: a20 :: a21 :: a22 :: .sh (.lst l) :: r := rfl
theorem fzs_23 {a0 a1 a2 a3 a4 a5 a6 a7 a8 a9 a10 a11 a12 a13 a14 a15 a16 a17 a18 a19 a20 a21 a22 : Sl} {d : Dt} {r : Ds} : Frz 23 (a0 :: a1 :: a2 :: a3 :: a4 :: a5 :: a6 :: a7 :: a8 :: a9 :: a10 :: a11 :: a12 :: a13 :: a14 :: a15 :: a16 :: a17 :: a18 :: a19 :: a20 :: a21 :: a22 :: .sh d :: r) = a0 :: a1 :: a2 :: a3 :: a4 :: a5 :: a6 :: a7 :: a8 :: a9 :: a10 :: a11 :: a12 :: a13 :: a14 :: a15 :: a16 :: a17 :: a18 :: a19 :: a20 :: a21 :: a22 :: .sh d :: r := rfl
theorem fzo_24 {a0 a1 a2 a3 a4 a5 a6 a7 a8 a9 a10 a11 a12 a13 a14 a15 a16 a17 a18 a19 a20 a21 a22 a23 : Sl} {l : List Dt} {r : Ds} : Frz 24 (a0 :: a1 :: a2 :: a3 :: a4 :: a5 :: a6 :: a7 :: a8 :: a9 :: a10 :: a11 :: a12 :: a13 :: a14 :: a15 :: a16 :: a17 :: a18 :: a19 :: a20 :: a21 :: a22 :: a23 :: .ol l :: r) = a0 :: a1 :: a2 :: a3 :: a4 :: a5 :: a6 :: a7 :: a8 :: a9 :: a10 :: a11 :: a12 :: a13 :: a14 :: a15 :: a16 :: a17 :: a18 :: a19 :: a20 :: a21 :: a22 :: a23 :: .sh (.lst l) :: r := rfl
theorem fzs_24 {a0 a1 a2 a3 a4 a5 a6 a7 a8 a9 a10 a11 a12 a13 a14 a15 a16 a17 a18 a19 a20 a21 a22 a23 : Sl} {d : Dt} {r : Ds} : Frz 24 (a0 :: a1 :: a2 :: a3 :: a4 :: a5 :: a6 :: a7 :: a8 :: a9 :: a10 :: a11 :: a12 :: a13 :: a14 :: a15 :: a16 :: a17 :: a18 :: a19 :: a20 :: a21 :: a22 :: a23 :: .sh d :: r) = a0 :: a1 :: a2 :: a3 :: a4 :: a5 :: a6 :: a7 :: a8 :: a9 :: a10 :: a11 :: a12 :: a13 :: a14 :: a15 :: a16 :: a17 :: a18 :: a19 :: a20 :: a21 :: a22 :: a23 :: .sh d :: r := rfl
theorem fzo_25 {a0 a1 a2 a3 a4 a5 a6 a7 a8 a9 a10 a11 a12 a13 a14 a15 a16 a17 a18 a19 a20 a21 a22 a23 a24 : Sl} {l : List Dt} {r : Ds} : Frz 25 (a0 :: a1 :: a2 :: a3 :: a4 :: a5 :: a6 :: a7 :: a8 :: a9 :: a10 :: a11 :: a12 :: a13 :: a14 :: a15 :: a16 :: a17 :: a18 :: a19 :: a20 :: a21 :: a22 :: a23 :: a24 :: .ol l :: r) = a0 :: a1 :: a2 :: a3 :: a4 :: a5 :: a6 :: a7 :: a8 :: a9 :: a10 :: a11 :: a12 :: a13 :: a14 :: a15 :: a16 :: a17 :: a18 :: a19 :: a20 :: a21 :: a22 :: a23 :: a24 :: .sh (.lst l) :: r := rfl
theorem fzs_25 {a0 a1 a2 a3 a4 a5 a6 a7 a8 a9 a10 a11 a12 a13 a14 a15 a16 a17 a18 a19 a20 a21 a22 a23 a24 : Sl} {d : Dt} {r : Ds} : Frz 25 (a0 :: a1 :: a2 :: a3 :: a4 :: a5 :: a6 :: a7 :: a8 :: a9 :: a10 :: a11 :: a12 :: a13 :: a14 :: a15 :: a16 :: a17 :: a18 :: a19 :: a20 :: a21 :: a22 :: a23 :: a24 :: .sh d :: r) = a0 :: a1 :: a2 :: a3 :: a4 :: a5 :: a6 :: a7 :: a8 :: a9 :: a10 :: a11 :: a12 :: a13 :: a14 :: a15 :: a16 :: a17 :: a18 :: a19 :: a20 :: a21 :: a22 :: a23 :: a24 :: .sh d :: r := rfl
theorem at_0 {α : Type} (a0 : α) (l : List α) : atI (a0 :: l) 0 = some a0 := by
  unfold atI ixN
  rw [if_pos (by decide), if_pos (by simp only [List.length_cons]; omega)]
  rfl
theorem at_1 {α : Type} (a0 a1 : α) (l : List α) : atI (a0 :: a1 :: l) 1 = some a1 := by
  unfold atI ixN
  rw [if_pos (by decide), if_pos (by simp only [List.length_cons]; omega)]
  rfl
theorem at_2 {α : Type} (a0 a1 a2 : α) (l : List α) : atI (a0 :: a1 :: a2 :: l) 2 = some a2 := by
  unfold atI ixN
  rw [if_pos (by decide), if_pos (by simp only [List.length_cons]; omega)]
  rfl
theorem at_3 {α : Type} (a0 a1 a2 a3 : α) (l : List α) : atI (a0 :: a1 :: a2 :: a3 :: l) 3 = some a3 := by
  unfold atI ixN
  rw [if_pos (by decide), if_pos (by simp only [List.length_cons]; omega)]
  rfl
theorem at_4 {α : Type} (a0 a1 a2 a3 a4 : α) (l : List α) : atI (a0 :: a1 :: a2 :: a3 :: a4 :: l) 4 = some a4 := by
  unfold atI ixN
  rw [if_pos (by decide), if_pos (by simp only [List.length_cons]; omega)]
  rfl
theorem at_5 {α : Type} (a0 a1 a2 a3 a4 a5 : α) (l : List α) : atI (a0 :: a1 :: a2 :: a3 :: a4 :: a5 :: l) 5 = some a5 := by
  unfold atI ixN
  rw [if_pos (by decide), if_pos (by simp only [List.length_cons]; omega)]
  rfl
end Mx
namespace L2
open PySem PySem.Spec PyProof.Rows PySem.W
/-! ### a def that lets nothing out, called while an exception is handled (its context is not asked) -/
structure FnQ (P : Program) (w : World) (K : PySem.W.Frag) (mg : Str → Option Value) (base : Heap) (k : Nat) (f : Addr) (fd : FuncData) (ps : List Str) (sp : Sp) : Prop where
  len : ∀ vs H Q E, sp vs H Q E → vs.length = ps.length
  run : ∀ (A : Around) (outer : List Env) (s : Shared) (H : Hp) (args : Args) (us : List Value) (vs : List V) (Q : VK) (p : Addr × Obj), L2H.RoomH k A → L2H.PinOk outer H s p → Env0 P w K mg base A outer s H → BindsTo s fd args (ps.zip us) → Vals vs us →
    sp vs H Q E0 → codeAny (model P w) A (.call (.ref f) args) (CR (L2.CX P w) outer P w H s Q E0) s
section
variable {P : Program} {w : World} {K : PySem.W.Frag} {mg : Str → Option Value} {base : Heap}
theorem Fun.okQ {x qual : Str} {st : Stmt} {f : Addr} {fd : FuncData} {N ps : List Str} {k : Nat} {sp : Sp} (F : Fun K x qual st f fd) (S : FnScope N ps (defScope st)) (len : ∀ vs H Q E, sp vs H Q E → vs.length = ps.length)
    (hbody : ∀ (cdv : Value) (A : Around) (outer : List Env) (s : Shared) (H : Hp) (vs : List V) (Q : VK) (E : XK) (p : Addr × Obj), sp vs H Q E →
      ∃ t, PSs (L2H.cxH (L2.CX P w) P w K mg base N qual (defScope st) f cdv A outer s H E p) (defBody st) t ∧ t { nx := fun _ H' => Q .non H', rt := Q } (start N vs) H) : FnQ P w K mg base (k + 1) f fd ps sp := by
  obtain ⟨oc, od, kV, doc, pm, an, cdv, ct, osl, rfl, lk, hcd⟩ := F.ex
  refine ⟨len, fun A outer s H args us vs Q p room pin e0 binds rv hsp => ?_⟩
  have inK : K.In s.heap := e0.mod.kin.keeps fun b o e => (e0.bs b o e).1
  have noLim : s.heap.NoLimit := e0.mod.nolimit.keeps fun b o e => (e0.bs b o e).1
  refine codeAny_call_function room.depth (inK _ _ lk) rfl S.co S.gen rfl (PySem.W.codeRec_of inK hcd) (binds _ _ _ _ ?_)
  have kinds : ∀ y ∈ ps.zip us, (defScope st).names.lookup y.1 = some .local ∨ ((defScope st).names.lookup y.1 = some .cell ∧ ((cellsFrom (s.heap.objs.size + 1) (defScope st).names []).lookup y.1).isSome = true) := by
    rintro ⟨n, v⟩ hy
    exact (S.par n (List.of_mem_zip hy).1).imp id fun q => ⟨q, PySem.W.cellsFrom_some _ _ _ (.inl q)⟩
  refine wpAny_newFunctionEnv_cells S.kind kinds fun env he s1 x => ?_
  subst he
  refine ⟨noLim.keeps x.toInCall.keep, codeAny_func ?_⟩
  obtain ⟨t, walk, goal⟩ := hbody cdv A outer s H vs Q E0 p hsp
  have I := L2H.inv_startH (CX := L2.CX P w) (E := E0) (A := A) S pin e0 (len _ _ _ _ hsp) rv x
  have back : ∀ {σ' : St} {H' : Hp} {v : V} {u : Value} {s' : Shared}, Inv (L2H.cxH (L2.CX P w) P w K mg base N qual (defScope st) f cdv A outer s H E0 p) [] σ' H' s' → RelV v u → Q v H' → CE outer P w H s Q u s' :=
    fun J r q => ⟨_, _, J.os, J.bare, J.base, J.hok, r, q⟩
  refine wpAny_mono (walk.run [] s1 (start N vs) H _ I goal) (fun fl s' hs => ?_) fun _ _ h => h
  cases fl with
  | next => obtain ⟨_, _, J, q⟩ := hs; exact back (v := V.non) (u := Value.none) J rfl q
  | ret u => obtain ⟨_, _, _, J, r, q⟩ := hs; exact back J r q
  | brk => obtain ⟨_, _, _, q⟩ := hs; exact q.elim
  | cont => obtain ⟨_, _, _, q⟩ := hs; exact q.elim
variable {X : Cx} {k : Nat} {f : Addr} {fd : FuncData} {ps : List Str} {sp : Sp} {x : Str} {q pos : Pos} {e : Expr} {es : List Expr} {t : TA}
theorem roomH_mark {k : Nat} {A : Around} {v : Option Value} (r : Room k A) : L2H.RoomH k (A.mark v) := ⟨r.dp, r.un⟩
theorem pe_callQ (F : FnQ X.prog X.w X.K X.mg X.base k f fd ps sp) (hr : L2H.RoomH k X.A) (hp : ∃ p, p ∈ X.pn) (hg : Gl X x) (hm : X.mg x = some (.ref f)) (hk : PySem.W.keepIn X.K (.ref f) = true) (hb : Binds X.K fd ps [])
    (ha : PA X (e :: es) t) (hdb : (x == ("__debug__" : Str)) = false := by decide) (he : starEach (e :: es) X.env = (false, eval e X.env) :: starEach es X.env := by rfl) (hpl : (backTo pos (starEach es X.env)).any (·.1) = false := by rfl) :
    PE X (.Call (.Name x q) (e :: es) [] pos) (tCallSD sp [] (fun _ => E0) t) := by
  refine ⟨fun pins s σ H Q I h => wpAny_Call_Name_kw (ld_glob I hg hm ?_ hdb)⟩
  refine PySem.W.callWith_K (h₀ := X.base) I.ok.mod.kin hk (thn (ha.run pos pins s σ H _ I h) fun us s1 ⟨vs, H1, I1, r, q1⟩ => ⟨I1.kIn, ?_⟩) he hpl
  have q1 : sp (vs ++ []) H1 Q E0 := q1
  rw [List.append_nil] at q1
  obtain ⟨p, hp⟩ := hp
  have P1 := I1.pin p (List.mem_append_left _ hp)
  have pin : L2H.PinOk X.stack H1 s1 p := ⟨P1.1, P1.2.1, fun hm => (List.mem_cons.mp (I1.stkSub p.1 hm)).elim P1.2.2.1 P1.2.2.2.1, P1.2.2.2.2⟩
  have b := hb s1 us I1.kIn (by rw [List.append_nil, ← r.length]; exact F.len _ _ _ _ q1)
  rw [List.append_nil] at b
  refine wpAny_call (codeAny_mono (F.run X.A X.stack s1 H1 ⟨us, []⟩ us vs Q p hr pin I1.env0 b r q1) fun res s' hq => ?_)
  cases res with
  | ok fl =>
    cases fl with
    | ret u => exact I1.after hq
    | next => exact hq.elim
    | brk => exact hq.elim
    | cont => exact hq.elim
  | error er =>
    obtain ⟨_, _, _, _, _, _, _, _, _, _, _, _, z⟩ := hq
    exact False.elim z
end
end L2
namespace L2
open PySem PySem.Spec PyProof.Rows PySem.W
section
variable {prog : Program} {w : World} {A : Around} {E : Value → Shared → Prop} {s : Shared}
/-- l[lo:hi] = b for any ends whose bounds are a, c -/
theorem setItem_sliceG {l b sl : Addr} {items new : Array Value} {n n2 : Nat} {vl vu : Value} {lo hi : Option Int} {a c : Nat} {Q : Unit → Shared → Prop}
    (e : s.heap.get? l = some { cls := .type "list", data := .seq items n }) (e2 : s.heap.get? b = some { cls := .type "list", data := .seq new n2 }) (hne : l ≠ b)
    (hs : s.heap.IsSliceOf sl vl vu .none) (pl : IsPart vl lo) (pu : IsPart vu hi) (hb2 : sliceBounds lo hi none items.size = ((a : Int), (c : Int), 1)) (hac : a ≤ c) (hc : c ≤ items.size)
    (hsz : items.size + new.size ≤ sizeLine) (h : Q () { s with heap := s.heap.update l (Obj.mapSeq fun xs => xs.extract 0 a ++ new ++ xs.extract c xs.size) }) :
    wpAny (model prog w) A (setItem (.ref l) (.ref sl) (.ref b)) Q E s := by
  have tl : s.heap.IsList l items := PySem.IsL.isList e
  have tb : s.heap.IsList b new := PySem.IsL.isList e2
  obtain ⟨os, hos, hcs, hds⟩ := id hs
  have ts : s.TypeIs (.ref sl) "slice" := ⟨os, hos, hcs⟩
  have nostep : ¬ ((rawPart none == rawInt 0) = true) := Bool.false_ne_true
  have other : Builtin.List.listSameRef (.ref l) (.ref b) = false := by
    unfold Builtin.List.listSameRef
    exact beq_eq_false_iff_ne.mpr hne
  have mx : (max (a : Int) (c : Int)).toNat = c := by omega
  have fits : ((fun xs : Array Value => xs.extract 0 a ++ new ++ xs.extract c xs.size) items).size ≤ sizeLine + 1 := by
    simp only [Array.size_append, Array.size_extract]
    omega
  unfold setItem
  try with_reducible refine wpAny_holding ?_
  first | refine wpAny_bind (wpAny_pure ?_) | skip
  refine wpAny_bind (wpAny_sequenceKey tl.typeIs (by decide) ?_)
  refine wpAny_bind (wpAny_callSpecial?_slot (name := Str.ofString "__setitem__") tl.typeIs slot_list_setitem
    (wpAny_call_entry slot_list_setitem tl.typeIs entry_list_setitem ?_ (args_list_setitem _ _ _)))
  show wpAny _ _ (Builtin.List.listSubscript? (.ref sl) >>= _) _ _ s
  refine wpAny_bind ?_
  unfold Builtin.List.listSubscript?
  refine wpAny_bind (wpAny_specialOf ts slice_no_index ?_)
  simp only [Option.isNone_none, if_true]
  refine wpAny_pure ?_
  show wpAny _ _ (typeOf (.ref sl) >>= _) _ _ s
  refine wpAny_bind (wpAny_typeOf ts ?_)
  first
    | rw [if_neg (by decide)]
    | refine PySem.W.KFB.if_not (by decide) ?_
  rw [listSliceParts_eq]
  refine wpAny_bind (wpAny_bind (wpAny_field hos hds (x := .none) rfl (wpAny_bind (wpAny_listPart .none ?_))))
  rw [if_neg nostep]
  refine wpAny_bind (wpAny_field hos hds (x := vl) rfl (wpAny_bind (wpAny_listPart pl ?_)))
  refine wpAny_bind (wpAny_field hos hds (x := vu) rfl (wpAny_bind (wpAny_listPart pu (wpAny_pure ?_))))
  first
    | simp only [other, Bool.false_eq_true, if_false]
    | refine PySem.W.KFB.if_not other ?_
    | (dsimp only
       rw [if_neg (by rw [other]; exact Bool.false_ne_true)])
  refine wpAny_bind (m := Builtin.List.listAllItems (.ref b) "must assign iterable to extended slice") ?_
  unfold Builtin.List.listAllItems
  refine wpAny_bind (wpAny_typeOf tb.typeIs ?_)
  first
    | refine PySem.W.KFB.if_so (by decide) ?_
    | rw [if_pos (by decide)]
    | simp only [beq_self_eq_true, Bool.true_or, if_true]
  unfold Builtin.List.listItems
  refine wpAny_bind (wpAny_seqItems e2 rfl (wpAny_pure ?_))
  refine wpAny_bind (wpAny_bind (wpAny_seqItems e rfl (wpAny_pure ?_)))
  refine wpAny_bind (wpAny_of_eq ((sliceIndices_raw lo hi none items.size (by simp)).trans (congrArg (pure : Int × Int × Int → Sem (Int × Int × Int)) hb2)) ?_)
  show wpAny _ _ (if ((1 : Int) == 1) = true then _ else _) _ _ s
  rw [if_pos (by decide)]
  refine wpAny_bind (wpAny_rule ?_)
  first
    | simp only [notLongL hsz, Bool.false_eq_true, if_false]
    | refine PySem.W.KFB.if_not (notLongL hsz) ?_
  first | refine wpAny_bind (wpAny_pure ?_) | skip
  show wpAny _ _ (updateSeq l (fun xs => xs.extract 0 ((a : Int)).toNat ++ new ++ xs.extract (max (a : Int) (c : Int)).toNat xs.size) >>= _) _ _ s
  rw [mx, Int.toNat_natCast]
  refine wpAny_bind (wpAny_updateSeq (hz := Nat.le_trans (Nat.le_add_right _ _) hsz) (_hz' := fits) e rfl ?_)
  refine wpAny_bind (wpAny_letGo ?_)
  first
    | exact wpAny_bind (wpAny_pure (wpAny_pure ⟨.none, rfl, wpAny_pure h⟩))
    | exact wpAny_pure ⟨.none, rfl, wpAny_pure h⟩
end
theorem bounds_to {k : Int} (h : 0 ≤ k) (n : Nat) : sliceBounds none (some k) none n = (((0 : Nat) : Int), ((min k.toNat n : Nat) : Int), 1) := by
  have h2 : ¬ (k < 0) := by omega
  simp only [sliceBounds, Option.getD_none, h2, if_false, show (1 : Int) > 0 by decide, if_true]
  congr 1
  congr 1
  omega
theorem drop_min {α : Type} (l : List α) (k n : Nat) (h : l.length ≤ n) : l.drop (min k n) = l.drop k := by
  by_cases c : k ≤ n
  · rw [Nat.min_eq_left c]
  · rw [Nat.min_eq_right (by omega), List.drop_of_length_le h, List.drop_of_length_le (by omega)]
section
variable {X : Cx} {o hi : Expr} {p2 pos : Pos} {to th : TE}
/-- o[:k] = v, another list -/
def gSlT (to th : TE) : TG := fun v σ H R => to σ H fun x H1 => th σ H1 fun y H2 => ∃ (p b : Addr) (xs ys : List V) (k : Int), x = .ref p ∧ v = .ref b ∧ y = .int k ∧ 0 ≤ k ∧ H2 p = some (.lst xs) ∧ H2 b = some (.lst ys) ∧ p ≠ b ∧ xs.length + ys.length ≤ sizeLine ∧
  R σ (upd H2 p (.lst (ys ++ xs.drop k.toNat)))
theorem pg_slT (ho : PE X o to) (hh : PE X hi th)
    (ha : ∀ v, assign (.Subscript o (.Slice none (some hi) none p2) pos) X.env v = (do
      let ov ← holding [v] (eval o X.env)
      let iv ← holding [v, ov] (eval (.Slice none (some hi) none p2) X.env)
      standAt pos
      holding [v, ov, iv] (setItem ov iv v)
      release [iv, v, ov] []) := by intro _; rfl) : PG X (.Subscript o (.Slice none (some hi) none p2) pos) (gSlT to th) := by
  refine ⟨fun pins s σ H v u Q I r h => ?_⟩
  rw [ha]
  refine wpAny_bind (wpAny_holding (thn (ho.run pins s σ H _ I h) fun ov s1 ⟨x, H1, I1, r1, q1⟩ => ?_))
  refine wpAny_bind (wpAny_holding (wpAny_Slice ?_))
  rw [evalPart_none]
  refine wpAny_pure ?_
  rw [evalPart_some]
  refine thn (hh.run pins s1 σ H1 _ I1 q1) fun vu s2 ⟨y, H2, I2, r2, q2⟩ => ?_
  refine wpAny_pure ?_
  obtain ⟨p, b, xs, ys, k, rfl, rfl, rfl, k0, hp, hb, ne, hz, q⟩ := q2
  obtain ⟨t, rfl⟩ := r2
  have I3 : Inv X pins σ H2 { s2 with heap := s2.heap.push { cls := .type "slice", data := .fields #[.none, .int k t, .none] } } := I2.kept (t' := s2.toks) fun b ob q => Heap.get?_push_of_some _ q
  refine wpAny_bind (wpAny_standAt (wpAny_bind (wpAny_holding ?_)))
  obtain rfl : ov = Value.ref p := r1
  obtain rfl : u = Value.ref b := r
  obtain ⟨z, its, n, ri, hl, e⟩ := I3.lstM hp
  obtain ⟨z2, its2, n2, rj, hl2, e2⟩ := I3.lstM hb
  refine setItem_sliceG (a := 0) (c := min k.toNat its.toArray.size) e e2 ne (Heap.IsSliceOf.new ..) .none (.int _ _) (bounds_to k0 _) (Nat.zero_le _) (Nat.min_le_right _ _) (by rw [List.size_toArray, List.size_toArray]; omega) ?_
  have ed : its.drop (min k.toNat its.toArray.size) = its.drop k.toNat := drop_min _ _ _ (by rw [List.size_toArray]; exact Nat.le_refl _)
  refine wpAny_release ⟨σ, _, I3.lset (its' := its.take 0 ++ its2 ++ its.drop (min k.toNat its.toArray.size)) (t' := s2.toks) hp e (splice_eq its its2 0 _) (ys := ys ++ xs.drop k.toNat) ?_ ?_, q⟩
  · rw [ed]
    exact Vals.append (by simpa using rj) (ri.drop _)
  · rw [List.length_append, List.length_drop]; omega
end
end L2
namespace Mx
open PySem PySem.Spec PyProof.Rows L2
/-- xs[:k] = e -/
def slO (D : Ds) (i : Nat) (l : List Dt) (d : Dt) : Dt → Out
  | .int k => match d with
    | .lst y => if 0 ≤ k ∧ l.length + y.length ≤ 1000000 then .nx (D.set i (.ol (y ++ l.drop k.toNat))) else .bad
    | _ => .bad
  | _ => .bad
@[simp] theorem slO_int (D : Ds) (i : Nat) (l y : List Dt) (k : Int) : slO D i l (.lst y) (.int k) = if 0 ≤ k ∧ l.length + y.length ≤ 1000000 then .nx (D.set i (.ol (y ++ l.drop k.toNat))) else .bad := rfl
@[simp] def xsSlT (i : Nat) (xk xe : XE) : XS := fun D => (xe D).out D fun d => (Sl.lst? D[i]?).out D fun l => (xk D).out D fun k => slO D i l d k
section
variable {K : Fr} {cl : Cl} {E : L2.St → XK}
theorem ss_slT {i : Nat} {tk te : TE} {xk xe : XE} (hk : Sim K cl E tk xk) (h : Sim K cl E te xe) : SimS K cl E (tAsg te (gSlT (tVar i) tk)) (xsSlT i xk xe) := fun B H0 O σ D H s En q => by
  unfold xsSlT at q
  refine h B H0 O σ D H s _ ?_
  cases e : xe D with
  | bad => rw [e] at q; exact q.elim
  | ex c fs => rw [e] at q; exact q O σ H s (Same.refl _)
  | ok d =>
    rw [e] at q
    simp only [out_ok] at q
    intro v H1 e1 rv
    cases el : Sl.lst? D[i]? with
    | bad => rw [el] at q; exact q.elim
    | ex c fs => exact (lst?_ex el).elim
    | ok l =>
      rw [el] at q
      simp only [out_ok] at q
      have hi := lst?_eq el
      obtain ⟨a, ea, ma, vs, ha, ra⟩ := own_at (s.mono e1) hi rfl
      refine ⟨.ref a, ea, ?_⟩
      refine hk B H0 O σ D H1 (s.mono e1) _ ?_
      cases ek : xk D with
      | bad => rw [ek] at q; exact q.elim
      | ex c fs => rw [ek] at q; exact q O σ H1 (s.mono e1) (hid_mono e1)
      | ok k =>
        rw [ek] at q
        simp only [out_ok] at q
        intro w H2 e2 rw'
        cases k with
        | int k =>
          cases rw'
          cases d with
          | lst y =>
            rw [slO_int] at q
            split at q
            · rename_i hz
              cases rv with
              | lst hb rb =>
                rename_i b ws
                have nb : b ∉ O := fun m => by
                  unfold hid at hb
                  rw [if_pos m] at hb
                  cases hb
                have hb1 : H1 b = some (.lst ws) := by rw [hid_nin nb] at hb; exact hb
                have ne : a ≠ b := fun z => nb (z ▸ ma)
                have rb' := rb.mono (hid_mono (O := O) e2)
                have ra' := ra.mono (hid_mono (O := O) e2)
                refine ⟨a, b, vs, ws, k, rfl, rfl, rfl, hz.1, e2 _ _ ha, e2 _ _ hb1, ne, ?_, ?_⟩
                · rw [ra.len, rb.len]
                  have := hz.2
                  rw [sizeLine_eq]; omega
                · refine q O σ _ ((s.mono (e1.trans e2)).mut hi rfl ea ⟨_, upd_same, rb'.app (ra'.drop _)⟩) ?_
                  rw [hid_upd ma]
                  exact hid_mono (e1.trans e2)
            · exact q.elim
          | _ => exact q.elim
        | _ => exact q.elim
end
end Mx
namespace Mx
open PySem PySem.Spec PyProof.Rows L2
section
variable {K : Fr} {cl : Cl} {H H' H1 H0 : Hp} {O : List Addr}
/-! ### texts taken apart -/
def rPart : V → List V → Hp → VK → Prop := fun x xs H Q => ∃ a b, x = .str a ∧ xs = [.str b] ∧ (b.length == 0) = false ∧ a.length ≤ sizeLine ∧ ∀ p, H p = none → Q (.ref p) (upd H p (.tup [.str (Txt.partition a b).1, .str (Txt.partition a b).2.1, .str (Txt.partition a b).2.2]))
theorem mt_partA {X : Cx} : MtR X "str.partition" rPart := mt_partition
def dPtn : Dt → List Dt → R Dt
  | .str a, [.str b] => if (b.length == 0) = false ∧ a.length ≤ 1000000 then .ok (.tup [.str (Txt.partition a b).1, .str (Txt.partition a b).2.1, .str (Txt.partition a b).2.2]) else .bad
  | _, _ => .bad
@[simp] theorem dPtn_str (a b : Str) : dPtn (.str a) [.str b] = if (b.length == 0) = false ∧ a.length ≤ 1000000 then .ok (.tup [.str (Txt.partition a b).1, .str (Txt.partition a b).2.1, .str (Txt.partition a b).2.2]) else .bad := rfl
theorem ms_part : ∀ O H x xs a ds E, Trk O H → RepB K cl O H x a → RepBL K cl O H xs ds → ∀ Q : VK, PostE K cl E O H Q (dPtn a ds) → rPart x xs H Q := fun O H x xs a ds E ho rx r Q q => by
  unfold dPtn at q
  split at q
  · rename_i z b
    obtain ⟨v, rfl, h⟩ := r.one
    cases rx.str_
    cases h.str_
    split at q
    · rename_i hz
      exact ⟨_, _, rfl, rfl, hz.1, by rw [sizeLine_eq]; omega, new_tup ho q (.cons (.str _) (.cons (.str _) (.cons (.str _) .nil)))⟩
    · exact q.elim
  · exact q.elim
def rStw : V → List V → Hp → VK → Prop := fun x xs H Q => ∃ a b, x = .str a ∧ xs = [.str b] ∧ Q (.bl (Txt.startswith a b)) H
theorem mt_stwA {X : Cx} : MtR X "str.startswith" rStw := mt_startswith
def dStw : Dt → List Dt → R Dt
  | .str a, [.str b] => .ok (.bl (Txt.startswith a b))
  | _, _ => .bad
@[simp] theorem dStw_str (a b : Str) : dStw (.str a) [.str b] = .ok (.bl (Txt.startswith a b)) := rfl
theorem ms_stw : ∀ O H x xs a ds E, Trk O H → RepB K cl O H x a → RepBL K cl O H xs ds → ∀ Q : VK, PostE K cl E O H Q (dStw a ds) → rStw x xs H Q := fun O H x xs a ds E ho rx r Q q => by
  unfold dStw at q
  split at q
  · obtain ⟨v, rfl, h⟩ := r.one
    cases rx.str_
    cases h.str_
    exact ⟨_, _, rfl, rfl, ok_ret q (.bl _)⟩
  · exact q.elim
/-- a method of a text that gives a fresh list -/
@[simp] def xBMgL (g : Dt → Bool) (f : Dt → List Dt → R (List Dt)) (xo : XE) (xa : XA) : XA := fun D => (xo D).bind fun o => if g o = true then (xa D).bind fun a => f o a else .bad
theorem simL_bm {E : L2.St → XK} {T : String} {r : V → List V → Hp → VK → Prop} {f : Dt → List Dt → R (List Dt)} {g : Dt → Bool} {to : TE} {t : TA} {xo : XE} {xa : XA} (ht : TyS K cl T g)
    (hr : ∀ O H x xs a ds E, Trk O H → RepB K cl O H x a → RepBL K cl O H xs ds → ∀ Q : VK, PostL K cl E O H Q (f a ds) → r x xs H Q) (ho : SimB K cl E to xo) (ha : SimBA K cl E t xa) :
    SimL K cl E (tBM K T r to t) (xBMgL g f xo xa) := fun B H0 O σ D H s Q q => by
  refine ho B H0 O σ D H s _ ?_
  cases ea : xo D with
  | bad => simp only [xBMgL, ea] at q; exact q.elim
  | ex c fs => simp only [xBMgL, ea] at q; exact q
  | ok o =>
    simp only [xBMgL, ea, R.bind] at q
    intro x H1 e1 rx
    split at q
    · rename_i hg
      refine ⟨ht O H1 x o rx hg, ?_⟩
      refine ha B H0 O σ D H1 (s.mono e1) _ ?_
      cases eb : xa D with
      | bad => simp only [eb] at q; exact q.elim
      | ex c fs => simp only [eb] at q; exact ExOk.mono e1 q
      | ok ds =>
        simp only [eb] at q
        intro vs H2 e2 rv
        exact hr O H2 x vs o ds (E σ) (fun a m => (((s.mono e1).mono e2).own a m).2) (rx.mono e2) rv Q (post_L (e1.trans e2) q)
    · exact q.elim
def rSplit : V → List V → Hp → VK → Prop := fun x xs H Q => ∃ a b, x = .str a ∧ xs = [.str b] ∧ (b.length == 0) = false ∧ a.length + 2 ≤ sizeLine ∧ rNewStrs (Txt.split a b) H Q
theorem mt_splitA {X : Cx} : MtR X "str.split" rSplit := mt_split
def dSplit : Dt → List Dt → R (List Dt)
  | .str a, [.str b] => if (b.length == 0) = false ∧ a.length ≤ 1000000 then .ok ((Txt.split a b).map Dt.str) else .bad
  | _, _ => .bad
@[simp] theorem dSplit_str (a b : Str) : dSplit (.str a) [.str b] = if (b.length == 0) = false ∧ a.length ≤ 1000000 then .ok ((Txt.split a b).map Dt.str) else .bad := rfl
theorem ms_split : ∀ O H x xs a ds E, Trk O H → RepB K cl O H x a → RepBL K cl O H xs ds → ∀ Q : VK, PostL K cl E O H Q (dSplit a ds) → rSplit x xs H Q := fun O H x xs a ds E ho rx r Q q => by
  unfold dSplit at q
  split at q
  · obtain ⟨v, rfl, h⟩ := r.one
    cases rx.str_
    cases h.str_
    split at q
    · rename_i hz
      exact ⟨_, _, rfl, rfl, hz.1, by rw [sizeLine_eq]; omega, new_post q (RepL.ofStrs _)⟩
    · exact q.elim
  · exact q.elim
/-- int of a text -/
def rIntS : List V → Hp → VK → Prop := fun xs H Q => ∃ a n, xs = [.str a] ∧ PySem.intText? a = some n ∧ a.length ≤ 640 ∧ Q (.int n) H
theorem call_intS {X : Cx} : CallR X (.type "int") rIntS := call_int_str
def dIntS : List Dt → R Dt
  | [.str a] => (opt (PySem.intText? a)).bind fun n => if a.length ≤ 640 then .ok (.int n) else .bad
  | _ => .bad
@[simp] theorem dIntS_str (a : Str) : dIntS [.str a] = (opt (PySem.intText? a)).bind fun n => if a.length ≤ 640 then .ok (.int n) else .bad := rfl
theorem cs_intS : CaS K cl rIntS dIntS := fun O H xs ds E ho r Q q => by
  unfold dIntS at q
  split at q
  · obtain ⟨v, rfl, h⟩ := r.one
    cases h.str_
    rename_i a
    cases e : PySem.intText? a with
    | none => rw [e] at q; exact q.elim
    | some n =>
      rw [e] at q
      simp only [opt_some, R.bind] at q
      split at q
      · rename_i hz
        exact ⟨_, _, rfl, e, hz, ok_ret q (.int _)⟩
      · exact q.elim
  · exact q.elim
end
end Mx
namespace Mx
open PySem PySem.Spec PyProof.Rows L2
section
variable {K : Fr} {cl : Cl} {E : L2.St → XK} {E0 : XK} {H H' H1 H0 : Hp} {O O' : List Addr} {σ : L2.St} {D : Ds} {B : List Addr}
/-! ### try: .. except C: .. -/
def Out.noEx : Out → Out
  | .ex _ _ _ => .bad
  | o => o
@[simp] theorem noEx_rt (d : Dt) : Out.noEx (.rt d) = .rt d := rfl
@[simp] theorem noEx_nx (D : Ds) : Out.noEx (.nx D) = .nx D := rfl
@[simp] theorem noEx_bk (D : Ds) : Out.noEx (.bk D) = .bk D := rfl
@[simp] theorem noEx_ct (D : Ds) : Out.noEx (.ct D) = .ct D := rfl
def Out.tryO (cs ns : List Str) (xh : XS) : Out → Out
  | .ex c fs D => if c ∈ cs then Out.noEx (xh D) else if c ∈ ns then .ex c fs D else .bad
  | o => o
@[simp] theorem tryO_ex (cs ns : List Str) (xh : XS) (c : Str) (fs : List (Str × Dt)) (D : Ds) :
    Out.tryO cs ns xh (.ex c fs D) = if c ∈ cs then Out.noEx (xh D) else if c ∈ ns then .ex c fs D else .bad := rfl
@[simp] theorem tryO_rt (cs ns : List Str) (xh : XS) (d : Dt) : Out.tryO cs ns xh (.rt d) = .rt d := rfl
@[simp] theorem tryO_nx (cs ns : List Str) (xh : XS) (D : Ds) : Out.tryO cs ns xh (.nx D) = .nx D := rfl
@[simp] def xsTryO (cs ns : List Str) (xb xh : XS) : XS := fun D => (xb D).tryO cs ns xh
def tTryO (K : Fr) (c0 : Value) (tb : WX → TS) (ts : Addr → Value → Option Addr → TS) (Wout : WX) : TS := fun En σ H => tb (wOnly K c0 ts Wout En) En σ H
theorem ps_tryOM {X : Cx} {x : Str} {c : Value} {body suite : List Stmt} {b0 : Stmt} {np pos pos' : Pos} {tb : WX → TS} {ts : Addr → Value → Option Addr → TS} {Wout : WX} (hs : X.stack = X.env :: X.outer) (hf : X.env.frame = some X.env.locals)
    (hc : Names X x c) (tk : L2.Takes X Wout)
    (hb : ∀ (W : WX) (pn : List (Addr × Obj)) (xe : Value → Shared → Prop), L2.Takes (X.tr pn xe) W → PassesOwn (model X.prog X.w) X.A X.env xe → PSs (X.tr pn xe) body (tb W))
    (hsu : ∀ (a : Addr) (oe : Obj) (cls : Value) (d : Option Addr) (pn : List (Addr × Obj)), Zc cls d oe → (∃ vs, oe.data = .fields vs) → PSs (X.suite a ((a, oe) :: pn)) (b0 :: suite) (ts a cls d)) :
    PS X (.Try body [.ExceptHandler (some (.Name x np)) none (b0 :: suite) pos'] [] [] pos) (tTryO X.K c tb ts Wout) := ps_try_only hs hf hc tk hb hsu
theorem ss_tryO {cs ns : List Str} {c0 : Value} {tb : WX → TS} {ts : Addr → Value → Option Addr → TS} {xb xh : XS} {E1 : L2.St → XK} (hcs : Catch K cl c0 true cs) (hns : Catch K cl c0 false ns)
    (hb : ∀ W : WX, SimS K cl (WE W) (tb W) xb) (hs : ∀ (a C : Addr) (d : Option Addr), SimS K cl E1 (ts a (.ref C) d) xh) :
    SimS K cl (fun _ => E0) (tTryO K c0 tb ts (fun cls d _ H => E0 cls d H)) (xsTryO cs ns xb xh) := fun B H0 O σ D H s En q => by
  unfold xsTryO at q
  unfold tTryO
  refine hb _ B H0 O σ D H s En ?_
  cases e : xb D with
  | bad => rw [e] at q; exact q.elim
  | nx D => rw [e] at q; exact q
  | bk D => rw [e] at q; exact q
  | ct D => rw [e] at q; exact q
  | rt d => rw [e] at q; exact q
  | ex c fs D1 =>
    rw [e] at q
    rw [tryO_ex] at q
    intro O2 σ2 H2 s2 f2
    have key : ∀ (b : Bool), (∀ C, cl c = some C → PySem.W.exmOne K (.ref C) c0 = some b) → (∀ (H3 : Hp) (C : Addr) (d : Option Addr), b = true → Same H2 H3 → ∀ a, ts a (.ref C) d En σ2 H3) →
        (b = false → ExOk K cl E0 O2 c fs H2) → ExOk K cl (WE (wOnly K c0 ts (fun cls d _ H => E0 cls d H) En) σ2) O2 c fs H2 := fun b hb1 hyes hno C hC =>
      ⟨fun z H3 e3 => ⟨b, hb1 C hC, fun hb a na => hyes H3 C none hb e3 a, fun hb => ((hno hb) C hC).1 z H3 e3⟩, fun H3 dd fv e3 hd hk r => ⟨b, hb1 C hC, fun hb a na => hyes H3 C (some dd) hb e3 a, fun hb => ((hno hb) C hC).2 H3 dd fv e3 hd hk r⟩⟩
    split at q
    · rename_i hm
      refine key true (fun C hC => hcs.get hm hC) (fun H3 C d _ e3 a => ?_) (fun z => by cases z)
      refine hs a C d B H0 O2 _ _ H3 (s2.mono e3) _ ?_
      have f3 : Same (hid O H) (hid O2 H3) := f2.trans (hid_mono e3)
      cases eh : xh D1 with
      | bad => rw [eh] at q; exact q.elim
      | ex c' fs' D2 => rw [eh] at q; exact q.elim
      | rt d2 => rw [eh] at q; exact q
      | nx D2 => rw [eh] at q; exact fun O4 σ4 H4 s4 f4 => q O4 σ4 H4 s4 (f3.trans f4)
      | bk D2 => rw [eh] at q; exact fun O4 σ4 H4 s4 f4 => q O4 σ4 H4 s4 (f3.trans f4)
      | ct D2 => rw [eh] at q; exact fun O4 σ4 H4 s4 f4 => q O4 σ4 H4 s4 (f3.trans f4)
    · split at q
      · rename_i hm
        exact key false (fun C hC => hns.get hm hC) (fun _ _ _ z => by cases z) (fun _ => q O2 σ2 H2 s2 f2)
      · exact q.elim
end
end Mx
namespace Mx
open PySem PySem.Spec PyProof.Rows L2
section
variable {K : Fr} {cl : Cl} {H H' H1 H0 Hh : Hp} {O O' B : List Addr} {E : L2.St → XK} {E0 : XK} {σ : L2.St} {D : Ds}
/-! ### a def that returns a new tree -/
inductive OutT where
  | bad | rt (t : Ow) | ex (c : Str) (fs : List (Str × Dt)) (D : Ds)
abbrev XRT := Ds → OutT
def PostTr (K : Fr) (cl : Cl) (B : List Addr) (H0 : Hp) (E : L2.St → XK) (En : Ends) (O : List Addr) (H : Hp) : OutT → Prop
  | .bad => False
  | .rt t => ∀ v F H', Same H0 H' → F.Nodup → (∀ a, a ∈ F → H0 a = none) → Tr K cl H' (hid (F ++ B) H') v t F → En.rt v H'
  | .ex c fs D => ∀ O' σ' H', RS K cl B H0 O' σ' D H' → Same (hid O H) (hid O' H') → ExOk K cl (E σ') O' c fs H'
def SimRT (K : Fr) (cl : Cl) (E : L2.St → XK) (ts : TS) (xr : XRT) : Prop := ∀ B H0 O σ D H, RS K cl B H0 O σ D H → ∀ En, PostTr K cl B H0 E En O H (xr D) → ts En σ H
def Out.seqT (o : Out) (ys : XRT) : OutT := match o with
  | .nx D => ys D
  | .ex c fs D => .ex c fs D
  | _ => .bad
@[simp] theorem seqT_nx (D : Ds) (ys : XRT) : Out.seqT (.nx D) ys = ys D := rfl
@[simp] theorem seqT_ex (c : Str) (fs : List (Str × Dt)) (D : Ds) (ys : XRT) : Out.seqT (.ex c fs D) ys = .ex c fs D := rfl
@[simp] def xtSeq (xs : XS) (ys : XRT) : XRT := fun D => (xs D).seqT ys
theorem PostTr.fw {En : Ends} (e : Same (hid O H) (hid O' H')) {o : OutT} (q : PostTr K cl B H0 E En O H o) : PostTr K cl B H0 E En O' H' o := by
  cases o with
  | bad => exact q
  | rt l => exact q
  | ex c fs D => exact fun O2 σ2 H2 r f => q O2 σ2 H2 r (e.trans f)
theorem srt_seq {t u : TS} {xs : XS} {ys : XRT} (h1 : SimS K cl E t xs) (h2 : SimRT K cl E u ys) : SimRT K cl E (tSeq t u) (xtSeq xs ys) := fun B H0 O σ D H s En q => by
  refine h1 B H0 O σ D H s _ ?_
  unfold xtSeq at q
  cases e : xs D with
  | nx D1 =>
    rw [e] at q
    exact fun O' σ' H' r f => h2 B H0 O' σ' D1 H' r En (PostTr.fw f q)
  | ex c fs D1 => rw [e] at q; exact q
  | _ => rw [e] at q; exact q.elim
/-- return [a, b, l] -/
def xtDisp (xa xb : XE) (i : Nat) : XRT := fun D => match xa D, xb D, D[i]? with
  | .ok a, .ok b, some (.ol l) => .rt (.ol [.sh a, .sh b, .ol (l.map Ow.sh)])
  | _, _, _ => .bad
theorem xtDisp_ok {xa xb : XE} {i : Nat} {D : Ds} {a b : Dt} {l : List Dt} (ha : xa D = .ok a) (hb : xb D = .ok b) (hi : D[i]? = some (.ol l)) : xtDisp xa xb i D = .rt (.ol [.sh a, .sh b, .ol (l.map Ow.sh)]) := by
  unfold xtDisp; rw [ha, hb, hi]
theorem srt_disp {ta tb : TE} {xa xb : XE} {i : Nat} (ha : Sim K cl E ta xa) (hb : Sim K cl E tb xb) : SimRT K cl E (tRet (tLst (tCons ta (tCons tb (tCons (tVar i) tNil))))) (xtDisp xa xb i) := fun B H0 O σ D H s En q => by
  unfold xtDisp at q
  cases ea : xa D with
  | bad => rw [ea] at q; exact q.elim
  | ex c fs => rw [ea] at q; exact q.elim
  | ok a =>
    cases eb : xb D with
    | bad => rw [ea, eb] at q; exact q.elim
    | ex c fs => rw [ea, eb] at q; exact q.elim
    | ok b =>
      cases ei : D[i]? with
      | none => rw [ea, eb, ei] at q; exact q.elim
      | some sl =>
        rw [ea, eb, ei] at q
        cases sl with
        | ol l =>
          simp only at q
          refine ha B H0 O σ D H s _ ?_
          rw [ea]
          intro v1 H1 e1 r1
          refine hb B H0 O σ D H1 (s.mono e1) _ ?_
          rw [eb]
          intro v2 H2 e2 r2
          have s2 := s.mono (e1.trans e2)
          obtain ⟨p0, e0, m, vs, h1, rr⟩ := s2.slot i _ ei
          refine ⟨_, e0, ?_⟩
          refine ⟨sz_of (n := 3) (by decide), fun p np => ?_⟩
          have e3 := same_upd (o := .lst [v1, v2, .ref p0]) np
          have hs : Same (hid O H2) (hid ([p, p0] ++ B) (L2.upd H2 p (.lst [v1, v2, .ref p0]))) := (hid_new e3 np).trans (hid_sub fun b hb => by
            simp only [List.cons_append, List.nil_append, List.mem_cons] at hb ⊢
            rcases hb with rfl | rfl | hb
            · exact .inl rfl
            · exact .inr m.1
            · exact .inr (s.bas b hb).1)
          have nep : p0 ≠ p := fun z => by rw [z] at h1; rw [np] at h1; cases h1
          refine q (.ref p) [p, p0] _ (s2.same.trans e3) (by simp [Ne.symm nep]) (fun x hx => ?_) ?_
          · simp only [List.mem_cons, List.not_mem_nil, or_false] at hx
            rcases hx with rfl | rfl
            · exact s2.same.free np
            · exact m.2
          · exact .ol upd_same (.cons (F := []) (.sh (r1.mono ((hid_mono e2).trans hs))) (.cons (F := []) (.sh (r2.mono hs)) (.cons (F := [p0]) (.ol ((upd_ne nep).trans h1) (TrL.ofRep (rr.mono hs))) .nil)))
        | _ => exact q.elim
def TreeSp (K : Fr) (cl : Cl) (f : List Dt → R Ow) : Sp := fun vs H Q E => ∃ B ds, (∀ a, a ∈ B → MutO (H a) = true) ∧ RepL K cl (hid B H) vs ds ∧ PostW K cl E B H Q (f ds)
def runT (n : Nat) (xr : XRT) (ds : List Dt) : R Ow := match xr (ds.map Sl.sh ++ List.replicate (n - ds.length) .no) with
  | .rt t => .ok t
  | .ex c fs _ => .ex c fs
  | _ => .bad
def funT (k n : Nat) (xr : XRT) (ds : List Dt) : R Ow := if ds.length = k then runT n xr ds else .bad
theorem funT_rt {k n : Nat} {xr : XRT} {ds : List Dt} {D : Ds} {t : Ow} (hl : ds.length = k) (hD : ds.map Sl.sh ++ List.replicate (n - ds.length) .no = D) (h : xr D = .rt t) : funT k n xr ds = .ok t := by
  unfold funT runT; rw [if_pos hl, hD, h]
theorem body_okT {N : List Str} {ts : TS} {xr : XRT} {vs : List V} {H : Hp} {Q : VK} {E : XK} {k : Nat} (hs : SimRT K cl (fun _ => E) ts xr) (hk : vs.length = k) (hN : k ≤ N.length)
    (h : TreeSp K cl (funT k N.length xr) vs H Q E) : ts { nx := fun _ H' => Q .non H', rt := Q } (start N vs) H := by
  obtain ⟨B, ds, hB, r, q⟩ := h
  unfold funT at q
  rw [if_pos (by rw [← r.len]; exact hk)] at q
  refine hs B H B _ _ H (rs_start hB r (by omega)) _ ?_
  unfold runT at q
  cases e : xr (ds.map Sl.sh ++ List.replicate (N.length - ds.length) .no) with
  | bad => rw [e] at q; exact q.elim
  | rt l => rw [e] at q; exact fun v F H' e1 nd n tr => q v F H' e1 nd n tr
  | ex c fs D => rw [e] at q; exact fun O' σ' H' s f => (ExOk.mono s.same q).sub fun a m => (s.bas a m).1
theorem TreeSp.len {k n : Nat} {xr : XRT} {vs : List V} {H : Hp} {Q : VK} {E : XK} (h : TreeSp K cl (funT k n xr) vs H Q E) : vs.length = k := by
  obtain ⟨B, ds, hB, r, q⟩ := h
  unfold funT at q
  split at q
  · rename_i e; rw [r.len]; exact e
  · exact q.elim
theorem post_W {E : XK} {Q : VK} (e : Same H H') {x : R Ow} (q : PostW K cl E O H Q x) : PostW K cl E O H' Q x := by
  cases x with
  | bad => exact q
  | ex c fs => exact ExOk.mono e q
  | ok t => exact fun v F H2 e2 nd n tr => q v F H2 (e.trans e2) nd (fun a m => e.free (n a m)) tr
@[simp] def xCallW (f : List Dt → R Ow) (xa : XA) : XW := fun D => (xa D).bind f
theorem sw_call {f : List Dt → R Ow} {ta : TA} {xa : XA} (ha : SimA K cl E ta xa) : SimW K cl E (tCallSD (TreeSp K cl f) [] E ta) (xCallW f xa) := fun B H0 O σ D H s Q q => by
  refine ha B H0 O σ D H s _ ?_
  cases ea : xa D with
  | bad => simp only [xCallW, ea] at q; exact q.elim
  | ex c fs => simp only [xCallW, ea] at q; exact q
  | ok ds =>
    simp only [xCallW, ea] at q
    intro vs H1 e1 r
    exact ⟨O, ds, (s.mono e1).trk, by rw [List.append_nil]; exact r, post_W e1 q⟩
/-! ### a lent list is lent on -/
def callBr (f : List Dt → R Dt) : Sl → R Dt
  | .br l => (f [.lst l]).bor
  | .sh d => f [d]
  | _ => .bad
@[simp] theorem callBr_br (f : List Dt → R Dt) (l : List Dt) : callBr f (.br l) = (f [.lst l]).bor := rfl
@[simp] theorem callBr_sh (f : List Dt → R Dt) (d : Dt) : callBr f (.sh d) = f [d] := rfl
@[simp] def xCallBr (f : List Dt → R Dt) (i : Nat) : XE := fun D => match D[i]? with
  | some s => callBr f s
  | none => .bad
theorem sim_callBr {f : List Dt → R Dt} {i : Nat} : Sim K cl E (tCallSD (PureSp K cl f) [] E (tCons (tVar i) tNil)) (xCallBr f i) := fun B H0 O σ D H s Q q => by
  unfold xCallBr at q
  cases ei : D[i]? with
  | none => rw [ei] at q; exact q.elim
  | some sl =>
    rw [ei] at q
    cases sl with
    | sh d =>
      refine simS_call (f := f) (sa_cons sim_var sa_nil) B H0 O σ D H s Q ?_
      have : xCall f (xCons (xVar i) xNil) D = f [d] := by simp [ei]
      rw [this]; exact q
    | br l =>
      obtain ⟨a, xs, e, m, h0, rr⟩ := s.slot i _ ei
      have ha := s.same _ _ h0
      have sub : ∀ b, b ∈ O.filter (fun b => decide (b ≠ a)) → b ∈ O := fun b m => (List.mem_filter.mp m).1
      have na : a ∉ O.filter (fun b => decide (b ≠ a)) := fun z => by have := (List.mem_filter.mp z).2; simp at this
      have up : ∀ H', Same H H' → ∀ b o, hid (O.filter fun b => decide (b ≠ a)) H' b = some o → isTI o = true → hid O H' b = some o := fun H' e1 b o hb ho => by
        by_cases hbO' : b ∈ O.filter (fun b => decide (b ≠ a))
        · unfold hid at hb; rw [if_pos hbO'] at hb; cases hb
        · rw [hid_nin hbO'] at hb
          by_cases hbO : b ∈ O
          · have : b = a := by
              by_cases z : b = a
              · exact z
              · exact absurd (List.mem_filter.mpr ⟨hbO, by simpa using z⟩) hbO'
            subst this
            rw [e1 _ _ ha] at hb
            cases hb; cases ho
          · rw [hid_nin hbO]; exact hb
      refine ⟨.ref a, e, O.filter (fun b => decide (b ≠ a)), [.lst l], fun b m => s.trk b (sub b m), RepL.cons (.lst (by rw [hid_nin na]; exact ha) (rr.mono (hid_sub sub))) .nil, ?_⟩
      revert q
      show PostE K cl (E σ) O H Q (f [.lst l]).bor → _
      cases f [.lst l] with
      | bad => exact id
      | ex c fs =>
        intro q
        rw [bor_ex] at q
        split at q
        · rename_i hc
          exact fun C hC => ⟨(q C hC).1, fun H2 d fv e2 hd hk2 rr => (q C hC).2 H2 d fv e2 hd hk2 (rr.cln (up H2 e2) hc)⟩
        · exact q.elim
      | ok d =>
        intro q
        rw [bor_ok] at q
        split at q
        · rename_i hc
          exact fun v H' e1 rv => q v H' e1 (rv.cln (up H' e1) hc)
        · exact q.elim
    | _ => exact q.elim
/-! ### a list in a tree is read, and changed -/
def owShs : List Ow → Option (List Dt)
  | [] => some []
  | .sh d :: r => (owShs r).map (d :: ·)
  | _ => none
theorem owShs_map : ∀ l : List Dt, owShs (l.map Ow.sh) = some l
  | [] => rfl
  | d :: l => by show (owShs (l.map Ow.sh)).map (d :: ·) = _; rw [owShs_map l]; rfl
theorem owShs_eq : ∀ {ts : List Ow} {ds : List Dt}, owShs ts = some ds → ts = ds.map Ow.sh
  | [], ds, h => by cases h; rfl
  | .sh d :: r, ds, h => by
    obtain ⟨l, e, rfl⟩ := Option.map_eq_some_iff.mp (show (owShs r).map (d :: ·) = some ds from h)
    rw [List.map_cons, ← owShs_eq e]
  | .ol _ :: _, _, h => by cases h
  | .oi _ _ :: _, _, h => by cases h
def xOw1 (i : Nat) (xk : XE) : XE := fun D => match D[i]? with
  | some (.ow t) => (xk D).bind fun k => match owCh t k with
    | .ok l' => (opt (owShs l')).bind fun ds => .ok (.lst ds)
    | _ => .bad
  | _ => .bad
theorem simB_ow1 {i : Nat} {tk : TE} {xk : XE} (hk : Sim K cl E tk xk) : SimB K cl E (tOp (rIx K) (tVar i) tk) (xOw1 i xk) := fun B H0 O σ D H s Q q => by
  unfold xOw1 at q
  cases ei : D[i]? with
  | none => rw [ei] at q; exact q.elim
  | some sl =>
    rw [ei] at q
    cases sl with
    | ow t =>
      simp only at q
      obtain ⟨Fs, inn⟩ := s.inn
      obtain ⟨⟨v, hv, tr⟩, nd, fo, own, dj⟩ := inn i t ei
      refine ⟨v, hv, hk B H0 O σ D H s _ ?_⟩
      cases ek : xk D with
      | bad => rw [ek] at q; exact q.elim
      | ex c fs => rw [ek] at q; exact q
      | ok k =>
        rw [ek] at q
        simp only [bind_ok] at q
        intro y H1 e1 rk
        cases ec : owCh t k with
        | bad => rw [ec] at q; exact q.elim
        | ex c fs => exact absurd ec owCh_nex
        | ok l' =>
          rw [ec] at q
          simp only at q
          cases es : owShs l' with
          | none => rw [es] at q; exact q.elim
          | some ds =>
            rw [es] at q
            simp only [opt_some, bind_ok] at q
            obtain ⟨l, kk, n, rfl, rfl, hix, hl⟩ := owCh_ok ec
            cases rk
            generalize Fs i = Fi at tr
            cases tr with
            | ol h r =>
              rename_i a vs F'
              obtain ⟨w, F1, G, F2, ew, eF, tw, _⟩ := r.hole hl
              cases tw with
              | ol hb rb =>
                rename_i b ws G'
                have es' := owShs_eq es
                subst es'
                obtain ⟨_, rl⟩ := rb.reps
                refine .inl ⟨a, vs, kk, .ref b, rfl, rfl, SqL.of (e1 _ _ h), by unfold atI; rw [r.len, hix]; exact ew, ?_⟩
                exact q (.ref b) H1 e1 ⟨b, ws, rfl, e1 _ _ hb, rl.mono (hid_mono e1)⟩
    | _ => exact q.elim
def xsSet2 (i : Nat) (xk xj xe : XE) : XS := fun D => (xe D).out D fun d => match D[i]? with
  | some (.ow t) => (xk D).out D fun k => (owCh t k).out D fun l' => (xj D).out D fun j => (owGet l' j).out D fun _ => (owPut d t k j).out D fun t' => .nx (D.set i (.ow t'))
  | _ => .bad
theorem ss_set2 {i : Nat} {tk tj te : TE} {xk xj xe : XE} (hk : Sim K cl E tk xk) (hj : Sim K cl E tj xj) (he : Sim K cl E te xe) :
    SimS K cl E (tAsg te (gSub (tOp (rIx K) (tVar i) tk) tj rSetL)) (xsSet2 i xk xj xe) := fun B H0 O σ D H s En q => by
  unfold xsSet2 at q
  refine he B H0 O σ D H s _ ?_
  cases ee : xe D with
  | bad => rw [ee] at q; exact q.elim
  | ex c fs => rw [ee] at q; exact q O σ H s (Same.refl _)
  | ok d =>
    rw [ee] at q
    simp only [out_ok] at q
    intro y0 H1 e1 rd0
    cases ei : D[i]? with
    | none => rw [ei] at q; exact q.elim
    | some sl =>
      rw [ei] at q
      cases sl with
      | ow t =>
        simp only at q
        obtain ⟨Fs, inn⟩ := (s.mono e1).inn
        obtain ⟨⟨v, hv, tr⟩, nd, fo, own, dj⟩ := inn i t ei
        refine ⟨v, hv, hk B H0 O σ D H1 (s.mono e1) _ ?_⟩
        cases ek : xk D with
        | bad => rw [ek] at q; exact q.elim
        | ex c fs => rw [ek] at q; exact q O σ H1 (s.mono e1) (hid_mono e1)
        | ok k =>
          rw [ek] at q
          simp only [out_ok] at q
          intro y H2 e2 rk
          cases ec : owCh t k with
          | bad => rw [ec] at q; exact q.elim
          | ex c fs => exact absurd ec owCh_nex
          | ok l' =>
            rw [ec] at q
            simp only [out_ok] at q
            obtain ⟨l, kk, n, rfl, rfl, hix, hl⟩ := owCh_ok ec
            obtain ⟨a, vs, b, ws, rfl, ha, hlen, hb, hbb, hwl, mb, rd, put⟩ := tr.foc nd hl
            cases rk
            refine .inl ⟨a, vs, kk, .ref b, rfl, rfl, SqL.of (e2 _ _ ha), by unfold atI; rw [hlen, hix]; exact hb, ?_⟩
            refine hj B H0 O σ D H2 (s.mono (e1.trans e2)) _ ?_
            cases ej : xj D with
            | bad => rw [ej] at q; exact q.elim
            | ex c fs => rw [ej] at q; exact q O σ H2 (s.mono (e1.trans e2)) (hid_mono (e1.trans e2))
            | ok j =>
              rw [ej] at q
              simp only [out_ok] at q
              intro w3 H3 e3 rj
              cases eg : owGet l' j with
              | bad => rw [eg] at q; exact q.elim
              | ex c fs => exact absurd eg owGet_nex
              | ok old =>
                rw [eg] at q
                simp only [out_ok] at q
                obtain ⟨jj, m, rfl, hjx, hm⟩ := owGet_ok eg
                cases rj
                rw [owPut_of hix hl hjx] at q
                simp only [out_ok] at q
                have e23 := e2.trans e3
                have e123 := e1.trans e23
                refine ⟨b, ws, jj, m, rfl, rfl, e23 _ _ hbb, by rw [hwl]; exact hjx, ?_⟩
                refine q O σ _ ((s.mono e123).mutTree ei rfl fun v2 F2 hv2 tr2 nd2 => ?_) (by rw [hid_upd (fo b mb).1]; exact hid_mono e123)
                rw [hv] at hv2
                cases hv2
                obtain ⟨a', vs', b', ws', ea', ha', _, hb', hbb', _, mb', _, put'⟩ := tr2.foc nd2 hl
                cases ea'
                have := e23 _ _ ha
                rw [this] at ha'
                cases ha'
                rw [hb] at hb'
                cases hb'
                have := e23 _ _ hbb
                rw [this] at hbb'
                cases hbb'
                exact ⟨mb', put' H3 (hid O H3) m old y0 d (Same.refl _) (Same.refl _) hm (rd0.mono (hid_mono e23))⟩
      | _ => exact q.elim
end
end Mx
namespace Mx
open PySem PySem.Spec PyProof.Rows L2
section
variable {K : Fr} {cl : Cl} {H H' H1 H0 Hh : Hp} {O O' B : List Addr} {E : L2.St → XK} {E0 : XK} {σ : L2.St} {D : Ds} {p1 p2 : Addr}
/-! ### a def that changes two lists which are passed -/
def Pin (p1 p2 : Addr) (σ : L2.St) : Prop := σ[1]? = some (some (V.ref p1)) ∧ σ[2]? = some (some (V.ref p2))
theorem Pin.set {i : Nat} {v : Option V} (h : Pin p1 p2 σ) (h1 : i ≠ 1) (h2 : i ≠ 2) : Pin p1 p2 (σ.set i v) := ⟨by rw [List.getElem?_set_ne h1]; exact h.1, by rw [List.getElem?_set_ne h2]; exact h.2⟩
def PostSk (K : Fr) (cl : Cl) (p1 p2 : Addr) (B : List Addr) (H0 : Hp) (En : Ends) (O : List Addr) (H : Hp) : Out → Prop
  | .nx D => ∀ O' σ' H', RS K cl B H0 O' σ' D H' → Pin p1 p2 σ' → Same (hid O H) (hid O' H') → En.nx σ' H'
  | .bk D => ∀ O' σ' H', RS K cl B H0 O' σ' D H' → Pin p1 p2 σ' → Same (hid O H) (hid O' H') → En.bk σ' H'
  | .ct D => ∀ O' σ' H', RS K cl B H0 O' σ' D H' → Pin p1 p2 σ' → Same (hid O H) (hid O' H') → En.ct σ' H'
  | _ => False
def SimSk (K : Fr) (cl : Cl) (_ : L2.St → XK) (p1 p2 : Addr) (ts : TS) (xs : XS) : Prop := ∀ B H0 O σ D H, RS K cl B H0 O σ D H → Pin p1 p2 σ → ∀ En, PostSk K cl p1 p2 B H0 En O H (xs D) → ts En σ H
theorem PostSk.fw {En : Ends} (e : Same (hid O H) (hid O' H')) {o : Out} (q : PostSk K cl p1 p2 B H0 En O H o) : PostSk K cl p1 p2 B H0 En O' H' o := by
  cases o with
  | nx D => exact fun O2 σ2 H2 r p f => q O2 σ2 H2 r p (e.trans f)
  | bk D => exact fun O2 σ2 H2 r p f => q O2 σ2 H2 r p (e.trans f)
  | ct D => exact fun O2 σ2 H2 r p f => q O2 σ2 H2 r p (e.trans f)
  | _ => exact q
theorem sk_seq {t u : TS} {xs ys : XS} (h1 : SimSk K cl E p1 p2 t xs) (h2 : SimSk K cl E p1 p2 u ys) : SimSk K cl E p1 p2 (tSeq t u) (xsSeq xs ys) := fun B H0 O σ D H s P En q => by
  refine h1 B H0 O σ D H s P _ ?_
  unfold xsSeq at q
  cases e : xs D with
  | nx D1 =>
    rw [e] at q
    exact fun O' σ' H' r P' f => h2 B H0 O' σ' D1 H' r P' En (PostSk.fw f q)
  | bk D => rw [e] at q; exact q
  | ct D => rw [e] at q; exact q
  | _ => rw [e] at q; exact q.elim
theorem sk_asg {i : Nat} {te : TE} {xe : XE} (h1 : i ≠ 1) (h2 : i ≠ 2) (h : Sim K cl E te xe) : SimSk K cl E p1 p2 (tAsg te (gName i)) (xsAsg i xe) := fun B H0 O σ D H s P En q => by
  unfold xsAsg at q
  refine h B H0 O σ D H s _ ?_
  cases e : xe D with
  | bad => rw [e] at q; exact q.elim
  | ex c fs => rw [e] at q; exact q.elim
  | ok d =>
    rw [e] at q
    exact fun v H1 e1 r => q O _ H1 ((s.mono e1).setSh i r) (P.set h1 h2) (hid_mono e1)
theorem sk_setL {i : Nat} {tk te : TE} {xk xe : XE} (hk : Sim K cl E tk xk) (h : Sim K cl E te xe) : SimSk K cl E p1 p2 (tAsg te (gSub (tVar i) tk rSetL)) (xsSetL i xk xe) := fun B H0 O σ D H s P En q => by
  unfold xsSetL at q
  refine h B H0 O σ D H s _ ?_
  cases e : xe D with
  | bad => rw [e] at q; exact q.elim
  | ex c fs => rw [e] at q; exact q.elim
  | ok d =>
    rw [e] at q
    simp only [out_ok] at q
    intro v H1 e1 rv
    cases el : Sl.lst? D[i]? with
    | bad => rw [el] at q; exact q.elim
    | ex c fs => exact (lst?_ex el).elim
    | ok l =>
      rw [el] at q
      simp only [out_ok] at q
      have hi := lst?_eq el
      obtain ⟨a, ea, ma, vs, ha, ra⟩ := own_at (s.mono e1) hi rfl
      refine ⟨.ref a, ea, ?_⟩
      refine hk B H0 O σ D H1 (s.mono e1) _ ?_
      cases ek : xk D with
      | bad => rw [ek] at q; exact q.elim
      | ex c fs => rw [ek] at q; exact q.elim
      | ok k =>
        rw [ek] at q
        simp only [out_ok] at q
        intro w H2 e2 rw'
        cases k with
        | int k =>
          cases rw'
          simp only [setO_int] at q
          cases ej : ixN l.length k with
          | none => rw [ej] at q; exact q.elim
          | some j =>
            rw [ej] at q
            simp only [opt_some, get_ok] at q
            refine ⟨a, vs, k, j, rfl, rfl, e2 _ _ ha, by rw [ra.len]; exact ej, ?_⟩
            refine q O σ _ ((s.mono (e1.trans e2)).mut hi rfl ea ⟨_, upd_same, RepL.set (rv.mono (hid_mono e2)) j (ra.mono (hid_mono e2))⟩) P ?_
            rw [hid_upd ma]
            exact hid_mono (e1.trans e2)
        | _ => exact q.elim
theorem sk_for {wi : TI} {tb : TS} {xi : XA} {xb : XS} {j : Nat} (h1 : j ≠ 1) (h2 : j ≠ 2) (hi : SimI K cl E wi xi) (hb : SimSk K cl E p1 p2 tb xb) : SimSk K cl E p1 p2 (tFor wi (gName j) tb) (xsFor xi (xgName j) xb) := fun B H0 O σ D H s P En q => by
  unfold xsFor at q
  refine hi B H0 O σ D H s _ ?_
  cases e : xi D with
  | bad => rw [e] at q; exact q.elim
  | ex c fs => rw [e] at q; exact q.elim
  | ok l =>
    rw [e] at q
    intro J H1 e1 go
    refine ⟨fun i m σ' H' => m = l.length - i ∧ i ≤ l.length ∧ ∃ O' D', RS K cl B H0 O' σ' D' H' ∧ Pin p1 p2 σ' ∧ Same (hid O H1) (hid O' H') ∧ PostSk K cl p1 p2 B H0 En O' H' (xLoop (xgName j) xb (l.drop i) D'),
      ⟨l.length, rfl, Nat.zero_le _, O, D, s.mono e1, P, Same.refl _, PostSk.fw (hid_mono e1) q⟩, ?_⟩
    rintro i m σ' H' ⟨rfl, hle, O', D', s', P', f', q'⟩
    have g' := go i O' H' s'.same f' s'.trk
    by_cases hlt : i < l.length
    · refine .inr ⟨(g'.1 _ (List.getElem?_eq_getElem hlt)).1, fun σ2 H2 => ∃ O2 D2, RS K cl B H0 O2 σ2 D2 H2 ∧ Pin p1 p2 σ2 ∧ Same (hid O H1) (hid O2 H2) ∧ PostSk K cl p1 p2 B H0 En O2 H2 (xLoop (xgName j) xb (l.drop (i + 1)) D2), ?_, ?_⟩
      · rintro σ2 H2 ⟨O2, D2, a, p, b, c⟩
        exact ⟨_, by omega, rfl, hlt, O2, D2, a, p, b, c⟩
      · intro x H2 y
        obtain ⟨e2, rx⟩ := (g'.1 _ (List.getElem?_eq_getElem hlt)).2 x H2 y
        have hd : l.drop i = l[i] :: l.drop (i + 1) := List.drop_eq_getElem_cons hlt
        rw [hd] at q'
        unfold xLoop at q'
        simp only [xgName, get_ok] at q'
        have f3 : Same (hid O' H') (hid O' H2) := hid_mono e2
        show tb _ (σ'.set j (some x)) H2
        refine hb B H0 O' _ (D'.set j (.sh l[i])) H2 ((s'.mono e2).setSh j rx) (P'.set h1 h2) _ ?_
        cases eb : xb (D'.set j (.sh l[i])) with
        | nx D2 =>
          rw [eb] at q'
          exact fun O4 σ4 H4 s4 P4 f4 => ⟨O4, D2, s4, P4, (f'.trans f3).trans f4, PostSk.fw (f3.trans f4) q'⟩
        | ct D2 =>
          rw [eb] at q'
          exact fun O4 σ4 H4 s4 P4 f4 => ⟨O4, D2, s4, P4, (f'.trans f3).trans f4, PostSk.fw (f3.trans f4) q'⟩
        | bk D2 =>
          rw [eb] at q'
          exact fun O4 σ4 H4 s4 P4 f4 => q' O4 σ4 H4 s4 P4 (f3.trans f4)
        | _ => rw [eb] at q'; exact q'.elim
    · have hi' : i = l.length := by omega
      refine .inl ⟨g'.2 hi', ?_⟩
      rw [hi', List.drop_length] at q'
      exact q' O' σ' H' s' P' (Same.refl _)
/-- return e, the lists as they are now -/
def PostIo (K : Fr) (cl : Cl) (p1 p2 : Addr) (B : List Addr) (H0 : Hp) (r : Nat) (En : Ends) : Out → Prop
  | .nx D => (∃ d, D[r]? = some (.sh d)) ∧ ∀ O' σ' H', RS K cl B H0 O' σ' D H' → Pin p1 p2 σ' → ∀ v, σ'[r]? = some (some v) → En.rt v H'
  | _ => False
def SimIo (K : Fr) (cl : Cl) (_ : L2.St → XK) (p1 p2 : Addr) (r : Nat) (ts : TS) (xs : XS) : Prop := ∀ B H0 O σ D H, RS K cl B H0 O σ D H → Pin p1 p2 σ → ∀ En, PostIo K cl p1 p2 B H0 r En (xs D) → ts En σ H
theorem io_ret {r : Nat} : SimIo K cl E p1 p2 r (tRet (tVar r)) xsNext := fun B H0 O σ D H s P En q => by
  obtain ⟨⟨d, hd⟩, q⟩ := q
  obtain ⟨v, hv, _⟩ := s.slot r _ hd
  exact ⟨v, hv, q O σ H s P v hv⟩
theorem io_seq {r : Nat} {t u : TS} {xs ys : XS} (h1 : SimSk K cl E p1 p2 t xs) (h2 : SimIo K cl E p1 p2 r u ys) : SimIo K cl E p1 p2 r (tSeq t u) (xsSeq xs ys) := fun B H0 O σ D H s P En q => by
  refine h1 B H0 O σ D H s P _ ?_
  unfold xsSeq at q
  cases e : xs D with
  | nx D1 =>
    rw [e] at q
    exact fun O' σ' H' r P' f => h2 B H0 O' σ' D1 H' r P' En q
  | _ => rw [e] at q; exact q.elim
def IoSp (K : Fr) (cl : Cl) (f : List Dt → R (Dt × List Dt × List Dt)) : Sp := fun vs H Q _ => ∃ B v0 d0 p1 p2 vs1 vs2 l1 l2, vs = [v0, V.ref p1, V.ref p2] ∧ p1 ≠ p2 ∧ p1 ∈ B ∧ p2 ∈ B ∧ (∀ a, a ∈ B → MutO (H a) = true) ∧
  H p1 = some (.lst vs1) ∧ H p2 = some (.lst vs2) ∧ Rep K cl (hid B H) v0 d0 ∧ RepL K cl (hid B H) vs1 l1 ∧ RepL K cl (hid B H) vs2 l2 ∧
  ∃ d m1 m2, f [d0, .lst l1, .lst l2] = .ok (d, m1, m2) ∧ ∀ v H' ws1 ws2, Same (hid [p1, p2] H) H' → H' p1 = some (.lst ws1) → H' p2 = some (.lst ws2) → RepL K cl (hid B H') ws1 m1 → RepL K cl (hid B H') ws2 m2 → Rep K cl (hid B H') v d → Q v H'
theorem IoSp.len {f : List Dt → R (Dt × List Dt × List Dt)} {vs : List V} {H : Hp} {Q : VK} {E : XK} (h : IoSp K cl f vs H Q E) : vs.length = 3 := by
  obtain ⟨B, v0, d0, p1, p2, vs1, vs2, l1, l2, rfl, _⟩ := h
  rfl
def funIo (n : Nat) (xs : XS) (r : Nat) : List Dt → R (Dt × List Dt × List Dt)
  | [d0, .lst l1, .lst l2] => match xs ([.sh d0, .ol l1, .ol l2] ++ List.replicate (n - 3) .no) with
    | .nx D => match D[1]?, D[2]?, D[r]? with
      | some (Sl.ol m1), some (Sl.ol m2), some (Sl.sh d) => .ok (d, m1, m2)
      | _, _, _ => .bad
    | _ => .bad
  | _ => .bad
theorem funIo_eq {n : Nat} {xs : XS} {r : Nat} {d0 d : Dt} {l1 l2 m1 m2 : List Dt} {D : Ds} (h : xs ([.sh d0, .ol l1, .ol l2] ++ List.replicate (n - 3) .no) = .nx D) (h1 : D[1]? = some (.ol m1)) (h2 : D[2]? = some (.ol m2)) (h3 : D[r]? = some (.sh d)) : funIo n xs r [d0, .lst l1, .lst l2] = .ok (d, m1, m2) := by
  simp only [funIo, h, h1, h2, h3]
theorem io_start {n : Nat} {v0 : V} {d0 : Dt} {vs1 vs2 : List V} {l1 l2 : List Dt} (ne : p1 ≠ p2) (m1 : p1 ∈ B) (m2 : p2 ∈ B) (hB : ∀ a, a ∈ B → MutO (H a) = true) (h1 : H p1 = some (.lst vs1)) (h2 : H p2 = some (.lst vs2)) (r0 : Rep K cl (hid B H) v0 d0)
    (r1 : RepL K cl (hid B H) vs1 l1) (r2 : RepL K cl (hid B H) vs2 l2) : RS K cl (B.filter fun a => decide (a ≠ p1 ∧ a ≠ p2)) (hid [p1, p2] H) B ([some v0, some (V.ref p1), some (V.ref p2)] ++ List.replicate n none) ([.sh d0, .ol l1, .ol l2] ++ List.replicate n .no) H := by
  have n1 : hid [p1, p2] H p1 = none := by unfold hid; rw [if_pos (by simp)]
  have n2 : hid [p1, p2] H p2 = none := by unfold hid; rw [if_pos (by simp)]
  have slots : ∀ (i : Nat) s, ([.sh d0, .ol l1, .ol l2] ++ List.replicate n Sl.no)[i]? = some s → (i = 0 ∧ s = .sh d0) ∨ (i = 1 ∧ s = .ol l1) ∨ (i = 2 ∧ s = .ol l2) ∨ s = .no := fun i s h => by
    match i, h with
    | 0, h => cases h; exact .inl ⟨rfl, rfl⟩
    | 1, h => cases h; exact .inr (.inl ⟨rfl, rfl⟩)
    | 2, h => cases h; exact .inr (.inr (.inl ⟨rfl, rfl⟩))
    | i + 3, h =>
      have h : (List.replicate n Sl.no)[i]? = some s := h
      exact .inr (.inr (.inr (List.eq_of_mem_replicate (List.mem_of_getElem? h))))
  exact {
    same := fun a o e => by
      unfold hid at e
      split at e
      · cases e
      · exact e
    bas := fun a m => by
      obtain ⟨mb, hn⟩ := List.mem_filter.mp m
      simp only [decide_eq_true_eq] at hn
      refine ⟨mb, ?_⟩
      rw [hid_nin (by simp [hn.1, hn.2])]
      exact hB a mb
    own := fun a m => by
      refine ⟨?_, hB a m⟩
      by_cases h : a ≠ p1 ∧ a ≠ p2
      · exact .inl (List.mem_filter.mpr ⟨m, by simpa using h⟩)
      · refine .inr ?_
        by_cases q : a = p1
        · rw [q]; exact n1
        · by_cases q2 : a = p2
          · rw [q2]; exact n2
          · exact absurd ⟨q, q2⟩ h
    len := by simp
    slot := fun i s h => by
      rcases slots i s h with ⟨rfl, rfl⟩ | ⟨rfl, rfl⟩ | ⟨rfl, rfl⟩ | rfl
      · exact ⟨v0, rfl, r0⟩
      · exact ⟨p1, rfl, ⟨m1, n1⟩, vs1, h1, r1⟩
      · exact ⟨p2, rfl, ⟨m2, n2⟩, vs2, h2, r2⟩
      · trivial
    inj := fun i j s t a hij e1 e2 o1 o2 ha hb => by
      rcases slots i s e1 with ⟨rfl, rfl⟩ | ⟨rfl, rfl⟩ | ⟨rfl, rfl⟩ | rfl
      · cases o1
      · cases ha
        rcases slots j t e2 with ⟨rfl, rfl⟩ | ⟨rfl, rfl⟩ | ⟨rfl, rfl⟩ | rfl
        · cases o2
        · exact hij rfl
        · cases hb; exact ne rfl
        · cases o2
      · cases ha
        rcases slots j t e2 with ⟨rfl, rfl⟩ | ⟨rfl, rfl⟩ | ⟨rfl, rfl⟩ | rfl
        · cases o2
        · cases hb; exact ne rfl
        · exact hij rfl
        · cases o2
      · cases o1
    inn := Inn.none fun i t h => by
      rcases slots i _ h with ⟨_, q⟩ | ⟨_, q⟩ | ⟨_, q⟩ | q <;> cases q }
theorem body_okIo {N : List Str} {ts : TS} {xs : XS} {r : Nat} {vs : List V} {H : Hp} {Q : VK} {E : XK} (hs : ∀ p1 p2, SimIo K cl (fun _ => E) p1 p2 r ts xs) (hN : 3 ≤ N.length)
    (h : IoSp K cl (funIo N.length xs r) vs H Q E) : ts { nx := fun _ H' => Q .non H', rt := Q } (start N vs) H := by
  obtain ⟨B, v0, d0, p1, p2, vs1, vs2, l1, l2, rfl, ne, m1, m2, hB, h1, h2, r0, r1, r2, d, w1, w2, ef, q⟩ := h
  have rs := io_start (n := N.length - 3) ne m1 m2 hB h1 h2 r0 r1 r2
  refine hs p1 p2 _ _ B _ _ H rs ⟨rfl, rfl⟩ _ ?_
  unfold funIo at ef
  simp only at ef
  cases e : xs ([.sh d0, .ol l1, .ol l2] ++ List.replicate (N.length - 3) .no) with
  | nx D =>
    rw [e] at ef
    simp only at ef
    split at ef
    · rename_i x1 x2 x3 e1 e2 e3
      cases ef
      refine ⟨⟨_, e3⟩, fun O' σ' H' s' P v hv => ?_⟩
      obtain ⟨a1, ea1, ma1, ws1, hw1, rw1⟩ := s'.slot 1 _ e1
      obtain ⟨a2, ea2, ma2, ws2, hw2, rw2⟩ := s'.slot 2 _ e2
      obtain ⟨x, ex, rx⟩ := s'.slot r _ e3
      rw [P.1] at ea1
      cases ea1
      rw [P.2] at ea2
      cases ea2
      rw [hv] at ex
      cases ex
      have sub : Same (hid O' H') (hid B H') := hid_sub fun b hb => by
        by_cases q1 : b = p1
        · rw [q1]; exact ma1.1
        · by_cases q2 : b = p2
          · rw [q2]; exact ma2.1
          · exact (s'.bas b (List.mem_filter.mpr ⟨hb, by simp [q1, q2]⟩)).1
      exact q v H' ws1 ws2 s'.same hw1 hw2 (rw1.mono sub) (rw2.mono sub) (rx.mono sub)
    · cases ef
  | _ => rw [e] at ef; cases ef
/-- the call: the caller's lists are what they have become -/
def xsIo (j : Nat) (f : List Dt → R (Dt × List Dt × List Dt)) (i0 i1 i2 : Nat) : XS := fun D => match D[i0]?, D[i1]?, D[i2]? with
  | some (.sh d0), some (.ol l1), some (.ol l2) => if i1 ≠ i2 ∧ j ≠ i1 ∧ j ≠ i2 then (match f [d0, .lst l1, .lst l2] with
    | .ok (d, m1, m2) => .nx (((D.set i1 (.ol m1)).set i2 (.ol m2)).set j (.sh d))
    | _ => .bad) else .bad
  | _, _, _ => .bad
theorem ss_io {j i0 i1 i2 : Nat} {f : List Dt → R (Dt × List Dt × List Dt)} : SimS K cl E (tAsg (tCallSD (IoSp K cl f) [] E (tCons (tVar i0) (tCons (tVar i1) (tCons (tVar i2) tNil)))) (gName j)) (xsIo j f i0 i1 i2) := fun B H0 O σ D H s En q => by
  unfold xsIo at q
  split at q
  · rename_i d0 l1 l2 h0 h1 h2
    split at q
    · rename_i hne
      obtain ⟨n12, nj1, nj2⟩ := hne
      cases ef : f [d0, .lst l1, .lst l2] with
      | bad => rw [ef] at q; exact q.elim
      | ex c fs => rw [ef] at q; exact q.elim
      | ok t =>
        obtain ⟨d, m1, m2⟩ := t
        rw [ef] at q
        simp only at q
        obtain ⟨v0, e0, r0⟩ := s.slot i0 _ h0
        obtain ⟨p1, e1, mp1, vs1, hp1, r1⟩ := s.slot i1 _ h1
        obtain ⟨p2, e2, mp2, vs2, hp2, r2⟩ := s.slot i2 _ h2
        have ne : p1 ≠ p2 := fun z => by
          subst z
          exact s.inj i1 i2 _ _ p1 n12 h1 h2 rfl rfl e1 e2
        refine ⟨v0, e0, .ref p1, e1, .ref p2, e2, O, v0, d0, p1, p2, vs1, vs2, l1, l2, rfl, ne, mp1.1, mp2.1, s.trk, hp1, hp2, r0, r1, r2, d, m1, m2, ef, fun v H' ws1 ws2 sm k1 k2 q1 q2 qd => ?_⟩
        generalize hH2 : L2.upd (L2.upd H' p1 (.lst vs1)) p2 (.lst vs2) = H2
        have at1 : H2 p1 = some (.lst vs1) := by rw [← hH2, upd_ne ne, upd_same]
        have at2 : H2 p2 = some (.lst vs2) := by rw [← hH2, upd_same]
        have oth : ∀ b, b ≠ p1 → b ≠ p2 → H2 b = H' b := fun b a1 a2 => by rw [← hH2, upd_ne a2, upd_ne a1]
        have e12 : Same H H2 := fun b o hb => by
          by_cases a1 : b = p1
          · rw [a1] at hb ⊢; rw [hp1] at hb; rw [at1]; exact hb
          · by_cases a2 : b = p2
            · rw [a2] at hb ⊢; rw [hp2] at hb; rw [at2]; exact hb
            · rw [oth b a1 a2]
              exact sm b o (by rw [hid_nin (by simp [a1, a2])]; exact hb)
        have hh : hid O H' = hid O H2 := by
          funext b
          unfold hid
          by_cases hb : b ∈ O
          · rw [if_pos hb, if_pos hb]
          · rw [if_neg hb, if_neg hb]
            exact (oth b (fun z => hb (z ▸ mp1.1)) (fun z => hb (z ▸ mp2.1))).symm
        rw [hh] at q1 q2 qd
        have s1 := (s.mono e12).mut (s' := .ol m1) (o := .lst ws1) h1 rfl e1 ⟨_, upd_same, q1⟩
        have h2' : (D.set i1 (.ol m1))[i2]? = some (.ol l2) := by rw [List.getElem?_set_ne n12]; exact h2
        have hu : hid O (L2.upd H2 p1 (.lst ws1)) = hid O H2 := hid_upd mp1.1
        have s2 := s1.mut (s' := .ol m2) (o := .lst ws2) h2' rfl e2 ⟨_, upd_same, by rw [hu]; exact q2⟩
        have hu2 : hid O (L2.upd (L2.upd H2 p1 (.lst ws1)) p2 (.lst ws2)) = hid O H2 := by rw [hid_upd mp2.1]; exact hu
        have eH : L2.upd (L2.upd H2 p1 (.lst ws1)) p2 (.lst ws2) = H' := by
          funext b
          by_cases a2 : b = p2
          · rw [a2, upd_same, k2]
          · rw [upd_ne a2]
            by_cases a1 : b = p1
            · rw [a1, upd_same, k1]
            · rw [upd_ne a1]; exact oth b a1 a2
        rw [eH] at s2
        refine q O _ H' (s2.setSh j (by rw [hh]; exact qd)) ?_
        rw [hh]
        exact hid_mono e12
    · exact q.elim
  · exact q.elim
end
end Mx
namespace L2
open PySem PySem.Spec PyProof.Rows PySem.W NdefX
section
variable {CX : CXT} {P : Program} {w : World} {K : Frag} {mg : Str → Option Value} {base : Heap} {F : NF} {f C : Addr} {fd : FuncData} {k : Nat}
/-- what such an __init__ promises: self is given the field fld -/
def spEx2 (C : Addr) (f1 f2 : Str) (ta : L2.St → Hp → (List V → Hp → Prop) → Prop) (σ0 : List V → L2.St) : Sp := fun vs H Q _ => ∃ a x y, vs = [.ref a, x, y] ∧ H a = some (exo a C none) ∧ ta (σ0 vs) H (fun us H2 => us.length ≤ 1000 ∧ H2 = H) ∧
  ∀ dx, H dx = none → dx ≠ a → Q .non (upd (upd (upd H dx (exd dx [(f1, x)])) a (exo a C (some dx))) dx (exd dx [(f2, y), (f1, x)]))
theorem fn_exc2 {e : Expr} {es : List Expr} {ar : Arg} {p q f1 f2 : Str} {p0 p1 p2 p3 p4 p5 p6 p7 p8 r5 r6 r7 r8 : Pos} {ta : TA} (S : SuF P K f C F fd) (hmg : mg "super" = none) (SC : NScope ["self", p, q, "__class__"] ["self", p, q] ["__class__"] F.scope) (hks : F.scope.names.lookup ("super" : Str) = some .globalImplicit)
    (hb : F.body = [.Expr (.Call (.Attribute (.Call (.Name "super" p0) [] [] p1) "__init__" p2) (e :: es) [] p3) p4, .Assign [.Attribute (.Name "self" p5) f1 p6] (.Name p p7) p8, .Assign [.Attribute (.Name "self" r5) f2 r6] (.Name q r7) r8])
    (hpar : (F.params.posonlyargs ++ F.params.args).head? = some ar) (har : ar.arg = "self") (hno : findIn K (.ref C) f1 = some none) (hno2 : findIn K (.ref C) f2 = some none)
    (he : ∀ env, starEach (e :: es) env = (false, eval e env) :: starEach es env) (hpl : ∀ pos env, (backTo pos (starEach es env)).any (·.1) = false)
    (hin : ∀ L, interactive (envF F f L) = false) (hev : ∀ L, ∃ pl : Sem Bool, eval (.Call (.Attribute (.Call (.Name "super" p0) [] [] p1) "__init__" p2) (e :: es) [] p3) (envF F f L) = (do
      let ov ← attributeBase (.Call (.Name "super" p0) [] [] p1) "__init__" (envF F f L) (eval (.Call (.Name "super" p0) [] [] p1) (envF F f L))
      standAt p2.atName
      let (g, first) ← holding [ov] (getMethod ov "__init__" pl)
      callWith p3 g first (backTo p3 (starEach (e :: es) (envF F f L))) []))
    (hA : ∀ A outer s H E, PA (ncx CX P w K mg base ["self", p, q, "__class__"] F f A outer s H E) (e :: es) ta)
    (h2 : ∀ A outer s H E, PSs (ncx CX P w K mg base ["self", p, q, "__class__"] F f A outer s H E) [.Assign [.Attribute (.Name "self" p5) f1 p6] (.Name p p7) p8, .Assign [.Attribute (.Name "self" r5) f2 r6] (.Name q r7) r8] (tSeq (tOst K f1 (tVar 0) (tVar 1)) (tOst K f2 (tVar 0) (tVar 2))))
    : FnOk P w K mg base CX (k + 1) f fd ["self", p, q] (spEx2 C f1 f2 ta fun vs => startF ["self", p, q, "__class__"] vs [some (.ref C)]) := by
  refine ⟨fun vs H Q E h => by obtain ⟨a, x, y, rfl, _⟩ := h; rfl, fun A outer s H args us vs Q E hr e0 hbd r hsp => ?_⟩
  obtain ⟨a, x, y0, rfl, ea, hta, hq⟩ := hsp
  obtain ⟨oc, od, sl, doc, pm, ctv, rfl, lk⟩ := S.fn
  obtain ⟨cc, ccl, ccd, ccs, hcl, lc⟩ := S.cell
  obtain ⟨fc, fdd, fvs, fcs, file, tf, lf, hvs, hfile⟩ := S.file
  have kp0 : ∀ b o, base.get? b = some o → s.heap.get? b = some o := fun b o e => (e0.bs b o e).1
  have KX : K.In s.heap := e0.mod.kin.keeps kp0
  have lim : s.heap.NoLimit := e0.mod.nolimit.keeps kp0
  have CA : CellsAt F.cl ["__class__"] [some (.ref C)] s.heap H := by
    rw [hcl]
    have cl1 : ∀ y c, [(("__class__" : Str), cc)].lookup y = some c → y = "__class__" ∧ c = cc := fun y c e => by
      simp only [List.lookup_cons, List.lookup_nil] at e
      split at e
      · rename_i q0
        exact ⟨eq_of_beq q0, (Option.some.inj e).symm⟩
      · cases e
    refine ⟨rfl, fun y c e => ?_, fun y z c e1 e2 => by rw [(cl1 y c e1).1, (cl1 z c e2).1], fun i y hy => ?_⟩
    · obtain ⟨_, rfl⟩ := cl1 y c e
      exact ⟨(e0.bs _ _ (e0.mod.kin _ _ lc)).2, _, _, KX _ _ lc, rfl⟩
    · have : y = "__class__" := by
        cases i with
        | zero => simpa using hy.symm
        | succ i => simp at hy
      subst this
      refine ⟨cc, by simp, fun v hv => ?_⟩
      have : v = .ref C := by
        cases i with
        | zero => simpa using hv.symm
        | succ i => simp at hv
      subst this
      exact ⟨_, rfl, _, KX _ _ lc, rfl⟩
  refine codeAny_call_function hr.depth (KX _ _ lk) rfl SC.co SC.gen rfl (codeRec_of KX S.code) (hbd _ _ _ _ ?_)
  refine wpAny_newFunctionEnv SC.nocell (fun ⟨n, _⟩ hy => SC.par n (List.of_mem_zip hy).1) (fun h₁ hns hsb => ⟨lim.fresh _ hsb, ?_⟩) SC.kind
  show codeAny _ _ (.func F.body (envF F f s.heap.objs.size)) _ _
  refine ks_codeAny_funcAt ?_
  have kp : ∀ b o, s.heap.get? b = some o → h₁.get? b = some o := fun b o e => hsb.extBut b o (Nat.ne_of_lt (Heap.lt_size e)) (Heap.get?_push_of_some _ e)
  have I := inv_startN (CX := CX) (E := E) (f := f) (tk := s.toks + (([("self" : Str), p, q] : List Str).zip us).length) SC hr.hd e0 rfl r CA hns kp
  have go := h2 A outer s H E
  have gA := hA A outer s H E
  obtain ⟨hp, g, dr, tk, os⟩ := s
  have J := I
  obtain ⟨m, hm, hl⟩ := I.loc
  have KX1 : K.In h₁ := KX.keeps kp
  have vself : m "self" = some (.ref a) := by
    obtain ⟨u, ru, lk'⟩ := hl 0 "self" (.ref a) rfl rfl (.inl (SC.par "self" (by simp)))
    obtain rfl : u = Value.ref a := ru
    rcases lk' with ⟨_, h⟩ | ⟨h, _⟩
    · exact h
    · exfalso
      have := SC.par "self" (by simp)
      rcases h with h | h
      · have h' : F.scope.names.lookup ("self" : Str) = some .cell := h
        rw [this] at h'
        cases h'
      · have h' : F.scope.names.lookup ("self" : Str) = some .free := h
        rw [this] at h'
        cases h'
  have cls : ∃ cd, clsIn K C = some cd := by
    have := S.ini
    unfold ks_superIn at this
    cases e : clsIn K C with
    | none => rw [e] at this; cases this
    | some cd => exact ⟨cd, rfl⟩
  obtain ⟨cd, hcd⟩ := cls
  obtain ⟨oC, hC1, hC2⟩ : ∃ oC, h₁.get? C = some oC ∧ oC.data = .cls cd := by
    unfold clsIn at hcd
    split at hcd
    · rename_i c d cd' sl ho
      cases hcd
      exact ⟨_, KX1 _ _ ho, rfl⟩
    · cases hcd
  obtain ⟨t1, hob⟩ := exo_at I.hok ea
  rw [hb]
  obtain ⟨pl, hev⟩ := hev hp.objs.size
  refine ks_wpAt_execs_cons (ks_wpAt_Expr_any (ks_wpAt_MethodCall (pl := pl) ?_ hev) (hin _) ?hs)
  case hs => rfl
  refine ks_wpAt_super_base hks (SC.frk "__class__" (by simp)) rfl rfl (KX1 _ _ lk) rfl hpar rfl (KX1 _ _ lf) rfl hvs hfile S.top ?_
  obtain ⟨mb, hb1, hb2⟩ := e0.mod.blt
  refine ks_loadName_global SC.kind hks (Calls.loadGlobal_builtin (e0.mod.glob.keeps fun b o z => kp _ _ (kp0 b o z)) hmg (hb1.keeps fun b o z => kp _ _ (kp0 b o z)) ((hb2 "super" (by decide)).trans (show bootBuiltins "super" = some (.type "super") from by decide +kernel)) ⟨rfl, ?_⟩)
  refine wpAny_loadName_free (c := cc) (v := .ref C) SC.kind (SC.frk "__class__" (by simp)) (by show F.cl.lookup ("__class__" : Str) = some cc; rw [hcl]; simp) ⟨_, KX1 _ _ lc, rfl⟩ ?_
  rw [har]
  refine wpAny_loadName_local SC.kind (SC.par "self" (by simp)) hm vself ?_
  refine ks_wpAny_isType_cls hC1 hC2 ⟨rfl, ?_⟩
  refine ks_wpAny_call_super hC1 hC2 hob rfl (fun c z => nomatch z) (looks_mroIn KX1 S.self) (fun h₂ e2 k2 => ?_)
  have KX2 : K.In h₂ := KX1.keeps k2
  have IA : InstAt h₂ a _ C none := ⟨k2 _ _ hob, rfl, rfl, trivial⟩
  have ini : alongIn K "__init__" ((cd.mro.dropWhile (· != .ref C)).drop 1) = some (some (.builtin "ValueError.__init__")) := by
    have := S.ini
    unfold ks_superIn at this
    rw [hcd] at this
    exact this
  refine kxs_getMethod kxs_ValueError e2 (looks_opaque KX2 S.any) (l₀ := cd.mro) (fun A Q E s k q => wpAny_bind ((looks_clsIn KX2 hcd) A _ E s k (wpAny_pure q))) rfl KX2 ini (IA.type.andThen (looks_subIn KX2 S.sub)) (ks_ne KX2 IA hcd) rfl ?_
  have kk : ∀ b o, h₁.get? b = some o → (h₂.push (kxs_mw "ValueError.__init__" a)).get? b = some o := fun b o z => Heap.get?_push_of_some _ (k2 _ _ z)
  have fresh : H h₂.objs.size = none := by
    cases z : H h₂.objs.size with
    | none => rfl
    | some o => exact absurd ((I.kept (t' := 0) k2).hok _ _ z).lt (Nat.lt_irrefl _)
  have nloc : h₂.objs.size ≠ hp.objs.size := by
    obtain ⟨oL, es, ep, hL, _⟩ := hm
    exact (Nat.ne_of_lt (Heap.lt_size (k2 _ _ hL))).symm
  have I2 := (I.kept (h' := h₂.push (kxs_mw "ValueError.__init__" a)) (t' := tk + (([("self" : Str), p, q] : List Str).zip us).length + 1) kk).pins_of (pins' := [(h₂.objs.size, kxs_mw "ValueError.__init__" a)]) fun q0 hq0 => by
    rw [List.mem_singleton.mp hq0]
    exact ⟨Heap.get?_push_at rfl rfl, fresh, nloc, (I.kept (t' := 0) k2).nofs (Nat.le_refl _), fun v z => nomatch z⟩
  have run := gA.run p3 _ _ _ _ _ I2 hta
  rw [he] at run ⊢
  refine kxs_callWith (i := "ValueError.__init__") (x := a) (by show (false || (backTo p3 (starEach es (envF F f hp.objs.size))).any (·.1)) = false; rw [hpl]; rfl) (Calls.evalArgs_plain (wpAny_mono run (fun vs s4 z => ?_) fun _ _ z => z))
  obtain ⟨ws, H2, I4, rv, hlen, rfl⟩ := z
  have pin := (I4.pin (h₂.objs.size, kxs_mw "ValueError.__init__" a) (List.mem_append_right _ List.mem_cons_self)).1
  refine ⟨pin, call_mw S.oex I4 ea pin (by show ([] ++ vs).length ≤ _; rw [List.nil_append, ← Paired.length rv, sizeLine_eq]; omega) fun s5 J5 => ?_⟩
  refine wpAt_of_wpAny (wpAny_mono (go.run _ s5 _ _ { nx := fun _ H' => Q .non H', rt := Q } J5 ⟨x, rfl, .ref a, rfl, a, C, rfl, S.oex, hno, .inl ⟨ea, fun dx n ne => ⟨y0, rfl, .ref a, rfl, a, C, rfl, S.oex, hno2, .inr ⟨dx, [(f1, x)], upd_same, by rw [upd_ne ne, upd_same], by simp, hq dx n ne⟩⟩⟩⟩) (fun fl s' hs => ?_) fun _ _ z => z)
  have fin : ∀ {σ' : L2.St} {H' : Hp} {v : V} {u : Value}, Inv (ncx CX P w K mg base ["self", p, q, "__class__"] F f A outer ⟨hp, g, dr, tk, os⟩ H2 E) [(h₂.objs.size, kxs_mw "ValueError.__init__" a)] σ' H' s' → RelV v u → Q v H' → CE outer P w H2 ⟨hp, g, dr, tk, os⟩ Q u s' := fun {σ' H' v u} J rv q =>
    ⟨v, H', J.os, J.bare, J.base, J.hok, rv, q⟩
  cases fl with
  | ret u => exact let ⟨v, σ', H', J, rv, q⟩ := hs; fin J rv q
  | next => exact let ⟨σ', H', J, q⟩ := hs; fin (v := V.non) (u := Value.none) J rfl q
  | brk => exact let ⟨_, _, _, q⟩ := hs; False.elim q
  | cont => exact let ⟨_, _, _, q⟩ := hs; False.elim q
end
end L2
namespace Mx
open PySem PySem.Spec PyProof.Rows L2
section
variable {K : Fr} {cl : Cl} {H H' H1 : Hp} {O : List Addr}
/-! ### an exception with two fields -/
def partU : Str ⊕ Nat → TE
  | .inl a => tC (.str a)
  | .inr i => tFmt (tVar i)
def partsU (l : List (Str ⊕ Nat)) : Bool := l.all fun o => match o with
  | .inl a => decide (a.length ≤ 1000)
  | .inr i => decide (i = 1 ∨ i = 2)
theorem fmt_ok {x : V} {d : Dt} {Hr H : Hp} {K : Fr} {cl : Cl} (hx : Rep K cl Hr x d) (hs : (fmtS d).isSome = true) : ∃ y : Str, y.length ≤ 1000 ∧ ((x = .str y) ∨ ∃ i : Int, x = .int i ∧ i.natAbs.log2 < 1920 ∧ y = toString i) := by
  cases d with
  | str y =>
    simp only [fmtS] at hs
    split at hs
    · rename_i hy
      cases hx
      exact ⟨y, hy, .inl rfl⟩
    · cases hs
  | int i =>
    simp only [fmtS] at hs
    split at hs
    · rename_i hy
      cases hx
      exact ⟨toString i, hy.2, .inr ⟨i, rfl, hy.1, rfl⟩⟩
    · cases hs
  | _ => cases hs
theorem msg2_ok {x1 x2 : V} {d1 d2 : Dt} {Hr : Hp} {σ : L2.St} (r1 : Rep K cl Hr x1 d1) (r2 : Rep K cl Hr x2 d2) (k1 : (fmtS d1).isSome = true) (k2 : (fmtS d2).isSome = true) (h1 : σ[1]? = some (some x1)) (h2 : σ[2]? = some (some x2)) : ∀ (parts : List (Str ⊕ Nat)) (acc : Str) (H : Hp) (Q : Str → Hp → Prop), acc.length + 1000 * parts.length ≤ 1000000 →
    partsU parts = true → (∀ out, Q out H) → tJs (parts.map partU) acc σ H Q
  | [], acc, H, Q, _, _, q => q acc
  | p :: parts, acc, H, Q, hl, ha, q => by
    simp only [List.length_cons] at hl
    have sl : sizeLine = 16777216 := sizeLine_eq
    unfold partsU at ha
    rw [List.all_cons, Bool.and_eq_true] at ha
    have go : ∀ y : Str, y.length ≤ 1000 → (acc ++ y).length ≤ sizeLine ∧ tJs (parts.map partU) (acc ++ y) σ H Q := fun y hy => by
      have := len_catS acc y
      exact ⟨by omega, msg2_ok r1 r2 k1 k2 h1 h2 parts (acc ++ y) H Q (by omega) ha.2 q⟩
    cases p with
    | inl a =>
      obtain ⟨g1, g2⟩ := go a (by simpa using ha.1)
      exact ⟨a, rfl, g1, g2⟩
    | inr i =>
      have hi : i = 1 ∨ i = 2 := by simpa using ha.1
      have fin : ∀ {x : V} {d : Dt}, Rep K cl Hr x d → (fmtS d).isSome = true → σ[i]? = some (some x) → tJs ((Sum.inr i :: parts).map partU) acc σ H Q := fun {x d} r k h => by
        obtain ⟨y, hy, hc⟩ := fmt_ok (H := H) r k
        obtain ⟨g1, g2⟩ := go y hy
        refine ⟨x, h, ?_⟩
        rcases hc with rfl | ⟨i, rfl, hi, rfl⟩
        · exact .inl ⟨y, rfl, by omega, y, rfl, g1, g2⟩
        · exact .inr ⟨i, rfl, hi, _, rfl, g1, g2⟩
      rcases hi with rfl | rfl
      · exact fin r1 k1 h1
      · exact fin r2 k2 h2
/-- raise C(e, e'), C's own __init__ gives it the fields f1 and f2 -/
@[simp] def xsRaiseF2 (c f1 f2 : Str) (xe xe2 : XE) : XS := fun D => (xe D).out D fun d => (xe2 D).out D fun d2 => if (fmtS d).isSome = true ∧ (fmtS d2).isSome = true then .ex c [(f2, d2), (f1, d)] D else .bad
theorem ss_raiseF2 {E0 : XK} {c f1 f2 : Str} {C : Addr} {te te2 : TE} {xe xe2 : XE} {tm : TA} {σ0 : List V → L2.St} (hc : cl c = some C)
    (hm : ∀ (x x2 : V) (d d2 : Dt) (Hr H : Hp) (a : Addr), Rep K cl Hr x d → Rep K cl Hr x2 d2 → (fmtS d).isSome = true → (fmtS d2).isSome = true → tm (σ0 [.ref a, x, x2]) H (fun us H2 => us.length ≤ 1000 ∧ H2 = H)) (ha : Sim K cl (fun _ => E0) te xe) (hb : Sim K cl (fun _ => E0) te2 xe2) :
    SimS K cl (fun _ => E0) (fun _ σ H => tMkO C (spEx2 C f1 f2 tm σ0) [] (tCons te (tCons te2 tNil)) σ H fun cls d H' => E0 cls d H') (xsRaiseF2 c f1 f2 xe xe2) := fun B H0 O σ D H s En q => by
  unfold xsRaiseF2 at q
  refine ha B H0 O σ D H s _ ?_
  cases e : xe D with
  | bad => rw [e] at q; exact q.elim
  | ex c' fs => rw [e] at q; exact q O σ H s (Same.refl _)
  | ok d =>
    rw [e] at q
    simp only [out_ok] at q
    intro x H1 e1 rx
    refine hb B H0 O σ D H1 (s.mono e1) _ ?_
    cases eb : xe2 D with
    | bad => rw [eb] at q; exact q.elim
    | ex c' fs => rw [eb] at q; exact q O σ H1 (s.mono e1) (hid_mono e1)
    | ok d2 =>
      rw [eb] at q
      simp only [out_ok] at q
      intro x2 H2 e2 rx2
      split at q
      · rename_i hk
        refine ⟨by simp, fun a na => ⟨a, x, x2, rfl, upd_same, hm x x2 d d2 _ _ a (rx.mono (hid_mono e2)) rx2 hk.1 hk.2, fun dx nx ne => ?_⟩⟩
        have n1 : H2 dx = none := by rw [upd_ne ne] at nx; exact nx
        have hda : (upd (upd (upd (upd H2 a (exo a C none)) dx (exd dx [(f1, x)])) a (exo a C (some dx))) dx (exd dx [(f2, x2), (f1, x)])) a = some (exo a C (some dx)) := by rw [upd_ne (Ne.symm ne), upd_same]
        refine ⟨rfl, dx, [(f2, x2), (f1, x)], hda, upd_same, n1, ?_⟩
        have sm : Same H2 (upd (del (upd (upd (upd (upd H2 a (exo a C none)) dx (exd dx [(f1, x)])) a (exo a C (some dx))) dx (exd dx [(f2, x2), (f1, x)])) a) dx (.xd [(f2, x2), (f1, x)])) := fun b o hb => by
          have ba : b ≠ a := fun z => by rw [z, na] at hb; cases hb
          have bd : b ≠ dx := fun z => by rw [z, n1] at hb; cases hb
          rw [upd_ne bd, del_ne ba, upd_ne bd, upd_ne ba, upd_ne bd, upd_ne ba, hb]
        exact (q O σ H2 (s.mono (e1.trans e2)) (hid_mono (e1.trans e2)) C hc).2 _ dx [(f2, x2), (f1, x)] sm upd_same rfl (.cons (rx2.mono (hid_mono sm)) (.cons (rx.mono (hid_mono (e2.trans sm))) .nil))
      · exact q.elim
end
end Mx
/-! a list comprehension whose element may raise: the exception leaves the block -/
namespace Mx
open PySem PySem.Spec PyProof.Rows L2

/-- the block with a wish of its own -/
abbrev blkX (X : Cx) (s : Shared) (H : Hp) (scope : Scope) (ce : Env) (fp : List Addr) (xe : Value → Shared → Prop) : Cx := { X.blk s H scope ce fp with xe := xe }
theorem inv_xe {X : Cx} {pins : List (Addr × Obj)} {σ : L2.St} {H : Hp} {s : Shared} (I : Inv X pins σ H s) (xe : Value → Shared → Prop) : Inv { X with xe := xe } pins σ H s :=
  ⟨⟨I.ok.mod, I.ok.kind, I.ok.glob, I.ok.blt, I.ok.above, I.ok.inj, I.ok.has, I.ok.cab, I.ok.hd, I.ok.frames, I.ok.stk, I.ok.exf, I.ok.bs, I.ok.bsz, I.ok.noex, I.ok.exfs, I.ok.funs, I.ok.frf⟩,
    I.os, I.bare, I.base, I.loc, I.cell, I.free, I.freeC, I.pin, I.hok, I.len⟩
/-- the block's end -/
def blkEnd (X : Cx) (Q : Value → Shared → Prop) (acc : Value) (C : Addr) : Result → Shared → Prop := fun r s' => match r with
  | .ok _ => ∃ m, s'.heap.Ns C m ∧ ∀ h', Heap.SameBut C s'.heap h' → Q acc { s' with heap := h' }
  | .error x => ∃ m, s'.heap.Ns C m ∧ ∀ h', Heap.SameBut C s'.heap h' → ∀ ce : Env, ce.locals = C → ce.frame = X.env.frame →
      wpAny (model X.prog X.w) X.A (passOn "comprehension.variables-let-go" x ce : Sem Value) (fun _ _ => False) X.xe { s' with heap := h' }

theorem comp_run {X : Cx} {s : Shared} {e : Expr} {scope : Scope} {pos : Pos} {newAcc first : Sem Value} {g : Comprehension} {gs : List Comprehension} {cl : List (Str × Addr)} {Q : Value → Shared → Prop}
    (hcl : clausesOf e = g :: gs) (hs : ∀ x, foldedSetIterable g.iter X.env x = pure x) (hclos : closureFor scope X.env = pure cl)
    (hkind : scope.kind = .function) (hnames : ∀ x ∈ scope.names, x.2 = .local → scope.names.lookup x.1 = some .local)
    (h : wpAny (model X.prog X.w) X.A first (fun x s₁ => wpAny (model X.prog X.w) X.A (pyIter x) (fun it s₂ => wpAny (model X.prog X.w) X.A newAcc (fun acc s₃ =>
      wpAny (model X.prog X.w) X.A (newFunctionEnv scope X.env.globals cl [] X.env.qual none .none (some X.env)) (fun cenv s₄ =>
        cenv.frame = X.env.frame ∧ codeAny (model X.prog X.w) X.A (.compStart e 0 it acc { cenv with scope := relabel scope X.env }) (blkEnd X Q acc cenv.locals) s₄) X.xe s₃) X.xe s₂) X.xe s₁) X.xe s) :
    wpAny (model X.prog X.w) X.A (comprehension e scope X.env pos newAcc false first none) Q X.xe s := by
  unfold comprehension
  rw [hclos, hcl]
  refine wpAny_bind (wpAny_mono h (fun x s₁ h₁ => wpAny_bind (wpAny_standAt (wpAny_bind (wpAny_of_eq (hs x) (wpAny_bind (wpAny_holding (wpAny_mono h₁ (fun it s₂ h₂ =>
    wpAny_standIf (wpAny_bind (wpAny_mono h₂ (fun acc s₃ h₃ => wpAny_bind (wpAny_pure (wpAny_bind (wpAny_mono h₃ (fun cenv s₄ h₄ => ?_) fun _ _ h' => h')))) fun _ _ h' => h')))
      fun _ _ h' => h'))))))) fun _ _ h' => h')
  dsimp only
  obtain ⟨hfr, h₄⟩ := h₄
  have hv : ∀ x ∈ (scope.names.filter fun x => (x.2 == .local || x.2 == .cell) && x.1 != (".0" : Str)).reverse, x.2 = .local →
      Env.kindOf { cenv with scope := relabel scope X.env } x.1 = some .local := fun x hx hl => lookup_relabel_local (hnames x (List.mem_filter.mp (List.mem_reverse.mp hx)).1 hl)
  refine wpAny_holding (wpAny_bind (wpAny_attempt (wpAny_holding (wpAny_run (codeAny_mono h₄ fun r s' hr => ?_)))))
  cases r with
  | ok f =>
    obtain ⟨m, hn, hr⟩ := hr
    exact wpAny_bind (wpAny_holding (wpAny_comp_letGo (cenv := { cenv with scope := relabel scope X.env }) hkind _ s' m hv hn fun h' m' _ hs' => wpAny_pure (hr h' hs')))
  | error x =>
    obtain ⟨m, hn, hr⟩ := hr
    exact wpAny_bind (wpAny_holding (wpAny_comp_letGo (cenv := { cenv with scope := relabel scope X.env }) hkind _ s' m hv hn fun h' m' _ hs' => wpAny_mono (hr h' hs' _ rfl hfr) (fun _ _ f => f.elim) fun _ _ y => y))

theorem funFrames_at {B B' h h' : Heap} : ∀ {l : List Env}, Heap.FunFrames h B l → (∀ L ∈ frs l, h'.get? L = h.get? L) → (∀ L ∈ frs l, B'.get? L = none) → Heap.FunFrames h' B' l
  | [], _, _, _ => trivial
  | env :: l, hh, hk, hn => by
    obtain ⟨k, ⟨L, o, hf, _, ho, hd⟩, hr⟩ := hh
    have hm : L ∈ frs (env :: l) := List.mem_filterMap.mpr ⟨env, List.mem_cons_self, hf⟩
    have sub : ∀ b ∈ frs l, b ∈ frs (env :: l) := fun b hb => by
      obtain ⟨e, he, q⟩ := List.mem_filterMap.mp hb
      exact List.mem_filterMap.mpr ⟨e, List.mem_cons_of_mem _ he, q⟩
    exact ⟨k, ⟨L, o, hf, hn L hm, (hk L hm).trans ho, hd⟩, funFrames_at hr (fun b hb => hk b (sub b hb)) fun b hb => hn b (sub b hb)⟩

/-- an exception of our own frame, held, in our air -/
theorem xe_of {X : Cx} {W : WX} {pins : List (Addr × Obj)} {σ : L2.St} {H H' : Hp} {s s' : Shared} {B : Heap} {a : Addr} {cls : Value} {d : Option Addr} (I : Inv X pins σ H s)
    (sky : HandSPX.HeldZ B X.stack a (Zc cls d) X.env.locals s'.heap) (hok : HOk X.prog X.w H' B) (ub : UB (frs X.stack) H H' s.heap B s'.heap) (na : H' a = none) (os : s'.os = s.os) (ag : AllBare s'.gens) (w : W cls d σ H') : L2.XE X W (.ref a) s' := by
  obtain ⟨G, g1, g2⟩ := restrict s'.heap fun b => (B.get? b).isSome || decide (b ∈ frs X.stack)
  have st : B.StaysIn s'.heap := sky.1
  have gB : ∀ b o, B.get? b = some o → G.get? b = some o := fun b o e => by
    rw [g1 b (by simp [e])]
    exact st b o e
  have gF : ∀ b, b ∈ frs X.stack → G.get? b = s'.heap.get? b := fun b hb => g1 b (by simp [hb])
  have og : ∀ b o, G.get? b = some o → s'.heap.get? b = some o ∧ ((B.get? b).isSome = true ∨ b ∈ frs X.stack) := fun b o e => by
    cases q : ((B.get? b).isSome || decide (b ∈ frs X.stack)) with
    | false => rw [g2 b q] at e; cases e
    | true =>
      rw [g1 b q] at e
      exact ⟨e, by simpa [Bool.or_eq_true] using q⟩
  refine ⟨a, B, { s with heap := G, gens := s'.gens, drawn := s'.drawn, toks := s'.toks }, pins, σ, H', cls, d, rfl, ?_, fun b o e hb => ?_, Heap.UpToSlots.of_keeps fun b o e => (og b o e).1, .inr (.inr sky), na, os, ag, w⟩
  · refine I.call (ch := []) ⟨fun b o e n hb _ => gB b o (ub.keep b o e n hb), fun b o e n hb _ => ?_, fun b o e n _ => ub.free b o e n, fun b o e _ => ?_, ub.tups, ub.frzs, ub.tbls⟩ (hok.kept gB) ag (fun _ z => nomatch z)
    · obtain ⟨sl, q⟩ := ub.slot b o e hb
      exact ⟨sl, by rw [gF b hb]; exact q⟩
    · by_cases hb : b ∈ frs X.stack
      · obtain ⟨sl, q⟩ := ub.slot b o e hb
        exact ⟨_, by rw [gF b hb]; exact q⟩
      · obtain ⟨o', q⟩ := ub.there b o e hb
        exact ⟨o', gB b o' q⟩
  · obtain ⟨e', h⟩ := og b o e
    rcases h with h | h
    · obtain ⟨o', q⟩ := Option.isSome_iff_exists.mp h
      have z := st b o' q
      rw [e'] at z; cases z
      exact q
    · exact absurd h hb

/-- what a call within the block lets out reaches our air -/
theorem blk_pass {X : Cx} {Ex : XK} {pins : List (Addr × Obj)} {σ : L2.St} {H3 : Hp} {s3 : Shared} {scope : Scope} {ce : Env} {fp : List Addr} {Q : Value → Shared → Prop} {acc : Value} {C : Addr}
    (hs : X.stack = X.env :: X.outer) (hf : X.env.frame = some X.env.locals) (tk : L2.Takes X (fun cls d _ H => Ex cls d H)) (I3 : Inv X pins σ H3 s3)
    (f3 : ∀ b ∈ fp, FpOk X pins H3 b ∧ b < s3.heap.objs.size) (hC : ce.locals = C) (hCs : s3.heap.objs.size ≤ C) (hcf : ce.frame = X.env.frame) (σ' : L2.St) :
    PassesAt (L2.CX X.prog X.w) (blkX X s3 H3 scope ce fp (notedBy (model X.prog X.w) X.A ce fun e s' => blkEnd X Q acc C (.error e) s')) σ' Ex := by
  intro pins' H s e s' I c
  have I6 : Inv X pins σ H s := I3.call' (ch := fp) I.os I.base I.hok I.bare fun b hb => ⟨(f3 b hb).1.2.2.2.1, (f3 b hb).1.2.1, (f3 b hb).1.2.2.2.2.1, (f3 b hb).1.2.2.2.2.2⟩
  obtain ⟨a, B, H', cls, d, rfl, fl, hok, ub, na, os, ag, hE⟩ := c
  have nC : H C = none := by
    have z : H ce.locals = none := I.free
    rw [hC] at z; exact z
  have fC : FpOk X pins H C := I3.fpOk hCs nC
  have cF : C ∉ frs X.stack := fun hm => by
    rcases List.mem_cons.mp (I6.stkSub C hm) with z | z
    · exact fC.2.1 z
    · exact fC.2.2.1 z
  obtain ⟨m, ⟨ob, es, ep, ho, r⟩, _⟩ := I.loc
  have ho : s.heap.get? C = some ob := by rw [← hC]; exact ho
  have bC : B.get? C = some ob := ub.keep C ob ho nC cF
  have hfr : X.A.frames = some (X.env :: X.outer) := by rw [I6.ok.frames, hs]
  show wpAny (model X.prog X.w) X.A (noteFrame (.ref a) ce) _ _ s'
  have hnf : noteFrame (.ref a) ce = noteFrame (.ref a) X.env := by
    unfold PySem.noteFrame PySem.frameOf
    rw [hcf]
  rw [hnf]
  have fl : HandSPX.FlyingZ B X.stack a (Zc cls d) s'.heap := fl
  have fl2 := fl
  rw [hs] at fl2
  refine HandSPX.looks_onZ Zc.steady hfr hf fl2 fun h1 hh up1 => ?_
  rw [← hs] at hh
  obtain ⟨k1, k2, k3, oe, vs, T, oT, ts, he, hz, hd, h1e, hnT, hTe, hT, hdT, h3⟩ := hh
  refine ⟨m, ⟨ob, es, ep, k1 C ob bC, r⟩, fun h2 sb cn hcl hcn => ?_⟩
  have aC : a ≠ C := fun z => by rw [z] at k2; rw [k2] at bC; cases bC
  have TC : T ≠ C := fun z => by rw [z] at hnT; rw [hnT] at bC; cases bC
  obtain ⟨B2, b1, b2⟩ := restrict B fun b => !decide (b = C)
  have ob2 : ∀ b o, B2.get? b = some o → b ≠ C ∧ B.get? b = some o := fun b o e => by
    by_cases z : b = C
    · rw [b2 b (by simp [z])] at e; cases e
    · rw [b1 b (by simp [z])] at e; exact ⟨z, e⟩
  have toB2 : ∀ b o, b ≠ C → B.get? b = some o → B2.get? b = some o := fun b o z e => by
    rw [b1 b (by simp [z])]; exact e
  have nB2 : ∀ b, B.get? b = none → B2.get? b = none := fun b e => by
    cases q : B2.get? b with
    | none => rfl
    | some o => rw [(ob2 b o q).2] at e; cases e
  have hh2 : HandSPX.HeldZ B2 X.stack a (Zc cls d) X.env.locals h2 := by
    refine ⟨fun b o e => ?_, nB2 a k2, funFrames_at k3 (fun L hL => sb.2 L fun z => cF (z ▸ hL)) (fun L hL => nB2 L ?_), oe, vs, T, oT, ts, (sb.2 a aC).trans he, hz, hd, h1e, nB2 T hnT, hTe, (sb.2 T TC).trans hT, hdT, h3⟩
    · obtain ⟨z, e⟩ := ob2 b o e
      exact (sb.2 b z).trans (k1 b o e)
    · exact (k3.mem hL).1
  unfold PySem.passOn
  refine wpAny_bind (wpAny_field (x := .ref T) ((sb.2 a aC).trans he) hd h1e ?_)
  rw [if_neg (show ¬ ((Value.ref T == Value.none) = true) from by simp)]
  rw [hcn, hf]
  refine wpAny_bind (HandSPX.setFlight_onZ (L := X.env.locals) hh2 fun h3' hh3 up3 => ?_)
  refine wpAny_throw (tk _ _ ?_)
  -- the state without the block's names
  obtain ⟨G, g1, g2⟩ := restrict s.heap fun b => !decide (b = C)
  have og : ∀ b o, G.get? b = some o → b ≠ C ∧ s.heap.get? b = some o := fun b o e => by
    by_cases z : b = C
    · rw [g2 b (by simp [z])] at e; cases e
    · rw [g1 b (by simp [z])] at e; exact ⟨z, e⟩
  have I7 : Inv X pins σ H { s with heap := G, toks := s.toks } := I6.turned (h' := G) (it := C) (fun b o z e => by rw [g1 b (by simp [z])]; exact e) fC.1 fC.2.1 fC.2.2.2.1 fC.2.2.2.2.1 fC.2.2.2.2.2
  refine xe_of (B := B2) I7 hh3 (fun b u q => ?_) ⟨fun b o e n hb => ?_, fun b o e hb => ?_, fun b o e n => ub.free b o (og b o e).2 n, fun b o e hb => ?_, ub.tups, ub.frzs, ub.tbls⟩ na os ag hE
  · have nH : H' C = none := ub.free C ob ho nC
    refine (hok b u q).stay (fun c v hc y => toB2 c v (fun z => ?_) y) (fun _ y => y) fun _ _ y => y
    rw [z] at hc
    rcases hc with y | y
    · rw [← y, nH] at q; cases q
    · rw [nH] at y; cases y
  · obtain ⟨z, e⟩ := og b o e
    exact toB2 b o z (ub.keep b o e n hb)
  · obtain ⟨z, e⟩ := og b o e
    obtain ⟨_, o₀, e₀, hnf⟩ := I6.stack.mem hb
    rw [e] at e₀; cases e₀
    obtain ⟨sl, e1⟩ := ub.slot b o e hb
    obtain ⟨sl2, e2⟩ := up1 b _ e1 hnf
    have e2' : h2.get? b = _ := (sb.2 b z).trans e2
    obtain ⟨sl3, e3⟩ := up3 b _ e2' hnf
    exact ⟨sl3, e3⟩
  · obtain ⟨z, e⟩ := og b o e
    obtain ⟨o', e'⟩ := ub.there b o e hb
    exact ⟨o', toB2 b o' z e'⟩

/-- [elt for target in iter if ..], elt may raise; the wish about exceptions doesn't look at the slots -/
theorem pe_lcX {X : Cx} {Ex : XK} {elt tg iter : Expr} {ifs : List Expr} {scope : Scope} {own : List (Str × Nat)} {pos : Pos} {wi : TI} {g : TG} {tt : TT} {te : TE} (hc : X.calm = true)
    (hst : X.stack = X.env :: X.outer) (hfl : X.env.frame = some X.env.locals) (tk : L2.Takes X (fun cls d _ H => Ex cls d H)) (hN : X.N.Nodup) (hi : PI X tg iter wi) (ok : BlkOk X.N X.env.scope scope own)
    (hg : ∀ (s : Shared) (H : Hp) (C : Addr) (cl : List (Str × Addr)) (fp : List Addr) (xe : Value → Shared → Prop), PG (blkX X s H scope (compEnvC scope cl C X.env) fp xe) tg g)
    (ht : ∀ (s : Shared) (H : Hp) (C : Addr) (cl : List (Str × Addr)) (fp : List Addr) (xe : Value → Shared → Prop), PTs (blkX X s H scope (compEnvC scope cl C X.env) fp xe) ifs tt)
    (he : ∀ (s : Shared) (H : Hp) (C : Addr) (cl : List (Str × Addr)) (fp : List Addr) (xe : Value → Shared → Prop), (∀ σ, PassesAt (L2.CX X.prog X.w) (blkX X s H scope (compEnvC scope cl C X.env) fp xe) σ Ex) → PE (blkX X s H scope (compEnvC scope cl C X.env) fp xe) elt te)
    (hs : ∀ x, foldedSetIterable iter X.env x = pure x := by intro _; rfl) :
    PE X (.ListComp elt [⟨tg, iter, ifs, 0⟩] scope pos) (tLc wi g tt te (own.map (·.2))) := by
  refine ⟨fun pins s σ H Q I h => ?_⟩
  rw [eval_ListComp]
  have hfree : ∀ y ∈ scope.names, y.2 = .free → ∃ c, X.env.cells.lookup y.1 = some c := fun y hy e => by
    rcases ok.free y hy e with k | k
    · exact I.ok.has _ (.inl k)
    · exact I.ok.has _ (.inr k)
  refine comp_run rfl hs (closure_ok hfree) ok.kind (fun y hy e => by rw [ok.uniq y hy, e])
    (thn (hi.run pins s σ H _ I h) fun xv s1 hx => thn hx fun itv s2 h2 => ?_)
  obtain ⟨it, fp, tn, J, H2, e, I2, T, st2, f2, q⟩ := h2
  subst e
  refine wpAny_newObj_type (newEnv_comp ⟨rfl, ?_⟩) (by show 0 ≤ sizeLine; decide)
  generalize hD : s2.heap.objs.size = D
  have hDn : H2 D = none := I2.hok.fresh (Nat.le_of_eq hD)
  obtain ⟨W, ⟨m0, w0⟩, turn⟩ := q D hDn
  generalize hs3 : ({ s2 with heap := s2.heap.push { cls := .type "list", data := .seq ([] : List Value).toArray } } : Shared) = s3
  have I3 : Inv X pins σ (upd H2 D (.lst [])) s3 := by
    rw [← hs3]
    refine I2.laid (t' := s2.toks) (fun b o e => Heap.get?_push_of_some _ e) (Nat.le_of_eq hD) ⟨Nat.zero_le _, [], 0, .nil, ?_⟩
    rw [← hD]
    exact Heap.get?_push_size _ rfl
  have h3 : s3.heap = s2.heap.push { cls := .type "list", data := .seq ([] : List Value).toArray } := by rw [← hs3]
  have sz : ∀ b ∈ fp, b < s2.heap.objs.size := fun b hb => by
    obtain ⟨o, e, _⟩ := T.obj _ _ st2 b hb
    exact Heap.lt_size e
  have f3 : ∀ b ∈ fp, FpOk X pins (upd H2 D (.lst [])) b ∧ b < s3.heap.objs.size := fun b hb => by
    have hlt := sz b hb
    refine ⟨⟨?_, (f2 b hb).2⟩, by rw [h3, Heap.size_push]; exact Nat.lt_succ_of_lt hlt⟩
    rw [upd_ne (by rw [← hD]; exact Nat.ne_of_lt hlt)]
    exact (f2 b hb).1
  have st3 : tn 0 s3.heap := T.keep _ _ _ st2 fun b _ o e => by rw [h3]; exact Heap.get?_push_of_some _ e
  have I4 := block_start I3 ok hN f3
  have pg := fun xe => hg s3 (upd H2 D (.lst [])) s3.heap.objs.size (cellsFrom (s3.heap.objs.size + 1) scope.names (cloFrom X.env.cells scope.names [])) fp xe
  have pt := fun xe => ht s3 (upd H2 D (.lst [])) s3.heap.objs.size (cellsFrom (s3.heap.objs.size + 1) scope.names (cloFrom X.env.cells scope.names [])) fp xe
  have pe := fun xe => he s3 (upd H2 D (.lst [])) s3.heap.objs.size (cellsFrom (s3.heap.objs.size + 1) scope.names (cloFrom X.env.cells scope.names [])) fp xe
  show codeAny _ _ (.compStart (.ListComp elt [⟨tg, iter, ifs, 0⟩] scope pos) 0 (.ref it) (.ref D) (compEnvC scope (cellsFrom (s3.heap.objs.size + 1) scope.names (cloFrom X.env.cells scope.names [])) s3.heap.objs.size X.env)) (blkEnd X _ (.ref D) s3.heap.objs.size) { s3 with heap := pushCells (s3.heap.push { cls := .type "dict", data := .dict #[] }) scope.names }
  have nfp : ∀ b ∈ fp, (upd H2 D (.lst [])) b = none := fun b hb => (f3 b hb).1.1
  have cFr : (compEnvC scope (cellsFrom (s3.heap.objs.size + 1) scope.names (cloFrom X.env.cells scope.names [])) s3.heap.objs.size X.env).frame = X.env.frame := rfl
  generalize hce : compEnvC scope (cellsFrom (s3.heap.objs.size + 1) scope.names (cloFrom X.env.cells scope.names [])) s3.heap.objs.size X.env = ce at I4 pg pt pe cFr ⊢
  have cL : ce.locals = s3.heap.objs.size := by subst hce; rfl
  generalize hH3 : upd H2 D (.lst []) = H3 at I3 I4 pg pt pe w0 nfp f3
  generalize hs4 : ({ s3 with heap := pushCells (s3.heap.push { cls := .type "dict", data := .dict #[] }) scope.names } : Shared) = s4 at I4 ⊢
  have st4 : tn 0 s4.heap := T.keep _ _ _ st3 fun b _ o e => by rw [← hs4]; exact pushCells_keeps _ _ _ _ (Heap.get?_push_of_some _ e)
  generalize hQf : (fun (u : Value) (s' : Shared) => ∃ v H', Inv X pins σ H' s' ∧ RelV v u ∧ Q v H') = Qf
  have hQf' : EP X pins σ Q = Qf := by rw [← hQf]; rfl
  rw [hQf']
  generalize hXb : blkX X s3 H3 scope ce fp (notedBy (model X.prog X.w) X.A ce fun e s' => blkEnd X Qf (.ref D) s3.heap.objs.size (.error e) s') = Xb
  have bx : Xb.xe = notedBy (model X.prog X.w) X.A ce fun e s' => blkEnd X Qf (.ref D) s3.heap.objs.size (.error e) s' := by rw [← hXb]
  have hp : ∀ σ', PassesAt (L2.CX X.prog X.w) Xb σ' Ex := fun σ' => by
    rw [← hXb]
    exact blk_pass hst hfl tk I3 f3 cL (Nat.le_refl _) cFr σ'
  have Xst : Xb.xe = notedBy (model X.prog X.w) X.A ce fun e s' => blkEnd X Qf (.ref D) s3.heap.objs.size (.error e) s' := bx
  have stat : ∀ {σ' : L2.St} {H' : Hp} {s' : Shared}, Inv Xb [] σ' H' s' → (∀ b ∈ fp, H' b = none) → ∀ b ∈ fp, FpOk Xb [] H' b := fun {σ' H' s'} I' hn b hb => by
    subst hXb
    exact ⟨hn b hb, (I'.ok.exf b hb).1, I'.ok.exfs b hb, .inl hb, fun x c e => (I'.ok.exf b hb).2 x c e, fun p hp => absurd (show p ∈ ([] : List (Addr × Obj)) ++ [] from hp) (by simp)⟩
  have I4' : Inv Xb [] (wipe σ (own.map (·.2))) H3 s4 := by
    subst hXb
    exact inv_xe I4 _
  have pg := pg Xb.xe
  have pt := pt Xb.xe
  have pe := pe Xb.xe
  have eb : blkX X s3 H3 scope ce fp Xb.xe = Xb := by rw [bx, ← hXb]
  rw [eb] at pg pt pe
  have pe := pe hp
  have hmod : model Xb.prog Xb.w = model X.prog X.w := by rw [← hXb]
  have hA : Xb.A = X.A := by rw [← hXb]
  have hpr : Xb.prog = X.prog := by rw [← hXb]
  have hw : Xb.w = X.w := by rw [← hXb]
  have hK : Xb.K = X.K := by rw [← hXb]
  have hcl : Xb.calm = true := by rw [← hXb]; exact hc
  have hce' : Xb.env = ce := by rw [← hXb]
  have back : ∀ {σ' : L2.St} {H' : Hp} {s' : Shared} {pins' : List (Addr × Obj)}, Inv Xb pins' σ' H' s' → Inv X pins σ H' s' ∧ H' s3.heap.objs.size = none ∧ ∃ m, s'.heap.Ns s3.heap.objs.size m := fun {σ' H' s' pins'} I6 => by
    subst hXb
    refine ⟨I3.call' (ch := fp) I6.os I6.base I6.hok I6.bare fun b hb => ⟨(f3 b hb).1.2.2.2.1, (f3 b hb).1.2.1, (f3 b hb).1.2.2.2.2.1, (f3 b hb).1.2.2.2.2.2⟩, ?_, ?_⟩
    · have z : H' ce.locals = none := I6.free
      rw [cL] at z; exact z
    · obtain ⟨m, hn, _⟩ := I6.loc
      have hn : s'.heap.Ns ce.locals m := hn
      rw [cL] at hn
      exact ⟨m, hn⟩
  have loop : codeAny (model X.prog X.w) X.A (.compLoop (.ListComp elt [⟨tg, iter, ifs, 0⟩] scope pos) 0 (.ref it) (.ref D) ce) (blkEnd X Qf (.ref D) s3.heap.objs.size) s4 := by
    refine compLoop_any (fun n s' => ∃ i H', Inv Xb [] (wipe σ (own.map (·.2))) H' s' ∧ tn i s'.heap ∧ (∀ b ∈ fp, H' b = none) ∧ W i n H') ?_ m0 ⟨0, H3, I4', st4, nfp, w0⟩
    rintro n s5 ⟨i, H5, I5, st5, n5, w5⟩
    rw [← Xst]
    rcases turn i n H5 w5 with ⟨stop, qq⟩ | ⟨go, Nx, hNx, step⟩
    · have td := T.done Xb hpr hw hK hcl i [] s5 _ H5 Xb.xe I5 (stat I5 n5) st5 stop
      rw [hA] at td
      refine thn td fun r s6 ⟨hr, I6⟩ => ?_
      subst hr
      obtain ⟨I7, nC, m, hn⟩ := back I6
      obtain ⟨f0, f1, f2', f3', f4, f5⟩ := I3.fpOk (Nat.le_refl _) nC
      refine ⟨m, hn, fun h'' sb => ?_⟩
      rw [← hQf]
      exact ⟨.ref D, H5, I7.turned (t' := s6.toks) (fun b o hb e => (sb.2 b hb).trans e) f0 f1 f3' f4 f5, rfl, qq⟩
    · have ti := T.item Xb hpr hw hK hcl i [] s5 _ H5 Xb.xe I5 (stat I5 n5) st5 go
      rw [hA] at ti
      refine thn ti fun r s6 ⟨u, hr, h6⟩ => ?_
      subst hr
      refine thn h6 fun _ s7 ⟨x, H7, I7, r7, y7, st7, n7⟩ => ?_
      have I7' := I7.pinned (stat I7 n7) (T.obj _ _ st7)
      have gr := pg.run _ s7 _ H7 x u _ I7' r7 (step x H7 y7)
      rw [hmod, hA, hce'] at gr
      refine thn gr fun _ s8 ⟨σ8, H8, I8, hw8, q8⟩ => ?_
      have tr := pt.run _ s8 σ8 H8 _ I8 q8
      rw [hmod, hA, hce'] at tr
      refine thn tr fun b s9 ⟨H9, I9, q9⟩ => ?_
      have fin : ∀ {s' : Shared} {H' : Hp}, Inv Xb ([] ++ pinsAt fp s7.heap) σ8 H' s' → Nx H' → ∃ m, m < n ∧ ∃ i H', Inv Xb [] (wipe σ (own.map (·.2))) H' s' ∧ tn i s'.heap ∧ (∀ b ∈ fp, H' b = none) ∧ W i m H' := fun {s' H'} I' nx => by
        obtain ⟨m', hm, w'⟩ := hNx H' nx
        have pin' : ∀ b ∈ fp, ∀ o, s7.heap.get? b = some o → s'.heap.get? b = some o ∧ H' b = none := fun b hb o e =>
          let z := I'.pin (b, o) (List.mem_append_right _ (List.mem_append_right _ (mem_pinsAt hb e)))
          ⟨z.1, z.2.1⟩
        have hl : (wipe σ (own.map (·.2))).length = σ8.length := by rw [← hw8, L2.wipe_length]
        refine ⟨m', hm, i + 1, H', (I'.unpinned (pins := [])).weak hl (fun j v e => ?_), T.keep _ _ _ st7 fun b hb o e => (pin' b hb o e).1, fun b hb => ?_, w'⟩
        · rw [← hw8] at e
          exact (wipe_some e).1
        · obtain ⟨o, e, _⟩ := T.obj _ _ st7 b hb
          exact (pin' b hb o e).2
      cases b with
      | false =>
        simp only [Bool.false_eq_true, if_false] at q9 ⊢
        exact fin I9 q9
      | true =>
        simp only [if_true] at q9 ⊢
        have er := pe.run _ s9 σ8 H9 _ I9 q9
        rw [hmod, hA, hce'] at er
        refine thn er fun z s10 ⟨yv, H10, I10, r10, acc, hD10, hz10, nx⟩ => ?_
        have ar := app_ok (X := Xb) (E := Xb.xe) (Q := fun _ s₅ => ∃ m, m < n ∧ ∃ i H', Inv Xb [] (wipe σ (own.map (·.2))) H' s₅ ∧ tn i s₅.heap ∧ (∀ b ∈ fp, H' b = none) ∧ W i m H') I10 hD10 hz10 r10 fun s11 I11 => fin I11 nx
        rw [hmod, hA] at ar
        exact ar
  exact codeAny_compStart_list loop (T.self X.A 0 _ _ _ st4 loop)
end Mx
/-! a list comprehension whose element may raise, as data -/
namespace Mx
open PySem PySem.Spec PyProof.Rows L2
section
variable {K : Fr} {cl : Cl} {Ex : XK} {H H' H1 H0 : Hp} {O O' : List Addr} {σ : L2.St} {D : Ds} {B : List Addr}
def xCompX (xg : XG) (xt : XT) (xe : XE) (D0 : Ds) : List Dt → List Dt → R (List Dt)
  | [], acc => .ok acc
  | d :: r, acc => match xg d D0 with
    | .ok D1 => match xt D1 with
      | .ok true => match xe D1 with
        | .ok y => if acc.length < 1000000 then xCompX xg xt xe D0 r (acc ++ [y]) else .bad
        | .ex c fs => .ex c fs
        | .bad => .bad
      | .ok false => xCompX xg xt xe D0 r acc
      | _ => .bad
    | _ => .bad
@[simp] def xLcX (xi : XA) (xg : XG) (xt : XT) (xe : XE) (vs : List Nat) : XA := fun D => (xi D).bind fun l => xCompX xg xt xe (wipeD D vs) l []
theorem simL_lcX {wi : TI} {g : TG} {tt : TT} {te : TE} {vs : List Nat} {xi : XA} {xg : XG} {xt : XT} {xe : XE} (hi : SimI K cl (fun _ => Ex) wi xi) (hg : SimGW K cl vs g xg) (ht : SimT K cl (fun _ => E0) tt xt) (he : Sim K cl (fun _ => Ex) te xe) :
    SimL K cl (fun _ => Ex) (tLc wi g tt te vs) (xLcX xi xg xt xe vs) := fun B H0 O σ D H s Q q => by
  unfold xLcX at q
  refine hi B H0 O σ D H s _ ?_
  cases e : xi D with
  | bad => rw [e] at q; exact q.elim
  | ex c fs => rw [e] at q; exact q
  | ok l =>
    rw [e] at q
    simp only [Mx.R.bind] at q
    intro J H1 e1 go L nL
    generalize ec : xCompX xg xt xe (wipeD D vs) l [] = rr at q
    have s1 := (s.mono e1).wipe vs
    have hu : hid [L] (upd H1 L (.lst [])) = hid [L] H1 := hid_upd (List.mem_singleton.mpr rfl)
    have hH1 : hid [L] H1 = H1 := by
      funext a
      unfold hid
      split
      · rename_i h; rw [List.mem_singleton.mp h, nL]
      · rfl
    have nb : rr ≠ .bad := fun z => by rw [z] at q; exact q.elim
    refine ⟨fun i m H2 => m = l.length - i ∧ i ≤ l.length ∧ ∃ acc ds, RS K cl B H0 O (L2.wipe σ vs) (wipeD D vs) (hid [L] H2) ∧ Same H1 H2 ∧ H2 L = some (.lst acc) ∧ RepL K cl (hid (L :: O) H2) acc ds ∧ xCompX xg xt xe (wipeD D vs) (l.drop i) ds = rr,
      ⟨l.length, rfl, Nat.zero_le _, [], [], by rw [hu, hH1]; exact s1, same_upd nL, upd_same, .nil, ec⟩, ?_⟩
    rintro i m H2 ⟨rfl, hle, acc, ds, s2, f2, hL, ra, c2⟩
    have sO := s2.addOwn hL ra
    have fO : Same (hid O H1) (hid (L :: O) H2) := hid_new f2 nL
    have g' := go i (L :: O) H2 sO.same fO sO.trk
    by_cases hlt : i < l.length
    · have hd : l.drop i = l[i] :: l.drop (i + 1) := List.drop_eq_getElem_cons hlt
      rw [hd] at c2
      unfold xCompX at c2
      refine .inr ⟨(g'.1 _ (List.getElem?_eq_getElem hlt)).1, fun H3 => ∃ acc ds, RS K cl B H0 O (L2.wipe σ vs) (wipeD D vs) (hid [L] H3) ∧ Same H1 H3 ∧ H3 L = some (.lst acc) ∧ RepL K cl (hid (L :: O) H3) acc ds ∧ xCompX xg xt xe (wipeD D vs) (l.drop (i + 1)) ds = rr, ?_, ?_⟩
      · rintro H3 ⟨acc, ds, a, b, c, d, f⟩
        exact ⟨_, by omega, rfl, hlt, acc, ds, a, b, c, d, f⟩
      · intro x H3 y
        obtain ⟨e3, rx⟩ := (g'.1 _ (List.getElem?_eq_getElem hlt)).2 x H3 y
        cases eg : xg l[i] (wipeD D vs) with
        | bad => rw [eg] at c2; exact (nb c2.symm).elim
        | ex c fs => rw [eg] at c2; exact (nb c2.symm).elim
        | ok D1 =>
          rw [eg] at c2
          simp only at c2
          refine hg B H0 (L :: O) _ _ H3 (sO.mono e3) x _ rx _ D1 eg fun σ3 s3 w3 => ⟨by rw [w3, wipe_idem], ?_⟩
          refine ht B H0 (L :: O) σ3 D1 H3 s3 _ ?_
          cases et : xt D1 with
          | bad => rw [et] at c2; exact (nb c2.symm).elim
          | ex c fs => rw [et] at c2; exact (nb c2.symm).elim
          | ok b =>
            rw [et] at c2
            intro H4 e4
            cases b with
            | false =>
              simp only at c2
              have e34 := e3.trans e4
              exact ⟨acc, ds, s2.mono (hid_mono e34), f2.trans e34, e34 _ _ hL, ra.mono (hid_mono e34), c2⟩
            | true =>
              simp only at c2
              rw [if_pos rfl]
              refine he B H0 (L :: O) σ3 D1 H4 (s3.mono e4) _ ?_
              cases ee : xe D1 with
              | bad => rw [ee] at c2; exact (nb c2.symm).elim
              | ex c fs =>
                rw [ee] at c2
                simp only at c2
                rw [← c2] at q
                have q : ExOk K cl Ex O c fs H := q
                exact ExOk.mono (((e1.trans f2).trans e3).trans e4) (ExOk.sub (fun a ha => List.mem_cons_of_mem _ ha) q)
              | ok y =>
                rw [ee] at c2
                simp only at c2
                intro v H5 e5 ry
                split at c2
                · rename_i hz
                  have e345 := (e3.trans e4).trans e5
                  have hup : hid [L] (upd H5 L (.lst (acc ++ [v]))) = hid [L] H5 := hid_upd (List.mem_singleton.mpr rfl)
                  have hup2 : hid (L :: O) (upd H5 L (.lst (acc ++ [v]))) = hid (L :: O) H5 := hid_upd List.mem_cons_self
                  refine ⟨acc, e345 _ _ hL, sz_lt (by rw [ra.len]; exact hz), acc ++ [v], ds ++ [y], by rw [hup]; exact s2.mono (hid_mono e345), ?_, upd_same, by rw [hup2]; exact (ra.mono (hid_mono e345)).app (RepL.one ry), c2⟩
                  intro a o ha
                  rw [upd_ne (ne_of_none ha nL)]
                  exact e345 _ _ (f2 _ _ ha)
                · exact (nb c2.symm).elim
    · have hi' : i = l.length := by omega
      refine .inl ⟨g'.2 hi', ?_⟩
      rw [hi', List.drop_length] at c2
      simp only [xCompX] at c2
      rw [← c2] at q
      exact q L acc H2 (e1.trans f2) (e1.free nL) hL ra
end
end Mx
/-! own `in` within a try; a, b, c = x, y, z -/
namespace L2
open PySem PySem.Spec PyProof.Rows PySem.W
section
variable {X : Cx} {CX : CXT} {k : Nat} {C f : Addr} {fd : FuncData} {ps : List Str} {sp : Sp} {E : St → XK} {a b : Expr} {ta tb : TE} {pos : Pos}
/-- x in o, what it lets out may speak of the slots -/
def tInE (C : Addr) (sp : Sp) (E : St → XK) (ta tb : TE) : TE := fun σ H Q => ta σ H fun x H1 => tb σ H1 fun y H2 => rInC C sp (E σ) x y H2 Q
theorem pe_inE (h : OwnC X.K C f) (F : FnOk X.prog X.w X.K X.mg X.base CX k f fd ps sp) (hr : Room k X.A) (hb : Binds X.K fd ps []) (hx : ∀ σ, PassesAt CX X σ (E σ)) (ha : PE X a ta) (hbb : PE X b tb) (hm : behindInMarks .In b = false) :
    PE X (.Compare a [.In] [b] pos) (tInE C sp E ta tb) := by
  refine ⟨fun pins s σ H Q I hq => ?_⟩
  refine wpAny_Compare1 (binT ha hbb I hq fun v u s2 x y H2 I2 rx ry q0 => ?_) hm
  obtain ⟨a, dx, fs, rfl, ea, q⟩ := q0
  obtain rfl : u = Value.ref a := ry
  obtain ⟨mA, oa, _⟩ := ins_get I2.hok ea
  obtain ⟨od, J, _⟩ := oa.look
  obtain ⟨m, fr⟩ := I2.fr
  have r := run_fnSD (ds := []) (dvs := []) F hr hb .nil (hx σ) I2 (us := [.ref a, v]) (vs := [.ref a, x]) (.cons rfl (.cons rx .nil)) q
  exact PySem.W.in_K fr I2.ok.mod.kin J h.at_ h.fn (wpAny_mono r (fun z s' hz => by
    obtain ⟨v, H', I', rv, b, rfl, q'⟩ := hz
    obtain rfl : z = Value.bool b := rv
    exact wpAny_truthy_bool ⟨V.bl b, H', I', rfl, q'⟩) fun _ _ z => z)
end
end L2
namespace Mx
open PySem PySem.Spec PyProof.Rows L2
section
variable {K : Fr} {cl : Cl} {E : L2.St → XK} {H H' H1 H0 : Hp} {O O' : List Addr} {σ : L2.St} {D : Ds} {B : List Addr}
theorem sim_inE {c : Str} {C : Addr} {f : List Dt → R Dt} {ta tb : TE} {xa xb : XE} (hc : cl c = some C) (ha : Sim K cl E ta xa) (hb : Sim K cl E tb xb) :
    Sim K cl E (tInE C (PureSp K cl f) E ta tb) (x2 (dInC c f) xa xb) := fun B H0 O σ D H s Q q => by
  unfold x2 at q
  refine ha B H0 O σ D H s _ ?_
  cases ea : xa D with
  | bad => rw [ea] at q; exact q.elim
  | ex c' fs => rw [ea] at q; exact q
  | ok d =>
    rw [ea] at q
    simp only [Mx.R.bind] at q
    intro x H1 e1 rx
    refine hb B H0 O σ D H1 (s.mono e1) _ ?_
    cases eb : xb D with
    | bad => rw [eb] at q; exact q.elim
    | ex c' fs => rw [eb] at q; exact ExOk.mono e1 q
    | ok d2 =>
      rw [eb] at q
      simp only [Mx.R.bind] at q
      intro y H2 e2 ry
      have tr := ((s.mono e1).mono e2).trk
      have rx := rx.mono (hid_mono (O := O) e2)
      replace q := post_E (e1.trans e2) q
      cases ry with
      | ins k e kk rr =>
        rw [dInC_ins] at q
        split at q
        · rename_i h
          subst h
          rw [hc] at k
          cases k
          refine ⟨_, _, _, rfl, hid_same _ _ _ _ e, O, _, tr, .cons (.ins hc e kk rr) (.cons rx .nil), ?_⟩
          revert q
          generalize f _ = z
          intro q
          cases z with
          | bad => exact q
          | ex c fs => exact q
          | ok d =>
            rw [bind_ok] at q
            cases d with
            | bl b =>
              intro v H' e' r'
              cases r'
              exact ⟨_, rfl, q _ H' e' (.bl _)⟩
            | _ => exact q.elim
        · exact q.elim
      | _ => exact q.elim
def par3 (D : Ds) (i j l : Nat) : List Dt → Out
  | [a, b, c] => .nx (((D.set i (.sh a)).set j (.sh b)).set l (.sh c))
  | _ => .bad
@[simp] theorem par3_3 (D : Ds) (i j l : Nat) (a b c : Dt) : par3 D i j l [a, b, c] = .nx (((D.set i (.sh a)).set j (.sh b)).set l (.sh c)) := rfl
@[simp] def xsPar3 (i j l : Nat) (xa : XA) : XS := fun D => (xa D).out D fun ds => par3 D i j l ds
theorem ss_par3 {i j l : Nat} {ta : TA} {xa : XA} (h : SimA K cl E ta xa) : SimS K cl E (tPar3 i j l ta) (xsPar3 i j l xa) := fun B H0 O σ D H s En q => by
  unfold xsPar3 at q
  refine h B H0 O σ D H s _ ?_
  cases e : xa D with
  | bad => rw [e] at q; exact q.elim
  | ex c fs => rw [e] at q; exact q O σ H s (Same.refl _)
  | ok ds =>
    rw [e, out_ok] at q
    intro vs H1 e1 r
    unfold par3 at q
    split at q
    · cases r with
      | cons r1 r =>
        cases r with
        | cons r2 r =>
          cases r with
          | cons r3 r =>
            cases r
            exact ⟨_, _, _, rfl, q O _ H1 ((((s.mono e1).setSh i r1).setSh j r2).setSh l r3) (hid_mono e1)⟩
    · exact q.elim
end
end Mx
/-! a, b = l, l a list -/
namespace Mx
open PySem PySem.Spec PyProof.Rows L2
section
variable {K : Fr} {cl : Cl}
@[simp] def xgLst (n : Nat) (xs : List Dt → Ds → R Ds) : XG := fun d D => match d with
  | .lst l => if l.length = n then xs l D else .bad
  | _ => .bad
theorem sg_lst {n : Nat} {gs : TGs} {xs : List Dt → Ds → R Ds} (h : SimGs K cl gs xs) : SimG K cl (gLst K n gs) (xgLst n xs) := fun B H0 O σ D H s v d r Q D' e q => by
  unfold xgLst at e
  split at e
  · split at e
    · rename_i l hl
      cases r with
      | lst ha ra =>
        exact ⟨_, _, rfl, SqL.of (hid_same _ _ _ _ ha), by rw [ra.len]; exact hl, h B H0 O σ D H s _ _ ra Q D' e q⟩
    · cases e
  · cases e
end
end Mx
namespace Mx
open PySem PySem.Spec PyProof.Rows L2
def topS (i : Nat) : Stmt := PySem.Challenge.pw_mixpace_k31_region_refusals.main.body.getD i (.Pass ⟨0, 0, 0, 0⟩)
abbrev s__law_pick : Stmt := topS 28
abbrev s__law_draw : Stmt := topS 29
abbrev s__law_points : Stmt := topS 30
abbrev s__gap : Stmt := topS 25
abbrev s__is_before : Stmt := topS 23
abbrev s__least : Stmt := topS 12
abbrev s__turn : Stmt := topS 26
abbrev s__comes_sooner : Stmt := topS 14
abbrev s__next_corner : Stmt := topS 13
abbrev s__corners_of : Stmt := topS 11
abbrev s__direction : Stmt := topS 24
abbrev s__side : Stmt := topS 18
abbrev s__four_sides : Stmt := topS 17
abbrev s__side_along : Stmt := topS 16
abbrev s__sides_of : Stmt := topS 15
abbrev s_check_mix : Stmt := topS 8
abbrev s_lowest : Stmt := topS 7
abbrev s_Region___init__ : Stmt := inClass (topS 10) 0
abbrev s__law_refusal : Stmt := topS 31
abbrev s_Region_bar : Stmt := inClass (topS 10) 6
abbrev s__in_lowest_terms : Stmt := topS 22
abbrev s__triangle_weights : Stmt := topS 21
abbrev s__segment_weights : Stmt := topS 20
abbrev s__corner_weights : Stmt := topS 19
abbrev s_Region_weights : Stmt := inClass (topS 10) 7
abbrev s_Region___contains__ : Stmt := inClass (topS 10) 3
abbrev s__law_asked : Stmt := topS 32
abbrev s_law : Stmt := topS 33
abbrev s_Barred___init__ : Stmt := inClass (topS 5) 0
abbrev s_InvalidMix___init__ : Stmt := inClass (topS 4) 0
structure Ad where
  (_law_pick _law_draw _law_points _gap _is_before _least _turn _comes_sooner _next_corner _corners_of _direction _side _four_sides _side_along _sides_of check_mix lowest Region___init__ _law_refusal Region_bar _in_lowest_terms _triangle_weights _segment_weights _corner_weights Region_weights Region___contains__ _law_asked law C_Region C_Barred C_EmptyRegion C_InvalidMix C_KitchenError XI_Barred cc_Barred cd_Barred XI_InvalidMix cc_InvalidMix cd_InvalidMix : Addr)
  (_law_pick_d _law_draw_d _law_points_d _gap_d _is_before_d _least_d _turn_d _comes_sooner_d _next_corner_d _corners_of_d _direction_d _side_d _four_sides_d _side_along_d _sides_of_d check_mix_d lowest_d Region___init___d _law_refusal_d Region_bar_d _in_lowest_terms_d _triangle_weights_d _segment_weights_d _corner_weights_d Region_weights_d Region___contains___d _law_asked_d law_d XI_Barred_d XI_InvalidMix_d : FuncData)
def nf_Barred (A : Ad) : NdefX.NF := ⟨"__init__", "Barred.__init__", defArgs s_Barred___init__, defBody s_Barred___init__, defScope s_Barred___init__, [(("__class__" : Str), A.cc_Barred)], A.cd_Barred⟩
def tm_Barred : TA := tCons (tC (.str "the mix does not belong to the region")) tNil
def okm_Barred : Dt → Bool := fun _ => true
theorem hm_Barred {C : Addr} {K : Fr} {cl : Cl} (x : V) (d : Dt) (Hr H : Hp) (a : Addr) : Rep K cl Hr x d → okm_Barred d = true → tm_Barred ((fun vs => NdefX.startF ["self", "side", "__class__"] vs [some (.ref C)]) [.ref a, x]) H (fun us H2 => us.length ≤ 1000 ∧ H2 = H) := fun _ _ => ⟨by simp, rfl⟩
def nf_InvalidMix (A : Ad) : NdefX.NF := ⟨"__init__", "InvalidMix.__init__", defArgs s_InvalidMix___init__, defBody s_InvalidMix___init__, defScope s_InvalidMix___init__, [(("__class__" : Str), A.cc_InvalidMix)], A.cd_InvalidMix⟩
def tm_InvalidMix : TA := tCons (tC (.str "a mix has at least 1 beat")) tNil
def okm_InvalidMix : Dt → Bool := fun _ => true
theorem hm_InvalidMix {C : Addr} {K : Fr} {cl : Cl} (x : V) (d : Dt) (Hr H : Hp) (a : Addr) : Rep K cl Hr x d → okm_InvalidMix d = true → tm_InvalidMix ((fun vs => NdefX.startF ["self", "mix", "__class__"] vs [some (.ref C)]) [.ref a, x]) H (fun us H2 => us.length ≤ 1000 ∧ H2 = H) := fun _ _ => ⟨by simp, rfl⟩
def gV_0 (vs zs : List V) : List V := vs ++ zs
def gD_0 (vs zs : List Dt) : List Dt := vs ++ zs
theorem ga_0 : ArgsOk 1 0 gV_0 gD_0 := fun K cl H x vs zs ds es h1 h2 r1 r2 => by
  match vs, ds, zs, es, h1, h2, r1, r2 with
  | [v0], [d0], [], [], _, _, .cons p0 .nil, .nil => exact ⟨_, rfl, .cons p0 .nil⟩
structure Txt (P : Program) (K : Fr) (mg : Str → Option Value) (cl : Cl) (A : Ad) : Prop where
  F__law_pick : Fun K "_law_pick" "_law_pick" s__law_pick A._law_pick A._law_pick_d
  g__law_pick : mg "_law_pick" = some (.ref A._law_pick)
  b__law_pick : L2.Binds K A._law_pick_d ["_law_script", "_law_k"] []
  F__law_draw : Fun K "_law_draw" "_law_draw" s__law_draw A._law_draw A._law_draw_d
  g__law_draw : mg "_law_draw" = some (.ref A._law_draw)
  b__law_draw : L2.Binds K A._law_draw_d ["_law_cell", "_law_k", "_law_many"] []
  F__law_points : Fun K "_law_points" "_law_points" s__law_points A._law_points A._law_points_d
  g__law_points : mg "_law_points" = some (.ref A._law_points)
  b__law_points : L2.Binds K A._law_points_d ["_law_script", "_law_at"] []
  F__gap : Fun K "_gap" "_gap" s__gap A._gap A._gap_d
  g__gap : mg "_gap" = some (.ref A._gap)
  b__gap : L2.Binds K A._gap_d ["p", "q", "axis"] []
  F__is_before : Fun K "_is_before" "_is_before" s__is_before A._is_before A._is_before_d
  g__is_before : mg "_is_before" = some (.ref A._is_before)
  b__is_before : L2.Binds K A._is_before_d ["p", "q"] []
  F__least : Fun K "_least" "_least" s__least A._least A._least_d
  g__least : mg "_least" = some (.ref A._least)
  b__least : L2.Binds K A._least_d ["points"] []
  F__turn : Fun K "_turn" "_turn" s__turn A._turn A._turn_d
  g__turn : mg "_turn" = some (.ref A._turn)
  b__turn : L2.Binds K A._turn_d ["p", "q", "r"] []
  F__comes_sooner : Fun K "_comes_sooner" "_comes_sooner" s__comes_sooner A._comes_sooner A._comes_sooner_d
  g__comes_sooner : mg "_comes_sooner" = some (.ref A._comes_sooner)
  b__comes_sooner : L2.Binds K A._comes_sooner_d ["corner", "point", "other"] []
  F__next_corner : Fun K "_next_corner" "_next_corner" s__next_corner A._next_corner A._next_corner_d
  g__next_corner : mg "_next_corner" = some (.ref A._next_corner)
  b__next_corner : L2.Binds K A._next_corner_d ["points", "corner"] []
  F__corners_of : Fun K "_corners_of" "_corners_of" s__corners_of A._corners_of A._corners_of_d
  g__corners_of : mg "_corners_of" = some (.ref A._corners_of)
  b__corners_of : L2.Binds K A._corners_of_d ["points"] []
  F__direction : Fun K "_direction" "_direction" s__direction A._direction A._direction_d
  g__direction : mg "_direction" = some (.ref A._direction)
  b__direction : L2.Binds K A._direction_d ["p", "q"] []
  F__side : Fun K "_side" "_side" s__side A._side A._side_d
  g__side : mg "_side" = some (.ref A._side)
  b__side : L2.Binds K A._side_d ["a", "b", "corner"] []
  F__four_sides : Fun K "_four_sides" "_four_sides" s__four_sides A._four_sides A._four_sides_d
  g__four_sides : mg "_four_sides" = some (.ref A._four_sides)
  b__four_sides : L2.Binds K A._four_sides_d ["p", "q"] []
  F__side_along : Fun K "_side_along" "_side_along" s__side_along A._side_along A._side_along_d
  g__side_along : mg "_side_along" = some (.ref A._side_along)
  b__side_along : L2.Binds K A._side_along_d ["corner", "after"] []
  F__sides_of : Fun K "_sides_of" "_sides_of" s__sides_of A._sides_of A._sides_of_d
  g__sides_of : mg "_sides_of" = some (.ref A._sides_of)
  b__sides_of : L2.Binds K A._sides_of_d ["corners"] []
  F_check_mix : Fun K "check_mix" "check_mix" s_check_mix A.check_mix A.check_mix_d
  g_check_mix : mg "check_mix" = some (.ref A.check_mix)
  b_check_mix : L2.Binds K A.check_mix_d ["mix"] []
  F_lowest : Fun K "lowest" "lowest" s_lowest A.lowest A.lowest_d
  g_lowest : mg "lowest" = some (.ref A.lowest)
  b_lowest : L2.Binds K A.lowest_d ["mix"] []
  F_Region___init__ : Fun K "__init__" "Region.__init__" s_Region___init__ A.Region___init__ A.Region___init___d
  F__law_refusal : Fun K "_law_refusal" "_law_refusal" s__law_refusal A._law_refusal A._law_refusal_d
  g__law_refusal : mg "_law_refusal" = some (.ref A._law_refusal)
  b__law_refusal : L2.Binds K A._law_refusal_d ["_law_mixes"] []
  F_Region_bar : Fun K "bar" "Region.bar" s_Region_bar A.Region_bar A.Region_bar_d
  b_Region_bar : L2.Binds K A.Region_bar_d ["self", "mix"] []
  F__in_lowest_terms : Fun K "_in_lowest_terms" "_in_lowest_terms" s__in_lowest_terms A._in_lowest_terms A._in_lowest_terms_d
  g__in_lowest_terms : mg "_in_lowest_terms" = some (.ref A._in_lowest_terms)
  b__in_lowest_terms : L2.Binds K A._in_lowest_terms_d ["weights"] []
  F__triangle_weights : Fun K "_triangle_weights" "_triangle_weights" s__triangle_weights A._triangle_weights A._triangle_weights_d
  g__triangle_weights : mg "_triangle_weights" = some (.ref A._triangle_weights)
  b__triangle_weights : L2.Binds K A._triangle_weights_d ["corners", "mix"] []
  F__segment_weights : Fun K "_segment_weights" "_segment_weights" s__segment_weights A._segment_weights A._segment_weights_d
  g__segment_weights : mg "_segment_weights" = some (.ref A._segment_weights)
  b__segment_weights : L2.Binds K A._segment_weights_d ["corners", "mix"] []
  F__corner_weights : Fun K "_corner_weights" "_corner_weights" s__corner_weights A._corner_weights A._corner_weights_d
  g__corner_weights : mg "_corner_weights" = some (.ref A._corner_weights)
  b__corner_weights : L2.Binds K A._corner_weights_d ["corners", "mix"] []
  F_Region_weights : Fun K "weights" "Region.weights" s_Region_weights A.Region_weights A.Region_weights_d
  b_Region_weights : L2.Binds K A.Region_weights_d ["self", "mix"] []
  F_Region___contains__ : Fun K "__contains__" "Region.__contains__" s_Region___contains__ A.Region___contains__ A.Region___contains___d
  b_Region___contains__ : L2.Binds K A.Region___contains___d ["self", "x"] []
  F__law_asked : Fun K "_law_asked" "_law_asked" s__law_asked A._law_asked A._law_asked_d
  g__law_asked : mg "_law_asked" = some (.ref A._law_asked)
  b__law_asked : L2.Binds K A._law_asked_d ["_law_region", "_law_mix", "_law_door"] []
  F_law : Fun K "law" "law" s_law A.law A.law_d
  g_law : mg "law" = some (.ref A.law)
  b_law : L2.Binds K A.law_d ["_law_script"] []
  g_Region : mg "Region" = some (.ref A.C_Region)
  l_Region : cl "Region" = some A.C_Region
  g_Barred : mg "Barred" = some (.ref A.C_Barred)
  l_Barred : cl "Barred" = some A.C_Barred
  g_EmptyRegion : mg "EmptyRegion" = some (.ref A.C_EmptyRegion)
  l_EmptyRegion : cl "EmptyRegion" = some A.C_EmptyRegion
  g_InvalidMix : mg "InvalidMix" = some (.ref A.C_InvalidMix)
  l_InvalidMix : cl "InvalidMix" = some A.C_InvalidMix
  g_KitchenError : mg "KitchenError" = some (.ref A.C_KitchenError)
  xe_Barred : ExcE K A.C_Barred
  xe_EmptyRegion : ExcE K A.C_EmptyRegion
  xe_InvalidMix : ExcE K A.C_InvalidMix
  ki_Barred_Barred : PySem.W.kitOne K (.ref A.C_Barred) (.ref A.C_Barred) = some true
  ki_Barred_EmptyRegion : PySem.W.kitOne K (.ref A.C_Barred) (.ref A.C_EmptyRegion) = some false
  ki_EmptyRegion_Barred : PySem.W.kitOne K (.ref A.C_EmptyRegion) (.ref A.C_Barred) = some false
  ki_EmptyRegion_EmptyRegion : PySem.W.kitOne K (.ref A.C_EmptyRegion) (.ref A.C_EmptyRegion) = some true
  ki_EmptyRegion_InvalidMix : PySem.W.kitOne K (.ref A.C_EmptyRegion) (.ref A.C_InvalidMix) = some false
  ki_EmptyRegion_ValueError : PySem.W.kitOne K (.ref A.C_EmptyRegion) (.type "ValueError") = some true
  ki_InvalidMix_Barred : PySem.W.kitOne K (.ref A.C_InvalidMix) (.ref A.C_Barred) = some false
  ki_InvalidMix_EmptyRegion : PySem.W.kitOne K (.ref A.C_InvalidMix) (.ref A.C_EmptyRegion) = some false
  ki_InvalidMix_InvalidMix : PySem.W.kitOne K (.ref A.C_InvalidMix) (.ref A.C_InvalidMix) = some true
  ki_InvalidMix_ValueError : PySem.W.kitOne K (.ref A.C_InvalidMix) (.type "ValueError") = some true
  cx_Barred_InvalidMix : PySem.W.exmOne K (.ref A.C_Barred) (.ref A.C_InvalidMix) = some false
  cx_EmptyRegion_InvalidMix : PySem.W.exmOne K (.ref A.C_EmptyRegion) (.ref A.C_InvalidMix) = some false
  cx_EmptyRegion_KitchenError : PySem.W.exmOne K (.ref A.C_EmptyRegion) (.ref A.C_KitchenError) = some true
  cx_InvalidMix_InvalidMix : PySem.W.exmOne K (.ref A.C_InvalidMix) (.ref A.C_InvalidMix) = some true
  cx_InvalidMix_KitchenError : PySem.W.exmOne K (.ref A.C_InvalidMix) (.ref A.C_KitchenError) = some true
  su_Barred : SuF P K A.XI_Barred A.C_Barred (nf_Barred A) A.XI_Barred_d
  oe_Barred : OexC K A.C_Barred
  in_Barred : PySem.W.findIn K (.ref A.C_Barred) "__init__" = some (some (.ref A.XI_Barred))
  ti_Barred : PySem.W.typeIn K (.ref A.XI_Barred) = some (.type "function")
  bx_Barred : L2.Binds K A.XI_Barred_d ["self", "side"] []
  nx_Barred : PySem.W.findIn K (.ref A.C_Barred) "side" = some none
  su_InvalidMix : SuF P K A.XI_InvalidMix A.C_InvalidMix (nf_InvalidMix A) A.XI_InvalidMix_d
  oe_InvalidMix : OexC K A.C_InvalidMix
  in_InvalidMix : PySem.W.findIn K (.ref A.C_InvalidMix) "__init__" = some (some (.ref A.XI_InvalidMix))
  ti_InvalidMix : PySem.W.typeIn K (.ref A.XI_InvalidMix) = some (.type "function")
  bx_InvalidMix : L2.Binds K A.XI_InvalidMix_d ["self", "mix"] []
  nx_InvalidMix : PySem.W.findIn K (.ref A.C_InvalidMix) "mix" = some none
  m_gcd : mg "gcd" = some (.builtin "math.gcd")
  ow_Region : OwnC K A.C_Region A.Region___contains__
  xf_InvalidMix : XfC K A.C_InvalidMix
  N_InvalidMix_mix : PySem.W.findIn K (.ref A.C_InvalidMix) "mix" = some none
  K_Region : Cls K A.C_Region
  N_Region__corners : NoAttr K A.C_Region "_corners"
  N_Region__sides : NoAttr K A.C_Region "_sides"
  M_Region : Mk K A.C_Region A.Region___init__
  Me_Region_bar : Meth K A.C_Region "bar" A.Region_bar
  Me_Region_weights : Meth K A.C_Region "weights" A.Region_weights
  Me_Region___contains__ : Meth K A.C_Region "__contains__" A.Region___contains__
  k_Barred : PySem.W.keepIn K (.ref A.C_Barred) = true
  e_Barred : PySem.W.subIn K (.ref A.C_Barred) (.type "BaseException") = some true
  t_Barred : PySem.W.typeIn K (.ref A.C_Barred) = some (.type "type")
  x_EmptyRegion : PySem.W.excIn K A.C_EmptyRegion [.type "ValueError", .type "Exception", .type "BaseException", .type "object"] "ValueError.__new__" = true
  k_EmptyRegion : PySem.W.keepIn K (.ref A.C_EmptyRegion) = true
  e_EmptyRegion : PySem.W.subIn K (.ref A.C_EmptyRegion) (.type "BaseException") = some true
  t_EmptyRegion : PySem.W.typeIn K (.ref A.C_EmptyRegion) = some (.type "type")
  k_InvalidMix : PySem.W.keepIn K (.ref A.C_InvalidMix) = true
  e_InvalidMix : PySem.W.subIn K (.ref A.C_InvalidMix) (.type "BaseException") = some true
  t_InvalidMix : PySem.W.typeIn K (.ref A.C_InvalidMix) = some (.type "type")
  kb_0 : ∃ g, KBn K A.Region___init___d ["self", "mixes"] 2 [] g gV_0
  z_ValueError : mg "ValueError" = none
  z_int : mg "int" = none
  z_isinstance : mg "isinstance" = none
  z_len : mg "len" = none
  z_list : mg "list" = none
  z_range : mg "range" = none
  z_super : mg "super" = none
  z_zip : mg "zip" = none
section
variable {P : Program} {w : World} {K : Fr} {mg : Str → Option Value} {base : Heap} {cl : Cl} {A : Ad}
theorem fx_Barred (T : Txt P K mg cl A) : FnOk P w K mg base (L2.CX P w) 1 A.XI_Barred A.XI_Barred_d ["self", "side"] (spEx A.C_Barred "side" tm_Barred (fun vs => NdefX.startF ["self", "side", "__class__"] vs [some (.ref A.C_Barred)])) :=
  fn_exc (k := 0) T.su_Barred T.z_super (NdefX.nscope_by (show NdefX.nscB ["self", "side", "__class__"] ["self", "side"] ["__class__"] (defScope s_Barred___init__) = true by decide +kernel)) (by rfl) (by rfl) (by rfl) (by rfl) T.nx_Barred (fun _ => rfl) (fun _ _ => rfl) (fun _ => rfl) (fun _ => ⟨_, rfl⟩) (fun _ _ _ _ _ => pa_cons pe_str pa_nil) (fun _ _ _ _ _ => pss_one (ps_ost (pe_var (i := 0) rfl (.inl rfl)) (pe_var (i := 1) rfl (.inl rfl))))
theorem fx_InvalidMix (T : Txt P K mg cl A) : FnOk P w K mg base (L2.CX P w) 1 A.XI_InvalidMix A.XI_InvalidMix_d ["self", "mix"] (spEx A.C_InvalidMix "mix" tm_InvalidMix (fun vs => NdefX.startF ["self", "mix", "__class__"] vs [some (.ref A.C_InvalidMix)])) :=
  fn_exc (k := 0) T.su_InvalidMix T.z_super (NdefX.nscope_by (show NdefX.nscB ["self", "mix", "__class__"] ["self", "mix"] ["__class__"] (defScope s_InvalidMix___init__) = true by decide +kernel)) (by rfl) (by rfl) (by rfl) (by rfl) T.nx_InvalidMix (fun _ => rfl) (fun _ _ => rfl) (fun _ => rfl) (fun _ => ⟨_, rfl⟩) (fun _ _ _ _ _ => pa_cons pe_str pa_nil) (fun _ _ _ _ _ => pss_one (ps_ost (pe_var (i := 0) rfl (.inl rfl)) (pe_var (i := 1) rfl (.inl rfl))))
def N__law_pick : List Str := ["_law_script", "_law_k"]
theorem sc__law_pick : FnScope N__law_pick ["_law_script", "_law_k"] (defScope s__law_pick) := ⟨rfl, rfl, rfl, by decide +kernel, rfl, by decide +kernel, by decide +kernel⟩
def xs__law_pick : XS := xsSeq (xsIf (xTest (x2 dLtI (xVarB 1) (xCB dLen (xCons (xVarB 0) xNil)))) (xsRet (xCB dInt (xCons (x2 dIx (xVarB 0) (xVarB 1)) xNil))) xsNext)
    (xsRet (xC (.int 0)))
def m__law_pick : List Dt → R Dt := funD 2 2 xs__law_pick
theorem ok__law_pick (T : Txt P K mg cl A) : FnOk P w K mg base (L2.CX P w) 1 A._law_pick A._law_pick_d ["_law_script", "_law_k"] (PureSp K cl m__law_pick) := by
  refine T.F__law_pick.okX sc__law_pick (fun vs H Q E h => h.len) (fun cdv A outer s H vs Q E hr h => ?_)
  have hu := hu_of hr
  exact ⟨_, pss_cons (ps_if (pt_cmpR op_lt (pv 1) (pe_callB call_lenA (by rfl) T.z_len (by decide +kernel) (pa_cons (pv 0) pa_nil)) (nomark _)) (pss_one (ps_ret (pe_callTy call_intA (by rfl) T.z_int (by decide +kernel) (pa_cons (pe_ix ix_seq (pv 0) (pv 1) (fun _ _ => rfl)) pa_nil)))) pss_nil)
    (pss_one (ps_ret pe_int)),
    body_ok (xs := xs__law_pick) (k := 2) (ss_seq (ss_if (st_test (sim_op os_ltI simB_var (simB_of (sim_cb cs_len (sba_cons simB_var sba_nil))))) (ss_ret (sim_cb cs_int (sba_cons (simB_of (sim_op os_ix simB_var simB_var)) sba_nil))) ss_next)
    (ss_ret sim_int)) h.len (by decide) h⟩
def N__law_draw : List Str := ["_law_cell", "_law_k", "_law_many", "_law_step", "_law_one", "_law_two", "_law_three"]
theorem sc__law_draw : FnScope N__law_draw ["_law_cell", "_law_k", "_law_many"] (defScope s__law_draw) := ⟨rfl, rfl, rfl, by decide +kernel, rfl, by decide +kernel, by decide +kernel⟩
def xb__law_draw_1 (D : Ds) : Out := (xsAsg 0 (x2 dFdiv (xVarB 0) (xC (.int 1000)))) D
def xs__law_draw : XS := xsSeq (xsIf (xTest (x2 dGe (xVarB 0) (x2 dPow (xC (.int 10)) (xC (.int 18))))) (xsSeq (xsFor (xRng1 (xCons (xVar 1) xNil)) (xgName 3) xb__law_draw_1)
    (xsRet (x2 dMod (x2 dMod (xCB dInt (xCons (xVarB 0) xNil)) (xC (.int 1000))) (xVarB 2)))) xsNext)
    (xsSeq (xsAsg 4 (x2 dMod (xCB dInt (xCons (x2 dAdd (x2 dAdd (x2 dMul (xVarB 0) (xC (.int 48271))) (x2 dMul (xVarB 1) (xC (.int 69621)))) (xC (.int 12345))) xNil)) (xC (.int 2147483647))))
    (xsSeq (xsAsg 5 (x2 dMod (xCB dInt (xCons (x2 dAdd (x2 dAdd (x2 dMul (xVarB 4) (xVarB 4)) (x2 dMul (xVarB 1) (xC (.int 48271)))) (xC (.int 777))) xNil)) (xC (.int 2147483629))))
    (xsSeq (xsAsg 6 (x2 dMod (xCB dInt (xCons (x2 dAdd (x2 dMul (xVarB 5) (xVarB 5)) (xVarB 4)) xNil)) (xC (.int 2147483587))))
    (xsRet (x2 dMod (x2 dFdiv (xVarB 6) (xC (.int 8))) (xVarB 2))))))
def m__law_draw : List Dt → R Dt := funD 3 7 xs__law_draw
theorem ok__law_draw (T : Txt P K mg cl A) : FnOk P w K mg base (L2.CX P w) 1 A._law_draw A._law_draw_d ["_law_cell", "_law_k", "_law_many"] (PureSp K cl m__law_draw) := by
  refine T.F__law_draw.okX sc__law_draw (fun vs H Q E h => h.len) (fun cdv A outer s H vs Q E hr h => ?_)
  have hu := hu_of hr
  exact ⟨_, pss_cons (ps_if (pt_cmpR op_ge (pv 0) (pe_op op_pow pe_int pe_int) (nomark _)) (pss_cons (ps_for (passes_of rfl) rfl (pi_range1 (by rfl) T.z_range (pa_cons (pv 1) pa_nil)) (pg_name (i := 3) sc__law_draw.nd rfl (Or.inl rfl)) (pss_one (ps_set (i := 0) sc__law_draw.nd rfl (Or.inl rfl) (pe_op op_fdivN (pv 0) pe_int))))
    (pss_one (ps_ret (pe_op op_modN (pe_op op_modN (pe_callTy call_intA (by rfl) T.z_int (by decide +kernel) (pa_cons (pv 0) pa_nil)) pe_int) (pv 2))))) pss_nil)
    (pss_cons (ps_set (i := 4) sc__law_draw.nd rfl (Or.inl rfl) (pe_op op_modN (pe_callTy call_intA (by rfl) T.z_int (by decide +kernel) (pa_cons (pe_op op_addA (pe_op op_addA (pe_op op_mul (pv 0) pe_int) (pe_op op_mul (pv 1) pe_int)) pe_int) pa_nil)) pe_int))
    (pss_cons (ps_set (i := 5) sc__law_draw.nd rfl (Or.inl rfl) (pe_op op_modN (pe_callTy call_intA (by rfl) T.z_int (by decide +kernel) (pa_cons (pe_op op_addA (pe_op op_addA (pe_op op_mul (pv 4) (pv 4)) (pe_op op_mul (pv 1) pe_int)) pe_int) pa_nil)) pe_int))
    (pss_cons (ps_set (i := 6) sc__law_draw.nd rfl (Or.inl rfl) (pe_op op_modN (pe_callTy call_intA (by rfl) T.z_int (by decide +kernel) (pa_cons (pe_op op_addA (pe_op op_mul (pv 5) (pv 5)) (pv 4)) pa_nil)) pe_int))
    (pss_one (ps_ret (pe_op op_modN (pe_op op_fdivN (pv 6) pe_int) (pv 2))))))),
    body_ok (xs := xs__law_draw) (k := 3) (ss_seq (ss_if (st_test (sim_op os_ge simB_var (simB_of (sim_op os_pow (simB_of sim_int) (simB_of sim_int))))) (ss_seq (ss_for (si_rng1 (sa_cons sim_var sa_nil)) sg_name (ss_asg (sim_op os_fdiv simB_var (simB_of sim_int))))
    (ss_ret (sim_op os_mod (simB_of (sim_op os_mod (simB_of (sim_cb cs_int (sba_cons simB_var sba_nil))) (simB_of sim_int))) simB_var))) ss_next)
    (ss_seq (ss_asg (sim_op os_mod (simB_of (sim_cb cs_int (sba_cons (simB_of (sim_op os_add (simB_of (sim_op os_add (simB_of (sim_op os_mul simB_var (simB_of sim_int))) (simB_of (sim_op os_mul simB_var (simB_of sim_int))))) (simB_of sim_int))) sba_nil))) (simB_of sim_int)))
    (ss_seq (ss_asg (sim_op os_mod (simB_of (sim_cb cs_int (sba_cons (simB_of (sim_op os_add (simB_of (sim_op os_add (simB_of (sim_op os_mul simB_var simB_var)) (simB_of (sim_op os_mul simB_var (simB_of sim_int))))) (simB_of sim_int))) sba_nil))) (simB_of sim_int)))
    (ss_seq (ss_asg (sim_op os_mod (simB_of (sim_cb cs_int (sba_cons (simB_of (sim_op os_add (simB_of (sim_op os_mul simB_var simB_var)) simB_var)) sba_nil))) (simB_of sim_int)))
    (ss_ret (sim_op os_mod (simB_of (sim_op os_fdiv simB_var (simB_of sim_int))) simB_var)))))) h.len (by decide) h⟩
def N__law_points : List Str := ["_law_script", "_law_at", "_law_cell", "_law_many", "_law_style", "_law_wide", "_law_steps", "_law_points_here", "_law_k", "_law_own", "_law_beats", "_law_pair", "_law_times"]
theorem sc__law_points : FnScope N__law_points ["_law_script", "_law_at"] (defScope s__law_points) := ⟨rfl, rfl, rfl, by decide +kernel, rfl, by decide +kernel, by decide +kernel⟩
def xe__law_points_1 (D : Ds) : R Dt := (x2 dSub (xCall m__law_draw (xCons (xVar 2) (xCons (x2 dAdd (xC (.int 3)) (xVarB 8)) (xCons (xC (.int 7)) xNil)))) (xC (.int 3))) D
def xb__law_points_1 (D : Ds) : Out := (xsSeq (xsAsg 9 (x2 dAdd (xCall m__law_pick (xCons (xVar 0) (xCons (x2 dAdd (xVarB 1) (xVarB 8)) xNil))) (xVarB 8)))
    (xsSeq (xsAsg 10 (x2 dAdd (xC (.int 1)) (xCall m__law_draw (xCons (xVar 9) (xCons (xC (.int 2)) (xCons (xVar 5) xNil))))))
    (xsSeq (xsAsg 11 (xL (xLst (xCons (x2 dSub (xCall m__law_draw (xCons (xVar 9) (xCons (xC (.int 0)) (xCons (xC (.int 5)) xNil)))) (xC (.int 2))) (xCons (x2 dSub (xCall m__law_draw (xCons (xVar 9) (xCons (xC (.int 1)) (xCons (xC (.int 5)) xNil)))) (xC (.int 2))) xNil)))))
    (xsSeq (xsIf (xTest (x2 dEq (xVarB 4) (xC (.int 1)))) (xsAsg 11 (xL (xLst (xCons (x2 dAdd (x2 dMul (x2 dIx (xVarB 6) (xC (.int 2))) (xVarB 10)) (x2 dMul (x2 dIx (xVarB 11) (xC (.int 0))) (x2 dIx (xVarB 6) (xC (.int 0))))) (xCons (x2 dAdd (x2 dMul (x2 dIx (xVarB 6) (xC (.int 3))) (xVarB 10)) (x2 dMul (x2 dIx (xVarB 11) (xC (.int 0))) (x2 dIx (xVarB 6) (xC (.int 1))))) xNil))))) xsNext)
    (xsSeq (xsIf (xTest (x2 dEq (xVarB 4) (xC (.int 2)))) (xsAsg 11 (xL (xLst (xCons (x2 dSub (xCall m__law_draw (xCons (xVar 9) (xCons (xC (.int 0)) (xCons (xC (.int 61)) xNil)))) (xC (.int 30))) (xCons (x2 dSub (xCall m__law_draw (xCons (xVar 9) (xCons (xC (.int 1)) (xCons (xC (.int 61)) xNil)))) (xC (.int 30))) xNil))))) xsNext)
    (xsSeq (xsIf (xTest (x2 dEq (xVarB 4) (xC (.int 3)))) (xsAsg 11 (xL (xLst (xCons (x2 dSub (x2 dMod (xCB dInt (xCons (x2 dMul (xVarB 9) (xC (.int 1000003))) xNil)) (x2 dMul (xC (.int 2)) (x2 dPow (xC (.int 10)) (xC (.int 12))))) (x2 dPow (xC (.int 10)) (xC (.int 12)))) (xCons (x2 dSub (x2 dMod (xCB dInt (xCons (x2 dMul (x2 dFdiv (xVarB 9) (xC (.int 7))) (xC (.int 69621))) xNil)) (x2 dMul (xC (.int 2)) (x2 dPow (xC (.int 10)) (xC (.int 12))))) (x2 dPow (xC (.int 10)) (xC (.int 12)))) xNil))))) xsNext)
    (xsSeq (xsAsg 12 (x2 dAdd (xC (.int 1)) (xCall m__law_draw (xCons (xVar 9) (xCons (xC (.int 3)) (xCons (xC (.int 3)) xNil))))))
    (xsApp 7 (xTup (xCons (x2 dMul (x2 dIx (xVarB 11) (xC (.int 0))) (xVarB 12)) (xCons (x2 dMul (x2 dIx (xVarB 11) (xC (.int 1))) (xVarB 12)) (xCons (x2 dMul (xVarB 10) (xVarB 12)) xNil)))))))))))) D
def xs__law_points : XS := xsSeq (xsAsg 2 (xCall m__law_pick (xCons (xVar 0) (xCons (xC (.int 0)) xNil))))
    (xsSeq (xsAsg 3 (x2 dAdd (x2 dAdd (xC (.int 1)) (xCall m__law_draw (xCons (xVar 2) (xCons (xC (.int 0)) (xCons (xC (.int 8)) xNil))))) (x2 dMul (xC (.int 7)) (xCB dInt (xCons (x2 dEq (xCall m__law_draw (xCons (xVar 2) (xCons (xC (.int 20)) (xCons (xC (.int 8)) xNil)))) (xC (.int 0))) xNil)))))
    (xsSeq (xsAsg 4 (xCall m__law_draw (xCons (xVar 2) (xCons (xC (.int 1)) (xCons (xC (.int 4)) xNil)))))
    (xsSeq (xsAsg 5 (x2 dIx (xL (xLst (xCons (xC (.int 1)) (xCons (xC (.int 4)) (xCons (xC (.int 9)) (xCons (xC (.int 900)) xNil)))))) (xCall m__law_draw (xCons (xVar 2) (xCons (xC (.int 2)) (xCons (xC (.int 4)) xNil))))))
    (xsSeq (xsAsg 6 (xL (xLc (xRng1 (xCons (xC (.int 4)) xNil)) (xgName 8) xYes xe__law_points_1 [8])))
    (xsSeq (xsAsgL 7 (xLst xNil))
    (xsSeq (xsFor (xRng1 (xCons (xVar 3) xNil)) (xgName 8) xb__law_points_1)
    (xsFrz 7 (xsRet (xVar 7)))))))))
def m__law_points : List Dt → R Dt := funD 2 13 xs__law_points
theorem ok__law_points (T : Txt P K mg cl A) : FnOk P w K mg base (L2.CX P w) 2 A._law_points A._law_points_d ["_law_script", "_law_at"] (PureSp K cl m__law_points) := by
  refine T.F__law_points.okX sc__law_points (fun vs H Q E h => h.len) (fun cdv A outer s H vs Q E hr h => ?_)
  have hu := hu_of hr
  exact ⟨_, pss_cons (ps_set (i := 2) sc__law_points.nd rfl (Or.inr rfl) (pe_callSD (ok__law_pick T) (hr.mono (by decide)) (by rfl) T.g__law_pick T.F__law_pick.kp T.b__law_pick .nil (passAt (takes_of rfl rfl rfl rfl)) (pa_cons (pv 0) (pa_cons pe_int pa_nil))))
    (pss_cons (ps_set (i := 3) sc__law_points.nd rfl (Or.inl rfl) (pe_op op_addA (pe_op op_addA pe_int (pe_callSD (ok__law_draw T) (hr.mono (by decide)) (by rfl) T.g__law_draw T.F__law_draw.kp T.b__law_draw .nil (passAt (takes_of rfl rfl rfl rfl)) (pa_cons (pv 2) (pa_cons pe_int (pa_cons pe_int pa_nil))))) (pe_op op_mul pe_int (pe_callTy call_intA (by rfl) T.z_int (by decide +kernel) (pa_cons (pe_cmpR (op_eqP hr.units) (pe_callSD (ok__law_draw T) (hr.mono (by decide)) (by rfl) T.g__law_draw T.F__law_draw.kp T.b__law_draw .nil (passAt (takes_of rfl rfl rfl rfl)) (pa_cons (pv 2) (pa_cons pe_int (pa_cons pe_int pa_nil)))) pe_int (nomark _)) pa_nil)))))
    (pss_cons (ps_set (i := 4) sc__law_points.nd rfl (Or.inl rfl) (pe_callSD (ok__law_draw T) (hr.mono (by decide)) (by rfl) T.g__law_draw T.F__law_draw.kp T.b__law_draw .nil (passAt (takes_of rfl rfl rfl rfl)) (pa_cons (pv 2) (pa_cons pe_int (pa_cons pe_int pa_nil)))))
    (pss_cons (ps_set (i := 5) sc__law_points.nd rfl (Or.inl rfl) (pe_ix ix_seq (pe_lst (pa_cons pe_int (pa_cons pe_int (pa_cons pe_int (pa_cons pe_int pa_nil))))) (pe_callSD (ok__law_draw T) (hr.mono (by decide)) (by rfl) T.g__law_draw T.F__law_draw.kp T.b__law_draw .nil (passAt (takes_of rfl rfl rfl rfl)) (pa_cons (pv 2) (pa_cons pe_int (pa_cons pe_int pa_nil)))) (fun _ _ => rfl)))
    (pss_cons (ps_setLc (i := 6) (own := [("_law_k", 8)]) rfl sc__law_points.nd rfl rfl (sw_true rfl rfl rfl (by decide +kernel)) (pi_range1 (by rfl) T.z_range (pa_cons pe_int pa_nil)) (blkOk_by (N := N__law_points) (sc := defScope s__law_points) (by decide +kernel)) (fun _ _ _ _ _ => pg_name (i := 8) sc__law_points.nd rfl (Or.inl rfl)) (fun _ _ _ _ _ => pts_nil) (fun _ _ _ _ _ => pe_op op_sub (pe_callSD (ok__law_draw T) (hr.mono (by decide)) (by rfl) T.g__law_draw T.F__law_draw.kp T.b__law_draw .nil passB (pa_cons (pv 2) (pa_cons (pe_op op_addA pe_int (pv 8)) (pa_cons pe_int pa_nil)))) pe_int))
    (pss_cons (ps_set (i := 7) sc__law_points.nd rfl (Or.inl rfl) (pe_lst pa_nil))
    (pss_cons (ps_for (passes_of rfl) rfl (pi_range1 (by rfl) T.z_range (pa_cons (pv 3) pa_nil)) (pg_name (i := 8) sc__law_points.nd rfl (Or.inl rfl)) (pss_cons (ps_set (i := 9) sc__law_points.nd rfl (Or.inl rfl) (pe_op op_addA (pe_callSD (ok__law_pick T) (hr.mono (by decide)) (by rfl) T.g__law_pick T.F__law_pick.kp T.b__law_pick .nil (passAt (takes_of rfl rfl rfl rfl)) (pa_cons (pv 0) (pa_cons (pe_op op_addA (pv 1) (pv 8)) pa_nil))) (pv 8)))
    (pss_cons (ps_set (i := 10) sc__law_points.nd rfl (Or.inl rfl) (pe_op op_addA pe_int (pe_callSD (ok__law_draw T) (hr.mono (by decide)) (by rfl) T.g__law_draw T.F__law_draw.kp T.b__law_draw .nil (passAt (takes_of rfl rfl rfl rfl)) (pa_cons (pv 9) (pa_cons pe_int (pa_cons (pv 5) pa_nil))))))
    (pss_cons (ps_set (i := 11) sc__law_points.nd rfl (Or.inl rfl) (pe_lst (pa_cons (pe_op op_sub (pe_callSD (ok__law_draw T) (hr.mono (by decide)) (by rfl) T.g__law_draw T.F__law_draw.kp T.b__law_draw .nil (passAt (takes_of rfl rfl rfl rfl)) (pa_cons (pv 9) (pa_cons pe_int (pa_cons pe_int pa_nil)))) pe_int) (pa_cons (pe_op op_sub (pe_callSD (ok__law_draw T) (hr.mono (by decide)) (by rfl) T.g__law_draw T.F__law_draw.kp T.b__law_draw .nil (passAt (takes_of rfl rfl rfl rfl)) (pa_cons (pv 9) (pa_cons pe_int (pa_cons pe_int pa_nil)))) pe_int) pa_nil))))
    (pss_cons (ps_if (pt_cmpR (op_eqP hr.units) (pv 4) pe_int (nomark _)) (pss_one (ps_set (i := 11) sc__law_points.nd rfl (Or.inl rfl) (pe_lst (pa_cons (pe_op op_addA (pe_op op_mul (pe_ix ix_seq (pv 6) pe_int (fun _ _ => rfl)) (pv 10)) (pe_op op_mul (pe_ix ix_seq (pv 11) pe_int (fun _ _ => rfl)) (pe_ix ix_seq (pv 6) pe_int (fun _ _ => rfl)))) (pa_cons (pe_op op_addA (pe_op op_mul (pe_ix ix_seq (pv 6) pe_int (fun _ _ => rfl)) (pv 10)) (pe_op op_mul (pe_ix ix_seq (pv 11) pe_int (fun _ _ => rfl)) (pe_ix ix_seq (pv 6) pe_int (fun _ _ => rfl)))) pa_nil))))) pss_nil)
    (pss_cons (ps_if (pt_cmpR (op_eqP hr.units) (pv 4) pe_int (nomark _)) (pss_one (ps_set (i := 11) sc__law_points.nd rfl (Or.inl rfl) (pe_lst (pa_cons (pe_op op_sub (pe_callSD (ok__law_draw T) (hr.mono (by decide)) (by rfl) T.g__law_draw T.F__law_draw.kp T.b__law_draw .nil (passAt (takes_of rfl rfl rfl rfl)) (pa_cons (pv 9) (pa_cons pe_int (pa_cons pe_int pa_nil)))) pe_int) (pa_cons (pe_op op_sub (pe_callSD (ok__law_draw T) (hr.mono (by decide)) (by rfl) T.g__law_draw T.F__law_draw.kp T.b__law_draw .nil (passAt (takes_of rfl rfl rfl rfl)) (pa_cons (pv 9) (pa_cons pe_int (pa_cons pe_int pa_nil)))) pe_int) pa_nil))))) pss_nil)
    (pss_cons (ps_if (pt_cmpR (op_eqP hr.units) (pv 4) pe_int (nomark _)) (pss_one (ps_set (i := 11) sc__law_points.nd rfl (Or.inl rfl) (pe_lst (pa_cons (pe_op op_sub (pe_op op_modN (pe_callTy call_intA (by rfl) T.z_int (by decide +kernel) (pa_cons (pe_op op_mul (pv 9) pe_int) pa_nil)) (pe_op op_mul pe_int (pe_op op_pow pe_int pe_int))) (pe_op op_pow pe_int pe_int)) (pa_cons (pe_op op_sub (pe_op op_modN (pe_callTy call_intA (by rfl) T.z_int (by decide +kernel) (pa_cons (pe_op op_mul (pe_op op_fdivN (pv 9) pe_int) pe_int) pa_nil)) (pe_op op_mul pe_int (pe_op op_pow pe_int pe_int))) (pe_op op_pow pe_int pe_int)) pa_nil))))) pss_nil)
    (pss_cons (ps_set (i := 12) sc__law_points.nd rfl (Or.inl rfl) (pe_op op_addA pe_int (pe_callSD (ok__law_draw T) (hr.mono (by decide)) (by rfl) T.g__law_draw T.F__law_draw.kp T.b__law_draw .nil (passAt (takes_of rfl rfl rfl rfl)) (pa_cons (pv 9) (pa_cons pe_int (pa_cons pe_int pa_nil))))))
    (pss_one (ps_expr (pe_bm PySem.F.plainAttrs_list PySem.F.slot_list_append PySem.F.type_list_append mt_append (pv 7) (pa_cons (pe_tup (pa_cons (pe_op op_mul (pe_ix ix_seq (pv 11) pe_int (fun _ _ => rfl)) (pv 12)) (pa_cons (pe_op op_mul (pe_ix ix_seq (pv 11) pe_int (fun _ _ => rfl)) (pv 12)) (pa_cons (pe_op op_mul (pv 10) (pv 12)) pa_nil)))) pa_nil))))))))))))
    (pss_one (ps_ret (pv 7))))))))),
    body_ok (xs := xs__law_points) (k := 2) (ss_seq (ss_asg (simS_call (sa_cons sim_var (sa_cons sim_int sa_nil))))
    (ss_seq (ss_asg (sim_op os_add (simB_of (sim_op os_add (simB_of sim_int) (simB_of (simS_call (sa_cons sim_var (sa_cons sim_int (sa_cons sim_int sa_nil))))))) (simB_of (sim_op os_mul (simB_of sim_int) (simB_of (sim_cb cs_int (sba_cons (simB_of (sim_op os_eq (simB_of (simS_call (sa_cons sim_var (sa_cons sim_int (sa_cons sim_int sa_nil))))) (simB_of sim_int))) sba_nil)))))))
    (ss_seq (ss_asg (simS_call (sa_cons sim_var (sa_cons sim_int (sa_cons sim_int sa_nil)))))
    (ss_seq (ss_asg (sim_op os_ix (simB_of (sim_L (simL_lst (sa_cons sim_int (sa_cons sim_int (sa_cons sim_int (sa_cons sim_int sa_nil))))))) (simB_of (simS_call (sa_cons sim_var (sa_cons sim_int (sa_cons sim_int sa_nil)))))))
    (ss_seq (ss_asg (sim_L (simL_lc (si_rng1 (sa_cons sim_int sa_nil)) (sgw_name (by decide)) st_yes (sim_op os_sub (simB_of (simS_call (sa_cons sim_var (sa_cons (sim_op os_add (simB_of sim_int) simB_var) (sa_cons sim_int sa_nil))))) (simB_of sim_int)))))
    (ss_seq (ss_asgL (simL_lst sa_nil))
    (ss_seq (ss_for (si_rng1 (sa_cons sim_var sa_nil)) sg_name (ss_seq (ss_asg (sim_op os_add (simB_of (simS_call (sa_cons sim_var (sa_cons (sim_op os_add simB_var simB_var) sa_nil)))) simB_var))
    (ss_seq (ss_asg (sim_op os_add (simB_of sim_int) (simB_of (simS_call (sa_cons sim_var (sa_cons sim_int (sa_cons sim_var sa_nil)))))))
    (ss_seq (ss_asg (sim_L (simL_lst (sa_cons (sim_op os_sub (simB_of (simS_call (sa_cons sim_var (sa_cons sim_int (sa_cons sim_int sa_nil))))) (simB_of sim_int)) (sa_cons (sim_op os_sub (simB_of (simS_call (sa_cons sim_var (sa_cons sim_int (sa_cons sim_int sa_nil))))) (simB_of sim_int)) sa_nil)))))
    (ss_seq (ss_if (st_test (sim_op os_eq simB_var (simB_of sim_int))) (ss_asg (sim_L (simL_lst (sa_cons (sim_op os_add (simB_of (sim_op os_mul (simB_of (sim_op os_ix simB_var (simB_of sim_int))) simB_var)) (simB_of (sim_op os_mul (simB_of (sim_op os_ix simB_var (simB_of sim_int))) (simB_of (sim_op os_ix simB_var (simB_of sim_int)))))) (sa_cons (sim_op os_add (simB_of (sim_op os_mul (simB_of (sim_op os_ix simB_var (simB_of sim_int))) simB_var)) (simB_of (sim_op os_mul (simB_of (sim_op os_ix simB_var (simB_of sim_int))) (simB_of (sim_op os_ix simB_var (simB_of sim_int)))))) sa_nil))))) ss_next)
    (ss_seq (ss_if (st_test (sim_op os_eq simB_var (simB_of sim_int))) (ss_asg (sim_L (simL_lst (sa_cons (sim_op os_sub (simB_of (simS_call (sa_cons sim_var (sa_cons sim_int (sa_cons sim_int sa_nil))))) (simB_of sim_int)) (sa_cons (sim_op os_sub (simB_of (simS_call (sa_cons sim_var (sa_cons sim_int (sa_cons sim_int sa_nil))))) (simB_of sim_int)) sa_nil))))) ss_next)
    (ss_seq (ss_if (st_test (sim_op os_eq simB_var (simB_of sim_int))) (ss_asg (sim_L (simL_lst (sa_cons (sim_op os_sub (simB_of (sim_op os_mod (simB_of (sim_cb cs_int (sba_cons (simB_of (sim_op os_mul simB_var (simB_of sim_int))) sba_nil))) (simB_of (sim_op os_mul (simB_of sim_int) (simB_of (sim_op os_pow (simB_of sim_int) (simB_of sim_int))))))) (simB_of (sim_op os_pow (simB_of sim_int) (simB_of sim_int)))) (sa_cons (sim_op os_sub (simB_of (sim_op os_mod (simB_of (sim_cb cs_int (sba_cons (simB_of (sim_op os_mul (simB_of (sim_op os_fdiv simB_var (simB_of sim_int))) (simB_of sim_int))) sba_nil))) (simB_of (sim_op os_mul (simB_of sim_int) (simB_of (sim_op os_pow (simB_of sim_int) (simB_of sim_int))))))) (simB_of (sim_op os_pow (simB_of sim_int) (simB_of sim_int)))) sa_nil))))) ss_next)
    (ss_seq (ss_asg (sim_op os_add (simB_of sim_int) (simB_of (simS_call (sa_cons sim_var (sa_cons sim_int (sa_cons sim_int sa_nil)))))))
    (ss_app (sim_tup (sa_cons (sim_op os_mul (simB_of (sim_op os_ix simB_var (simB_of sim_int))) simB_var) (sa_cons (sim_op os_mul (simB_of (sim_op os_ix simB_var (simB_of sim_int))) simB_var) (sa_cons (sim_op os_mul simB_var simB_var) sa_nil)))))))))))))
    (ss_frz (i := 7) (ss_ret sim_var))))))))) h.len (by decide) h⟩
def N__gap : List Str := ["p", "q", "axis"]
theorem sc__gap : FnScope N__gap ["p", "q", "axis"] (defScope s__gap) := ⟨rfl, rfl, rfl, by decide +kernel, rfl, by decide +kernel, by decide +kernel⟩
def xs__gap : XS := xsRet (x2 dSub (x2 dMulB (x2 dIx (xVarB 1) (xVarB 2)) (x2 dIx (xVarB 0) (xC (.int 2)))) (x2 dMulB (x2 dIx (xVarB 0) (xVarB 2)) (x2 dIx (xVarB 1) (xC (.int 2)))))
def m__gap : List Dt → R Dt := funD 3 3 xs__gap
theorem ok__gap (T : Txt P K mg cl A) : FnOk P w K mg base (L2.CX P w) 1 A._gap A._gap_d ["p", "q", "axis"] (PureSp K cl m__gap) := by
  refine T.F__gap.okX sc__gap (fun vs H Q E h => h.len) (fun cdv A outer s H vs Q E hr h => ?_)
  have hu := hu_of hr
  exact ⟨_, pss_one (ps_ret (pe_op op_sub (pe_op op_mulB (pe_ix ix_seq (pv 1) (pv 2) (fun _ _ => rfl)) (pe_ix ix_seq (pv 0) pe_int (fun _ _ => rfl))) (pe_op op_mulB (pe_ix ix_seq (pv 0) (pv 2) (fun _ _ => rfl)) (pe_ix ix_seq (pv 1) pe_int (fun _ _ => rfl))))),
    body_ok (xs := xs__gap) (k := 3) (ss_ret (sim_op os_sub (simB_of (sim_op os_mulB (simB_of (sim_op os_ix simB_var simB_var)) (simB_of (sim_op os_ix simB_var (simB_of sim_int))))) (simB_of (sim_op os_mulB (simB_of (sim_op os_ix simB_var simB_var)) (simB_of (sim_op os_ix simB_var (simB_of sim_int))))))) h.len (by decide) h⟩
def N__is_before : List Str := ["p", "q", "across"]
theorem sc__is_before : FnScope N__is_before ["p", "q"] (defScope s__is_before) := ⟨rfl, rfl, rfl, by decide +kernel, rfl, by decide +kernel, by decide +kernel⟩
def xs__is_before : XS := xsSeq (xsAsg 2 (xCall m__gap (xCons (xVar 0) (xCons (xVar 1) (xCons (xC (.int 0)) xNil)))))
    (xsSeq (xsIf (xTest (x2 dEq (xVarB 2) (xC (.int 0)))) (xsRet (x2 dGt (xCall m__gap (xCons (xVar 0) (xCons (xVar 1) (xCons (xC (.int 1)) xNil)))) (xC (.int 0)))) xsNext)
    (xsRet (x2 dGt (xVarB 2) (xC (.int 0)))))
def m__is_before : List Dt → R Dt := funD 2 3 xs__is_before
theorem ok__is_before (T : Txt P K mg cl A) : FnOk P w K mg base (L2.CX P w) 2 A._is_before A._is_before_d ["p", "q"] (PureSp K cl m__is_before) := by
  refine T.F__is_before.okX sc__is_before (fun vs H Q E h => h.len) (fun cdv A outer s H vs Q E hr h => ?_)
  have hu := hu_of hr
  exact ⟨_, pss_cons (ps_set (i := 2) sc__is_before.nd rfl (Or.inl rfl) (pe_callSD (ok__gap T) (hr.mono (by decide)) (by rfl) T.g__gap T.F__gap.kp T.b__gap .nil (passAt (takes_of rfl rfl rfl rfl)) (pa_cons (pv 0) (pa_cons (pv 1) (pa_cons pe_int pa_nil)))))
    (pss_cons (ps_if (pt_cmpR (op_eqP hr.units) (pv 2) pe_int (nomark _)) (pss_one (ps_ret (pe_cmpR op_gt (pe_callSD (ok__gap T) (hr.mono (by decide)) (by rfl) T.g__gap T.F__gap.kp T.b__gap .nil (passAt (takes_of rfl rfl rfl rfl)) (pa_cons (pv 0) (pa_cons (pv 1) (pa_cons pe_int pa_nil)))) pe_int (nomark _)))) pss_nil)
    (pss_one (ps_ret (pe_cmpR op_gt (pv 2) pe_int (nomark _))))),
    body_ok (xs := xs__is_before) (k := 2) (ss_seq (ss_asg (simS_call (sa_cons sim_var (sa_cons sim_var (sa_cons sim_int sa_nil)))))
    (ss_seq (ss_if (st_test (sim_op os_eq simB_var (simB_of sim_int))) (ss_ret (sim_op os_gt (simB_of (simS_call (sa_cons sim_var (sa_cons sim_var (sa_cons sim_int sa_nil))))) (simB_of sim_int))) ss_next)
    (ss_ret (sim_op os_gt simB_var (simB_of sim_int))))) h.len (by decide) h⟩
def N__least : List Str := ["points", "least", "point"]
theorem sc__least : FnScope N__least ["points"] (defScope s__least) := ⟨rfl, rfl, rfl, by decide +kernel, rfl, by decide +kernel, by decide +kernel⟩
def xb__least_1 (D : Ds) : Out := (xsIf (xTest (xCall m__is_before (xCons (xVar 2) (xCons (xVar 1) xNil)))) (xsAsg 1 (xVar 2)) xsNext) D
def xs__least : XS := xsSeq (xsAsg 1 (x2 dIx (xVarB 0) (xC (.int 0))))
    (xsSeq (xsFor (xItems (xVar 0)) (xgName 2) xb__least_1)
    (xsRet (xVar 1)))
def m__least : List Dt → R Dt := funD 1 3 xs__least
theorem ok__least (T : Txt P K mg cl A) : FnOk P w K mg base (L2.CX P w) 3 A._least A._least_d ["points"] (PureSp K cl m__least) := by
  refine T.F__least.okX sc__least (fun vs H Q E h => h.len) (fun cdv A outer s H vs Q E hr h => ?_)
  have hu := hu_of hr
  exact ⟨_, pss_cons (ps_set (i := 1) sc__least.nd rfl (Or.inl rfl) (pe_ix ix_seq (pv 0) pe_int (fun _ _ => rfl)))
    (pss_cons (ps_for (passes_of rfl) rfl (pi_list (pv 0)) (pg_name (i := 2) sc__least.nd rfl (Or.inl rfl)) (pss_one (ps_if (pt_val (pe_callSD (ok__is_before T) (hr.mono (by decide)) (by rfl) T.g__is_before T.F__is_before.kp T.b__is_before .nil (passAt (takes_of rfl rfl rfl rfl)) (pa_cons (pv 2) (pa_cons (pv 1) pa_nil)))) (pss_one (ps_set (i := 1) sc__least.nd rfl (Or.inl rfl) (pv 2))) pss_nil)))
    (pss_one (ps_ret (pv 1)))),
    body_ok (xs := xs__least) (k := 1) (ss_seq (ss_asg (sim_op os_ix simB_var (simB_of sim_int)))
    (ss_seq (ss_for (si_list sim_var) sg_name (ss_if (st_B (simS_call (sa_cons sim_var (sa_cons sim_var sa_nil)))) (ss_asg sim_var) ss_next))
    (ss_ret sim_var))) h.len (by decide) h⟩
def N__turn : List Str := ["p", "q", "r"]
theorem sc__turn : FnScope N__turn ["p", "q", "r"] (defScope s__turn) := ⟨rfl, rfl, rfl, by decide +kernel, rfl, by decide +kernel, by decide +kernel⟩
def xs__turn : XS := xsRet (x2 dAdd (x2 dAdd (x2 dMulB (x2 dIx (xVarB 0) (xC (.int 0))) (x2 dSub (x2 dMulB (x2 dIx (xVarB 1) (xC (.int 1))) (x2 dIx (xVarB 2) (xC (.int 2)))) (x2 dMulB (x2 dIx (xVarB 1) (xC (.int 2))) (x2 dIx (xVarB 2) (xC (.int 1)))))) (x2 dMulB (x2 dIx (xVarB 0) (xC (.int 1))) (x2 dSub (x2 dMulB (x2 dIx (xVarB 1) (xC (.int 2))) (x2 dIx (xVarB 2) (xC (.int 0)))) (x2 dMulB (x2 dIx (xVarB 1) (xC (.int 0))) (x2 dIx (xVarB 2) (xC (.int 2))))))) (x2 dMulB (x2 dIx (xVarB 0) (xC (.int 2))) (x2 dSub (x2 dMulB (x2 dIx (xVarB 1) (xC (.int 0))) (x2 dIx (xVarB 2) (xC (.int 1)))) (x2 dMulB (x2 dIx (xVarB 1) (xC (.int 1))) (x2 dIx (xVarB 2) (xC (.int 0)))))))
def m__turn : List Dt → R Dt := funD 3 3 xs__turn
theorem ok__turn (T : Txt P K mg cl A) : FnOk P w K mg base (L2.CX P w) 1 A._turn A._turn_d ["p", "q", "r"] (PureSp K cl m__turn) := by
  refine T.F__turn.okX sc__turn (fun vs H Q E h => h.len) (fun cdv A outer s H vs Q E hr h => ?_)
  have hu := hu_of hr
  exact ⟨_, pss_one (ps_ret (pe_op op_addA (pe_op op_addA (pe_op op_mulB (pe_ix ix_seq (pv 0) pe_int (fun _ _ => rfl)) (pe_op op_sub (pe_op op_mulB (pe_ix ix_seq (pv 1) pe_int (fun _ _ => rfl)) (pe_ix ix_seq (pv 2) pe_int (fun _ _ => rfl))) (pe_op op_mulB (pe_ix ix_seq (pv 1) pe_int (fun _ _ => rfl)) (pe_ix ix_seq (pv 2) pe_int (fun _ _ => rfl))))) (pe_op op_mulB (pe_ix ix_seq (pv 0) pe_int (fun _ _ => rfl)) (pe_op op_sub (pe_op op_mulB (pe_ix ix_seq (pv 1) pe_int (fun _ _ => rfl)) (pe_ix ix_seq (pv 2) pe_int (fun _ _ => rfl))) (pe_op op_mulB (pe_ix ix_seq (pv 1) pe_int (fun _ _ => rfl)) (pe_ix ix_seq (pv 2) pe_int (fun _ _ => rfl)))))) (pe_op op_mulB (pe_ix ix_seq (pv 0) pe_int (fun _ _ => rfl)) (pe_op op_sub (pe_op op_mulB (pe_ix ix_seq (pv 1) pe_int (fun _ _ => rfl)) (pe_ix ix_seq (pv 2) pe_int (fun _ _ => rfl))) (pe_op op_mulB (pe_ix ix_seq (pv 1) pe_int (fun _ _ => rfl)) (pe_ix ix_seq (pv 2) pe_int (fun _ _ => rfl))))))),
    body_ok (xs := xs__turn) (k := 3) (ss_ret (sim_op os_add (simB_of (sim_op os_add (simB_of (sim_op os_mulB (simB_of (sim_op os_ix simB_var (simB_of sim_int))) (simB_of (sim_op os_sub (simB_of (sim_op os_mulB (simB_of (sim_op os_ix simB_var (simB_of sim_int))) (simB_of (sim_op os_ix simB_var (simB_of sim_int))))) (simB_of (sim_op os_mulB (simB_of (sim_op os_ix simB_var (simB_of sim_int))) (simB_of (sim_op os_ix simB_var (simB_of sim_int))))))))) (simB_of (sim_op os_mulB (simB_of (sim_op os_ix simB_var (simB_of sim_int))) (simB_of (sim_op os_sub (simB_of (sim_op os_mulB (simB_of (sim_op os_ix simB_var (simB_of sim_int))) (simB_of (sim_op os_ix simB_var (simB_of sim_int))))) (simB_of (sim_op os_mulB (simB_of (sim_op os_ix simB_var (simB_of sim_int))) (simB_of (sim_op os_ix simB_var (simB_of sim_int))))))))))) (simB_of (sim_op os_mulB (simB_of (sim_op os_ix simB_var (simB_of sim_int))) (simB_of (sim_op os_sub (simB_of (sim_op os_mulB (simB_of (sim_op os_ix simB_var (simB_of sim_int))) (simB_of (sim_op os_ix simB_var (simB_of sim_int))))) (simB_of (sim_op os_mulB (simB_of (sim_op os_ix simB_var (simB_of sim_int))) (simB_of (sim_op os_ix simB_var (simB_of sim_int))))))))))) h.len (by decide) h⟩
def N__comes_sooner : List Str := ["corner", "point", "other", "turn"]
theorem sc__comes_sooner : FnScope N__comes_sooner ["corner", "point", "other"] (defScope s__comes_sooner) := ⟨rfl, rfl, rfl, by decide +kernel, rfl, by decide +kernel, by decide +kernel⟩
def xs__comes_sooner : XS := xsSeq (xsAsg 3 (xCall m__turn (xCons (xVar 0) (xCons (xVar 2) (xCons (xVar 1) xNil)))))
    (xsSeq (xsIf (xTest (x2 dEq (xVarB 3) (xC (.int 0)))) (xsRet (x2 dEq (xCall m__is_before (xCons (xVar 0) (xCons (xVar 2) xNil))) (xCall m__is_before (xCons (xVar 2) (xCons (xVar 1) xNil))))) xsNext)
    (xsRet (x2 dLtI (xVarB 3) (xC (.int 0)))))
def m__comes_sooner : List Dt → R Dt := funD 3 4 xs__comes_sooner
theorem ok__comes_sooner (T : Txt P K mg cl A) : FnOk P w K mg base (L2.CX P w) 3 A._comes_sooner A._comes_sooner_d ["corner", "point", "other"] (PureSp K cl m__comes_sooner) := by
  refine T.F__comes_sooner.okX sc__comes_sooner (fun vs H Q E h => h.len) (fun cdv A outer s H vs Q E hr h => ?_)
  have hu := hu_of hr
  exact ⟨_, pss_cons (ps_set (i := 3) sc__comes_sooner.nd rfl (Or.inl rfl) (pe_callSD (ok__turn T) (hr.mono (by decide)) (by rfl) T.g__turn T.F__turn.kp T.b__turn .nil (passAt (takes_of rfl rfl rfl rfl)) (pa_cons (pv 0) (pa_cons (pv 2) (pa_cons (pv 1) pa_nil)))))
    (pss_cons (ps_if (pt_cmpR (op_eqP hr.units) (pv 3) pe_int (nomark _)) (pss_one (ps_ret (pe_cmpR (op_eqP hr.units) (pe_callSD (ok__is_before T) (hr.mono (by decide)) (by rfl) T.g__is_before T.F__is_before.kp T.b__is_before .nil (passAt (takes_of rfl rfl rfl rfl)) (pa_cons (pv 0) (pa_cons (pv 2) pa_nil))) (pe_callSD (ok__is_before T) (hr.mono (by decide)) (by rfl) T.g__is_before T.F__is_before.kp T.b__is_before .nil (passAt (takes_of rfl rfl rfl rfl)) (pa_cons (pv 2) (pa_cons (pv 1) pa_nil))) (nomark _)))) pss_nil)
    (pss_one (ps_ret (pe_cmpR op_lt (pv 3) pe_int (nomark _))))),
    body_ok (xs := xs__comes_sooner) (k := 3) (ss_seq (ss_asg (simS_call (sa_cons sim_var (sa_cons sim_var (sa_cons sim_var sa_nil)))))
    (ss_seq (ss_if (st_test (sim_op os_eq simB_var (simB_of sim_int))) (ss_ret (sim_op os_eq (simB_of (simS_call (sa_cons sim_var (sa_cons sim_var sa_nil)))) (simB_of (simS_call (sa_cons sim_var (sa_cons sim_var sa_nil)))))) ss_next)
    (ss_ret (sim_op os_ltI simB_var (simB_of sim_int))))) h.len (by decide) h⟩
def N__next_corner : List Str := ["points", "corner", "after", "point"]
theorem sc__next_corner : FnScope N__next_corner ["points", "corner"] (defScope s__next_corner) := ⟨rfl, rfl, rfl, by decide +kernel, rfl, by decide +kernel, by decide +kernel⟩
def xb__next_corner_1 (D : Ds) : Out := (xsIf (xAnd (xTest (x2 dNe (xVarB 3) (xVarB 1))) (xOr (xTest (x2 dEq (xVarB 2) (xVarB 1))) (xTest (xCall m__comes_sooner (xCons (xVar 1) (xCons (xVar 3) (xCons (xVar 2) xNil))))))) (xsAsg 2 (xVar 3)) xsNext) D
def xs__next_corner : XS := xsSeq (xsAsg 2 (xVar 1))
    (xsSeq (xsFor (xItems (xVar 0)) (xgName 3) xb__next_corner_1)
    (xsRet (xVar 2)))
def m__next_corner : List Dt → R Dt := funD 2 4 xs__next_corner
theorem ok__next_corner (T : Txt P K mg cl A) : FnOk P w K mg base (L2.CX P w) 4 A._next_corner A._next_corner_d ["points", "corner"] (PureSp K cl m__next_corner) := by
  refine T.F__next_corner.okX sc__next_corner (fun vs H Q E h => h.len) (fun cdv A outer s H vs Q E hr h => ?_)
  have hu := hu_of hr
  exact ⟨_, pss_cons (ps_set (i := 2) sc__next_corner.nd rfl (Or.inl rfl) (pv 1))
    (pss_cons (ps_for (passes_of rfl) rfl (pi_list (pv 0)) (pg_name (i := 3) sc__next_corner.nd rfl (Or.inl rfl)) (pss_one (ps_if (PW.pt (pw_and (pt_cmpR (op_neP hr.units) (pv 3) (pv 1) (nomark _)) (pw_and1 (PW.pt (pw_or (pt_cmpR (op_eqP hr.units) (pv 2) (pv 1) (nomark _)) (pw_or1 (pt_val (pe_callSD (ok__comes_sooner T) (hr.mono (by decide)) (by rfl) T.g__comes_sooner T.F__comes_sooner.kp T.b__comes_sooner .nil (passAt (takes_of rfl rfl rfl rfl)) (pa_cons (pv 1) (pa_cons (pv 3) (pa_cons (pv 2) pa_nil))))))))))) (pss_one (ps_set (i := 2) sc__next_corner.nd rfl (Or.inl rfl) (pv 3))) pss_nil)))
    (pss_one (ps_ret (pv 2)))),
    body_ok (xs := xs__next_corner) (k := 2) (ss_seq (ss_asg sim_var)
    (ss_seq (ss_for (si_list sim_var) sg_name (ss_if (st_and (st_test (sim_op os_ne simB_var simB_var)) (st_or (st_test (sim_op os_eq simB_var simB_var)) (st_B (simS_call (sa_cons sim_var (sa_cons sim_var (sa_cons sim_var sa_nil))))))) (ss_asg sim_var) ss_next))
    (ss_ret sim_var))) h.len (by decide) h⟩
def N__corners_of : List Str := ["points", "start", "corners", "corner"]
theorem sc__corners_of : FnScope N__corners_of ["points"] (defScope s__corners_of) := ⟨rfl, rfl, rfl, by decide +kernel, rfl, by decide +kernel, by decide +kernel⟩
def xt__corners_of_1 (D : Ds) : R Bool := (xTest (x2 dNe (xVarB 3) (xVarB 1))) D
def xb__corners_of_1 (D : Ds) : Out := (xsSeq (xsApp 2 (xVar 3))
    (xsAsg 3 (xCall m__next_corner (xCons (xVar 0) (xCons (xVar 3) xNil))))) D
def xs__corners_of : XS := xsSeq (xsAsg 1 (xCall m__least (xCons (xVar 0) xNil)))
    (xsSeq (xsAsgL 2 (xLst (xCons (xVar 1) xNil)))
    (xsSeq (xsAsg 3 (xCall m__next_corner (xCons (xVar 0) (xCons (xVar 1) xNil))))
    (xsSeq (xWh xt__corners_of_1 xb__corners_of_1 100)
    (xsFrz 2 (xsRet (xVar 2))))))
def m__corners_of : List Dt → R Dt := funD 1 4 xs__corners_of
theorem ok__corners_of (T : Txt P K mg cl A) : FnOk P w K mg base (L2.CX P w) 5 A._corners_of A._corners_of_d ["points"] (PureSp K cl m__corners_of) := by
  refine T.F__corners_of.okX sc__corners_of (fun vs H Q E h => h.len) (fun cdv A outer s H vs Q E hr h => ?_)
  have hu := hu_of hr
  exact ⟨_, pss_cons (ps_set (i := 1) sc__corners_of.nd rfl (Or.inl rfl) (pe_callSD (ok__least T) (hr.mono (by decide)) (by rfl) T.g__least T.F__least.kp T.b__least .nil (passAt (takes_of rfl rfl rfl rfl)) (pa_cons (pv 0) pa_nil)))
    (pss_cons (ps_set (i := 2) sc__corners_of.nd rfl (Or.inl rfl) (pe_lst (pa_cons (pv 1) pa_nil)))
    (pss_cons (ps_set (i := 3) sc__corners_of.nd rfl (Or.inl rfl) (pe_callSD (ok__next_corner T) (hr.mono (by decide)) (by rfl) T.g__next_corner T.F__next_corner.kp T.b__next_corner .nil (passAt (takes_of rfl rfl rfl rfl)) (pa_cons (pv 0) (pa_cons (pv 1) pa_nil))))
    (pss_cons (ps_while (passes_of rfl) (pt_cmpR (op_neP hr.units) (pv 3) (pv 1) (nomark _)) (pss_cons (ps_expr (pe_bm PySem.F.plainAttrs_list PySem.F.slot_list_append PySem.F.type_list_append mt_append (pv 2) (pa_cons (pv 3) pa_nil)))
    (pss_one (ps_set (i := 3) sc__corners_of.nd rfl (Or.inl rfl) (pe_callSD (ok__next_corner T) (hr.mono (by decide)) (by rfl) T.g__next_corner T.F__next_corner.kp T.b__next_corner .nil (passAt (takes_of rfl rfl rfl rfl)) (pa_cons (pv 0) (pa_cons (pv 3) pa_nil)))))))
    (pss_one (ps_ret (pv 2)))))),
    body_ok (xs := xs__corners_of) (k := 1) (ss_seq (ss_asg (simS_call (sa_cons sim_var sa_nil)))
    (ss_seq (ss_asgL (simL_lst (sa_cons sim_var sa_nil)))
    (ss_seq (ss_asg (simS_call (sa_cons sim_var (sa_cons sim_var sa_nil))))
    (ss_seq (ss_while 100 (st_test (sim_op os_ne simB_var simB_var)) (ss_seq (ss_app sim_var)
    (ss_asg (simS_call (sa_cons sim_var (sa_cons sim_var sa_nil))))))
    (ss_frz (i := 2) (ss_ret sim_var)))))) h.len (by decide) h⟩
def N__direction : List Str := ["p", "q"]
theorem sc__direction : FnScope N__direction ["p", "q"] (defScope s__direction) := ⟨rfl, rfl, rfl, by decide +kernel, rfl, by decide +kernel, by decide +kernel⟩
def xs__direction : XS := xsRet (xTup (xCons (xCall m__gap (xCons (xVar 0) (xCons (xVar 1) (xCons (xC (.int 0)) xNil)))) (xCons (xCall m__gap (xCons (xVar 0) (xCons (xVar 1) (xCons (xC (.int 1)) xNil)))) xNil)))
def m__direction : List Dt → R Dt := funD 2 2 xs__direction
theorem ok__direction (T : Txt P K mg cl A) : FnOk P w K mg base (L2.CX P w) 2 A._direction A._direction_d ["p", "q"] (PureSp K cl m__direction) := by
  refine T.F__direction.okX sc__direction (fun vs H Q E h => h.len) (fun cdv A outer s H vs Q E hr h => ?_)
  have hu := hu_of hr
  exact ⟨_, pss_one (ps_ret (pe_tup (pa_cons (pe_callSD (ok__gap T) (hr.mono (by decide)) (by rfl) T.g__gap T.F__gap.kp T.b__gap .nil (passAt (takes_of rfl rfl rfl rfl)) (pa_cons (pv 0) (pa_cons (pv 1) (pa_cons pe_int pa_nil)))) (pa_cons (pe_callSD (ok__gap T) (hr.mono (by decide)) (by rfl) T.g__gap T.F__gap.kp T.b__gap .nil (passAt (takes_of rfl rfl rfl rfl)) (pa_cons (pv 0) (pa_cons (pv 1) (pa_cons pe_int pa_nil)))) pa_nil)))),
    body_ok (xs := xs__direction) (k := 2) (ss_ret (sim_tup (sa_cons (simS_call (sa_cons sim_var (sa_cons sim_var (sa_cons sim_int sa_nil)))) (sa_cons (simS_call (sa_cons sim_var (sa_cons sim_var (sa_cons sim_int sa_nil)))) sa_nil)))) h.len (by decide) h⟩
def N__side : List Str := ["a", "b", "corner", "x", "y", "n", "c", "divisor"]
theorem sc__side : FnScope N__side ["a", "b", "corner"] (defScope s__side) := ⟨rfl, rfl, rfl, by decide +kernel, rfl, by decide +kernel, by decide +kernel⟩
def xs__side : XS := xsSeq (xsAsgG (xgTup 3 (xgCons (xgName 3) (xgCons (xgName 4) (xgCons (xgName 5) xgNil)))) (xVar 2))
    (xsSeq (xsAsg 6 (x2 dAdd (x2 dMulB (xVarB 0) (xVarB 3)) (x2 dMulB (xVarB 1) (xVarB 4))))
    (xsSeq (xsAsg 7 (xCB dGcd (xCons (x2 dMulB (xVarB 0) (xVarB 5)) (xCons (x2 dMulB (xVarB 1) (xVarB 5)) (xCons (xVarB 6) xNil)))))
    (xsRet (xTup (xCons (x2 dFdivB (x2 dMulB (xVarB 0) (xVarB 5)) (xVarB 7)) (xCons (x2 dFdivB (x2 dMulB (xVarB 1) (xVarB 5)) (xVarB 7)) (xCons (x2 dFdivB (xVarB 6) (xVarB 7)) xNil)))))))
def m__side : List Dt → R Dt := funD 3 8 xs__side
theorem ok__side (T : Txt P K mg cl A) : FnOk P w K mg base (L2.CX P w) 1 A._side A._side_d ["a", "b", "corner"] (PureSp K cl m__side) := by
  refine T.F__side.okX sc__side (fun vs H Q E h => h.len) (fun cdv A outer s H vs Q E hr h => ?_)
  have hu := hu_of hr
  exact ⟨_, pss_cons (ps_asg (pv 2) (pg_tup rfl (pgs_cons (pg_name (i := 3) sc__side.nd rfl (Or.inl rfl)) (pgs_cons (pg_name (i := 4) sc__side.nd rfl (Or.inl rfl)) (pgs_cons (pg_name (i := 5) sc__side.nd rfl (Or.inl rfl)) pgs_nil)))))
    (pss_cons (ps_set (i := 6) sc__side.nd rfl (Or.inl rfl) (pe_op op_addA (pe_op op_mulB (pv 0) (pv 3)) (pe_op op_mulB (pv 1) (pv 4))))
    (pss_cons (ps_set (i := 7) sc__side.nd rfl (Or.inl rfl) (pe_callBfun cr_gcdA (by rfl) T.m_gcd (pa_cons (pe_op op_mulB (pv 0) (pv 5)) (pa_cons (pe_op op_mulB (pv 1) (pv 5)) (pa_cons (pv 6) pa_nil)))))
    (pss_one (ps_ret (pe_tup (pa_cons (pe_op op_fdivB (pe_op op_mulB (pv 0) (pv 5)) (pv 7)) (pa_cons (pe_op op_fdivB (pe_op op_mulB (pv 1) (pv 5)) (pv 7)) (pa_cons (pe_op op_fdivB (pv 6) (pv 7)) pa_nil)))))))),
    body_ok (xs := xs__side) (k := 3) (ss_seq (ss_asgG (sg_tup (sgs_cons sg_name (sgs_cons sg_name (sgs_cons sg_name sgs_nil)))) sim_var)
    (ss_seq (ss_asg (sim_op os_add (simB_of (sim_op os_mulB simB_var simB_var)) (simB_of (sim_op os_mulB simB_var simB_var))))
    (ss_seq (ss_asg (sim_cb cs_gcd (sba_cons (simB_of (sim_op os_mulB simB_var simB_var)) (sba_cons (simB_of (sim_op os_mulB simB_var simB_var)) (sba_cons simB_var sba_nil)))))
    (ss_ret (sim_tup (sa_cons (sim_op os_fdivB (simB_of (sim_op os_mulB simB_var simB_var)) simB_var) (sa_cons (sim_op os_fdivB (simB_of (sim_op os_mulB simB_var simB_var)) simB_var) (sa_cons (sim_op os_fdivB simB_var simB_var) sa_nil)))))))) h.len (by decide) h⟩
def N__four_sides : List Str := ["p", "q", "u", "v"]
theorem sc__four_sides : FnScope N__four_sides ["p", "q"] (defScope s__four_sides) := ⟨rfl, rfl, rfl, by decide +kernel, rfl, by decide +kernel, by decide +kernel⟩
def xs__four_sides : XS := xsSeq (xsAsgG (xgTup 2 (xgCons (xgName 2) (xgCons (xgName 3) xgNil))) (xIf (xTest (x2 dEq (xVarB 0) (xVarB 1))) (xTup (xCons (xC (.int 1)) (xCons (xC (.int 0)) xNil))) (xCall m__direction (xCons (xVar 0) (xCons (xVar 1) xNil)))))
    (xsRet (xL (xLst (xCons (xCall m__side (xCons (xVar 3) (xCons (x1 dNeg (xVarB 2)) (xCons (xVar 0) xNil)))) (xCons (xCall m__side (xCons (xVar 2) (xCons (xVar 3) (xCons (xVar 1) xNil)))) (xCons (xCall m__side (xCons (x1 dNeg (xVarB 3)) (xCons (xVar 2) (xCons (xVar 0) xNil)))) (xCons (xCall m__side (xCons (x1 dNeg (xVarB 2)) (xCons (x1 dNeg (xVarB 3)) (xCons (xVar 0) xNil)))) xNil)))))))
def m__four_sides : List Dt → R Dt := funD 2 4 xs__four_sides
theorem ok__four_sides (T : Txt P K mg cl A) : FnOk P w K mg base (L2.CX P w) 3 A._four_sides A._four_sides_d ["p", "q"] (PureSp K cl m__four_sides) := by
  refine T.F__four_sides.okX sc__four_sides (fun vs H Q E h => h.len) (fun cdv A outer s H vs Q E hr h => ?_)
  have hu := hu_of hr
  exact ⟨_, pss_cons (ps_asg (pe_ifExp (pt_cmpR (op_eqP hr.units) (pv 0) (pv 1) (nomark _)) (pe_tup (pa_cons pe_int (pa_cons pe_int pa_nil))) (pe_callSD (ok__direction T) (hr.mono (by decide)) (by rfl) T.g__direction T.F__direction.kp T.b__direction .nil (passAt (takes_of rfl rfl rfl rfl)) (pa_cons (pv 0) (pa_cons (pv 1) pa_nil)))) (pg_tup rfl (pgs_cons (pg_name (i := 2) sc__four_sides.nd rfl (Or.inl rfl)) (pgs_cons (pg_name (i := 3) sc__four_sides.nd rfl (Or.inl rfl)) pgs_nil))))
    (pss_one (ps_ret (pe_lst (pa_cons (pe_callSD (ok__side T) (hr.mono (by decide)) (by rfl) T.g__side T.F__side.kp T.b__side .nil (passAt (takes_of rfl rfl rfl rfl)) (pa_cons (pv 3) (pa_cons (pe_un un_neg (pv 2)) (pa_cons (pv 0) pa_nil)))) (pa_cons (pe_callSD (ok__side T) (hr.mono (by decide)) (by rfl) T.g__side T.F__side.kp T.b__side .nil (passAt (takes_of rfl rfl rfl rfl)) (pa_cons (pv 2) (pa_cons (pv 3) (pa_cons (pv 1) pa_nil)))) (pa_cons (pe_callSD (ok__side T) (hr.mono (by decide)) (by rfl) T.g__side T.F__side.kp T.b__side .nil (passAt (takes_of rfl rfl rfl rfl)) (pa_cons (pe_un un_neg (pv 3)) (pa_cons (pv 2) (pa_cons (pv 0) pa_nil)))) (pa_cons (pe_callSD (ok__side T) (hr.mono (by decide)) (by rfl) T.g__side T.F__side.kp T.b__side .nil (passAt (takes_of rfl rfl rfl rfl)) (pa_cons (pe_un un_neg (pv 2)) (pa_cons (pe_un un_neg (pv 3)) (pa_cons (pv 0) pa_nil)))) pa_nil))))))),
    body_ok (xs := xs__four_sides) (k := 2) (ss_seq (ss_asgG (sg_tup (sgs_cons sg_name (sgs_cons sg_name sgs_nil))) (sim_if (st_test (sim_op os_eq simB_var simB_var)) (sim_tup (sa_cons sim_int (sa_cons sim_int sa_nil))) (simS_call (sa_cons sim_var (sa_cons sim_var sa_nil)))))
    (ss_ret (sim_L (simL_lst (sa_cons (simS_call (sa_cons sim_var (sa_cons (sim_un us_neg simB_var) (sa_cons sim_var sa_nil)))) (sa_cons (simS_call (sa_cons sim_var (sa_cons sim_var (sa_cons sim_var sa_nil)))) (sa_cons (simS_call (sa_cons (sim_un us_neg simB_var) (sa_cons sim_var (sa_cons sim_var sa_nil)))) (sa_cons (simS_call (sa_cons (sim_un us_neg simB_var) (sa_cons (sim_un us_neg simB_var) (sa_cons sim_var sa_nil)))) sa_nil)))))))) h.len (by decide) h⟩
def N__side_along : List Str := ["corner", "after", "u", "v"]
theorem sc__side_along : FnScope N__side_along ["corner", "after"] (defScope s__side_along) := ⟨rfl, rfl, rfl, by decide +kernel, rfl, by decide +kernel, by decide +kernel⟩
def xs__side_along : XS := xsSeq (xsAsgG (xgTup 2 (xgCons (xgName 2) (xgCons (xgName 3) xgNil))) (xCall m__direction (xCons (xVar 0) (xCons (xVar 1) xNil))))
    (xsRet (xCall m__side (xCons (xVar 3) (xCons (x1 dNeg (xVarB 2)) (xCons (xVar 0) xNil)))))
def m__side_along : List Dt → R Dt := funD 2 4 xs__side_along
theorem ok__side_along (T : Txt P K mg cl A) : FnOk P w K mg base (L2.CX P w) 3 A._side_along A._side_along_d ["corner", "after"] (PureSp K cl m__side_along) := by
  refine T.F__side_along.okX sc__side_along (fun vs H Q E h => h.len) (fun cdv A outer s H vs Q E hr h => ?_)
  have hu := hu_of hr
  exact ⟨_, pss_cons (ps_asg (pe_callSD (ok__direction T) (hr.mono (by decide)) (by rfl) T.g__direction T.F__direction.kp T.b__direction .nil (passAt (takes_of rfl rfl rfl rfl)) (pa_cons (pv 0) (pa_cons (pv 1) pa_nil))) (pg_tup rfl (pgs_cons (pg_name (i := 2) sc__side_along.nd rfl (Or.inl rfl)) (pgs_cons (pg_name (i := 3) sc__side_along.nd rfl (Or.inl rfl)) pgs_nil))))
    (pss_one (ps_ret (pe_callSD (ok__side T) (hr.mono (by decide)) (by rfl) T.g__side T.F__side.kp T.b__side .nil (passAt (takes_of rfl rfl rfl rfl)) (pa_cons (pv 3) (pa_cons (pe_un un_neg (pv 2)) (pa_cons (pv 0) pa_nil)))))),
    body_ok (xs := xs__side_along) (k := 2) (ss_seq (ss_asgG (sg_tup (sgs_cons sg_name (sgs_cons sg_name sgs_nil))) (simS_call (sa_cons sim_var (sa_cons sim_var sa_nil))))
    (ss_ret (simS_call (sa_cons sim_var (sa_cons (sim_un us_neg simB_var) (sa_cons sim_var sa_nil)))))) h.len (by decide) h⟩
def N__sides_of : List Str := ["corners", "following", "corner", "after"]
theorem sc__sides_of : FnScope N__sides_of ["corners"] (defScope s__sides_of) := ⟨rfl, rfl, rfl, by decide +kernel, rfl, by decide +kernel, by decide +kernel⟩
def xe__sides_of_1 (D : Ds) : R Dt := (xCall m__side_along (xCons (xVar 2) (xCons (xVar 3) xNil))) D
def xs__sides_of : XS := xsSeq (xsIf (xTest (x2 dLe (xCB dLen (xCons (xVarB 0) xNil)) (xC (.int 2)))) (xsRet (xCall m__four_sides (xCons (x2 dIx (xVarB 0) (xC (.int 0))) (xCons (x2 dIx (xVarB 0) (x1 dNeg (xC (.int 1)))) xNil)))) xsNext)
    (xsSeq (xsAsg 1 (xL (x2L dCatL (xSlA (xVarB 0) (xPart (xC (.int 1))) xNo) (xSlA (xVarB 0) xNo (xPart (xC (.int 1)))))))
    (xsRet (xL (xLc (xZip (xCons (xVar 0) (xCons (xVar 1) xNil))) (xgTup 2 (xgCons (xgName 2) (xgCons (xgName 3) xgNil))) xYes xe__sides_of_1 [2, 3]))))
def m__sides_of : List Dt → R Dt := funD 1 4 xs__sides_of
theorem ok__sides_of (T : Txt P K mg cl A) : FnOk P w K mg base (L2.CX P w) 4 A._sides_of A._sides_of_d ["corners"] (PureSp K cl m__sides_of) := by
  refine T.F__sides_of.okX sc__sides_of (fun vs H Q E h => h.len) (fun cdv A outer s H vs Q E hr h => ?_)
  have hu := hu_of hr
  exact ⟨_, pss_cons (ps_if (pt_cmpR op_le (pe_callB call_lenA (by rfl) T.z_len (by decide +kernel) (pa_cons (pv 0) pa_nil)) pe_int (nomark _)) (pss_one (ps_ret (pe_callSD (ok__four_sides T) (hr.mono (by decide)) (by rfl) T.g__four_sides T.F__four_sides.kp T.b__four_sides .nil (passAt (takes_of rfl rfl rfl rfl)) (pa_cons (pe_ix ix_seq (pv 0) pe_int (fun _ _ => rfl)) (pa_cons (pe_ix ix_seq (pv 0) (pe_un un_neg pe_int) (fun _ _ => rfl)) pa_nil))))) pss_nil)
    (pss_cons (ps_set (i := 1) sc__sides_of.nd rfl (Or.inl rfl) (pe_op op_cat (pe_slice sl_A (pv 0) (po_some pe_int) po_none) (pe_slice sl_A (pv 0) po_none (po_some pe_int))))
    (pss_one (ps_ret (pe_lc (own := [("corner", 2), ("after", 3)]) rfl sc__sides_of.nd (RZ.pi_zipA (by rfl) T.z_zip (pa_cons (pv 0) (pa_cons (pv 1) pa_nil))) (blkOk_by (N := N__sides_of) (sc := defScope s__sides_of) (by decide +kernel)) (fun _ _ _ _ _ => pg_tup rfl (pgs_cons (pg_name (i := 2) sc__sides_of.nd rfl (Or.inl rfl)) (pgs_cons (pg_name (i := 3) sc__sides_of.nd rfl (Or.inl rfl)) pgs_nil))) (fun _ _ _ _ _ => pts_nil) (fun _ _ _ _ _ => pe_callSD (ok__side_along T) (hr.mono (by decide)) (by rfl) T.g__side_along T.F__side_along.kp T.b__side_along .nil passB (pa_cons (pv 2) (pa_cons (pv 3) pa_nil))))))),
    body_ok (xs := xs__sides_of) (k := 1) (ss_seq (ss_if (st_test (sim_op os_le (simB_of (sim_cb cs_len (sba_cons simB_var sba_nil))) (simB_of sim_int))) (ss_ret (simS_call (sa_cons (sim_op os_ix simB_var (simB_of sim_int)) (sa_cons (sim_op os_ix simB_var (simB_of (sim_un us_neg (simB_of sim_int)))) sa_nil)))) ss_next)
    (ss_seq (ss_asg (sim_L (simL_op ol_catL (simB_of (sim_slA simB_var (so_part sim_int) so_no)) (simB_of (sim_slA simB_var so_no (so_part sim_int))))))
    (ss_ret (sim_L (simL_lc (si_zip (sa_cons sim_var (sa_cons sim_var sa_nil))) (sgw_tup (sgsw_cons (sgw_name (by decide)) (sgsw_cons (sgw_name (by decide)) sgsw_nil))) st_yes (simS_call (sa_cons sim_var (sa_cons sim_var sa_nil)))))))) h.len (by decide) h⟩
def N_check_mix : List Str := ["mix"]
theorem sc_check_mix : FnScope N_check_mix ["mix"] (defScope s_check_mix) := ⟨rfl, rfl, rfl, by decide +kernel, rfl, by decide +kernel, by decide +kernel⟩
def xs_check_mix : XS := xsIf (xTest (x2 dLtI (x2 dIx (xVarB 0) (xC (.int 2))) (xC (.int 1)))) (xsRaiseF "InvalidMix" "mix" okm_InvalidMix (xVar 0)) xsNext
def m_check_mix : List Dt → R Dt := funD 1 1 xs_check_mix
theorem ok_check_mix (T : Txt P K mg cl A) : FnOk P w K mg base (L2.CX P w) 3 A.check_mix A.check_mix_d ["mix"] (PureSp K cl m_check_mix) := by
  refine T.F_check_mix.okX sc_check_mix (fun vs H Q E h => h.len) (fun cdv A outer s H vs Q E hr h => ?_)
  have hu := hu_of hr
  exact ⟨_, pss_one (ps_if (pt_cmpR op_lt (pe_ix ix_seq (pv 0) pe_int (fun _ _ => rfl)) pe_int (nomark _)) (pss_one (ps_raise rfl (takes_of rfl rfl rfl rfl) (pmk_oex T.oe_InvalidMix T.in_InvalidMix T.ti_InvalidMix (fx_InvalidMix T) (hr.mono (by decide)) T.bx_InvalidMix .nil passL (by rfl) T.g_InvalidMix (pa_cons (pv 0) pa_nil)))) pss_nil),
    body_ok (xs := xs_check_mix) (k := 1) (ss_if (st_test (sim_op os_ltI (simB_of (sim_op os_ix simB_var (simB_of sim_int))) (simB_of sim_int))) (ss_raiseF T.l_InvalidMix hm_InvalidMix sim_var) ss_next) h.len (by decide) h⟩
def N_lowest : List Str := ["mix", "first", "second", "beats", "divisor"]
theorem sc_lowest : FnScope N_lowest ["mix"] (defScope s_lowest) := ⟨rfl, rfl, rfl, by decide +kernel, rfl, by decide +kernel, by decide +kernel⟩
def xs_lowest : XS := xsSeq (xsDrop (xCall m_check_mix (xCons (xVar 0) xNil)))
    (xsSeq (xsAsgG (xgTup 3 (xgCons (xgName 1) (xgCons (xgName 2) (xgCons (xgName 3) xgNil)))) (xVar 0))
    (xsSeq (xsAsg 4 (xCB dGcd (xCons (xVarB 1) (xCons (xVarB 2) (xCons (xVarB 3) xNil)))))
    (xsRet (xTup (xCons (x2 dFdivB (xVarB 1) (xVarB 4)) (xCons (x2 dFdivB (xVarB 2) (xVarB 4)) (xCons (x2 dFdivB (xVarB 3) (xVarB 4)) xNil)))))))
def m_lowest : List Dt → R Dt := funD 1 5 xs_lowest
theorem ok_lowest (T : Txt P K mg cl A) : FnOk P w K mg base (L2.CX P w) 4 A.lowest A.lowest_d ["mix"] (PureSp K cl m_lowest) := by
  refine T.F_lowest.okX sc_lowest (fun vs H Q E h => h.len) (fun cdv A outer s H vs Q E hr h => ?_)
  have hu := hu_of hr
  exact ⟨_, pss_cons (ps_expr (pe_callSD (ok_check_mix T) (hr.mono (by decide)) (by rfl) T.g_check_mix T.F_check_mix.kp T.b_check_mix .nil (passAt (takes_of rfl rfl rfl rfl)) (pa_cons (pv 0) pa_nil)))
    (pss_cons (ps_asg (pv 0) (pg_tup rfl (pgs_cons (pg_name (i := 1) sc_lowest.nd rfl (Or.inl rfl)) (pgs_cons (pg_name (i := 2) sc_lowest.nd rfl (Or.inl rfl)) (pgs_cons (pg_name (i := 3) sc_lowest.nd rfl (Or.inl rfl)) pgs_nil)))))
    (pss_cons (ps_set (i := 4) sc_lowest.nd rfl (Or.inl rfl) (pe_callBfun cr_gcdA (by rfl) T.m_gcd (pa_cons (pv 1) (pa_cons (pv 2) (pa_cons (pv 3) pa_nil)))))
    (pss_one (ps_ret (pe_tup (pa_cons (pe_op op_fdivB (pv 1) (pv 4)) (pa_cons (pe_op op_fdivB (pv 2) (pv 4)) (pa_cons (pe_op op_fdivB (pv 3) (pv 4)) pa_nil)))))))),
    body_ok (xs := xs_lowest) (k := 1) (ss_seq (ss_drop (simS_call (sa_cons sim_var sa_nil)))
    (ss_seq (ss_asgG (sg_tup (sgs_cons sg_name (sgs_cons sg_name (sgs_cons sg_name sgs_nil)))) sim_var)
    (ss_seq (ss_asg (sim_cb cs_gcd (sba_cons simB_var (sba_cons simB_var (sba_cons simB_var sba_nil)))))
    (ss_ret (sim_tup (sa_cons (sim_op os_fdivB simB_var simB_var) (sa_cons (sim_op os_fdivB simB_var simB_var) (sa_cons (sim_op os_fdivB simB_var simB_var) sa_nil)))))))) h.len (by decide) h⟩
def N_Region___init__ : List Str := ["self", "mixes", "mix"]
theorem sc_Region___init__ : FnScope N_Region___init__ ["self", "mixes"] (defScope s_Region___init__) := ⟨rfl, rfl, rfl, by decide +kernel, rfl, by decide +kernel, by decide +kernel⟩
def xe_Region___init___1 (D : Ds) : R Dt := (xCall m_lowest (xCons (xVar 2) xNil)) D
def xs_Region___init__ : XS := xsSeq (xsIf (xTest (x2 dEq (xCB dLen (xCons (xVarB 1) xNil)) (xC (.int 0)))) (xsRaise "EmptyRegion") xsNext)
    (xsSeq (xsFld 0 "Region" "_corners" (xCall m__corners_of (xCons (xL (xLcX (xItemsV 1) (xgName 2) xYes xe_Region___init___1 [2])) xNil)))
    (xsFld 0 "Region" "_sides" (xCall m__sides_of (xCons (x1 (dFld "Region" "_corners") (xVarB 0)) xNil))))
theorem mk_Region___init__ : ∀ (x : Addr) (s1 : Sl), runJ "Region" xs_Region___init__ x [s1, .no] = runJ "Region" xs_Region___init__ 0 [s1, .no] := by
  intro x s1
  have nf : Str.ofString "_corners" ≠ Str.ofString "_sides" := by decide +kernel
  have hw : ∀ (y : Addr), wipeD [.oi y "Region" [], s1, .no] [2] = [.oi y "Region" [], s1, .no] := fun y => rfl
  have comp_x : ∀ (x : Addr) (l acc : List Dt), xCompX (xgName 2) xYes xe_Region___init___1 [.oi x "Region" [], s1, .no] l acc = xCompX (xgName 2) xYes xe_Region___init___1 [.oi 0 "Region" [], s1, .no] l acc := by
    intro x l
    induction l with
    | nil => intro acc; rfl
    | cons d l ih =>
      intro acc
      simp only [xCompX, xgName, xYes, xe_Region___init___1, List.set_cons_succ, List.set_cons_zero, xCall, xCons, xVar_ap, xNil, List.getElem?_cons_succ, List.getElem?_cons_zero, shO_sh, bind_ok, ih]
  simp only [runJ, xs_Region___init__]
  cases e0 : s1.dat <;> simp [e0]
  rename_i a
  cases e1 : dLen [a] <;> simp
  rename_i n
  cases e2 : dEq n (.int 0) <;> simp
  rename_i b
  cases e3 : dTest b <;> simp
  rename_i b
  cases b <;> simp
  cases e4 : itemsS (some s1) <;> simp
  rename_i l
  rw [hw, hw, comp_x]
  cases e5 : xCompX (xgName 2) xYes xe_Region___init___1 [.oi 0 "Region" [], s1, .no] l [] <;> simp
  rename_i r
  cases e6 : m__corners_of [.lst r] <;> simp [putG]
  rename_i cs
  cases e7 : m__sides_of [cs] <;> simp [putG, nf]
def m_Region___init__ (ds : List Dt) : R (List (Str × Dt)) := if ds.length = 1 then runI "Region" 3 xs_Region___init__ 0 ds else .bad
theorem mi_Region___init__ : ∀ (x : Addr) (ds : List Dt) (r : R (List (Str × Dt))), m_Region___init__ ds = r → r ≠ .bad → ds.length = 1 ∧ runI "Region" N_Region___init__.length xs_Region___init__ x ds = r := by
  intro x ds r h hr
  unfold m_Region___init__ at h
  split at h
  · rename_i hl
    refine ⟨hl, ?_⟩
    match ds, hl with
    | [a1], _ => subst h; exact mk_Region___init__ x (.sh a1)
  · exact absurd h.symm hr
theorem ok_Region___init__ (T : Txt P K mg cl A) : FnOk P w K mg base (L2.CX P w) 6 A.Region___init__ A.Region___init___d ["self", "mixes"] (InitSp K cl "Region" m_Region___init__) := by
  refine T.F_Region___init__.okX sc_Region___init__ (fun vs H Q E h => initSp_len (k := 1) h fun ds e => by unfold m_Region___init__; rw [if_neg e]) (fun cdv A outer s H vs Q E hr h => ?_)
  have hu := hu_of hr
  exact ⟨_, pss_cons (ps_if (pt_cmpR (op_eqP hr.units) (pe_callB call_lenA (by rfl) T.z_len (by decide +kernel) (pa_cons (pv 1) pa_nil)) pe_int (nomark _)) (pss_one (ps_raise rfl (takes_of rfl rfl rfl rfl) (pmk_own PySem.F.excBase_ValueError T.x_EmptyRegion T.g_EmptyRegion T.k_EmptyRegion (raises_own T.e_EmptyRegion T.t_EmptyRegion) (by rfl)))) pss_nil)
    (pss_cons (ps_fld (pv 0) (pe_callSD (ok__corners_of T) (hr.mono (by decide)) (by rfl) T.g__corners_of T.F__corners_of.kp T.b__corners_of .nil (passAt (takes_of rfl rfl rfl rfl)) (pa_cons (pe_lcX (own := [("mix", 2)]) rfl rfl rfl (takes_of rfl rfl rfl rfl) sc_Region___init__.nd (pi_list (pv 1)) (blkOk_by (N := N_Region___init__) (sc := defScope s_Region___init__) (by decide +kernel)) (fun _ _ _ _ _ _ => pg_name (i := 2) sc_Region___init__.nd rfl (Or.inl rfl)) (fun _ _ _ _ _ _ => pts_nil) (fun _ _ _ _ _ _ hp => pe_callSD (ok_lowest T) (hr.mono (by decide)) (by rfl) T.g_lowest T.F_lowest.kp T.b_lowest .nil hp (pa_cons (pv 2) pa_nil))) pa_nil)) rfl)
    (pss_one (ps_fld (pv 0) (pe_callSD (ok__sides_of T) (hr.mono (by decide)) (by rfl) T.g__sides_of T.F__sides_of.kp T.b__sides_of .nil (passAt (takes_of rfl rfl rfl rfl)) (pa_cons (pe_fld (pv 0) rfl) pa_nil)) rfl))),
    init_ok (xs := xs_Region___init__) (k := 1) (ss_seq (ss_if (st_test (sim_op os_eq (simB_of (sim_cb cs_len (sba_cons simB_var sba_nil))) (simB_of sim_int))) (ss_raise T.l_EmptyRegion) ss_next)
    (ss_seq (ss_fld T.l_Region T.K_Region T.N_Region__corners (simS_call (sa_cons (sim_L (simL_lcX si_slot (sgw_name (by decide)) st_yes (simS_call (sa_cons sim_var sa_nil)))) sa_nil)))
    (ss_fld T.l_Region T.K_Region T.N_Region__sides (simS_call (sa_cons (sim_fld T.l_Region T.K_Region T.N_Region__corners simB_var) sa_nil))))) (by decide) mi_Region___init__ h⟩
def mM0_Region___init__ (ds : List Dt) : R (List (Str × Dt)) := if ds.length = 1 then runIM "Region" 3 [true] xs_Region___init__ 0 ds else .bad
theorem miM0_Region___init__ : ∀ (x : Addr) (ds : List Dt) (r : R (List (Str × Dt))), mM0_Region___init__ ds = r → r ≠ .bad → ds.length = 1 ∧ runIM "Region" N_Region___init__.length [true] xs_Region___init__ x ds = r := by
  intro x ds r h hr
  unfold mM0_Region___init__ at h
  split at h
  · rename_i hl
    refine ⟨hl, ?_⟩
    match ds, hl with
    | [a1], _ =>
      subst h
      obtain ⟨t1, e1⟩ := slM_cons true a1
      show runJ _ _ _ (slM [true] [a1] ++ _) = runJ _ _ _ (slM [true] [a1] ++ _)
      rw [e1, slM_nil]
      exact mk_Region___init__ x t1
  · exact absurd h.symm hr
theorem ok_Region___init___M0 (T : Txt P K mg cl A) : FnOk P w K mg base (L2.CX P w) 6 A.Region___init__ A.Region___init___d ["self", "mixes"] (InitSpM K cl "Region" [true] mM0_Region___init__) := by
  refine T.F_Region___init__.okX sc_Region___init__ (fun vs H Q E h => initSpM_len (k := 1) h fun ds e => by unfold mM0_Region___init__; rw [if_neg e]) (fun cdv A outer s H vs Q E hr h => ?_)
  have hu := hu_of hr
  exact ⟨_, pss_cons (ps_if (pt_cmpR (op_eqP hr.units) (pe_callB call_lenA (by rfl) T.z_len (by decide +kernel) (pa_cons (pv 1) pa_nil)) pe_int (nomark _)) (pss_one (ps_raise rfl (takes_of rfl rfl rfl rfl) (pmk_own PySem.F.excBase_ValueError T.x_EmptyRegion T.g_EmptyRegion T.k_EmptyRegion (raises_own T.e_EmptyRegion T.t_EmptyRegion) (by rfl)))) pss_nil)
    (pss_cons (ps_fld (pv 0) (pe_callSD (ok__corners_of T) (hr.mono (by decide)) (by rfl) T.g__corners_of T.F__corners_of.kp T.b__corners_of .nil (passAt (takes_of rfl rfl rfl rfl)) (pa_cons (pe_lcX (own := [("mix", 2)]) rfl rfl rfl (takes_of rfl rfl rfl rfl) sc_Region___init__.nd (pi_list (pv 1)) (blkOk_by (N := N_Region___init__) (sc := defScope s_Region___init__) (by decide +kernel)) (fun _ _ _ _ _ _ => pg_name (i := 2) sc_Region___init__.nd rfl (Or.inl rfl)) (fun _ _ _ _ _ _ => pts_nil) (fun _ _ _ _ _ _ hp => pe_callSD (ok_lowest T) (hr.mono (by decide)) (by rfl) T.g_lowest T.F_lowest.kp T.b_lowest .nil hp (pa_cons (pv 2) pa_nil))) pa_nil)) rfl)
    (pss_one (ps_fld (pv 0) (pe_callSD (ok__sides_of T) (hr.mono (by decide)) (by rfl) T.g__sides_of T.F__sides_of.kp T.b__sides_of .nil (passAt (takes_of rfl rfl rfl rfl)) (pa_cons (pe_fld (pv 0) rfl) pa_nil)) rfl))),
    init_okM (xs := xs_Region___init__) (k := 1) (ss_seq (ss_if (st_test (sim_op os_eq (simB_of (sim_cb cs_len (sba_cons simB_var sba_nil))) (simB_of sim_int))) (ss_raise T.l_EmptyRegion) ss_next)
    (ss_seq (ss_fld T.l_Region T.K_Region T.N_Region__corners (simS_call (sa_cons (sim_L (simL_lcX si_slot (sgw_name (by decide)) st_yes (simS_call (sa_cons sim_var sa_nil)))) sa_nil)))
    (ss_fld T.l_Region T.K_Region T.N_Region__sides (simS_call (sa_cons (sim_fld T.l_Region T.K_Region T.N_Region__corners simB_var) sa_nil))))) (by decide) miM0_Region___init__ h⟩
def N__law_refusal : List Str := ["_law_mixes", "e"]
theorem sc__law_refusal : FnScope N__law_refusal ["_law_mixes"] (defScope s__law_refusal) := ⟨rfl, rfl, rfl, by decide +kernel, rfl, by decide +kernel, by decide +kernel⟩
def xs__law_refusal : XS := xsSeq (xsTryAs 1 ["EmptyRegion", "InvalidMix"] [] (xsDrop (xMake "Region" 1 0 m_Region___init__ gD_0 (xCons (xVar 0) xNil) xNil)) (xsSeq (xsIf (xOr (xNot (xTest (xIsX 1 [("EmptyRegion", true), ("InvalidMix", true)]))) (xTest (xIsX 1 [("EmptyRegion", false), ("InvalidMix", false)]))) (xsRet (xL (xLst xNil))) xsNext)
    (xsSeq (xsIf (xAnd (xTest (xIsX 1 [("EmptyRegion", true), ("InvalidMix", false)])) (xNot (xTest (xIsX 1 [("EmptyRegion", false), ("InvalidMix", true)])))) (xsRet (xL (xLst (xCons (xC (.str "empty")) xNil)))) xsNext)
    (xsSeq (xsIf (xAnd (xTest (xIsX 1 [("EmptyRegion", false), ("InvalidMix", true)])) (xNot (xTest (xIsX 1 [("EmptyRegion", true), ("InvalidMix", false)])))) (xsRet (xL (xLst (xCons (xC (.str "mix")) (xCons (xXf 1 "InvalidMix" "mix") xNil))))) xsNext)
    (xsRet (xL (xLst xNil)))))))
    (xsRet (xL (xLst (xCons (xC (.str "made")) xNil))))
def m__law_refusal : List Dt → R Dt := funD 1 2 xs__law_refusal
theorem ok__law_refusal (T : Txt P K mg cl A) : FnOk P w K mg base (L2.CX P w) 8 A._law_refusal A._law_refusal_d ["_law_mixes"] (PureSp K cl m__law_refusal) := by
  refine T.F__law_refusal.okX sc__law_refusal (fun vs H Q E h => h.len) (fun cdv A outer s H vs Q E hr h => ?_)
  have hu := hu_of hr
  exact ⟨_, pss_cons (ps_tryAsM (i := 1) rfl rfl sc__law_refusal.nd rfl rfl ⟨rfl, by decide, .inl T.g_KitchenError⟩ (takes_of rfl rfl rfl rfl) (fun W pn xe tk _ => pss_one (ps_expr (Exists.elim T.kb_0 fun _ kb => pe_makeKS T.M_Region (ok_Region___init__ T) (hr.mono (by decide)) (by rfl) T.g_Region kb (passAt tk) (pa_cons (pv 0) pa_nil) pk_nil))) (fun a oe cls d pn hz hf => pss_cons (ps_if (PW.pt (pw_or (pt_not (pt_val (pe_callB (call_isX hz hf) (by rfl) T.z_isinstance (by decide +kernel) (pa_cons (pv 1) (pa_cons (pe_bltn (v := .ty "ValueError") (by rfl) T.z_ValueError (by decide +kernel) rfl) pa_nil))))) (pw_or1 (pt_val (pe_callB (call_isX hz hf) (by rfl) T.z_isinstance (by decide +kernel) (pa_cons (pv 1) (pa_cons (pe_glob (v := .ref _) (by rfl) T.g_Barred rfl) pa_nil))))))) (pss_one (ps_ret (pe_lst pa_nil))) pss_nil)
    (pss_cons (ps_if (PW.pt (pw_and (pt_val (pe_callB (call_isX hz hf) (by rfl) T.z_isinstance (by decide +kernel) (pa_cons (pv 1) (pa_cons (pe_glob (v := .ref _) (by rfl) T.g_EmptyRegion rfl) pa_nil)))) (pw_and1 (pt_not (pt_val (pe_callB (call_isX hz hf) (by rfl) T.z_isinstance (by decide +kernel) (pa_cons (pv 1) (pa_cons (pe_glob (v := .ref _) (by rfl) T.g_InvalidMix rfl) pa_nil)))))))) (pss_one (ps_ret (pe_lst (pa_cons pe_str pa_nil)))) pss_nil)
    (pss_cons (ps_if (PW.pt (pw_and (pt_val (pe_callB (call_isX hz hf) (by rfl) T.z_isinstance (by decide +kernel) (pa_cons (pv 1) (pa_cons (pe_glob (v := .ref _) (by rfl) T.g_InvalidMix rfl) pa_nil)))) (pw_and1 (pt_not (pt_val (pe_callB (call_isX hz hf) (by rfl) T.z_isinstance (by decide +kernel) (pa_cons (pv 1) (pa_cons (pe_glob (v := .ref _) (by rfl) T.g_EmptyRegion rfl) pa_nil)))))))) (pss_one (ps_ret (pe_lst (pa_cons pe_str (pa_cons (pe_xf T.xf_InvalidMix T.N_InvalidMix_mix hz hf (pv 1)) pa_nil))))) pss_nil)
    (pss_one (ps_ret (pe_lst pa_nil)))))))
    (pss_one (ps_ret (pe_lst (pa_cons pe_str pa_nil)))),
    body_ok (xs := xs__law_refusal) (k := 1) (ss_seq (ss_tryAs (i := 1) (cs := ["EmptyRegion", "InvalidMix"]) (ns := []) (E1 := fun _ _ _ _ => False) (catch_one T.l_EmptyRegion T.cx_EmptyRegion_KitchenError (catch_one T.l_InvalidMix T.cx_InvalidMix_KitchenError catch_nil)) catch_nil (fun W => ss_drop (sim_makeS T.l_Region ga_0 (sa_cons sim_var sa_nil) sa_nil)) (fun a C d => ss_seq (ss_if (st_or (st_not (st_B (sim_isX (.ty _) (tab_one T.l_EmptyRegion T.xe_EmptyRegion T.ki_EmptyRegion_ValueError (tab_one T.l_InvalidMix T.xe_InvalidMix T.ki_InvalidMix_ValueError tab_nil))))) (st_B (sim_isX (.own _) (tab_one T.l_EmptyRegion T.xe_EmptyRegion T.ki_EmptyRegion_Barred (tab_one T.l_InvalidMix T.xe_InvalidMix T.ki_InvalidMix_Barred tab_nil))))) (ss_ret (sim_L (simL_lst sa_nil))) ss_next)
    (ss_seq (ss_if (st_and (st_B (sim_isX (.own _) (tab_one T.l_EmptyRegion T.xe_EmptyRegion T.ki_EmptyRegion_EmptyRegion (tab_one T.l_InvalidMix T.xe_InvalidMix T.ki_InvalidMix_EmptyRegion tab_nil)))) (st_not (st_B (sim_isX (.own _) (tab_one T.l_EmptyRegion T.xe_EmptyRegion T.ki_EmptyRegion_InvalidMix (tab_one T.l_InvalidMix T.xe_InvalidMix T.ki_InvalidMix_InvalidMix tab_nil)))))) (ss_ret (sim_L (simL_lst (sa_cons sim_str sa_nil)))) ss_next)
    (ss_seq (ss_if (st_and (st_B (sim_isX (.own _) (tab_one T.l_EmptyRegion T.xe_EmptyRegion T.ki_EmptyRegion_InvalidMix (tab_one T.l_InvalidMix T.xe_InvalidMix T.ki_InvalidMix_InvalidMix tab_nil)))) (st_not (st_B (sim_isX (.own _) (tab_one T.l_EmptyRegion T.xe_EmptyRegion T.ki_EmptyRegion_EmptyRegion (tab_one T.l_InvalidMix T.xe_InvalidMix T.ki_InvalidMix_EmptyRegion tab_nil)))))) (ss_ret (sim_L (simL_lst (sa_cons sim_str (sa_cons (sim_xf T.l_InvalidMix) sa_nil))))) ss_next)
    (ss_ret (sim_L (simL_lst sa_nil)))))))
    (ss_ret (sim_L (simL_lst (sa_cons sim_str sa_nil))))) h.len (by decide) h⟩
def N_Region_bar : List Str := ["self", "mix", "x", "y", "n", "a", "b", "c"]
theorem sc_Region_bar : FnScope N_Region_bar ["self", "mix"] (defScope s_Region_bar) := ⟨rfl, rfl, rfl, by decide +kernel, rfl, by decide +kernel, by decide +kernel⟩
def xb_Region_bar_1 (D : Ds) : Out := (xsIf (xTest (x2 dGt (x2 dAdd (x2 dMulB (xVarB 5) (xVarB 2)) (x2 dMulB (xVarB 6) (xVarB 3))) (x2 dMulB (xVarB 7) (xVarB 4)))) (xsRet (xTup (xCons (xVar 5) (xCons (xVar 6) (xCons (xVar 7) xNil))))) xsNext) D
def xs_Region_bar : XS := xsSeq (xsDrop (xCall m_check_mix (xCons (xVar 1) xNil)))
    (xsSeq (xsAsgG (xgTup 3 (xgCons (xgName 2) (xgCons (xgName 3) (xgCons (xgName 4) xgNil)))) (xVar 1))
    (xsSeq (xsFor (xItems (x1 (dFld "Region" "_sides") (xVarB 0))) (xgTup 3 (xgCons (xgName 5) (xgCons (xgName 6) (xgCons (xgName 7) xgNil)))) xb_Region_bar_1)
    (xsRet (xC .non))))
def m_Region_bar : List Dt → R Dt := funD 2 8 xs_Region_bar
theorem ok_Region_bar (T : Txt P K mg cl A) : FnOk P w K mg base (L2.CX P w) 4 A.Region_bar A.Region_bar_d ["self", "mix"] (PureSp K cl m_Region_bar) := by
  refine T.F_Region_bar.okX sc_Region_bar (fun vs H Q E h => h.len) (fun cdv A outer s H vs Q E hr h => ?_)
  have hu := hu_of hr
  exact ⟨_, pss_cons (ps_expr (pe_callSD (ok_check_mix T) (hr.mono (by decide)) (by rfl) T.g_check_mix T.F_check_mix.kp T.b_check_mix .nil (passAt (takes_of rfl rfl rfl rfl)) (pa_cons (pv 1) pa_nil)))
    (pss_cons (ps_asg (pv 1) (pg_tup rfl (pgs_cons (pg_name (i := 2) sc_Region_bar.nd rfl (Or.inl rfl)) (pgs_cons (pg_name (i := 3) sc_Region_bar.nd rfl (Or.inl rfl)) (pgs_cons (pg_name (i := 4) sc_Region_bar.nd rfl (Or.inl rfl)) pgs_nil)))))
    (pss_cons (ps_for (passes_of rfl) rfl (pi_list (pe_fld (pv 0) rfl)) (pg_tup rfl (pgs_cons (pg_name (i := 5) sc_Region_bar.nd rfl (Or.inl rfl)) (pgs_cons (pg_name (i := 6) sc_Region_bar.nd rfl (Or.inl rfl)) (pgs_cons (pg_name (i := 7) sc_Region_bar.nd rfl (Or.inl rfl)) pgs_nil)))) (pss_one (ps_if (pt_cmpR op_gt (pe_op op_addA (pe_op op_mulB (pv 5) (pv 2)) (pe_op op_mulB (pv 6) (pv 3))) (pe_op op_mulB (pv 7) (pv 4)) (nomark _)) (pss_one (ps_ret (pe_tup (pa_cons (pv 5) (pa_cons (pv 6) (pa_cons (pv 7) pa_nil)))))) pss_nil)))
    (pss_one (ps_ret pe_non)))),
    body_ok (xs := xs_Region_bar) (k := 2) (ss_seq (ss_drop (simS_call (sa_cons sim_var sa_nil)))
    (ss_seq (ss_asgG (sg_tup (sgs_cons sg_name (sgs_cons sg_name (sgs_cons sg_name sgs_nil)))) sim_var)
    (ss_seq (ss_for (si_list (sim_fld T.l_Region T.K_Region T.N_Region__sides simB_var)) (sg_tup (sgs_cons sg_name (sgs_cons sg_name (sgs_cons sg_name sgs_nil)))) (ss_if (st_test (sim_op os_gt (simB_of (sim_op os_add (simB_of (sim_op os_mulB simB_var simB_var)) (simB_of (sim_op os_mulB simB_var simB_var)))) (simB_of (sim_op os_mulB simB_var simB_var)))) (ss_ret (sim_tup (sa_cons sim_var (sa_cons sim_var (sa_cons sim_var sa_nil))))) ss_next))
    (ss_ret sim_non)))) h.len (by decide) h⟩
def N__in_lowest_terms : List Str := ["weights", "divisor", "_", "weight", "index"]
theorem sc__in_lowest_terms : FnScope N__in_lowest_terms ["weights"] (defScope s__in_lowest_terms) := ⟨rfl, rfl, rfl, by decide +kernel, rfl, by decide +kernel, by decide +kernel⟩
def xb__in_lowest_terms_1 (D : Ds) : Out := (xsAsg 1 (xCB dGcd (xCons (xVarB 1) (xCons (xVarB 3) xNil)))) D
def xe__in_lowest_terms_1 (D : Ds) : R Dt := (xTup (xCons (xVar 4) (xCons (x2 dFdivB (xVarB 3) (xVarB 1)) xNil))) D
def xs__in_lowest_terms : XS := xsSeq (xsAsg 1 (xC (.int 0)))
    (xsSeq (xsFor (xItems (xVar 0)) (xgTup 2 (xgCons (xgName 2) (xgCons (xgName 3) xgNil))) xb__in_lowest_terms_1)
    (xsRet (xL (xLc (xItems (xVar 0)) (xgTup 2 (xgCons (xgName 4) (xgCons (xgName 3) xgNil))) (xTest (x2 dGt (xVarB 3) (xC (.int 0)))) xe__in_lowest_terms_1 [4, 3]))))
def m__in_lowest_terms : List Dt → R Dt := funD 1 5 xs__in_lowest_terms
theorem ok__in_lowest_terms (T : Txt P K mg cl A) : FnOk P w K mg base (L2.CX P w) 1 A._in_lowest_terms A._in_lowest_terms_d ["weights"] (PureSp K cl m__in_lowest_terms) := by
  refine T.F__in_lowest_terms.okX sc__in_lowest_terms (fun vs H Q E h => h.len) (fun cdv A outer s H vs Q E hr h => ?_)
  have hu := hu_of hr
  exact ⟨_, pss_cons (ps_set (i := 1) sc__in_lowest_terms.nd rfl (Or.inr rfl) pe_int)
    (pss_cons (ps_for (passes_of rfl) rfl (pi_list (pv 0)) (pg_tup rfl (pgs_cons (pg_name (i := 2) sc__in_lowest_terms.nd rfl (Or.inl rfl)) (pgs_cons (pg_name (i := 3) sc__in_lowest_terms.nd rfl (Or.inl rfl)) pgs_nil))) (pss_one (ps_set (i := 1) sc__in_lowest_terms.nd rfl (Or.inr rfl) (pe_callBfun cr_gcdA (by rfl) T.m_gcd (pa_cons (pv 1) (pa_cons (pv 3) pa_nil))))))
    (pss_one (ps_ret (pe_lc (own := [("index", 4), ("weight", 3)]) rfl sc__in_lowest_terms.nd (pi_list (pv 0)) (blkOk_by (N := N__in_lowest_terms) (sc := defScope s__in_lowest_terms) (by decide +kernel)) (fun _ _ _ _ _ => pg_tup rfl (pgs_cons (pg_name (i := 4) sc__in_lowest_terms.nd rfl (Or.inl rfl)) (pgs_cons (pg_name (i := 3) sc__in_lowest_terms.nd rfl (Or.inl rfl)) pgs_nil))) (fun _ _ _ _ _ => pts_one (pt_cmpR op_gt (pv 3) pe_int (nomark _))) (fun _ _ _ _ _ => pe_tup (pa_cons (pv 4) (pa_cons (pe_op op_fdivB (pv 3) (pv 1)) pa_nil))))))),
    body_ok (xs := xs__in_lowest_terms) (k := 1) (ss_seq (ss_asg sim_int)
    (ss_seq (ss_for (si_list sim_var) (sg_tup (sgs_cons sg_name (sgs_cons sg_name sgs_nil))) (ss_asg (sim_cb cs_gcd (sba_cons simB_var (sba_cons simB_var sba_nil)))))
    (ss_ret (sim_L (simL_lc (si_list sim_var) (sgw_tup (sgsw_cons (sgw_name (by decide)) (sgsw_cons (sgw_name (by decide)) sgsw_nil))) (st_test (sim_op os_gt simB_var (simB_of sim_int))) (sim_tup (sa_cons sim_var (sa_cons (sim_op os_fdivB simB_var simB_var) sa_nil)))))))) h.len (by decide) h⟩
def N__triangle_weights : List Str := ["corners", "mix", "at", "p", "q", "r"]
theorem sc__triangle_weights : FnScope N__triangle_weights ["corners", "mix"] (defScope s__triangle_weights) := ⟨rfl, rfl, rfl, by decide +kernel, rfl, by decide +kernel, by decide +kernel⟩
def xt__triangle_weights_1 (D : Ds) : R Bool := (xTest (x2 dGt (xCall m__turn (xCons (x2 dIx (xVarB 0) (xC (.int 0))) (xCons (x2 dIx (xVarB 0) (x2 dAdd (xVarB 2) (xC (.int 1)))) (xCons (xVar 1) xNil)))) (xC (.int 0)))) D
def xb__triangle_weights_1 (D : Ds) : Out := (xsAug 2 (fun i j => i + j) (xC (.int 1))) D
def xs__triangle_weights : XS := xsSeq (xsAsg 2 (xC (.int 1)))
    (xsSeq (xWh xt__triangle_weights_1 xb__triangle_weights_1 100)
    (xsSeq (xsPar3 3 4 5 (xCons (x2 dIx (xVarB 0) (xC (.int 0))) (xCons (x2 dIx (xVarB 0) (xVarB 2)) (xCons (x2 dIx (xVarB 0) (x2 dAdd (xVarB 2) (xC (.int 1)))) xNil))))
    (xsRet (xL (xLst (xCons (xTup (xCons (xC (.int 0)) (xCons (x2 dMulB (xCall m__turn (xCons (xVar 1) (xCons (xVar 4) (xCons (xVar 5) xNil)))) (x2 dIx (xVarB 3) (xC (.int 2)))) xNil))) (xCons (xTup (xCons (xVar 2) (xCons (x2 dMulB (xCall m__turn (xCons (xVar 3) (xCons (xVar 1) (xCons (xVar 5) xNil)))) (x2 dIx (xVarB 4) (xC (.int 2)))) xNil))) (xCons (xTup (xCons (x2 dAdd (xVarB 2) (xC (.int 1))) (xCons (x2 dMulB (xCall m__turn (xCons (xVar 3) (xCons (xVar 4) (xCons (xVar 1) xNil)))) (x2 dIx (xVarB 5) (xC (.int 2)))) xNil))) xNil))))))))
def m__triangle_weights : List Dt → R Dt := funD 2 6 xs__triangle_weights
theorem ok__triangle_weights (T : Txt P K mg cl A) : FnOk P w K mg base (L2.CX P w) 2 A._triangle_weights A._triangle_weights_d ["corners", "mix"] (PureSp K cl m__triangle_weights) := by
  refine T.F__triangle_weights.okX sc__triangle_weights (fun vs H Q E h => h.len) (fun cdv A outer s H vs Q E hr h => ?_)
  have hu := hu_of hr
  exact ⟨_, pss_cons (ps_set (i := 2) sc__triangle_weights.nd rfl (Or.inl rfl) pe_int)
    (pss_cons (ps_while (passes_of rfl) (pt_cmpR op_gt (pe_callSD (ok__turn T) (hr.mono (by decide)) (by rfl) T.g__turn T.F__turn.kp T.b__turn .nil (passAt (takes_of rfl rfl rfl rfl)) (pa_cons (pe_ix ix_seq (pv 0) pe_int (fun _ _ => rfl)) (pa_cons (pe_ix ix_seq (pv 0) (pe_op op_addA (pv 2) pe_int) (fun _ _ => rfl)) (pa_cons (pv 1) pa_nil)))) pe_int (nomark _)) (pss_one (ps_aug (i := 2) sc__triangle_weights.nd rfl (.inl rfl) pe_int ip_add)))
    (pss_cons (ps_par3 (i := 3) (j := 4) (l := 5) rfl sc__triangle_weights.nd rfl rfl rfl (by decide) (by decide) (by decide) rfl rfl rfl (pa_cons (pe_ix ix_seq (pv 0) pe_int (fun _ _ => rfl)) (pa_cons (pe_ix ix_seq (pv 0) (pv 2) (fun _ _ => rfl)) (pa_cons (pe_ix ix_seq (pv 0) (pe_op op_addA (pv 2) pe_int) (fun _ _ => rfl)) pa_nil))) (by rfl))
    (pss_one (ps_ret (pe_lst (pa_cons (pe_tup (pa_cons pe_int (pa_cons (pe_op op_mulB (pe_callSD (ok__turn T) (hr.mono (by decide)) (by rfl) T.g__turn T.F__turn.kp T.b__turn .nil (passAt (takes_of rfl rfl rfl rfl)) (pa_cons (pv 1) (pa_cons (pv 4) (pa_cons (pv 5) pa_nil)))) (pe_ix ix_seq (pv 3) pe_int (fun _ _ => rfl))) pa_nil))) (pa_cons (pe_tup (pa_cons (pv 2) (pa_cons (pe_op op_mulB (pe_callSD (ok__turn T) (hr.mono (by decide)) (by rfl) T.g__turn T.F__turn.kp T.b__turn .nil (passAt (takes_of rfl rfl rfl rfl)) (pa_cons (pv 3) (pa_cons (pv 1) (pa_cons (pv 5) pa_nil)))) (pe_ix ix_seq (pv 4) pe_int (fun _ _ => rfl))) pa_nil))) (pa_cons (pe_tup (pa_cons (pe_op op_addA (pv 2) pe_int) (pa_cons (pe_op op_mulB (pe_callSD (ok__turn T) (hr.mono (by decide)) (by rfl) T.g__turn T.F__turn.kp T.b__turn .nil (passAt (takes_of rfl rfl rfl rfl)) (pa_cons (pv 3) (pa_cons (pv 4) (pa_cons (pv 1) pa_nil)))) (pe_ix ix_seq (pv 5) pe_int (fun _ _ => rfl))) pa_nil))) pa_nil)))))))),
    body_ok (xs := xs__triangle_weights) (k := 2) (ss_seq (ss_asg sim_int)
    (ss_seq (ss_while 100 (st_test (sim_op os_gt (simB_of (simS_call (sa_cons (sim_op os_ix simB_var (simB_of sim_int)) (sa_cons (sim_op os_ix simB_var (simB_of (sim_op os_add simB_var (simB_of sim_int)))) (sa_cons sim_var sa_nil))))) (simB_of sim_int))) (ss_aug (g := fun i j => i + j) sim_int))
    (ss_seq (ss_par3 (sa_cons (sim_op os_ix simB_var (simB_of sim_int)) (sa_cons (sim_op os_ix simB_var simB_var) (sa_cons (sim_op os_ix simB_var (simB_of (sim_op os_add simB_var (simB_of sim_int)))) sa_nil))))
    (ss_ret (sim_L (simL_lst (sa_cons (sim_tup (sa_cons sim_int (sa_cons (sim_op os_mulB (simB_of (simS_call (sa_cons sim_var (sa_cons sim_var (sa_cons sim_var sa_nil))))) (simB_of (sim_op os_ix simB_var (simB_of sim_int)))) sa_nil))) (sa_cons (sim_tup (sa_cons sim_var (sa_cons (sim_op os_mulB (simB_of (simS_call (sa_cons sim_var (sa_cons sim_var (sa_cons sim_var sa_nil))))) (simB_of (sim_op os_ix simB_var (simB_of sim_int)))) sa_nil))) (sa_cons (sim_tup (sa_cons (sim_op os_add simB_var (simB_of sim_int)) (sa_cons (sim_op os_mulB (simB_of (simS_call (sa_cons sim_var (sa_cons sim_var (sa_cons sim_var sa_nil))))) (simB_of (sim_op os_ix simB_var (simB_of sim_int)))) sa_nil))) sa_nil))))))))) h.len (by decide) h⟩
def N__segment_weights : List Str := ["corners", "mix", "p", "q", "axis"]
theorem sc__segment_weights : FnScope N__segment_weights ["corners", "mix"] (defScope s__segment_weights) := ⟨rfl, rfl, rfl, by decide +kernel, rfl, by decide +kernel, by decide +kernel⟩
def xs__segment_weights : XS := xsSeq (xsAsgG (xgLst 2 (xgCons (xgName 2) (xgCons (xgName 3) xgNil))) (xVar 0))
    (xsSeq (xsAsg 4 (xIf (xTest (x2 dNe (xCall m__gap (xCons (xVar 2) (xCons (xVar 3) (xCons (xC (.int 0)) xNil)))) (xC (.int 0)))) (xC (.int 0)) (xC (.int 1))))
    (xsRet (xL (xLst (xCons (xTup (xCons (xC (.int 0)) (xCons (x2 dMulB (xCall m__gap (xCons (xVar 1) (xCons (xVar 3) (xCons (xVar 4) xNil)))) (x2 dIx (xVarB 2) (xC (.int 2)))) xNil))) (xCons (xTup (xCons (xC (.int 1)) (xCons (x2 dMulB (xCall m__gap (xCons (xVar 2) (xCons (xVar 1) (xCons (xVar 4) xNil)))) (x2 dIx (xVarB 3) (xC (.int 2)))) xNil))) xNil))))))
def m__segment_weights : List Dt → R Dt := funD 2 5 xs__segment_weights
theorem ok__segment_weights (T : Txt P K mg cl A) : FnOk P w K mg base (L2.CX P w) 2 A._segment_weights A._segment_weights_d ["corners", "mix"] (PureSp K cl m__segment_weights) := by
  refine T.F__segment_weights.okX sc__segment_weights (fun vs H Q E h => h.len) (fun cdv A outer s H vs Q E hr h => ?_)
  have hu := hu_of hr
  exact ⟨_, pss_cons (ps_asg (pv 0) (pg_lst rfl (pgs_cons (pg_name (i := 2) sc__segment_weights.nd rfl (Or.inl rfl)) (pgs_cons (pg_name (i := 3) sc__segment_weights.nd rfl (Or.inl rfl)) pgs_nil))))
    (pss_cons (ps_set (i := 4) sc__segment_weights.nd rfl (Or.inl rfl) (pe_ifExp (pt_cmpR (op_neP hr.units) (pe_callSD (ok__gap T) (hr.mono (by decide)) (by rfl) T.g__gap T.F__gap.kp T.b__gap .nil (passAt (takes_of rfl rfl rfl rfl)) (pa_cons (pv 2) (pa_cons (pv 3) (pa_cons pe_int pa_nil)))) pe_int (nomark _)) pe_int pe_int))
    (pss_one (ps_ret (pe_lst (pa_cons (pe_tup (pa_cons pe_int (pa_cons (pe_op op_mulB (pe_callSD (ok__gap T) (hr.mono (by decide)) (by rfl) T.g__gap T.F__gap.kp T.b__gap .nil (passAt (takes_of rfl rfl rfl rfl)) (pa_cons (pv 1) (pa_cons (pv 3) (pa_cons (pv 4) pa_nil)))) (pe_ix ix_seq (pv 2) pe_int (fun _ _ => rfl))) pa_nil))) (pa_cons (pe_tup (pa_cons pe_int (pa_cons (pe_op op_mulB (pe_callSD (ok__gap T) (hr.mono (by decide)) (by rfl) T.g__gap T.F__gap.kp T.b__gap .nil (passAt (takes_of rfl rfl rfl rfl)) (pa_cons (pv 2) (pa_cons (pv 1) (pa_cons (pv 4) pa_nil)))) (pe_ix ix_seq (pv 3) pe_int (fun _ _ => rfl))) pa_nil))) pa_nil)))))),
    body_ok (xs := xs__segment_weights) (k := 2) (ss_seq (ss_asgG (sg_lst (sgs_cons sg_name (sgs_cons sg_name sgs_nil))) sim_var)
    (ss_seq (ss_asg (sim_if (st_test (sim_op os_ne (simB_of (simS_call (sa_cons sim_var (sa_cons sim_var (sa_cons sim_int sa_nil))))) (simB_of sim_int))) sim_int sim_int))
    (ss_ret (sim_L (simL_lst (sa_cons (sim_tup (sa_cons sim_int (sa_cons (sim_op os_mulB (simB_of (simS_call (sa_cons sim_var (sa_cons sim_var (sa_cons sim_var sa_nil))))) (simB_of (sim_op os_ix simB_var (simB_of sim_int)))) sa_nil))) (sa_cons (sim_tup (sa_cons sim_int (sa_cons (sim_op os_mulB (simB_of (simS_call (sa_cons sim_var (sa_cons sim_var (sa_cons sim_var sa_nil))))) (simB_of (sim_op os_ix simB_var (simB_of sim_int)))) sa_nil))) sa_nil))))))) h.len (by decide) h⟩
def N__corner_weights : List Str := ["corners", "mix"]
theorem sc__corner_weights : FnScope N__corner_weights ["corners", "mix"] (defScope s__corner_weights) := ⟨rfl, rfl, rfl, by decide +kernel, rfl, by decide +kernel, by decide +kernel⟩
def xs__corner_weights : XS := xsSeq (xsIf (xTest (x2 dEq (xCB dLen (xCons (xVarB 0) xNil)) (xC (.int 1)))) (xsRet (xL (xLst (xCons (xTup (xCons (xC (.int 0)) (xCons (xC (.int 1)) xNil))) xNil)))) xsNext)
    (xsSeq (xsIf (xTest (x2 dEq (xCB dLen (xCons (xVarB 0) xNil)) (xC (.int 2)))) (xsRet (xCall m__segment_weights (xCons (xVar 0) (xCons (xVar 1) xNil)))) xsNext)
    (xsRet (xCall m__triangle_weights (xCons (xVar 0) (xCons (xVar 1) xNil)))))
def m__corner_weights : List Dt → R Dt := funD 2 2 xs__corner_weights
theorem ok__corner_weights (T : Txt P K mg cl A) : FnOk P w K mg base (L2.CX P w) 3 A._corner_weights A._corner_weights_d ["corners", "mix"] (PureSp K cl m__corner_weights) := by
  refine T.F__corner_weights.okX sc__corner_weights (fun vs H Q E h => h.len) (fun cdv A outer s H vs Q E hr h => ?_)
  have hu := hu_of hr
  exact ⟨_, pss_cons (ps_if (pt_cmpR (op_eqP hr.units) (pe_callB call_lenA (by rfl) T.z_len (by decide +kernel) (pa_cons (pv 0) pa_nil)) pe_int (nomark _)) (pss_one (ps_ret (pe_lst (pa_cons (pe_tup (pa_cons pe_int (pa_cons pe_int pa_nil))) pa_nil)))) pss_nil)
    (pss_cons (ps_if (pt_cmpR (op_eqP hr.units) (pe_callB call_lenA (by rfl) T.z_len (by decide +kernel) (pa_cons (pv 0) pa_nil)) pe_int (nomark _)) (pss_one (ps_ret (pe_callSD (ok__segment_weights T) (hr.mono (by decide)) (by rfl) T.g__segment_weights T.F__segment_weights.kp T.b__segment_weights .nil (passAt (takes_of rfl rfl rfl rfl)) (pa_cons (pv 0) (pa_cons (pv 1) pa_nil))))) pss_nil)
    (pss_one (ps_ret (pe_callSD (ok__triangle_weights T) (hr.mono (by decide)) (by rfl) T.g__triangle_weights T.F__triangle_weights.kp T.b__triangle_weights .nil (passAt (takes_of rfl rfl rfl rfl)) (pa_cons (pv 0) (pa_cons (pv 1) pa_nil)))))),
    body_ok (xs := xs__corner_weights) (k := 2) (ss_seq (ss_if (st_test (sim_op os_eq (simB_of (sim_cb cs_len (sba_cons simB_var sba_nil))) (simB_of sim_int))) (ss_ret (sim_L (simL_lst (sa_cons (sim_tup (sa_cons sim_int (sa_cons sim_int sa_nil))) sa_nil)))) ss_next)
    (ss_seq (ss_if (st_test (sim_op os_eq (simB_of (sim_cb cs_len (sba_cons simB_var sba_nil))) (simB_of sim_int))) (ss_ret (simS_call (sa_cons sim_var (sa_cons sim_var sa_nil)))) ss_next)
    (ss_ret (simS_call (sa_cons sim_var (sa_cons sim_var sa_nil)))))) h.len (by decide) h⟩
def N_Region_weights : List Str := ["self", "mix", "side"]
theorem sc_Region_weights : FnScope N_Region_weights ["self", "mix"] (defScope s_Region_weights) := ⟨rfl, rfl, rfl, by decide +kernel, rfl, by decide +kernel, by decide +kernel⟩
def xs_Region_weights : XS := xsSeq (xsAsg 2 (xMeth "Region" "bar" m_Region_bar (xVar 0) (xCons (xVar 1) xNil)))
    (xsSeq (xsIf (xTest (x2 dNotN (xVarB 2) (xC .non))) (xsRaiseF "Barred" "side" okm_Barred (xVar 2)) xsNext)
    (xsRet (xCall m__in_lowest_terms (xCons (xCall m__corner_weights (xCons (x1 (dFld "Region" "_corners") (xVarB 0)) (xCons (xVar 1) xNil))) xNil))))
def m_Region_weights : List Dt → R Dt := funD 2 3 xs_Region_weights
theorem ok_Region_weights (T : Txt P K mg cl A) : FnOk P w K mg base (L2.CX P w) 5 A.Region_weights A.Region_weights_d ["self", "mix"] (PureSp K cl m_Region_weights) := by
  refine T.F_Region_weights.okX sc_Region_weights (fun vs H Q E h => h.len) (fun cdv A outer s H vs Q E hr h => ?_)
  have hu := hu_of hr
  exact ⟨_, pss_cons (ps_set (i := 2) sc_Region_weights.nd rfl (Or.inl rfl) (pe_meth (pv 0) T.K_Region T.Me_Region_bar (ok_Region_bar T) (hr.mono (by decide)) T.b_Region_bar .nil (passes_call (takes_of rfl rfl rfl rfl) (fun _ _ _ _ h => h)) (pa_cons (pv 1) pa_nil)))
    (pss_cons (ps_if (pt_cmpR op_notNA (pv 2) pe_non (nomark _)) (pss_one (ps_raise rfl (takes_of rfl rfl rfl rfl) (pmk_oex T.oe_Barred T.in_Barred T.ti_Barred (fx_Barred T) (hr.mono (by decide)) T.bx_Barred .nil passL (by rfl) T.g_Barred (pa_cons (pv 2) pa_nil)))) pss_nil)
    (pss_one (ps_ret (pe_callSD (ok__in_lowest_terms T) (hr.mono (by decide)) (by rfl) T.g__in_lowest_terms T.F__in_lowest_terms.kp T.b__in_lowest_terms .nil (passAt (takes_of rfl rfl rfl rfl)) (pa_cons (pe_callSD (ok__corner_weights T) (hr.mono (by decide)) (by rfl) T.g__corner_weights T.F__corner_weights.kp T.b__corner_weights .nil (passAt (takes_of rfl rfl rfl rfl)) (pa_cons (pe_fld (pv 0) rfl) (pa_cons (pv 1) pa_nil))) pa_nil))))),
    body_ok (xs := xs_Region_weights) (k := 2) (ss_seq (ss_asg (sim_meth T.l_Region sim_var (sa_cons sim_var sa_nil)))
    (ss_seq (ss_if (st_test (sim_op os_notN simB_var (simB_of sim_non))) (ss_raiseF T.l_Barred hm_Barred sim_var) ss_next)
    (ss_ret (simS_call (sa_cons (simS_call (sa_cons (sim_fld T.l_Region T.K_Region T.N_Region__corners simB_var) (sa_cons sim_var sa_nil))) sa_nil))))) h.len (by decide) h⟩
def N_Region___contains__ : List Str := ["self", "x"]
theorem sc_Region___contains__ : FnScope N_Region___contains__ ["self", "x"] (defScope s_Region___contains__) := ⟨rfl, rfl, rfl, by decide +kernel, rfl, by decide +kernel, by decide +kernel⟩
def xs_Region___contains__ : XS := xsRet (x2 dIsN (xMeth "Region" "bar" m_Region_bar (xVar 0) (xCons (xVar 1) xNil)) (xC .non))
def m_Region___contains__ : List Dt → R Dt := funD 2 2 xs_Region___contains__
theorem ok_Region___contains__ (T : Txt P K mg cl A) : FnOk P w K mg base (L2.CX P w) 5 A.Region___contains__ A.Region___contains___d ["self", "x"] (PureSp K cl m_Region___contains__) := by
  refine T.F_Region___contains__.okX sc_Region___contains__ (fun vs H Q E h => h.len) (fun cdv A outer s H vs Q E hr h => ?_)
  have hu := hu_of hr
  exact ⟨_, pss_one (ps_ret (pe_cmpR op_isNA (pe_meth (pv 0) T.K_Region T.Me_Region_bar (ok_Region_bar T) (hr.mono (by decide)) T.b_Region_bar .nil (passes_call (takes_of rfl rfl rfl rfl) (fun _ _ _ _ h => h)) (pa_cons (pv 1) pa_nil)) pe_non (nomark _))),
    body_ok (xs := xs_Region___contains__) (k := 2) (ss_ret (sim_op os_isN (simB_of (sim_meth T.l_Region sim_var (sa_cons sim_var sa_nil))) (simB_of sim_non))) h.len (by decide) h⟩
def N__law_asked : List Str := ["_law_region", "_law_mix", "_law_door", "e"]
theorem sc__law_asked : FnScope N__law_asked ["_law_region", "_law_mix", "_law_door"] (defScope s__law_asked) := ⟨rfl, rfl, rfl, by decide +kernel, rfl, by decide +kernel, by decide +kernel⟩
def xs__law_asked : XS := xsSeq (xsTryAs 3 ["InvalidMix"] ["Barred", "EmptyRegion"] (xsSeq (xsIf (xTest (x2 dEq (xVarB 2) (xC (.int 0)))) (xsRet (xL (xLst (xCons (x2 (dInC "Region" m_Region___contains__) (xVar 1) (xVar 0)) xNil)))) xsNext)
    (xsSeq (xsIf (xTest (x2 dEq (xVarB 2) (xC (.int 1)))) (xsDrop (xMeth "Region" "bar" m_Region_bar (xVar 0) (xCons (xVar 1) xNil))) xsNext)
    (xsIf (xTest (x2 dEq (xVarB 2) (xC (.int 2)))) (xsDrop (xMeth "Region" "weights" m_Region_weights (xVar 0) (xCons (xVar 1) xNil))) xsNext))) (xsSeq (xsIf (xOr (xTest (xIsX 3 [("Barred", true), ("EmptyRegion", false), ("InvalidMix", false)])) (xTest (xIsX 3 [("Barred", false), ("EmptyRegion", true), ("InvalidMix", false)]))) (xsRet (xL (xLst xNil))) xsNext)
    (xsRet (xL (xLst (xCons (xC (.str "mix")) (xCons (xXf 3 "InvalidMix" "mix") xNil)))))))
    (xsRet (xL (xLst (xCons (xC (.str "known")) xNil))))
def m__law_asked : List Dt → R Dt := funD 3 4 xs__law_asked
theorem ok__law_asked (T : Txt P K mg cl A) : FnOk P w K mg base (L2.CX P w) 6 A._law_asked A._law_asked_d ["_law_region", "_law_mix", "_law_door"] (PureSp K cl m__law_asked) := by
  refine T.F__law_asked.okX sc__law_asked (fun vs H Q E h => h.len) (fun cdv A outer s H vs Q E hr h => ?_)
  have hu := hu_of hr
  exact ⟨_, pss_cons (ps_tryAsM (i := 3) rfl rfl sc__law_asked.nd rfl rfl ⟨rfl, by decide, .inl T.g_InvalidMix⟩ (takes_of rfl rfl rfl rfl) (fun W pn xe tk _ => pss_cons (ps_if (pt_cmpR (op_eqP hr.units) (pv 2) pe_int (nomark _)) (pss_one (ps_ret (pe_lst (pa_cons (pe_inE T.ow_Region (ok_Region___contains__ T) (hr.mono (by decide)) T.b_Region___contains__ (passAt tk) (pv 1) (pv 0) (by rfl)) pa_nil)))) pss_nil)
    (pss_cons (ps_if (pt_cmpR (op_eqP hr.units) (pv 2) pe_int (nomark _)) (pss_one (ps_expr (pe_methE (pv 0) T.K_Region T.Me_Region_bar (ok_Region_bar T) (hr.mono (by decide)) T.b_Region_bar .nil (passAt tk) (pa_cons (pv 1) pa_nil)))) pss_nil)
    (pss_one (ps_if (pt_cmpR (op_eqP hr.units) (pv 2) pe_int (nomark _)) (pss_one (ps_expr (pe_methE (pv 0) T.K_Region T.Me_Region_weights (ok_Region_weights T) (hr.mono (by decide)) T.b_Region_weights .nil (passAt tk) (pa_cons (pv 1) pa_nil)))) pss_nil)))) (fun a oe cls d pn hz hf => pss_cons (ps_if (PW.pt (pw_or (pt_val (pe_callB (call_isX hz hf) (by rfl) T.z_isinstance (by decide +kernel) (pa_cons (pv 3) (pa_cons (pe_glob (v := .ref _) (by rfl) T.g_Barred rfl) pa_nil)))) (pw_or1 (pt_val (pe_callB (call_isX hz hf) (by rfl) T.z_isinstance (by decide +kernel) (pa_cons (pv 3) (pa_cons (pe_glob (v := .ref _) (by rfl) T.g_EmptyRegion rfl) pa_nil))))))) (pss_one (ps_ret (pe_lst pa_nil))) pss_nil)
    (pss_one (ps_ret (pe_lst (pa_cons pe_str (pa_cons (pe_xf T.xf_InvalidMix T.N_InvalidMix_mix hz hf (pv 3)) pa_nil)))))))
    (pss_one (ps_ret (pe_lst (pa_cons pe_str pa_nil)))),
    body_ok (xs := xs__law_asked) (k := 3) (ss_seq (ss_tryAs (i := 3) (cs := ["InvalidMix"]) (ns := ["Barred", "EmptyRegion"]) (E1 := fun _ _ _ _ => False) (catch_one T.l_InvalidMix T.cx_InvalidMix_InvalidMix catch_nil) (catch_one T.l_Barred T.cx_Barred_InvalidMix (catch_one T.l_EmptyRegion T.cx_EmptyRegion_InvalidMix catch_nil)) (fun W => ss_seq (ss_if (st_test (sim_op os_eq simB_var (simB_of sim_int))) (ss_ret (sim_L (simL_lst (sa_cons (sim_inE T.l_Region sim_var sim_var) sa_nil)))) ss_next)
    (ss_seq (ss_if (st_test (sim_op os_eq simB_var (simB_of sim_int))) (ss_drop (sim_methE T.l_Region sim_var (sa_cons sim_var sa_nil))) ss_next)
    (ss_if (st_test (sim_op os_eq simB_var (simB_of sim_int))) (ss_drop (sim_methE T.l_Region sim_var (sa_cons sim_var sa_nil))) ss_next))) (fun a C d => ss_seq (ss_if (st_or (st_B (sim_isX (.own _) (tab_one T.l_Barred T.xe_Barred T.ki_Barred_Barred (tab_one T.l_EmptyRegion T.xe_EmptyRegion T.ki_EmptyRegion_Barred (tab_one T.l_InvalidMix T.xe_InvalidMix T.ki_InvalidMix_Barred tab_nil))))) (st_B (sim_isX (.own _) (tab_one T.l_Barred T.xe_Barred T.ki_Barred_EmptyRegion (tab_one T.l_EmptyRegion T.xe_EmptyRegion T.ki_EmptyRegion_EmptyRegion (tab_one T.l_InvalidMix T.xe_InvalidMix T.ki_InvalidMix_EmptyRegion tab_nil)))))) (ss_ret (sim_L (simL_lst sa_nil))) ss_next)
    (ss_ret (sim_L (simL_lst (sa_cons sim_str (sa_cons (sim_xf T.l_InvalidMix) sa_nil)))))))
    (ss_ret (sim_L (simL_lst (sa_cons sim_str sa_nil))))) h.len (by decide) h⟩
def N_law : List Str := ["_law_script", "_law_points_here", "_law_cell", "_law_spoilt", "_law_at", "_law_region", "_law_door"]
theorem sc_law : FnScope N_law ["_law_script"] (defScope s_law) := ⟨rfl, rfl, rfl, by decide +kernel, rfl, by decide +kernel, by decide +kernel⟩
def xb_law_1 (D : Ds) : Out := (xsSeq (xsIf (xTest (x2 dNe (xCall m__law_asked (xCons (xVar 5) (xCons (x2 dIx (xVarB 3) (xVarB 4)) (xCons (xVar 6) xNil)))) (xL (xLst (xCons (xC (.str "mix")) (xCons (x2 dIx (xVarB 3) (xVarB 4)) xNil)))))) (xsRet (xC (.bl false))) xsNext)
    (xsSeq (xsIf (xTest (x2 dNe (xCall m__law_asked (xCons (xVar 5) (xCons (xTup (xCons (x2 dPow (xC (.int 10)) (xC (.int 20))) (xCons (xC (.int 5)) (xCons (xC (.int 0)) xNil)))) (xCons (xVar 6) xNil)))) (xL (xLst (xCons (xC (.str "mix")) (xCons (xTup (xCons (x2 dPow (xC (.int 10)) (xC (.int 20))) (xCons (xC (.int 5)) (xCons (xC (.int 0)) xNil)))) xNil)))))) (xsRet (xC (.bl false))) xsNext)
    (xsIf (xTest (x2 dNe (xCall m__law_asked (xCons (xVar 5) (xCons (x2 dIx (xVarB 1) (xVarB 4)) (xCons (xVar 6) xNil)))) (x2 dIx (xL (xLst (xCons (xL (xLst (xCons (xC (.bl true)) xNil))) (xCons (xL (xLst (xCons (xC (.str "known")) xNil))) (xCons (xL (xLst (xCons (xC (.str "known")) xNil))) xNil))))) (xVarB 6)))) (xsRet (xC (.bl false))) xsNext))) D
def xs_law : XS := xsSeq (xsAsg 1 (xCall m__law_points (xCons (xVar 0) (xCons (xC (.int 1)) xNil))))
    (xsSeq (xsAsg 2 (xCall m__law_pick (xCons (xVar 0) (xCons (xC (.int 0)) xNil))))
    (xsSeq (xsAsgL 3 (xCBL dList (xCons (xVarB 1) xNil)))
    (xsSeq (xsAsg 4 (xCall m__law_draw (xCons (xVar 2) (xCons (xC (.int 10)) (xCons (xCB dLen (xCons (xVarB 1) xNil)) xNil)))))
    (xsSeq (xsSetL 3 (xVar 4) (xTup (xCons (x2 dIx (x2 dIx (xVarB 1) (xVarB 4)) (xC (.int 0))) (xCons (x2 dIx (x2 dIx (xVarB 1) (xVarB 4)) (xC (.int 1))) (xCons (x2 dSub (xC (.int 0)) (x2 dMulB (x2 dIx (x2 dIx (xVarB 1) (xVarB 4)) (xC (.int 2))) (xCall m__law_draw (xCons (xVar 2) (xCons (xC (.int 11)) (xCons (xC (.int 2)) xNil)))))) xNil)))))
    (xsSeq (xsIf (xTest (x2 dEq (xCall m__law_draw (xCons (xVar 2) (xCons (xC (.int 12)) (xCons (xC (.int 2)) xNil)))) (xC (.int 0)))) (xsSeq (xsAsg 4 (xCall m__law_draw (xCons (xVar 2) (xCons (xC (.int 13)) (xCons (x2 dAdd (xVarB 4) (xC (.int 1))) xNil)))))
    (xsSetL 3 (xVar 4) (xTup (xCons (x2 dIx (x2 dIx (xVarB 1) (xVarB 4)) (xC (.int 0))) (xCons (x2 dIx (x2 dIx (xVarB 1) (xVarB 4)) (xC (.int 1))) (xCons (x2 dSub (x1 dNeg (xC (.int 1))) (xCall m__law_draw (xCons (xVar 2) (xCons (xC (.int 14)) (xCons (xC (.int 9)) xNil))))) xNil)))))) xsNext)
    (xsSeq (xsIf (xOr (xTest (x2 dNe (xCall m__law_refusal (xCons (xL (xCBL dList (xCons (xVarB 1) xNil))) xNil)) (xL (xLst (xCons (xC (.str "made")) xNil))))) (xTest (x2 dNe (xCall m__law_refusal (xCons (xL (xLst xNil)) xNil)) (xL (xLst (xCons (xC (.str "empty")) xNil)))))) (xsRet (xC (.bl false))) xsNext)
    (xsSeq (xsFrz 3 (xsIf (xOr (xTest (x2 dNe (xCall m__law_refusal (xCons (xVar 3) xNil)) (xL (xLst (xCons (xC (.str "mix")) (xCons (x2 dIx (xVarB 3) (xVarB 4)) xNil)))))) (xTest (x2 dNe (xCall m__law_refusal (xCons (xL (xLst (xCons (xTup (xCons (xC (.int 0)) (xCons (xC (.int 0)) (xCons (xC (.int 0)) xNil)))) xNil))) xNil)) (xL (xLst (xCons (xC (.str "mix")) (xCons (xTup (xCons (xC (.int 0)) (xCons (xC (.int 0)) (xCons (xC (.int 0)) xNil)))) xNil))))))) (xsRet (xC (.bl false))) xsNext))
    (xsSeq (xsAsg 5 (xMake "Region" 1 0 m_Region___init__ gD_0 (xCons (xL (xCBL dList (xCons (xVarB 1) xNil))) xNil) xNil))
    (xsSeq (xsFor (xRng1 (xCons (xC (.int 3)) xNil)) (xgName 6) xb_law_1)
    (xsSeq (xsIf (xTest (x2 dNe (xCall m__law_refusal (xCons (xL (xLst (xCons (xTup (xCons (x2 dIx (x2 dIx (xVarB 1) (xVarB 4)) (xC (.int 0))) (xCons (x2 dIx (x2 dIx (xVarB 1) (xVarB 4)) (xC (.int 1))) (xCons (xC (.int 1)) xNil)))) xNil))) xNil)) (xL (xLst (xCons (xC (.str "made")) xNil))))) (xsRet (xC (.bl false))) xsNext)
    (xsRet (x2 dEq (xCall m__law_refusal (xCons (xL (xCBL dList (xCons (xVarB 1) xNil))) xNil)) (xL (xLst (xCons (xC (.str "made")) xNil)))))))))))))))
def m_law : List Dt → R Dt := funD 1 7 xs_law
theorem ok_law (T : Txt P K mg cl A) : FnOk P w K mg base (L2.CX P w) 9 A.law A.law_d ["_law_script"] (PureSp K cl m_law) := by
  refine T.F_law.okX sc_law (fun vs H Q E h => h.len) (fun cdv A outer s H vs Q E hr h => ?_)
  have hu := hu_of hr
  exact ⟨_, pss_cons (ps_set (i := 1) sc_law.nd rfl (Or.inl rfl) (pe_callSD (ok__law_points T) (hr.mono (by decide)) (by rfl) T.g__law_points T.F__law_points.kp T.b__law_points .nil (passAt (takes_of rfl rfl rfl rfl)) (pa_cons (pv 0) (pa_cons pe_int pa_nil))))
    (pss_cons (ps_set (i := 2) sc_law.nd rfl (Or.inl rfl) (pe_callSD (ok__law_pick T) (hr.mono (by decide)) (by rfl) T.g__law_pick T.F__law_pick.kp T.b__law_pick .nil (passAt (takes_of rfl rfl rfl rfl)) (pa_cons (pv 0) (pa_cons pe_int pa_nil))))
    (pss_cons (ps_set (i := 3) sc_law.nd rfl (Or.inl rfl) (pe_callTy call_listA (by rfl) T.z_list (by decide +kernel) (pa_cons (pv 1) pa_nil)))
    (pss_cons (ps_set (i := 4) sc_law.nd rfl (Or.inl rfl) (pe_callSD (ok__law_draw T) (hr.mono (by decide)) (by rfl) T.g__law_draw T.F__law_draw.kp T.b__law_draw .nil (passAt (takes_of rfl rfl rfl rfl)) (pa_cons (pv 2) (pa_cons pe_int (pa_cons (pe_callB call_lenA (by rfl) T.z_len (by decide +kernel) (pa_cons (pv 1) pa_nil)) pa_nil)))))
    (pss_cons (ps_asg (pe_tup (pa_cons (pe_ix ix_seq (pe_ix ix_seq (pv 1) (pv 4) (fun _ _ => rfl)) pe_int (fun _ _ => rfl)) (pa_cons (pe_ix ix_seq (pe_ix ix_seq (pv 1) (pv 4) (fun _ _ => rfl)) pe_int (fun _ _ => rfl)) (pa_cons (pe_op op_sub pe_int (pe_op op_mulB (pe_ix ix_seq (pe_ix ix_seq (pv 1) (pv 4) (fun _ _ => rfl)) pe_int (fun _ _ => rfl)) (pe_callSD (ok__law_draw T) (hr.mono (by decide)) (by rfl) T.g__law_draw T.F__law_draw.kp T.b__law_draw .nil (passAt (takes_of rfl rfl rfl rfl)) (pa_cons (pv 2) (pa_cons pe_int (pa_cons pe_int pa_nil)))))) pa_nil)))) (pg_sub (pv 3) (pv 4) set_list))
    (pss_cons (ps_if (pt_cmpR (op_eqP hr.units) (pe_callSD (ok__law_draw T) (hr.mono (by decide)) (by rfl) T.g__law_draw T.F__law_draw.kp T.b__law_draw .nil (passAt (takes_of rfl rfl rfl rfl)) (pa_cons (pv 2) (pa_cons pe_int (pa_cons pe_int pa_nil)))) pe_int (nomark _)) (pss_cons (ps_set (i := 4) sc_law.nd rfl (Or.inl rfl) (pe_callSD (ok__law_draw T) (hr.mono (by decide)) (by rfl) T.g__law_draw T.F__law_draw.kp T.b__law_draw .nil (passAt (takes_of rfl rfl rfl rfl)) (pa_cons (pv 2) (pa_cons pe_int (pa_cons (pe_op op_addA (pv 4) pe_int) pa_nil)))))
    (pss_one (ps_asg (pe_tup (pa_cons (pe_ix ix_seq (pe_ix ix_seq (pv 1) (pv 4) (fun _ _ => rfl)) pe_int (fun _ _ => rfl)) (pa_cons (pe_ix ix_seq (pe_ix ix_seq (pv 1) (pv 4) (fun _ _ => rfl)) pe_int (fun _ _ => rfl)) (pa_cons (pe_op op_sub (pe_un un_neg pe_int) (pe_callSD (ok__law_draw T) (hr.mono (by decide)) (by rfl) T.g__law_draw T.F__law_draw.kp T.b__law_draw .nil (passAt (takes_of rfl rfl rfl rfl)) (pa_cons (pv 2) (pa_cons pe_int (pa_cons pe_int pa_nil))))) pa_nil)))) (pg_sub (pv 3) (pv 4) set_list)))) pss_nil)
    (pss_cons (ps_if (PW.pt (pw_or (pt_cmpR (op_neP hr.units) (pe_callSD (ok__law_refusal T) (hr.mono (by decide)) (by rfl) T.g__law_refusal T.F__law_refusal.kp T.b__law_refusal .nil (passAt (takes_of rfl rfl rfl rfl)) (pa_cons (pe_callTy call_listA (by rfl) T.z_list (by decide +kernel) (pa_cons (pv 1) pa_nil)) pa_nil)) (pe_lst (pa_cons pe_str pa_nil)) (nomark _)) (pw_or1 (pt_cmpR (op_neP hr.units) (pe_callSD (ok__law_refusal T) (hr.mono (by decide)) (by rfl) T.g__law_refusal T.F__law_refusal.kp T.b__law_refusal .nil (passAt (takes_of rfl rfl rfl rfl)) (pa_cons (pe_lst pa_nil) pa_nil)) (pe_lst (pa_cons pe_str pa_nil)) (nomark _))))) (pss_one (ps_ret pe_bl)) pss_nil)
    (pss_cons (ps_if (PW.pt (pw_or (pt_cmpR (op_neP hr.units) (pe_callSD (ok__law_refusal T) (hr.mono (by decide)) (by rfl) T.g__law_refusal T.F__law_refusal.kp T.b__law_refusal .nil (passAt (takes_of rfl rfl rfl rfl)) (pa_cons (pv 3) pa_nil)) (pe_lst (pa_cons pe_str (pa_cons (pe_ix ix_seq (pv 3) (pv 4) (fun _ _ => rfl)) pa_nil))) (nomark _)) (pw_or1 (pt_cmpR (op_neP hr.units) (pe_callSD (ok__law_refusal T) (hr.mono (by decide)) (by rfl) T.g__law_refusal T.F__law_refusal.kp T.b__law_refusal .nil (passAt (takes_of rfl rfl rfl rfl)) (pa_cons (pe_lst (pa_cons (pe_tup (pa_cons pe_int (pa_cons pe_int (pa_cons pe_int pa_nil)))) pa_nil)) pa_nil)) (pe_lst (pa_cons pe_str (pa_cons (pe_tup (pa_cons pe_int (pa_cons pe_int (pa_cons pe_int pa_nil)))) pa_nil))) (nomark _))))) (pss_one (ps_ret pe_bl)) pss_nil)
    (pss_cons (ps_set (i := 5) sc_law.nd rfl (Or.inl rfl) (Exists.elim T.kb_0 fun _ kb => pe_makeK T.M_Region (ok_Region___init__ T) (hr.mono (by decide)) (by rfl) T.g_Region kb (passes_call (takes_of rfl rfl rfl rfl) (fun _ _ _ _ h => h)) (pa_cons (pe_callTy call_listA (by rfl) T.z_list (by decide +kernel) (pa_cons (pv 1) pa_nil)) pa_nil) pk_nil))
    (pss_cons (ps_for (passes_of rfl) rfl (pi_range1 (by rfl) T.z_range (pa_cons pe_int pa_nil)) (pg_name (i := 6) sc_law.nd rfl (Or.inl rfl)) (pss_cons (ps_if (pt_cmpR (op_neP hr.units) (pe_callSD (ok__law_asked T) (hr.mono (by decide)) (by rfl) T.g__law_asked T.F__law_asked.kp T.b__law_asked .nil (passAt (takes_of rfl rfl rfl rfl)) (pa_cons (pv 5) (pa_cons (pe_ix ix_seq (pv 3) (pv 4) (fun _ _ => rfl)) (pa_cons (pv 6) pa_nil)))) (pe_lst (pa_cons pe_str (pa_cons (pe_ix ix_seq (pv 3) (pv 4) (fun _ _ => rfl)) pa_nil))) (nomark _)) (pss_one (ps_ret pe_bl)) pss_nil)
    (pss_cons (ps_if (pt_cmpR (op_neP hr.units) (pe_callSD (ok__law_asked T) (hr.mono (by decide)) (by rfl) T.g__law_asked T.F__law_asked.kp T.b__law_asked .nil (passAt (takes_of rfl rfl rfl rfl)) (pa_cons (pv 5) (pa_cons (pe_tup (pa_cons (pe_op op_pow pe_int pe_int) (pa_cons pe_int (pa_cons pe_int pa_nil)))) (pa_cons (pv 6) pa_nil)))) (pe_lst (pa_cons pe_str (pa_cons (pe_tup (pa_cons (pe_op op_pow pe_int pe_int) (pa_cons pe_int (pa_cons pe_int pa_nil)))) pa_nil))) (nomark _)) (pss_one (ps_ret pe_bl)) pss_nil)
    (pss_one (ps_if (pt_cmpR (op_neP hr.units) (pe_callSD (ok__law_asked T) (hr.mono (by decide)) (by rfl) T.g__law_asked T.F__law_asked.kp T.b__law_asked .nil (passAt (takes_of rfl rfl rfl rfl)) (pa_cons (pv 5) (pa_cons (pe_ix ix_seq (pv 1) (pv 4) (fun _ _ => rfl)) (pa_cons (pv 6) pa_nil)))) (pe_ix ix_seq (pe_lst (pa_cons (pe_lst (pa_cons pe_bl pa_nil)) (pa_cons (pe_lst (pa_cons pe_str pa_nil)) (pa_cons (pe_lst (pa_cons pe_str pa_nil)) pa_nil)))) (pv 6) (fun _ _ => rfl)) (nomark _)) (pss_one (ps_ret pe_bl)) pss_nil)))))
    (pss_cons (ps_if (pt_cmpR (op_neP hr.units) (pe_callSD (ok__law_refusal T) (hr.mono (by decide)) (by rfl) T.g__law_refusal T.F__law_refusal.kp T.b__law_refusal .nil (passAt (takes_of rfl rfl rfl rfl)) (pa_cons (pe_lst (pa_cons (pe_tup (pa_cons (pe_ix ix_seq (pe_ix ix_seq (pv 1) (pv 4) (fun _ _ => rfl)) pe_int (fun _ _ => rfl)) (pa_cons (pe_ix ix_seq (pe_ix ix_seq (pv 1) (pv 4) (fun _ _ => rfl)) pe_int (fun _ _ => rfl)) (pa_cons pe_int pa_nil)))) pa_nil)) pa_nil)) (pe_lst (pa_cons pe_str pa_nil)) (nomark _)) (pss_one (ps_ret pe_bl)) pss_nil)
    (pss_one (ps_ret (pe_cmpR (op_eqP hr.units) (pe_callSD (ok__law_refusal T) (hr.mono (by decide)) (by rfl) T.g__law_refusal T.F__law_refusal.kp T.b__law_refusal .nil (passAt (takes_of rfl rfl rfl rfl)) (pa_cons (pe_callTy call_listA (by rfl) T.z_list (by decide +kernel) (pa_cons (pv 1) pa_nil)) pa_nil)) (pe_lst (pa_cons pe_str pa_nil)) (nomark _)))))))))))))),
    body_ok (xs := xs_law) (k := 1) (ss_seq (ss_asg (simS_call (sa_cons sim_var (sa_cons sim_int sa_nil))))
    (ss_seq (ss_asg (simS_call (sa_cons sim_var (sa_cons sim_int sa_nil))))
    (ss_seq (ss_asgL (simL_cb cl_list (sba_cons simB_var sba_nil)))
    (ss_seq (ss_asg (simS_call (sa_cons sim_var (sa_cons sim_int (sa_cons (sim_cb cs_len (sba_cons simB_var sba_nil)) sa_nil)))))
    (ss_seq (ss_setL sim_var (sim_tup (sa_cons (sim_op os_ix (simB_of (sim_op os_ix simB_var simB_var)) (simB_of sim_int)) (sa_cons (sim_op os_ix (simB_of (sim_op os_ix simB_var simB_var)) (simB_of sim_int)) (sa_cons (sim_op os_sub (simB_of sim_int) (simB_of (sim_op os_mulB (simB_of (sim_op os_ix (simB_of (sim_op os_ix simB_var simB_var)) (simB_of sim_int))) (simB_of (simS_call (sa_cons sim_var (sa_cons sim_int (sa_cons sim_int sa_nil)))))))) sa_nil)))))
    (ss_seq (ss_if (st_test (sim_op os_eq (simB_of (simS_call (sa_cons sim_var (sa_cons sim_int (sa_cons sim_int sa_nil))))) (simB_of sim_int))) (ss_seq (ss_asg (simS_call (sa_cons sim_var (sa_cons sim_int (sa_cons (sim_op os_add simB_var (simB_of sim_int)) sa_nil)))))
    (ss_setL sim_var (sim_tup (sa_cons (sim_op os_ix (simB_of (sim_op os_ix simB_var simB_var)) (simB_of sim_int)) (sa_cons (sim_op os_ix (simB_of (sim_op os_ix simB_var simB_var)) (simB_of sim_int)) (sa_cons (sim_op os_sub (simB_of (sim_un us_neg (simB_of sim_int))) (simB_of (simS_call (sa_cons sim_var (sa_cons sim_int (sa_cons sim_int sa_nil)))))) sa_nil)))))) ss_next)
    (ss_seq (ss_if (st_or (st_test (sim_op os_ne (simB_of (simS_call (sa_cons (sim_L (simL_cb cl_list (sba_cons simB_var sba_nil))) sa_nil))) (simB_of (sim_L (simL_lst (sa_cons sim_str sa_nil)))))) (st_test (sim_op os_ne (simB_of (simS_call (sa_cons (sim_L (simL_lst sa_nil)) sa_nil))) (simB_of (sim_L (simL_lst (sa_cons sim_str sa_nil))))))) (ss_ret sim_bl) ss_next)
    (ss_seq (ss_frz (i := 3) (ss_if (st_or (st_test (sim_op os_ne (simB_of (simS_call (sa_cons sim_var sa_nil))) (simB_of (sim_L (simL_lst (sa_cons sim_str (sa_cons (sim_op os_ix simB_var simB_var) sa_nil))))))) (st_test (sim_op os_ne (simB_of (simS_call (sa_cons (sim_L (simL_lst (sa_cons (sim_tup (sa_cons sim_int (sa_cons sim_int (sa_cons sim_int sa_nil)))) sa_nil))) sa_nil))) (simB_of (sim_L (simL_lst (sa_cons sim_str (sa_cons (sim_tup (sa_cons sim_int (sa_cons sim_int (sa_cons sim_int sa_nil)))) sa_nil)))))))) (ss_ret sim_bl) ss_next))
    (ss_seq (ss_asg (sim_make T.l_Region ga_0 (sa_cons (sim_L (simL_cb cl_list (sba_cons simB_var sba_nil))) sa_nil) sa_nil))
    (ss_seq (ss_for (si_rng1 (sa_cons sim_int sa_nil)) sg_name (ss_seq (ss_if (st_test (sim_op os_ne (simB_of (simS_call (sa_cons sim_var (sa_cons (sim_op os_ix simB_var simB_var) (sa_cons sim_var sa_nil))))) (simB_of (sim_L (simL_lst (sa_cons sim_str (sa_cons (sim_op os_ix simB_var simB_var) sa_nil))))))) (ss_ret sim_bl) ss_next)
    (ss_seq (ss_if (st_test (sim_op os_ne (simB_of (simS_call (sa_cons sim_var (sa_cons (sim_tup (sa_cons (sim_op os_pow (simB_of sim_int) (simB_of sim_int)) (sa_cons sim_int (sa_cons sim_int sa_nil)))) (sa_cons sim_var sa_nil))))) (simB_of (sim_L (simL_lst (sa_cons sim_str (sa_cons (sim_tup (sa_cons (sim_op os_pow (simB_of sim_int) (simB_of sim_int)) (sa_cons sim_int (sa_cons sim_int sa_nil)))) sa_nil))))))) (ss_ret sim_bl) ss_next)
    (ss_if (st_test (sim_op os_ne (simB_of (simS_call (sa_cons sim_var (sa_cons (sim_op os_ix simB_var simB_var) (sa_cons sim_var sa_nil))))) (simB_of (sim_op os_ix (simB_of (sim_L (simL_lst (sa_cons (sim_L (simL_lst (sa_cons sim_bl sa_nil))) (sa_cons (sim_L (simL_lst (sa_cons sim_str sa_nil))) (sa_cons (sim_L (simL_lst (sa_cons sim_str sa_nil))) sa_nil)))))) simB_var)))) (ss_ret sim_bl) ss_next))))
    (ss_seq (ss_if (st_test (sim_op os_ne (simB_of (simS_call (sa_cons (sim_L (simL_lst (sa_cons (sim_tup (sa_cons (sim_op os_ix (simB_of (sim_op os_ix simB_var simB_var)) (simB_of sim_int)) (sa_cons (sim_op os_ix (simB_of (sim_op os_ix simB_var simB_var)) (simB_of sim_int)) (sa_cons sim_int sa_nil)))) sa_nil))) sa_nil))) (simB_of (sim_L (simL_lst (sa_cons sim_str sa_nil)))))) (ss_ret sim_bl) ss_next)
    (ss_ret (sim_op os_eq (simB_of (simS_call (sa_cons (sim_L (simL_cb cl_list (sba_cons simB_var sba_nil))) sa_nil))) (simB_of (sim_L (simL_lst (sa_cons sim_str sa_nil))))))))))))))))) h.len (by decide) h⟩
end
end Mx
namespace Mx
open PySem PySem.Spec PyProof.Rows L2
def pick (ns : List Int) (k : Int) : Int := ns.getD k.toNat 0
theorem atI_nat' {α : Type} {l : List α} {k : Int} (h0 : 0 ≤ k) (h1 : k < l.length) : atI l k = l[k.toNat]? := by
  unfold atI ixN
  rw [if_pos h0, if_pos h1]
  rfl
theorem pick_eq (ns : List Int) (k : Int) (hk : 0 ≤ k) : m__law_pick [.frl (ns.map Dt.int), .int k] = .ok (.int (pick ns k)) := by
  by_cases h : k < ns.length
  · have e : atI (List.map Dt.int ns) k = some (.int (pick ns k)) := by
      rw [atI_nat' hk (by simpa using h)]
      unfold pick
      have : k.toNat < ns.length := by omega
      simp [List.getElem?_eq_getElem this, this]
    simp [m__law_pick, funD, runD, xs__law_pick, Sl.dat, h, e]
  · have : ¬ k.toNat < ns.length := by omega
    simp [m__law_pick, funD, runD, xs__law_pick, Sl.dat, h, pick, List.getD, List.getElem?_eq_none (by omega : ns.length ≤ k.toNat)]
end Mx
namespace Mx
open PySem PySem.Spec PyProof.Rows L2
@[simp] theorem loop_nil {xg : XG} {xb : XS} {D : Ds} : xLoop xg xb [] D = .nx D := rfl
@[simp] theorem loop_cons {xg : XG} {xb : XS} {D : Ds} {d : Dt} {r : List Dt} : xLoop xg xb (d :: r) D = (xg d D).get fun D1 => match xb D1 with
    | .nx D2 => xLoop xg xb r D2
    | .ct D2 => xLoop xg xb r D2
    | .bk D2 => .nx D2
    | o => o := rfl
@[simp] theorem cmul_r (i j : Int) (h : -(2 ^ 64) < j ∧ j < 2 ^ 64) : CMul i j := .inr h
theorem cdivn (i j : Int) (h : 0 < j ∧ j < 1073741824) : CDivN i j := by unfold CDivN; omega
/-- the draw's second way -/
def mix (c k m : Int) : Int :=
  let one := (c * 48271 + k * 69621 + 12345).fmod 2147483647
  let two := (one * one + k * 48271 + 777).fmod 2147483629
  let three := (two * two + one).fmod 2147483587
  (three.fdiv 8).fmod m
def down : Nat → Int → Int
  | 0, c => c
  | n + 1, c => down n (c.fdiv 1000)
def draw (c k m : Int) : Int := if 10 ^ 18 ≤ c then ((down k.toNat c).fmod 1000).fmod m else mix c k m
theorem draw_lo (c k : Int) {m : Int} (h : 0 < m) : 0 ≤ draw c k m := by
  unfold draw mix
  split
  · exact Int.fmod_nonneg_of_pos _ h
  · exact Int.fmod_nonneg_of_pos _ h
theorem draw_hi (c k : Int) {m : Int} (h : 0 < m) : draw c k m < m := by
  unfold draw mix
  split
  · exact Int.fmod_lt_of_pos _ h
  · exact Int.fmod_lt_of_pos _ h
theorem fmod_bd (a : Int) {b : Int} (h : 0 < b) : 0 ≤ a.fmod b ∧ a.fmod b < b := ⟨Int.fmod_nonneg_of_pos _ h, Int.fmod_lt_of_pos _ h⟩
theorem draw_loop : ∀ (l : List Dt) (c : Int) (s1 s2 s3 s4 s5 s6 : Sl), ∃ t3, xLoop (xgName 3) xb__law_draw_1 l [.sh (.int c), s1, s2, s3, s4, s5, s6] = .nx [.sh (.int (down l.length c)), s1, s2, t3, s4, s5, s6]
  | [], c, s1, s2, s3, s4, s5, s6 => ⟨s3, rfl⟩
  | d :: l, c, s1, s2, s3, s4, s5, s6 => by
    obtain ⟨t3, h⟩ := draw_loop l (c.fdiv 1000) s1 s2 (.sh d) s4 s5 s6
    refine ⟨t3, ?_⟩
    simp [xb__law_draw_1, Sl.dat, cdivn, down, h]
theorem rgD_len (lo : Int) (n : Nat) : (rgD lo n).length = n := by simp [rgD]
theorem draw_eq (c k m : Int) (hk : 0 ≤ k) (hk2 : k < 1000) (hm : 0 < m) : m__law_draw [.int c, .int k, .int m] = .ok (.int (draw c k m)) := by
  have p1 : CPow 10 18 := by unfold CPow; omega
  have hr := dRng1_int (j := k) ⟨by omega, by omega⟩
  have nm : m ≠ 0 := by omega
  by_cases h : 10 ^ 18 ≤ c
  · obtain ⟨t3, hl⟩ := draw_loop (rgD 0 k.toNat) c (.sh (.int k)) (.sh (.int m)) .no .no .no .no
    rw [rgD_len] at hl
    have h' : (1000000000000000000 : Int) ≤ c := by omega
    simp [m__law_draw, funD, runD, xs__law_draw, p1, h', hr, hl, nm, draw, List.replicate]
  · have h' : ¬ (1000000000000000000 : Int) ≤ c := by omega
    have b1 := fmod_bd (c * 48271 + k * 69621 + 12345) (b := 2147483647) (by decide)
    have b2 := fmod_bd (((c * 48271 + k * 69621 + 12345).fmod 2147483647) * ((c * 48271 + k * 69621 + 12345).fmod 2147483647) + k * 48271 + 777) (b := 2147483629) (by decide)
    have c1 := cmul_r ((c * 48271 + k * 69621 + 12345).fmod 2147483647) _ (show -(2 ^ 64) < _ ∧ (c * 48271 + k * 69621 + 12345).fmod 2147483647 < 2 ^ 64 by omega)
    have c2 := fun j => cmul_r j _ (show -(2 ^ 64) < _ ∧ (((c * 48271 + k * 69621 + 12345).fmod 2147483647) * ((c * 48271 + k * 69621 + 12345).fmod 2147483647) + k * 48271 + 777).fmod 2147483629 < 2 ^ 64 by omega)
    simp [m__law_draw, funD, runD, xs__law_draw, p1, h', nm, draw, List.replicate, mix, c1, c2, cdivn]
end Mx
namespace Mx
open PySem PySem.Spec PyProof.Rows L2
/-! ### loops and comprehensions, in general -/
theorem loop_inv {xg : XG} {xb : XS} (I : Nat → Ds → Prop) : ∀ (l : List Dt) (D : Ds), I 0 D → (∀ i d D, l[i]? = some d → I i D → ∃ D1 D2, xg d D = .ok D1 ∧ xb D1 = .nx D2 ∧ I (i + 1) D2) → ∃ D', xLoop xg xb l D = .nx D' ∧ I l.length D'
  | [], D, h0, _ => ⟨D, rfl, h0⟩
  | d :: l, D, h0, hs => by
    obtain ⟨D1, D2, e1, e2, h1⟩ := hs 0 d D rfl h0
    obtain ⟨D', e3, h3⟩ := loop_inv (fun i D => I (i + 1) D) l D2 h1 fun i d D hd hi => hs (i + 1) d D (by simpa using hd) hi
    exact ⟨D', by rw [loop_cons, e1, get_ok, e2]; exact e3, h3⟩
theorem comp_all {xg : XG} {xe : XE} {D0 : Ds} {F : Dt → Dt → Prop} : ∀ (l acc : List Dt), (∀ d ∈ l, ∃ D1 y, xg d D0 = .ok D1 ∧ xe D1 = .ok y ∧ F d y) → acc.length + l.length ≤ 1000000 →
    ∃ es, xComp xg xYes xe D0 l acc = .ok (acc ++ es) ∧ es.length = l.length ∧ ∀ (i : Nat) d y, l[i]? = some d → es[i]? = some y → F d y
  | [], acc, _, _ => ⟨[], by simp [xComp], rfl, fun i d y h => by simp at h⟩
  | d :: l, acc, h, hl => by
    obtain ⟨D1, y, e1, e2, hy⟩ := h d List.mem_cons_self
    simp only [List.length_cons] at hl
    obtain ⟨es, e3, h3, h4⟩ := comp_all l (acc ++ [y]) (fun d hd => h d (List.mem_cons_of_mem _ hd)) (by simp; omega)
    refine ⟨y :: es, ?_, by simp [h3], fun i d' y' hd hy' => ?_⟩
    · unfold xComp
      simp only [e1, xYes, e2]
      rw [if_pos (by omega), e3]
      simp
    · cases i with
      | zero => simp at hd hy'; subst hd hy'; exact hy
      | succ i => exact h4 i d' y' (by simpa using hd) (by simpa using hy')
@[simp] theorem dEq_int (i j : Int) : dEq (.int i) (.int j) = .ok (.bl (i == j)) := by simp [dEq]
@[simp] theorem dNe_int (i j : Int) : dNe (.int i) (.int j) = .ok (.bl (!(i == j))) := by simp [dNe]
/-! ### texts -/
theorem codes_az : (("abcdefghijklmnopqrstuvwxyz" : String) : Str).cps.toList = (List.range 26).map (· + 97) := by decide +kernel
theorem codes_mc : (("mctahzkd" : String) : Str).cps.toList = [109, 99, 116, 97, 104, 122, 107, 100] := by decide +kernel
def AZ (s : Str) : Prop := ∀ c ∈ s.cps.toList, 97 ≤ c ∧ c ≤ 122
def Nm (s : Str) : Prop := 1 ≤ s.length ∧ s.length ≤ 12 ∧ AZ s
theorem len_cps (s : Str) : s.cps.toList.length = s.length := by simp [Str.length]
theorem ix_str {z : Str} {i : Int} (hz : z.length ≤ 1000000) (h0 : 0 ≤ i) (h1 : i < z.length) : ∃ c, z.cps.toList[i.toNat]? = some c ∧ dIx (.str z) (.int i) = .ok (.str ⟨#[c]⟩) := by
  have hl : i.toNat < z.cps.toList.length := by rw [len_cps]; omega
  refine ⟨_, List.getElem?_eq_getElem hl, ?_⟩
  simp only [dIx]
  rw [if_pos hz, atI_nat' h0 (by rw [len_cps]; exact h1), List.getElem?_eq_getElem hl]
  rfl
theorem codes_add (x y : Str) : (x ++ y).cps.toList = x.cps.toList ++ y.cps.toList := by
  show (x.cps ++ y.cps).toList = _
  simp
theorem len_add (x y : Str) : (x ++ y).length = x.length + y.length := by rw [← len_cps, codes_add, List.length_append, len_cps, len_cps]
theorem codes_empty : (("" : String) : Str).cps.toList = [] := by decide +kernel
/-- the join of signs with nothing between -/
theorem join_signs : ∀ (cs : List Nat), (Str.join (("" : String) : Str) (cs.map fun c => (⟨#[c]⟩ : Str))).cps.toList = cs
  | [] => codes_empty
  | [c] => rfl
  | c :: d :: r => by
    have ih := join_signs (d :: r)
    show ((⟨#[c]⟩ : Str) ++ (("" : String) : Str) ++ Str.join (("" : String) : Str) ((d :: r).map fun c => (⟨#[c]⟩ : Str))).cps.toList = c :: d :: r
    rw [codes_add, codes_add, codes_empty, ih]
    rfl
theorem sum_ones : ∀ (cs : List Nat), ((cs.map fun c => (⟨#[c]⟩ : Str)).map (·.length)).sum = cs.length
  | [] => rfl
  | c :: r => by
    have ih := sum_ones r
    simp only [List.map_cons, List.sum_cons, ih, List.length_cons]
    show 1 + r.length = r.length + 1
    omega
theorem join_ok {es : List Dt} {cs : List Nat} (h : es = cs.map fun c => Dt.str ⟨#[c]⟩) (hl : cs.length ≤ 1000) : ∃ w : Str, w.cps.toList = cs ∧ dJoin (.str (("" : String) : Str)) [.lst es] = .ok (.str w) := by
  refine ⟨_, join_signs cs, ?_⟩
  have e : es = (cs.map fun c => (⟨#[c]⟩ : Str)).map Dt.str := by rw [h, List.map_map]; rfl
  rw [e]
  simp only [dJoin, dstrs_map, opt_some, bind_ok]
  rw [if_pos (by rw [sum_ones, List.length_map, show (("" : String) : Str).length = 0 from rfl]; omega), show Txt.join = Str.join from funext fun y => funext fun p => TL.join_eq y p]
end Mx
namespace Geo
abbrev P3 := Int × Int × Int
def gx (p q : P3) : Int := q.1 * p.2.2 - p.1 * q.2.2
def gy (p q : P3) : Int := q.2.1 * p.2.2 - p.2.1 * q.2.2
def tn (p q r : P3) : Int := p.1 * (q.2.1 * r.2.2 - q.2.2 * r.2.1) + p.2.1 * (q.2.2 * r.1 - q.1 * r.2.2) + p.2.2 * (q.1 * r.2.1 - q.2.1 * r.1)
/-- before, by x and then by y -/
def bef (p q : P3) : Bool := if gx p q = 0 then decide (0 < gy p q) else decide (0 < gx p q)
theorem tn_cross (p q r : P3) : p.2.2 * tn p q r = gx p q * gy p r - gy p q * gx p r := by unfold tn gx gy; grind
theorem tn_cross2 (p q r : P3) : q.2.2 * tn p q r = gx p q * gy q r - gy p q * gx q r := by unfold tn gx gy; grind
theorem gx_self (p : P3) : gx p p = 0 := by unfold gx; grind
theorem gy_self (p : P3) : gy p p = 0 := by unfold gy; grind
theorem gx_neg (p q : P3) : gx p q = -gx q p := by unfold gx; grind
theorem gy_neg (p q : P3) : gy p q = -gy q p := by unfold gy; grind
theorem gx_add (p q r : P3) : gx p r * q.2.2 = gx p q * r.2.2 + gx q r * p.2.2 := by unfold gx; grind
theorem gy_add (p q r : P3) : gy p r * q.2.2 = gy p q * r.2.2 + gy q r * p.2.2 := by unfold gy; grind
theorem tn_cyc (p q r : P3) : tn p q r = tn q r p := by unfold tn; grind
theorem tn_swap (p q r : P3) : tn p q r = -tn p r q := by unfold tn; grind
theorem tn_swap2 (p q r : P3) : tn p q r = -tn q p r := by unfold tn; grind
theorem tn_self (p q : P3) : tn p q q = 0 := by unfold tn; grind
theorem tn_self2 (p q : P3) : tn p q p = 0 := by unfold tn; grind
theorem tn_self3 (p q : P3) : tn p p q = 0 := by unfold tn; grind
/-! the order by x, then y -/
theorem bef_iff (p q : P3) : bef p q = true ↔ 0 < gx p q ∨ (gx p q = 0 ∧ 0 < gy p q) := by
  unfold bef
  split
  · simp; omega
  · simp; omega
theorem nbef_iff (p q : P3) : bef p q = false ↔ gx p q < 0 ∨ (gx p q = 0 ∧ gy p q ≤ 0) := by
  unfold bef
  split
  · simp; omega
  · simp; omega
theorem bef_irr (p : P3) : bef p p = false := by rw [nbef_iff, gx_self, gy_self]; omega
theorem bef_asym {p q : P3} (h : bef p q = true) : bef q p = false := by
  rw [bef_iff] at h
  rw [nbef_iff, gx_neg, gy_neg]
  omega
theorem mul_pos_iff {a b : Int} (hb : 0 < b) : 0 < a * b ↔ 0 < a := ⟨fun h => Int.pos_of_mul_pos_left h hb |> fun x => x, fun h => Int.mul_pos h hb⟩
theorem sgn_add {a b c p q r : Int} (hp : 0 < p) (hq : 0 < q) (hr : 0 < r) (e : c * q = a * r + b * p) (ha : 0 ≤ a) (hb : 0 ≤ b) : 0 ≤ c ∧ (0 < a ∨ 0 < b → 0 < c) := by
  have h1 : 0 ≤ a * r := Int.mul_nonneg ha (by omega)
  have h2 : 0 ≤ b * p := Int.mul_nonneg hb (by omega)
  refine ⟨?_, fun h => ?_⟩
  · refine Decidable.byContradiction fun n => ?_
    have : c * q < 0 := Int.mul_neg_of_neg_of_pos (by omega) hq
    omega
  · refine Decidable.byContradiction fun n => ?_
    have : c * q ≤ 0 := Int.mul_nonpos_of_nonpos_of_nonneg (by omega) (by omega)
    rcases h with h | h
    · have := Int.mul_pos h hr; omega
    · have := Int.mul_pos h hp; omega
theorem bef_trans {p q r : P3} (hp : 0 < p.2.2) (hq : 0 < q.2.2) (hr : 0 < r.2.2) (h : bef p q = true) (k : bef q r = true) : bef p r = true := by
  rw [bef_iff] at *
  have x := sgn_add hp hq hr (gx_add p q r)
  have y := sgn_add hp hq hr (gy_add p q r)
  have e := gx_add p q r
  by_cases h0 : gx p q = 0 ∧ gx q r = 0
  · have e0 : gx p r * q.2.2 = 0 := by rw [e, h0.1, h0.2]; simp
    have e1 : gx p r = 0 := by rcases Int.mul_eq_zero.mp e0 with z | z <;> omega
    omega
  · omega
/-- not after: p is before q or as good as q -/
theorem nbef_trans {p q r : P3} (hp : 0 < p.2.2) (hq : 0 < q.2.2) (hr : 0 < r.2.2) (h : bef q p = false) (k : bef r q = false) : bef r p = false := by
  rw [nbef_iff] at *
  have x := sgn_add hr hq hp (gx_add r q p)
  have e := gx_add r q p
  have nx : 0 ≤ -gx r q → 0 ≤ -gx q p → 0 ≤ -gx r p ∧ (0 < -gx r q ∨ 0 < -gx q p → 0 < -gx r p) := sgn_add hr hq hp (by grind)
  have ny : 0 ≤ -gy r q → 0 ≤ -gy q p → 0 ≤ -gy r p ∧ (0 < -gy r q ∨ 0 < -gy q p → 0 < -gy r p) := sgn_add hr hq hp (by have := gy_add r q p; grind)
  by_cases h0 : gx q p = 0 ∧ gx r q = 0
  · have e0 : gx r p * q.2.2 = 0 := by rw [e, h0.1, h0.2]; simp
    have e1 : gx r p = 0 := by rcases Int.mul_eq_zero.mp e0 with z | z <;> omega
    omega
  · omega

/-! a corner: all others lie on one side of a way through it -/
structure Sep (S : List P3) : Prop where
  pos : ∀ p ∈ S, 0 < p.2.2
  sep : ∀ p ∈ S, ∀ q ∈ S, gx p q = 0 → gy p q = 0 → p = q
def HP (S : List P3) (c : P3) : Prop := ∃ ux uy : Int, ∀ q ∈ S, q ≠ c → 0 ≤ ux * gy c q - uy * gx c q ∧ (ux * gy c q - uy * gx c q = 0 → ux * gx c q + uy * gy c q < 0)
theorem frac {s1 s2 s3 r1 r2 r3 : Int} (h1 : 0 ≤ s1) (h2 : 0 ≤ s2) (h3 : 0 ≤ s3) (z1 : s1 = 0 → 0 < r1) (z2 : s2 = 0 → 0 < r2) (z3 : s3 = 0 → 0 < r3) (a : 0 ≤ s1 * r2 - r1 * s2) (b : 0 ≤ s2 * r3 - r2 * s3) :
    0 ≤ s1 * r3 - r1 * s3 ∧ (0 < s1 * r2 - r1 * s2 ∨ 0 < s2 * r3 - r2 * s3 → 0 < s1 * r3 - r1 * s3) := by
  have e : s2 * (s1 * r3 - r1 * s3) = s1 * (s2 * r3 - r2 * s3) + s3 * (s1 * r2 - r1 * s2) := by grind
  have m1 : 0 ≤ s1 * (s2 * r3 - r2 * s3) := Int.mul_nonneg h1 b
  have m2 : 0 ≤ s3 * (s1 * r2 - r1 * s2) := Int.mul_nonneg h3 a
  by_cases k2 : s2 = 0
  · have hr2 := z2 k2
    subst k2
    have : s3 = 0 := by
      refine Decidable.byContradiction fun n => ?_
      have := Int.mul_pos hr2 (show 0 < s3 by omega)
      omega
    subst this
    have hr3 := z3 rfl
    have := Int.mul_nonneg h1 (show 0 ≤ r3 by omega)
    refine ⟨by omega, fun h => ?_⟩
    have : 0 < s1 := by
      refine Decidable.byContradiction fun n => ?_
      have : s1 = 0 := by omega
      subst this
      simp at h
    have := Int.mul_pos this hr3
    omega
  · have k2' : 0 < s2 := by omega
    refine ⟨?_, fun h => ?_⟩
    · refine Decidable.byContradiction fun n => ?_
      have := Int.mul_neg_of_pos_of_neg k2' (show s1 * r3 - r1 * s3 < 0 by omega)
      omega
    · refine Decidable.byContradiction fun n => ?_
      have np := Int.mul_nonpos_of_nonneg_of_nonpos (show 0 ≤ s2 by omega) (show s1 * r3 - r1 * s3 ≤ 0 by omega)
      have k1 : 0 < s1 := by
        refine Decidable.byContradiction fun n => ?_
        have e0 : s1 = 0 := by omega
        have hr1 := z1 e0
        have := Int.mul_pos hr1 k2'
        rw [e0] at a
        omega
      rcases h with h | h
      · have k3 : 0 < s3 := by
          refine Decidable.byContradiction fun n => ?_
          have e0 : s3 = 0 := by omega
          have hr3 := z3 e0
          have := Int.mul_pos k1 hr3
          have : r1 * s3 = 0 := by rw [e0]; simp
          omega
        have := Int.mul_pos k3 h
        omega
      · have := Int.mul_pos k1 h
        omega
theorem sq_pos {x y : Int} (h : x ≠ 0 ∨ y ≠ 0) : 0 < x * x + y * y := by
  have a : 0 ≤ x * x := by rcases Int.le_total 0 x with h | h; exact Int.mul_nonneg h h; exact Int.mul_nonneg_of_nonpos_of_nonpos h h
  have b : 0 ≤ y * y := by rcases Int.le_total 0 y with h | h; exact Int.mul_nonneg h h; exact Int.mul_nonneg_of_nonpos_of_nonpos h h
  rcases h with h | h
  · have : x * x ≠ 0 := fun e => h (by rcases Int.mul_eq_zero.mp e with z | z <;> exact z)
    omega
  · have : y * y ≠ 0 := fun e => h (by rcases Int.mul_eq_zero.mp e with z | z <;> exact z)
    omega
theorem pos_cancel {k a : Int} (hk : 0 < k) : (0 ≤ k * a → 0 ≤ a) ∧ (0 < k * a → 0 < a) ∧ (k * a = 0 → a = 0) := by
  refine ⟨fun h => ?_, fun h => ?_, fun h => ?_⟩
  · refine Decidable.byContradiction fun n => ?_
    have := Int.mul_neg_of_pos_of_neg hk (show a < 0 by omega)
    omega
  · exact Int.pos_of_mul_pos_right h hk |> fun x => x
  · rcases Int.mul_eq_zero.mp h with z | z <;> omega
theorem hp_tr {S : List P3} (hS : Sep S) {c q a t : P3} (hc : c ∈ S) (hq : q ∈ S) (ha : a ∈ S) (ht : t ∈ S) (h : HP S c) (nq : q ≠ c) (na : a ≠ c) (nt : t ≠ c) (k1 : 0 ≤ tn c q a) (k2 : 0 ≤ tn c a t) :
    0 ≤ tn c q t ∧ (0 < tn c q a ∨ 0 < tn c a t → 0 < tn c q t) := by
  obtain ⟨ux, uy, h⟩ := h
  obtain ⟨q1, q2⟩ := h q hq nq
  obtain ⟨a1, a2⟩ := h a ha na
  obtain ⟨t1, t2⟩ := h t ht nt
  have hp := hS.pos c hc
  have hu : 0 < ux * ux + uy * uy := by
    refine sq_pos ?_
    by_cases z : ux = 0 ∧ uy = 0
    · rw [z.1, z.2] at q2; simp at q2
    · omega
  have hk : 0 < (ux * ux + uy * uy) * c.2.2 := Int.mul_pos hu hp
  have id : ∀ x y : P3, (ux * ux + uy * uy) * c.2.2 * tn c x y = (ux * gy c x - uy * gx c x) * (-(ux * gx c y + uy * gy c y)) - (-(ux * gx c x + uy * gy c x)) * (ux * gy c y - uy * gx c y) := fun x y => by
    rw [Int.mul_assoc, tn_cross]; grind
  have i1 := id q a
  have i2 := id a t
  have i3 := id q t
  have f := frac (r1 := -(ux * gx c q + uy * gy c q)) (r2 := -(ux * gx c a + uy * gy c a)) (r3 := -(ux * gx c t + uy * gy c t)) q1 a1 t1 (by omega) (by omega) (by omega)
    (by rw [← i1]; exact Int.mul_nonneg (by omega) k1) (by rw [← i2]; exact Int.mul_nonneg (by omega) k2)
  rw [← i1, ← i2, ← i3] at f
  refine ⟨(pos_cancel hk).1 f.1, fun z => (pos_cancel hk).2.1 (f.2 (z.imp (fun z => Int.mul_pos hk z) fun z => Int.mul_pos hk z))⟩
/-- collinear as seen from a corner: in the same direction -/
theorem hp_par {S : List P3} (hS : Sep S) {c q a : P3} (hc : c ∈ S) (hq : q ∈ S) (ha : a ∈ S) (h : HP S c) (nq : q ≠ c) (na : a ≠ c) (k : tn c q a = 0) :
    ∃ l m : Int, 0 < l ∧ 0 < m ∧ l * gx c q = m * gx c a ∧ l * gy c q = m * gy c a := by
  obtain ⟨ux, uy, h⟩ := h
  obtain ⟨q1, q2⟩ := h q hq nq
  obtain ⟨a1, a2⟩ := h a ha na
  have cr : gx c q * gy c a - gy c q * gx c a = 0 := by rw [← tn_cross, k]; simp
  have nz : ∀ x : P3, x ∈ S → x ≠ c → gx c x = 0 → gy c x = 0 → False := fun x hx nx z1 z2 => nx (hS.sep c hc x hx z1 z2).symm
  have e1 : (ux * gy c a - uy * gx c a) * gx c q = (ux * gy c q - uy * gx c q) * gx c a := by grind
  have e2 : (ux * gy c a - uy * gx c a) * gy c q = (ux * gy c q - uy * gx c q) * gy c a := by grind
  by_cases za : ux * gy c a - uy * gx c a = 0
  · by_cases zq : ux * gy c q - uy * gx c q = 0
    · exact ⟨-(ux * gx c a + uy * gy c a), -(ux * gx c q + uy * gy c q), by have := a2 za; omega, by have := q2 zq; omega, by grind, by grind⟩
    · exfalso
      rw [za] at e1 e2
      simp only [Int.zero_mul] at e1 e2
      refine nz a ha na ?_ ?_
      · rcases Int.mul_eq_zero.mp e1.symm with z | z <;> omega
      · rcases Int.mul_eq_zero.mp e2.symm with z | z <;> omega
  · by_cases zq : ux * gy c q - uy * gx c q = 0
    · exfalso
      rw [zq] at e1 e2
      simp only [Int.zero_mul] at e1 e2
      refine nz q hq nq ?_ ?_
      · rcases Int.mul_eq_zero.mp e1 with z | z <;> omega
      · rcases Int.mul_eq_zero.mp e2 with z | z <;> omega
    · exact ⟨_, _, by omega, by omega, e1, e2⟩
theorem sgn_par {l m x y : Int} (hl : 0 < l) (hm : 0 < m) (e : l * x = m * y) : (0 < x ↔ 0 < y) ∧ (x = 0 ↔ y = 0) := by
  have fw : ∀ {l m x y : Int}, 0 < l → 0 < m → l * x = m * y → (0 < x → 0 < y) ∧ (x = 0 → y = 0) := fun {l m x y} hl hm e =>
    ⟨fun h => (pos_cancel hm).2.1 (by rw [← e]; exact Int.mul_pos hl h), fun h => (pos_cancel hm).2.2 (by rw [← e, h]; simp)⟩
  exact ⟨⟨(fw hl hm e).1, (fw hm hl e.symm).1⟩, ⟨(fw hl hm e).2, (fw hm hl e.symm).2⟩⟩
theorem hp_dir {S : List P3} (hS : Sep S) {c q a : P3} (hc : c ∈ S) (hq : q ∈ S) (ha : a ∈ S) (h : HP S c) (nq : q ≠ c) (na : a ≠ c) (k : tn c q a = 0) : bef c q = bef c a := by
  obtain ⟨l, m, hl, hm, e1, e2⟩ := hp_par hS hc hq ha h nq na k
  have x := sgn_par hl hm e1
  have y := sgn_par hl hm e2
  rw [Bool.eq_iff_iff, bef_iff, bef_iff]
  omega
theorem opp {S : List P3} (hS : Sep S) {p m q : P3} (hp : p ∈ S) (hm : m ∈ S) (hq : q ∈ S) (h : HP S m) (h1 : bef p m = true) (h2 : bef m q = true) (k : tn p m q = 0) : False := by
  have np : p ≠ m := fun e => by rw [e, bef_irr] at h1; cases h1
  have nq : q ≠ m := fun e => by rw [e, bef_irr] at h2; cases h2
  have k' : tn m p q = 0 := by rw [tn_swap2, k]; rfl
  have d := hp_dir hS hm hp hq h np nq k'
  rw [h2] at d
  rw [bef_asym h1] at d
  cases d
/-! the next corner -/
def Le (c a q : P3) : Prop := 0 < tn c a q ∨ (tn c a q = 0 ∧ if bef c a = true then bef a q = false else bef q a = false)
def sooner (c q a : P3) : Bool := if tn c a q = 0 then bef c a == bef a q else decide (tn c a q < 0)
theorem le_refl (c q : P3) : Le c q q := .inr ⟨tn_self _ _, by split <;> exact bef_irr q⟩
theorem le_nn {c a q : P3} (h : Le c a q) : 0 ≤ tn c a q := by rcases h with h | h <;> omega
theorem bef_tot {S : List P3} (hS : Sep S) {p q : P3} (hp : p ∈ S) (hq : q ∈ S) (h1 : bef p q = false) (h2 : bef q p = false) : p = q := by
  rw [nbef_iff] at h1 h2
  rw [gx_neg q p, gy_neg q p] at h2
  exact hS.sep p hp q hq (by omega) (by omega)
theorem le_tr {S : List P3} (hS : Sep S) {c q a t : P3} (hc : c ∈ S) (hq : q ∈ S) (ha : a ∈ S) (ht : t ∈ S) (h : HP S c) (nq : q ≠ c) (na : a ≠ c) (nt : t ≠ c) (k1 : Le c q a) (k2 : Le c a t) : Le c q t := by
  have f := hp_tr hS hc hq ha ht h nq na nt (le_nn k1) (le_nn k2)
  by_cases z : 0 < tn c q a ∨ 0 < tn c a t
  · exact .inl (f.2 z)
  · rcases k1 with k1 | ⟨k1, j1⟩
    · omega
    · rcases k2 with k2 | ⟨k2, j2⟩
      · omega
      · have d := hp_dir hS hc hq ha h nq na k1
        rw [← d] at j2
        by_cases y : 0 < tn c q t
        · exact .inl y
        · refine .inr ⟨by omega, ?_⟩
          split
          · rename_i b
            rw [if_pos b] at j1 j2
            exact nbef_trans (hS.pos t ht) (hS.pos a ha) (hS.pos q hq) j2 j1
          · rename_i b
            rw [if_neg b] at j1 j2
            exact nbef_trans (hS.pos q hq) (hS.pos a ha) (hS.pos t ht) j1 j2
theorem sooner_le {S : List P3} (hS : Sep S) {c q a : P3} (hc : c ∈ S) (hq : q ∈ S) (ha : a ∈ S) (na : a ≠ c) (h : sooner c q a = true) : Le c q a := by
  unfold sooner at h
  split at h
  · rename_i z
    have e : bef c a = bef a q := by simpa using h
    refine .inr ⟨by rw [tn_swap, z]; rfl, ?_⟩
    cases b : bef c a with
    | true =>
      rw [b] at e
      have := bef_trans (hS.pos c hc) (hS.pos a ha) (hS.pos q hq) b e.symm
      rw [if_pos this]
      exact bef_asym e.symm
    | false =>
      rw [b] at e
      have ac : bef a c = true := by
        cases z : bef a c with
        | true => rfl
        | false => exact absurd (bef_tot hS hc ha b z).symm na
      have nb : bef c q = false := nbef_trans (hS.pos q hq) (hS.pos a ha) (hS.pos c hc) e.symm b
      rw [nb]
      simp
      exact e.symm
  · rename_i z
    have : tn c a q < 0 := by simpa using h
    exact .inl (by rw [tn_swap]; omega)
theorem nsooner_le {c q a : P3} (h : sooner c q a = false) : Le c a q := by
  unfold sooner at h
  split at h
  · rename_i z
    refine .inr ⟨z, ?_⟩
    have e : ¬ bef c a = bef a q := by simpa using h
    split
    · rename_i b
      rw [b] at e
      cases z : bef a q with
      | true => rw [z] at e; exact absurd rfl e
      | false => rfl
    · rename_i b
      cases z : bef a q with
      | true => exact bef_asym z
      | false =>
        have : bef c a = false := by simpa using b
        rw [z, this] at e; exact absurd rfl e
  · rename_i z
    have : ¬ tn c a q < 0 := by simpa using h
    exact .inl (by omega)
def stepN (c a q : P3) : P3 := if q ≠ c ∧ (a = c ∨ sooner c q a = true) then q else a
def next (S : List P3) (c : P3) : P3 := S.foldl (stepN c) c
def Nx (S T : List P3) (c a : P3) : Prop := (a = c ∧ ∀ q ∈ T, q = c) ∨ (a ≠ c ∧ a ∈ S ∧ ∀ q ∈ T, q ≠ c → Le c a q)
theorem next_fold {S : List P3} (hS : Sep S) {c : P3} (hc : c ∈ S) (h : HP S c) : ∀ (T' T : List P3) (a : P3), (∀ q ∈ T', q ∈ S) → (∀ q ∈ T, q ∈ S) → Nx S T c a → Nx S (T ++ T') c (T'.foldl (stepN c) a)
  | [], T, a, _, _, n => by simpa using n
  | q :: T', T, a, s, sT, n => by
    rw [List.foldl_cons]
    have e : T ++ q :: T' = (T ++ [q]) ++ T' := by simp
    rw [e]
    have hq : q ∈ S := s q List.mem_cons_self
    refine next_fold hS hc h T' (T ++ [q]) _ (fun x m => s x (List.mem_cons_of_mem _ m)) (fun x m => ?_) ?_
    · rcases List.mem_append.mp m with m | m
      · exact sT x m
      · rw [List.mem_singleton.mp m]; exact hq
    · unfold stepN
      split
      · rename_i g
        obtain ⟨nq, g⟩ := g
        refine .inr ⟨nq, hq, fun x m nx => ?_⟩
        rcases List.mem_append.mp m with m | m
        · rcases n with ⟨n1, n2⟩ | ⟨n1, n2, n3⟩
          · exact absurd (n2 x m) nx
          · rcases g with g | g
            · exact absurd g n1
            · exact le_tr hS hc hq n2 (sT x m) h nq n1 nx (sooner_le hS hc hq n2 n1 g) (n3 x m nx)
        · rw [List.mem_singleton.mp m]; exact le_refl _ _
      · rename_i g
        rcases n with ⟨n1, n2⟩ | ⟨n1, n2, n3⟩
        · refine .inl ⟨n1, fun x m => ?_⟩
          rcases List.mem_append.mp m with m | m
          · exact n2 x m
          · rw [List.mem_singleton.mp m]
            exact Decidable.byContradiction fun nq => g ⟨nq, .inl n1⟩
        · refine .inr ⟨n1, n2, fun x m nx => ?_⟩
          rcases List.mem_append.mp m with m | m
          · exact n3 x m nx
          · rw [List.mem_singleton.mp m] at nx ⊢
            refine nsooner_le ?_
            cases z : sooner c q a with
            | false => rfl
            | true => exact absurd ⟨nx, .inr z⟩ g
theorem next_nx {S : List P3} (hS : Sep S) {c : P3} (hc : c ∈ S) (h : HP S c) : Nx S S c (next S c) := by
  have := next_fold hS hc h S [] c (fun _ m => m) (fun _ m => by cases m) (.inl ⟨rfl, fun _ m => by cases m⟩)
  rw [List.nil_append] at this
  exact this
theorem next_mem {S : List P3} (hS : Sep S) {c : P3} (hc : c ∈ S) (h : HP S c) : next S c ∈ S := by
  rcases next_nx hS hc h with ⟨e, _⟩ | ⟨_, m, _⟩
  · rw [e]; exact hc
  · exact m
/-- what is next to a corner is a corner -/
theorem dot_neg {a b c d : Int} (h1 : 0 < a ∨ (a = 0 ∧ 0 < b)) (h2 : c < 0 ∨ (c = 0 ∧ d < 0)) (e : a * d - b * c = 0) : a * c + b * d < 0 := by
  rcases h1 with h1 | ⟨rfl, h1⟩
  · have hc : c < 0 := by
      rcases h2 with h2 | ⟨rfl, h2⟩
      · exact h2
      · have := Int.mul_neg_of_pos_of_neg h1 h2
        simp at e
        omega
    have k : a * c < 0 := Int.mul_neg_of_pos_of_neg h1 hc
    have id : (a * c) * (b * d) = (b * c) * (b * c) := by grind
    have : 0 ≤ (b * c) * (b * c) := by rcases Int.le_total 0 (b * c) with h | h; exact Int.mul_nonneg h h; exact Int.mul_nonneg_of_nonpos_of_nonpos h h
    have : b * d ≤ 0 := by
      refine Decidable.byContradiction fun n => ?_
      have := Int.mul_neg_of_neg_of_pos k (show 0 < b * d by omega)
      omega
    omega
  · have : b * c = 0 := by omega
    have : c = 0 := by rcases Int.mul_eq_zero.mp this with z | z <;> omega
    subst this
    have hd : d < 0 := by omega
    have := Int.mul_neg_of_pos_of_neg h1 hd
    omega
theorem next_hp {S : List P3} (hS : Sep S) {c : P3} (hc : c ∈ S) (h : HP S c) : HP S (next S c) := by
  rcases next_nx hS hc h with ⟨e, z⟩ | ⟨na, ha, hl⟩
  · rw [e]; exact h
  · generalize next S c = a at na ha hl
    refine ⟨gx c a, gy c a, fun q hq nq => ?_⟩
    have pa := hS.pos a ha
    rw [← tn_cross2]
    by_cases e : q = c
    · subst e
      have z : tn q a q = 0 := tn_self2 _ _
      rw [z]
      refine ⟨by omega, fun _ => ?_⟩
      have nz : ¬ (gx q a = 0 ∧ gy q a = 0) := fun z => na (hS.sep q hc a ha z.1 z.2).symm
      have := sq_pos (x := gx q a) (y := gy q a) (by omega)
      rw [gx_neg a q, gy_neg a q, Int.mul_neg, Int.mul_neg]
      omega
    · have l := hl q hq e
      refine ⟨Int.mul_nonneg (by omega) (le_nn l), fun z => ?_⟩
      have z0 : tn c a q = 0 := (pos_cancel pa).2.2 z
      have cr : gx c a * gy a q - gy c a * gx a q = 0 := by rw [← tn_cross2, z0]; simp
      have j : if bef c a = true then bef a q = false else bef q a = false := by
        rcases l with l | l
        · omega
        · exact l.2
      have nz : ¬ (gx a q = 0 ∧ gy a q = 0) := fun z => nq (hS.sep a ha q hq z.1 z.2).symm
      have nz2 : ¬ (gx c a = 0 ∧ gy c a = 0) := fun z => na (hS.sep c hc a ha z.1 z.2).symm
      cases b : bef c a with
      | true =>
        rw [if_pos b] at j
        rw [bef_iff] at b
        rw [nbef_iff] at j
        exact dot_neg b (by omega) cr
      | false =>
        rw [b] at j
        simp at j
        rw [nbef_iff] at b j
        rw [gx_neg q a, gy_neg q a] at j
        have := dot_neg (a := -gx c a) (b := -gy c a) (c := -gx a q) (d := -gy a q) (by omega) (by omega) (by grind)
        grind
/-! the first corner -/
def leastStep (a q : P3) : P3 := if bef q a = true then q else a
theorem least_fold {S : List P3} (hS : Sep S) : ∀ (T : List P3) (a : P3), (∀ q ∈ T, q ∈ S) → a ∈ S → (T.foldl leastStep a ∈ S) ∧ bef a (T.foldl leastStep a) = false ∧ ∀ q ∈ T, bef q (T.foldl leastStep a) = false
  | [], a, _, ha => ⟨ha, bef_irr a, fun _ m => by cases m⟩
  | q :: T, a, s, ha => by
    have hq := s q List.mem_cons_self
    have s' : ∀ x ∈ T, x ∈ S := fun x m => s x (List.mem_cons_of_mem _ m)
    rw [List.foldl_cons]
    unfold leastStep
    split
    · rename_i b
      obtain ⟨i1, i2, i3⟩ := least_fold hS T q s' hq
      refine ⟨i1, ?_, fun x m => ?_⟩
      · exact nbef_trans (hS.pos _ i1) (hS.pos q hq) (hS.pos a ha) i2 (bef_asym b)
      · rcases List.mem_cons.mp m with rfl | m
        · exact i2
        · exact i3 x m
    · rename_i b
      obtain ⟨i1, i2, i3⟩ := least_fold hS T a s' ha
      refine ⟨i1, i2, fun x m => ?_⟩
      rcases List.mem_cons.mp m with rfl | m
      · exact nbef_trans (hS.pos _ i1) (hS.pos a ha) (hS.pos x hq) i2 (by simpa using b)
      · exact i3 x m
def least (S : List P3) : P3 := match S with
  | [] => (0, 0, 1)
  | p :: _ => S.foldl leastStep p
theorem least_ok {S : List P3} (hS : Sep S) (h : S ≠ []) : least S ∈ S ∧ ∀ q ∈ S, bef q (least S) = false := by
  match S, h with
  | p :: S, _ =>
    have := least_fold hS (p :: S) p (fun _ m => m) List.mem_cons_self
    exact ⟨this.1, this.2.2⟩
theorem least_hp {S : List P3} (hS : Sep S) (h : S ≠ []) : HP S (least S) := by
  obtain ⟨h1, h2⟩ := least_ok hS h
  generalize least S = c at h1 h2
  refine ⟨0, -1, fun q hq nq => ?_⟩
  have b := h2 q hq
  rw [nbef_iff, gx_neg, gy_neg] at b
  have nz : ¬ (gx c q = 0 ∧ gy c q = 0) := fun z => nq (hS.sep c h1 q hq z.1 z.2).symm
  refine ⟨by omega, fun z => by omega⟩
/-! three corners are not on one line; no two corners have the same next one -/
theorem not_line {S : List P3} (hS : Sep S) {a b c : P3} (ha : a ∈ S) (hb : b ∈ S) (hc : c ∈ S) (pa : HP S a) (pb : HP S b) (pc : HP S c) (ab : a ≠ b) (bc : b ≠ c) (ac : a ≠ c) (k : tn a b c = 0) : False := by
  have t : ∀ {p q : P3}, p ∈ S → q ∈ S → p ≠ q → bef p q = true ∨ bef q p = true := fun {p q} hp hq n => by
    cases z : bef p q with
    | true => exact .inl rfl
    | false =>
      cases y : bef q p with
      | true => exact .inr rfl
      | false => exact absurd (bef_tot hS hp hq z y) n
  have k1 : tn b c a = 0 := by rw [← tn_cyc]; exact k
  have k2 : tn c a b = 0 := by rw [← tn_cyc]; exact k1
  have j0 : tn b a c = 0 := by rw [tn_swap2, k]; rfl
  have j1 : tn a c b = 0 := by rw [tn_swap, k]; rfl
  have j2 : tn c b a = 0 := by rw [tn_swap2, k1]; rfl
  rcases t ha hb ab with x | x
  · rcases t hb hc bc with y | y
    · exact opp hS ha hb hc pb x y k
    · rcases t ha hc ac with z | z
      · exact opp hS ha hc hb pc z y j1
      · exact opp hS hc ha hb pa z x k2
  · rcases t hb hc bc with y | y
    · rcases t ha hc ac with z | z
      · exact opp hS hb ha hc pa x z j0
      · exact opp hS hb hc ha pc y z k1
    · exact opp hS hc hb ha pb y x j2
theorem next_inj {S : List P3} (hS : Sep S) {a b : P3} (ha : a ∈ S) (hb : b ∈ S) (pa : HP S a) (pb : HP S b) (e : next S a = next S b) : a = b := by
  refine Decidable.byContradiction fun n => ?_
  have na := next_nx hS ha pa
  have nb := next_nx hS hb pb
  have hp := next_hp hS ha pa
  rw [← e] at nb
  generalize next S a = c at na nb hp
  rcases na with ⟨_, z⟩ | ⟨n1, m1, l1⟩
  · exact n (z b hb).symm
  · rcases nb with ⟨_, z⟩ | ⟨n2, m2, l2⟩
    · exact n (z a ha)
    · have x1 := le_nn (l1 b hb (Ne.symm n))
      have x2 := le_nn (l2 a ha n)
      have s : tn b c a = -tn a c b := by rw [← tn_cyc, tn_swap]
      exact not_line hS ha m1 hb pa hp pb (Ne.symm n1) n2 n (by omega)
/-! the whole way round -/
theorem nodup_len {α : Type} [DecidableEq α] : ∀ {l m : List α}, l.Nodup → (∀ x ∈ l, x ∈ m) → l.length ≤ m.length
  | [], m, _, _ => Nat.zero_le _
  | x :: l, m, h, s => by
    rw [List.nodup_cons] at h
    have hx := s x List.mem_cons_self
    have i := nodup_len (l := l) (m := m.erase x) h.2 fun y hy => (List.mem_erase_of_ne (by rintro rfl; exact h.1 hy)).mpr (s y (List.mem_cons_of_mem _ hy))
    rw [List.length_erase_of_mem hx] at i
    have := List.length_pos_of_mem hx
    simp only [List.length_cons]
    omega
theorem nodup_ix {α : Type} {l : List α} (h : l.Nodup) {i j : Nat} {x : α} (hi : l[i]? = some x) (hj : l[j]? = some x) : i = j := by
  have p := List.pairwise_iff_getElem.mp h
  obtain ⟨a, ea⟩ := List.getElem?_eq_some_iff.mp hi
  obtain ⟨b, eb⟩ := List.getElem?_eq_some_iff.mp hj
  rcases Nat.lt_trichotomy i j with z | z | z
  · exact absurd (ea.trans eb.symm) (p i j a b z)
  · exact z
  · exact absurd (eb.trans ea.symm) (p j i b a z)
def goRound (S : List P3) (s : P3) : Nat → P3 → List P3 → Option (List P3)
  | 0, _, _ => none
  | n + 1, c, acc => if c = s then some acc else goRound S s n (next S c) (acc ++ [c])
structure Way (S : List P3) (s c : P3) (acc : List P3) : Prop where
  hd : acc[0]? = some s
  nd : acc.Nodup
  mem : ∀ p ∈ acc, p ∈ S ∧ HP S p
  link : ∀ (i : Nat) p, acc[i]? = some p → (acc ++ [c])[i + 1]? = some (next S p)
theorem Way.pos {S : List P3} {s c : P3} {acc : List P3} (w : Way S s c acc) : 0 < acc.length := by
  have := w.hd
  cases acc with
  | nil => simp at this
  | cons a l => simp
theorem Way.last {S : List P3} {s c : P3} {acc : List P3} (w : Way S s c acc) : ∃ q, acc[acc.length - 1]? = some q ∧ next S q = c := by
  have h := w.pos
  have hl : acc.length - 1 < acc.length := by omega
  refine ⟨_, List.getElem?_eq_getElem hl, ?_⟩
  have k := w.link _ _ (List.getElem?_eq_getElem hl)
  rw [show acc.length - 1 + 1 = acc.length by omega, List.getElem?_append_right (Nat.le_refl _)] at k
  simp at k
  exact k.symm
theorem Way.step {S : List P3} (hS : Sep S) {s c : P3} {acc : List P3} (w : Way S s c acc) (n : c ≠ s) : Way S s (next S c) (acc ++ [c]) := by
  obtain ⟨q, hq, eq⟩ := w.last
  have hqm := w.mem q (List.mem_of_getElem? hq)
  have hc : c ∈ S ∧ HP S c := by rw [← eq]; exact ⟨next_mem hS hqm.1 hqm.2, next_hp hS hqm.1 hqm.2⟩
  refine ⟨?_, ?_, ?_, ?_⟩
  · rw [List.getElem?_append_left w.pos]; exact w.hd
  · have nm : c ∉ acc := fun m => by
      obtain ⟨j, hj⟩ := List.mem_iff_getElem?.mp m
      cases j with
      | zero => rw [w.hd] at hj; exact n (Option.some.inj hj).symm
      | succ k =>
        have hk1 : k + 1 < acc.length := (List.getElem?_eq_some_iff.mp hj).1
        have hk : k < acc.length := by omega
        have l := w.link k _ (List.getElem?_eq_getElem hk)
        rw [List.getElem?_append_left hk1, hj] at l
        have hp := w.mem _ (List.getElem_mem hk)
        have e := next_inj hS hp.1 hqm.1 hp.2 hqm.2 ((Option.some.inj l).symm.trans eq.symm)
        have := nodup_ix w.nd (List.getElem?_eq_getElem hk) (e ▸ hq)
        omega
    rw [List.nodup_append]
    refine ⟨w.nd, by simp, fun a ha b hb => ?_⟩
    rw [List.mem_singleton.mp hb]
    exact fun e => nm (e ▸ ha)
  · intro p hp
    rcases List.mem_append.mp hp with m | m
    · exact w.mem p m
    · rw [List.mem_singleton.mp m]; exact hc
  · intro i p hp
    by_cases hi : i < acc.length
    · rw [List.getElem?_append_left hi] at hp
      have l := w.link i p hp
      by_cases hi2 : i + 1 < acc.length
      · rw [List.getElem?_append_left hi2] at l
        rw [List.getElem?_append_left (by simp; omega), List.getElem?_append_left hi2, l]
      · have : i + 1 = acc.length := by omega
        rw [List.getElem?_append_left (by simp; omega), l]
    · have hl := (List.getElem?_eq_some_iff.mp hp).1
      simp at hl
      have hi' : i = acc.length := by omega
      subst hi'
      rw [List.getElem?_append_right (Nat.le_refl _)] at hp
      simp at hp
      subst hp
      rw [List.getElem?_append_right (by simp)]
      simp
theorem Way.len {S : List P3} {s c : P3} {acc : List P3} (w : Way S s c acc) : acc.length ≤ S.length := nodup_len w.nd fun p m => (w.mem p m).1
theorem round_ok {S : List P3} (hS : Sep S) {s : P3} : ∀ (n : Nat) (c : P3) (acc : List P3), Way S s c acc → S.length + 1 ≤ n + acc.length → ∃ cs, goRound S s n c acc = some cs ∧ Way S s s cs
  | 0, c, acc, w, h => by have := w.len; omega
  | n + 1, c, acc, w, h => by
    unfold goRound
    split
    · rename_i e
      subst e
      exact ⟨acc, rfl, w⟩
    · rename_i e
      exact round_ok hS n _ _ (w.step hS e) (by simp; omega)
theorem way_start {S : List P3} (hS : Sep S) (h : S ≠ []) : Way S (least S) (next S (least S)) [least S] where
  hd := rfl
  nd := by simp
  mem := fun p m => by rw [List.mem_singleton.mp m]; exact ⟨(least_ok hS h).1, least_hp hS h⟩
  link := fun i p e => by
    cases i with
    | zero => simp at e; subst e; rfl
    | succ i => simp at e
def corners (S : List P3) : List P3 := (goRound S (least S) (S.length + 1) (next S (least S)) [least S]).getD []
theorem goRound_mono {S : List P3} {s : P3} : ∀ (n m : Nat) (c : P3) (acc cs : List P3), goRound S s n c acc = some cs → n ≤ m → goRound S s m c acc = some cs
  | 0, _, _, _, _, h, _ => by simp [goRound] at h
  | n + 1, 0, _, _, _, _, l => by omega
  | n + 1, m + 1, c, acc, cs, h, l => by
    unfold goRound at h ⊢
    split
    · rename_i e; rw [if_pos e] at h; exact h
    · rename_i e; rw [if_neg e] at h; exact goRound_mono n m _ _ _ h (by omega)
theorem corners_ok {S : List P3} (hS : Sep S) (h : S ≠ []) : Way S (least S) (least S) (corners S) ∧ ∀ m, S.length + 1 ≤ m → goRound S (least S) m (next S (least S)) [least S] = some (corners S) := by
  obtain ⟨cs, e, w⟩ := round_ok hS (S.length + 1) _ _ (way_start hS h) (by simp)
  have : corners S = cs := by unfold corners; rw [e]; rfl
  rw [this]
  exact ⟨w, fun m hm => goRound_mono _ m _ _ _ e hm⟩
/-! what the corners of a list of points are -/
structure Cor (S cs : List P3) : Prop where
  pos : 0 < cs.length
  first : ∀ c, cs[0]? = some c → ∀ q ∈ S, bef q c = false
  mem : ∀ c ∈ cs, c ∈ S
  nd : cs.Nodup
  hp : ∀ c ∈ cs, HP S c
  side : ∀ (i : Nat) a b, cs[i]? = some a → (cs ++ cs.take 1)[i + 1]? = some b → ∀ q ∈ S, 0 ≤ tn a b q
  link : ∀ (i : Nat) a b, cs[i]? = some a → (cs ++ cs.take 1)[i + 1]? = some b → b = next S a
theorem cor_of {S : List P3} (hS : Sep S) (h : S ≠ []) : Cor S (corners S) := by
  obtain ⟨w, _⟩ := corners_ok hS h
  have hp := w.pos
  have tk : (corners S).take 1 = [least S] := by
    have := w.hd
    cases e : corners S with
    | nil => rw [e] at hp; simp at hp
    | cons a l => rw [e] at this; simp at this; simp [this]
  have lk : ∀ (i : Nat) a b, (corners S)[i]? = some a → (corners S ++ (corners S).take 1)[i + 1]? = some b → b = next S a := fun i a b ha hb => by
    rw [tk, w.link i a ha] at hb
    exact (Option.some.inj hb).symm
  refine ⟨hp, fun c hc q hq => ?_, fun c m => (w.mem c m).1, w.nd, fun c m => (w.mem c m).2, fun i a b ha hb q hq => ?_, lk⟩
  · rw [w.hd] at hc
    rw [← Option.some.inj hc]
    exact (least_ok hS h).2 q hq
  · have := lk i a b ha hb
    subst this
    have ma := w.mem a (List.mem_of_getElem? ha)
    rcases next_nx hS ma.1 ma.2 with ⟨e, _⟩ | ⟨n, _, l⟩
    · rw [e, tn_self3]; exact Int.le_refl 0
    · by_cases z : q = a
      · rw [z, tn_self2]; exact Int.le_refl 0
      · exact le_nn (l q hq z)
end Geo
namespace Geo
theorem Cor.next_ne {S cs : List P3} (C : Cor S cs) (h : 2 ≤ cs.length) {i : Nat} {a b : P3} (ha : cs[i]? = some a) (hb : (cs ++ cs.take 1)[i + 1]? = some b) : a ≠ b ∧ b ∈ cs := by
  have hi := (List.getElem?_eq_some_iff.mp ha).1
  by_cases z : i + 1 < cs.length
  · rw [List.getElem?_append_left z] at hb
    exact ⟨fun e => by have := nodup_ix C.nd ha (e ▸ hb); omega, List.mem_of_getElem? hb⟩
  · rw [List.getElem?_append_right (by omega), show i + 1 - cs.length = 0 by omega] at hb
    have hb' : cs[0]? = some b := by
      rw [List.getElem?_take] at hb
      simpa using hb
    exact ⟨fun e => by have := nodup_ix C.nd ha (e ▸ hb'); omega, List.mem_of_getElem? hb'⟩
/-- a third corner lies strictly to the left -/
theorem Cor.strict {S cs : List P3} (hS : Sep S) (C : Cor S cs) (h : 2 ≤ cs.length) {i : Nat} {a b c : P3} (ha : cs[i]? = some a) (hb : (cs ++ cs.take 1)[i + 1]? = some b) (hc : c ∈ cs) (ca : c ≠ a) (cb : c ≠ b) : 0 < tn a b c := by
  obtain ⟨ab, mb⟩ := C.next_ne h ha hb
  have ma := List.mem_of_getElem? ha
  have s := C.side i a b ha hb c (C.mem c hc)
  refine Decidable.byContradiction fun n => ?_
  exact not_line hS (C.mem a ma) (C.mem b mb) (C.mem c hc) (C.hp a ma) (C.hp b mb) (C.hp c hc) ab (Ne.symm cb) (Ne.symm ca) (by omega)
theorem Cor.one {S : List P3} {p : P3} (hS : Sep S) (C : Cor S [p]) : ∀ q ∈ S, q = p := by
  have hp := C.hp p (by simp)
  have hm := C.mem p (by simp)
  have l := C.link 0 p p rfl rfl
  rcases next_nx hS hm hp with ⟨_, z⟩ | ⟨n, _⟩
  · exact z
  · exact absurd l.symm n
theorem Cor.two {S : List P3} {p q : P3} (hS : Sep S) (C : Cor S [p, q]) : p ≠ q ∧ bef p q = true ∧ ∀ r ∈ S, tn p q r = 0 ∧ bef r p = false ∧ bef q r = false := by
  have hp := C.hp p (by simp)
  have hq := C.hp q (by simp)
  have mp := C.mem p (by simp)
  have mq := C.mem q (by simp)
  have l := C.link 0 p q rfl rfl
  have pq : p ≠ q := (C.next_ne (by simp) (i := 0) (a := p) (b := q) rfl rfl).1
  have f := C.first p rfl
  have bpq : bef p q = true := by
    cases z : bef p q with
    | true => rfl
    | false => exact absurd (bef_tot hS mp mq z (f q mq)) pq
  refine ⟨pq, bpq, fun r hr => ?_⟩
  have s1 := C.side 0 p q rfl rfl r hr
  have s2 := C.side 1 q p rfl rfl r hr
  have e : tn q p r = -tn p q r := tn_swap2 _ _ _
  have z : tn p q r = 0 := by omega
  refine ⟨z, f r hr, ?_⟩
  rcases next_nx hS mp hp with ⟨n, _⟩ | ⟨n, _, k⟩
  · exact absurd (l.trans n).symm pq
  · by_cases rp : r = p
    · rw [rp]; exact bef_asym bpq
    · have k := k r hr rp
      rw [← l] at k
      rcases k with k | ⟨_, k⟩
      · omega
      · rw [if_pos bpq] at k; exact k
/-! the corners do not depend on the order of the points -/
theorem le_uniq {S : List P3} (hS : Sep S) {c a b : P3} (hc : c ∈ S) (ha : a ∈ S) (hb : b ∈ S) (h : HP S c) (na : a ≠ c) (nb : b ≠ c) (k1 : Le c a b) (k2 : Le c b a) : a = b := by
  have e : tn c b a = -tn c a b := tn_swap _ _ _
  have n1 := le_nn k1
  have n2 := le_nn k2
  have z : tn c a b = 0 := by omega
  have d := hp_dir hS hc ha hb h na nb z
  rcases k1 with k1 | ⟨_, k1⟩
  · omega
  · rcases k2 with k2 | ⟨_, k2⟩
    · omega
    · rw [← d] at k2
      split at k1
      · rename_i y
        rw [if_pos y] at k2
        exact bef_tot hS ha hb k1 k2
      · rename_i y
        rw [if_neg y] at k2
        exact bef_tot hS ha hb k2 k1
section
variable {S T : List P3} (hS : Sep S) (hm : ∀ p, p ∈ S ↔ p ∈ T)
theorem sep_of (hS : Sep S) (hm : ∀ p, p ∈ S ↔ p ∈ T) : Sep T := ⟨fun p h => hS.pos p ((hm p).mpr h), fun p hp q hq => hS.sep p ((hm p).mpr hp) q ((hm q).mpr hq)⟩
theorem hp_of {c : P3} (hm : ∀ p, p ∈ S ↔ p ∈ T) (h : HP S c) : HP T c := by
  obtain ⟨ux, uy, h⟩ := h
  exact ⟨ux, uy, fun q hq => h q ((hm q).mpr hq)⟩
theorem next_same (hS : Sep S) (hm : ∀ p, p ∈ S ↔ p ∈ T) {c : P3} (hc : c ∈ S) (h : HP S c) : next S c = next T c := by
  have x := next_nx hS hc h
  have y := next_nx (sep_of hS hm) ((hm c).mp hc) (hp_of hm h)
  rcases x with ⟨x1, x2⟩ | ⟨x1, x2, x3⟩
  · rcases y with ⟨y1, y2⟩ | ⟨y1, y2, y3⟩
    · rw [x1, y1]
    · exact absurd (x2 _ ((hm _).mpr y2)) y1
  · rcases y with ⟨y1, y2⟩ | ⟨y1, y2, y3⟩
    · exact absurd (y2 _ ((hm _).mp x2)) x1
    · exact le_uniq hS hc x2 ((hm _).mpr y2) h x1 y1 (x3 _ ((hm _).mpr y2) y1) (y3 _ ((hm _).mp x2) x1)
theorem least_same (hS : Sep S) (hm : ∀ p, p ∈ S ↔ p ∈ T) (h : S ≠ []) (h2 : T ≠ []) : least S = least T := by
  obtain ⟨a1, a2⟩ := least_ok hS h
  obtain ⟨b1, b2⟩ := least_ok (sep_of hS hm) h2
  exact bef_tot hS a1 ((hm _).mpr b1) (b2 _ ((hm _).mp a1)) (a2 _ ((hm _).mpr b1))
theorem round_same (hS : Sep S) (hm : ∀ p, p ∈ S ↔ p ∈ T) {s : P3} : ∀ (n : Nat) (c : P3) (acc : List P3), c ∈ S → HP S c → goRound S s n c acc = goRound T s n c acc
  | 0, _, _, _, _ => rfl
  | n + 1, c, acc, hc, h => by
    unfold goRound
    rw [← next_same hS hm hc h, round_same hS hm n _ _ (next_mem hS hc h) (next_hp hS hc h)]
theorem corners_same (hS : Sep S) (hm : ∀ p, p ∈ S ↔ p ∈ T) (h : S ≠ []) (h2 : T ≠ []) : corners S = corners T := by
  obtain ⟨_, a⟩ := corners_ok hS h
  obtain ⟨_, b⟩ := corners_ok (sep_of hS hm) h2
  have a := a (S.length + T.length + 1) (by omega)
  have b := b (S.length + T.length + 1) (by omega)
  obtain ⟨l1, _⟩ := least_ok hS h
  have l2 := least_hp hS h
  rw [← least_same hS hm h h2, ← next_same hS hm l1 l2, ← round_same hS hm _ _ _ (next_mem hS l1 l2) (next_hp hS l1 l2), a] at b
  exact Option.some.inj b
end
/-! scaled points -/
def Scl (p p' : P3) : Prop := ∃ t : Int, 0 < t ∧ p.1 = t * p'.1 ∧ p.2.1 = t * p'.2.1 ∧ p.2.2 = t * p'.2.2
theorem scl_tn {p p' q q' r r' : P3} (a : Scl p p') (b : Scl q q') (c : Scl r r') : ∃ k, 0 < k ∧ tn p q r = k * tn p' q' r' := by
  obtain ⟨t, t0, a1, a2, a3⟩ := a
  obtain ⟨u, u0, b1, b2, b3⟩ := b
  obtain ⟨v, v0, c1, c2, c3⟩ := c
  refine ⟨t * u * v, Int.mul_pos (Int.mul_pos t0 u0) v0, ?_⟩
  unfold tn
  rw [a1, a2, a3, b1, b2, b3, c1, c2, c3]
  grind
theorem scl_refl (p : P3) : Scl p p := ⟨1, by decide, by simp, by simp, by simp⟩
theorem scl_g {p p' q q' : P3} (a : Scl p p') (b : Scl q q') : ∃ k, 0 < k ∧ gx p q = k * gx p' q' ∧ gy p q = k * gy p' q' := by
  obtain ⟨t, t0, a1, a2, a3⟩ := a
  obtain ⟨u, u0, b1, b2, b3⟩ := b
  refine ⟨t * u, Int.mul_pos t0 u0, ?_, ?_⟩
  · unfold gx; rw [a1, a3, b1, b3]; grind
  · unfold gy; rw [a2, a3, b2, b3]; grind
theorem scl_bef {p p' q q' : P3} (a : Scl p p') (b : Scl q q') : bef p q = bef p' q' := by
  obtain ⟨k, k0, e1, e2⟩ := scl_g a b
  have x := sgn_par (l := 1) (m := k) (x := gx p q) (y := gx p' q') (by decide) k0 (by simp [e1])
  have y := sgn_par (l := 1) (m := k) (x := gy p q) (y := gy p' q') (by decide) k0 (by simp [e2])
  rw [Bool.eq_iff_iff, bef_iff, bef_iff]
  omega
theorem pos_sgn {k a b : Int} (hk : 0 < k) (e : a = k * b) : (0 ≤ a ↔ 0 ≤ b) ∧ (a = 0 ↔ b = 0) := by
  have z := sgn_par (l := 1) (m := k) (x := a) (y := b) (by decide) hk (by simp [e])
  omega
/-! in the least polygon, by all ways between two points -/
structure LawIn (S : List P3) (m : P3) : Prop where
  sup : ∀ p ∈ S, ∀ q ∈ S, (bef p q = true ∨ bef q p = true) → (∀ r ∈ S, 0 ≤ tn p q r) → 0 ≤ tn p q m
  flat : (∀ p ∈ S, ∀ q ∈ S, ∀ r ∈ S, tn p q r = 0) → (∀ l ∈ S, (∀ q ∈ S, bef q l = false) → bef m l = false) ∧ ∀ l ∈ S, (∀ q ∈ S, bef l q = false) → bef l m = false
theorem lawIn_scl {S P : List P3} {m : P3} (h1 : ∀ p ∈ P, ∃ p' ∈ S, Scl p p') (h2 : ∀ p' ∈ S, ∃ p ∈ P, Scl p p') : LawIn P m ↔ LawIn S m := by
  constructor
  · intro h
    refine ⟨fun p' hp' q' hq' b s => ?_, fun f => ⟨fun l' hl' z => ?_, fun l' hl' z => ?_⟩⟩
    · obtain ⟨p, hp, sp⟩ := h2 p' hp'
      obtain ⟨q, hq, sq⟩ := h2 q' hq'
      obtain ⟨k, k0, e⟩ := scl_tn sp sq (scl_refl m)
      rw [← (pos_sgn k0 e).1]
      refine h.sup p hp q hq (by rw [scl_bef sp sq, scl_bef sq sp]; exact b) fun r hr => ?_
      obtain ⟨r', hr', sr⟩ := h1 r hr
      obtain ⟨k, k0, e⟩ := scl_tn sp sq sr
      rw [(pos_sgn k0 e).1]
      exact s r' hr'
    · obtain ⟨l, hl, sl⟩ := h2 l' hl'
      rw [← scl_bef (scl_refl m) sl]
      refine (h.flat fun p hp q hq r hr => ?_).1 l hl fun q hq => ?_
      · obtain ⟨p', hp', sp⟩ := h1 p hp
        obtain ⟨q', hq', sq⟩ := h1 q hq
        obtain ⟨r', hr', sr⟩ := h1 r hr
        obtain ⟨k, k0, e⟩ := scl_tn sp sq sr
        rw [e, f p' hp' q' hq' r' hr']; simp
      · obtain ⟨q', hq', sq⟩ := h1 q hq
        rw [scl_bef sq sl]; exact z q' hq'
    · obtain ⟨l, hl, sl⟩ := h2 l' hl'
      rw [← scl_bef sl (scl_refl m)]
      refine (h.flat fun p hp q hq r hr => ?_).2 l hl fun q hq => ?_
      · obtain ⟨p', hp', sp⟩ := h1 p hp
        obtain ⟨q', hq', sq⟩ := h1 q hq
        obtain ⟨r', hr', sr⟩ := h1 r hr
        obtain ⟨k, k0, e⟩ := scl_tn sp sq sr
        rw [e, f p' hp' q' hq' r' hr']; simp
      · obtain ⟨q', hq', sq⟩ := h1 q hq
        rw [scl_bef sl sq]; exact z q' hq'
  · intro h
    refine ⟨fun p hp q hq b s => ?_, fun f => ⟨fun l hl z => ?_, fun l hl z => ?_⟩⟩
    · obtain ⟨p', hp', sp⟩ := h1 p hp
      obtain ⟨q', hq', sq⟩ := h1 q hq
      obtain ⟨k, k0, e⟩ := scl_tn sp sq (scl_refl m)
      rw [(pos_sgn k0 e).1]
      refine h.sup p' hp' q' hq' (by rw [← scl_bef sp sq, ← scl_bef sq sp]; exact b) fun r' hr' => ?_
      obtain ⟨r, hr, sr⟩ := h2 r' hr'
      obtain ⟨k, k0, e⟩ := scl_tn sp sq sr
      rw [← (pos_sgn k0 e).1]
      exact s r hr
    · obtain ⟨l', hl', sl⟩ := h1 l hl
      rw [scl_bef (scl_refl m) sl]
      refine (h.flat fun p' hp' q' hq' r' hr' => ?_).1 l' hl' fun q' hq' => ?_
      · obtain ⟨p, hp, sp⟩ := h2 p' hp'
        obtain ⟨q, hq, sq⟩ := h2 q' hq'
        obtain ⟨r, hr, sr⟩ := h2 r' hr'
        obtain ⟨k, k0, e⟩ := scl_tn sp sq sr
        rw [← (pos_sgn k0 e).2]; exact f p hp q hq r hr
      · obtain ⟨q, hq, sq⟩ := h2 q' hq'
        rw [← scl_bef sq sl]; exact z q hq
    · obtain ⟨l', hl', sl⟩ := h1 l hl
      rw [scl_bef sl (scl_refl m)]
      refine (h.flat fun p' hp' q' hq' r' hr' => ?_).2 l' hl' fun q' hq' => ?_
      · obtain ⟨p, hp, sp⟩ := h2 p' hp'
        obtain ⟨q, hq, sq⟩ := h2 q' hq'
        obtain ⟨r, hr, sr⟩ := h2 r' hr'
        obtain ⟨k, k0, e⟩ := scl_tn sp sq sr
        rw [← (pos_sgn k0 e).2]; exact f p hp q hq r hr
      · obtain ⟨q, hq, sq⟩ := h2 q' hq'
        rw [← scl_bef sl sq]; exact z q hq
end Geo
namespace Geo
def at0 (cs : List P3) (i : Nat) : P3 := cs.getD i (0, 0, 1)
theorem at0_eq {cs : List P3} {i : Nat} (h : i < cs.length) : cs[i]? = some (at0 cs i) := by
  unfold at0
  rw [List.getD_eq_getElem?_getD, List.getElem?_eq_getElem h]; rfl
def afterOf (cs : List P3) (i : Nat) : P3 := at0 cs (if i + 1 < cs.length then i + 1 else 0)
theorem after_eq {cs : List P3} {i : Nat} (h : i < cs.length) : (cs ++ cs.take 1)[i + 1]? = some (afterOf cs i) := by
  unfold afterOf
  split
  · rename_i z
    rw [List.getElem?_append_left z, at0_eq z]
  · rename_i z
    rw [List.getElem?_append_right (by omega), show i + 1 - cs.length = 0 by omega, List.getElem?_take]
    simp
    rw [← at0_eq (by omega)]
/-- to the left of each way from a corner to the next one -/
def Edges (cs : List P3) (m : P3) : Prop := ∀ i, i < cs.length → 0 ≤ tn (at0 cs i) (afterOf cs i) m
theorem fan_from {cs : List P3} {m : P3} (h3 : 3 ≤ cs.length) (E : Edges cs m) : ∀ (d j : Nat), 1 ≤ j → j + 1 + d = cs.length - 1 → 0 ≤ tn (at0 cs 0) (at0 cs j) m →
    ∃ k, j ≤ k ∧ k + 1 < cs.length ∧ (∀ i, j ≤ i → i < k → 0 < tn (at0 cs 0) (at0 cs (i + 1)) m) ∧ 0 ≤ tn (at0 cs 0) (at0 cs k) m ∧ tn (at0 cs 0) (at0 cs (k + 1)) m ≤ 0
  | 0, j, h1, e, hj => by
    refine ⟨j, Nat.le_refl _, by omega, fun i a b => by omega, hj, ?_⟩
    have := E (j + 1) (by omega)
    unfold afterOf at this
    rw [if_neg (by omega)] at this
    rw [tn_swap2] at this
    omega
  | d + 1, j, h1, e, hj => by
    by_cases z : 0 < tn (at0 cs 0) (at0 cs (j + 1)) m
    · obtain ⟨k, a, b, c, x, y⟩ := fan_from h3 E d (j + 1) (by omega) (by omega) (by omega)
      refine ⟨k, by omega, b, fun i i1 i2 => ?_, x, y⟩
      by_cases q : i = j
      · rw [q]; exact z
      · exact c i (by omega) i2
    · exact ⟨j, Nat.le_refl _, by omega, fun i a b => by omega, hj, by omega⟩
theorem fan_ok {cs : List P3} {m : P3} (h3 : 3 ≤ cs.length) (E : Edges cs m) :
    ∃ k, 1 ≤ k ∧ k + 1 < cs.length ∧ (∀ i, 1 ≤ i → i < k → 0 < tn (at0 cs 0) (at0 cs (i + 1)) m) ∧ 0 ≤ tn (at0 cs 0) (at0 cs k) m ∧ tn (at0 cs 0) (at0 cs (k + 1)) m ≤ 0 := by
  refine fan_from h3 E (cs.length - 3) 1 (Nat.le_refl _) (by omega) ?_
  have := E 0 (by omega)
  unfold afterOf at this
  rw [if_pos (by omega)] at this
  exact this
theorem at0_mem {cs : List P3} {i : Nat} (h : i < cs.length) : at0 cs i ∈ cs := List.mem_of_getElem? (at0_eq h)
theorem at0_inj {cs : List P3} (nd : cs.Nodup) {i j : Nat} (hi : i < cs.length) (hj : j < cs.length) (e : at0 cs i = at0 cs j) : i = j := nodup_ix nd (at0_eq hi) (e ▸ at0_eq hj)
theorem tn_lin (p q a b c m : P3) : tn p q m * tn a b c = tn p q a * tn m b c + tn p q b * tn a m c + tn p q c * tn a b m := by unfold tn; grind
theorem edges_sup {S cs : List P3} (hS : Sep S) (C : Cor S cs) (h3 : 3 ≤ cs.length) {m : P3} (E : Edges cs m) {p q : P3} (s : ∀ r ∈ S, 0 ≤ tn p q r) : 0 ≤ tn p q m := by
  obtain ⟨k, k1, k2, _, k3, k4⟩ := fan_ok h3 E
  have hk : k < cs.length := by omega
  have ek := E k hk
  unfold afterOf at ek
  rw [if_pos (by omega)] at ek
  have st : 0 < tn (at0 cs k) (at0 cs (k + 1)) (at0 cs 0) := by
    refine C.strict hS (by omega) (at0_eq hk) (b := at0 cs (k + 1)) ?_ (at0_mem (by omega)) (fun e => ?_) (fun e => ?_)
    · rw [after_eq hk]; unfold afterOf; rw [if_pos (by omega)]
    · have := at0_inj C.nd (by omega) hk e; omega
    · have := at0_inj C.nd (by omega) (by omega) e; omega
  rw [← tn_cyc] at st
  have id := tn_lin p q (at0 cs 0) (at0 cs k) (at0 cs (k + 1)) m
  have m1 := Int.mul_nonneg (s _ (C.mem _ (at0_mem (i := 0) (by omega)))) (show 0 ≤ tn m (at0 cs k) (at0 cs (k + 1)) by rw [tn_cyc]; exact ek)
  have m2 := Int.mul_nonneg (s _ (C.mem _ (at0_mem (i := k) (by omega)))) (show 0 ≤ tn (at0 cs 0) m (at0 cs (k + 1)) by rw [tn_swap]; omega)
  have m3 := Int.mul_nonneg (s _ (C.mem _ (at0_mem (i := k + 1) (by omega)))) (show 0 ≤ tn (at0 cs 0) (at0 cs k) m from k3)
  refine (pos_cancel st).1 ?_
  rw [Int.mul_comm, id]
  omega
/-- what the sides say of a mix, by the number of corners -/
def ProgIn (cs : List P3) (m : P3) : Prop := match cs with
  | [] => False
  | [p] => gx p m = 0 ∧ gy p m = 0
  | [p, q] => tn p q m = 0 ∧ gx p q * gx q m + gy p q * gy q m ≤ 0 ∧ 0 ≤ gx p q * gx p m + gy p q * gy p m
  | cs => Edges cs m
theorem bef_of_ne {S : List P3} (hS : Sep S) {p q : P3} (hp : p ∈ S) (hq : q ∈ S) (n : p ≠ q) : bef p q = true ∨ bef q p = true := by
  cases z : bef p q with
  | true => exact .inl rfl
  | false =>
    cases y : bef q p with
    | true => exact .inr rfl
    | false => exact absurd (bef_tot hS hp hq z y) n
theorem lin0 {p q a b m : P3} (n : ¬ (gx p q = 0 ∧ gy p q = 0)) (h1 : tn p q a = 0) (h2 : tn p q b = 0) (h3 : tn p q m = 0) : tn a b m = 0 := by
  have e1 : gx p q * tn a b m = (a.2.2 * b.1 - a.1 * b.2.2) * tn p q m + (m.1 * a.2.2 - m.2.2 * a.1) * (-tn p q b) + (b.2.2 * m.1 - b.1 * m.2.2) * tn p q a := by unfold gx tn; grind
  have e2 : gy p q * tn a b m = (a.2.2 * b.2.1 - a.2.1 * b.2.2) * tn p q m + (m.2.1 * a.2.2 - m.2.2 * a.2.1) * (-tn p q b) + (b.2.2 * m.2.1 - b.2.1 * m.2.2) * tn p q a := by unfold gy tn; grind
  rw [h1, h2, h3] at e1 e2
  have f1 : gx p q * tn a b m = 0 := by rw [e1]; simp
  have f2 : gy p q * tn a b m = 0 := by rw [e2]; simp
  rcases Int.mul_eq_zero.mp f1 with z | z
  · rcases Int.mul_eq_zero.mp f2 with y | y
    · exact absurd ⟨z, y⟩ n
    · exact y
  · exact z
theorem dot_sgn {p q m : P3} (b : bef p q = true) (z : gx p q * gy p m - gy p q * gx p m = 0) : (0 ≤ gx p q * gx p m + gy p q * gy p m) ↔ bef m p = false := by
  rw [bef_iff] at b
  rw [nbef_iff, gx_neg m p, gy_neg m p]
  constructor
  · intro h
    refine Decidable.byContradiction fun n => ?_
    have := dot_neg (a := gx p q) (b := gy p q) (c := gx p m) (d := gy p m) b (by omega) z
    omega
  · intro h
    by_cases o : gx p m = 0 ∧ gy p m = 0
    · rw [o.1, o.2]; simp
    · have := dot_neg (a := gx p q) (b := gy p q) (c := -gx p m) (d := -gy p m) b (by omega) (by grind)
      rw [Int.mul_neg, Int.mul_neg] at this
      omega
theorem dot_sgn2 {p q m : P3} (hq : 0 < q.2.2) (b : bef p q = true) (z : tn p q m = 0) : (gx p q * gx q m + gy p q * gy q m ≤ 0) ↔ bef q m = false := by
  have b' := b
  rw [bef_iff] at b
  have z' : gx p q * gy q m - gy p q * gx q m = 0 := by rw [← tn_cross2, z]; simp
  rw [nbef_iff]
  constructor
  · intro h
    refine Decidable.byContradiction fun n => ?_
    have := dot_neg (a := gx p q) (b := gy p q) (c := -gx q m) (d := -gy q m) b (by omega) (by grind)
    rw [Int.mul_neg, Int.mul_neg] at this
    omega
  · intro h
    by_cases o : gx q m = 0 ∧ gy q m = 0
    · rw [o.1, o.2]; simp
    · have := dot_neg (a := gx p q) (b := gy p q) (c := gx q m) (d := gy q m) b (by omega) z'
      omega
theorem prog_law {S cs : List P3} (hS : Sep S) (C : Cor S cs) (m : P3) : ProgIn cs m ↔ LawIn S m := by
  match cs, C with
  | [], C => exact absurd C.pos (by simp)
  | [p], C =>
    have o := C.one hS
    have mp := C.mem p (by simp)
    have fl : ∀ a ∈ S, ∀ b ∈ S, ∀ c ∈ S, tn a b c = 0 := fun a ha b hb c hc => by rw [o a ha, o b hb]; exact tn_self3 _ _
    show gx p m = 0 ∧ gy p m = 0 ↔ _
    constructor
    · intro h
      refine ⟨fun a ha b hb n _ => ?_, fun _ => ⟨fun l hl _ => ?_, fun l hl _ => ?_⟩⟩
      · rw [o a ha, o b hb, bef_irr] at n; simp at n
      · rw [o l hl, nbef_iff, gx_neg, gy_neg]; omega
      · rw [o l hl, nbef_iff]; omega
    · intro h
      obtain ⟨f1, f2⟩ := h.flat fl
      have a := f1 p mp fun q hq => by rw [o q hq]; exact bef_irr p
      have b := f2 p mp fun q hq => by rw [o q hq]; exact bef_irr p
      rw [nbef_iff] at a b
      rw [gx_neg m p, gy_neg m p] at a
      omega
  | [p, q], C =>
    obtain ⟨pq, b, o⟩ := C.two hS
    have mp := C.mem p (by simp)
    have mq := C.mem q (by simp)
    have nz : ¬ (gx p q = 0 ∧ gy p q = 0) := fun z => pq (hS.sep p mp q mq z.1 z.2)
    have fl : ∀ a ∈ S, ∀ b ∈ S, ∀ c ∈ S, tn a b c = 0 := fun a ha b hb c hc => lin0 nz (o a ha).1 (o b hb).1 (o c hc).1
    show (tn p q m = 0 ∧ gx p q * gx q m + gy p q * gy q m ≤ 0 ∧ 0 ≤ gx p q * gx p m + gy p q * gy p m) ↔ _
    have hq := hS.pos q mq
    constructor
    · rintro ⟨z, d1, d2⟩
      rw [dot_sgn2 hq b z] at d1
      rw [dot_sgn b (by rw [← tn_cross, z]; simp)] at d2
      refine ⟨fun x hx y hy _ _ => ?_, fun _ => ⟨fun l hl k => ?_, fun l hl k => ?_⟩⟩
      · rw [lin0 nz (o x hx).1 (o y hy).1 z]; exact Int.le_refl 0
      · rw [bef_tot hS hl mp ((o l hl).2.1) (k p mp)]; exact d2
      · rw [bef_tot hS hl mq (k q mq) ((o l hl).2.2)]; exact d1
    · intro h
      have s1 := h.sup p mp q mq (.inl b) fun r hr => by rw [(o r hr).1]; exact Int.le_refl 0
      have s2 := h.sup q mq p mp (.inr b) fun r hr => by rw [tn_swap2, (o r hr).1]; simp
      rw [tn_swap2] at s2
      have z : tn p q m = 0 := by omega
      obtain ⟨f1, f2⟩ := h.flat fl
      refine ⟨z, ?_, ?_⟩
      · rw [dot_sgn2 hq b z]; exact f2 q mq fun r hr => (o r hr).2.2
      · rw [dot_sgn b (by rw [← tn_cross, z]; simp)]; exact f1 p mp fun r hr => (o r hr).2.1
  | p :: q :: r :: l, C =>
    show Edges (p :: q :: r :: l) m ↔ _
    generalize hcs : p :: q :: r :: l = cs at C
    have h3 : 3 ≤ cs.length := by rw [← hcs]; simp
    constructor
    · intro E
      refine ⟨fun x hx y hy _ s => edges_sup hS C h3 E s, fun f => ?_⟩
      exfalso
      have st := C.strict hS (by omega) (at0_eq (i := 0) (by omega)) (after_eq (by omega)) (at0_mem (i := 2) (by omega)) (fun e => by have := at0_inj C.nd (by omega) (by omega) e; omega)
        (fun e => by unfold afterOf at e; rw [if_pos (by omega)] at e; have := at0_inj C.nd (by omega) (by omega) e; omega)
      have ma := (C.next_ne (by omega) (at0_eq (i := 0) (by omega)) (after_eq (by omega))).2
      rw [f _ (C.mem _ (at0_mem (by omega))) _ (C.mem _ ma) _ (C.mem _ (at0_mem (by omega)))] at st
      omega
    · intro h i hi
      obtain ⟨n, mb⟩ := C.next_ne (by omega) (at0_eq hi) (after_eq hi)
      have m1 := C.mem _ (at0_mem hi)
      have m2 := C.mem _ mb
      exact h.sup _ m1 _ m2 (bef_of_ne hS m1 m2 n) (C.side i _ _ (at0_eq hi) (after_eq hi))
end Geo
namespace Mx
open PySem PySem.Spec PyProof.Rows L2 Geo
theorem fun_rt {k n : Nat} {xs : XS} {ds : List Dt} {D : Ds} {d : Dt} (hl : ds.length = k) (hD : ds.map Sl.sh ++ List.replicate (n - ds.length) .no = D) (h : xs D = .rt d) : funD k n xs ds = .ok d := by
  unfold funD runD; rw [if_pos hl, hD, h]
theorem fun_nx {k n : Nat} {xs : XS} {ds : List Dt} {D D' : Ds} (hl : ds.length = k) (hD : ds.map Sl.sh ++ List.replicate (n - ds.length) .no = D) (h : xs D = .nx D') : funD k n xs ds = .ok .non := by
  unfold funD runD; rw [if_pos hl, hD, h]
theorem fun_ex {k n : Nat} {xs : XS} {ds : List Dt} {D D' : Ds} {c : Str} {fs : List (Str × Dt)} (hl : ds.length = k) (hD : ds.map Sl.sh ++ List.replicate (n - ds.length) .no = D) (h : xs D = .ex c fs D') : funD k n xs ds = .ex c fs := by
  unfold funD runD; rw [if_pos hl, hD, h]
theorem seq_nx' {s r : XS} {D D' : Ds} {o : Out} (h1 : s D = .nx D') (h2 : r D' = o) : xsSeq s r D = o := by
  show (s D).seq r = o
  rw [h1]; exact h2
theorem seq_rt' {s r : XS} {D : Ds} {d : Dt} (h1 : s D = .rt d) : xsSeq s r D = .rt d := by
  show (s D).seq r = _
  rw [h1]; rfl
/-! ### sizes -/
@[irreducible] def Bt (n : Nat) (i : Int) : Prop := i.natAbs < 2 ^ n
theorem Bt.of {n : Nat} {i : Int} (h : i.natAbs < 2 ^ n) : Bt n i := by unfold Bt; exact h
theorem Bt.lt {n : Nat} {i : Int} (h : Bt n i) : i.natAbs < 2 ^ n := by unfold Bt at h; exact h
theorem Bt.mul {m n : Nat} {i j : Int} (a : Bt m i) (b : Bt n j) : Bt (m + n) (i * j) := by
  unfold Bt at *
  rw [Int.natAbs_mul, Nat.pow_add]
  exact Nat.mul_lt_mul'' a b
theorem Bt.mono {m n : Nat} {i : Int} (a : Bt m i) (h : m ≤ n) : Bt n i := .of (Nat.lt_of_lt_of_le a.lt (Nat.pow_le_pow_right (by decide) h))
theorem Bt.add {m : Nat} {i j : Int} (a : Bt m i) (b : Bt m j) : Bt (m + 1) (i + j) := by
  unfold Bt at *
  rw [Nat.pow_succ]
  have := Int.natAbs_add_le i j
  omega
theorem Bt.neg {m : Nat} {i : Int} (a : Bt m i) : Bt m (-i) := by unfold Bt at *; rw [Int.natAbs_neg]; exact a
theorem Bt.sub {m : Nat} {i j : Int} (a : Bt m i) (b : Bt m j) : Bt (m + 1) (i - j) := by rw [Int.sub_eq_add_neg]; exact a.add b.neg
theorem Bt.line {n : Nat} {i : Int} (a : Bt n i) (h : n ≤ 4096) : i.natAbs < lineB := lt_lineB a.lt h
theorem cmB {m n : Nat} {i j : Int} (a : Bt m i) (b : Bt n j) (hm : m ≤ 4096 := by decide) (hn : n ≤ 4096 := by decide) : CMulB i j := cmulB_of (a.line hm) (b.line hn)
def Sm (b : Nat) (p : P3) : Prop := Bt b p.1 ∧ Bt b p.2.1 ∧ Bt b p.2.2
theorem Sm.mono {m n : Nat} {p : P3} (a : Sm m p) (h : m ≤ n) : Sm n p := ⟨a.1.mono h, a.2.1.mono h, a.2.2.mono h⟩
/-! ### points -/
def dP (p : P3) : Dt := .tup [.int p.1, .int p.2.1, .int p.2.2]
@[simp] theorem dP_0 (p : P3) : dIx (dP p) (.int 0) = .ok (.int p.1) := rfl
@[simp] theorem dP_1 (p : P3) : dIx (dP p) (.int 1) = .ok (.int p.2.1) := rfl
@[simp] theorem dP_2 (p : P3) : dIx (dP p) (.int 2) = .ok (.int p.2.2) := rfl
theorem dP_fl (p : P3) : (dP p).fl 1 := fl_tup fun d hd => by
  simp at hd
  rcases hd with rfl | rfl | rfl <;> exact fl_int _ _
@[simp] theorem dP_cmp (p : P3) : cmpOk (dP p) = true := fl_cmp (dP_fl p) (by decide)
theorem dP_eqv (p q : P3) : dEqv (dP p) (dP q) = decide (p = q) := by
  obtain ⟨a, b, c⟩ := p
  obtain ⟨d, e, f⟩ := q
  simp only [dEqv, dP, Dt.py, pyL, PyData.eqv, PyData.eqvAll]
  rw [Bool.eq_iff_iff]
  simp
@[simp] theorem dEq_P (p q : P3) : dEq (dP p) (dP q) = .ok (.bl (decide (p = q))) := by simp [dEq, dP_eqv]
@[simp] theorem dNe_P (p q : P3) : dNe (dP p) (dP q) = .ok (.bl (!decide (p = q))) := by simp [dNe, dP_eqv]
theorem dP_inj {p q : P3} (h : dP p = dP q) : p = q := by
  obtain ⟨a, b, c⟩ := p
  obtain ⟨d, e, f⟩ := q
  simp [dP] at h
  obtain ⟨rfl, rfl, rfl⟩ := h
  rfl
abbrev B0 : Nat := 300
theorem gap0 {p q : P3} (hp : Sm B0 p) (hq : Sm B0 q) : m__gap [dP p, dP q, .int 0] = .ok (.int (gx p q)) := by
  have c1 := cmB hq.1 hp.2.2
  have c2 := cmB hp.1 hq.2.2
  simp [m__gap, funD, runD, xs__gap, c1, c2, gx]
theorem gap1 {p q : P3} (hp : Sm B0 p) (hq : Sm B0 q) : m__gap [dP p, dP q, .int 1] = .ok (.int (gy p q)) := by
  have c1 := cmB hq.2.1 hp.2.2
  have c2 := cmB hp.2.1 hq.2.2
  simp [m__gap, funD, runD, xs__gap, c1, c2, gy]
theorem gx_bt {b : Nat} {p q : P3} (hp : Sm b p) (hq : Sm b q) : Bt (b + b + 1) (gx p q) := (hq.1.mul hp.2.2).sub (hp.1.mul hq.2.2)
theorem gy_bt {b : Nat} {p q : P3} (hp : Sm b p) (hq : Sm b q) : Bt (b + b + 1) (gy p q) := (hq.2.1.mul hp.2.2).sub (hp.2.1.mul hq.2.2)
theorem before_eq {p q : P3} (hp : Sm B0 p) (hq : Sm B0 q) : m__is_before [dP p, dP q] = .ok (.bl (bef p q)) := by
  have e0 := gap0 hp hq
  have e1 := gap1 hp hq
  by_cases h : gx p q = 0
  · simp [m__is_before, funD, runD, xs__is_before, e0, e1, bef, h, List.replicate]
  · simp [m__is_before, funD, runD, xs__is_before, e0, e1, bef, h, List.replicate]
theorem tn_bt {b : Nat} {p q r : P3} (hp : Sm b p) (hq : Sm b q) (hr : Sm b r) : Bt (b + (b + b + 1) + 1 + 1) (tn p q r) := by
  unfold tn
  exact ((hp.1.mul ((hq.2.1.mul hr.2.2).sub (hq.2.2.mul hr.2.1))).add (hp.2.1.mul ((hq.2.2.mul hr.1).sub (hq.1.mul hr.2.2)))).add ((hp.2.2.mul ((hq.1.mul hr.2.1).sub (hq.2.1.mul hr.1))).mono (by omega))
theorem turn_eq {p q r : P3} (hp : Sm B0 p) (hq : Sm B0 q) (hr : Sm B0 r) : m__turn [dP p, dP q, dP r] = .ok (.int (tn p q r)) := by
  have c1 := cmB hq.2.1 hr.2.2
  have c2 := cmB hq.2.2 hr.2.1
  have c3 := cmB hq.2.2 hr.1
  have c4 := cmB hq.1 hr.2.2
  have c5 := cmB hq.1 hr.2.1
  have c6 := cmB hq.2.1 hr.1
  have d1 := cmB hp.1 ((hq.2.1.mul hr.2.2).sub (hq.2.2.mul hr.2.1))
  have d2 := cmB hp.2.1 ((hq.2.2.mul hr.1).sub (hq.1.mul hr.2.2))
  have d3 := cmB hp.2.2 ((hq.1.mul hr.2.1).sub (hq.2.1.mul hr.1))
  simp [m__turn, funD, runD, xs__turn, c1, c2, c3, c4, c5, c6, d1, d2, d3, tn]
theorem sooner_eq {c q a : P3} (hc : Sm B0 c) (hq : Sm B0 q) (ha : Sm B0 a) : m__comes_sooner [dP c, dP q, dP a] = .ok (.bl (sooner c q a)) := by
  have e0 := turn_eq hc ha hq
  have e1 := before_eq hc ha
  have e2 := before_eq ha hq
  have eb : ∀ x y : Bool, dEq (.bl x) (.bl y) = .ok (.bl (x == y)) := fun x y => by
    have : dEqv (.bl x) (.bl y) = (x == y) := by cases x <;> cases y <;> rfl
    simp [dEq, this]
  by_cases h : tn c a q = 0
  · simp [m__comes_sooner, funD, runD, xs__comes_sooner, e0, e1, e2, h, sooner, eb, List.replicate]
  · simp [m__comes_sooner, funD, runD, xs__comes_sooner, e0, e1, e2, h, sooner, eb, List.replicate]
/-! ### the first corner -/
theorem least_loop {l : List P3} (h : ∀ p ∈ l, Sm B0 p) (s0 : Sl) : ∀ (a : P3) (s2 : Sl), Sm B0 a → ∃ t2, xLoop (xgName 2) xb__least_1 (l.map dP) [s0, .sh (dP a), s2] = .nx [s0, .sh (dP (l.foldl leastStep a)), t2] := by
  induction l with
  | nil => exact fun a s2 _ => ⟨s2, rfl⟩
  | cons q l ih =>
    intro a s2 ha
    have hq := h q List.mem_cons_self
    have e := before_eq hq ha
    rw [List.map_cons, loop_cons, List.foldl_cons]
    cases b : bef q a with
    | true =>
      have s : leastStep a q = q := by unfold leastStep; rw [if_pos b]
      rw [s]
      obtain ⟨t2, i⟩ := ih (fun p m => h p (List.mem_cons_of_mem _ m)) q (.sh (dP q)) hq
      exact ⟨t2, by simpa [xb__least_1, e, b] using i⟩
    | false =>
      have s : leastStep a q = a := by unfold leastStep; rw [if_neg (by rw [b]; simp)]
      rw [s]
      obtain ⟨t2, i⟩ := ih (fun p m => h p (List.mem_cons_of_mem _ m)) a (.sh (dP q)) ha
      exact ⟨t2, by simpa [xb__least_1, e, b] using i⟩
theorem least_eq {l : List P3} (h : ∀ p ∈ l, Sm B0 p) (hn : l ≠ []) : m__least [.lst (l.map dP)] = .ok (dP (Geo.least l)) := by
  match l, hn with
  | p :: r, _ =>
    obtain ⟨t2, i⟩ := least_loop h (.sh (.lst ((p :: r).map dP))) p .no (h p List.mem_cons_self)
    refine fun_rt (D := [.sh (.lst ((p :: r).map dP)), .no, .no]) rfl rfl ?_
    refine seq_nx' (D' := [.sh (.lst ((p :: r).map dP)), .sh (dP p), .no]) (by simp [atI, ixN]) ?_
    refine seq_nx' (by simp only [xsFor, xItems, xVar_ap]; exact i) ?_
    simp [Geo.least]
/-! ### the next one -/
theorem next_loop {l : List P3} (h : ∀ p ∈ l, Sm B0 p) {c : P3} (hc : Sm B0 c) (s0 : Sl) : ∀ (a : P3) (s3 : Sl), Sm B0 a → ∃ t3, xLoop (xgName 3) xb__next_corner_1 (l.map dP) [s0, .sh (dP c), .sh (dP a), s3] = .nx [s0, .sh (dP c), .sh (dP (l.foldl (stepN c) a)), t3] := by
  induction l with
  | nil => exact fun a s3 _ => ⟨s3, rfl⟩
  | cons q l ih =>
    intro a s3 ha
    have hq := h q List.mem_cons_self
    have e := sooner_eq hc hq ha
    rw [List.map_cons, loop_cons, List.foldl_cons]
    have h' := fun p m => h p (List.mem_cons_of_mem q m)
    by_cases n : q = c
    · obtain ⟨t3, i⟩ := ih h' a (.sh (dP q)) ha
      have s : stepN c a q = a := by unfold stepN; rw [if_neg (fun z => z.1 n)]
      rw [s]
      exact ⟨t3, by simpa [xb__next_corner_1, n] using i⟩
    · by_cases b : a = c
      · obtain ⟨t3, i⟩ := ih h' q (.sh (dP q)) hq
        have s : stepN c a q = q := by unfold stepN; rw [if_pos ⟨n, .inl b⟩]
        rw [s]
        exact ⟨t3, by simpa [xb__next_corner_1, n, b] using i⟩
      · cases so : sooner c q a with
        | true =>
          obtain ⟨t3, i⟩ := ih h' q (.sh (dP q)) hq
          have s : stepN c a q = q := by unfold stepN; rw [if_pos ⟨n, .inr so⟩]
          rw [s]
          exact ⟨t3, by simpa [xb__next_corner_1, n, b, e, so] using i⟩
        | false =>
          obtain ⟨t3, i⟩ := ih h' a (.sh (dP q)) ha
          have s : stepN c a q = a := by unfold stepN; rw [if_neg (fun z => by rcases z.2 with z | z; exact b z; rw [so] at z; cases z)]
          rw [s]
          exact ⟨t3, by simpa [xb__next_corner_1, n, b, e, so] using i⟩
theorem next_eq {l : List P3} (h : ∀ p ∈ l, Sm B0 p) {c : P3} (hc : Sm B0 c) : m__next_corner [.lst (l.map dP), dP c] = .ok (dP (next l c)) := by
  obtain ⟨t3, i⟩ := next_loop h hc (.sh (.lst (l.map dP))) c .no hc
  refine fun_rt (D := [.sh (.lst (l.map dP)), .sh (dP c), .no, .no]) rfl rfl ?_
  refine seq_nx' (D' := [.sh (.lst (l.map dP)), .sh (dP c), .sh (dP c), .no]) (by simp) ?_
  refine seq_nx' (by simp only [xsFor, xItems, xVar_ap]; exact i) ?_
  simp [next]
end Mx
namespace Mx
open PySem PySem.Spec PyProof.Rows L2 Geo
theorem fold_mem {l : List P3} {c : P3} : ∀ (a : P3), l.foldl (stepN c) a = a ∨ l.foldl (stepN c) a ∈ l := by
  induction l with
  | nil => exact fun a => .inl rfl
  | cons q l ih =>
    intro a
    rw [List.foldl_cons]
    rcases ih (stepN c a q) with e | m
    · rw [e]
      unfold stepN
      split
      · exact .inr List.mem_cons_self
      · exact .inl rfl
    · exact .inr (List.mem_cons_of_mem _ m)
theorem next_sm {l : List P3} (h : ∀ p ∈ l, Sm B0 p) {c : P3} (hc : Sm B0 c) : Sm B0 (next l c) := by
  unfold next
  rcases fold_mem (l := l) (c := c) c with e | m
  · rw [e]; exact hc
  · exact h _ m
theorem round_loop {l : List P3} (h : ∀ p ∈ l, Sm B0 p) {s : P3} : ∀ (n : Nat) (c : P3) (acc cs : List P3), Sm B0 c → acc.length + n ≤ 1000 → goRound l s n c acc = some cs →
    ∃ t3, xWh xt__corners_of_1 xb__corners_of_1 n [.sh (.lst (l.map dP)), .sh (dP s), .ol (acc.map dP), .sh (dP c)] = .nx [.sh (.lst (l.map dP)), .sh (dP s), .ol (cs.map dP), t3]
  | 0, c, acc, cs, _, _, e => by simp [goRound] at e
  | n + 1, c, acc, cs, hc, hn, e => by
    unfold goRound at e
    by_cases k : c = s
    · rw [if_pos k] at e
      cases e
      exact ⟨.sh (dP s), by simp [xWh, xt__corners_of_1, k]⟩
    · rw [if_neg k] at e
      obtain ⟨t3, i⟩ := round_loop h n (next l c) (acc ++ [c]) cs (next_sm h hc) (by simp; omega) e
      refine ⟨t3, ?_⟩
      have en := next_eq h hc
      have la : acc.length < 1000000 := by omega
      simp only [xWh, xt__corners_of_1, xb__corners_of_1]
      simp [k, en, la]
      simpa using i
theorem corners_eq {l : List P3} (hS : Sep l) (h : ∀ p ∈ l, Sm B0 p) (hn : l ≠ []) (hl : l.length ≤ 90) : m__corners_of [.lst (l.map dP)] = .ok (.lst ((corners l).map dP)) := by
  obtain ⟨_, g⟩ := corners_ok hS hn
  have g := g 100 (by omega)
  have hs := h _ (least_ok hS hn).1
  obtain ⟨t3, i⟩ := round_loop h 100 _ [Geo.least l] _ (next_sm h hs) (by simp) g
  refine fun_rt (D := [.sh (.lst (l.map dP)), .no, .no, .no]) rfl rfl ?_
  refine seq_nx' (D' := [.sh (.lst (l.map dP)), .sh (dP (Geo.least l)), .no, .no]) (by simp [least_eq h hn]) ?_
  refine seq_nx' (D' := [.sh (.lst (l.map dP)), .sh (dP (Geo.least l)), .ol ([Geo.least l].map dP), .no]) (by simp) ?_
  refine seq_nx' (D' := [.sh (.lst (l.map dP)), .sh (dP (Geo.least l)), .ol ([Geo.least l].map dP), .sh (dP (next l (Geo.least l)))]) (by simp [next_eq h hs]) ?_
  refine seq_nx' i ?_
  simp [Frz, Sl.frz]
/-! ### lowest terms -/
def g3 (s : P3) : Nat := (s.1.natAbs.gcd s.2.1.natAbs).gcd s.2.2.natAbs
def low3 (s : P3) : P3 := (s.1.fdiv (g3 s), s.2.1.fdiv (g3 s), s.2.2.fdiv (g3 s))
theorem g3_dvd (s : P3) : ((g3 s : Nat) : Int) ∣ s.1 ∧ ((g3 s : Nat) : Int) ∣ s.2.1 ∧ ((g3 s : Nat) : Int) ∣ s.2.2 := by
  refine ⟨?_, ?_, ?_⟩
  · exact Int.natAbs_dvd_natAbs.mp (by rw [Int.natAbs_natCast]; exact Nat.dvd_trans (Nat.gcd_dvd_left _ _) (Nat.gcd_dvd_left _ _))
  · exact Int.natAbs_dvd_natAbs.mp (by rw [Int.natAbs_natCast]; exact Nat.dvd_trans (Nat.gcd_dvd_left _ _) (Nat.gcd_dvd_right _ _))
  · exact Int.natAbs_dvd_natAbs.mp (by rw [Int.natAbs_natCast]; exact Nat.gcd_dvd_right _ _)
theorem g3_pos {s : P3} (h : s.1 ≠ 0 ∨ s.2.1 ≠ 0 ∨ s.2.2 ≠ 0) : 0 < g3 s := by
  unfold g3
  rcases h with h | h | h
  · exact Nat.gcd_pos_of_pos_left _ (Nat.gcd_pos_of_pos_left _ (by omega))
  · exact Nat.gcd_pos_of_pos_left _ (Nat.gcd_pos_of_pos_right _ (by omega))
  · exact Nat.gcd_pos_of_pos_right _ (by omega)
theorem low3_scl {s : P3} (h : 0 < g3 s) : s.1 = (g3 s : Nat) * (low3 s).1 ∧ s.2.1 = (g3 s : Nat) * (low3 s).2.1 ∧ s.2.2 = (g3 s : Nat) * (low3 s).2.2 := by
  obtain ⟨⟨a, ha⟩, ⟨b, hb⟩, ⟨c, hc⟩⟩ := g3_dvd s
  have n0 : ((g3 s : Nat) : Int) ≠ 0 := by omega
  unfold low3
  refine ⟨?_, ?_, ?_⟩
  · show s.1 = _ * s.1.fdiv _
    conv => rhs; rw [ha]
    rw [Int.mul_fdiv_cancel_left _ n0]; exact ha
  · show s.2.1 = _ * s.2.1.fdiv _
    conv => rhs; rw [hb]
    rw [Int.mul_fdiv_cancel_left _ n0]; exact hb
  · show s.2.2 = _ * s.2.2.fdiv _
    conv => rhs; rw [hc]
    rw [Int.mul_fdiv_cancel_left _ n0]; exact hc
theorem low3_scl' {s : P3} (h : 0 < g3 s) : Scl s (low3 s) := ⟨_, by omega, low3_scl h⟩
theorem abs_le_mul {G : Nat} (h : 0 < G) (x : Int) : x.natAbs ≤ ((G : Int) * x).natAbs := by
  rw [Int.natAbs_mul, Int.natAbs_natCast]
  exact Nat.le_mul_of_pos_left _ h
theorem low3_sm {b : Nat} {s : P3} (h : 0 < g3 s) (hs : Sm b s) : Sm b (low3 s) := by
  obtain ⟨e1, e2, e3⟩ := low3_scl h
  refine ⟨.of (Nat.lt_of_le_of_lt (by have := abs_le_mul h (low3 s).1; rw [← e1] at this; exact this) hs.1.lt), .of (Nat.lt_of_le_of_lt (by have := abs_le_mul h (low3 s).2.1; rw [← e2] at this; exact this) hs.2.1.lt), .of (Nat.lt_of_le_of_lt (by have := abs_le_mul h (low3 s).2.2; rw [← e3] at this; exact this) hs.2.2.lt)⟩
theorem g3_mul (G : Nat) (x y z : Int) : g3 (G * x, G * y, G * z) = G * g3 (x, y, z) := by
  unfold g3
  simp only []
  rw [Int.natAbs_mul, Int.natAbs_mul, Int.natAbs_mul, Int.natAbs_natCast, Nat.gcd_mul_left, Nat.gcd_mul_left]
theorem low3_one {s : P3} (h : 0 < g3 s) : g3 (low3 s) = 1 := by
  obtain ⟨e1, e2, e3⟩ := low3_scl h
  have e := g3_mul (g3 s) (low3 s).1 (low3 s).2.1 (low3 s).2.2
  have es : ((g3 s : Nat) * (low3 s).1, (g3 s : Nat) * (low3 s).2.1, (g3 s : Nat) * (low3 s).2.2) = s := by rw [← e1, ← e2, ← e3]
  rw [es] at e
  have e' : g3 s * 1 = g3 s * g3 (low3 s) := by rw [Nat.mul_one]; exact e
  exact (Nat.eq_of_mul_eq_mul_left h e').symm
theorem check_ok {p : P3} (hp : 1 ≤ p.2.2) : m_check_mix [dP p] = .ok .non := by
  have q : ¬ p.2.2 < 1 := by omega
  simp [m_check_mix, funD, runD, xs_check_mix, q]
theorem g3_le {s : P3} (h : 1 ≤ s.2.2) : g3 s ≤ s.2.2.natAbs := Nat.gcd_le_right _ (by omega)
theorem lowest_ok {p : P3} (hp : 1 ≤ p.2.2) (hs : Sm 4000 p) : m_lowest [dP p] = .ok (dP (low3 p)) := by
  have e := check_ok hp
  have hg := g3_le hp
  have h0 := g3_pos (s := p) (by omega)
  have hl := hs.2.2.line (by decide)
  have cd : ∀ i : Int, CDivB i (g3 p : Nat) := fun i => ⟨by omega, by show (g3 p) < lineB; omega⟩
  refine fun_rt (D := [.sh (dP p), .no, .no, .no, .no]) rfl rfl ?_
  refine seq_nx' (D' := [.sh (dP p), .no, .no, .no, .no]) (by simp [e]) ?_
  refine seq_nx' (D' := [.sh (dP p), .sh (.int p.1), .sh (.int p.2.1), .sh (.int p.2.2), .no]) (by rfl) ?_
  refine seq_nx' (D' := [.sh (dP p), .sh (.int p.1), .sh (.int p.2.1), .sh (.int p.2.2), .sh (.int (g3 p : Nat))]) (by simp [g3]) ?_
  simp [cd, dP, low3]
/-! ### sides -/
def sideU (A B : Int) (p : P3) : P3 := (A * p.2.2, B * p.2.2, A * p.1 + B * p.2.1)
def sideOf (A B : Int) (p : P3) : P3 := low3 (sideU A B p)
theorem sideU_sm {A B : Int} {p : P3} (ha : Bt 610 A) (hb : Bt 610 B) (hp : Sm B0 p) : Sm 920 (sideU A B p) :=
  ⟨(ha.mul hp.2.2).mono (by decide), (hb.mul hp.2.2).mono (by decide), ((ha.mul hp.1).add (hb.mul hp.2.1)).mono (by decide)⟩
theorem sideU_pos {A B : Int} {p : P3} (h : A ≠ 0 ∨ B ≠ 0) (hp : 0 < p.2.2) : 0 < g3 (sideU A B p) := by
  refine g3_pos ?_
  rcases h with h | h
  · exact .inl (Int.mul_ne_zero h (by omega))
  · exact .inr (.inl (Int.mul_ne_zero h (by omega)))
theorem g3_line {s : P3} (h : s.1 ≠ 0 ∨ s.2.1 ≠ 0) (hs : Sm 920 s) : g3 s < lineB := by
  have le : ∀ x : Nat, x ≠ 0 → g3 s ∣ x → x < 2 ^ 920 → g3 s < lineB := fun x hx d l => Nat.lt_of_le_of_lt (Nat.le_of_dvd (by omega) d) (lt_lineB l (by decide))
  rcases h with h | h
  · exact le s.1.natAbs (by omega) (Nat.dvd_trans (Nat.gcd_dvd_left _ _) (Nat.gcd_dvd_left _ _)) hs.1.lt
  · exact le s.2.1.natAbs (by omega) (Nat.dvd_trans (Nat.gcd_dvd_left _ _) (Nat.gcd_dvd_right _ _)) hs.2.1.lt
theorem side_eq {A B : Int} {p : P3} (ha : Bt 610 A) (hb : Bt 610 B) (hp : Sm B0 p) (h : A ≠ 0 ∨ B ≠ 0) (h0 : 0 < p.2.2) : m__side [.int A, .int B, dP p] = .ok (dP (sideOf A B p)) := by
  have gp := sideU_pos (p := p) h h0
  have gl := g3_line (s := sideU A B p) (by
    rcases h with h | h
    · exact .inl (Int.mul_ne_zero h (by omega))
    · exact .inr (Int.mul_ne_zero h (by omega))) (sideU_sm ha hb hp)
  have c1 := cmB ha hp.1
  have c2 := cmB hb hp.2.1
  have c3 := cmB ha hp.2.2
  have c4 := cmB hb hp.2.2
  have cd : ∀ i : Int, CDivB i (g3 (sideU A B p) : Nat) := fun i => ⟨by omega, gl⟩
  refine fun_rt (D := [.sh (.int A), .sh (.int B), .sh (dP p), .no, .no, .no, .no, .no]) rfl rfl ?_
  refine seq_nx' (D' := [.sh (.int A), .sh (.int B), .sh (dP p), .sh (.int p.1), .sh (.int p.2.1), .sh (.int p.2.2), .no, .no]) (by rfl) ?_
  refine seq_nx' (D' := [.sh (.int A), .sh (.int B), .sh (dP p), .sh (.int p.1), .sh (.int p.2.1), .sh (.int p.2.2), .sh (.int (A * p.1 + B * p.2.1)), .no]) (by simp [c1, c2]) ?_
  refine seq_nx' (D' := [.sh (.int A), .sh (.int B), .sh (dP p), .sh (.int p.1), .sh (.int p.2.1), .sh (.int p.2.2), .sh (.int (A * p.1 + B * p.2.1)), .sh (.int (g3 (sideU A B p) : Nat))]) (by simp [c3, c4, g3, sideU]) ?_
  simp [cd, c3, c4, dP, sideOf, low3, sideU]
  simp [sideU] at cd
  simp [cd]
end Mx
namespace Mx
open PySem PySem.Spec PyProof.Rows L2 Geo
theorem comp_map {α : Type} {xg : XG} {xe : XE} {D0 : Ds} {f g : α → Dt} : ∀ (l : List α) (acc : List Dt), (∀ a ∈ l, ∃ D1, xg (f a) D0 = .ok D1 ∧ xe D1 = .ok (g a)) → acc.length + l.length ≤ 1000000 →
    xComp xg xYes xe D0 (l.map f) acc = .ok (acc ++ l.map g)
  | [], acc, _, _ => by simp [xComp]
  | a :: l, acc, h, hl => by
    obtain ⟨D1, e1, e2⟩ := h a List.mem_cons_self
    simp only [List.length_cons] at hl
    rw [List.map_cons]
    unfold xComp
    simp only [e1, xYes, e2]
    rw [if_pos (by omega), comp_map l (acc ++ [g a]) (fun b m => h b (List.mem_cons_of_mem _ m)) (by simp; omega)]
    simp
theorem direction_eq {p q : P3} (hp : Sm B0 p) (hq : Sm B0 q) : m__direction [dP p, dP q] = .ok (.tup [.int (gx p q), .int (gy p q)]) := by
  simp [m__direction, funD, runD, xs__direction, gap0 hp hq, gap1 hp hq]
/-- the way from p to q, or (1, 0) -/
def dirOf (p q : P3) : Int × Int := if p = q then (1, 0) else (gx p q, gy p q)
def fourOf (p q : P3) : List P3 := [sideOf (dirOf p q).2 (-(dirOf p q).1) p, sideOf (dirOf p q).1 (dirOf p q).2 q, sideOf (-(dirOf p q).2) (dirOf p q).1 p, sideOf (-(dirOf p q).1) (-(dirOf p q).2) p]
theorem dir_bt {p q : P3} (hp : Sm B0 p) (hq : Sm B0 q) : Bt 610 (dirOf p q).1 ∧ Bt 610 (dirOf p q).2 := by
  unfold dirOf
  split
  · have hpow : (1 : Nat) < 2 ^ 610 := Nat.one_lt_two_pow (by decide)
    exact ⟨.of hpow, .of (Nat.lt_trans (by decide) hpow)⟩
  · exact ⟨(gx_bt hp hq).mono (by decide), (gy_bt hp hq).mono (by decide)⟩
theorem four_gen (p q : P3) (u v : Int) (h : (xIf (xTest (x2 dEq (xVarB 0) (xVarB 1))) (xTup (xCons (xC (.int 1)) (xCons (xC (.int 0)) xNil))) (xCall m__direction (xCons (xVar 0) (xCons (xVar 1) xNil)))) [.sh (dP p), .sh (dP q), .no, .no] = .ok (.tup [.int u, .int v]))
    (s1 s2 s3 s4 : P3) (e1 : m__side [.int v, .int (-u), dP p] = .ok (dP s1)) (e2 : m__side [.int u, .int v, dP q] = .ok (dP s2)) (e3 : m__side [.int (-v), .int u, dP p] = .ok (dP s3)) (e4 : m__side [.int (-u), .int (-v), dP p] = .ok (dP s4)) :
    m__four_sides [dP p, dP q] = .ok (.lst ([s1, s2, s3, s4].map dP)) := by
  refine fun_rt (D := [.sh (dP p), .sh (dP q), .no, .no]) rfl rfl ?_
  refine seq_nx' (D' := [.sh (dP p), .sh (dP q), .sh (.int u), .sh (.int v)]) (by simp only [xsAsgG, h]; rfl) ?_
  simp [e1, e2, e3, e4]
theorem four_eq {S : List P3} (hS : Sep S) {p q : P3} (mp : p ∈ S) (mq : q ∈ S) (hp : Sm B0 p) (hq : Sm B0 q) : m__four_sides [dP p, dP q] = .ok (.lst ((fourOf p q).map dP)) := by
  obtain ⟨b1, b2⟩ := dir_bt hp hq
  have p0 := hS.pos p mp
  have q0 := hS.pos q mq
  have nz : (dirOf p q).1 ≠ 0 ∨ (dirOf p q).2 ≠ 0 := by
    unfold dirOf
    split
    · exact .inl (by decide)
    · rename_i n
      refine Decidable.byContradiction fun z => n (hS.sep p mp q mq ?_ ?_)
      · refine Decidable.byContradiction fun y => z (.inl y)
      · refine Decidable.byContradiction fun y => z (.inr y)
  refine four_gen p q (dirOf p q).1 (dirOf p q).2 ?_ _ _ _ _ (side_eq b2 b1.neg hp (by omega) p0) (side_eq b1 b2 hq nz q0) (side_eq b2.neg b1 hp (by omega) p0) (side_eq b1.neg b2.neg hp (by omega) p0)
  unfold dirOf
  by_cases e : p = q
  · simp [e]
  · simp [e, direction_eq hp hq]
theorem along_eq {p q : P3} (hp : Sm B0 p) (hq : Sm B0 q) (p0 : 0 < p.2.2) (nz : gx p q ≠ 0 ∨ gy p q ≠ 0) : m__side_along [dP p, dP q] = .ok (dP (sideOf (gy p q) (-(gx p q)) p)) := by
  have e := side_eq (A := gy p q) (B := -(gx p q)) ((gy_bt hp hq).mono (by decide)) ((gx_bt hp hq).neg.mono (by decide)) hp (by omega) p0
  have d := direction_eq hp hq
  refine fun_rt (D := [.sh (dP p), .sh (dP q), .no, .no]) rfl rfl ?_
  refine seq_nx' (D' := [.sh (dP p), .sh (dP q), .sh (.int (gx p q)), .sh (.int (gy p q))]) (by simp [d]) ?_
  simp [e]
/-- each corner with the next one -/
def pairsOf (cs : List P3) : List (P3 × P3) := cs.zip (cs.drop 1 ++ cs.take 1)
def sidesL (cs : List P3) : List P3 := if cs.length ≤ 2 then fourOf (at0 cs 0) (at0 cs (cs.length - 1)) else (pairsOf cs).map fun p => sideOf (gy p.1 p.2) (-(gx p.1 p.2)) p.1
theorem zip_map : ∀ (l m : List P3), zipD (l.map dP) (m.map dP) = (l.zip m).map fun p => .tup [dP p.1, dP p.2]
  | [], m => by simp
  | _ :: _, [] => by simp
  | a :: l, b :: m => by simp [zip_map l m]
theorem pairs_mem {cs : List P3} {p : P3 × P3} (h : p ∈ pairsOf cs) : ∃ i, cs[i]? = some p.1 ∧ (cs ++ cs.take 1)[i + 1]? = some p.2 := by
  obtain ⟨i, hi⟩ := List.mem_iff_getElem?.mp h
  unfold pairsOf at hi
  rw [List.getElem?_zip_eq_some] at hi
  refine ⟨i, hi.1, ?_⟩
  have l := (List.getElem?_eq_some_iff.mp hi.1).1
  have e : cs.drop 1 ++ cs.take 1 = (cs ++ cs.take 1).drop 1 := by
    rw [List.drop_append_of_le_length (by omega)]
  rw [e, List.getElem?_drop] at hi
  rw [Nat.add_comm]; exact hi.2
theorem cut1 (l : List Dt) : cutD l (some 1) none = l.drop 1 := by
  unfold cutD
  have e1 : HT.sIx l.length 0 (some 1) = min 1 l.length := by simp [HT.sIx]
  have e2 : HT.sIx l.length l.length none = l.length := rfl
  rw [e1, e2]
  cases l with
  | nil => rfl
  | cons a l => simp [Nat.min_eq_left (show 1 ≤ l.length + 1 by omega)]
theorem cut2 (l : List Dt) : cutD l none (some 1) = l.take 1 := by
  unfold cutD
  have e1 : HT.sIx l.length l.length (some 1) = min 1 l.length := by simp [HT.sIx]
  have e2 : HT.sIx l.length 0 none = 0 := rfl
  rw [e1, e2]
  cases l with
  | nil => rfl
  | cons a l => simp [Nat.min_eq_left (show 1 ≤ l.length + 1 by omega)]
theorem atI_first {l : List P3} (h : 0 < l.length) : atI (l.map dP) 0 = some (dP (at0 l 0)) := by
  rw [atI_nat' (by omega) (by simpa using h)]
  simp [at0_eq h]
theorem atI_last {l : List P3} (h : 0 < l.length) : atI (l.map dP) (-1) = some (dP (at0 l (l.length - 1))) := by
  have hl : l.length - 1 < l.length := by omega
  have e : ixN (l.map dP).length (-1) = some (l.length - 1) := by
    unfold ixN
    rw [if_neg (by omega), if_pos (by simp; omega)]
    simp
    omega
  unfold atI
  rw [e]
  simp [at0_eq hl]
theorem sides_eq {S cs : List P3} (hS : Sep S) (C : Cor S cs) (h : ∀ p ∈ S, Sm B0 p) (hl : cs.length ≤ 1000) : m__sides_of [.lst (cs.map dP)] = .ok (.lst ((sidesL cs).map dP)) := by
  have hp := C.pos
  have f := atI_first hp
  have l := atI_last hp
  by_cases h2 : cs.length ≤ 2
  · have m1 := C.mem _ (at0_mem (cs := cs) (i := 0) (by omega))
    have m2 := C.mem _ (at0_mem (cs := cs) (i := cs.length - 1) (by omega))
    have e := four_eq hS m1 m2 (h _ m1) (h _ m2)
    have h2' : ((cs.length : Nat) : Int) ≤ 2 := by omega
    refine fun_rt (D := [.sh (.lst (cs.map dP)), .no, .no, .no]) rfl rfl ?_
    refine seq_rt' ?_
    simp [h2', f, l, e, sidesL, h2]
  · have h2' : ¬ ((cs.length : Nat) : Int) ≤ 2 := by omega
    have lc : (cs.length - 1) + min 1 cs.length ≤ 1000000 := by omega
    refine fun_rt (D := [.sh (.lst (cs.map dP)), .no, .no, .no]) rfl rfl ?_
    refine seq_nx' (D' := [.sh (.lst (cs.map dP)), .no, .no, .no]) (by simp [h2']) ?_
    refine seq_nx' (D' := [.sh (.lst (cs.map dP)), .sh (.lst ((cs.drop 1 ++ cs.take 1).map dP)), .no, .no]) (by simp [dSlA, cut1, cut2, lc]) ?_
    have c := comp_map (xg := xgTup 2 (xgCons (xgName 2) (xgCons (xgName 3) xgNil))) (xe := xe__sides_of_1) (D0 := wipeD [.sh (.lst (cs.map dP)), .sh (.lst ((cs.drop 1 ++ cs.take 1).map dP)), .no, .no] [2, 3]) (f := fun p : P3 × P3 => .tup [dP p.1, dP p.2]) (g := fun p => dP (sideOf (gy p.1 p.2) (-(gx p.1 p.2)) p.1)) (pairsOf cs) []
      (fun p m => by
        obtain ⟨i, a, b⟩ := pairs_mem m
        obtain ⟨n, mb⟩ := C.next_ne (by omega) a b
        have ma := C.mem _ (List.mem_of_getElem? a)
        have mb := C.mem _ mb
        have nz : gx p.1 p.2 ≠ 0 ∨ gy p.1 p.2 ≠ 0 := by
          refine Decidable.byContradiction fun z => n (hS.sep _ ma _ mb ?_ ?_)
          · refine Decidable.byContradiction fun y => z (.inl y)
          · refine Decidable.byContradiction fun y => z (.inr y)
        have e := along_eq (h _ ma) (h _ mb) (hS.pos _ ma) nz
        exact ⟨[.sh (.lst (cs.map dP)), .sh (.lst ((cs.drop 1 ++ cs.take 1).map dP)), .sh (dP p.1), .sh (dP p.2)], rfl, by simp [xe__sides_of_1, e]⟩)
      (by unfold pairsOf; rw [List.length_zip]; simp; omega)
    have z := zip_map cs (cs.drop 1 ++ cs.take 1)
    simp only [xsRet, xL, xLc, xZip, xCons, xNil, xVar_ap, List.getElem?_cons_succ, List.getElem?_cons_zero, shO_sh, bind_ok, lst2_ok, z]
    unfold pairsOf at c
    rw [c]
    simp [sidesL, h2, pairsOf]
end Mx
set_option exponentiation.threshold 5000
namespace Mx
open PySem PySem.Spec PyProof.Rows L2 Geo
/-! ### points in lowest terms -/
theorem comp_mapX {α : Type} {xg : XG} {xe : XE} {D0 : Ds} {f g : α → Dt} : ∀ (l : List α) (acc : List Dt), (∀ a ∈ l, ∃ D1, xg (f a) D0 = .ok D1 ∧ xe D1 = .ok (g a)) → acc.length + l.length ≤ 1000000 →
    xCompX xg xYes xe D0 (l.map f) acc = .ok (acc ++ l.map g)
  | [], acc, _, _ => by simp [xCompX]
  | a :: l, acc, h, hl => by
    obtain ⟨D1, e1, e2⟩ := h a List.mem_cons_self
    simp only [List.length_cons] at hl
    rw [List.map_cons]
    unfold xCompX
    simp only [e1, xYes, e2]
    rw [if_pos (by omega), comp_mapX l (acc ++ [g a]) (fun b m => h b (List.mem_cons_of_mem _ m)) (by simp; omega)]
    simp
/-- the first one that raises -/
theorem comp_mapE {α : Type} {xg : XG} {xe : XE} {D0 : Ds} {f g : α → Dt} {b : α} {r : List α} {c : Str} {fs : List (Str × Dt)} (hb : ∃ D1, xg (f b) D0 = .ok D1 ∧ xe D1 = .ex c fs) : ∀ (l : List α) (acc : List Dt), (∀ a ∈ l, ∃ D1, xg (f a) D0 = .ok D1 ∧ xe D1 = .ok (g a)) → acc.length + l.length ≤ 1000000 →
    xCompX xg xYes xe D0 ((l ++ b :: r).map f) acc = .ex c fs
  | [], acc, _, _ => by
    obtain ⟨D1, e1, e2⟩ := hb
    simp [xCompX, e1, e2]
  | a :: l, acc, h, hl => by
    obtain ⟨D1, e1, e2⟩ := h a List.mem_cons_self
    simp only [List.length_cons] at hl
    rw [List.cons_append, List.map_cons]
    unfold xCompX
    simp only [e1, xYes, e2]
    rw [if_pos (by omega)]
    exact comp_mapE hb l (acc ++ [g a]) (fun b m => h b (List.mem_cons_of_mem _ m)) (by simp; omega)
def Ok (p : P3) : Prop := 1 ≤ p.2.2 ∧ Sm B0 p
theorem canon {p q : P3} (hp : 0 < p.2.2) (hq : 0 < q.2.2) (gp : g3 p = 1) (gq : g3 q = 1) (ex : gx p q = 0) (ey : gy p q = 0) : p = q := by
  obtain ⟨a, b, c⟩ := p
  obtain ⟨d, e, f⟩ := q
  simp only [gx, gy] at hp hq ex ey
  have h1 := g3_mul c.toNat d e f
  have h2 := g3_mul f.toNat a b c
  rw [gq] at h1
  rw [gp] at h2
  have ec : ((c.toNat : Nat) : Int) = c := by omega
  have ef : ((f.toNat : Nat) : Int) = f := by omega
  rw [ec] at h1
  rw [ef] at h2
  have e1 : c * d = f * a := by grind
  have e2 : c * e = f * b := by grind
  have e3 : c * f = f * c := by grind
  rw [e1, e2, e3, h2] at h1
  have cf : c = f := by omega
  subst cf
  have da : d = a := Int.eq_of_mul_eq_mul_left (by omega) e1
  have eb : e = b := Int.eq_of_mul_eq_mul_left (by omega) e2
  rw [da, eb]
theorem ok_g3 {p : P3} (h : Ok p) : 0 < g3 p := g3_pos (.inr (.inr (by have := h.1; omega)))
theorem low_pos {p : P3} (h : Ok p) : 0 < (low3 p).2.2 := by
  obtain ⟨_, _, e⟩ := low3_scl (ok_g3 h)
  have h1 := h.1
  have : 0 < ((g3 p : Nat) : Int) * (low3 p).2.2 := by rw [← e]; omega
  exact (pos_cancel (k := ((g3 p : Nat) : Int)) (by have := ok_g3 h; omega)).2.1 this
theorem low_sm {p : P3} (h : Ok p) : Sm B0 (low3 p) := low3_sm (ok_g3 h) h.2
theorem sep_low {P : List P3} (h : ∀ p ∈ P, Ok p) : Sep (P.map low3) where
  pos := fun p m => by
    obtain ⟨q, hq, rfl⟩ := List.mem_map.mp m
    exact low_pos (h q hq)
  sep := fun p mp q mq ex ey => by
    obtain ⟨a, ha, rfl⟩ := List.mem_map.mp mp
    obtain ⟨b, hb, rfl⟩ := List.mem_map.mp mq
    exact canon (low_pos (h a ha)) (low_pos (h b hb)) (low3_one (ok_g3 (h a ha))) (low3_one (ok_g3 (h b hb))) ex ey
theorem low_all {P : List P3} (h : ∀ p ∈ P, Ok p) : ∀ p ∈ P.map low3, Sm B0 p := fun p m => by
  obtain ⟨q, hq, rfl⟩ := List.mem_map.mp m
  exact low_sm (h q hq)
/-! ### the region object -/
def crn (P : List P3) : List P3 := corners (P.map low3)
def rgF (cs : List P3) : List (Str × Dt) := [("_corners", .lst (cs.map dP)), ("_sides", .lst ((sidesL cs).map dP))]
def rg (cs : List P3) : Dt := .ins "Region" (rgF cs)
theorem crn_cor {P : List P3} (h : ∀ p ∈ P, Ok p) (hn : P ≠ []) : Cor (P.map low3) (crn P) := cor_of (sep_low h) (by simpa using hn)
theorem crn_len {P : List P3} (h : ∀ p ∈ P, Ok p) (hn : P ≠ []) : (crn P).length ≤ P.length := by
  have := (corners_ok (sep_low h) (by simpa using hn)).1.len
  unfold crn
  simpa using this
theorem region_ok {P : List P3} (h : ∀ p ∈ P, Ok p) (hn : P ≠ []) (hl : P.length ≤ 90) : m_Region___init__ [.lst (P.map dP)] = .ok (rgF (crn P)) := by
  have hS := sep_low h
  have hn' : P.map low3 ≠ [] := by simpa using hn
  have hlen := crn_len h hn
  have ec := corners_eq hS (low_all h) hn' (by simpa using hl)
  have es := sides_eq hS (crn_cor h hn) (low_all h) (by omega)
  have nf : Str.ofString "_corners" ≠ Str.ofString "_sides" := by decide +kernel
  have n0 : ¬ ((P.length : Nat) : Int) = 0 := by
    have : P.length ≠ 0 := fun z => hn (List.eq_nil_of_length_eq_zero z)
    omega
  have c := comp_mapX (xg := xgName 2) (xe := xe_Region___init___1) (D0 := [.oi 0 "Region" [], .sh (.lst (P.map dP)), .no]) (f := dP) (g := fun p => dP (low3 p)) P []
    (fun p m => ⟨[.oi 0 "Region" [], .sh (.lst (P.map dP)), .sh (dP p)], rfl, by
      have e := lowest_ok (p := p) (h p m).1 ((h p m).2.mono (by decide))
      simp [xe_Region___init___1, e]⟩) (by simp; omega)
  have hw : wipeD [.oi 0 "Region" [], .sh (.lst (P.map dP)), .no] [2] = [.oi 0 "Region" [], .sh (.lst (P.map dP)), .no] := rfl
  have cm : P.map (fun p => dP (low3 p)) = (P.map low3).map dP := by rw [List.map_map]; rfl
  rw [List.nil_append, cm] at c
  unfold crn rgF
  unfold crn at es
  simp only [m_Region___init__, runI, xs_Region___init__, List.length_cons, List.length_nil, List.map_cons, List.map_nil, List.replicate, List.cons_append, List.nil_append]
  simp [hn, hw, c, ec, putG, es, nf, -List.map_map]
theorem region_okM {P : List P3} (h : ∀ p ∈ P, Ok p) (hn : P ≠ []) (hl : P.length ≤ 90) : mM0_Region___init__ [.lst (P.map dP)] = .ok (rgF (crn P)) := by
  have hS := sep_low h
  have hn' : P.map low3 ≠ [] := by simpa using hn
  have hlen := crn_len h hn
  have ec := corners_eq hS (low_all h) hn' (by simpa using hl)
  have es := sides_eq hS (crn_cor h hn) (low_all h) (by omega)
  have nf : Str.ofString "_corners" ≠ Str.ofString "_sides" := by decide +kernel
  have c := comp_mapX (xg := xgName 2) (xe := xe_Region___init___1) (D0 := [.oi 0 "Region" [], .br (P.map dP), .no]) (f := dP) (g := fun p => dP (low3 p)) P []
    (fun p m => ⟨[.oi 0 "Region" [], .br (P.map dP), .sh (dP p)], rfl, by
      have e := lowest_ok (p := p) (h p m).1 ((h p m).2.mono (by decide))
      simp [xe_Region___init___1, e]⟩) (by simp; omega)
  have hw : wipeD [.oi 0 "Region" [], .br (P.map dP), .no] [2] = [.oi 0 "Region" [], .br (P.map dP), .no] := rfl
  have cm : P.map (fun p => dP (low3 p)) = (P.map low3).map dP := by rw [List.map_map]; rfl
  rw [List.nil_append, cm] at c
  unfold crn rgF
  unfold crn at es
  simp only [mM0_Region___init__, runIM, xs_Region___init__, slM, List.length_cons, List.length_nil, List.map_cons, List.map_nil, List.replicate, List.cons_append, List.nil_append]
  simp [hn, hw, c, ec, putG, es, nf, -List.map_map]
@[simp] theorem rg_c (cs : List P3) : dFld "Region" "_corners" (rg cs) = .ok (.lst (cs.map dP)) := by
  unfold rg rgF
  simp [dFld, List.lookup]
@[simp] theorem rg_s (cs : List P3) : dFld "Region" "_sides" (rg cs) = .ok (.lst ((sidesL cs).map dP)) := by
  unfold rg rgF
  have nf : (Str.ofString "_sides" == Str.ofString "_corners") = false := by decide +kernel
  simp [dFld, List.lookup, nf]
theorem make_ok {P : List P3} (h : ∀ p ∈ P, Ok p) (hn : P ≠ []) (hl : P.length ≤ 90) (D : Ds) (xa : XA) (e : xa D = .ok [.lst (P.map dP)]) : xMake "Region" 1 0 m_Region___init__ gD_0 xa xNil D = .ok (rg (crn P)) := by
  simp [xMake, e, gD_0, region_ok h hn hl, rg]
/-! ### what bars a mix -/
def viol (m s : P3) : Bool := decide (s.2.2 * m.2.2 < s.1 * m.1 + s.2.1 * m.2.1)
def barD (ss : List P3) (m : P3) : Dt := match ss.find? (viol m) with
  | none => .non
  | some s => dP s
end Mx
set_option exponentiation.threshold 5000
namespace Mx
open PySem PySem.Spec PyProof.Rows L2 Geo
theorem bar_loop {m : P3} (hm : Sm B0 m) (s0 s1 : Sl) : ∀ (ss : List P3) (t5 t6 t7 : Sl), (∀ s ∈ ss, Sm 920 s) →
    (ss.find? (viol m) = none ∧ ∃ u5 u6 u7, xLoop (xgTup 3 (xgCons (xgName 5) (xgCons (xgName 6) (xgCons (xgName 7) xgNil)))) xb_Region_bar_1 (ss.map dP) [s0, s1, .sh (.int m.1), .sh (.int m.2.1), .sh (.int m.2.2), t5, t6, t7] = .nx [s0, s1, .sh (.int m.1), .sh (.int m.2.1), .sh (.int m.2.2), u5, u6, u7]) ∨
    ∃ s, ss.find? (viol m) = some s ∧ xLoop (xgTup 3 (xgCons (xgName 5) (xgCons (xgName 6) (xgCons (xgName 7) xgNil)))) xb_Region_bar_1 (ss.map dP) [s0, s1, .sh (.int m.1), .sh (.int m.2.1), .sh (.int m.2.2), t5, t6, t7] = .rt (dP s)
  | [], t5, t6, t7, _ => .inl ⟨rfl, t5, t6, t7, rfl⟩
  | s :: ss, t5, t6, t7, hs => by
    have h := hs s List.mem_cons_self
    have c1 := cmB h.1 hm.1
    have c2 := cmB h.2.1 hm.2.1
    have c3 := cmB h.2.2 hm.2.2
    have eg : xgTup 3 (xgCons (xgName 5) (xgCons (xgName 6) (xgCons (xgName 7) xgNil))) (dP s) [s0, s1, .sh (.int m.1), .sh (.int m.2.1), .sh (.int m.2.2), t5, t6, t7] = .ok [s0, s1, .sh (.int m.1), .sh (.int m.2.1), .sh (.int m.2.2), .sh (.int s.1), .sh (.int s.2.1), .sh (.int s.2.2)] := rfl
    rw [List.map_cons, loop_cons, List.find?_cons, eg]
    by_cases v : s.2.2 * m.2.2 < s.1 * m.1 + s.2.1 * m.2.1
    · refine .inr ⟨s, by simp [viol, v], ?_⟩
      simp [xb_Region_bar_1, c1, c2, c3, v, dP]
    · have vf : viol m s = false := by simp [viol, v]
      rw [vf]
      have eb : xb_Region_bar_1 [s0, s1, .sh (.int m.1), .sh (.int m.2.1), .sh (.int m.2.2), .sh (.int s.1), .sh (.int s.2.1), .sh (.int s.2.2)] = .nx [s0, s1, .sh (.int m.1), .sh (.int m.2.1), .sh (.int m.2.2), .sh (.int s.1), .sh (.int s.2.1), .sh (.int s.2.2)] := by
        simp [xb_Region_bar_1, c1, c2, c3, v]
      rw [get_ok, eb]
      exact bar_loop hm s0 s1 ss _ _ _ fun x mx => hs x (List.mem_cons_of_mem _ mx)
theorem bar_eq {cs : List P3} {m : P3} (h1 : 1 ≤ m.2.2) (hm : Sm B0 m) (hs : ∀ s ∈ sidesL cs, Sm 920 s) : m_Region_bar [rg cs, dP m] = .ok (barD (sidesL cs) m) := by
  have e := check_ok h1
  have l := bar_loop hm (.sh (rg cs)) (.sh (dP m)) (sidesL cs) .no .no .no hs
  refine fun_rt (D := [.sh (rg cs), .sh (dP m), .no, .no, .no, .no, .no, .no]) rfl rfl ?_
  refine seq_nx' (D' := [.sh (rg cs), .sh (dP m), .no, .no, .no, .no, .no, .no]) (by simp [e]) ?_
  refine seq_nx' (D' := [.sh (rg cs), .sh (dP m), .sh (.int m.1), .sh (.int m.2.1), .sh (.int m.2.2), .no, .no, .no]) (by rfl) ?_
  unfold barD
  rcases l with ⟨f, u5, u6, u7, l⟩ | ⟨s, f, l⟩
  · refine seq_nx' (D' := [.sh (rg cs), .sh (dP m), .sh (.int m.1), .sh (.int m.2.1), .sh (.int m.2.2), u5, u6, u7]) (by simp only [xsFor, xItems, x1, xVarB_ap, List.getElem?_cons_zero, datO_some, dat_sh, bind_ok, rg_s, dItems_lst, out_ok]; exact l) ?_
    simp [f]
  · rw [f]
    exact seq_rt' (by simp only [xsFor, xItems, x1, xVarB_ap, List.getElem?_cons_zero, datO_some, dat_sh, bind_ok, rg_s, dItems_lst, out_ok]; exact l)
theorem barD_non {ss : List P3} {m : P3} : (barD ss m).isNon = decide (ss.find? (viol m) = none) := by
  unfold barD
  cases h : ss.find? (viol m) with
  | none => rfl
  | some s => rfl
theorem contains_eq {cs : List P3} {m : P3} (h1 : 1 ≤ m.2.2) (hm : Sm B0 m) (hs : ∀ s ∈ sidesL cs, Sm 920 s) : m_Region___contains__ [rg cs, dP m] = .ok (.bl (decide ((sidesL cs).find? (viol m) = none))) := by
  have e := bar_eq h1 hm hs
  have hb := barD_non (ss := sidesL cs) (m := m)
  have em : xMeth "Region" "bar" m_Region_bar (xVar 0) (xCons (xVar 1) xNil) [.sh (rg cs), .sh (dP m)] = .ok (barD (sidesL cs) m) := by
    have lk : (rgF cs).lookup (Str.ofString "bar") = none := by
      have n1 : (Str.ofString "bar" == Str.ofString "_corners") = false := by decide +kernel
      have n2 : (Str.ofString "bar" == Str.ofString "_sides") = false := by decide +kernel
      simp [rgF, List.lookup, n1, n2]
    unfold rg at e ⊢
    simp [xMeth, lk, e, isM]
  refine fun_rt (D := [.sh (rg cs), .sh (dP m)]) rfl rfl ?_
  simp only [xs_Region___contains__, xsRet, x2, em, bind_ok, xC, dIsN, hb, out_ok]
end Mx
set_option exponentiation.threshold 5000
namespace Mx
open PySem PySem.Spec PyProof.Rows L2 Geo
/-! ### what a side says of a mix -/
theorem viol_side {A B : Int} {p m : P3} (h : 0 < g3 (sideU A B p)) : viol m (sideOf A B p) = decide (0 < A * gx p m + B * gy p m) := by
  obtain ⟨e1, e2, e3⟩ := low3_scl h
  unfold viol sideOf
  generalize hs : low3 (sideU A B p) = s at e1 e2 e3
  have hg : (0 : Int) < ((g3 (sideU A B p) : Nat) : Int) := by omega
  generalize ((g3 (sideU A B p) : Nat) : Int) = G at e1 e2 e3 hg
  simp only [sideU] at e1 e2 e3
  have id : A * gx p m + B * gy p m = G * (s.1 * m.1 + s.2.1 * m.2.1 - s.2.2 * m.2.2) := by
    have : A * gx p m + B * gy p m = (A * p.2.2) * m.1 + (B * p.2.2) * m.2.1 - (A * p.1 + B * p.2.1) * m.2.2 := by unfold gx gy; grind
    rw [this, e1, e2, e3]; grind
  have z := sgn_par (l := 1) (m := G) (x := A * gx p m + B * gy p m) (y := s.1 * m.1 + s.2.1 * m.2.1 - s.2.2 * m.2.2) (by decide) hg (by rw [Int.one_mul, id])
  rw [decide_eq_decide, z.1]
  omega
theorem find_none {ss : List P3} {m : P3} : ss.find? (viol m) = none ↔ ∀ s ∈ ss, viol m s = false := by
  rw [List.find?_eq_none]
  exact ⟨fun h s hs => by simpa using h s hs, fun h s hs => by rw [h s hs]; simp⟩
theorem dir_ne {S : List P3} (hS : Sep S) {p q : P3} (mp : p ∈ S) (mq : q ∈ S) : (dirOf p q).1 ≠ 0 ∨ (dirOf p q).2 ≠ 0 := by
  unfold dirOf
  split
  · exact .inl (by decide)
  · rename_i n
    refine Decidable.byContradiction fun z => n (hS.sep p mp q mq ?_ ?_)
    · refine Decidable.byContradiction fun y => z (.inl y)
    · refine Decidable.byContradiction fun y => z (.inr y)
theorem four_in {S : List P3} (hS : Sep S) {p q m : P3} (mp : p ∈ S) (mq : q ∈ S) : (∀ s ∈ fourOf p q, viol m s = false) ↔
    ((dirOf p q).1 * gy p m - (dirOf p q).2 * gx p m = 0 ∧ (dirOf p q).1 * gx q m + (dirOf p q).2 * gy q m ≤ 0 ∧ 0 ≤ (dirOf p q).1 * gx p m + (dirOf p q).2 * gy p m) := by
  have nz := dir_ne hS mp mq
  have p0 := hS.pos p mp
  have q0 := hS.pos q mq
  generalize hu : (dirOf p q).1 = u at nz
  generalize hv : (dirOf p q).2 = v at nz
  have v1 := viol_side (m := m) (sideU_pos (A := v) (B := -u) (p := p) (by omega) p0)
  have v2 := viol_side (m := m) (sideU_pos (A := u) (B := v) (p := q) nz q0)
  have v3 := viol_side (m := m) (sideU_pos (A := -v) (B := u) (p := p) (by omega) p0)
  have v4 := viol_side (m := m) (sideU_pos (A := -u) (B := -v) (p := p) (by omega) p0)
  unfold fourOf
  rw [hu, hv]
  simp only [List.mem_cons, List.not_mem_nil, or_false, forall_eq_or_imp, forall_eq, v1, v2, v3, v4, decide_eq_false_iff_not, Int.neg_mul]
  omega
theorem pairs_ix {cs : List P3} {i : Nat} (h : i < cs.length) : (at0 cs i, afterOf cs i) ∈ pairsOf cs := by
  refine List.mem_iff_getElem?.mpr ⟨i, ?_⟩
  unfold pairsOf
  rw [List.getElem?_zip_eq_some]
  refine ⟨at0_eq h, ?_⟩
  have e : cs.drop 1 ++ cs.take 1 = (cs ++ cs.take 1).drop 1 := by rw [List.drop_append_of_le_length (by omega)]
  rw [e, List.getElem?_drop, Nat.add_comm]
  exact after_eq h
theorem edge_pos {S cs : List P3} (hS : Sep S) (C : Cor S cs) (h3 : 3 ≤ cs.length) {p : P3 × P3} (h : p ∈ pairsOf cs) : 0 < g3 (sideU (gy p.1 p.2) (-(gx p.1 p.2)) p.1) := by
  obtain ⟨i, a, b⟩ := pairs_mem h
  obtain ⟨n, mb⟩ := C.next_ne (by omega) a b
  have ma := C.mem _ (List.mem_of_getElem? a)
  have mb := C.mem _ mb
  refine sideU_pos ?_ (hS.pos _ ma)
  refine Decidable.byContradiction fun z => n (hS.sep _ ma _ mb ?_ ?_)
  · refine Decidable.byContradiction fun y => z (.inr (by omega))
  · refine Decidable.byContradiction fun y => z (.inl y)
theorem edges_in {S cs : List P3} (hS : Sep S) (C : Cor S cs) (h3 : 3 ≤ cs.length) {m : P3} : (∀ s ∈ sidesL cs, viol m s = false) ↔ Edges cs m := by
  have e : sidesL cs = (pairsOf cs).map fun p => sideOf (gy p.1 p.2) (-(gx p.1 p.2)) p.1 := by unfold sidesL; rw [if_neg (by omega)]
  have key : ∀ p ∈ pairsOf cs, viol m (sideOf (gy p.1 p.2) (-(gx p.1 p.2)) p.1) = false ↔ 0 ≤ tn p.1 p.2 m := fun p hp => by
    rw [viol_side (edge_pos hS C h3 hp), decide_eq_false_iff_not]
    obtain ⟨i, a, b⟩ := pairs_mem hp
    have p0 := hS.pos _ (C.mem _ (List.mem_of_getElem? a))
    have id : gy p.1 p.2 * gx p.1 m + -(gx p.1 p.2) * gy p.1 m = -(p.1.2.2 * tn p.1 p.2 m) := by rw [tn_cross]; grind
    rw [id]
    constructor
    · intro h; exact (pos_cancel p0).1 (by omega)
    · intro h; have := Int.mul_nonneg (show 0 ≤ p.1.2.2 by omega) h; omega
  rw [e]
  constructor
  · intro h i hi
    have m1 := pairs_ix hi
    exact (key _ m1).mp (h _ (List.mem_map.mpr ⟨_, m1, rfl⟩))
  · intro h s hs
    obtain ⟨p, hp, rfl⟩ := List.mem_map.mp hs
    rw [key p hp]
    obtain ⟨i, a, b⟩ := pairs_mem hp
    have hi := (List.getElem?_eq_some_iff.mp a).1
    have := h i hi
    rw [at0_eq hi] at a
    rw [after_eq hi] at b
    rw [← Option.some.inj a, ← Option.some.inj b]
    exact this
theorem none_prog {S cs : List P3} (hS : Sep S) (C : Cor S cs) (m : P3) : (sidesL cs).find? (viol m) = none ↔ ProgIn cs m := by
  rw [find_none]
  match cs, C with
  | [], C => exact absurd C.pos (by simp)
  | [p], C =>
    have mp := C.mem p (by simp)
    have e : sidesL [p] = fourOf p p := rfl
    have d : dirOf p p = (1, 0) := by unfold dirOf; rw [if_pos rfl]
    rw [e, four_in hS mp mp, d]
    show _ ↔ gx p m = 0 ∧ gy p m = 0
    simp only [Int.one_mul, Int.zero_mul]
    omega
  | [p, q], C =>
    have mp := C.mem p (by simp)
    have mq := C.mem q (by simp)
    obtain ⟨pq, _, _⟩ := C.two hS
    have e : sidesL [p, q] = fourOf p q := rfl
    have d : dirOf p q = (gx p q, gy p q) := by unfold dirOf; rw [if_neg pq]
    rw [e, four_in hS mp mq, d]
    show (gx p q * gy p m - gy p q * gx p m = 0 ∧ _) ↔ (tn p q m = 0 ∧ _)
    rw [← tn_cross]
    have p0 := hS.pos p mp
    have z : p.2.2 * tn p q m = 0 ↔ tn p q m = 0 := ⟨fun h => (pos_cancel p0).2.2 h, fun h => by rw [h]; simp⟩
    rw [z]
  | p :: q :: r :: l, C => exact edges_in hS C (by simp)
theorem sides_sm {S cs : List P3} (hS : Sep S) (C : Cor S cs) (h : ∀ p ∈ S, Sm B0 p) : ∀ s ∈ sidesL cs, Sm 920 s := by
  intro s hs
  have hp := C.pos
  unfold sidesL at hs
  split at hs
  · have m1 := C.mem _ (at0_mem (cs := cs) (i := 0) (by omega))
    have m2 := C.mem _ (at0_mem (cs := cs) (i := cs.length - 1) (by omega))
    obtain ⟨b1, b2⟩ := dir_bt (h _ m1) (h _ m2)
    have nz := dir_ne hS m1 m2
    have p1 := hS.pos _ m1
    have p2 := hS.pos _ m2
    unfold fourOf at hs
    simp only [List.mem_cons, List.not_mem_nil, or_false] at hs
    rcases hs with rfl | rfl | rfl | rfl
    · exact low3_sm (sideU_pos (by omega) p1) (sideU_sm b2 b1.neg (h _ m1))
    · exact low3_sm (sideU_pos nz p2) (sideU_sm b1 b2 (h _ m2))
    · exact low3_sm (sideU_pos (by omega) p1) (sideU_sm b2.neg b1 (h _ m1))
    · exact low3_sm (sideU_pos (by omega) p1) (sideU_sm b1.neg b2.neg (h _ m1))
  · rename_i h2
    obtain ⟨p, hp, rfl⟩ := List.mem_map.mp hs
    have g := edge_pos hS C (by omega) hp
    obtain ⟨i, a, b⟩ := pairs_mem hp
    have ma := h _ (C.mem _ (List.mem_of_getElem? a))
    have mb := h _ (C.mem _ (C.next_ne (by omega) a b).2)
    exact low3_sm g (sideU_sm ((gy_bt ma mb).mono (by decide)) ((gx_bt ma mb).neg.mono (by decide)) ma)
end Mx
set_option exponentiation.threshold 5000
namespace Mx
open PySem PySem.Spec PyProof.Rows L2 Geo
/-! ### the points drawn -/
theorem cm_l {i : Int} (j : Int) (h : i.natAbs ≤ 10 ^ 15) : CMul i j := .inl (by omega)
theorem bt_of {i : Int} (h : i.natAbs ≤ 10 ^ 15) : Bt 60 i := by unfold Bt; omega
theorem ix4 {d0 d1 d2 d3 : Dt} {i : Int} (h0 : 0 ≤ i) (h1 : i < 4) : atI [d0, d1, d2, d3] i = some (if i = 0 then d0 else if i = 1 then d1 else if i = 2 then d2 else d3) := by
  have : i = 0 ∨ i = 1 ∨ i = 2 ∨ i = 3 := by omega
  rcases this with rfl | rfl | rfl | rfl <;> rfl
/-- the pair of the point, by its style -/
theorem pair_ok {own beats st w s0 s1 s2 s3 : Int} (hb : 1 ≤ beats ∧ beats ≤ 900) (h0 : s0.natAbs ≤ 3) (h1 : s1.natAbs ≤ 3) (h2 : s2.natAbs ≤ 3) (h3 : s3.natAbs ≤ 3) (ns at_ cell many : Sl) (acc : Sl) (k s12 : Sl) (s11 : Sl) :
    ∃ x y : Int, x.natAbs ≤ 10 ^ 13 ∧ y.natAbs ≤ 10 ^ 13 ∧ ∀ (r : XS),
    xsSeq (xsAsg 11 (xL (xLst (xCons (x2 dSub (xCall m__law_draw (xCons (xVar 9) (xCons (xC (.int 0)) (xCons (xC (.int 5)) xNil)))) (xC (.int 2))) (xCons (x2 dSub (xCall m__law_draw (xCons (xVar 9) (xCons (xC (.int 1)) (xCons (xC (.int 5)) xNil)))) (xC (.int 2))) xNil)))))
    (xsSeq (xsIf (xTest (x2 dEq (xVarB 4) (xC (.int 1)))) (xsAsg 11 (xL (xLst (xCons (x2 dAdd (x2 dMul (x2 dIx (xVarB 6) (xC (.int 2))) (xVarB 10)) (x2 dMul (x2 dIx (xVarB 11) (xC (.int 0))) (x2 dIx (xVarB 6) (xC (.int 0))))) (xCons (x2 dAdd (x2 dMul (x2 dIx (xVarB 6) (xC (.int 3))) (xVarB 10)) (x2 dMul (x2 dIx (xVarB 11) (xC (.int 0))) (x2 dIx (xVarB 6) (xC (.int 1))))) xNil))))) xsNext)
    (xsSeq (xsIf (xTest (x2 dEq (xVarB 4) (xC (.int 2)))) (xsAsg 11 (xL (xLst (xCons (x2 dSub (xCall m__law_draw (xCons (xVar 9) (xCons (xC (.int 0)) (xCons (xC (.int 61)) xNil)))) (xC (.int 30))) (xCons (x2 dSub (xCall m__law_draw (xCons (xVar 9) (xCons (xC (.int 1)) (xCons (xC (.int 61)) xNil)))) (xC (.int 30))) xNil))))) xsNext)
    (xsSeq (xsIf (xTest (x2 dEq (xVarB 4) (xC (.int 3)))) (xsAsg 11 (xL (xLst (xCons (x2 dSub (x2 dMod (xCB dInt (xCons (x2 dMul (xVarB 9) (xC (.int 1000003))) xNil)) (x2 dMul (xC (.int 2)) (x2 dPow (xC (.int 10)) (xC (.int 12))))) (x2 dPow (xC (.int 10)) (xC (.int 12)))) (xCons (x2 dSub (x2 dMod (xCB dInt (xCons (x2 dMul (x2 dFdiv (xVarB 9) (xC (.int 7))) (xC (.int 69621))) xNil)) (x2 dMul (xC (.int 2)) (x2 dPow (xC (.int 10)) (xC (.int 12))))) (x2 dPow (xC (.int 10)) (xC (.int 12)))) xNil))))) xsNext) r)))
      [ns, at_, cell, many, .sh (.int st), .sh (.int w), .sh (.lst [.int s0, .int s1, .int s2, .int s3]), acc, k, .sh (.int own), .sh (.int beats), s11, s12] =
    r [ns, at_, cell, many, .sh (.int st), .sh (.int w), .sh (.lst [.int s0, .int s1, .int s2, .int s3]), acc, k, .sh (.int own), .sh (.int beats), .sh (.lst [.int x, .int y]), s12] := by
  have d0 := draw_eq own 0 5 (by decide) (by decide) (by decide)
  have d1 := draw_eq own 1 5 (by decide) (by decide) (by decide)
  have e0 := draw_eq own 0 61 (by decide) (by decide) (by decide)
  have e1 := draw_eq own 1 61 (by decide) (by decide) (by decide)
  have l0 := draw_lo own 0 (m := 5) (by decide)
  have g0 := draw_hi own 0 (m := 5) (by decide)
  have l1 := draw_lo own 1 (m := 5) (by decide)
  have g1 := draw_hi own 1 (m := 5) (by decide)
  have l2 := draw_lo own 0 (m := 61) (by decide)
  have g2 := draw_hi own 0 (m := 61) (by decide)
  have l3 := draw_lo own 1 (m := 61) (by decide)
  have g3 := draw_hi own 1 (m := 61) (by decide)
  generalize draw own 0 5 = a at *
  generalize draw own 1 5 = b at *
  generalize draw own 0 61 = c at *
  generalize draw own 1 61 = d at *
  have p12 : CPow 10 12 := by unfold CPow; omega
  have cp : ∀ j : Int, CMul 2 j := fun j => .inl (by omega)
  have c1 := cmul_r own 1000003 (by decide)
  have c2 := cmul_r (own.fdiv 7) 69621 (by decide)
  have c3 := cdivn own 7 (by decide)
  have m0 : CMul s2 beats := cm_l _ (by omega)
  have m1 : CMul (a - 2) s0 := cm_l _ (by omega)
  have m2 : CMul s3 beats := cm_l _ (by omega)
  have m3 : CMul (a - 2) s1 := cm_l _ (by omega)
  have ml : ∀ x y : Int, x.natAbs ≤ 3 → y.natAbs ≤ 900 → (x * y).natAbs ≤ 2700 := fun x y hx hy => by rw [Int.natAbs_mul]; exact Nat.mul_le_mul hx hy
  have mf : ∀ x : Int, (x.fmod 2000000000000 - 1000000000000).natAbs ≤ 10 ^ 13 := fun x => by
    have := fmod_bd x (b := 2000000000000) (by decide)
    omega
  by_cases k1 : st = 1
  · refine ⟨s2 * beats + (a - 2) * s0, s3 * beats + (a - 2) * s1, ?_, ?_, fun r => ?_⟩
    · have := ml s2 beats h2 (by omega)
      have := ml s0 (a - 2) h0 (by omega)
      rw [Int.mul_comm] at this
      omega
    · have := ml s3 beats h3 (by omega)
      have := ml s1 (a - 2) h1 (by omega)
      rw [Int.mul_comm] at this
      omega
    · simp [k1, d0, d1, m0, m1, m2, m3, atI, ixN]
  · by_cases k2 : st = 2
    · refine ⟨c - 30, d - 30, by omega, by omega, fun r => ?_⟩
      simp [k2, d0, d1, e0, e1]
    · by_cases k3 : st = 3
      · refine ⟨_, _, mf (own * 1000003), mf (own.fdiv 7 * 69621), fun r => ?_⟩
        simp [k3, d0, d1, p12, cp, c1, c2, c3]
      · refine ⟨a - 2, b - 2, by omega, by omega, fun r => ?_⟩
        simp [k1, k2, k3, d0, d1]
def Pt (p : P3) : Prop := 1 ≤ p.2.2 ∧ Sm 60 p
theorem pt_ok {p : P3} (h : Pt p) : Ok p := ⟨h.1, h.2.mono (by decide)⟩
theorem pts_body (ns : List Int) {at_ st w s0 s1 s2 s3 k : Int} (ha : 0 ≤ at_) (hk : 0 ≤ k) (hw : 1 ≤ w ∧ w ≤ 900) (h0 : s0.natAbs ≤ 3) (h1 : s1.natAbs ≤ 3) (h2 : s2.natAbs ≤ 3) (h3 : s3.natAbs ≤ 3) (cell many : Sl) (P : List P3) (hP : P.length ≤ 1000) (s9 s10 s11 s12 : Sl) :
    ∃ p, Pt p ∧ ∃ t9 t10 t11 t12, xb__law_points_1 [.sh (.frl (ns.map Dt.int)), .sh (.int at_), cell, many, .sh (.int st), .sh (.int w), .sh (.lst [.int s0, .int s1, .int s2, .int s3]), .ol (P.map dP), .sh (.int k), s9, s10, s11, s12] =
      .nx [.sh (.frl (ns.map Dt.int)), .sh (.int at_), cell, many, .sh (.int st), .sh (.int w), .sh (.lst [.int s0, .int s1, .int s2, .int s3]), .ol ((P ++ [p]).map dP), .sh (.int k), t9, t10, t11, t12] := by
  have pk := pick_eq ns (at_ + k) (by omega)
  generalize hown : pick ns (at_ + k) + k = own
  have dw := draw_eq own 2 w (by decide) (by decide) (by omega)
  have lw := draw_lo own 2 (m := w) (by omega)
  have gw := draw_hi own 2 (m := w) (by omega)
  generalize draw own 2 w = bb at *
  have d3 := draw_eq own 3 3 (by decide) (by decide) (by decide)
  have l3 := draw_lo own 3 (m := 3) (by decide)
  have g3 := draw_hi own 3 (m := 3) (by decide)
  generalize draw own 3 3 = tt at *
  obtain ⟨x, y, hx, hy, hr⟩ := pair_ok (own := own) (beats := 1 + bb) (st := st) (w := w) (s0 := s0) (s1 := s1) (s2 := s2) (s3 := s3) (by omega) h0 h1 h2 h3 (.sh (.frl (ns.map Dt.int))) (.sh (.int at_)) cell many (.ol (P.map dP)) (.sh (.int k)) s12 s11
  have cx := cm_l (i := x) (1 + tt) (by omega)
  have cy := cm_l (i := y) (1 + tt) (by omega)
  have cb := cm_l (i := 1 + bb) (1 + tt) (by omega)
  have mb : ∀ z : Int, z.natAbs ≤ 10 ^ 13 → (z * (1 + tt)).natAbs ≤ 10 ^ 15 := fun z hz => by
    rw [Int.natAbs_mul]
    exact Nat.le_trans (Nat.mul_le_mul hz (show (1 + tt).natAbs ≤ 3 by omega)) (by decide)
  have pos : 1 ≤ (1 + bb) * (1 + tt) := Int.mul_pos (by omega) (by omega)
  refine ⟨(x * (1 + tt), y * (1 + tt), (1 + bb) * (1 + tt)), ⟨pos, bt_of (mb x hx), bt_of (mb y hy), bt_of (mb (1 + bb) (by omega))⟩, .sh (.int own), .sh (.int (1 + bb)), .sh (.lst [.int x, .int y]), .sh (.int (1 + tt)), ?_⟩
  refine seq_nx' (D' := [.sh (.frl (ns.map Dt.int)), .sh (.int at_), cell, many, .sh (.int st), .sh (.int w), .sh (.lst [.int s0, .int s1, .int s2, .int s3]), .ol (P.map dP), .sh (.int k), .sh (.int own), s10, s11, s12]) (by simp [pk, hown]) ?_
  refine seq_nx' (D' := [.sh (.frl (ns.map Dt.int)), .sh (.int at_), cell, many, .sh (.int st), .sh (.int w), .sh (.lst [.int s0, .int s1, .int s2, .int s3]), .ol (P.map dP), .sh (.int k), .sh (.int own), .sh (.int (1 + bb)), s11, s12]) (by simp [dw]) ?_
  rw [hr]
  have lp : P.length < 1000000 := by omega
  simp [d3, atI, ixN, cx, cy, cb, lp, dP]
theorem steps_eq (ns : List Int) (at_ cell many st w : Sl) (c : Int) (s6 s7 s8 s9 s10 s11 s12 : Sl) (hc : cell = .sh (.int c)) :
    ∃ s0 s1 s2 s3 : Int, s0.natAbs ≤ 3 ∧ s1.natAbs ≤ 3 ∧ s2.natAbs ≤ 3 ∧ s3.natAbs ≤ 3 ∧ (xsAsg 6 (xL (xLc (xRng1 (xCons (xC (.int 4)) xNil)) (xgName 8) xYes xe__law_points_1 [8]))) [.sh (.frl (ns.map Dt.int)), at_, cell, many, st, w, s6, s7, s8, s9, s10, s11, s12] =
      .nx [.sh (.frl (ns.map Dt.int)), at_, cell, many, st, w, .sh (.lst [.int s0, .int s1, .int s2, .int s3]), s7, s8, s9, s10, s11, s12] := by
  subst hc
  have b : ∀ k : Int, 0 ≤ k → k < 1000 → (draw c k 7 - 3).natAbs ≤ 3 := fun k h1 h2 => by
    have := draw_lo c k (m := 7) (by decide)
    have := draw_hi c k (m := 7) (by decide)
    omega
  have d3 := draw_eq c 3 7 (by decide) (by decide) (by decide)
  have d4 := draw_eq c 4 7 (by decide) (by decide) (by decide)
  have d5 := draw_eq c 5 7 (by decide) (by decide) (by decide)
  have d6 := draw_eq c 6 7 (by decide) (by decide) (by decide)
  have hr : dRng1 [.int 4] = .ok (rgD 0 4) := dRng1_int (j := 4) ⟨by decide, by decide⟩
  have hg : rgD 0 4 = [.int 0, .int 1, .int 2, .int 3] := rfl
  refine ⟨_, _, _, _, b 3 (by decide) (by decide), b 4 (by decide) (by decide), b 5 (by decide) (by decide), b 6 (by decide) (by decide), ?_⟩
  have hw : wipeD [.sh (.frl (ns.map Dt.int)), at_, .sh (.int c), many, st, w, s6, s7, s8, s9, s10, s11, s12] [8] = [.sh (.frl (ns.map Dt.int)), at_, .sh (.int c), many, st, w, s6, s7, .no, s9, s10, s11, s12] := rfl
  simp [hr, hg, hw, xComp, xe__law_points_1, d3, d4, d5, d6]
theorem points_eq (ns : List Int) {at_ : Int} (ha : 0 ≤ at_) : ∃ P : List P3, m__law_points [.frl (ns.map Dt.int), .int at_] = .ok (.lst (P.map dP)) ∧ P ≠ [] ∧ P.length ≤ 15 ∧ ∀ p ∈ P, Pt p := by
  have k0 := pick_eq ns 0 (by decide)
  generalize pick ns 0 = cell at k0
  have d0 := draw_eq cell 0 8 (by decide) (by decide) (by decide)
  have l0 := draw_lo cell 0 (m := 8) (by decide)
  have g0 := draw_hi cell 0 (m := 8) (by decide)
  generalize draw cell 0 8 = a at *
  have d20 := draw_eq cell 20 8 (by decide) (by decide) (by decide)
  generalize draw cell 20 8 = b at *
  have d1 := draw_eq cell 1 4 (by decide) (by decide) (by decide)
  generalize draw cell 1 4 = st at *
  have d2 := draw_eq cell 2 4 (by decide) (by decide) (by decide)
  have l2 := draw_lo cell 2 (m := 4) (by decide)
  have g2 := draw_hi cell 2 (m := 4) (by decide)
  generalize draw cell 2 4 = v at *
  obtain ⟨many, hmany⟩ : ∃ n : Int, n = 1 + a + 7 * (if b = 0 then 1 else 0) := ⟨_, rfl⟩
  have hm1 : 1 ≤ many ∧ many ≤ 15 := by rw [hmany]; split <;> omega
  obtain ⟨w, hw⟩ : ∃ w : Int, w = if v = 0 then 1 else if v = 1 then 4 else if v = 2 then 9 else 900 := ⟨_, rfl⟩
  have hw1 : 1 ≤ w ∧ w ≤ 900 := by rw [hw]; repeat' split <;> omega
  have wi : atI [Dt.int 1, .int 4, .int 9, .int 900] v = some (.int w) := by
    rw [hw]
    have : v = 0 ∨ v = 1 ∨ v = 2 ∨ v = 3 := by omega
    rcases this with rfl | rfl | rfl | rfl <;> rfl
  obtain ⟨s0, s1, s2, s3, h0, h1, h2, h3, hs⟩ := steps_eq ns (.sh (.int at_)) (.sh (.int cell)) (.sh (.int many)) (.sh (.int st)) (.sh (.int w)) cell .no .no .no .no .no .no .no rfl
  have hr : dRng1 [.int many] = .ok (rgD 0 many.toNat) := dRng1_int (j := many) ⟨by omega, by omega⟩
  have lp := loop_inv (xg := xgName 8) (xb := xb__law_points_1) (fun i D => ∃ P : List P3, P.length = i ∧ (∀ p ∈ P, Pt p) ∧ ∃ t8 t9 t10 t11 t12, D = [.sh (.frl (ns.map Dt.int)), .sh (.int at_), .sh (.int cell), .sh (.int many), .sh (.int st), .sh (.int w), .sh (.lst [.int s0, .int s1, .int s2, .int s3]), .ol (P.map dP), t8, t9, t10, t11, t12])
    (rgD 0 many.toNat) [.sh (.frl (ns.map Dt.int)), .sh (.int at_), .sh (.int cell), .sh (.int many), .sh (.int st), .sh (.int w), .sh (.lst [.int s0, .int s1, .int s2, .int s3]), .ol [], .no, .no, .no, .no, .no] ⟨[], rfl, fun _ m => (by cases m), _, _, _, _, _, rfl⟩ (fun i d D hd hI => by
      obtain ⟨P, hl, hP, t8, t9, t10, t11, t12, rfl⟩ := hI
      have hi : i < many.toNat := by have := (List.getElem?_eq_some_iff.mp hd).1; rwa [rgD_len] at this
      have hd' : d = .int (i : Nat) := by
        unfold rgD at hd
        rw [List.getElem?_map, List.getElem?_range hi] at hd
        simpa using hd.symm
      subst hd'
      obtain ⟨p, hp, u9, u10, u11, u12, e⟩ := pts_body ns (at_ := at_) (st := st) (w := w) (k := (i : Nat)) ha (by omega) hw1 h0 h1 h2 h3 (.sh (.int cell)) (.sh (.int many)) P (by omega) t9 t10 t11 t12
      refine ⟨_, _, rfl, e, P ++ [p], by simp [hl], fun q m => ?_, .sh (.int (i : Nat)), u9, u10, u11, u12, rfl⟩
      rcases List.mem_append.mp m with m | m
      · exact hP q m
      · rw [List.mem_singleton.mp m]; exact hp)
  obtain ⟨D', e, P, hl, hP, t8, t9, t10, t11, t12, rfl⟩ := lp
  rw [rgD_len] at hl
  refine ⟨P, ?_, fun z => by rw [z] at hl; simp at hl; omega, by omega, hP⟩
  refine fun_rt (D := [.sh (.frl (ns.map Dt.int)), .sh (.int at_), .no, .no, .no, .no, .no, .no, .no, .no, .no, .no, .no]) rfl rfl ?_
  refine seq_nx' (D' := [.sh (.frl (ns.map Dt.int)), .sh (.int at_), .sh (.int cell), .no, .no, .no, .no, .no, .no, .no, .no, .no, .no]) (by simp [k0]) ?_
  have c7 : ∀ j : Int, CMul 7 j := fun j => .inl (by omega)
  refine seq_nx' (D' := [.sh (.frl (ns.map Dt.int)), .sh (.int at_), .sh (.int cell), .sh (.int many), .no, .no, .no, .no, .no, .no, .no, .no, .no]) (by simp [d0, d20, c7, hmany]) ?_
  refine seq_nx' (D' := [.sh (.frl (ns.map Dt.int)), .sh (.int at_), .sh (.int cell), .sh (.int many), .sh (.int st), .no, .no, .no, .no, .no, .no, .no, .no]) (by simp [d1]) ?_
  refine seq_nx' (D' := [.sh (.frl (ns.map Dt.int)), .sh (.int at_), .sh (.int cell), .sh (.int many), .sh (.int st), .sh (.int w), .no, .no, .no, .no, .no, .no, .no]) (by simp [d2, wi]) ?_
  refine seq_nx' hs ?_
  refine seq_nx' (D' := [.sh (.frl (ns.map Dt.int)), .sh (.int at_), .sh (.int cell), .sh (.int many), .sh (.int st), .sh (.int w), .sh (.lst [.int s0, .int s1, .int s2, .int s3]), .ol [], .no, .no, .no, .no, .no]) (by simp) ?_
  refine seq_nx' (by simp only [xsFor, xRng1, xCons, xNil, xVar_ap, List.getElem?_cons_succ, List.getElem?_cons_zero, shO_sh, bind_ok, hr, out_ok]; exact e) ?_
  simp [Frz, Sl.frz]
end Mx
set_option exponentiation.threshold 5000
namespace Mx
open PySem PySem.Spec PyProof.Rows L2 Geo
/-! weights of a mix of the region -/
def dW (w : Int × Int) : Dt := .tup [.int w.1, .int w.2]
theorem comp_some {xg : XG} {xt : XT} {xe : XE} {D0 : Ds} : ∀ (l acc : List Dt), (∀ a ∈ l, ∃ D1, xg a D0 = .ok D1 ∧ ∃ t, xt D1 = .ok t ∧ (t = true → ∃ y, xe D1 = .ok y)) → acc.length + l.length ≤ 1000000 →
    ∃ r, xComp xg xt xe D0 l acc = .ok r
  | [], acc, _, _ => ⟨acc, rfl⟩
  | a :: l, acc, h, hl => by
    obtain ⟨D1, e1, t, e2, e3⟩ := h a List.mem_cons_self
    simp only [List.length_cons] at hl
    unfold xComp
    simp only [e1, e2]
    cases t with
    | true =>
      obtain ⟨y, e3⟩ := e3 rfl
      simp only [e3]
      rw [if_pos (by omega)]
      exact comp_some l (acc ++ [y]) (fun b m => h b (List.mem_cons_of_mem _ m)) (by simp; omega)
    | false => exact comp_some l acc (fun b m => h b (List.mem_cons_of_mem _ m)) (by omega)
theorem inl_loop (s0 : Sl) : ∀ (ws : List (Int × Int)) (g : Nat) (t2 t3 : Sl), ∃ (g' : Nat) (u2 u3 : Sl),
    xLoop (xgTup 2 (xgCons (xgName 2) (xgCons (xgName 3) xgNil))) xb__in_lowest_terms_1 (ws.map dW) [s0, .sh (.int g), t2, t3, .no] = .nx [s0, .sh (.int g'), u2, u3, .no] ∧ g' ∣ g ∧ ∀ w ∈ ws, g' ∣ w.2.natAbs
  | [], g, t2, t3 => ⟨g, t2, t3, rfl, Nat.dvd_refl _, fun _ h => by cases h⟩
  | w :: ws, g, t2, t3 => by
    obtain ⟨g', u2, u3, e, d1, d2⟩ := inl_loop s0 ws (g.gcd w.2.natAbs) (.sh (.int w.1)) (.sh (.int w.2))
    refine ⟨g', u2, u3, ?_, Nat.dvd_trans d1 (Nat.gcd_dvd_left _ _), fun x m => ?_⟩
    · have eg : xgTup 2 (xgCons (xgName 2) (xgCons (xgName 3) xgNil)) (dW w) [s0, .sh (.int g), t2, t3, .no] = .ok [s0, .sh (.int g), .sh (.int w.1), .sh (.int w.2), .no] := rfl
      have eb : xb__in_lowest_terms_1 [s0, .sh (.int g), .sh (.int w.1), .sh (.int w.2), .no] = .nx [s0, .sh (.int (g.gcd w.2.natAbs : Nat)), .sh (.int w.1), .sh (.int w.2), .no] := by
        simp [xb__in_lowest_terms_1]
      rw [List.map_cons, loop_cons, eg, get_ok, eb]
      exact e
    · rcases List.mem_cons.mp m with rfl | m
      · exact Nat.dvd_trans d1 (Nat.gcd_dvd_right _ _)
      · exact d2 x m
theorem inlow_ok {ws : List (Int × Int)} (hl : ws.length ≤ 10) (hw : ∀ w ∈ ws, Bt 1600 w.2) : ∃ r, m__in_lowest_terms [.lst (ws.map dW)] = .ok (.lst r) := by
  obtain ⟨g, u2, u3, e, _, d2⟩ := inl_loop (.sh (.lst (ws.map dW))) ws 0 .no .no
  obtain ⟨r, c⟩ := comp_some (xg := xgTup 2 (xgCons (xgName 4) (xgCons (xgName 3) xgNil))) (xt := xTest (x2 dGt (xVarB 3) (xC (.int 0)))) (xe := xe__in_lowest_terms_1)
    (D0 := wipeD [.sh (.lst (ws.map dW)), .sh (.int g), u2, u3, .no] [4, 3]) (ws.map dW) [] (fun a m => by
      obtain ⟨w, mw, rfl⟩ := List.mem_map.mp m
      refine ⟨[.sh (.lst (ws.map dW)), .sh (.int g), u2, .sh (.int w.2), .sh (.int w.1)], rfl, decide (0 < w.2), by simp, fun z => ?_⟩
      have z : 0 < w.2 := by simpa using z
      have d := d2 w mw
      have n0 : 0 < w.2.natAbs := by omega
      have gp : 0 < g := Nat.pos_of_dvd_of_pos d n0
      have gl : g ≤ w.2.natAbs := Nat.le_of_dvd n0 d
      have hb := (hw w mw).line (by decide)
      have cd : CDivB w.2 (g : Nat) := ⟨by omega, by show g < lineB; omega⟩
      exact ⟨.tup [.int w.1, .int (w.2.fdiv g)], by simp [xe__in_lowest_terms_1, cd]⟩) (by simp; omega)
  refine ⟨r, fun_rt (D := [.sh (.lst (ws.map dW)), .no, .no, .no, .no]) rfl rfl ?_⟩
  refine seq_nx' (D' := [.sh (.lst (ws.map dW)), .sh (.int 0), .no, .no, .no]) rfl ?_
  refine seq_nx' (D' := [.sh (.lst (ws.map dW)), .sh (.int g), u2, u3, .no]) (by
    simp only [xsFor, xItems, xVar_ap, List.getElem?_cons_zero, shO_sh, bind_ok, dItems_lst, out_ok]
    exact e) ?_
  simp only [xsRet, xL, xLc, xItems, xVar_ap, List.getElem?_cons_zero, shO_sh, bind_ok, dItems_lst, out_ok, c]
end Mx
set_option exponentiation.threshold 5000
namespace Mx
open PySem PySem.Spec PyProof.Rows L2 Geo
theorem at_nat {cs : List P3} {i : Nat} (h : i < cs.length) : atI (cs.map dP) (i : Int) = some (dP (at0 cs i)) := by
  rw [atI_nat' (by omega) (by simpa using h)]
  simp [at0_eq h]
theorem at_nat1 {cs : List P3} {i : Nat} (h : i + 1 < cs.length) : atI (cs.map dP) ((i : Int) + 1) = some (dP (at0 cs (i + 1))) := at_nat h
theorem tri_ok {cs : List P3} {m : P3} (hc : ∀ p ∈ cs, Sm B0 p) (hm : Sm B0 m) (h3 : 3 ≤ cs.length) (hl : cs.length ≤ 60) (E : Edges cs m) :
    ∃ ws : List (Int × Int), m__triangle_weights [.lst (cs.map dP), dP m] = .ok (.lst (ws.map dW)) ∧ ws.length ≤ 10 ∧ ∀ w ∈ ws, Bt 1600 w.2 := by
  obtain ⟨k, k1, k2, f1, _, f3⟩ := fan_ok h3 E
  have a0 := at_nat (cs := cs) (i := 0) (by omega)
  have a0 : atI (cs.map dP) 0 = some (dP (at0 cs 0)) := a0
  have s0 := hc _ (at0_mem (cs := cs) (i := 0) (by omega))
  have test : ∀ i : Nat, i + 1 < cs.length → xt__triangle_weights_1 [.sh (.lst (cs.map dP)), .sh (dP m), .sh (.int i), .no, .no, .no] = .ok (decide (0 < tn (at0 cs 0) (at0 cs (i + 1)) m)) := fun i hi => by
    have a1 := at_nat1 hi
    have s1 := hc _ (at0_mem hi)
    simp [xt__triangle_weights_1, a0, a1, turn_eq s0 s1 hm]
  have body : ∀ i : Nat, xb__triangle_weights_1 [.sh (.lst (cs.map dP)), .sh (dP m), .sh (.int i), .no, .no, .no] = .nx [.sh (.lst (cs.map dP)), .sh (dP m), .sh (.int (i + 1 : Nat)), .no, .no, .no] := fun i => by
    simp [xb__triangle_weights_1]
  have loop : ∀ (d i n : Nat), 1 ≤ i → i + d = k → d + 1 ≤ n → xWh xt__triangle_weights_1 xb__triangle_weights_1 n [.sh (.lst (cs.map dP)), .sh (dP m), .sh (.int i), .no, .no, .no] = .nx [.sh (.lst (cs.map dP)), .sh (dP m), .sh (.int k), .no, .no, .no] := by
    intro d
    induction d with
    | zero =>
      intro i n h1 h2 h4
      have : i = k := by omega
      subst this
      obtain ⟨n, rfl⟩ : ∃ n', n = n' + 1 := ⟨n - 1, by omega⟩
      unfold xWh
      rw [test i (by omega), decide_eq_false (by omega)]
      rfl
    | succ d ih =>
      intro i n h1 h2 h4
      obtain ⟨n, rfl⟩ : ∃ n', n = n' + 1 := ⟨n - 1, by omega⟩
      unfold xWh
      rw [test i (by omega), decide_eq_true (f1 i h1 (by omega)), out_ok, if_pos rfl, body i]
      exact ih (i + 1) n (by omega) (by omega) (by omega)
  have sk := hc _ (at0_mem (cs := cs) (i := k) (by omega))
  have sk1 := hc _ (at0_mem (cs := cs) (i := k + 1) (by omega))
  have ak := at_nat (cs := cs) (i := k) (by omega)
  have ak1 := at_nat1 (cs := cs) (i := k) (by omega)
  generalize at0 cs 0 = p at *
  generalize at0 cs k = q at *
  generalize at0 cs (k + 1) = r at *
  have t1 := tn_bt hm sk sk1
  have t2 := tn_bt s0 hm sk1
  have t3 := tn_bt s0 sk hm
  have c1 := cmB t1 s0.2.2
  have c2 := cmB t2 sk.2.2
  have c3 := cmB t3 sk1.2.2
  refine ⟨[(0, tn m q r * p.2.2), (k, tn p m r * q.2.2), (k + 1, tn p q m * r.2.2)], ?_, by simp, fun w mw => ?_⟩
  · refine fun_rt (D := [.sh (.lst (cs.map dP)), .sh (dP m), .no, .no, .no, .no]) rfl rfl ?_
    refine seq_nx' (D' := [.sh (.lst (cs.map dP)), .sh (dP m), .sh (.int (1 : Nat)), .no, .no, .no]) rfl ?_
    refine seq_nx' (loop (k - 1) 1 100 (by omega) (by omega) (by omega)) ?_
    refine seq_nx' (D' := [.sh (.lst (cs.map dP)), .sh (dP m), .sh (.int k), .sh (dP p), .sh (dP q), .sh (dP r)]) (by simp [a0, ak, ak1]) ?_
    simp [turn_eq hm sk sk1, turn_eq s0 hm sk1, turn_eq s0 sk hm, dP_2, c1, c2, c3, dW]
  · simp only [List.mem_cons, List.not_mem_nil, or_false] at mw
    rcases mw with rfl | rfl | rfl
    · exact (t1.mul s0.2.2).mono (by decide)
    · exact (t2.mul sk.2.2).mono (by decide)
    · exact (t3.mul sk1.2.2).mono (by decide)
theorem seg_ok {p q m : P3} (hp : Sm B0 p) (hq : Sm B0 q) (hm : Sm B0 m) :
    ∃ ws : List (Int × Int), m__segment_weights [.lst [dP p, dP q], dP m] = .ok (.lst (ws.map dW)) ∧ ws.length ≤ 10 ∧ ∀ w ∈ ws, Bt 1600 w.2 := by
  have x1 := gx_bt hm hq
  have x2 := gx_bt hp hm
  have y1 := gy_bt hm hq
  have y2 := gy_bt hp hm
  have c1 := cmB x1 hp.2.2
  have c2 := cmB x2 hq.2.2
  have c3 := cmB y1 hp.2.2
  have c4 := cmB y2 hq.2.2
  by_cases h : gx p q = 0
  · refine ⟨[(0, gy m q * p.2.2), (1, gy p m * q.2.2)], ?_, by simp, fun w mw => ?_⟩
    · refine fun_rt (D := [.sh (.lst [dP p, dP q]), .sh (dP m), .no, .no, .no]) rfl rfl ?_
      refine seq_nx' (D' := [.sh (.lst [dP p, dP q]), .sh (dP m), .sh (dP p), .sh (dP q), .no]) rfl ?_
      refine seq_nx' (D' := [.sh (.lst [dP p, dP q]), .sh (dP m), .sh (dP p), .sh (dP q), .sh (.int 1)]) (by simp [gap0 hp hq, h]) ?_
      simp [gap1 hm hq, gap1 hp hm, dP_2, c3, c4, dW]
    · simp only [List.mem_cons, List.not_mem_nil, or_false] at mw
      rcases mw with rfl | rfl
      · exact (y1.mul hp.2.2).mono (by decide)
      · exact (y2.mul hq.2.2).mono (by decide)
  · refine ⟨[(0, gx m q * p.2.2), (1, gx p m * q.2.2)], ?_, by simp, fun w mw => ?_⟩
    · refine fun_rt (D := [.sh (.lst [dP p, dP q]), .sh (dP m), .no, .no, .no]) rfl rfl ?_
      refine seq_nx' (D' := [.sh (.lst [dP p, dP q]), .sh (dP m), .sh (dP p), .sh (dP q), .no]) rfl ?_
      refine seq_nx' (D' := [.sh (.lst [dP p, dP q]), .sh (dP m), .sh (dP p), .sh (dP q), .sh (.int 0)]) (by simp [gap0 hp hq, h]) ?_
      simp [gap0 hm hq, gap0 hp hm, dP_2, c1, c2, dW]
    · simp only [List.mem_cons, List.not_mem_nil, or_false] at mw
      rcases mw with rfl | rfl
      · exact (x1.mul hp.2.2).mono (by decide)
      · exact (x2.mul hq.2.2).mono (by decide)
end Mx
set_option exponentiation.threshold 5000
namespace Mx
open PySem PySem.Spec PyProof.Rows L2 Geo
theorem cw_ok {cs : List P3} {m : P3} (hn : cs ≠ []) (hc : ∀ p ∈ cs, Sm B0 p) (hm : Sm B0 m) (hl : cs.length ≤ 60) (E : 3 ≤ cs.length → Edges cs m) :
    ∃ ws : List (Int × Int), m__corner_weights [.lst (cs.map dP), dP m] = .ok (.lst (ws.map dW)) ∧ ws.length ≤ 10 ∧ ∀ w ∈ ws, Bt 1600 w.2 := by
  match cs, hn, hc, hl, E with
  | [p], _, hc, hl, E =>
    refine ⟨[(0, 1)], by simp [m__corner_weights, funD, runD, xs__corner_weights, dW], by simp, fun w mw => ?_⟩
    simp only [List.mem_cons, List.not_mem_nil, or_false] at mw
    subst mw
    exact .of (by decide +kernel)
  | [p, q], _, hc, hl, E =>
    obtain ⟨ws, e, h⟩ := seg_ok (hc p (by simp)) (hc q (by simp)) hm
    exact ⟨ws, by simp [m__corner_weights, funD, runD, xs__corner_weights, e], h⟩
  | p :: q :: r :: cs, _, hc, hl, E =>
    obtain ⟨ws, e, h⟩ := tri_ok hc hm (by simp) hl (E (by simp))
    generalize hcs : p :: q :: r :: cs = l at *
    have h3 : 3 ≤ l.length := by rw [← hcs]; simp
    have n1 : ¬ ((l.length : Nat) : Int) = 1 := by omega
    have n2 : ¬ ((l.length : Nat) : Int) = 2 := by omega
    exact ⟨ws, by simp [m__corner_weights, funD, runD, xs__corner_weights, e, n1, n2], h⟩
theorem weights_ok {P : List P3} (h : ∀ p ∈ P, Ok p) (hn : P ≠ []) (hl : P.length ≤ 50) {m : P3} (hm : Ok m) (hv : (sidesL (crn P)).find? (viol m) = none) : ∃ r, m_Region_weights [rg (crn P), dP m] = .ok (.lst r) := by
  have hS := sep_low h
  have C := crn_cor h hn
  have hs := sides_sm hS C (low_all h)
  have e := bar_eq hm.1 hm.2 hs
  have e0 : barD (sidesL (crn P)) m = .non := by unfold barD; rw [hv]
  rw [e0] at e
  have cl := crn_len h hn
  have cn : crn P ≠ [] := fun z => by
    have := C.pos
    rw [z] at this
    simp at this
  obtain ⟨ws, ew, wl, wb⟩ := cw_ok cn (fun p mp => low_all h p (C.mem p mp)) hm.2 (by omega) (fun h3 => (edges_in hS C h3).mp (find_none.mp hv))
  obtain ⟨r, er⟩ := inlow_ok wl wb
  have em : xMeth "Region" "bar" m_Region_bar (xVar 0) (xCons (xVar 1) xNil) [.sh (rg (crn P)), .sh (dP m), .no] = .ok .non := by
    have lk : (rgF (crn P)).lookup (Str.ofString "bar") = none := by
      have n1 : (Str.ofString "bar" == Str.ofString "_corners") = false := by decide +kernel
      have n2 : (Str.ofString "bar" == Str.ofString "_sides") = false := by decide +kernel
      simp [rgF, List.lookup, n1, n2]
    unfold rg at e ⊢
    simp [xMeth, lk, e, isM]
  refine ⟨r, fun_rt (D := [.sh (rg (crn P)), .sh (dP m), .no]) rfl rfl ?_⟩
  refine seq_nx' (D' := [.sh (rg (crn P)), .sh (dP m), .sh .non]) (by simp only [xsAsg, em, out_ok]; rfl) ?_
  refine seq_nx' (D' := [.sh (rg (crn P)), .sh (dP m), .sh .non]) (by rfl) ?_
  have ec : dFld "Region" "_corners" (rg (crn P)) = .ok (.lst ((crn P).map dP)) := by
    simp [rg, rgF, dFld, List.lookup]
  simp [ec, ew, er]
/-! an invalid mix -/
abbrev bad1 (m : P3) : List (Str × Dt) := [(Str.ofString "mix", dP m)]
theorem check_bad {m : P3} (h : m.2.2 < 1) : m_check_mix [dP m] = .ex "InvalidMix" (bad1 m) := by
  simp [m_check_mix, funD, runD, xs_check_mix, h, okm_InvalidMix]
theorem lowest_bad {m : P3} (h : m.2.2 < 1) : m_lowest [dP m] = .ex "InvalidMix" (bad1 m) := by
  simp [m_lowest, funD, runD, xs_lowest, check_bad h]
theorem bar_bad {r : Dt} {m : P3} (h : m.2.2 < 1) : m_Region_bar [r, dP m] = .ex "InvalidMix" (bad1 m) := by
  simp [m_Region_bar, funD, runD, xs_Region_bar, check_bad h]
theorem meth_bad {cs : List P3} {m : P3} (h : m.2.2 < 1) (D : Ds) : xMeth "Region" "bar" m_Region_bar (xVar 0) (xCons (xVar 1) xNil) (.sh (rg cs) :: .sh (dP m) :: D) = .ex "InvalidMix" (bad1 m) := by
  have lk : (rgF cs).lookup (Str.ofString "bar") = none := by
    have n1 : (Str.ofString "bar" == Str.ofString "_corners") = false := by decide +kernel
    have n2 : (Str.ofString "bar" == Str.ofString "_sides") = false := by decide +kernel
    simp [rgF, List.lookup, n1, n2]
  have e := bar_bad (r := rg cs) h
  unfold rg at e ⊢
  simp [xMeth, lk, e, isM]
theorem contains_bad {cs : List P3} {m : P3} (h : m.2.2 < 1) : m_Region___contains__ [rg cs, dP m] = .ex "InvalidMix" (bad1 m) := by
  refine fun_ex (D := [.sh (rg cs), .sh (dP m)]) (D' := [.sh (rg cs), .sh (dP m)]) rfl rfl ?_
  simp only [xs_Region___contains__, xsRet, x2, meth_bad h, bind_ex, out_ex]
theorem weights_bad {cs : List P3} {m : P3} (h : m.2.2 < 1) : m_Region_weights [rg cs, dP m] = .ex "InvalidMix" (bad1 m) := by
  refine fun_ex (D := [.sh (rg cs), .sh (dP m), .no]) (D' := [.sh (rg cs), .sh (dP m), .no]) rfl rfl ?_
  simp only [xs_Region_weights, xsSeq, xsAsg, meth_bad h, out_ex, seq_ex]
end Mx
set_option exponentiation.threshold 5000
namespace Mx
open PySem PySem.Spec PyProof.Rows L2 Geo
theorem region_bad {l r : List P3} {b : P3} (h : ∀ p ∈ l, Ok p) (hb : b.2.2 < 1) (hl : l.length ≤ 90) : m_Region___init__ [.lst ((l ++ b :: r).map dP)] = .ex "InvalidMix" (bad1 b) := by
  generalize hL : (l ++ b :: r).map dP = L
  have c : xCompX (xgName 2) xYes xe_Region___init___1 [.oi 0 "Region" [], .sh (.lst L), .no] L [] = .ex "InvalidMix" (bad1 b) := by
    have c := comp_mapE (xg := xgName 2) (xe := xe_Region___init___1) (D0 := [.oi 0 "Region" [], .sh (.lst L), .no]) (f := dP) (g := fun p => dP (low3 p)) (b := b) (r := r) (c := "InvalidMix") (fs := bad1 b)
      ⟨[.oi 0 "Region" [], .sh (.lst L), .sh (dP b)], rfl, by simp [xe_Region___init___1, lowest_bad hb]⟩ l []
      (fun p m => ⟨[.oi 0 "Region" [], .sh (.lst L), .sh (dP p)], rfl, by
        have e := lowest_ok (p := p) (h p m).1 ((h p m).2.mono (by decide))
        simp [xe_Region___init___1, e]⟩) (by simp; omega)
    rw [hL] at c
    exact c
  have hw : wipeD [.oi 0 "Region" [], .sh (.lst L), .no] [2] = [.oi 0 "Region" [], .sh (.lst L), .no] := rfl
  have n0 : ¬ ((L.length : Nat) : Int) = 0 := by
    rw [← hL]; simp
    omega
  have nn : L ≠ [] := by rw [← hL]; simp
  simp only [m_Region___init__, runI, xs_Region___init__, List.length_cons, List.length_nil, List.map_cons, List.map_nil, List.replicate, List.cons_append, List.nil_append]
  simp [nn, n0, hw, c]
theorem region_empty : m_Region___init__ [.lst []] = .ex "EmptyRegion" [] := by
  simp [m_Region___init__, runI, xs_Region___init__]
theorem clsR : (Str.ofString "EmptyRegion" == Str.ofString "InvalidMix") = false ∧ (Str.ofString "InvalidMix" == Str.ofString "EmptyRegion") = false ∧ (Str.ofString "InvalidMix" == Str.ofString "Barred") = false ∧ Str.ofString "EmptyRegion" ≠ Str.ofString "InvalidMix" ∧ Str.ofString "InvalidMix" ≠ Str.ofString "EmptyRegion" ∧ Str.ofString "InvalidMix" ≠ Str.ofString "Barred" := by decide +kernel
theorem refusal_made {L : Dt} {f : List (Str × Dt)} (e : m_Region___init__ [L] = .ok f) : m__law_refusal [L] = .ok (.lst [.str "made"]) := by
  refine fun_rt (D := [.sh L, .no]) rfl rfl ?_
  refine seq_nx' (D' := [.sh L, .no]) (by simp [gD_0, e, Out.tryAs]) ?_
  simp
theorem refusal_empty : m__law_refusal [.lst []] = .ok (.lst [.str "empty"]) := by
  obtain ⟨c1, c2, c3, c4, c5, c6⟩ := clsR
  have cm : Str.ofString "EmptyRegion" ∈ [Str.ofString "EmptyRegion", Str.ofString "InvalidMix"] := by simp
  refine fun_rt (D := [.sh (.lst []), .no]) rfl rfl ?_
  refine seq_rt' ?_
  have eb : (xsDrop (xMake "Region" 1 0 m_Region___init__ gD_0 (xCons (xVar 0) xNil) xNil)) [.sh (.lst []), .no] = .ex "EmptyRegion" [] [.sh (.lst []), .no] := by
    simp [gD_0, region_empty]
  unfold xsTryAs
  rw [eb, tryAs_ex, if_pos cm]
  simp [noXc, Sl.xc?, List.lookup, c1, c2, c4, c5, Out.endX, Sl.isXc]
theorem refusal_mix {L : Dt} {b : P3} (e : m_Region___init__ [L] = .ex "InvalidMix" (bad1 b)) : m__law_refusal [L] = .ok (.lst [.str "mix", dP b]) := by
  obtain ⟨c1, c2, c3, c4, c5, c6⟩ := clsR
  have cm : Str.ofString "InvalidMix" ∈ [Str.ofString "EmptyRegion", Str.ofString "InvalidMix"] := by simp
  refine fun_rt (D := [.sh L, .no]) rfl rfl ?_
  refine seq_rt' ?_
  have eb : (xsDrop (xMake "Region" 1 0 m_Region___init__ gD_0 (xCons (xVar 0) xNil) xNil)) [.sh L, .no] = .ex "InvalidMix" (bad1 b) [.sh L, .no] := by
    simp [gD_0, e]
  unfold xsTryAs
  rw [eb, tryAs_ex, if_pos cm]
  simp [noXc, Sl.xc?, List.lookup, c1, c2, c4, c5, Out.endX, Sl.isXc]
end Mx
set_option exponentiation.threshold 5000
namespace Mx
open PySem PySem.Spec PyProof.Rows L2 Geo
theorem in_bad {cs : List P3} {m : P3} (h : m.2.2 < 1) (s : List Sl) : x2 (dInC "Region" m_Region___contains__) (xVar 1) (xVar 0) (.sh (rg cs) :: .sh (dP m) :: s) = .ex "InvalidMix" (bad1 m) := by
  have e := contains_bad (cs := cs) h
  unfold rg at e ⊢
  simp [e]
theorem in_ok {cs : List P3} {m : P3} (h1 : 1 ≤ m.2.2) (hm : Sm B0 m) (hs : ∀ s ∈ sidesL cs, Sm 920 s) (hv : (sidesL cs).find? (viol m) = none) (s : List Sl) :
    x2 (dInC "Region" m_Region___contains__) (xVar 1) (xVar 0) (.sh (rg cs) :: .sh (dP m) :: s) = .ok (.bl true) := by
  have e := contains_eq h1 hm hs
  rw [decide_eq_true hv] at e
  unfold rg at e ⊢
  simp [e]
theorem lkW (cs : List P3) : (rgF cs).lookup (Str.ofString "weights") = none := by
  have n1 : (Str.ofString "weights" == Str.ofString "_corners") = false := by decide +kernel
  have n2 : (Str.ofString "weights" == Str.ofString "_sides") = false := by decide +kernel
  simp [rgF, List.lookup, n1, n2]
theorem lkB (cs : List P3) : (rgF cs).lookup (Str.ofString "bar") = none := by
  have n1 : (Str.ofString "bar" == Str.ofString "_corners") = false := by decide +kernel
  have n2 : (Str.ofString "bar" == Str.ofString "_sides") = false := by decide +kernel
  simp [rgF, List.lookup, n1, n2]
theorem methW_bad {cs : List P3} {m : P3} (h : m.2.2 < 1) (D : Ds) : xMeth "Region" "weights" m_Region_weights (xVar 0) (xCons (xVar 1) xNil) (.sh (rg cs) :: .sh (dP m) :: D) = .ex "InvalidMix" (bad1 m) := by
  have lk := lkW cs
  have e := weights_bad (cs := cs) h
  unfold rg at e ⊢
  simp [xMeth, lk, e, isM]
theorem methW_ok {cs : List P3} {m : P3} {r : Dt} (e : m_Region_weights [rg cs, dP m] = .ok r) (D : Ds) : xMeth "Region" "weights" m_Region_weights (xVar 0) (xCons (xVar 1) xNil) (.sh (rg cs) :: .sh (dP m) :: D) = .ok r := by
  have lk := lkW cs
  unfold rg at e ⊢
  simp [xMeth, lk, e, isM]
theorem methB_ok {cs : List P3} {m : P3} {r : Dt} (e : m_Region_bar [rg cs, dP m] = .ok r) (D : Ds) : xMeth "Region" "bar" m_Region_bar (xVar 0) (xCons (xVar 1) xNil) (.sh (rg cs) :: .sh (dP m) :: D) = .ok r := by
  have lk := lkB cs
  unfold rg at e ⊢
  simp [xMeth, lk, e, isM]
theorem asked_bad {cs : List P3} {m : P3} (h : m.2.2 < 1) {d : Int} (hd : d = 0 ∨ d = 1 ∨ d = 2) : m__law_asked [rg cs, dP m, .int d] = .ok (.lst [.str "mix", dP m]) := by
  obtain ⟨c1, c2, c3, c4, c5, c6⟩ := clsR
  have cm : Str.ofString "InvalidMix" ∈ [Str.ofString "InvalidMix"] := by simp
  have e0 := in_bad (cs := cs) h [.sh (.int d), .no]
  have e1 := meth_bad (cs := cs) h [.sh (.int d), .no]
  have e2 := methW_bad (cs := cs) h [.sh (.int d), .no]
  refine fun_rt (D := [.sh (rg cs), .sh (dP m), .sh (.int d), .no]) rfl rfl ?_
  unfold xs__law_asked
  generalize x2 (dInC "Region" m_Region___contains__) (xVar 1) (xVar 0) = f0 at *
  generalize xMeth "Region" "bar" m_Region_bar (xVar 0) (xCons (xVar 1) xNil) = f1 at *
  generalize xMeth "Region" "weights" m_Region_weights (xVar 0) (xCons (xVar 1) xNil) = f2 at *
  refine seq_rt' ?_
  unfold xsTryAs
  have eb : (xsSeq (xsIf (xTest (x2 dEq (xVarB 2) (xC (.int 0)))) (xsRet (xL (xLst (xCons f0 xNil)))) xsNext)
    (xsSeq (xsIf (xTest (x2 dEq (xVarB 2) (xC (.int 1)))) (xsDrop f1) xsNext)
    (xsIf (xTest (x2 dEq (xVarB 2) (xC (.int 2)))) (xsDrop f2) xsNext))) [.sh (rg cs), .sh (dP m), .sh (.int d), .no] = .ex "InvalidMix" (bad1 m) [.sh (rg cs), .sh (dP m), .sh (.int d), .no] := by
    rcases hd with rfl | rfl | rfl
    · simp [e0]
    · simp [e1]
    · simp [e2]
  rw [eb, tryAs_ex, if_pos cm]
  simp [noXc, Sl.xc?, List.lookup, c1, c2, c3, c4, c5, c6, Out.endX, Sl.isXc]
def known (d : Int) : Dt := if d = 0 then .lst [.bl true] else .lst [.str "known"]
theorem asked_ok {cs : List P3} {m : P3} {b r : Dt} {d : Int} (hd : d = 0 ∨ d = 1 ∨ d = 2) (h1 : 1 ≤ m.2.2) (hm : Sm B0 m) (hs : ∀ s ∈ sidesL cs, Sm 920 s) (hv : (sidesL cs).find? (viol m) = none)
    (eb : m_Region_bar [rg cs, dP m] = .ok b) (ew : m_Region_weights [rg cs, dP m] = .ok r) : m__law_asked [rg cs, dP m, .int d] = .ok (known d) := by
  have e0 := in_ok h1 hm hs hv [.sh (.int d), .no]
  have e1 := methB_ok eb [.sh (.int d), .no]
  have e2 := methW_ok ew [.sh (.int d), .no]
  refine fun_rt (D := [.sh (rg cs), .sh (dP m), .sh (.int d), .no]) rfl rfl ?_
  unfold xs__law_asked
  generalize x2 (dInC "Region" m_Region___contains__) (xVar 1) (xVar 0) = f0 at *
  generalize xMeth "Region" "bar" m_Region_bar (xVar 0) (xCons (xVar 1) xNil) = f1 at *
  generalize xMeth "Region" "weights" m_Region_weights (xVar 0) (xCons (xVar 1) xNil) = f2 at *
  rcases hd with rfl | rfl | rfl
  · simp [e0, known]
  · simp [e1, known]
  · simp [e2, known]
/-- a point of the polygon's own belongs to it -/
theorem own_in {P : List P3} (h : ∀ p ∈ P, Ok p) (hn : P ≠ []) {m : P3} (hm : m ∈ P) : (sidesL (crn P)).find? (viol m) = none := by
  have hS := sep_low h
  have C := crn_cor h hn
  rw [none_prog hS C, prog_law hS C]
  have g := ok_g3 (h m hm)
  have sc := low3_scl' g
  have mm : low3 m ∈ P.map low3 := List.mem_map.mpr ⟨m, hm, rfl⟩
  refine ⟨fun p hp q hq _ s => ?_, fun _ => ⟨fun l hl z => ?_, fun l hl z => ?_⟩⟩
  · obtain ⟨k, k0, e⟩ := scl_tn (scl_refl p) (scl_refl q) sc
    rw [e]
    exact Int.mul_nonneg (by omega) (s _ mm)
  · rw [scl_bef sc (scl_refl l)]; exact z _ mm
  · rw [scl_bef (scl_refl l) sc]; exact z _ mm
end Mx
set_option exponentiation.threshold 5000
namespace Mx
open PySem PySem.Spec PyProof.Rows L2 Geo
theorem self_ne {d : Dt} (h : cmpOk d = true) : dNe d d = .ok (.bl false) := by
  have e : dEqv d d = true := SeqAt.eqv_refl_plain _ (py_plain d)
  simp [dNe, h, e]
theorem self_eq {d : Dt} (h : cmpOk d = true) : dEq d d = .ok (.bl true) := by
  have e : dEqv d d = true := SeqAt.eqv_refl_plain _ (py_plain d)
  simp [dEq, h, e]
theorem mix_cmp (p : P3) : cmpOk (.lst [.str "mix", dP p]) = true := fl_cmp (fl_lst (n := 1) fun d hd => by
  simp only [List.mem_cons, List.not_mem_nil, or_false] at hd
  rcases hd with rfl | rfl
  · exact fl_str _ _
  · exact dP_fl p) (by decide)
theorem made_cmp : cmpOk (.lst [.str "made"]) = true := by decide +kernel
theorem empty_cmp : cmpOk (.lst [.str "empty"]) = true := by decide +kernel
theorem known_cmp (d : Int) : cmpOk (known d) = true := by
  unfold known
  split <;> decide +kernel
/-- points of which one is spoilt, the first of them at i -/
def Spl (P L : List P3) (i : Nat) : Prop := ∃ b r, L = P.take i ++ b :: r ∧ b.2.2 < 1 ∧ i < P.length
theorem spl_set {P : List P3} {i : Nat} {b : P3} (h : i < P.length) (hb : b.2.2 < 1) : Spl P (P.set i b) i :=
  ⟨b, P.drop (i + 1), by rw [List.set_eq_take_append_cons_drop, if_pos h], hb, h⟩
theorem spl_set2 {P : List P3} {i j : Nat} {b c : P3} (h : i < P.length) (hj : j ≤ i) (hc : c.2.2 < 1) : Spl P ((P.set i b).set j c) j := by
  refine ⟨c, (P.set i b).drop (j + 1), ?_, hc, by omega⟩
  rw [List.set_eq_take_append_cons_drop, if_pos (by rw [List.length_set]; omega), List.take_set_of_le hj]
theorem spl_at {P L : List P3} {i : Nat} (h : Spl P L i) : ∃ b r, L = P.take i ++ b :: r ∧ b.2.2 < 1 ∧ atI (L.map dP) (i : Int) = some (dP b) := by
  obtain ⟨b, r, rfl, hb, hi⟩ := h
  refine ⟨b, r, rfl, hb, ?_⟩
  rw [atI_nat' (by omega) (by simp; omega)]
  simp
  rw [List.getElem?_append_right (by simp; omega)]
  simp [Nat.min_eq_left (Nat.le_of_lt hi)]
end Mx
set_option exponentiation.threshold 5000
namespace Mx
open PySem PySem.Spec PyProof.Rows L2 Geo
abbrev big0 : P3 := (100000000000000000000, 5, 0)
theorem law_body {P L : List P3} (hP : ∀ p ∈ P, Ok p) (hn : P ≠ []) (hl : P.length ≤ 50) {i : Nat} {b q : P3} (hi : atI (L.map dP) (i : Int) = some (dP b)) (hb : b.2.2 < 1) (hq : atI (P.map dP) (i : Int) = some (dP q)) (mq : q ∈ P)
    {d : Int} (hd : d = 0 ∨ d = 1 ∨ d = 2) (s0 s2 : Sl) :
    xb_law_1 [s0, .sh (.lst (P.map dP)), s2, .sh (.lst (L.map dP)), .sh (.int i), .sh (rg (crn P)), .sh (.int d)] = .nx [s0, .sh (.lst (P.map dP)), s2, .sh (.lst (L.map dP)), .sh (.int i), .sh (rg (crn P)), .sh (.int d)] := by
  have e1 := asked_bad (cs := crn P) hb hd
  have e2 := asked_bad (cs := crn P) (m := big0) (by decide) hd
  have hv := own_in hP hn mq
  have hs := sides_sm (sep_low hP) (crn_cor hP hn) (low_all hP)
  have ok := hP q mq
  obtain ⟨r, ew⟩ := weights_ok hP hn hl ok hv
  have e3 := asked_ok hd ok.1 ok.2 hs hv (bar_eq ok.1 ok.2 hs) ew
  have n1 := self_ne (mix_cmp b)
  have n2 := self_ne (mix_cmp big0)
  have n3 := self_ne (known_cmp d)
  have ex : dIx (.lst [.lst [.bl true], .lst [.str "known"], .lst [.str "known"]]) (.int d) = .ok (known d) := by
    rcases hd with rfl | rfl | rfl <;> rfl
  have cp : CPow 10 20 := by decide
  have pw : (10 : Int) ^ (20 : Int).toNat = 100000000000000000000 := by decide +kernel
  have eb : (.tup [.int 100000000000000000000, .int 5, .int 0] : Dt) = dP big0 := rfl
  unfold xb_law_1
  generalize m__law_asked = f at *
  refine seq_nx' (D' := [s0, .sh (.lst (P.map dP)), s2, .sh (.lst (L.map dP)), .sh (.int i), .sh (rg (crn P)), .sh (.int d)]) (by simp [hi, e1, n1]) ?_
  refine seq_nx' (D' := [s0, .sh (.lst (P.map dP)), s2, .sh (.lst (L.map dP)), .sh (.int i), .sh (rg (crn P)), .sh (.int d)]) (by simp [cp, pw, eb, e2, n2]) ?_
  have el : x2 dIx (xL (xLst (xCons (xL (xLst (xCons (xC (.bl true)) xNil))) (xCons (xL (xLst (xCons (xC (.str "known")) xNil))) (xCons (xL (xLst (xCons (xC (.str "known")) xNil))) xNil))))) (xVarB 6) [s0, .sh (.lst (P.map dP)), s2, .sh (.lst (L.map dP)), .sh (.int i), .sh (rg (crn P)), .sh (.int d)] = .ok (known d) := by
    rcases hd with rfl | rfl | rfl <;> rfl
  generalize x2 dIx (xL (xLst (xCons (xL (xLst (xCons (xC (.bl true)) xNil))) (xCons (xL (xLst (xCons (xC (.str "known")) xNil))) (xCons (xL (xLst (xCons (xC (.str "known")) xNil))) xNil))))) (xVarB 6) = g at *
  simp [hq, e3, el, n3]
end Mx
set_option exponentiation.threshold 5000
namespace Mx
open PySem PySem.Spec PyProof.Rows L2 Geo
theorem set_row (D : Ds) {L : List P3} {i : Nat} (q : P3) (h : i < L.length) : setO D 3 (L.map dP) (dP q) (.int i) = .nx (D.set 3 (.ol ((L.set i q).map dP))) := by
  have e : ixN L.length (i : Int) = some i := by
    unfold ixN
    rw [if_pos (by omega), if_pos (by omega)]
    simp
  simp [e, List.map_set]
def row5 : XS := xsSetL 3 (xVar 4) (xTup (xCons (x2 dIx (x2 dIx (xVarB 1) (xVarB 4)) (xC (.int 0))) (xCons (x2 dIx (x2 dIx (xVarB 1) (xVarB 4)) (xC (.int 1))) (xCons (x2 dSub (xC (.int 0)) (x2 dMulB (x2 dIx (x2 dIx (xVarB 1) (xVarB 4)) (xC (.int 2))) (xCall m__law_draw (xCons (xVar 2) (xCons (xC (.int 11)) (xCons (xC (.int 2)) xNil)))))) xNil))))
def row6 : XS := xsIf (xTest (x2 dEq (xCall m__law_draw (xCons (xVar 2) (xCons (xC (.int 12)) (xCons (xC (.int 2)) xNil)))) (xC (.int 0)))) (xsSeq (xsAsg 4 (xCall m__law_draw (xCons (xVar 2) (xCons (xC (.int 13)) (xCons (x2 dAdd (xVarB 4) (xC (.int 1))) xNil)))))
    (xsSetL 3 (xVar 4) (xTup (xCons (x2 dIx (x2 dIx (xVarB 1) (xVarB 4)) (xC (.int 0))) (xCons (x2 dIx (x2 dIx (xVarB 1) (xVarB 4)) (xC (.int 1))) (xCons (x2 dSub (x1 dNeg (xC (.int 1))) (xCall m__law_draw (xCons (xVar 2) (xCons (xC (.int 14)) (xCons (xC (.int 9)) xNil))))) xNil)))))) xsNext
theorem row5_eq (s0 : Sl) {P : List P3} (hP : ∀ p ∈ P, Pt p) (c : Int) {a : Nat} (ha : a < P.length) :
    ∃ q : P3, q.2.2 < 1 ∧ row5 [s0, .sh (.lst (P.map dP)), .sh (.int c), .ol (P.map dP), .sh (.int a), .no, .no] = .nx [s0, .sh (.lst (P.map dP)), .sh (.int c), .ol ((P.set a q).map dP), .sh (.int a), .no, .no] := by
  have i1 := at_nat ha
  have mp := at0_mem ha
  have hp := hP _ mp
  generalize at0 P a = p at *
  have d1 := draw_eq c 11 2 (by decide) (by decide) (by decide)
  have l1 := draw_lo c 11 (m := 2) (by decide)
  have l2 := draw_hi c 11 (m := 2) (by decide)
  generalize draw c 11 2 = w at *
  have cm := cmB hp.2.2.2 (bt_of (i := w) (by omega))
  have hw : w = 0 ∨ w = 1 := by omega
  refine ⟨(p.1, p.2.1, 0 - p.2.2 * w), ?_, ?_⟩
  · have h1 := hp.1
    rcases hw with rfl | rfl
    · simp
    · simp; omega
  · have sr := set_row [s0, .sh (.lst (P.map dP)), .sh (.int c), .ol (P.map dP), .sh (.int a), .no, .no] (p.1, p.2.1, 0 - p.2.2 * w) ha
    have eb : (.tup [.int p.1, .int p.2.1, .int (0 - p.2.2 * w)] : Dt) = dP (p.1, p.2.1, 0 - p.2.2 * w) := rfl
    have et : (xTup (xCons (x2 dIx (x2 dIx (xVarB 1) (xVarB 4)) (xC (.int 0))) (xCons (x2 dIx (x2 dIx (xVarB 1) (xVarB 4)) (xC (.int 1))) (xCons (x2 dSub (xC (.int 0)) (x2 dMulB (x2 dIx (x2 dIx (xVarB 1) (xVarB 4)) (xC (.int 2))) (xCall m__law_draw (xCons (xVar 2) (xCons (xC (.int 11)) (xCons (xC (.int 2)) xNil)))))) xNil)))) [s0, .sh (.lst (P.map dP)), .sh (.int c), .ol (P.map dP), .sh (.int a), .no, .no] = .ok (dP (p.1, p.2.1, 0 - p.2.2 * w)) := by
      rw [← eb]
      simp only [xTup, xCons, x2, xVarB_ap, xVar_ap, List.getElem?_cons_succ, List.getElem?_cons_zero, datO_some, dat_sh, bind_ok, dIx_lst, i1, opt_some, xC, dP_0, dP_1, dP_2, xCall, xNil, shO_sh, d1, dMulB_int, if_pos cm]
      simp
    unfold row5
    unfold xsSetL
    rw [et, out_ok]
    simp only [xVar_ap, List.getElem?_cons_succ, List.getElem?_cons_zero, shO_sh, out_ok]
    exact sr
theorem row6_eq (s0 : Sl) {P : List P3} (c : Int) {a : Nat} (ha : a < P.length) {q : P3} (hq : q.2.2 < 1) :
    ∃ (L : List P3) (i : Nat), Spl P L i ∧ row6 [s0, .sh (.lst (P.map dP)), .sh (.int c), .ol ((P.set a q).map dP), .sh (.int a), .no, .no] = .nx [s0, .sh (.lst (P.map dP)), .sh (.int c), .ol (L.map dP), .sh (.int i), .no, .no] := by
  have d1 := draw_eq c 12 2 (by decide) (by decide) (by decide)
  by_cases hz : draw c 12 2 = 0
  · have d2 := draw_eq c 13 ((a : Int) + 1) (by decide) (by decide) (by omega)
    have k1 := draw_lo c 13 (m := (a : Int) + 1) (by omega)
    have k2 := draw_hi c 13 (m := (a : Int) + 1) (by omega)
    obtain ⟨j, ej⟩ : ∃ j : Nat, draw c 13 ((a : Int) + 1) = j := ⟨(draw c 13 ((a : Int) + 1)).toNat, by omega⟩
    rw [ej] at d2 k2
    have hj : j ≤ a := by omega
    have i1 := at_nat (cs := P) (i := j) (by omega)
    generalize at0 P j = p at *
    have d3 := draw_eq c 14 9 (by decide) (by decide) (by decide)
    have l1 := draw_lo c 14 (m := 9) (by decide)
    generalize draw c 14 9 = w at *
    have hj2 : j < (P.set a q).length := by rw [List.length_set]; omega
    have sr := set_row [s0, .sh (.lst (P.map dP)), .sh (.int c), .ol ((P.set a q).map dP), .sh (.int j), .no, .no] (L := P.set a q) (p.1, p.2.1, -1 - w) hj2
    refine ⟨(P.set a q).set j (p.1, p.2.1, -1 - w), j, spl_set2 ha hj (by show -1 - w < 1; omega), ?_⟩
    have eb : (.tup [.int p.1, .int p.2.1, .int (-1 - w)] : Dt) = dP (p.1, p.2.1, -1 - w) := rfl
    have et : (xTup (xCons (x2 dIx (x2 dIx (xVarB 1) (xVarB 4)) (xC (.int 0))) (xCons (x2 dIx (x2 dIx (xVarB 1) (xVarB 4)) (xC (.int 1))) (xCons (x2 dSub (x1 dNeg (xC (.int 1))) (xCall m__law_draw (xCons (xVar 2) (xCons (xC (.int 14)) (xCons (xC (.int 9)) xNil))))) xNil)))) [s0, .sh (.lst (P.map dP)), .sh (.int c), .ol ((P.set a q).map dP), .sh (.int j), .no, .no] = .ok (dP (p.1, p.2.1, -1 - w)) := by
      rw [← eb]
      simp only [xTup, xCons, x2, x1, xVarB_ap, xVar_ap, List.getElem?_cons_succ, List.getElem?_cons_zero, datO_some, dat_sh, bind_ok, dIx_lst, i1, opt_some, xC, dP_0, dP_1, dP_2, xCall, xNil, shO_sh, d3, dNeg_int]
      simp
    unfold row6
    have e1 : xTest (x2 dEq (xCall m__law_draw (xCons (xVar 2) (xCons (xC (.int 12)) (xCons (xC (.int 2)) xNil)))) (xC (.int 0))) [s0, .sh (.lst (P.map dP)), .sh (.int c), .ol ((P.set a q).map dP), .sh (.int a), .no, .no] = .ok true := by simp [d1, hz]
    unfold xsIf
    rw [e1, out_ok, if_pos rfl]
    refine seq_nx' (D' := [s0, .sh (.lst (P.map dP)), .sh (.int c), .ol ((P.set a q).map dP), .sh (.int j), .no, .no]) (by simp [d2]) ?_
    unfold xsSetL
    rw [et, out_ok]
    simp only [xVar_ap, List.getElem?_cons_succ, List.getElem?_cons_zero, shO_sh, out_ok]
    exact sr
  · refine ⟨P.set a q, a, spl_set ha hq, ?_⟩
    unfold row6
    have e1 : xTest (x2 dEq (xCall m__law_draw (xCons (xVar 2) (xCons (xC (.int 12)) (xCons (xC (.int 2)) xNil)))) (xC (.int 0))) [s0, .sh (.lst (P.map dP)), .sh (.int c), .ol ((P.set a q).map dP), .sh (.int a), .no, .no] = .ok false := by simp [d1, hz]
    unfold xsIf
    rw [e1, out_ok, if_neg (by decide)]
    rfl
end Mx
set_option exponentiation.threshold 5000
namespace Mx
open PySem PySem.Spec PyProof.Rows L2 Geo
theorem law_true (ns : List Int) (hl : ns.length ≤ 63) : m_law [.frl (ns.map Dt.int)] = .ok (.bl true) := by
  obtain ⟨P, eP, hn, hlen, hP⟩ := points_eq ns (at_ := 1) (by decide)
  have hok : ∀ p ∈ P, Ok p := fun p h => pt_ok (hP p h)
  have hpos : 0 < P.length := by
    have : P.length ≠ 0 := fun z => hn (List.eq_nil_of_length_eq_zero z)
    omega
  have p0 := pick_eq ns 0 (by decide)
  generalize hF : Dt.frl (ns.map Dt.int) = F at *
  generalize pick ns 0 = c at *
  have d1 := draw_eq c 10 P.length (by decide) (by decide) (by omega)
  have k1 := draw_lo c 10 (m := P.length) (by omega)
  have k2 := draw_hi c 10 (m := P.length) (by omega)
  obtain ⟨a, ea⟩ : ∃ a : Nat, draw c 10 P.length = a := ⟨(draw c 10 P.length).toNat, by omega⟩
  rw [ea] at d1 k2
  have ha : a < P.length := by omega
  obtain ⟨q1, hq1, r5⟩ := row5_eq (.sh F) hP c ha
  obtain ⟨L, i, hL, r6⟩ := row6_eq (.sh F) c ha hq1
  have hi : i < P.length := by
    obtain ⟨_, _, _, _, h⟩ := hL
    exact h
  obtain ⟨b, rst, eL, hb, iL⟩ := spl_at hL
  have iP := at_nat hi
  have mp := at0_mem hi
  generalize at0 P i = q at *
  have hqk := hok q mp
  have q2k : ∀ p ∈ [((q.1, q.2.1, 1) : P3)], Ok p := fun p h => by
    rw [List.mem_singleton.mp h]
    exact ⟨by show (1 : Int) ≤ 1; decide, hqk.2.1, hqk.2.2.1, .of (by show (1 : Int).natAbs < 2 ^ B0; decide +kernel)⟩
  have rgP := region_ok hok hn (by omega)
  have rg1 := region_ok q2k (by simp) (by simp)
  have f1 := refusal_made rgP
  have f2 := refusal_empty
  have f3 : m__law_refusal [.lst (L.map dP)] = .ok (.lst [.str "mix", dP b]) := refusal_mix (by
    rw [eL]
    exact region_bad (fun p h => hok p (List.mem_of_mem_take h)) hb (by rw [List.length_take]; omega))
  have f4 : m__law_refusal [.lst [dP (0, 0, 0)]] = .ok (.lst [.str "mix", dP (0, 0, 0)]) := refusal_mix (region_bad (l := []) (b := (0, 0, 0)) (r := []) (by simp) (by decide) (by simp))
  have f5 : m__law_refusal [.lst [dP (q.1, q.2.1, 1)]] = .ok (.lst [.str "made"]) := refusal_made rg1
  have z0 : (.tup [.int 0, .int 0, .int 0] : Dt) = dP (0, 0, 0) := rfl
  have z1 : (.tup [.int q.1, .int q.2.1, .int 1] : Dt) = dP (q.1, q.2.1, 1) := rfl
  have n1 := self_ne made_cmp
  have n2 := self_ne empty_cmp
  have n3 := self_ne (mix_cmp b)
  have n4 := self_ne (mix_cmp (0, 0, 0))
  have n5 := self_eq made_cmp
  have mk : m_Region___init__ [.lst (P.map dP)] = .ok (rgF (crn P)) := rgP
  have lp := loop_inv (xg := xgName 6) (xb := xb_law_1) (fun i' D => ∃ t6, D = [.sh F, .sh (.lst (P.map dP)), .sh (.int c), .sh (.lst (L.map dP)), .sh (.int i), .sh (rg (crn P)), t6])
    [.int 0, .int 1, .int 2] [.sh F, .sh (.lst (P.map dP)), .sh (.int c), .sh (.lst (L.map dP)), .sh (.int i), .sh (rg (crn P)), .no] ⟨_, rfl⟩ (fun j d D hd hI => by
      obtain ⟨t6, rfl⟩ := hI
      have hm := List.mem_of_getElem? hd
      simp only [List.mem_cons, List.not_mem_nil, or_false] at hm
      obtain ⟨k, rfl, hk⟩ : ∃ k : Int, d = .int k ∧ (k = 0 ∨ k = 1 ∨ k = 2) := by
        rcases hm with rfl | rfl | rfl
        · exact ⟨0, rfl, .inl rfl⟩
        · exact ⟨1, rfl, .inr (.inl rfl)⟩
        · exact ⟨2, rfl, .inr (.inr rfl)⟩
      exact ⟨_, _, rfl, law_body hok hn (by omega) iL hb iP mp hk _ _, _, rfl⟩)
  obtain ⟨D', el, t6, rfl⟩ := lp
  refine fun_rt (D := [.sh F, .no, .no, .no, .no, .no, .no]) rfl rfl ?_
  unfold xs_law
  generalize m__law_points = g1 at *
  generalize m__law_pick = g2 at *
  generalize m__law_refusal = g4 at *
  refine seq_nx' (D' := [.sh F, .sh (.lst (P.map dP)), .no, .no, .no, .no, .no]) (by simp [eP]) ?_
  refine seq_nx' (D' := [.sh F, .sh (.lst (P.map dP)), .sh (.int c), .no, .no, .no, .no]) (by simp [p0]) ?_
  refine seq_nx' (D' := [.sh F, .sh (.lst (P.map dP)), .sh (.int c), .ol (P.map dP), .no, .no, .no]) (by simp) ?_
  refine seq_nx' (D' := [.sh F, .sh (.lst (P.map dP)), .sh (.int c), .ol (P.map dP), .sh (.int a), .no, .no]) (by simp [d1]) ?_
  refine seq_nx' r5 ?_
  refine seq_nx' r6 ?_
  refine seq_nx' (D' := [.sh F, .sh (.lst (P.map dP)), .sh (.int c), .ol (L.map dP), .sh (.int i), .no, .no]) (by simp [f1, f2, n1, n2]) ?_
  refine seq_nx' (D' := [.sh F, .sh (.lst (P.map dP)), .sh (.int c), .sh (.lst (L.map dP)), .sh (.int i), .no, .no]) (by simp [Frz, Sl.frz, f3, iL, n3, z0, f4, n4]) ?_
  refine seq_nx' (D' := [.sh F, .sh (.lst (P.map dP)), .sh (.int c), .sh (.lst (L.map dP)), .sh (.int i), .sh (rg (crn P)), .no]) (by simp [gD_0, mk, rg]) ?_
  refine seq_nx' (D' := [.sh F, .sh (.lst (P.map dP)), .sh (.int c), .sh (.lst (L.map dP)), .sh (.int i), .sh (rg (crn P)), t6]) (by exact el) ?_
  refine seq_nx' (D' := [.sh F, .sh (.lst (P.map dP)), .sh (.int c), .sh (.lst (L.map dP)), .sh (.int i), .sh (rg (crn P)), t6]) (by simp [iP, z1, f5, n1]) ?_
  simp [f1, n5]
end Mx
namespace Mx
open PySem PySem.Spec PyProof.Rows L2
theorem all_mk {l : PySem.W.OpenLaw} {w : World} {K : Fr} {h : Heap} {mg : Str → Option Value} (X : K.In h) (G : h.Ns mainGlobals mg) {fa f0 f1 f2 f3 f4 f5 f6 f7 f8 f9 f10 f11 f12 f13 f14 f15 f16 f17 f18 f19 f20 f21 f22 f23 f24 f25 f26 f27 C0 C1 C2 C3 C4  : Addr} {od0 an0 od1 an1 od2 an2 od3 an3 od4 an4 od5 an5 od6 an6 od7 an7 od8 an8 od9 an9 od10 an10 od11 an11 od12 an12 od13 an13 od14 an14 od15 an15 od16 an16 od17 an17 od18 an18 od19 an19 od20 an20 od21 an21 od22 an22 od23 an23 od24 an24 od25 an25 od26 an26 od27 an27 : Option Addr} {sl0 sl1 sl2 sl3 sl4 sl5 sl6 sl7 sl8 sl9 sl10 sl11 sl12 sl13 sl14 sl15 sl16 sl17 sl18 sl19 sl20 sl21 sl22 sl23 sl24 sl25 sl26 sl27 : Array (Option Value)} {oc0 dc0 pm0 cd0 ct0 kV0 oc1 dc1 pm1 cd1 ct1 kV1 oc2 dc2 pm2 cd2 ct2 kV2 oc3 dc3 pm3 cd3 ct3 kV3 oc4 dc4 pm4 cd4 ct4 kV4 oc5 dc5 pm5 cd5 ct5 kV5 oc6 dc6 pm6 cd6 ct6 kV6 oc7 dc7 pm7 cd7 ct7 kV7 oc8 dc8 pm8 cd8 ct8 kV8 oc9 dc9 pm9 cd9 ct9 kV9 oc10 dc10 pm10 cd10 ct10 kV10 oc11 dc11 pm11 cd11 ct11 kV11 oc12 dc12 pm12 cd12 ct12 kV12 oc13 dc13 pm13 cd13 ct13 kV13 oc14 dc14 pm14 cd14 ct14 kV14 oc15 dc15 pm15 cd15 ct15 kV15 oc16 dc16 pm16 cd16 ct16 kV16 oc17 dc17 pm17 cd17 ct17 kV17 oc18 dc18 pm18 cd18 ct18 kV18 oc19 dc19 pm19 cd19 ct19 kV19 oc20 dc20 pm20 cd20 ct20 kV20 oc21 dc21 pm21 cd21 ct21 kV21 oc22 dc22 pm22 cd22 ct22 kV22 oc23 dc23 pm23 cd23 ct23 kV23 oc24 dc24 pm24 cd24 ct24 kV24 oc25 dc25 pm25 cd25 ct25 kV25 oc26 dc26 pm26 cd26 ct26 kV26 oc27 dc27 pm27 cd27 ct27 kV27 : Value} {g0 gc0_ gk0_ hN0 : Addr} {go0 gdoc0 gpm0 gct0 gl0 gp0 : Value} {gd0_ gm0 gq0 hdd0 : Option Addr} {gsl0 gn0 gr0 : Array (Option Value)} {gv0 : Array Value} {gfile0 hn0 hq0 : Str} {gtf0 : Tok} {hbs0 hbm0 hsub0 : List Value} {hsn0 : List Str} {hab0 : Bool} {hcol0 : Option Bool} {h00 h10 h20 h30 h50 : Option Value} {g1 gc1_ gk1_ hN1 : Addr} {go1 gdoc1 gpm1 gct1 gl1 gp1 : Value} {gd1_ gm1 gq1 hdd1 : Option Addr} {gsl1 gn1 gr1 : Array (Option Value)} {gv1 : Array Value} {gfile1 hn1 hq1 : Str} {gtf1 : Tok} {hbs1 hbm1 hsub1 : List Value} {hsn1 : List Str} {hab1 : Bool} {hcol1 : Option Bool} {h01 h11 h21 h31 h51 : Option Value} (hfa : mg "law" = some (.ref fa))
    (a0 : PySem.W.nsIn K mainGlobals "_law_pick" = some (some (.ref f0)))
    (a1 : PySem.W.nsIn K mainGlobals "_law_draw" = some (some (.ref f1)))
    (a2 : PySem.W.nsIn K mainGlobals "_law_points" = some (some (.ref f2)))
    (a3 : PySem.W.nsIn K mainGlobals "_gap" = some (some (.ref f3)))
    (a4 : PySem.W.nsIn K mainGlobals "_is_before" = some (some (.ref f4)))
    (a5 : PySem.W.nsIn K mainGlobals "_least" = some (some (.ref f5)))
    (a6 : PySem.W.nsIn K mainGlobals "_turn" = some (some (.ref f6)))
    (a7 : PySem.W.nsIn K mainGlobals "_comes_sooner" = some (some (.ref f7)))
    (a8 : PySem.W.nsIn K mainGlobals "_next_corner" = some (some (.ref f8)))
    (a9 : PySem.W.nsIn K mainGlobals "_corners_of" = some (some (.ref f9)))
    (a10 : PySem.W.nsIn K mainGlobals "_direction" = some (some (.ref f10)))
    (a11 : PySem.W.nsIn K mainGlobals "_side" = some (some (.ref f11)))
    (a12 : PySem.W.nsIn K mainGlobals "_four_sides" = some (some (.ref f12)))
    (a13 : PySem.W.nsIn K mainGlobals "_side_along" = some (some (.ref f13)))
    (a14 : PySem.W.nsIn K mainGlobals "_sides_of" = some (some (.ref f14)))
    (a15 : PySem.W.nsIn K mainGlobals "check_mix" = some (some (.ref f15)))
    (a16 : PySem.W.nsIn K mainGlobals "lowest" = some (some (.ref f16)))
    (a18 : PySem.W.nsIn K mainGlobals "_law_refusal" = some (some (.ref f18)))
    (a20 : PySem.W.nsIn K mainGlobals "_in_lowest_terms" = some (some (.ref f20)))
    (a21 : PySem.W.nsIn K mainGlobals "_triangle_weights" = some (some (.ref f21)))
    (a22 : PySem.W.nsIn K mainGlobals "_segment_weights" = some (some (.ref f22)))
    (a23 : PySem.W.nsIn K mainGlobals "_corner_weights" = some (some (.ref f23)))
    (a26 : PySem.W.nsIn K mainGlobals "_law_asked" = some (some (.ref f26)))
    (a27 : PySem.W.nsIn K mainGlobals "law" = some (some (.ref f27)))
    (ac0 : PySem.W.nsIn K mainGlobals "Region" = some (some (.ref C0)))
    (ac1 : PySem.W.nsIn K mainGlobals "Barred" = some (some (.ref C1)))
    (ac2 : PySem.W.nsIn K mainGlobals "EmptyRegion" = some (some (.ref C2)))
    (ac3 : PySem.W.nsIn K mainGlobals "InvalidMix" = some (some (.ref C3)))
    (ac4 : PySem.W.nsIn K mainGlobals "KitchenError" = some (some (.ref C4)))
    (l0 : K.lookup f0 = some ⟨oc0, od0, .func (PySem.W.fnOf "_law_pick" "_law_pick" (defArgs s__law_pick) (defBody s__law_pick) (defScope s__law_pick) .none kV0 dc0 pm0 an0 cd0 ct0), sl0⟩)
    (c0 : PySem.W.codeIn K cd0 "_law_pick" = true)
    (k0 : PySem.W.keepIn K (.ref f0) = true)
    (l1 : K.lookup f1 = some ⟨oc1, od1, .func (PySem.W.fnOf "_law_draw" "_law_draw" (defArgs s__law_draw) (defBody s__law_draw) (defScope s__law_draw) .none kV1 dc1 pm1 an1 cd1 ct1), sl1⟩)
    (c1 : PySem.W.codeIn K cd1 "_law_draw" = true)
    (k1 : PySem.W.keepIn K (.ref f1) = true)
    (l2 : K.lookup f2 = some ⟨oc2, od2, .func (PySem.W.fnOf "_law_points" "_law_points" (defArgs s__law_points) (defBody s__law_points) (defScope s__law_points) .none kV2 dc2 pm2 an2 cd2 ct2), sl2⟩)
    (c2 : PySem.W.codeIn K cd2 "_law_points" = true)
    (k2 : PySem.W.keepIn K (.ref f2) = true)
    (l3 : K.lookup f3 = some ⟨oc3, od3, .func (PySem.W.fnOf "_gap" "_gap" (defArgs s__gap) (defBody s__gap) (defScope s__gap) .none kV3 dc3 pm3 an3 cd3 ct3), sl3⟩)
    (c3 : PySem.W.codeIn K cd3 "_gap" = true)
    (k3 : PySem.W.keepIn K (.ref f3) = true)
    (l4 : K.lookup f4 = some ⟨oc4, od4, .func (PySem.W.fnOf "_is_before" "_is_before" (defArgs s__is_before) (defBody s__is_before) (defScope s__is_before) .none kV4 dc4 pm4 an4 cd4 ct4), sl4⟩)
    (c4 : PySem.W.codeIn K cd4 "_is_before" = true)
    (k4 : PySem.W.keepIn K (.ref f4) = true)
    (l5 : K.lookup f5 = some ⟨oc5, od5, .func (PySem.W.fnOf "_least" "_least" (defArgs s__least) (defBody s__least) (defScope s__least) .none kV5 dc5 pm5 an5 cd5 ct5), sl5⟩)
    (c5 : PySem.W.codeIn K cd5 "_least" = true)
    (k5 : PySem.W.keepIn K (.ref f5) = true)
    (l6 : K.lookup f6 = some ⟨oc6, od6, .func (PySem.W.fnOf "_turn" "_turn" (defArgs s__turn) (defBody s__turn) (defScope s__turn) .none kV6 dc6 pm6 an6 cd6 ct6), sl6⟩)
    (c6 : PySem.W.codeIn K cd6 "_turn" = true)
    (k6 : PySem.W.keepIn K (.ref f6) = true)
    (l7 : K.lookup f7 = some ⟨oc7, od7, .func (PySem.W.fnOf "_comes_sooner" "_comes_sooner" (defArgs s__comes_sooner) (defBody s__comes_sooner) (defScope s__comes_sooner) .none kV7 dc7 pm7 an7 cd7 ct7), sl7⟩)
    (c7 : PySem.W.codeIn K cd7 "_comes_sooner" = true)
    (k7 : PySem.W.keepIn K (.ref f7) = true)
    (l8 : K.lookup f8 = some ⟨oc8, od8, .func (PySem.W.fnOf "_next_corner" "_next_corner" (defArgs s__next_corner) (defBody s__next_corner) (defScope s__next_corner) .none kV8 dc8 pm8 an8 cd8 ct8), sl8⟩)
    (c8 : PySem.W.codeIn K cd8 "_next_corner" = true)
    (k8 : PySem.W.keepIn K (.ref f8) = true)
    (l9 : K.lookup f9 = some ⟨oc9, od9, .func (PySem.W.fnOf "_corners_of" "_corners_of" (defArgs s__corners_of) (defBody s__corners_of) (defScope s__corners_of) .none kV9 dc9 pm9 an9 cd9 ct9), sl9⟩)
    (c9 : PySem.W.codeIn K cd9 "_corners_of" = true)
    (k9 : PySem.W.keepIn K (.ref f9) = true)
    (l10 : K.lookup f10 = some ⟨oc10, od10, .func (PySem.W.fnOf "_direction" "_direction" (defArgs s__direction) (defBody s__direction) (defScope s__direction) .none kV10 dc10 pm10 an10 cd10 ct10), sl10⟩)
    (c10 : PySem.W.codeIn K cd10 "_direction" = true)
    (k10 : PySem.W.keepIn K (.ref f10) = true)
    (l11 : K.lookup f11 = some ⟨oc11, od11, .func (PySem.W.fnOf "_side" "_side" (defArgs s__side) (defBody s__side) (defScope s__side) .none kV11 dc11 pm11 an11 cd11 ct11), sl11⟩)
    (c11 : PySem.W.codeIn K cd11 "_side" = true)
    (k11 : PySem.W.keepIn K (.ref f11) = true)
    (l12 : K.lookup f12 = some ⟨oc12, od12, .func (PySem.W.fnOf "_four_sides" "_four_sides" (defArgs s__four_sides) (defBody s__four_sides) (defScope s__four_sides) .none kV12 dc12 pm12 an12 cd12 ct12), sl12⟩)
    (c12 : PySem.W.codeIn K cd12 "_four_sides" = true)
    (k12 : PySem.W.keepIn K (.ref f12) = true)
    (l13 : K.lookup f13 = some ⟨oc13, od13, .func (PySem.W.fnOf "_side_along" "_side_along" (defArgs s__side_along) (defBody s__side_along) (defScope s__side_along) .none kV13 dc13 pm13 an13 cd13 ct13), sl13⟩)
    (c13 : PySem.W.codeIn K cd13 "_side_along" = true)
    (k13 : PySem.W.keepIn K (.ref f13) = true)
    (l14 : K.lookup f14 = some ⟨oc14, od14, .func (PySem.W.fnOf "_sides_of" "_sides_of" (defArgs s__sides_of) (defBody s__sides_of) (defScope s__sides_of) .none kV14 dc14 pm14 an14 cd14 ct14), sl14⟩)
    (c14 : PySem.W.codeIn K cd14 "_sides_of" = true)
    (k14 : PySem.W.keepIn K (.ref f14) = true)
    (l15 : K.lookup f15 = some ⟨oc15, od15, .func (PySem.W.fnOf "check_mix" "check_mix" (defArgs s_check_mix) (defBody s_check_mix) (defScope s_check_mix) .none kV15 dc15 pm15 an15 cd15 ct15), sl15⟩)
    (c15 : PySem.W.codeIn K cd15 "check_mix" = true)
    (k15 : PySem.W.keepIn K (.ref f15) = true)
    (l16 : K.lookup f16 = some ⟨oc16, od16, .func (PySem.W.fnOf "lowest" "lowest" (defArgs s_lowest) (defBody s_lowest) (defScope s_lowest) .none kV16 dc16 pm16 an16 cd16 ct16), sl16⟩)
    (c16 : PySem.W.codeIn K cd16 "lowest" = true)
    (k16 : PySem.W.keepIn K (.ref f16) = true)
    (a17 : PySem.W.findIn K (.ref C0) "__init__" = some (some (.ref f17)))
    (i17 : PySem.W.isFn K (.ref f17) = true)
    (l17 : K.lookup f17 = some ⟨oc17, od17, .func (PySem.W.fnOf "__init__" "Region.__init__" (defArgs s_Region___init__) (defBody s_Region___init__) (defScope s_Region___init__) .none kV17 dc17 pm17 an17 cd17 ct17), sl17⟩)
    (c17 : PySem.W.codeIn K cd17 "Region.__init__" = true)
    (k17 : PySem.W.keepIn K (.ref f17) = true)
    (l18 : K.lookup f18 = some ⟨oc18, od18, .func (PySem.W.fnOf "_law_refusal" "_law_refusal" (defArgs s__law_refusal) (defBody s__law_refusal) (defScope s__law_refusal) .none kV18 dc18 pm18 an18 cd18 ct18), sl18⟩)
    (c18 : PySem.W.codeIn K cd18 "_law_refusal" = true)
    (k18 : PySem.W.keepIn K (.ref f18) = true)
    (a19 : PySem.W.findIn K (.ref C0) "bar" = some (some (.ref f19)))
    (i19 : PySem.W.isFn K (.ref f19) = true)
    (l19 : K.lookup f19 = some ⟨oc19, od19, .func (PySem.W.fnOf "bar" "Region.bar" (defArgs s_Region_bar) (defBody s_Region_bar) (defScope s_Region_bar) .none kV19 dc19 pm19 an19 cd19 ct19), sl19⟩)
    (c19 : PySem.W.codeIn K cd19 "Region.bar" = true)
    (k19 : PySem.W.keepIn K (.ref f19) = true)
    (l20 : K.lookup f20 = some ⟨oc20, od20, .func (PySem.W.fnOf "_in_lowest_terms" "_in_lowest_terms" (defArgs s__in_lowest_terms) (defBody s__in_lowest_terms) (defScope s__in_lowest_terms) .none kV20 dc20 pm20 an20 cd20 ct20), sl20⟩)
    (c20 : PySem.W.codeIn K cd20 "_in_lowest_terms" = true)
    (k20 : PySem.W.keepIn K (.ref f20) = true)
    (l21 : K.lookup f21 = some ⟨oc21, od21, .func (PySem.W.fnOf "_triangle_weights" "_triangle_weights" (defArgs s__triangle_weights) (defBody s__triangle_weights) (defScope s__triangle_weights) .none kV21 dc21 pm21 an21 cd21 ct21), sl21⟩)
    (c21 : PySem.W.codeIn K cd21 "_triangle_weights" = true)
    (k21 : PySem.W.keepIn K (.ref f21) = true)
    (l22 : K.lookup f22 = some ⟨oc22, od22, .func (PySem.W.fnOf "_segment_weights" "_segment_weights" (defArgs s__segment_weights) (defBody s__segment_weights) (defScope s__segment_weights) .none kV22 dc22 pm22 an22 cd22 ct22), sl22⟩)
    (c22 : PySem.W.codeIn K cd22 "_segment_weights" = true)
    (k22 : PySem.W.keepIn K (.ref f22) = true)
    (l23 : K.lookup f23 = some ⟨oc23, od23, .func (PySem.W.fnOf "_corner_weights" "_corner_weights" (defArgs s__corner_weights) (defBody s__corner_weights) (defScope s__corner_weights) .none kV23 dc23 pm23 an23 cd23 ct23), sl23⟩)
    (c23 : PySem.W.codeIn K cd23 "_corner_weights" = true)
    (k23 : PySem.W.keepIn K (.ref f23) = true)
    (a24 : PySem.W.findIn K (.ref C0) "weights" = some (some (.ref f24)))
    (i24 : PySem.W.isFn K (.ref f24) = true)
    (l24 : K.lookup f24 = some ⟨oc24, od24, .func (PySem.W.fnOf "weights" "Region.weights" (defArgs s_Region_weights) (defBody s_Region_weights) (defScope s_Region_weights) .none kV24 dc24 pm24 an24 cd24 ct24), sl24⟩)
    (c24 : PySem.W.codeIn K cd24 "Region.weights" = true)
    (k24 : PySem.W.keepIn K (.ref f24) = true)
    (a25 : PySem.W.findIn K (.ref C0) "__contains__" = some (some (.ref f25)))
    (i25 : PySem.W.isFn K (.ref f25) = true)
    (l25 : K.lookup f25 = some ⟨oc25, od25, .func (PySem.W.fnOf "__contains__" "Region.__contains__" (defArgs s_Region___contains__) (defBody s_Region___contains__) (defScope s_Region___contains__) .none kV25 dc25 pm25 an25 cd25 ct25), sl25⟩)
    (c25 : PySem.W.codeIn K cd25 "Region.__contains__" = true)
    (k25 : PySem.W.keepIn K (.ref f25) = true)
    (l26 : K.lookup f26 = some ⟨oc26, od26, .func (PySem.W.fnOf "_law_asked" "_law_asked" (defArgs s__law_asked) (defBody s__law_asked) (defScope s__law_asked) .none kV26 dc26 pm26 an26 cd26 ct26), sl26⟩)
    (c26 : PySem.W.codeIn K cd26 "_law_asked" = true)
    (k26 : PySem.W.keepIn K (.ref f26) = true)
    (l27 : K.lookup f27 = some ⟨oc27, od27, .func (PySem.W.fnOf "law" "law" (defArgs s_law) (defBody s_law) (defScope s_law) .none kV27 dc27 pm27 an27 cd27 ct27), sl27⟩)
    (c27 : PySem.W.codeIn K cd27 "law" = true)
    (k27 : PySem.W.keepIn K (.ref f27) = true)
    (ga0 : PySem.W.plainGet K C0 Str.empty = true)
    (gb0 : PySem.W.hasDictIn K C0 = true)
    (gc0 : PySem.W.plainOver K C0 = true)
    (gd0 : PySem.W.findIn K (.ref C0) "__setattr__" = some (some (.builtin "object.__setattr__")))
    (ge0 : PySem.W.makesIn K C0 = true)
    (gk0 : PySem.W.keepIn K (.ref C0) = true)
    (n0__corners : PySem.W.findIn K (.ref C0) "_corners" = some none)
    (n0__sides : PySem.W.findIn K (.ref C0) "_sides" = some none)
    (ek0 : PySem.W.keepIn K (.ref C1) = true)
    (eb0 : PySem.W.subIn K (.ref C1) (.type "BaseException") = some true)
    (et0 : PySem.W.typeIn K (.ref C1) = some (.type "type"))
    (ex1 : PySem.W.excIn K C2 [.type "ValueError", .type "Exception", .type "BaseException", .type "object"] "ValueError.__new__" = true)
    (ek1 : PySem.W.keepIn K (.ref C2) = true)
    (eb1 : PySem.W.subIn K (.ref C2) (.type "BaseException") = some true)
    (et1 : PySem.W.typeIn K (.ref C2) = some (.type "type"))
    (ek2 : PySem.W.keepIn K (.ref C3) = true)
    (eb2 : PySem.W.subIn K (.ref C3) (.type "BaseException") = some true)
    (et2 : PySem.W.typeIn K (.ref C3) = some (.type "type"))
    (oc_n : PySem.W.specialIn K (.builtin "object.__class__") "__get__" = some (some (.builtin "getset_descriptor.__get__")))
    (oc_t : PySem.W.takesIn K (.builtin "object.__class__") = some true)
    (xd1 : PySem.W.hasDictIn K C1 = true)
    (xg1 : PySem.W.findIn K (.ref C1) "__getattribute__" = some (some (.builtin "BaseException.__getattribute__")))
    (xk1 : PySem.W.findIn K (.ref C1) "__getattr__" = some none)
    (xa1 : PySem.W.findIn K (.ref C1) "__class__" = some (some (.builtin "object.__class__")))
    (xm1 : PySem.W.mroIn K C1 (.type "object") = some true)
    (xd2 : PySem.W.hasDictIn K C2 = true)
    (xg2 : PySem.W.findIn K (.ref C2) "__getattribute__" = some (some (.builtin "BaseException.__getattribute__")))
    (xk2 : PySem.W.findIn K (.ref C2) "__getattr__" = some none)
    (xa2 : PySem.W.findIn K (.ref C2) "__class__" = some (some (.builtin "object.__class__")))
    (xm2 : PySem.W.mroIn K C2 (.type "object") = some true)
    (xd3 : PySem.W.hasDictIn K C3 = true)
    (xg3 : PySem.W.findIn K (.ref C3) "__getattribute__" = some (some (.builtin "BaseException.__getattribute__")))
    (xk3 : PySem.W.findIn K (.ref C3) "__getattr__" = some none)
    (xa3 : PySem.W.findIn K (.ref C3) "__class__" = some (some (.builtin "object.__class__")))
    (xm3 : PySem.W.mroIn K C3 (.type "object") = some true)
    (kit_1_Barred : PySem.W.kitOne K (.ref C1) (.ref C1) = some true)
    (kit_1_EmptyRegion : PySem.W.kitOne K (.ref C1) (.ref C2) = some false)
    (kit_2_Barred : PySem.W.kitOne K (.ref C2) (.ref C1) = some false)
    (kit_2_EmptyRegion : PySem.W.kitOne K (.ref C2) (.ref C2) = some true)
    (kit_2_InvalidMix : PySem.W.kitOne K (.ref C2) (.ref C3) = some false)
    (kit_2_ValueError : PySem.W.kitOne K (.ref C2) (.type "ValueError") = some true)
    (kit_3_Barred : PySem.W.kitOne K (.ref C3) (.ref C1) = some false)
    (kit_3_EmptyRegion : PySem.W.kitOne K (.ref C3) (.ref C2) = some false)
    (kit_3_InvalidMix : PySem.W.kitOne K (.ref C3) (.ref C3) = some true)
    (kit_3_ValueError : PySem.W.kitOne K (.ref C3) (.type "ValueError") = some true)
    (hb3 : PySem.W.subIn K (.ref C3) (.type "BaseException") = some true)
    (hd3 : PySem.W.hasDictIn K C3 = true)
    (ht3 : PySem.W.typeIn K (.ref C3) = some (.type "type"))
    (hb4 : PySem.W.subIn K (.ref C4) (.type "BaseException") = some true)
    (hd4 : PySem.W.hasDictIn K C4 = true)
    (ht4 : PySem.W.typeIn K (.ref C4) = some (.type "type"))
    (hs_1_3 : PySem.W.subIn K (.ref C1) (.ref C3) = some false)
    (hs_2_3 : PySem.W.subIn K (.ref C2) (.ref C3) = some false)
    (hs_2_4 : PySem.W.subIn K (.ref C2) (.ref C4) = some true)
    (hs_3_3 : PySem.W.subIn K (.ref C3) (.ref C3) = some true)
    (hs_3_4 : PySem.W.subIn K (.ref C3) (.ref C4) = some true)
    (qF0 : PySem.W.findIn K (.ref C1) "__init__" = some (some (.ref g0)))
    (qT0 : PySem.W.typeIn K (.ref g0) = some (.type "function"))
    (qI0 : K.lookup g0 = some ⟨go0, gd0_, .func (NdefX.NF.fd ⟨"__init__", "Barred.__init__", defArgs s_Barred___init__, defBody s_Barred___init__, defScope s_Barred___init__, [(("__class__" : Str), gc0_)], gk0_⟩ gdoc0 gpm0 gct0), gsl0⟩)
    (qC0 : PySem.W.codeIn K (.ref gk0_) "Barred.__init__" = true)
    (qL0 : K.lookup gc0_ = some ⟨gl0, gm0, .cell (some (.ref C1)), gn0⟩)
    (qD0 : K.lookup gk0_ = some ⟨gp0, gq0, .fields gv0, gr0⟩)
    (rV0 : gv0[2]? = some (.str gfile0 gtf0))
    (rG0 : (l.prog.main.file == gfile0) = true)
    (rH0 : (l.prog.main.scope.names.lookup ("super" : Str)).isSome = false)
    (qA0 : PySem.W.nsIn K PySem.cStatics "thirdparty.any" = some none)
    (sS0 : PySem.W.ks_superIn K C1 C1 "__init__" = some (some (.builtin "ValueError.__init__")))
    (qB0 : PySem.W.subIn K (.ref C1) (.type "ValueError") = some true)
    (qM0 : PySem.W.mroIn K C1 (.ref C1) = some true)
    (qX0 : K.lookup C1 = some (excClassObj hn0 hq0 C1 hN0 hbs0 hbm0 true hsn0 hsub0 hab0 hcol0 hdd0 h00 h10 h20 h30 h50 "ValueError.__new__"))
    (rR0 : PySem.HandSPX.refsVE hbm0 = true)
    (qY0 : PySem.W.findIn K (.ref C1) "__setattr__" = some (some (.builtin "object.__setattr__")))
    (qN0 : PySem.W.findIn K (.ref C1) "side" = some none)
    (qF1 : PySem.W.findIn K (.ref C3) "__init__" = some (some (.ref g1)))
    (qT1 : PySem.W.typeIn K (.ref g1) = some (.type "function"))
    (qI1 : K.lookup g1 = some ⟨go1, gd1_, .func (NdefX.NF.fd ⟨"__init__", "InvalidMix.__init__", defArgs s_InvalidMix___init__, defBody s_InvalidMix___init__, defScope s_InvalidMix___init__, [(("__class__" : Str), gc1_)], gk1_⟩ gdoc1 gpm1 gct1), gsl1⟩)
    (qC1 : PySem.W.codeIn K (.ref gk1_) "InvalidMix.__init__" = true)
    (qL1 : K.lookup gc1_ = some ⟨gl1, gm1, .cell (some (.ref C3)), gn1⟩)
    (qD1 : K.lookup gk1_ = some ⟨gp1, gq1, .fields gv1, gr1⟩)
    (rV1 : gv1[2]? = some (.str gfile1 gtf1))
    (rG1 : (l.prog.main.file == gfile1) = true)
    (rH1 : (l.prog.main.scope.names.lookup ("super" : Str)).isSome = false)
    (qA1 : PySem.W.nsIn K PySem.cStatics "thirdparty.any" = some none)
    (sS1 : PySem.W.ks_superIn K C3 C3 "__init__" = some (some (.builtin "ValueError.__init__")))
    (qB1 : PySem.W.subIn K (.ref C3) (.type "ValueError") = some true)
    (qM1 : PySem.W.mroIn K C3 (.ref C3) = some true)
    (qX1 : K.lookup C3 = some (excClassObj hn1 hq1 C3 hN1 hbs1 hbm1 true hsn1 hsub1 hab1 hcol1 hdd1 h01 h11 h21 h31 h51 "ValueError.__new__"))
    (rR1 : PySem.HandSPX.refsVE hbm1 = true)
    (qY1 : PySem.W.findIn K (.ref C3) "__setattr__" = some (some (.builtin "object.__setattr__")))
    (qN1 : PySem.W.findIn K (.ref C3) "mix" = some none)
    (qm_gcd : PySem.W.nsIn K mainGlobals "gcd" = some (some (.builtin "math.gcd")))
    (xn3_mix : PySem.W.findIn K (.ref C3) "mix" = some none)
    (z_ValueError : PySem.W.nsIn K mainGlobals "ValueError" = some none)
    (z_int : PySem.W.nsIn K mainGlobals "int" = some none)
    (z_isinstance : PySem.W.nsIn K mainGlobals "isinstance" = some none)
    (z_len : PySem.W.nsIn K mainGlobals "len" = some none)
    (z_list : PySem.W.nsIn K mainGlobals "list" = some none)
    (z_range : PySem.W.nsIn K mainGlobals "range" = some none)
    (z_super : PySem.W.nsIn K mainGlobals "super" = some none)
    (z_zip : PySem.W.nsIn K mainGlobals "zip" = some none) :
    ∃ fd : FuncData, (∀ (s : Shared) (v : Value), BindsTo s fd ⟨[v], []⟩ [("_law_script", v)]) ∧ ∀ base : Heap, K.In base → base.Ns mainGlobals mg → FnOk l.prog w K mg base (L2.CX l.prog w) 9 fa fd ["_law_script"] (spLaw K) := by
  have e := hfa.symm.trans (PySem.W.mg_of X G a27)
  cases e
  have F0 := fun_mk (st := s__law_pick) l0 c0 k0
  have F1 := fun_mk (st := s__law_draw) l1 c1 k1
  have F2 := fun_mk (st := s__law_points) l2 c2 k2
  have F3 := fun_mk (st := s__gap) l3 c3 k3
  have F4 := fun_mk (st := s__is_before) l4 c4 k4
  have F5 := fun_mk (st := s__least) l5 c5 k5
  have F6 := fun_mk (st := s__turn) l6 c6 k6
  have F7 := fun_mk (st := s__comes_sooner) l7 c7 k7
  have F8 := fun_mk (st := s__next_corner) l8 c8 k8
  have F9 := fun_mk (st := s__corners_of) l9 c9 k9
  have F10 := fun_mk (st := s__direction) l10 c10 k10
  have F11 := fun_mk (st := s__side) l11 c11 k11
  have F12 := fun_mk (st := s__four_sides) l12 c12 k12
  have F13 := fun_mk (st := s__side_along) l13 c13 k13
  have F14 := fun_mk (st := s__sides_of) l14 c14 k14
  have F15 := fun_mk (st := s_check_mix) l15 c15 k15
  have F16 := fun_mk (st := s_lowest) l16 c16 k16
  have F17 := fun_mk (st := s_Region___init__) l17 c17 k17
  have F18 := fun_mk (st := s__law_refusal) l18 c18 k18
  have F19 := fun_mk (st := s_Region_bar) l19 c19 k19
  have F20 := fun_mk (st := s__in_lowest_terms) l20 c20 k20
  have F21 := fun_mk (st := s__triangle_weights) l21 c21 k21
  have F22 := fun_mk (st := s__segment_weights) l22 c22 k22
  have F23 := fun_mk (st := s__corner_weights) l23 c23 k23
  have F24 := fun_mk (st := s_Region_weights) l24 c24 k24
  have F25 := fun_mk (st := s_Region___contains__) l25 c25 k25
  have F26 := fun_mk (st := s__law_asked) l26 c26 k26
  have F27 := fun_mk (st := s_law) l27 c27 k27
  have T : Txt l.prog K mg (clK K) { _law_pick := f0, _law_draw := f1, _law_points := f2, _gap := f3, _is_before := f4, _least := f5, _turn := f6, _comes_sooner := f7, _next_corner := f8, _corners_of := f9, _direction := f10, _side := f11, _four_sides := f12, _side_along := f13, _sides_of := f14, check_mix := f15, lowest := f16, Region___init__ := f17, _law_refusal := f18, Region_bar := f19, _in_lowest_terms := f20, _triangle_weights := f21, _segment_weights := f22, _corner_weights := f23, Region_weights := f24, Region___contains__ := f25, _law_asked := f26, law := fa, C_Region := C0, C_Barred := C1, C_EmptyRegion := C2, C_InvalidMix := C3, C_KitchenError := C4, _law_pick_d := _, _law_draw_d := _, _law_points_d := _, _gap_d := _, _is_before_d := _, _least_d := _, _turn_d := _, _comes_sooner_d := _, _next_corner_d := _, _corners_of_d := _, _direction_d := _, _side_d := _, _four_sides_d := _, _side_along_d := _, _sides_of_d := _, check_mix_d := _, lowest_d := _, Region___init___d := _, _law_refusal_d := _, Region_bar_d := _, _in_lowest_terms_d := _, _triangle_weights_d := _, _segment_weights_d := _, _corner_weights_d := _, Region_weights_d := _, Region___contains___d := _, _law_asked_d := _, law_d := _, XI_Barred := g0, cc_Barred := gc0_, cd_Barred := gk0_, XI_Barred_d := _, XI_InvalidMix := g1, cc_InvalidMix := gc1_, cd_InvalidMix := gk1_, XI_InvalidMix_d := _ } := {
    F__law_pick := (F0),
    g__law_pick := (PySem.W.mg_of X G a0),
    b__law_pick := (F0.binds fun _ _ _ _ _ _ us hl => match us, hl with | [_, _], _ => rfl),
    F__law_draw := (F1),
    g__law_draw := (PySem.W.mg_of X G a1),
    b__law_draw := (F1.binds fun _ _ _ _ _ _ us hl => match us, hl with | [_, _, _], _ => rfl),
    F__law_points := (F2),
    g__law_points := (PySem.W.mg_of X G a2),
    b__law_points := (F2.binds fun _ _ _ _ _ _ us hl => match us, hl with | [_, _], _ => rfl),
    F__gap := (F3),
    g__gap := (PySem.W.mg_of X G a3),
    b__gap := (F3.binds fun _ _ _ _ _ _ us hl => match us, hl with | [_, _, _], _ => rfl),
    F__is_before := (F4),
    g__is_before := (PySem.W.mg_of X G a4),
    b__is_before := (F4.binds fun _ _ _ _ _ _ us hl => match us, hl with | [_, _], _ => rfl),
    F__least := (F5),
    g__least := (PySem.W.mg_of X G a5),
    b__least := (F5.binds fun _ _ _ _ _ _ us hl => match us, hl with | [_], _ => rfl),
    F__turn := (F6),
    g__turn := (PySem.W.mg_of X G a6),
    b__turn := (F6.binds fun _ _ _ _ _ _ us hl => match us, hl with | [_, _, _], _ => rfl),
    F__comes_sooner := (F7),
    g__comes_sooner := (PySem.W.mg_of X G a7),
    b__comes_sooner := (F7.binds fun _ _ _ _ _ _ us hl => match us, hl with | [_, _, _], _ => rfl),
    F__next_corner := (F8),
    g__next_corner := (PySem.W.mg_of X G a8),
    b__next_corner := (F8.binds fun _ _ _ _ _ _ us hl => match us, hl with | [_, _], _ => rfl),
    F__corners_of := (F9),
    g__corners_of := (PySem.W.mg_of X G a9),
    b__corners_of := (F9.binds fun _ _ _ _ _ _ us hl => match us, hl with | [_], _ => rfl),
    F__direction := (F10),
    g__direction := (PySem.W.mg_of X G a10),
    b__direction := (F10.binds fun _ _ _ _ _ _ us hl => match us, hl with | [_, _], _ => rfl),
    F__side := (F11),
    g__side := (PySem.W.mg_of X G a11),
    b__side := (F11.binds fun _ _ _ _ _ _ us hl => match us, hl with | [_, _, _], _ => rfl),
    F__four_sides := (F12),
    g__four_sides := (PySem.W.mg_of X G a12),
    b__four_sides := (F12.binds fun _ _ _ _ _ _ us hl => match us, hl with | [_, _], _ => rfl),
    F__side_along := (F13),
    g__side_along := (PySem.W.mg_of X G a13),
    b__side_along := (F13.binds fun _ _ _ _ _ _ us hl => match us, hl with | [_, _], _ => rfl),
    F__sides_of := (F14),
    g__sides_of := (PySem.W.mg_of X G a14),
    b__sides_of := (F14.binds fun _ _ _ _ _ _ us hl => match us, hl with | [_], _ => rfl),
    F_check_mix := (F15),
    g_check_mix := (PySem.W.mg_of X G a15),
    b_check_mix := (F15.binds fun _ _ _ _ _ _ us hl => match us, hl with | [_], _ => rfl),
    F_lowest := (F16),
    g_lowest := (PySem.W.mg_of X G a16),
    b_lowest := (F16.binds fun _ _ _ _ _ _ us hl => match us, hl with | [_], _ => rfl),
    F_Region___init__ := (F17),
    F__law_refusal := (F18),
    g__law_refusal := (PySem.W.mg_of X G a18),
    b__law_refusal := (F18.binds fun _ _ _ _ _ _ us hl => match us, hl with | [_], _ => rfl),
    F_Region_bar := (F19),
    b_Region_bar := (F19.binds fun _ _ _ _ _ _ us hl => match us, hl with | [_, _], _ => rfl),
    F__in_lowest_terms := (F20),
    g__in_lowest_terms := (PySem.W.mg_of X G a20),
    b__in_lowest_terms := (F20.binds fun _ _ _ _ _ _ us hl => match us, hl with | [_], _ => rfl),
    F__triangle_weights := (F21),
    g__triangle_weights := (PySem.W.mg_of X G a21),
    b__triangle_weights := (F21.binds fun _ _ _ _ _ _ us hl => match us, hl with | [_, _], _ => rfl),
    F__segment_weights := (F22),
    g__segment_weights := (PySem.W.mg_of X G a22),
    b__segment_weights := (F22.binds fun _ _ _ _ _ _ us hl => match us, hl with | [_, _], _ => rfl),
    F__corner_weights := (F23),
    g__corner_weights := (PySem.W.mg_of X G a23),
    b__corner_weights := (F23.binds fun _ _ _ _ _ _ us hl => match us, hl with | [_, _], _ => rfl),
    F_Region_weights := (F24),
    b_Region_weights := (F24.binds fun _ _ _ _ _ _ us hl => match us, hl with | [_, _], _ => rfl),
    F_Region___contains__ := (F25),
    b_Region___contains__ := (F25.binds fun _ _ _ _ _ _ us hl => match us, hl with | [_, _], _ => rfl),
    F__law_asked := (F26),
    g__law_asked := (PySem.W.mg_of X G a26),
    b__law_asked := (F26.binds fun _ _ _ _ _ _ us hl => match us, hl with | [_, _, _], _ => rfl),
    F_law := (F27),
    g_law := (PySem.W.mg_of X G a27),
    b_law := (F27.binds fun _ _ _ _ _ _ us hl => match us, hl with | [_], _ => rfl),
    g_Region := (PySem.W.mg_of X G ac0),
    l_Region := (clK_of ac0),
    g_Barred := (PySem.W.mg_of X G ac1),
    l_Barred := (clK_of ac1),
    g_EmptyRegion := (PySem.W.mg_of X G ac2),
    l_EmptyRegion := (clK_of ac2),
    g_InvalidMix := (PySem.W.mg_of X G ac3),
    l_InvalidMix := (clK_of ac3),
    g_KitchenError := (PySem.W.mg_of X G ac4),
    xe_Barred := (⟨(let ⟨_, h, _⟩ := PySem.W.any_some xd1; by rw [h]; rfl), xg1, xk1, eb0, xa1, oc_n, oc_t, xm1⟩),
    xe_EmptyRegion := (⟨(let ⟨_, h, _⟩ := PySem.W.any_some xd2; by rw [h]; rfl), xg2, xk2, eb1, xa2, oc_n, oc_t, xm2⟩),
    xe_InvalidMix := (⟨(let ⟨_, h, _⟩ := PySem.W.any_some xd3; by rw [h]; rfl), xg3, xk3, eb2, xa3, oc_n, oc_t, xm3⟩),
    ki_Barred_Barred := (kit_1_Barred),
    ki_Barred_EmptyRegion := (kit_1_EmptyRegion),
    ki_EmptyRegion_Barred := (kit_2_Barred),
    ki_EmptyRegion_EmptyRegion := (kit_2_EmptyRegion),
    ki_EmptyRegion_InvalidMix := (kit_2_InvalidMix),
    ki_EmptyRegion_ValueError := (kit_2_ValueError),
    ki_InvalidMix_Barred := (kit_3_Barred),
    ki_InvalidMix_EmptyRegion := (kit_3_EmptyRegion),
    ki_InvalidMix_InvalidMix := (kit_3_InvalidMix),
    ki_InvalidMix_ValueError := (kit_3_ValueError),
    cx_Barred_InvalidMix := (PySem.W.exm_ref hb3 hd3 ht3 hs_1_3),
    cx_EmptyRegion_InvalidMix := (PySem.W.exm_ref hb3 hd3 ht3 hs_2_3),
    cx_EmptyRegion_KitchenError := (PySem.W.exm_ref hb4 hd4 ht4 hs_2_4),
    cx_InvalidMix_InvalidMix := (PySem.W.exm_ref hb3 hd3 ht3 hs_3_3),
    cx_InvalidMix_KitchenError := (PySem.W.exm_ref hb4 hd4 ht4 hs_3_4),
    su_Barred := (⟨⟨_, _, _, _, _, _, rfl, qI0⟩, qC0, ⟨_, _, _, _, rfl, qL0⟩, ⟨_, _, _, _, _, _, qD0, rV0, rG0⟩, rH0, qA0, sS0, qB0, qM0, ⟨⟨_, _, _, _, _, _, _, _, _, _, _, _, _, _, _, qX0, rR0⟩, qY0, eb0, et0, ek0⟩⟩),
    oe_Barred := (⟨⟨_, _, _, _, _, _, _, _, _, _, _, _, _, _, _, qX0, rR0⟩, qY0, eb0, et0, ek0⟩),
    in_Barred := (qF0),
    ti_Barred := (qT0),
    bx_Barred := (.all fun us hl => match us, hl with | [_, _], _ => rfl),
    nx_Barred := (qN0),
    su_InvalidMix := (⟨⟨_, _, _, _, _, _, rfl, qI1⟩, qC1, ⟨_, _, _, _, rfl, qL1⟩, ⟨_, _, _, _, _, _, qD1, rV1, rG1⟩, rH1, qA1, sS1, qB1, qM1, ⟨⟨_, _, _, _, _, _, _, _, _, _, _, _, _, _, _, qX1, rR1⟩, qY1, eb2, et2, ek2⟩⟩),
    oe_InvalidMix := (⟨⟨_, _, _, _, _, _, _, _, _, _, _, _, _, _, _, qX1, rR1⟩, qY1, eb2, et2, ek2⟩),
    in_InvalidMix := (qF1),
    ti_InvalidMix := (qT1),
    bx_InvalidMix := (.all fun us hl => match us, hl with | [_, _], _ => rfl),
    nx_InvalidMix := (qN1),
    m_gcd := (PySem.W.mg_of X G qm_gcd),
    ow_Region := (⟨a25, i25⟩),
    xf_InvalidMix := (⟨xg3, xk3, eb2, xd3⟩),
    N_InvalidMix_mix := (xn3_mix),
    K_Region := (⟨ga0, gb0, gc0, gd0⟩),
    N_Region__corners := (n0__corners),
    N_Region__sides := (n0__sides),
    M_Region := (⟨ge0, a17, i17, gk0⟩),
    Me_Region_bar := (⟨a19, i19, k19⟩),
    Me_Region_weights := (⟨a24, i24, k24⟩),
    Me_Region___contains__ := (⟨a25, i25, k25⟩),
    k_Barred := (ek0),
    e_Barred := (eb0),
    t_Barred := (et0),
    x_EmptyRegion := (ex1),
    k_EmptyRegion := (ek1),
    e_EmptyRegion := (eb1),
    t_EmptyRegion := (et1),
    k_InvalidMix := (ek2),
    e_InvalidMix := (eb2),
    t_InvalidMix := (et2),
    kb_0 := (⟨_, kbn_plain (F17.binds fun _ _ _ _ _ _ us hl => match us, hl with | [_, _], _ => rfl) rfl⟩),
    z_ValueError := (PySem.W.mg_none_of X G z_ValueError),
    z_int := (PySem.W.mg_none_of X G z_int),
    z_isinstance := (PySem.W.mg_none_of X G z_isinstance),
    z_len := (PySem.W.mg_none_of X G z_len),
    z_list := (PySem.W.mg_none_of X G z_list),
    z_range := (PySem.W.mg_none_of X G z_range),
    z_super := (PySem.W.mg_none_of X G z_super),
    z_zip := (PySem.W.mg_none_of X G z_zip) }
  exact ⟨_, fun s v => .of_eq rfl, fun base _ _ => FnOk.imp (ok_law T) (spLaw_of law_true)⟩
end Mx
open PySem PySem.W PyProof.Rows
set_option maxRecDepth 100000 in
set_option maxHeartbeats 0 in
theorem PySem.Challenge.cw_mixpace_k31_region_refusals_holds : PySem.Challenge.rw_mixpace_k31_region_refusals.Holds := by
  w_on; o_law; k_head; (case hw => w_witness2)
  k_fill
  refine L2.walk_of (l := PySem.Challenge.rw_mixpace_k31_region_refusals) (n := 63) (k := 9) (x := "_law_script") (CX := fun w => L2.CX PySem.Challenge.rw_mixpace_k31_region_refusals.prog w) (sp := fun w => Mx.spLaw _) rfl (by decide) rfl ⟨rfl, by decide, by decide⟩ (fun w h Y => PySem.W.kIn_of Y) ?F (fun _ _ a ns hl _ hS => ⟨a, ns, rfl, hS, hl, fun _ => rfl⟩) (fun _ H s e s' h => Mx.noCX H s e s' h)
  case F =>
    intro w mg fa h KX G hmg
    refine' Mx.all_mk KX G hmg ?a0 ?a1 ?a2 ?a3 ?a4 ?a5 ?a6 ?a7 ?a8 ?a9 ?a10 ?a11 ?a12 ?a13 ?a14 ?a15 ?a16 ?a18 ?a20 ?a21 ?a22 ?a23 ?a26 ?a27 ?ac0 ?ac1 ?ac2 ?ac3 ?ac4 ?l0 ?c0 ?k0 ?l1 ?c1 ?k1 ?l2 ?c2 ?k2 ?l3 ?c3 ?k3 ?l4 ?c4 ?k4 ?l5 ?c5 ?k5 ?l6 ?c6 ?k6 ?l7 ?c7 ?k7 ?l8 ?c8 ?k8 ?l9 ?c9 ?k9 ?l10 ?c10 ?k10 ?l11 ?c11 ?k11 ?l12 ?c12 ?k12 ?l13 ?c13 ?k13 ?l14 ?c14 ?k14 ?l15 ?c15 ?k15 ?l16 ?c16 ?k16 ?a17 ?i17 ?l17 ?c17 ?k17 ?l18 ?c18 ?k18 ?a19 ?i19 ?l19 ?c19 ?k19 ?l20 ?c20 ?k20 ?l21 ?c21 ?k21 ?l22 ?c22 ?k22 ?l23 ?c23 ?k23 ?a24 ?i24 ?l24 ?c24 ?k24 ?a25 ?i25 ?l25 ?c25 ?k25 ?l26 ?c26 ?k26 ?l27 ?c27 ?k27 ?ga0 ?gb0 ?gc0 ?gd0 ?ge0 ?gk0 ?n0__corners ?n0__sides ?ek0 ?eb0 ?et0 ?ex1 ?ek1 ?eb1 ?et1 ?ek2 ?eb2 ?et2 ?oc_n ?oc_t ?xd1 ?xg1 ?xk1 ?xa1 ?xm1 ?xd2 ?xg2 ?xk2 ?xa2 ?xm2 ?xd3 ?xg3 ?xk3 ?xa3 ?xm3 ?kit_1_Barred ?kit_1_EmptyRegion ?kit_2_Barred ?kit_2_EmptyRegion ?kit_2_InvalidMix ?kit_2_ValueError ?kit_3_Barred ?kit_3_EmptyRegion ?kit_3_InvalidMix ?kit_3_ValueError ?hb3 ?hd3 ?ht3 ?hb4 ?hd4 ?ht4 ?hs_1_3 ?hs_2_3 ?hs_2_4 ?hs_3_3 ?hs_3_4 ?qF0 ?qT0 ?qI0 ?qC0 ?qL0 ?qD0 ?rV0 ?rG0 ?rH0 ?qA0 ?sS0 ?qB0 ?qM0 ?qX0 ?rR0 ?qY0 ?qN0 ?qF1 ?qT1 ?qI1 ?qC1 ?qL1 ?qD1 ?rV1 ?rG1 ?rH1 ?qA1 ?sS1 ?qB1 ?qM1 ?qX1 ?rR1 ?qY1 ?qN1 ?qm_gcd ?xn3_mix ?z_ValueError ?z_int ?z_isinstance ?z_len ?z_list ?z_range ?z_super ?z_zip
    (case a0 => k_is); (case a1 => k_is); (case a2 => k_is); (case a3 => k_is); (case a4 => k_is); (case a5 => k_is)
    (case a6 => k_is); (case a7 => k_is); (case a8 => k_is); (case a9 => k_is); (case a10 => k_is); (case a11 => k_is)
    (case a12 => k_is); (case a13 => k_is); (case a14 => k_is); (case a15 => k_is); (case a16 => k_is); (case a18 => k_is)
    (case a20 => k_is); (case a21 => k_is); (case a22 => k_is); (case a23 => k_is); (case a26 => k_is); (case a27 => k_is)
    (case ac0 => k_is); (case ac1 => k_is); (case ac2 => k_is); (case ac3 => k_is); (case ac4 => k_is); (case l0 => k_is)
    (case c0 => k_is); (case k0 => k_is); (case l1 => k_is); (case c1 => k_is); (case k1 => k_is); (case l2 => k_is)
    (case c2 => k_is); (case k2 => k_is); (case l3 => k_is); (case c3 => k_is); (case k3 => k_is); (case l4 => k_is)
    (case c4 => k_is); (case k4 => k_is); (case l5 => k_is); (case c5 => k_is); (case k5 => k_is); (case l6 => k_is)
    (case c6 => k_is); (case k6 => k_is); (case l7 => k_is); (case c7 => k_is); (case k7 => k_is); (case l8 => k_is)
    (case c8 => k_is); (case k8 => k_is); (case l9 => k_is); (case c9 => k_is); (case k9 => k_is); (case l10 => k_is)
    (case c10 => k_is); (case k10 => k_is); (case l11 => k_is); (case c11 => k_is); (case k11 => k_is); (case l12 => k_is)
    (case c12 => k_is); (case k12 => k_is); (case l13 => k_is); (case c13 => k_is); (case k13 => k_is); (case l14 => k_is)
    (case c14 => k_is); (case k14 => k_is); (case l15 => k_is); (case c15 => k_is); (case k15 => k_is); (case l16 => k_is)
    (case c16 => k_is); (case k16 => k_is); (case a17 => k_is); (case i17 => k_is); (case l17 => k_is); (case c17 => k_is)
    (case k17 => k_is); (case l18 => k_is); (case c18 => k_is); (case k18 => k_is); (case a19 => k_is); (case i19 => k_is)
    (case l19 => k_is); (case c19 => k_is); (case k19 => k_is); (case l20 => k_is); (case c20 => k_is); (case k20 => k_is)
    (case l21 => k_is); (case c21 => k_is); (case k21 => k_is); (case l22 => k_is); (case c22 => k_is); (case k22 => k_is)
    (case l23 => k_is); (case c23 => k_is); (case k23 => k_is); (case a24 => k_is); (case i24 => k_is); (case l24 => k_is)
    (case c24 => k_is); (case k24 => k_is); (case a25 => k_is); (case i25 => k_is); (case l25 => k_is); (case c25 => k_is)
    (case k25 => k_is); (case l26 => k_is); (case c26 => k_is); (case k26 => k_is); (case l27 => k_is); (case c27 => k_is)
    (case k27 => k_is); (case ga0 => k_is); (case gb0 => k_is); (case gc0 => k_is); (case gd0 => k_is); (case ge0 => k_is)
    (case gk0 => k_is); (case n0__corners => k_is); (case n0__sides => k_is); (case ek0 => k_is); (case eb0 => k_is); (case et0 => k_is)
    (case ex1 => k_exc); (case ek1 => k_is); (case eb1 => k_is); (case et1 => k_is); (case ek2 => k_is); (case eb2 => k_is)
    (case et2 => k_is); (case oc_n => k_is); (case oc_t => k_is); (case xd1 => k_is); (case xg1 => k_is); (case xk1 => k_is)
    (case xa1 => k_is); (case xm1 => k_is); (case xd2 => k_is); (case xg2 => k_is); (case xk2 => k_is); (case xa2 => k_is)
    (case xm2 => k_is); (case xd3 => k_is); (case xg3 => k_is); (case xk3 => k_is); (case xa3 => k_is); (case xm3 => k_is)
    (case kit_1_Barred => kit_is); (case kit_1_EmptyRegion => kit_is); (case kit_2_Barred => kit_is); (case kit_2_EmptyRegion => kit_is); (case kit_2_InvalidMix => kit_is); (case kit_2_ValueError => kit_is)
    (case kit_3_Barred => kit_is); (case kit_3_EmptyRegion => kit_is); (case kit_3_InvalidMix => kit_is); (case kit_3_ValueError => kit_is); (case hb3 => k_is); (case hd3 => k_is)
    (case ht3 => k_is); (case hb4 => k_is); (case hd4 => k_is); (case ht4 => k_is); (case hs_1_3 => k_is); (case hs_2_3 => k_is)
    (case hs_2_4 => k_is); (case hs_3_3 => k_is); (case hs_3_4 => k_is); (case qF0 => k_is); (case qT0 => k_is); (case qI0 => k_is)
    (case qC0 => k_is); (case qL0 => k_is); (case qD0 => k_is); (case rV0 => first | rfl | decide +kernel); (case rG0 => first | rfl | decide +kernel); (case rH0 => first | rfl | decide +kernel)
    (case qA0 => k_is); (case sS0 => ks_is); (case qB0 => k_is); (case qM0 => k_is); (case qX0 => k_is); (case rR0 => first | rfl | decide +kernel)
    (case qY0 => k_is); (case qN0 => k_is); (case qF1 => k_is); (case qT1 => k_is); (case qI1 => k_is); (case qC1 => k_is)
    (case qL1 => k_is); (case qD1 => k_is); (case rV1 => first | rfl | decide +kernel); (case rG1 => first | rfl | decide +kernel); (case rH1 => first | rfl | decide +kernel); (case qA1 => k_is)
    (case sS1 => ks_is); (case qB1 => k_is); (case qM1 => k_is); (case qX1 => k_is); (case rR1 => first | rfl | decide +kernel); (case qY1 => k_is)
    (case qN1 => k_is); (case qm_gcd => k_is); (case xn3_mix => k_is); (case z_ValueError => k_is); (case z_int => k_is); (case z_isinstance => k_is)
    (case z_len => k_is); (case z_list => k_is); (case z_range => k_is); (case z_super => k_is); (case z_zip => k_is)
