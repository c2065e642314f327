import PyProof.Rows.All
import Wide.All
import OpenK.AllK
import Wide.FinOn
import HandS.ForMost
import HandS.Exc
import HandS.TupAny
import HandS.TupMul
import HandS.Wide
import HandS.SortInts
import HandS.IsInst
import HandS.Style
import HandS.Conv
import HandS.Iter
import KE.GoesNew
import HandS.More
import HandS.SortOrd
import KE.KRevSl
import HandS.ForExc
import HandS.ExcIs
import HandS.ExcInit
import HandS.ExcField
import KE.KExcIs
import PySem.Challenge.RW_sharedunseen_k36_tables_taken_and_refuse
set_option Elab.async false
set_option linter.all false
set_option maxRecDepth 100000
set_option maxHeartbeats 4000000
/-! DL: a layer of data over the hand layer. A def's reading is turned into a predicate transformer over data (PyData), own trees (lists that only this def knows) and raw values. -/
namespace DL
open PySem L2

/-! ### 1. data facts -/
def Ex (H H' : Hp) : Prop := ∀ a o, H a = some o → H' a = some o
theorem Ex.refl (H : Hp) : Ex H H := fun _ _ h => h
theorem Ex.trans {H H1 H2 : Hp} (a : Ex H H1) (b : Ex H1 H2) : Ex H H2 := fun x o h => b x o (a x o h)
theorem Ex.new {H : Hp} {p : Addr} {o : HO} (h : H p = none) : Ex H (upd H p o) := fun a u e => by
  rw [upd_ne (ne_of_none e h)]
  exact e
theorem ex_rd {H H' : Hp} {a : Addr} {u : HO} (e : Ex H H') (h : Rd H a u) : Rd H' a u := by
  rcases h with h | ⟨o, h⟩
  · exact Or.inl (e a _ h)
  · exact Or.inr ⟨o, e a _ h⟩
theorem ex_l {K : PySem.W.Frag} {H H' : Hp} {a : Addr} {xs : List V} (e : Ex H H') (h : SqL K H a xs) : SqL K H' a xs := by
  rcases h with h | h
  · exact Or.inl (ex_rd e h)
  · exact Or.inr h
theorem ex_t {K : PySem.W.Frag} {H H' : Hp} {a : Addr} {xs : List V} (e : Ex H H') (h : SqT K H a xs) : SqT K H' a xs := by
  rcases h with h | h
  · exact Or.inl (ex_rd e h)
  · exact Or.inr h
mutual
/-- data: lists as they were made here, tuples, no dict but the empty one -/
inductive Dq (K : PySem.W.Frag) (H : Hp) : V → PyData → Prop
  | non : Dq K H .non .none
  | bl (b : Bool) : Dq K H (.bl b) (.bool b)
  | int (i : Int) : Dq K H (.int i) (.int i)
  | str (x : Str) : Dq K H (.str x) (.str x)
  | lst {a : Addr} {xs : List V} {ds : List PyData} : H a = some (.lst xs) → DqAll K H xs ds → Dq K H (.ref a) (.list ds)
  | tup {a : Addr} {xs : List V} {ds : List PyData} : SqT K H a xs → DqAll K H xs ds → Dq K H (.ref a) (.tuple ds)
  | dct0 {a : Addr} : H a = some (.dK []) → Dq K H (.ref a) (.dict [])
inductive DqAll (K : PySem.W.Frag) (H : Hp) : List V → List PyData → Prop
  | nil : DqAll K H [] []
  | cons {v : V} {vs : List V} {d : PyData} {ds : List PyData} : Dq K H v d → DqAll K H vs ds → DqAll K H (v :: vs) (d :: ds)
end
mutual
theorem Dq.up {K : PySem.W.Frag} {H H' : Hp} (e : Ex H H') : ∀ {v : V} {d : PyData}, Dq K H v d → Dq K H' v d
  | _, _, .non => .non
  | _, _, .bl b => .bl b
  | _, _, .int i => .int i
  | _, _, .str x => .str x
  | _, _, .lst hs ha => .lst (e _ _ hs) (DqAll.up e ha)
  | _, _, .tup hs ha => .tup (ex_t e hs) (DqAll.up e ha)
  | _, _, .dct0 h => .dct0 (e _ _ h)
theorem DqAll.up {K : PySem.W.Frag} {H H' : Hp} (e : Ex H H') : ∀ {vs : List V} {ds : List PyData}, DqAll K H vs ds → DqAll K H' vs ds
  | _, _, .nil => .nil
  | _, _, .cons h t => .cons (Dq.up e h) (DqAll.up e t)
end
theorem DqAll.length {K : PySem.W.Frag} {H : Hp} : ∀ {vs : List V} {ds : List PyData}, DqAll K H vs ds → vs.length = ds.length
  | _, _, .nil => rfl
  | _, _, .cons _ t => by rw [List.length_cons, List.length_cons, DqAll.length t]
theorem DqAll.append {K : PySem.W.Frag} {H : Hp} : ∀ {vs ws : List V} {ds es : List PyData}, DqAll K H vs ds → DqAll K H ws es → DqAll K H (vs ++ ws) (ds ++ es)
  | _, _, _, _, .nil, h => h
  | _, _, _, _, .cons a t, h => .cons a (DqAll.append t h)
theorem DqAll.get {K : PySem.W.Frag} {H : Hp} : ∀ {vs : List V} {ds : List PyData} {i : Nat} {d : PyData}, DqAll K H vs ds → ds[i]? = some d → ∃ v, vs[i]? = some v ∧ Dq K H v d
  | _, _, i, d, .nil, h => by simp at h
  | _, _, 0, d, .cons (v := v) a t, h => ⟨v, rfl, by cases h; exact a⟩
  | _, _, i + 1, d, .cons a t, h => by
    obtain ⟨v, h1, h2⟩ := DqAll.get (i := i) t h
    exact ⟨v, h1, h2⟩
theorem DqAll.getV {K : PySem.W.Frag} {H : Hp} : ∀ {vs : List V} {ds : List PyData} {i : Nat} {v : V}, DqAll K H vs ds → vs[i]? = some v → ∃ d, ds[i]? = some d ∧ Dq K H v d
  | _, _, i, d, .nil, h => by simp at h
  | _, _, 0, d, .cons (d := v) a t, h => ⟨v, rfl, by cases h; exact a⟩
  | _, _, i + 1, d, .cons a t, h => by
    obtain ⟨v, h1, h2⟩ := DqAll.getV (i := i) t h
    exact ⟨v, h1, h2⟩
theorem DqAll.take {K : PySem.W.Frag} {H : Hp} : ∀ {vs : List V} {ds : List PyData} (n : Nat), DqAll K H vs ds → DqAll K H (vs.take n) (ds.take n)
  | _, _, n, .nil => by simp; exact .nil
  | _, _, 0, .cons a t => .nil
  | _, _, n + 1, .cons a t => .cons a (DqAll.take n t)
theorem DqAll.drop {K : PySem.W.Frag} {H : Hp} : ∀ {vs : List V} {ds : List PyData} (n : Nat), DqAll K H vs ds → DqAll K H (vs.drop n) (ds.drop n)
  | _, _, n, .nil => by simp; exact .nil
  | _, _, 0, .cons a t => .cons a t
  | _, _, n + 1, .cons a t => DqAll.drop n t
theorem DqAll.reverse {K : PySem.W.Frag} {H : Hp} : ∀ {vs : List V} {ds : List PyData}, DqAll K H vs ds → DqAll K H vs.reverse ds.reverse
  | _, _, .nil => .nil
  | _, _, .cons a t => by
    rw [List.reverse_cons, List.reverse_cons]
    exact DqAll.append (DqAll.reverse t) (.cons a .nil)
theorem DqAll.ints {K : PySem.W.Frag} {H : Hp} : ∀ {vs : List V} {ns : List Int}, DqAll K H vs (ns.map PyData.int) → vs = ns.map V.int
  | _, [], .nil => rfl
  | _, n :: ns, .cons a t => by
    cases a
    rw [DqAll.ints t]
    rfl
theorem DqAll.bools {K : PySem.W.Frag} {H : Hp} : ∀ {vs : List V} {ns : List Bool}, DqAll K H vs (ns.map PyData.bool) → vs = ns.map V.bl
  | _, [], .nil => rfl
  | _, n :: ns, .cons a t => by
    cases a
    rw [DqAll.bools t]
    rfl
theorem DqAll.strs {K : PySem.W.Frag} {H : Hp} : ∀ {vs : List V} {ns : List Str}, DqAll K H vs (ns.map PyData.str) → vs = ns.map V.str
  | _, [], .nil => rfl
  | _, n :: ns, .cons a t => by
    cases a
    rw [DqAll.strs t]
    rfl
theorem DqAll.ofInts {K : PySem.W.Frag} {H : Hp} : ∀ (ns : List Int), DqAll K H (ns.map V.int) (ns.map PyData.int)
  | [] => .nil
  | n :: ns => .cons (.int n) (DqAll.ofInts ns)
theorem DqAll.ofStrs {K : PySem.W.Frag} {H : Hp} : ∀ (ns : List Str), DqAll K H (ns.map V.str) (ns.map PyData.str)
  | [] => .nil
  | n :: ns => .cons (.str n) (DqAll.ofStrs ns)

mutual
theorem Dq.dp {K : PySem.W.Frag} {H : Hp} : ∀ {v : V} {d : PyData}, Dq K H v d → d.canLay0 = true → Dp K H v d
  | _, _, .non, _ => .non
  | _, _, .bl b, _ => .bl b
  | _, _, .int i, _ => .int i
  | _, _, .str x, _ => .str x
  | _, _, .lst hs ha, h => .lst (Or.inl (Or.inl hs)) (DqAll.dp ha (by unfold PyData.canLay0 at h; exact h))
  | _, _, .tup hs ha, h => .tup hs (DqAll.dp ha (by unfold PyData.canLay0 at h; exact h))
  | _, _, .dct0 _, h => by unfold PyData.canLay0 at h; cases h
theorem DqAll.dp {K : PySem.W.Frag} {H : Hp} : ∀ {vs : List V} {ds : List PyData}, DqAll K H vs ds → PyData.canLayAll0 ds = true → DpAll K H vs ds
  | _, _, .nil, _ => .nil
  | _, _, .cons h t, e => by
    unfold PyData.canLayAll0 at e
    rw [Bool.and_eq_true] at e
    exact .cons (Dq.dp h e.1) (DqAll.dp t e.2)
end
/-! ### 2. values of slots -/
/-- a value told by data, or raw -/
inductive SV where
  | d (x : PyData)
  | r (v : V)
/-- an own tree: lists that nobody else knows -/
inductive O where
  | leaf (x : SV)
  | lst (os : List O)
inductive SD where
  | un
  | v (x : SV)
  | own (o : O)
abbrev Env := List SD

def RepV (K : PySem.W.Frag) (F : Hp) (v : V) : SV → Prop
  | .d x => Dq K F v x
  | .r w => v = w
theorem RepV.up {K : PySem.W.Frag} {F F' : Hp} {v : V} {x : SV} (e : Ex F F') (h : RepV K F v x) : RepV K F' v x := by
  cases x with
  | d x => exact Dq.up e h
  | r w => exact h

mutual
/-- v is the tree o, its lists at fp -/
inductive RepO (K : PySem.W.Frag) (F H H0 : Hp) : V → O → List Addr → Prop
  | leaf {v : V} {x : SV} : RepV K F v x → RepO K F H H0 v (.leaf x) []
  | lst {p : Addr} {vs : List V} {os : List O} {fp : List Addr} : H p = some (.lst vs) → F p = none → H0 p = none → RepOs K F H H0 vs os fp → RepO K F H H0 (.ref p) (.lst os) (p :: fp)
inductive RepOs (K : PySem.W.Frag) (F H H0 : Hp) : List V → List O → List Addr → Prop
  | nil : RepOs K F H H0 [] [] []
  | cons {v : V} {vs : List V} {o : O} {os : List O} {f1 f2 : List Addr} : RepO K F H H0 v o f1 → RepOs K F H H0 vs os f2 → RepOs K F H H0 (v :: vs) (o :: os) (f1 ++ f2)
end
mutual
theorem RepO.mono {K : PySem.W.Frag} {F H H0 F' H' H0' : Hp} (eF : Ex F F') : ∀ {v : V} {o : O} {fp : List Addr}, RepO K F H H0 v o fp → (∀ a ∈ fp, ∀ u, H a = some u → H' a = some u) → (∀ a ∈ fp, F a = none → F' a = none) → (∀ a ∈ fp, H0 a = none → H0' a = none) → RepO K F' H' H0' v o fp
  | _, _, _, .leaf r, _, _, _ => .leaf (r.up eF)
  | _, _, _, .lst h f h0 t, kH, kF, k0 => .lst (kH _ (List.mem_cons_self ..) _ h) (kF _ (List.mem_cons_self ..) f) (k0 _ (List.mem_cons_self ..) h0)
      (RepOs.mono eF t (fun a ha => kH a (List.mem_cons_of_mem _ ha)) (fun a ha => kF a (List.mem_cons_of_mem _ ha)) (fun a ha => k0 a (List.mem_cons_of_mem _ ha)))
theorem RepOs.mono {K : PySem.W.Frag} {F H H0 F' H' H0' : Hp} (eF : Ex F F') : ∀ {vs : List V} {os : List O} {fp : List Addr}, RepOs K F H H0 vs os fp → (∀ a ∈ fp, ∀ u, H a = some u → H' a = some u) → (∀ a ∈ fp, F a = none → F' a = none) → (∀ a ∈ fp, H0 a = none → H0' a = none) → RepOs K F' H' H0' vs os fp
  | _, _, _, .nil, _, _, _ => .nil
  | _, _, _, .cons h t, kH, kF, k0 => .cons
      (RepO.mono eF h (fun a ha => kH a (List.mem_append_left _ ha)) (fun a ha => kF a (List.mem_append_left _ ha)) (fun a ha => k0 a (List.mem_append_left _ ha)))
      (RepOs.mono eF t (fun a ha => kH a (List.mem_append_right _ ha)) (fun a ha => kF a (List.mem_append_right _ ha)) (fun a ha => k0 a (List.mem_append_right _ ha)))
end
mutual
theorem RepO.fp {K : PySem.W.Frag} {F H H0 : Hp} : ∀ {v : V} {o : O} {fp : List Addr}, RepO K F H H0 v o fp → ∀ a ∈ fp, F a = none ∧ H0 a = none ∧ ∃ vs, H a = some (.lst vs)
  | _, _, _, .leaf r, a, ha => by cases ha
  | _, _, _, .lst h f h0 t, a, ha => by
    cases ha with
    | head => exact ⟨f, h0, _, h⟩
    | tail _ ha => exact RepOs.fp t a ha
theorem RepOs.fp {K : PySem.W.Frag} {F H H0 : Hp} : ∀ {vs : List V} {os : List O} {fp : List Addr}, RepOs K F H H0 vs os fp → ∀ a ∈ fp, F a = none ∧ H0 a = none ∧ ∃ vs, H a = some (.lst vs)
  | _, _, _, .nil, a, ha => by cases ha
  | _, _, _, .cons h t, a, ha => (List.mem_append.mp ha).elim (RepO.fp h a) (RepOs.fp t a)
end
/-- the tree as data, where all its leaves are -/
def SV.dat : SV → Option PyData
  | .d x => some x
  | .r _ => none
mutual
def O.dat : O → Option PyData
  | .leaf x => x.dat
  | .lst os => (Os.dat os).map PyData.list
def Os.dat : List O → Option (List PyData)
  | [] => some []
  | o :: os => match O.dat o, Os.dat os with
    | some d, some ds => some (d :: ds)
    | _, _ => none
end
/-- the known part with a tree's lists -/
def addF (F H : Hp) (fp : List Addr) : Hp := fun a => if a ∈ fp then H a else F a
theorem addF_in {F H : Hp} {fp : List Addr} {a : Addr} (h : a ∈ fp) : addF F H fp a = H a := by unfold addF; rw [if_pos h]
theorem addF_out {F H : Hp} {fp : List Addr} {a : Addr} (h : a ∉ fp) : addF F H fp a = F a := by unfold addF; rw [if_neg h]
theorem addF_ex {F H : Hp} {fp : List Addr} (e : Ex F H) : Ex F (addF F H fp) := fun a o h => by
  by_cases q : a ∈ fp
  · rw [addF_in q]; exact e a o h
  · rw [addF_out q]; exact h
theorem addF_sub {F H : Hp} {fp : List Addr} (e : Ex F H) : Ex (addF F H fp) H := fun a o h => by
  by_cases q : a ∈ fp
  · rw [addF_in q] at h; exact h
  · rw [addF_out q] at h; exact e a o h
mutual
theorem RepO.frz {K : PySem.W.Frag} {F H H0 F' : Hp} (eF : Ex F F') : ∀ {v : V} {o : O} {fp : List Addr} {d : PyData}, RepO K F H H0 v o fp → (∀ a ∈ fp, F' a = H a) → O.dat o = some d → Dq K F' v d
  | _, _, _, d, .leaf (x := x) r, _, e => by
    cases x with
    | d x => cases e; exact Dq.up eF r
    | r w => cases e
  | _, _, _, d, .lst (os := os) h f h0 t, k, e => by
    unfold O.dat at e
    cases q : Os.dat os with
    | none => rw [q] at e; cases e
    | some ds =>
      rw [q] at e
      cases e
      exact .lst ((k _ (List.mem_cons_self ..)).trans h) (RepOs.frz eF t (fun a ha => k a (List.mem_cons_of_mem _ ha)) q)
theorem RepOs.frz {K : PySem.W.Frag} {F H H0 F' : Hp} (eF : Ex F F') : ∀ {vs : List V} {os : List O} {fp : List Addr} {ds : List PyData}, RepOs K F H H0 vs os fp → (∀ a ∈ fp, F' a = H a) → Os.dat os = some ds → DqAll K F' vs ds
  | _, _, _, ds, .nil, _, e => by cases e; exact .nil
  | _, _, _, ds, .cons (o := o) (os := os) h t, k, e => by
    unfold Os.dat at e
    cases q1 : O.dat o with
    | none => rw [q1] at e; cases e
    | some d =>
      cases q2 : Os.dat os with
      | none => rw [q1, q2] at e; cases e
      | some es =>
        rw [q1, q2] at e
        cases e
        exact .cons (RepO.frz eF h (fun a ha => k a (List.mem_append_left _ ha)) q1) (RepOs.frz eF t (fun a ha => k a (List.mem_append_right _ ha)) q2)
end

/-! ### 3. what stands around: the draws' state; steps -/
/-- B: addresses whose objects may change at any call; I: what is true of them -/
structure Amb where
  B : Addr → Prop
  I : Hp → Prop
  loc : ∀ H H' : Hp, (∀ a, B a → H' a = H a) → I H → I H'
def A0 : Amb := ⟨fun _ => False, fun _ => True, fun _ _ _ _ => trivial⟩
structure Ok (A : Amb) (F H : Hp) : Prop where
  sub : Ex F H
  inv : A.I H
  box : ∀ a, A.B a → F a = none ∧ H a ≠ none
structure Step (A : Amb) (F H F' H' : Hp) : Prop where
  keep : ∀ a o, ¬ A.B a → H a = some o → H' a = some o
  ex : Ex F F'
  new : ∀ a, H a ≠ none → F a = none → F' a = none
  ok : Ok A F' H'
theorem Step.refl {A : Amb} {F H : Hp} (o : Ok A F H) : Step A F H F H := ⟨fun _ _ _ h => h, Ex.refl F, fun _ _ h => h, o⟩
theorem Step.ne {A : Amb} {F H F' H' : Hp} (s : Step A F H F' H') {a : Addr} (h : H a ≠ none) : H' a ≠ none := by
  by_cases b : A.B a
  · exact (s.ok.box a b).2
  · cases q : H a with
    | none => exact absurd q h
    | some o => rw [s.keep a o b q]; exact fun z => by cases z
theorem Step.trans {A : Amb} {F H F1 H1 F2 H2 : Hp} (s : Step A F H F1 H1) (t : Step A F1 H1 F2 H2) : Step A F H F2 H2 :=
  ⟨fun a o b h => t.keep a o b (s.keep a o b h), s.ex.trans t.ex, fun a h f => t.new a (s.ne h) (s.new a h f), t.ok⟩
/-- a new object that becomes known -/
theorem Step.alloc {A : Amb} {F H : Hp} {p : Addr} {o : HO} (k : Ok A F H) (h : H p = none) : Step A F H (upd F p o) (upd H p o) := by
  have fp : F p = none := by
    cases q : F p with
    | none => rfl
    | some u => rw [k.sub p u q] at h; cases h
  refine ⟨fun a u _ e => Ex.new h a u e, Ex.new fp, fun a hn hf => ?_, ⟨fun a u e => ?_, ?_, fun a b => ?_⟩⟩
  · have z : a ≠ p := fun z => hn (by rw [z]; exact h)
    rw [upd_ne z]; exact hf
  · by_cases z : a = p
    · subst z; rw [upd_same] at e ⊢; exact e
    · rw [upd_ne z] at e ⊢; exact k.sub a u e
  · refine A.loc H _ (fun a b => ?_) k.inv
    exact upd_ne (fun z => (k.box a b).2 (by rw [z]; exact h))
  · have z : a ≠ p := fun z => (k.box a b).2 (by rw [z]; exact h)
    rw [upd_ne z, upd_ne z]
    exact k.box a b
/-- a new object that stays one's own -/
theorem Step.fresh {A : Amb} {F H : Hp} {p : Addr} {o : HO} (k : Ok A F H) (h : H p = none) : Step A F H F (upd H p o) := by
  refine ⟨fun a u _ e => Ex.new h a u e, Ex.refl F, fun a hn hf => hf, ⟨k.sub.trans (Ex.new h), ?_, fun a b => ?_⟩⟩
  · refine A.loc H _ (fun a b => ?_) k.inv
    exact upd_ne (fun z => (k.box a b).2 (by rw [z]; exact h))
  · have z : a ≠ p := fun z => (k.box a b).2 (by rw [z]; exact h)
    rw [upd_ne z]
    exact k.box a b

/-! ### 4. slots -/
inductive Slots (K : PySem.W.Frag) (F H H0 : Hp) : Env → St → List Addr → Prop
  | nil : Slots K F H H0 [] [] []
  | un {env : Env} {σ : St} {fp : List Addr} {x : Option V} : Slots K F H H0 env σ fp → Slots K F H H0 (.un :: env) (x :: σ) fp
  | v {env : Env} {σ : St} {fp : List Addr} {u : V} {x : SV} : RepV K F u x → Slots K F H H0 env σ fp → Slots K F H H0 (.v x :: env) (some u :: σ) fp
  | own {env : Env} {σ : St} {f1 f2 : List Addr} {v : V} {o : O} : RepO K F H H0 v o f1 → Slots K F H H0 env σ f2 → Slots K F H H0 (.own o :: env) (some v :: σ) (f1 ++ f2)
theorem Slots.length {K : PySem.W.Frag} {F H H0 : Hp} : ∀ {env : Env} {σ : St} {fp : List Addr}, Slots K F H H0 env σ fp → env.length = σ.length
  | _, _, _, .nil => rfl
  | _, _, _, .un t => by rw [List.length_cons, List.length_cons, Slots.length t]
  | _, _, _, .v _ t => by rw [List.length_cons, List.length_cons, Slots.length t]
  | _, _, _, .own _ t => by rw [List.length_cons, List.length_cons, Slots.length t]
theorem Slots.mono {K : PySem.W.Frag} {F H H0 F' H' H0' : Hp} (eF : Ex F F') : ∀ {env : Env} {σ : St} {fp : List Addr}, Slots K F H H0 env σ fp → (∀ a ∈ fp, ∀ u, H a = some u → H' a = some u) → (∀ a ∈ fp, F a = none → F' a = none) → (∀ a ∈ fp, H0 a = none → H0' a = none) → Slots K F' H' H0' env σ fp
  | _, _, _, .nil, _, _, _ => .nil
  | _, _, _, .un t, a, b, c => .un (Slots.mono eF t a b c)
  | _, _, _, .v r t, a, b, c => .v (r.up eF) (Slots.mono eF t a b c)
  | _, _, _, .own r t, kH, kF, k0 => .own (RepO.mono eF r (fun a ha => kH a (List.mem_append_left _ ha)) (fun a ha => kF a (List.mem_append_left _ ha)) (fun a ha => k0 a (List.mem_append_left _ ha)))
      (Slots.mono eF t (fun a ha => kH a (List.mem_append_right _ ha)) (fun a ha => kF a (List.mem_append_right _ ha)) (fun a ha => k0 a (List.mem_append_right _ ha)))
theorem Slots.fp {K : PySem.W.Frag} {F H H0 : Hp} : ∀ {env : Env} {σ : St} {fp : List Addr}, Slots K F H H0 env σ fp → ∀ a ∈ fp, F a = none ∧ H0 a = none ∧ ∃ vs, H a = some (.lst vs)
  | _, _, _, .nil, a, ha => by cases ha
  | _, _, _, .un t, a, ha => Slots.fp t a ha
  | _, _, _, .v _ t, a, ha => Slots.fp t a ha
  | _, _, _, .own r t, a, ha => (List.mem_append.mp ha).elim (RepO.fp r a) (Slots.fp t a)
/-- a slot by its place: a value -/
theorem Slots.getV {K : PySem.W.Frag} {F H H0 : Hp} : ∀ {env : Env} {σ : St} {fp : List Addr} {i : Nat} {x : SV}, Slots K F H H0 env σ fp → env[i]? = some (.v x) → ∃ v, σ[i]? = some (some v) ∧ RepV K F v x
  | _, _, _, i, x, .nil, h => by simp at h
  | _, _, _, 0, x, .un t, h => by cases h
  | _, _, _, 0, x, .own _ t, h => by cases h
  | _, _, _, 0, x, .v r t, h => ⟨_, rfl, by cases h; exact r⟩
  | _, _, _, i + 1, x, .un t, h => Slots.getV (i := i) t h
  | _, _, _, i + 1, x, .own _ t, h => Slots.getV (i := i) t h
  | _, _, _, i + 1, x, .v _ t, h => Slots.getV (i := i) t h
/-- a slot is given a value -/
theorem Slots.setV {K : PySem.W.Frag} {F H H0 : Hp} {v : V} {x : SV} (r : RepV K F v x) : ∀ {env : Env} {σ : St} {fp : List Addr} {i : Nat}, Slots K F H H0 env σ fp → ∃ fp', fp'.Sublist fp ∧ Slots K F H H0 (env.set i (.v x)) (σ.set i (some v)) fp'
  | _, _, _, i, .nil => ⟨[], .slnil, by simp; exact .nil⟩
  | _, _, _, 0, .un t => ⟨_, List.Sublist.refl _, .v r t⟩
  | _, _, _, 0, .v _ t => ⟨_, List.Sublist.refl _, .v r t⟩
  | _, _, _, 0, .own (f2 := f2) _ t => ⟨f2, List.sublist_append_right _ _, .v r t⟩
  | _, _, _, i + 1, .un t => by
    obtain ⟨f, a, b⟩ := Slots.setV r (i := i) t
    exact ⟨f, a, .un b⟩
  | _, _, _, i + 1, .v q t => by
    obtain ⟨f, a, b⟩ := Slots.setV r (i := i) t
    exact ⟨f, a, .v q b⟩
  | _, _, _, i + 1, .own (f1 := f1) q t => by
    obtain ⟨f, a, b⟩ := Slots.setV r (i := i) t
    exact ⟨f1 ++ f, List.Sublist.append (List.Sublist.refl _) a, .own q b⟩
/-- .. an own tree -/
theorem Slots.setO {K : PySem.W.Frag} {F H H0 : Hp} {v : V} {o : O} {f0 : List Addr} (r : RepO K F H H0 v o f0) : ∀ {env : Env} {σ : St} {fp : List Addr} {i : Nat}, i < env.length → Slots K F H H0 env σ fp →
    ∃ fp', Slots K F H H0 (env.set i (.own o)) (σ.set i (some v)) fp' ∧ ((f0 ++ fp).Nodup → fp'.Nodup) ∧ ∀ a ∈ fp', a ∈ f0 ∨ a ∈ fp
  | _, _, _, i, hi, .nil => absurd hi (Nat.not_lt_zero _)
  | _, _, _, 0, _, .un (fp := fp) t => ⟨f0 ++ fp, .own r t, id, fun a h => List.mem_append.mp h⟩
  | _, _, _, 0, _, .v (fp := fp) _ t => ⟨f0 ++ fp, .own r t, id, fun a h => List.mem_append.mp h⟩
  | _, _, _, 0, _, .own (f1 := f1) (f2 := f2) _ t => ⟨f0 ++ f2, .own r t, fun n => (List.Sublist.append (List.Sublist.refl _) (List.sublist_append_right _ _)).nodup n, fun a h => (List.mem_append.mp h).elim .inl fun z => .inr (List.mem_append_right _ z)⟩
  | _, _, _, i + 1, hi, .un t => by
    obtain ⟨f, a, b, c⟩ := Slots.setO r (i := i) (Nat.lt_of_succ_lt_succ hi) t
    exact ⟨f, .un a, b, c⟩
  | _, _, _, i + 1, hi, .v q t => by
    obtain ⟨f, a, b, c⟩ := Slots.setO r (i := i) (Nat.lt_of_succ_lt_succ hi) t
    exact ⟨f, .v q a, b, c⟩
  | _, _, _, i + 1, hi, .own (f1 := f1) (f2 := f2) q t => by
    obtain ⟨f, a, b, c⟩ := Slots.setO r (i := i) (Nat.lt_of_succ_lt_succ hi) t
    refine ⟨f1 ++ f, .own q a, fun n => ?_, fun x hx => ?_⟩
    · rw [List.nodup_append] at n
      obtain ⟨n0, n12, d0⟩ := n
      rw [List.nodup_append] at n12
      obtain ⟨n1, n2, d12⟩ := n12
      have nb : (f0 ++ f2).Nodup := List.nodup_append.mpr ⟨n0, n2, fun x hx y hy => d0 x hx y (List.mem_append_right _ hy)⟩
      refine List.nodup_append.mpr ⟨n1, b nb, fun x hx y hy z => ?_⟩
      subst z
      rcases c _ hy with h | h
      · exact d0 _ h _ (List.mem_append_left _ hx) rfl
      · exact d12 _ hx _ h rfl
    · rcases List.mem_append.mp hx with h | h
      · exact .inr (List.mem_append_left _ h)
      · rcases c _ h with h | h
        · exact .inl h
        · exact .inr (List.mem_append_right _ h)
end DL

namespace DL
open PySem L2

/-! ### 5. the frame of a def, and what holds at a point of it -/
structure XD where
  cls : Addr
  fs : List (Str × SV)
def RepX (K : PySem.W.Frag) (F H : Hp) (c : Value) (dd : Option Addr) (x : XD) : Prop :=
  c = .ref x.cls ∧ ∃ vs : List (Str × V), Paired (fun (p : Str × V) (q : Str × SV) => p.1 = q.1 ∧ RepV K F p.2 q.2) vs x.fs ∧
    ((x.fs = [] ∧ dd = none) ∨ (x.fs ≠ [] ∧ ∃ d, dd = some d ∧ H d = some (.xd vs)))
/-- the frame: what stood at the entry, what is wanted of an exception -/
structure Ctx where
  K : PySem.W.Frag
  A : Amb
  F0 : Hp
  H0 : Hp
  E : XK
  Ed : XD → Prop
  ok0 : Ok A F0 H0
  hE : ∀ x, Ed x → ∀ c dd F' H', Step A F0 H0 F' H' → RepX K F' H' c dd x → E c dd H'
def pE (ps : List (V × SD)) : Env := ps.map (·.2)
def pS (ps : List (V × SD)) : St := ps.map fun p => some p.1
structure ENV (C : Ctx) (F1 : Hp) (env : Env) (pend : List (V × SD)) (σ : St) (F H : Hp) : Prop where
  step : Step C.A C.F0 C.H0 F H
  low : Ex F1 F
  slots : ∃ fe fq, (fq ++ fe).Nodup ∧ Slots C.K F H C.H0 env σ fe ∧ Slots C.K F H C.H0 (pE pend) (pS pend) fq
variable {C : Ctx} {F1 F H F' H' : Hp} {env env' : Env} {σ : St} {pend ps : List (V × SD)} {v w z : V} {x y : SV} {r : SD}

theorem ENV.ok (I : ENV C F1 env pend σ F H) : Ok C.A F H := I.step.ok
theorem ENV.h0 (I : ENV C F1 env pend σ F H) {a : Addr} (h : H a = none) : C.H0 a = none := by
  cases q : C.H0 a with
  | none => rfl
  | some o => exact absurd h (I.step.ne (by rw [q]; exact fun z => by cases z))
theorem ENV.nb (I : ENV C F1 env pend σ F H) {a : Addr} (b : C.A.B a) : F a = none ∧ H a ≠ none := I.ok.box a b
/-- a step of others (a call, a new object): all slots stay -/
theorem ENV.go (I : ENV C F1 env pend σ F H) (s : Step C.A F H F' H') : ENV C F1 env pend σ F' H' := by
  obtain ⟨fe, fq, nd, s1, s2⟩ := I.slots
  have kH : ∀ fp : List Addr, (∀ a ∈ fp, F a = none ∧ C.H0 a = none ∧ ∃ vs, H a = some (.lst vs)) → (∀ a ∈ fp, ∀ u, H a = some u → H' a = some u) := fun fp hf a ha u e =>
    s.keep a u (fun b => (C.ok0.box a b).2 (hf a ha).2.1) e
  have kF : ∀ fp : List Addr, (∀ a ∈ fp, F a = none ∧ C.H0 a = none ∧ ∃ vs, H a = some (.lst vs)) → (∀ a ∈ fp, F a = none → F' a = none) := fun fp hf a ha e => by
    obtain ⟨_, _, vs, q⟩ := hf a ha
    exact s.new a (by rw [q]; exact fun z => by cases z) e
  exact ⟨I.step.trans s, I.low.trans s.ex, fe, fq, nd, s1.mono s.ex (kH _ s1.fp) (kF _ s1.fp) (fun _ _ h => h), s2.mono s.ex (kH _ s2.fp) (kF _ s2.fp) (fun _ _ h => h)⟩
theorem Slots.append {K : PySem.W.Frag} {F H H0 : Hp} : ∀ {e1 e2 : Env} {s1 s2 : St} {f1 f2 : List Addr}, Slots K F H H0 e1 s1 f1 → Slots K F H H0 e2 s2 f2 → Slots K F H H0 (e1 ++ e2) (s1 ++ s2) (f1 ++ f2)
  | _, _, _, _, _, _, .nil, t => t
  | _, _, _, _, _, _, .un a, t => .un (Slots.append a t)
  | _, _, _, _, _, _, .v r a, t => .v r (Slots.append a t)
  | _, _, _, _, _, _, .own r a, t => by
    rw [List.append_assoc]
    exact .own r (Slots.append a t)
theorem Slots.split {K : PySem.W.Frag} {F H H0 : Hp} : ∀ {e1 e2 : Env} {s1 s2 : St} {fp : List Addr}, e1.length = s1.length → Slots K F H H0 (e1 ++ e2) (s1 ++ s2) fp → ∃ f1 f2, fp = f1 ++ f2 ∧ Slots K F H H0 e1 s1 f1 ∧ Slots K F H H0 e2 s2 f2
  | [], e2, [], s2, fp, _, h => ⟨[], fp, rfl, .nil, h⟩
  | x :: e1, e2, [], s2, fp, hl, h => by cases hl
  | [], e2, y :: s1, s2, fp, hl, h => by cases hl
  | x :: e1, e2, y :: s1, s2, fp, hl, h => by
    have hl' : e1.length = s1.length := Nat.succ.inj hl
    cases h with
    | un t =>
      obtain ⟨f1, f2, e, a, b⟩ := Slots.split hl' t
      exact ⟨f1, f2, e, .un a, b⟩
    | v r t =>
      obtain ⟨f1, f2, e, a, b⟩ := Slots.split hl' t
      exact ⟨f1, f2, e, .v r a, b⟩
    | own r t =>
      obtain ⟨f1, f2, rfl, a, b⟩ := Slots.split hl' t
      exact ⟨_, f2, (List.append_assoc ..).symm, .own r a, b⟩
theorem pE_append (a b : List (V × SD)) : pE (a ++ b) = pE a ++ pE b := by unfold pE; exact List.map_append ..
theorem pS_append (a b : List (V × SD)) : pS (a ++ b) = pS a ++ pS b := by unfold pS; exact List.map_append ..
theorem pES (a : List (V × SD)) : (pE a).length = (pS a).length := by unfold pE pS; rw [List.length_map, List.length_map]

/-- what an evaluation has made -/
def Res (K : PySem.W.Frag) (A : Amb) (F H : Hp) (z : V) (r : SD) (F' H' : Hp) : Prop :=
  Step A F H F' H' ∧ match r with
    | .un => False
    | .v x => RepV K F' z x
    | .own o => ∃ fp, fp.Nodup ∧ RepO K F' H' H z o fp
theorem ENV.push (I : ENV C F1 env pend σ F H) (h : Res C.K C.A F H z r F' H') : ENV C F1 env (pend ++ [(z, r)]) σ F' H' := by
  obtain ⟨s, h⟩ := h
  have J := I.go s
  obtain ⟨fe, fq, nd, s1, s2⟩ := J.slots
  obtain ⟨fe0, fq0, nd0, t1, t2⟩ := I.slots
  cases r with
  | un => exact h.elim
  | v x =>
    refine ⟨J.step, J.low, fe, fq, nd, s1, ?_⟩
    rw [pE_append, pS_append]
    have q := Slots.append s2 (Slots.v (K := C.K) (F := F') (H := H') (H0 := C.H0) h .nil)
    rw [List.append_nil] at q
    exact q
  | own o =>
    obtain ⟨fp, nf, ro⟩ := h
    -- the old places were there before
    have s1' := t1.mono (F' := F') (H' := H') (H0' := C.H0) s.ex (fun a ha u e => s.keep a u (fun b => (C.ok0.box a b).2 (t1.fp a ha).2.1) e) (fun a ha e => by
      obtain ⟨_, _, vs, q⟩ := t1.fp a ha
      exact s.new a (by rw [q]; exact fun z => by cases z) e) (fun _ _ h => h)
    have s2' := t2.mono (F' := F') (H' := H') (H0' := C.H0) s.ex (fun a ha u e => s.keep a u (fun b => (C.ok0.box a b).2 (t2.fp a ha).2.1) e) (fun a ha e => by
      obtain ⟨_, _, vs, q⟩ := t2.fp a ha
      exact s.new a (by rw [q]; exact fun z => by cases z) e) (fun _ _ h => h)
    have rn := ro.fp
    have ro' := ro.mono (F' := F') (H' := H') (H0' := C.H0) (Ex.refl F') (fun _ _ _ e => e) (fun _ _ e => e) (fun a _ e => I.h0 e)
    refine ⟨J.step, J.low, fe0, fq0 ++ (fp ++ []), ?_, s1', ?_⟩
    · have old : ∀ a ∈ fq0 ++ fe0, H a ≠ none := fun a ha => by
        rcases List.mem_append.mp ha with q | q
        · obtain ⟨_, _, vs, e⟩ := t2.fp a q
          rw [e]; exact fun z => by cases z
        · obtain ⟨_, _, vs, e⟩ := t1.fp a q
          rw [e]; exact fun z => by cases z
      rw [List.append_nil]
      rw [List.nodup_append] at nd0
      obtain ⟨n1, n2, n3⟩ := nd0
      refine List.nodup_append.mpr ⟨List.nodup_append.mpr ⟨n1, nf, fun a ha b hb e => ?_⟩, n2, fun a ha b hb e => ?_⟩
      · subst e
        exact old a (List.mem_append_left _ ha) (rn a hb).2.1
      · subst e
        rcases List.mem_append.mp ha with q | q
        · exact n3 a q a hb rfl
        · exact old a (List.mem_append_right _ hb) (rn a q).2.1
    · rw [pE_append, pS_append]
      exact Slots.append s2' (.own ro' .nil)
theorem ENV.pop (I : ENV C F1 env (pend ++ [(z, r)]) σ F H) : ENV C F1 env pend σ F H := by
  obtain ⟨fe, fq, nd, s1, s2⟩ := I.slots
  rw [pE_append, pS_append] at s2
  obtain ⟨f1, f2, rfl, a, b⟩ := Slots.split (pES pend) s2
  refine ⟨I.step, I.low, fe, f1, ?_, s1, a⟩
  rw [List.append_assoc] at nd
  exact (List.Sublist.append (List.Sublist.refl _) (List.sublist_append_right _ _)).nodup nd
theorem ENV.topV (I : ENV C F1 env (pend ++ [(z, .v x)]) σ F H) : RepV C.K F z x := by
  obtain ⟨fe, fq, nd, s1, s2⟩ := I.slots
  rw [pE_append, pS_append] at s2
  obtain ⟨f1, f2, rfl, a, b⟩ := Slots.split (pES pend) s2
  cases b with
  | v r t => exact r
/-- the lists at f1 become known -/
theorem frz_step (I : Step C.A C.F0 C.H0 F H) {f1 : List Addr} (h : ∀ a ∈ f1, C.H0 a = none) : Step C.A C.F0 C.H0 (addF F H f1) H := by
  refine ⟨I.keep, I.ex.trans (addF_ex I.ok.sub), fun a hn hf => ?_, ⟨addF_sub I.ok.sub, I.ok.inv, fun a b => ?_⟩⟩
  · rw [addF_out (fun z => hn (h a z))]
    exact I.new a hn hf
  · rw [addF_out (fun z => (C.ok0.box a b).2 (h a z))]
    exact I.ok.box a b
theorem Slots.frzO {K : PySem.W.Frag} {H0 : Hp} {e : Env} {s : St} {fp f1 : List Addr} (hs : Ex F H) (h : Slots K F H H0 e s fp) (d : ∀ a ∈ fp, a ∉ f1) : Slots K (addF F H f1) H H0 e s fp :=
  h.mono (addF_ex hs) (fun _ _ _ e => e) (fun a ha e => by rw [addF_out (d a ha)]; exact e) (fun _ _ e => e)
def SD.frz : SD → Option SV
  | .un => none
  | .v x => some x
  | .own o => (O.dat o).map .d
theorem ENV.frzTop (I : ENV C F1 env (pend ++ [(z, r)]) σ F H) (h : r.frz = some x) : ∃ F', Ex F F' ∧ ENV C F1 env (pend ++ [(z, .v x)]) σ F' H := by
  cases r with
  | un => cases h
  | v y => cases h; exact ⟨F, Ex.refl F, I⟩
  | own o =>
    have h : (O.dat o).map SV.d = some x := h
    cases q : O.dat o with
    | none => rw [q] at h; cases h
    | some d =>
      rw [q] at h
      cases h
      obtain ⟨fe, fq, nd, s1, s2⟩ := I.slots
      rw [pE_append, pS_append] at s2
      obtain ⟨f1, f2, rfl, a, b⟩ := Slots.split (pES pend) s2
      cases b with
      | @own _ _ g1 g2 _ _ ro t =>
        cases t
        rw [List.append_nil] at nd
        rw [List.nodup_append] at nd
        obtain ⟨n1, n2, n3⟩ := nd
        rw [List.nodup_append] at n1
        obtain ⟨n4, n5, n6⟩ := n1
        have hs := I.ok.sub
        refine ⟨addF F H g1, addF_ex hs, frz_step I.step (fun a ha => (ro.fp a ha).2.1), I.low.trans (addF_ex hs), fe, f1, ?_, s1.frzO hs (fun a ha z => n3 a (List.mem_append_right _ z) a ha rfl), ?_⟩
        · exact List.nodup_append.mpr ⟨n4, n2, fun a ha b hb => n3 a (List.mem_append_left _ ha) b hb⟩
        · rw [pE_append, pS_append]
          have q := Slots.append (a.frzO (f1 := g1) hs fun x hx z => n6 x hx x z rfl) (Slots.v (K := C.K) (F := addF F H g1) (H := H) (H0 := C.H0) (u := z) (x := .d d) (ro.frz (addF_ex hs) (fun a ha => addF_in ha) q) .nil)
          rw [List.append_nil] at q
          exact q
/-- a slot's tree becomes data -/
theorem Slots.takeO {K : PySem.W.Frag} {H0 : Hp} (hs : Ex F H) : ∀ {env : Env} {σ : St} {fp : List Addr} {i : Nat} {o : O} {d : PyData}, Slots K F H H0 env σ fp → fp.Nodup → env[i]? = some (.own o) → O.dat o = some d →
    ∃ v g fp', σ[i]? = some (some v) ∧ RepO K F H H0 v o g ∧ (∀ a ∈ g, a ∈ fp) ∧ fp'.Sublist fp ∧ (∀ a ∈ fp', a ∉ g) ∧ Slots K (addF F H g) H H0 (env.set i (.v (.d d))) σ fp'
  | _, _, _, i, o, d, .nil, _, h, _ => by simp at h
  | _, _, _, 0, o, d, .un t, _, h, _ => by cases h
  | _, _, _, 0, o, d, .v _ t, _, h, _ => by cases h
  | _, _, _, 0, o, d, .own (f1 := f1) (f2 := f2) r t, n, h, q => by
    cases h
    rw [List.nodup_append] at n
    obtain ⟨n1, n2, n3⟩ := n
    exact ⟨_, f1, f2, rfl, r, fun a ha => List.mem_append_left _ ha, List.sublist_append_right _ _, fun a ha z => n3 a z a ha rfl, .v (x := .d d) (r.frz (addF_ex hs) (fun a ha => addF_in ha) q) (t.frzO hs fun a ha z => n3 a z a ha rfl)⟩
  | _, _, _, i + 1, o, d, .un t, n, h, q => by
    obtain ⟨v, g, fp', a, b, c, e, f, k⟩ := Slots.takeO hs (i := i) t n h q
    exact ⟨v, g, fp', a, b, c, e, f, .un k⟩
  | _, _, _, i + 1, o, d, .v r t, n, h, q => by
    obtain ⟨v, g, fp', a, b, c, e, f, k⟩ := Slots.takeO hs (i := i) t n h q
    exact ⟨v, g, fp', a, b, c, e, f, .v (r.up (addF_ex hs)) k⟩
  | _, _, _, i + 1, o, d, .own (f1 := f1) (f2 := f2) r t, n, h, q => by
    rw [List.nodup_append] at n
    obtain ⟨n1, n2, n3⟩ := n
    obtain ⟨v, g, fp', a, b, c, e, f, k⟩ := Slots.takeO hs (i := i) t n2 h q
    refine ⟨v, g, f1 ++ fp', a, b, fun x hx => List.mem_append_right _ (c x hx), List.Sublist.append (List.Sublist.refl _) e, fun x hx z => ?_, .own (r.mono (addF_ex hs) (fun _ _ _ e => e) (fun x hx e => ?_) (fun _ _ e => e)) k⟩
    · rcases List.mem_append.mp hx with w | w
      · exact n3 x w x (c x z) rfl
      · exact f x w z
    · rw [addF_out (fun z => n3 x hx x (c x z) rfl)]
      exact e
theorem ENV.frzSlot (I : ENV C F1 env pend σ F H) {i : Nat} {o : O} {d : PyData} (h : env[i]? = some (.own o)) (q : O.dat o = some d) : ∃ v F', σ[i]? = some (some v) ∧ Dq C.K F' v d ∧ Ex F F' ∧ ENV C F1 (env.set i (.v (.d d))) pend σ F' H := by
  obtain ⟨fe, fq, nd, s1, s2⟩ := I.slots
  have nd' := nd
  rw [List.nodup_append] at nd'
  obtain ⟨n1, n2, n3⟩ := nd'
  have hs := I.ok.sub
  obtain ⟨v, g, fp', a, b, c, e, f, k⟩ := s1.takeO hs n2 h q
  refine ⟨v, addF F H g, a, b.frz (addF_ex hs) (fun x hx => addF_in hx) q, addF_ex hs, frz_step I.step (fun x hx => (b.fp x hx).2.1), I.low.trans (addF_ex hs), fp', fq, ?_, k, s2.frzO hs fun x hx z => n3 x hx x (c x z) rfl⟩
  exact (List.Sublist.append (List.Sublist.refl _) e).nodup nd
end DL

namespace DL
open PySem L2
abbrev XP := XD → Prop
abbrev MX := Env → XP → (SD → Env → Prop) → Prop
abbrev MT := Env → XP → (Bool → Env → Prop) → Prop
abbrev MA := Env → XP → (List SV → Env → Prop) → Prop
abbrev MO := Env → XP → (List SD → Env → Prop) → Prop
variable {C : Ctx}
def EM (C : Ctx) (te : TE) (m : MX) : Prop := ∀ F1 env pend σ F H (Qd : SD → Env → Prop) (Q : VK), ENV C F1 env pend σ F H → m env C.Ed Qd →
  (∀ r env' v F' H', Qd r env' → ENV C F1 env' (pend ++ [(v, r)]) σ F' H' → Q v H') → te σ H Q
def ET (C : Ctx) (te : TT) (m : MT) : Prop := ∀ F1 env pend σ F H (Qd : Bool → Env → Prop) (Q : Bool → Hp → Prop), ENV C F1 env pend σ F H → m env C.Ed Qd →
  (∀ b env' F' H', Qd b env' → ENV C F1 env' pend σ F' H' → Q b H') → te σ H Q
/-- arguments, all told -/
def EA (C : Ctx) (ta : TA) (m : MA) : Prop := ∀ F1 env pend σ F H (Qd : List SV → Env → Prop) (Q : List V → Hp → Prop), ENV C F1 env pend σ F H → m env C.Ed Qd →
  (∀ xs env' vs F' H', Qd xs env' → vs.length = xs.length → ENV C F1 env' (pend ++ vs.zip (xs.map SD.v)) σ F' H' → Q vs H') → ta σ H Q
/-- items, own trees stay own -/
def EO (C : Ctx) (ta : TA) (m : MO) : Prop := ∀ F1 env pend σ F H (Qd : List SD → Env → Prop) (Q : List V → Hp → Prop), ENV C F1 env pend σ F H → m env C.Ed Qd →
  (∀ rs env' vs F' H', Qd rs env' → vs.length = rs.length → ENV C F1 env' (pend ++ vs.zip rs) σ F' H' → Q vs H') → ta σ H Q

/-! ### names, constants -/
def mC (x : SV) : MX := fun env _ Q => Q (.v x) env
theorem em_c {v : V} {x : SV} (h : ∀ F, RepV C.K F v x) : EM C (tC v) (mC x) := fun F1 env pend σ F H Qd Q I m k =>
  k _ _ _ F H m (I.push ⟨Step.refl I.ok, h F⟩)
theorem em_int {i : Int} : EM C (tC (.int i)) (mC (.d (.int i))) := em_c fun _ => .int i
theorem em_bl {i : Bool} : EM C (tC (.bl i)) (mC (.d (.bool i))) := em_c fun _ => .bl i
theorem em_non : EM C (tC .non) (mC (.d .none)) := em_c fun _ => .non
theorem em_str {i : Str} : EM C (tC (.str i)) (mC (.d (.str i))) := em_c fun _ => .str i
theorem em_raw {v : V} : EM C (tC v) (mC (.r v)) := em_c fun _ => rfl
def mVar (i : Nat) : MX := fun env _ Q => match env[i]? with
  | some (.v x) => Q (.v x) env
  | some (.own o) => ∃ d, O.dat o = some d ∧ Q (.v (.d d)) (env.set i (.v (.d d)))
  | _ => False
theorem ENV.slotV {F1 F H : Hp} {env : Env} {σ : St} {pend : List (V × SD)} (I : ENV C F1 env pend σ F H) {i : Nat} {x : SV} (h : env[i]? = some (.v x)) : ∃ v, σ[i]? = some (some v) ∧ RepV C.K F v x := by
  obtain ⟨fe, fq, nd, s1, s2⟩ := I.slots
  exact s1.getV h
theorem em_var {i : Nat} : EM C (tVar i) (mVar i) := fun F1 env pend σ F H Qd Q I m k => by
  unfold mVar at m
  cases q : env[i]? with
  | none => rw [q] at m; exact m.elim
  | some s =>
    rw [q] at m
    cases s with
    | un => exact m.elim
    | v x =>
      obtain ⟨v, e, r⟩ := I.slotV q
      exact ⟨v, e, k _ _ v F H m (I.push ⟨Step.refl I.ok, r⟩)⟩
    | own o =>
      obtain ⟨d, hd, m⟩ := m
      obtain ⟨v, F', e, r, _, J⟩ := I.frzSlot q hd
      exact ⟨v, e, k _ _ v F' H m (J.push ⟨Step.refl J.ok, r⟩)⟩
/-- the value of an evaluation, told -/
def mFrz (m : MX) : MX := fun env E Q => m env E fun r e => ∃ x, r.frz = some x ∧ Q (.v x) e
def EMV (C : Ctx) (te : TE) (m : MX) : Prop := ∀ F1 env pend σ F H (Qd : SV → Env → Prop) (Q : VK), ENV C F1 env pend σ F H → (m env C.Ed fun r e => ∃ x, r.frz = some x ∧ Qd x e) →
  (∀ x env' v F' H', Qd x env' → ENV C F1 env' (pend ++ [(v, .v x)]) σ F' H' → Q v H') → te σ H Q
theorem EM.val {te : TE} {m : MX} (h : EM C te m) : EMV C te m := fun F1 env pend σ F H Qd Q I hm k =>
  h F1 env pend σ F H _ Q I hm fun r env' v F' H' ⟨x, e, q⟩ J => by
    obtain ⟨F2, _, J2⟩ := J.frzTop e
    exact k x env' v F2 H' q J2

/-! ### operators -/
def FR (K : PySem.W.Frag) (A : Amb) (r : R2) (f : SV → SV → (SD → Prop) → Prop) : Prop := ∀ F H x y dx dy (Qd : SD → Prop) (Q : VK), Ok A F H → RepV K F x dx → RepV K F y dy → f dx dy Qd →
  (∀ z s F' H', Qd s → Res K A F H z s F' H' → Q z H') → r x y H Q
def mOp (f : SV → SV → (SD → Prop) → Prop) (ma mb : MX) : MX := fun env E Q => ma env E fun r1 e1 => ∃ x, r1.frz = some x ∧ mb e1 E fun r2 e2 => ∃ y, r2.frz = some y ∧ f x y fun r => Q r e2
theorem em_op {r : R2} {f : SV → SV → (SD → Prop) → Prop} {ta tb : TE} {ma mb : MX} (hr : FR C.K C.A r f) (ha : EM C ta ma) (hb : EM C tb mb) : EM C (tOp r ta tb) (mOp f ma mb) := fun F1 env pend σ F H Qd Q I m k =>
  ha.val F1 env pend σ F H _ _ I m fun x e1 v F' H' m1 J => hb.val F1 e1 _ σ F' H' _ _ J m1 fun y e2 w F2 H2 m2 J2 =>
    hr F2 H2 v w x y _ _ J2.ok J2.pop.topV J2.topV m2 fun z s F3 H3 q res => k _ _ z F3 H3 q (J2.pop.pop.push res)
def FU (K : PySem.W.Frag) (A : Amb) (r : V → Hp → VK → Prop) (f : SV → (SD → Prop) → Prop) : Prop := ∀ F H x dx (Qd : SD → Prop) (Q : VK), Ok A F H → RepV K F x dx → f dx Qd →
  (∀ z s F' H', Qd s → Res K A F H z s F' H' → Q z H') → r x H Q
def mUn (f : SV → (SD → Prop) → Prop) (ma : MX) : MX := fun env E Q => ma env E fun r1 e1 => ∃ x, r1.frz = some x ∧ f x fun r => Q r e1
theorem em_un {r : V → Hp → VK → Prop} {f : SV → (SD → Prop) → Prop} {ta : TE} {ma : MX} (hr : FU C.K C.A r f) (ha : EM C ta ma) : EM C (tUn r ta) (mUn f ma) := fun F1 env pend σ F H Qd Q I m k =>
  ha.val F1 env pend σ F H _ _ I m fun x e1 v F' H' m1 J => hr F' H' v x _ _ J.ok J.topV m1 fun z s F3 H3 q res => k _ _ z F3 H3 q (J.pop.push res)

/-! ### arguments, displays -/
def aNil : MA := fun env _ Q => Q [] env
def aCons (m : MX) (ms : MA) : MA := fun env E Q => m env E fun r e => ∃ x, r.frz = some x ∧ ms e E fun xs e' => Q (x :: xs) e'
theorem ea_nil : EA C tNil aNil := fun F1 env pend σ F H Qd Q I m k => k [] env [] F H m rfl (by
  show ENV C F1 env (pend ++ []) σ F H
  rw [List.append_nil]; exact I)
theorem ea_cons {te : TE} {ta : TA} {m : MX} {ms : MA} (h : EM C te m) (t : EA C ta ms) : EA C (tCons te ta) (aCons m ms) := fun F1 env pend σ F H Qd Q I hm k =>
  h.val F1 env pend σ F H _ _ I hm fun x e1 v F' H' m1 J => t F1 e1 _ σ F' H' _ _ J m1 fun xs e2 vs F2 H2 q hl J2 => k (x :: xs) e2 (v :: vs) F2 H2 q (by rw [List.length_cons, List.length_cons, hl]) (by
    show ENV C F1 e2 (pend ++ (v, SD.v x) :: vs.zip (xs.map SD.v)) σ F2 H2
    have q : pend ++ [(v, SD.v x)] ++ vs.zip (xs.map SD.v) = pend ++ (v, SD.v x) :: vs.zip (xs.map SD.v) := by rw [List.append_assoc]; rfl
    rw [← q]; exact J2)
def oNil : MO := fun env _ Q => Q [] env
def oCons (m : MX) (ms : MO) : MO := fun env E Q => m env E fun r e => ms e E fun xs e' => Q (r :: xs) e'
theorem eo_nil : EO C tNil oNil := fun F1 env pend σ F H Qd Q I m k => k [] env [] F H m rfl (by
  show ENV C F1 env (pend ++ []) σ F H
  rw [List.append_nil]; exact I)
theorem eo_cons {te : TE} {ta : TA} {m : MX} {ms : MO} (h : EM C te m) (t : EO C ta ms) : EO C (tCons te ta) (oCons m ms) := fun F1 env pend σ F H Qd Q I hm k =>
  h F1 env pend σ F H _ _ I hm fun r e1 v F' H' m1 J => t F1 e1 _ σ F' H' _ _ J m1 fun xs e2 vs F2 H2 q hl J2 => k (r :: xs) e2 (v :: vs) F2 H2 q (by rw [List.length_cons, List.length_cons, hl]) (by
    show ENV C F1 e2 (pend ++ (v, r) :: vs.zip xs) σ F2 H2
    have q : pend ++ [(v, r)] ++ vs.zip xs = pend ++ (v, r) :: vs.zip xs := by rw [List.append_assoc]; rfl
    rw [← q]; exact J2)
theorem ENV.pops {F1 F H : Hp} {env : Env} {σ : St} : ∀ {pend ps : List (V × SD)}, ENV C F1 env (pend ++ ps) σ F H → ENV C F1 env pend σ F H
  | pend, [], I => by rw [List.append_nil] at I; exact I
  | pend, p :: ps, I => by
    have e : pend ++ p :: ps = (pend ++ [p]) ++ ps := by rw [List.append_assoc]; rfl
    rw [e] at I
    obtain ⟨z, r⟩ := p
    exact (ENV.pops I).pop
/-- all told values of a list -/
inductive RepVs (K : PySem.W.Frag) (F : Hp) : List V → List SV → Prop
  | nil : RepVs K F [] []
  | cons {v : V} {vs : List V} {x : SV} {xs : List SV} : RepV K F v x → RepVs K F vs xs → RepVs K F (v :: vs) (x :: xs)
theorem RepVs.up {K : PySem.W.Frag} {F F' : Hp} (e : Ex F F') : ∀ {vs : List V} {xs : List SV}, RepVs K F vs xs → RepVs K F' vs xs
  | _, _, .nil => .nil
  | _, _, .cons h t => .cons (h.up e) (RepVs.up e t)
theorem RepVs.length {K : PySem.W.Frag} {F : Hp} : ∀ {vs : List V} {xs : List SV}, RepVs K F vs xs → vs.length = xs.length
  | _, _, .nil => rfl
  | _, _, .cons h t => by rw [List.length_cons, List.length_cons, RepVs.length t]
theorem slots_zip {K : PySem.W.Frag} {F H H0 : Hp} : ∀ {vs : List V} {xs : List SV} {fp : List Addr}, vs.length = xs.length → Slots K F H H0 (pE (vs.zip (xs.map SD.v))) (pS (vs.zip (xs.map SD.v))) fp → RepVs K F vs xs
  | [], [], _, _, _ => .nil
  | [], _ :: _, _, h, _ => by cases h
  | _ :: _, [], _, h, _ => by cases h
  | v :: vs, x :: xs, fp, h, s => by
    cases s with
    | v r t => exact .cons r (slots_zip (Nat.succ.inj h) t)
theorem ENV.args {F1 F H : Hp} {env : Env} {σ : St} {pend : List (V × SD)} {vs : List V} {xs : List SV} (hl : vs.length = xs.length) (I : ENV C F1 env (pend ++ vs.zip (xs.map SD.v)) σ F H) : RepVs C.K F vs xs := by
  obtain ⟨fe, fq, nd, s1, s2⟩ := I.slots
  rw [pE_append, pS_append] at s2
  obtain ⟨f1, f2, rfl, a, b⟩ := Slots.split (pES pend) s2
  exact slots_zip hl b
def dats : List SV → Option (List PyData)
  | [] => some []
  | .d x :: xs => (dats xs).map (x :: ·)
  | .r _ :: _ => none
theorem RepVs.dats {K : PySem.W.Frag} {F : Hp} : ∀ {vs : List V} {xs : List SV} {ds : List PyData}, RepVs K F vs xs → DL.dats xs = some ds → DqAll K F vs ds
  | _, _, ds, .nil, h => by cases h; exact .nil
  | _, _, ds, .cons (x := .r w) a t, h => by cases h
  | _, _, ds, .cons (x := .d y) (xs := xs) a t, h => by
    have h : (DL.dats xs).map (y :: ·) = some ds := h
    cases q : DL.dats xs with
    | none => rw [q] at h; cases h
    | some es =>
      rw [q] at h
      cases h
      exact .cons a (RepVs.dats t q)
/-- lists and tuples are shorter than this -/
def BIG : Nat := 1000000
theorem big_size {n : Nat} (h : n ≤ BIG) : n ≤ sizeLine := Nat.le_trans h (by decide)
theorem big_lt {n : Nat} (h : n ≤ BIG) : n < sizeLine := Nat.lt_of_le_of_lt h (by decide)
def mTup (ms : MA) : MX := fun env E Q => ms env E fun xs e => ∃ ds, dats xs = some ds ∧ ds.length ≤ BIG ∧ Q (.v (.d (.tuple ds))) e
theorem em_tup {ta : TA} {ms : MA} (h : EA C ta ms) : EM C (tTup ta) (mTup ms) := fun F1 env pend σ F H Qd Q I m k =>
  h F1 env pend σ F H _ _ I m fun xs e vs F' H' ⟨ds, hd, hn, q⟩ hl J => by
    have r := (J.args hl).dats hd
    refine ⟨big_size (by rw [r.length]; exact hn), fun p hp => ?_⟩
    refine k _ e _ (upd F' p (.tup vs)) _ q (J.pops.push ⟨Step.alloc J.ok hp, ?_⟩)
    have fp : F' p = none := by
      cases z : F' p with
      | none => rfl
      | some u => rw [J.ok.sub p u z] at hp; cases hp
    exact .tup (Or.inl (Or.inl upd_same)) (r.up (Ex.new fp))
def SD.tree : SD → Option O
  | .un => none
  | .v x => some (.leaf x)
  | .own o => some o
def trees : List SD → Option (List O)
  | [] => some []
  | r :: rs => match r.tree, trees rs with
    | some o, some os => some (o :: os)
    | _, _ => none
theorem slots_trees {K : PySem.W.Frag} {F H H0 : Hp} : ∀ {vs : List V} {rs : List SD} {os : List O} {fp : List Addr}, vs.length = rs.length → Slots K F H H0 (pE (vs.zip rs)) (pS (vs.zip rs)) fp → trees rs = some os → RepOs K F H H0 vs os fp
  | [], [], os, fp, _, s, h => by
    cases h
    cases s
    exact .nil
  | [], _ :: _, _, _, h, _, _ => by cases h
  | _ :: _, [], _, _, h, _, _ => by cases h
  | v :: vs, r :: rs, os, fp, hl, s, h => by
    unfold trees at h
    cases q : trees rs with
    | none => rw [q] at h; cases r <;> cases h
    | some os' =>
      rw [q] at h
      cases s with
      | un t => cases h
      | @v _ _ f _ x r t =>
        cases h
        have w := slots_trees (Nat.succ.inj hl) t q
        have w2 := RepOs.cons (RepO.leaf (H := H) (H0 := H0) r) w
        rw [List.nil_append] at w2
        exact w2
      | own ro t =>
        cases h
        exact .cons ro (slots_trees (Nat.succ.inj hl) t q)
def mLst (ms : MO) : MX := fun env E Q => ms env E fun rs e => ∃ os, trees rs = some os ∧ os.length ≤ BIG ∧ Q (.own (.lst os)) e
theorem trees_length : ∀ {rs : List SD} {os : List O}, trees rs = some os → rs.length = os.length
  | [], os, h => by cases h; rfl
  | r :: rs, os, h => by
    unfold trees at h
    cases q : trees rs with
    | none => rw [q] at h; cases r <;> cases h
    | some os' =>
      rw [q] at h
      cases w : r.tree with
      | none => rw [w] at h; cases h
      | some o =>
        rw [w] at h
        cases h
        rw [List.length_cons, List.length_cons, trees_length q]
theorem em_lst {ta : TA} {ms : MO} (h : EO C ta ms) : EM C (tLst ta) (mLst ms) := fun F1 env pend σ F H Qd Q I m k =>
  h F1 env pend σ F H _ _ I m fun rs e vs F' H' ⟨os, hd, hn, q⟩ hl J => by
    refine ⟨big_size (by rw [hl, trees_length hd]; exact hn), fun p hp => ?_⟩
    have fp : F' p = none := by
      cases z : F' p with
      | none => rfl
      | some u => rw [J.ok.sub p u z] at hp; cases hp
    have st : Step C.A F' H' F' (upd H' p (.lst vs)) := Step.fresh J.ok hp
    have J2 := J.go st
    obtain ⟨fe, fq, nd, s1, s2⟩ := J.slots
    rw [pE_append, pS_append] at s2
    obtain ⟨f1, f2, rfl, a, b⟩ := Slots.split (pES pend) s2
    have ro := slots_trees hl b hd
    have up : ∀ x ∈ fe, ∀ u, H' x = some u → upd H' p (.lst vs) x = some u := fun x _ u e => Ex.new hp x u e
    have up2 : ∀ x ∈ f1, ∀ u, H' x = some u → upd H' p (.lst vs) x = some u := fun x _ u e => Ex.new hp x u e
    have np : p ∉ (f1 ++ f2) ++ fe := fun z => by
      rcases List.mem_append.mp z with z | z
      · rcases List.mem_append.mp z with z | z
        · obtain ⟨_, _, ws, e⟩ := a.fp p z
          rw [hp] at e; cases e
        · obtain ⟨_, _, ws, e⟩ := ro.fp p z
          rw [hp] at e; cases e
      · obtain ⟨_, _, ws, e⟩ := s1.fp p z
        rw [hp] at e; cases e
    refine k _ e _ F' _ q ⟨J2.step, J2.low, fe, f1 ++ (p :: f2), ?_, s1.mono (Ex.refl _) up (fun _ _ e => e) (fun _ _ e => e), ?_⟩
    · have pm : ((f1 ++ (p :: f2)) ++ fe).Perm (p :: ((f1 ++ f2) ++ fe)) := by
        have h1 : (f1 ++ p :: f2).Perm (p :: (f1 ++ f2)) := List.perm_middle
        exact (h1.append_right fe)
      exact pm.nodup_iff.mpr (List.nodup_cons.mpr ⟨np, nd⟩)
    · rw [pE_append, pS_append]
      have ro2 : RepO C.K F' (upd H' p (.lst vs)) C.H0 (.ref p) (.lst os) (p :: f2) := .lst upd_same fp (J.h0 hp) (ro.mono (Ex.refl _) (fun x _ u e => Ex.new hp x u e) (fun _ _ e => e) (fun _ _ e => e))
      have w := Slots.append (a.mono (Ex.refl F') up2 (fun _ _ e => e) (fun _ _ e => e)) (Slots.own (K := C.K) ro2 .nil)
      rw [List.append_nil] at w
      exact w

/-! ### tests -/
def tbl (m : MX) : MT := fun env E Q => m env E fun r e => ∃ b, r = .v (.d (.bool b)) ∧ Q b e
theorem et_test {te : TE} {m : MX} (h : EM C te m) : ET C (tTest te) (tbl m) := fun F1 env pend σ F H Qd Q I hm k =>
  h F1 env pend σ F H _ _ I hm fun r e v F' H' ⟨b, er, q⟩ J => by
    subst er
    have r := J.topV
    cases r
    exact ⟨b, rfl, k b e F' H' q J.pop⟩
theorem et_B {te : TE} {m : MX} (h : EM C te m) : ET C (tB te) (tbl m) := fun F1 env pend σ F H Qd Q I hm k =>
  h F1 env pend σ F H _ _ I hm fun r e v F' H' ⟨b, er, q⟩ J => by
    subst er
    have r := J.topV
    cases r
    exact ⟨b, rfl, k b e F' H' q J.pop⟩
def mAnd (t u : MT) : MT := fun env E Q => t env E fun b e => if b = true then u e E Q else Q false e
def mOr (t u : MT) : MT := fun env E Q => t env E fun b e => if b = true then Q true e else u e E Q
def mNot (t : MT) : MT := fun env E Q => t env E fun b e => Q (!b) e
theorem et_and {t u : TT} {m n : MT} (h : ET C t m) (g : ET C u n) : ET C (tAnd t u) (mAnd m n) := fun F1 env pend σ F H Qd Q I hm k =>
  h F1 env pend σ F H _ _ I hm fun b e F' H' q J => by
    cases b with
    | true => exact g F1 e pend σ F' H' _ _ J q k
    | false => exact k false e F' H' q J
theorem et_or {t u : TT} {m n : MT} (h : ET C t m) (g : ET C u n) : ET C (tOr t u) (mOr m n) := fun F1 env pend σ F H Qd Q I hm k =>
  h F1 env pend σ F H _ _ I hm fun b e F' H' q J => by
    cases b with
    | false => exact g F1 e pend σ F' H' _ _ J q k
    | true => exact k true e F' H' q J
theorem et_not {t : TT} {m : MT} (h : ET C t m) : ET C (tNot t) (mNot m) := fun F1 env pend σ F H Qd Q I hm k =>
  h F1 env pend σ F H _ _ I hm fun b e F' H' q J => k (!b) e F' H' q J
theorem et_yes : ET C tYes (fun env _ Q => Q true env) := fun F1 env pend σ F H Qd Q I hm k => k true env F H hm I
/-- and, or, not as values of truth values -/
def vAnd (m n : MX) : MX := fun env E Q => m env E fun r e => ∃ b, r = .v (.d (.bool b)) ∧ if b = true then n e E Q else Q (.v (.d (.bool false))) e
def vOr (m n : MX) : MX := fun env E Q => m env E fun r e => ∃ b, r = .v (.d (.bool b)) ∧ if b = true then Q (.v (.d (.bool true))) e else n e E Q
def vNot (m : MX) : MX := fun env E Q => m env E fun r e => ∃ b, r = .v (.d (.bool b)) ∧ Q (.v (.d (.bool (!b)))) e
theorem em_and {ta tb : TE} {m n : MX} (h : EM C ta m) (g : EM C tb n) : EM C (tAndV ta tb) (vAnd m n) := fun F1 env pend σ F H Qd Q I hm k =>
  h F1 env pend σ F H _ _ I hm fun r e v F' H' ⟨b, er, q⟩ J => by
    subst er
    have r := J.topV
    cases r
    refine ⟨b, rfl, ?_⟩
    cases b with
    | true => exact g F1 e pend σ F' H' _ _ J.pop q k
    | false => exact k _ e _ F' H' q (J.pop.push ⟨Step.refl J.ok, .bl false⟩)
theorem em_or {ta tb : TE} {m n : MX} (h : EM C ta m) (g : EM C tb n) : EM C (tOrV ta tb) (vOr m n) := fun F1 env pend σ F H Qd Q I hm k =>
  h F1 env pend σ F H _ _ I hm fun r e v F' H' ⟨b, er, q⟩ J => by
    subst er
    have r := J.topV
    cases r
    refine ⟨b, rfl, ?_⟩
    cases b with
    | false => exact g F1 e pend σ F' H' _ _ J.pop q k
    | true => exact k _ e _ F' H' q (J.pop.push ⟨Step.refl J.ok, .bl true⟩)
theorem em_not {ta : TE} {m : MX} (h : EM C ta m) : EM C (tNotV ta) (vNot m) := fun F1 env pend σ F H Qd Q I hm k =>
  h F1 env pend σ F H _ _ I hm fun r e v F' H' ⟨b, er, q⟩ J => by
    subst er
    have r := J.topV
    cases r
    exact ⟨b, rfl, k _ e _ F' H' q (J.pop.push ⟨Step.refl J.ok, .bl (!b)⟩)⟩
def mIf (t : MT) (m n : MX) : MX := fun env E Q => t env E fun b e => if b = true then m e E Q else n e E Q
theorem em_if {t : TT} {ta tb : TE} {mt : MT} {m n : MX} (h : ET C t mt) (ha : EM C ta m) (hb : EM C tb n) : EM C (tIf t ta tb) (mIf mt m n) := fun F1 env pend σ F H Qd Q I hm k =>
  h F1 env pend σ F H _ _ I hm fun b e F' H' q J => by
    cases b with
    | true => exact ha F1 e pend σ F' H' _ _ J q k
    | false => exact hb F1 e pend σ F' H' _ _ J q k
/-- a comparison of three -/
def mChain (f g : SV → SV → (SD → Prop) → Prop) (ma mb mc : MX) : MX := fun env E Q => ma env E fun r1 e1 => ∃ x, r1.frz = some x ∧ mb e1 E fun r2 e2 => ∃ y, r2.frz = some y ∧ f x y fun r => ∃ b, r = .v (.d (.bool b)) ∧
  if b = true then mc e2 E fun r3 e3 => ∃ z, r3.frz = some z ∧ g y z fun r => Q r e3 else Q (.v (.d (.bool false))) e2

/-! ### calls of built-in functions -/
def FC (K : PySem.W.Frag) (A : Amb) (r : List V → Hp → VK → Prop) (f : List SV → (SD → Prop) → Prop) : Prop := ∀ F H vs xs (Qd : SD → Prop) (Q : VK), Ok A F H → RepVs K F vs xs → f xs Qd →
  (∀ z s F' H', Qd s → Res K A F H z s F' H' → Q z H') → r vs H Q
def mCB (f : List SV → (SD → Prop) → Prop) (ms : MA) : MX := fun env E Q => ms env E fun xs e => f xs fun r => Q r e
theorem em_cb {r : List V → Hp → VK → Prop} {f : List SV → (SD → Prop) → Prop} {ta : TA} {ms : MA} (hr : FC C.K C.A r f) (h : EA C ta ms) : EM C (tCB r ta) (mCB f ms) := fun F1 env pend σ F H Qd Q I m k =>
  h F1 env pend σ F H _ _ I m fun xs e vs F' H' q hl J => hr F' H' vs xs _ _ J.ok (J.args hl) q fun z s F2 H2 q res => k s e z F2 H2 q (J.pops.push res)

/-! ### defs -/
abbrev MF := List SV → XP → (SV → Prop) → Prop
/-- a def that hands back told values, keeps all that stood, and does to the draws' state what A says -/
def SpecM (K : PySem.W.Frag) (A : Amb) (n : Nat) (m : MF) : Sp := fun vs H Q E => ∃ (F : Hp) (xs : List SV) (Qd : SV → Prop) (Ed : XP), Ok A F H ∧ RepVs K F vs xs ∧ xs.length = n ∧ m xs Ed Qd ∧
  (∀ x v F' H', Qd x → Step A F H F' H' → RepV K F' v x → Q v H') ∧ (∀ x, Ed x → ∀ c dd F' H', Step A F H F' H' → RepX K F' H' c dd x → E c dd H')
/-- a def that lets nothing out; one whose exceptions leave here too -/
def mCall (m : MF) (ms : MA) (n : Nat) : MX := fun env E Q => ms env E fun xs e => xs.length = n ∧ m xs (fun _ => False) fun x => Q (.v x) e
def mCallX (m : MF) (ms : MA) (n : Nat) : MX := fun env E Q => ms env E fun xs e => xs.length = n ∧ m xs E fun x => Q (.v x) e
theorem em_call {n : Nat} {m : MF} {ta : TA} {ms : MA} (h : EA C ta ms) : EM C (tCall (SpecM C.K C.A n m) [] (fun _ _ _ => False) ta) (mCall m ms n) := fun F1 env pend σ F H Qd Q I hm k =>
  h F1 env pend σ F H _ _ I hm fun xs e vs F' H' ⟨hn, q⟩ hl J => by
    show SpecM C.K C.A n m (vs ++ []) H' Q _
    rw [List.append_nil]
    exact ⟨F', xs, _, _, J.ok, J.args hl, hn, q, fun x v F2 H2 q s r => k _ e v F2 H2 q (J.pops.push ⟨s, r⟩), fun x hx => hx.elim⟩
theorem em_callX {n : Nat} {m : MF} {ta : TA} {ms : MA} (h : EA C ta ms) : EM C (tCall (SpecM C.K C.A n m) [] C.E ta) (mCallX m ms n) := fun F1 env pend σ F H Qd Q I hm k =>
  h F1 env pend σ F H _ _ I hm fun xs e vs F' H' ⟨hn, q⟩ hl J => by
    show SpecM C.K C.A n m (vs ++ []) H' Q C.E
    rw [List.append_nil]
    exact ⟨F', xs, _, _, J.ok, J.args hl, hn, q, fun x v F2 H2 q s r => k _ e v F2 H2 q (J.pops.push ⟨s, r⟩), fun x hx c dd F2 H2 s r => C.hE x hx c dd F2 H2 (J.step.trans s) r⟩
end DL

namespace DL
open PySem L2
structure Post where
  nx : Env → Prop
  rt : SV → Prop
  bk : Env → Prop := fun _ => False
  ct : Env → Prop := fun _ => False
abbrev MS := Env → XP → Post → Prop
structure Match (C : Ctx) (F1 : Hp) (P : Post) (De : Ends) : Prop where
  nx : ∀ env σ F H, ENV C F1 env [] σ F H → P.nx env → De.nx σ H
  rt : ∀ x v F H, Step C.A C.F0 C.H0 F H → RepV C.K F v x → P.rt x → De.rt v H
  bk : ∀ env σ F H, ENV C F1 env [] σ F H → P.bk env → De.bk σ H
  ct : ∀ env σ F H, ENV C F1 env [] σ F H → P.ct env → De.ct σ H
def SM (C : Ctx) (ts : TS) (m : MS) : Prop := ∀ F1 env σ F H (P : Post) (De : Ends), ENV C F1 env [] σ F H → m env C.Ed P → Match C F1 P De → ts De σ H
variable {C : Ctx} {F1 F H F' H' : Hp} {env env' : Env} {σ : St} {pend ps : List (V × SD)} {v w z : V} {x y : SV} {r : SD}

theorem ENV.lower (I : ENV C F1 env pend σ F H) {F2 : Hp} (h : Ex F2 F1) : ENV C F2 env pend σ F H := ⟨I.step, h.trans I.low, I.slots⟩
theorem ENV.raise (I : ENV C F1 env pend σ F H) : ENV C F env pend σ F H := ⟨I.step, Ex.refl F, I.slots⟩
theorem Slots.oob {K : PySem.W.Frag} {H0 : Hp} {env : Env} {σ : St} {fp : List Addr} {i : Nat} {v : V} {s : SD} (h : Slots K F H H0 env σ fp) (hi : ¬ i < env.length) : Slots K F H H0 (env.set i s) (σ.set i (some v)) fp := by
  have hl := h.length
  rw [List.set_eq_of_length_le (by omega), List.set_eq_of_length_le (by omega)]
  exact h
/-- x = (what has come) -/
theorem ENV.setTop (I : ENV C F1 env (pend ++ [(v, r)]) σ F H) (i : Nat) : ENV C F1 (env.set i r) pend (σ.set i (some v)) F H := by
  obtain ⟨fe, fq, nd, s1, s2⟩ := I.slots
  rw [pE_append, pS_append] at s2
  obtain ⟨f1, f2, rfl, a, b⟩ := Slots.split (pES pend) s2
  cases b with
  | un t =>
    cases t
    -- a slot of which nothing is told
    have key : ∀ {env : Env} {σ : St} {fp : List Addr} {i : Nat}, Slots C.K F H C.H0 env σ fp → ∃ fp', fp'.Sublist fp ∧ Slots C.K F H C.H0 (env.set i .un) (σ.set i (some v)) fp' := by
      intro env σ fp i h
      induction h generalizing i with
      | nil => exact ⟨[], List.Sublist.refl _, by simp; exact .nil⟩
      | un t ih => cases i with
        | zero => exact ⟨_, List.Sublist.refl _, .un t⟩
        | succ i =>
          obtain ⟨f, p, q⟩ := ih (i := i)
          exact ⟨f, p, .un q⟩
      | v r t ih => cases i with
        | zero => exact ⟨_, List.Sublist.refl _, .un t⟩
        | succ i =>
          obtain ⟨f, p, q⟩ := ih (i := i)
          exact ⟨f, p, .v r q⟩
      | own r t ih => cases i with
        | zero => exact ⟨_, List.sublist_append_right _ _, .un t⟩
        | succ i =>
          obtain ⟨f, p, q⟩ := ih (i := i)
          exact ⟨_, List.Sublist.append (List.Sublist.refl _) p, .own r q⟩
    obtain ⟨fe', p, q⟩ := key (i := i) s1
    rw [List.append_nil] at nd
    exact ⟨I.step, I.low, fe', f1, (List.Sublist.append (List.Sublist.refl _) p).nodup nd, q, a⟩
  | v r t =>
    cases t
    obtain ⟨fe', p, q⟩ := Slots.setV r (i := i) s1
    rw [List.append_nil] at nd
    exact ⟨I.step, I.low, fe', f1, (List.Sublist.append (List.Sublist.refl _) p).nodup nd, q, a⟩
  | @own _ _ g1 g2 _ _ ro t =>
    cases t
    rw [List.append_nil] at nd
    by_cases hi : i < env.length
    · obtain ⟨fe', p, q, s⟩ := Slots.setO ro hi s1
      rw [List.append_assoc] at nd
      have nd2 := nd
      rw [List.nodup_append] at nd2
      obtain ⟨n1, n2, n3⟩ := nd2
      refine ⟨I.step, I.low, fe', f1, List.nodup_append.mpr ⟨n1, q n2, fun x hx y hy e => ?_⟩, p, a⟩
      subst e
      exact n3 x hx x (List.mem_append.mpr (s x hy)) rfl
    · refine ⟨I.step, I.low, fe, f1, ?_, s1.oob hi, a⟩
      exact (List.Sublist.append (List.sublist_append_left _ _) (List.Sublist.refl _)).nodup nd

/-! ### statements -/
def sNext : MS := fun env _ P => P.nx env
theorem sm_next : SM C tNext sNext := fun F1 env σ F H P De I m k => k.nx env σ F H I m
def sSeq (m n : MS) : MS := fun env E P => m env E { P with nx := fun e => n e E P }
theorem sm_seq {t u : TS} {m n : MS} (h : SM C t m) (g : SM C u n) : SM C (tSeq t u) (sSeq m n) := fun F1 env σ F H P De I hm k =>
  h F1 env σ F H _ _ I hm ⟨fun e σ' F' H' J q => g F1 e σ' F' H' P De J q k, k.rt, k.bk, k.ct⟩
def sSet (m : MX) (i : Nat) : MS := fun env E P => m env E fun r e => P.nx (e.set i r)
theorem sm_set {te : TE} {m : MX} {i : Nat} (h : EM C te m) : SM C (tAsg te (gName i)) (sSet m i) := fun F1 env σ F H P De I hm k =>
  h F1 env [] σ F H _ _ I hm fun r e v F' H' q J => k.nx _ _ F' H' (ENV.setTop (pend := []) J i) q
def sDrop (m : MX) : MS := fun env E P => m env E fun r e => P.nx e
theorem sm_drop {te : TE} {m : MX} (h : EM C te m) : SM C (tDrop te) (sDrop m) := fun F1 env σ F H P De I hm k =>
  h F1 env [] σ F H _ _ I hm fun r e v F' H' q J => k.nx _ _ F' H' (ENV.pop (pend := []) J) q
def sRet (m : MX) : MS := fun env E P => m env E fun r e => ∃ x, r.frz = some x ∧ P.rt x
theorem sm_ret {te : TE} {m : MX} (h : EM C te m) : SM C (tRet te) (sRet m) := fun F1 env σ F H P De I hm k =>
  h.val F1 env [] σ F H (fun x _ => P.rt x) _ I hm fun x e v F' H' q J => k.rt x v F' H' J.step (ENV.topV (pend := []) J) q
def sRetN : MS := fun env E P => P.rt (.d .none)
theorem sm_retN : SM C tRetN sRetN := fun F1 env σ F H P De I hm k => k.rt (.d .none) _ F H I.step (show RepV C.K F .non (.d .none) from Dq.non) hm
def sBreak : MS := fun env E P => P.bk env
theorem sm_break : SM C tBreak sBreak := fun F1 env σ F H P De I hm k => k.bk env σ F H I hm
def sCont : MS := fun env E P => P.ct env
theorem sm_cont : SM C tCont sCont := fun F1 env σ F H P De I hm k => k.ct env σ F H I hm
def sIf (t : MT) (m n : MS) : MS := fun env E P => t env E fun b e => if b = true then m e E P else n e E P
theorem sm_if {c : TT} {t u : TS} {mt : MT} {m n : MS} (h : ET C c mt) (h1 : SM C t m) (h2 : SM C u n) : SM C (tIfS c t u) (sIf mt m n) := fun F1 env σ F H P De I hm k =>
  h F1 env [] σ F H _ _ I hm fun b e F' H' q J => by
    cases b with
    | true => exact h1 F1 e σ F' H' P De J q k
    | false => exact h2 F1 e σ F' H' P De J q k
theorem pend2 {ps : List (V × SD)} {v w : V} {r s : SD} (I : ENV C F1 env ([] ++ [v, w].zip [r, s]) σ F H) : ENV C F1 env ([(v, r)] ++ [(w, s)]) σ F H := I
def sPar (ms : MO) (i j : Nat) : MS := fun env E P => ms env E fun rs e => ∃ r s, rs = [r, s] ∧ i ≠ j ∧ P.nx ((e.set i r).set j s)
theorem sm_par {ta : TA} {ms : MO} {i j : Nat} (h : EO C ta ms) : SM C (tPar i j ta) (sPar ms i j) := fun F1 env σ F H P De I hm k =>
  h F1 env [] σ F H _ _ I hm fun rs e vs F' H' ⟨r, s, er, hij, q⟩ hl J => by
    subst er
    match vs, hl with
    | [v, w], _ =>
      refine ⟨v, w, rfl, ?_⟩
      have J1 : ENV C F1 e ([(v, r)] ++ [(w, s)]) σ F' H' := J
      have J2 := J1.setTop j
      have J3 := ENV.setTop (pend := []) J2 i
      have e1 : (e.set j s).set i r = (e.set i r).set j s := List.set_comm _ _ (Ne.symm hij)
      have e2 : (σ.set j (some w)).set i (some v) = (σ.set i (some v)).set j (some w) := List.set_comm _ _ (Ne.symm hij)
      rw [e1, e2] at J3
      exact k.nx _ _ F' H' J3 q
/-- x op= e -/
def sAug (f : SV → SV → (SD → Prop) → Prop) (i : Nat) (m : MX) : MS := fun env E P => ∃ x, env[i]? = some (.v x) ∧ m env E fun r e => ∃ y, r.frz = some y ∧ e[i]? = some (.v x) ∧ f x y fun s => P.nx (e.set i s)
theorem sm_aug {te : TE} {ti : TIp} {f : SV → SV → (SD → Prop) → Prop} {i : Nat} {m : MX} (hr : FR C.K C.A ti f) (h : EM C te m) : SM C (tAug i te ti) (sAug f i m) := fun F1 env σ F H P De I ⟨x, hx, hm⟩ k => by
  obtain ⟨v, hv, rv⟩ := I.slotV hx
  refine ⟨v, hv, ?_⟩
  have J0 := I.raise
  refine h.val F env [] σ F H (fun y e => e[i]? = some (.v x) ∧ f x y fun s => P.nx (e.set i s)) _ J0 hm fun y e w F' H' ⟨he, q⟩ J => ?_
  have rv' : RepV C.K F' v x := rv.up J.low
  refine hr F' H' v w x y _ _ J.ok rv' (ENV.topV (pend := []) J) q fun z s F2 H2 q2 res => ?_
  have J2 := (ENV.pop (pend := []) J).push res
  exact k.nx _ _ F2 H2 ((ENV.setTop (pend := []) J2 i).lower I.low) q2

/-! ### targets -/
def GM (C : Ctx) (g : TG) (ts : List Nat) (mg : SV → Env → (Env → Prop) → Prop) : Prop := ∀ F1 env pend σ F H v x (Qe : Env → Prop) (Q : St → Hp → Prop), ENV C F1 env pend σ F H → RepV C.K F v x → mg x env Qe →
  (∀ env' σ', Qe env' → ENV C F1 env' pend σ' F H → (∀ vs : List Nat, (∀ i ∈ ts, i ∈ vs) → wipe σ' vs = wipe σ vs) → Q σ' H) → g v σ H Q
def GMs (C : Ctx) (g : TGs) (ts : List Nat) (mg : List SV → Env → (Env → Prop) → Prop) : Prop := ∀ F1 env pend σ F H vs xs (Qe : Env → Prop) (Q : St → Hp → Prop), ENV C F1 env pend σ F H → RepVs C.K F vs xs → mg xs env Qe →
  (∀ env' σ', Qe env' → ENV C F1 env' pend σ' F H → (∀ vs : List Nat, (∀ i ∈ ts, i ∈ vs) → wipe σ' vs = wipe σ vs) → Q σ' H) → g vs σ H Q
theorem wipe_set {σ : St} {i : Nat} {o : Option V} : ∀ {vs : List Nat}, i ∈ vs → wipe (σ.set i o) vs = wipe σ vs
  | [], h => by cases h
  | w :: vs, h => by
    show (wipe (σ.set i o) vs).set w none = (wipe σ vs).set w none
    by_cases q : i ∈ vs
    · rw [wipe_set q]
    · have e : i = w := by
        cases h with
        | head => rfl
        | tail _ z => exact absurd z q
      subst e
      -- outside vs the wipe passes the store
      have key : ∀ {vs : List Nat}, i ∉ vs → wipe (σ.set i o) vs = (wipe σ vs).set i o := by
        intro vs hv
        induction vs with
        | nil => rfl
        | cons w vs ih =>
          show (wipe (σ.set i o) vs).set w none = ((wipe σ vs).set w none).set i o
          rw [ih fun z => hv (List.mem_cons_of_mem _ z)]
          exact List.set_comm _ _ fun z => hv (by rw [z]; exact List.mem_cons_self ..)
      rw [key q, List.set_set]
theorem wipe_idem {σ : St} : ∀ {vs ws : List Nat}, (∀ i ∈ vs, i ∈ ws) → wipe (wipe σ vs) ws = wipe σ ws
  | [], ws, h => rfl
  | w :: vs, ws, h => by
    show wipe ((wipe σ vs).set w none) ws = wipe σ ws
    rw [wipe_set (h w (List.mem_cons_self ..)), wipe_idem fun i hi => h i (List.mem_cons_of_mem _ hi)]
def gmName (i : Nat) : SV → Env → (Env → Prop) → Prop := fun x env Q => Q (env.set i (.v x))
theorem gm_name {i : Nat} : GM C (gName i) [i] (gmName i) := fun F1 env pend σ F H v x Qe Q I r m k =>
  k _ _ m ((I.push (z := v) (r := .v x) ⟨Step.refl I.ok, r⟩).setTop i) fun vs h => wipe_set (h i (List.mem_cons_self ..))
def gmNil : List SV → Env → (Env → Prop) → Prop := fun xs env Q => xs = [] ∧ Q env
def gmCons (m : SV → Env → (Env → Prop) → Prop) (n : List SV → Env → (Env → Prop) → Prop) : List SV → Env → (Env → Prop) → Prop := fun xs env Q => ∃ x r, xs = x :: r ∧ m x env fun e => n r e Q
theorem gm_nil : GMs C gNil [] gmNil := fun F1 env pend σ F H vs xs Qe Q I r ⟨e, m⟩ k => by
  subst e
  cases r
  exact ⟨rfl, k env σ m I fun _ _ => rfl⟩
theorem gm_cons {g : TG} {gs : TGs} {t1 t2 : List Nat} {m : SV → Env → (Env → Prop) → Prop} {n : List SV → Env → (Env → Prop) → Prop} (h : GM C g t1 m) (t : GMs C gs t2 n) : GMs C (gCons g gs) (t1 ++ t2) (gmCons m n) :=
  fun F1 env pend σ F H vs xs Qe Q I r ⟨x, ys, e, hm⟩ k => by
    subst e
    cases r with
    | @cons v vs _ _ r1 r2 =>
      refine ⟨v, vs, rfl, h F1 env pend σ F H v x _ _ I r1 hm fun e1 σ1 m1 J w1 => ?_⟩
      exact t F1 e1 pend σ1 F H vs ys _ _ J r2 m1 fun e2 σ2 m2 J2 w2 => k e2 σ2 m2 J2 fun ws hw => by
        rw [w2 ws fun i hi => hw i (List.mem_append_right _ hi), w1 ws fun i hi => hw i (List.mem_append_left _ hi)]
theorem DqAll.repVs {K : PySem.W.Frag} : ∀ {vs : List V} {ds : List PyData}, DqAll K F vs ds → RepVs K F vs (ds.map SV.d)
  | _, _, .nil => .nil
  | _, _, .cons h t => .cons (x := .d _) h (DqAll.repVs t)
def gmTup (n : Nat) (m : List SV → Env → (Env → Prop) → Prop) : SV → Env → (Env → Prop) → Prop := fun x env Q => ∃ ds, x = .d (.tuple ds) ∧ ds.length = n ∧ m (ds.map SV.d) env Q
theorem gm_tup {n : Nat} {gs : TGs} {ts : List Nat} {m : List SV → Env → (Env → Prop) → Prop} (h : GMs C gs ts m) : GM C (gTup C.K n gs) ts (gmTup n m) :=
  fun F1 env pend σ F H v x Qe Q I r ⟨ds, e, hn, hm⟩ k => by
    subst e
    cases r with
    | @tup a xs _ hs ha => exact ⟨a, xs, rfl, ex_t I.ok.sub hs, by rw [ha.length]; exact hn, h F1 env pend σ F H xs _ _ _ I ha.repVs hm k⟩
def sAsg (m : MX) (mg : SV → Env → (Env → Prop) → Prop) : MS := fun env E P => m env E fun r e => ∃ x, r.frz = some x ∧ mg x e P.nx
theorem sm_asg {te : TE} {m : MX} {g : TG} {ts : List Nat} {mg : SV → Env → (Env → Prop) → Prop} (h : EM C te m) (hg : GM C g ts mg) : SM C (tAsg te g) (sAsg m mg) := fun F1 env σ F H P De I hm k =>
  h.val F1 env [] σ F H _ _ I hm fun x e v F' H' q J => hg F1 e [] σ F' H' v x _ _ (ENV.pop (pend := []) J) (ENV.topV (pend := []) J) q fun e2 σ2 q2 J2 _ => k.nx e2 σ2 F' H' J2 q2

/-! ### what is walked -/
def Iters (K : PySem.W.Frag) (A : Amb) (F : Hp) (J : It) (xs : List SV) : Prop := ∀ F2 H2, Ex F F2 → Ok A F2 H2 → ∀ i,
  (∀ x, xs[i]? = some x → J.go i H2 ∧ ∀ v H3, J.yld i H2 v H3 → ∃ F3, Step A F2 H2 F3 H3 ∧ RepV K F3 v x) ∧ (i = xs.length → J.stop i H2)
abbrev MI := Env → XP → (List SV → Env → Prop) → Prop
def EI (C : Ctx) (wi : TI) (mi : MI) : Prop := ∀ F1 env pend σ F H (Qi : List SV → Env → Prop) (R : It → Hp → Prop), ENV C F1 env pend σ F H → mi env C.Ed Qi →
  (∀ xs env' F' H' J, Qi xs env' → ENV C F1 env' pend σ F' H' → Iters C.K C.A F' J xs → R J H') → wi σ H R
/-- a list or a tuple -/
def iSeq (K : PySem.W.Frag) (tl : TE) : TI := fun σ H R => tl σ H fun x H1 => (∃ a, x = .ref a ∧ (∃ xs, SqL K H1 a xs) ∧ R (Itl K a) H1) ∨ (∃ a, x = .ref a ∧ (∃ xs, SqT K H1 a xs) ∧ R (Itt K a) H1)
def items : PyData → Option (List PyData)
  | .list ds => some ds
  | .tuple ds => some ds
  | _ => none
def miSeq (m : MX) : MI := fun env E Q => m env E fun r e => ∃ d ds, r.frz = some (.d d) ∧ items d = some ds ∧ Q (ds.map SV.d) e
theorem it_list {K : PySem.W.Frag} {A : Amb} {a : Addr} {vs : List V} {ds : List PyData} (h : F a = some (.lst vs)) (r : DqAll K F vs ds) : Iters K A F (Itl K a) (ds.map SV.d) := fun F2 H2 e ok i => by
  have hs : SqL K H2 a vs := Or.inl (Or.inl (ok.sub a _ (e a _ h)))
  refine ⟨fun x hx => ?_, fun hn => ⟨vs, hs, by rw [List.length_map] at hn; rw [r.length, hn]; exact Nat.le_refl _⟩⟩
  rw [List.getElem?_map] at hx
  cases q : ds[i]? with
  | none => rw [q] at hx; cases hx
  | some d =>
    rw [q] at hx
    cases hx
    obtain ⟨v, hv, rv⟩ := r.get q
    refine ⟨⟨vs, v, hs, hv⟩, fun w H3 ⟨e3, y⟩ => ⟨F2, by rw [e3]; exact Step.refl ok, ?_⟩⟩
    have z := y vs hs
    rw [hv] at z
    cases z
    exact Dq.up e rv
theorem it_tup {K : PySem.W.Frag} {A : Amb} {a : Addr} {vs : List V} {ds : List PyData} (h : SqT K F a vs) (r : DqAll K F vs ds) : Iters K A F (Itt K a) (ds.map SV.d) := fun F2 H2 e ok i => by
  have hs : SqT K H2 a vs := ex_t ok.sub (ex_t e h)
  refine ⟨fun x hx => ?_, fun hn => ⟨vs, hs, by rw [List.length_map] at hn; rw [r.length, hn]; exact Nat.le_refl _⟩⟩
  rw [List.getElem?_map] at hx
  cases q : ds[i]? with
  | none => rw [q] at hx; cases hx
  | some d =>
    rw [q] at hx
    cases hx
    obtain ⟨v, hv, rv⟩ := r.get q
    refine ⟨⟨vs, v, hs, hv⟩, fun w H3 ⟨e3, y⟩ => ⟨F2, by rw [e3]; exact Step.refl ok, ?_⟩⟩
    have z := y vs hs
    rw [hv] at z
    cases z
    exact Dq.up e rv
theorem ei_seq {tl : TE} {m : MX} (h : EM C tl m) : EI C (iSeq C.K tl) (miSeq m) := fun F1 env pend σ F H Qi R I hm k =>
  h.val F1 env pend σ F H (fun x e => ∃ d ds, x = .d d ∧ items d = some ds ∧ Qi (ds.map SV.d) e) _ I (by
    refine cast ?_ hm
    unfold miSeq
    congr 1
    funext r e
    apply propext
    constructor
    · rintro ⟨d, ds, a, b, c⟩
      exact ⟨_, a, d, ds, rfl, b, c⟩
    · rintro ⟨x, a, d, ds, rfl, b, c⟩
      exact ⟨d, ds, a, b, c⟩) fun x e v F' H' ⟨d, ds, ex, hi, q⟩ J => by
    subst ex
    have r := J.topV
    cases r with
    | @lst a vs es hs ha =>
      cases hi
      exact Or.inl ⟨a, rfl, ⟨vs, Or.inl (Or.inl (J.ok.sub _ _ hs))⟩, k _ e F' H' _ q J.pop (it_list hs ha)⟩
    | @tup a vs es hs ha =>
      cases hi
      exact Or.inr ⟨a, rfl, ⟨vs, ex_t J.ok.sub hs⟩, k _ e F' H' _ q J.pop (it_tup hs ha)⟩
    | non => cases hi
    | bl b => cases hi
    | int b => cases hi
    | str b => cases hi
    | dct0 b => cases hi
theorem pi_seq {X : Cx} {tg l : Expr} {tl : TE} (hl : PE X l tl) : PI X tg l (iSeq X.K tl) := ⟨fun pins s σ H R I h => by
  refine thn (hl.run pins s σ H _ I h) fun v s1 hh => ?_
  obtain ⟨x, H1, I1, r1, q1⟩ := hh
  have fr : ∀ b ∈ [s1.heap.objs.size], FpOk X pins H1 b := fun b hb => by
    have e := List.mem_singleton.mp hb
    subst e
    exact I1.fpOk (Nat.le_refl _) (I1.hok.fresh (Nat.le_refl _))
  rcases q1 with ⟨a, e, ⟨xs, hq⟩, q⟩ | ⟨a, e, ⟨xs, hq⟩, q⟩
  · subst e
    cases r1
    obtain ⟨its, rv, p, hz⟩ := I1.list hq
    exact wpAny_pyIter_list p.isList ⟨_, [s1.heap.objs.size], _, _, H1, rfl, I1.kept (t' := s1.toks) fun b o e => Heap.get?_push_of_some _ e, turn_list a _, ⟨_, Heap.get?_push_size _ rfl, rfl, rfl⟩, fr, q⟩
  · subst e
    cases r1
    obtain ⟨its, rv, p, hz⟩ := I1.tuple hq
    exact wpAny_pyIter_tuple (show s1.heap.IsTuple a its.toArray from p) ⟨_, [s1.heap.objs.size], _, _, H1, rfl, I1.kept (t' := s1.toks) fun b o e => Heap.get?_push_of_some _ e, turn_tuple a _, ⟨_, Heap.get?_push_size _ rfl, rfl, rfl⟩, fr, q⟩⟩
/-- range(n), range(a, b) -/
def rgD (lo : Int) (n : Nat) : List SV := (List.range n).map fun i => .d (.int (lo + (i : Nat)))
def miRng1 (ms : MA) : MI := fun env E Q => ms env E fun xs e => ∃ j : Int, xs = [.d (.int j)] ∧ -(2 ^ 62) ≤ j ∧ j < 2 ^ 62 ∧ Q (rgD 0 j.toNat) e
def miRng2 (ms : MA) : MI := fun env E Q => ms env E fun xs e => ∃ i j : Int, xs = [.d (.int i), .d (.int j)] ∧ (-(2 ^ 62) ≤ i ∧ i < 2 ^ 62 ∧ -(2 ^ 62) ≤ j ∧ j < 2 ^ 62) ∧ Q (rgD i (j - i).toNat) e
theorem it_rng {K : PySem.W.Frag} {A : Amb} {lo : Int} {n : Nat} : Iters K A F (Itr lo n) (rgD lo n) := fun F2 H2 e ok i => by
  unfold rgD
  refine ⟨fun x hx => ?_, fun hn => by rw [List.length_map, List.length_range] at hn; show n ≤ i; omega⟩
  rw [List.getElem?_map] at hx
  by_cases hi : i < n
  · rw [List.getElem?_range hi] at hx
    cases hx
    exact ⟨hi, fun w H3 ⟨e3, y⟩ => ⟨F2, by rw [e3]; exact Step.refl ok, by rw [y]; exact Dq.int _⟩⟩
  · rw [List.getElem?_eq_none (by rw [List.length_range]; omega)] at hx
    cases hx
theorem ei_rng1 {ta : TA} {ms : MA} (h : EA C ta ms) : EI C (iRng1 ta) (miRng1 ms) := fun F1 env pend σ F H Qi R I hm k =>
  h F1 env pend σ F H _ _ I hm fun xs e vs F' H' ⟨j, ex, h1, h2, q⟩ hl J => by
    have r := J.args hl
    subst ex
    cases r with
    | cons r1 r2 =>
      cases r2
      cases r1
      exact ⟨j, rfl, h1, h2, k _ e F' H' _ q J.pops it_rng⟩
theorem ei_rng2 {ta : TA} {ms : MA} (h : EA C ta ms) : EI C (iRng2 ta) (miRng2 ms) := fun F1 env pend σ F H Qi R I hm k =>
  h F1 env pend σ F H _ _ I hm fun xs e vs F' H' ⟨i, j, ex, h1, q⟩ hl J => by
    have r := J.args hl
    subst ex
    cases r with
    | cons r1 r2 =>
      cases r2 with
      | cons r2 r3 =>
        cases r3
        cases r1
        cases r2
        exact ⟨i, j, rfl, h1, k _ e F' H' _ q J.pops it_rng⟩

/-! ### for -/
def loopE (mg : SV → Env → (Env → Prop) → Prop) (mb : MS) (E : XP) (P : Post) : List SV → Env → Prop
  | [], e => P.nx e
  | x :: xs, e => mg x e fun e1 => mb e1 E { nx := fun e2 => loopE mg mb E P xs e2, ct := fun e2 => loopE mg mb E P xs e2, bk := P.nx, rt := P.rt }
def sFor (mi : MI) (mg : SV → Env → (Env → Prop) → Prop) (mb : MS) : MS := fun env E P => mi env E fun xs e => loopE mg mb E P xs e
theorem sm_for {wi : TI} {g : TG} {ts : List Nat} {tb : TS} {mi : MI} {mg : SV → Env → (Env → Prop) → Prop} {mb : MS} (hi : EI C wi mi) (hg : GM C g ts mg) (hb : SM C tb mb) : SM C (tFor wi g tb) (sFor mi mg mb) := fun F1 env σ F H P De I hm k =>
  hi F1 env [] σ F H _ _ I hm fun xs e F' H' J q I' it => by
    refine ⟨fun i m σ H => m = xs.length - i ∧ i ≤ xs.length ∧ ∃ env F, ENV C F' env [] σ F H ∧ loopE mg mb C.Ed P (xs.drop i) env, ⟨xs.length, rfl, Nat.zero_le _, e, F', I'.raise, q⟩, ?_⟩
    rintro i m σ2 H2 ⟨rfl, hi, env2, F2, I2, q2⟩
    obtain ⟨go, stop⟩ := it F2 H2 I2.low I2.ok i
    cases hx : xs[i]? with
    | none =>
      have hl : xs.length ≤ i := List.getElem?_eq_none_iff.mp hx
      rw [List.drop_eq_nil_of_le hl] at q2
      exact Or.inl ⟨stop (Nat.le_antisymm hi hl), k.nx env2 σ2 F2 H2 (I2.lower I'.low) q2⟩
    | some x =>
      obtain ⟨hlt, ex⟩ := List.getElem?_eq_some_iff.mp hx
      obtain ⟨g1, yl⟩ := go x hx
      rw [List.drop_eq_getElem_cons hlt, ex] at q2
      refine Or.inr ⟨g1, fun σ' H' => ∃ env F, ENV C F' env [] σ' F H' ∧ loopE mg mb C.Ed P (xs.drop (i + 1)) env, fun σ' H' ⟨env', F3, I3, q3⟩ => ⟨xs.length - (i + 1), by omega, rfl, hlt, env', F3, I3, q3⟩, fun v H3 y => ?_⟩
      obtain ⟨F3, s3, r3⟩ := yl v H3 y
      have I3 := I2.go s3
      refine hg F' env2 [] σ2 F3 H3 v x _ _ I3 r3 q2 fun env4 σ4 q4 I4 _ => ?_
      exact hb F' env4 σ4 F3 H3 _ _ I4 q4 ⟨fun e5 σ5 F5 H5 I5 q5 => ⟨e5, F5, I5, q5⟩, k.rt, fun e5 σ5 F5 H5 I5 q5 => k.nx e5 σ5 F5 H5 (I5.lower I'.low) q5, fun e5 σ5 F5 H5 I5 q5 => ⟨e5, F5, I5, q5⟩⟩
def sWhile (mt : MT) (mb : MS) : MS := fun env E P => ∃ W : Nat → Env → Prop, (∃ m, W m env) ∧ ∀ m e, W m e → mt e E fun b e1 => if b = true then mb e1 E { nx := fun e2 => ∃ m', m' < m ∧ W m' e2, ct := fun e2 => ∃ m', m' < m ∧ W m' e2, bk := P.nx, rt := P.rt } else P.nx e1
theorem sm_while {c : TT} {tb : TS} {mt : MT} {mb : MS} (hc : ET C c mt) (hb : SM C tb mb) : SM C (tWhile c tb) (sWhile mt mb) := fun F1 env σ F H P De I ⟨W, ⟨m0, w0⟩, turn⟩ k => by
  refine ⟨fun m σ H => ∃ env F, ENV C F1 env [] σ F H ∧ W m env, ⟨m0, env, F, I, w0⟩, fun m σ2 H2 ⟨e2, F2, I2, w2⟩ => ?_⟩
  refine hc F1 e2 [] σ2 F2 H2 _ _ I2 (turn m e2 w2) fun b e3 F3 H3 q J => ?_
  cases b with
  | true =>
    refine (if_pos rfl).mpr ⟨fun σ' H' => ∃ m', m' < m ∧ ∃ env F, ENV C F1 env [] σ' F H' ∧ W m' env, fun σ' H' h => ?_, ?_⟩
    · obtain ⟨m', hm, env', F', I', w'⟩ := h
      exact ⟨m', hm, env', F', I', w'⟩
    · exact hb F1 e3 σ2 F3 H3 _ _ J q ⟨fun e5 σ5 F5 H5 I5 ⟨m', hm, w⟩ => ⟨m', hm, e5, F5, I5, w⟩, k.rt, fun e5 σ5 F5 H5 I5 q5 => k.nx e5 σ5 F5 H5 I5 q5, fun e5 σ5 F5 H5 I5 ⟨m', hm, w⟩ => ⟨m', hm, e5, F5, I5, w⟩⟩
  | false => exact k.nx e3 σ2 F3 H3 J q
end DL

namespace DL
open PySem L2
variable {C : Ctx} {F1 F H F' H' F2 H2 : Hp} {env env' e1 e2 : Env} {σ σ' : St} {pend ps : List (V × SD)} {v w z : V} {x y : SV} {r : SD}

/-! ### own lists that grow -/
theorem RepOs.length {K : PySem.W.Frag} {F H H0 : Hp} : ∀ {vs : List V} {os : List O} {fp : List Addr}, RepOs K F H H0 vs os fp → vs.length = os.length
  | _, _, _, .nil => rfl
  | _, _, _, .cons _ t => by rw [List.length_cons, List.length_cons, RepOs.length t]
theorem RepOs.append {K : PySem.W.Frag} {F H H0 : Hp} : ∀ {vs ws : List V} {os us : List O} {f1 f2 : List Addr}, RepOs K F H H0 vs os f1 → RepOs K F H H0 ws us f2 → RepOs K F H H0 (vs ++ ws) (os ++ us) (f1 ++ f2)
  | _, _, _, _, _, _, .nil, h => h
  | _, _, _, _, _, _, .cons a t, h => by
    rw [List.append_assoc]
    exact .cons a (RepOs.append t h)
theorem RepO.one {K : PySem.W.Frag} {F H H0 : Hp} {v : V} {o : O} {f : List Addr} (h : RepO K F H H0 v o f) : RepOs K F H H0 [v] [o] f := by
  have q := RepOs.cons h (RepOs.nil (K := K) (F := F) (H := H) (H0 := H0))
  rw [List.append_nil] at q
  exact q
/-- a store to an own list: all else stays -/
theorem own_store (s : Step C.A C.F0 C.H0 F H) {p : Addr} (hF : F p = none) (h0 : C.H0 p = none) (hH : H p ≠ none) {o : HO} : Step C.A C.F0 C.H0 F (upd H p o) := by
  have np : ∀ a, C.H0 a ≠ none → a ≠ p := fun a ha z => ha (by rw [z]; exact h0)
  refine ⟨fun a u b e => ?_, s.ex, s.new, ⟨fun a u e => ?_, C.A.loc H _ (fun a b => upd_ne (np a (C.ok0.box a b).2)) s.ok.inv, fun a b => ?_⟩⟩
  · rw [upd_ne (np a (by rw [e]; exact fun z => by cases z))]
    exact s.keep a u b e
  · have q : a ≠ p := fun z => by rw [z, hF] at e; cases e
    rw [upd_ne q]
    exact s.ok.sub a u e
  · rw [upd_ne (np a (C.ok0.box a b).2)]
    exact s.ok.box a b
theorem up_keep {p : Addr} {o : HO} {fp : List Addr} (h : p ∉ fp) : ∀ a ∈ fp, ∀ u, H a = some u → upd H p o a = some u := fun a ha u e => by
  have q : a ≠ p := fun z => h (by rw [← z]; exact ha)
  rw [upd_ne q]
  exact e
/-- the value on top goes to the end of the own list below it -/
theorem ENV.snoc {D : Addr} {os : List O} {o : O} (I : ENV C F1 env (pend ++ [(.ref D, .own (.lst os))] ++ [(z, r)]) σ F H) (h : r.tree = some o) :
    ∃ vs, H D = some (.lst vs) ∧ vs.length = os.length ∧ ENV C F1 env (pend ++ [(.ref D, .own (.lst (os ++ [o])))]) σ F (upd H D (.lst (vs ++ [z]))) := by
  obtain ⟨fe, fq, nd, s1, s2⟩ := I.slots
  rw [pE_append, pS_append, pE_append, pS_append] at s2
  obtain ⟨f1, f2, rfl, a, b⟩ := Slots.split (by rw [List.length_append, List.length_append, pES, pES [_]]) s2
  obtain ⟨g1, g2, rfl, a1, a2⟩ := Slots.split (pES pend) a
  have hz : ∃ f, f2 = f ∧ RepO C.K F H C.H0 z o f := by
    cases b with
    | un t => cases h
    | v r t =>
      cases h
      cases t
      exact ⟨[], rfl, .leaf r⟩
    | @own _ _ q1 q2 _ _ ro t =>
      cases h
      cases t
      exact ⟨q1, by rw [List.append_nil], ro⟩
  obtain ⟨f, rfl, ro⟩ := hz
  cases a2 with
  | @own _ _ q1 q2 _ _ rl t =>
    cases t
    cases rl with
    | @lst _ vs _ k1 hH hF h0 rs =>
      rw [List.append_nil] at nd
      -- D is apart from all else
      have nd2 := nd
      rw [List.nodup_append] at nd2
      obtain ⟨n1, n2, n3⟩ := nd2
      rw [List.nodup_append] at n1
      obtain ⟨m1, m2, m3⟩ := n1
      rw [List.nodup_append] at m1
      obtain ⟨l1, l2, l3⟩ := m1
      rw [List.nodup_cons] at l2
      have d1 : D ∉ g1 := fun q => l3 D q D (List.mem_cons_self ..) rfl
      have d2 : D ∉ f2 := fun q => m3 D (List.mem_append_right _ (List.mem_cons_self ..)) D q rfl
      have d3 : D ∉ fe := fun q => n3 D (List.mem_append_left _ (List.mem_append_right _ (List.mem_cons_self ..))) D q rfl
      refine ⟨vs, hH, rs.length, own_store I.step hF h0 (by rw [hH]; exact fun z => by cases z), I.low, fe, g1 ++ (D :: (k1 ++ f2)), ?_, s1.mono (Ex.refl _) (up_keep d3) (fun _ _ e => e) (fun _ _ e => e), ?_⟩
      · have e : g1 ++ D :: (k1 ++ f2) = (g1 ++ D :: k1) ++ f2 := by simp
        rw [e]
        exact nd
      · rw [pE_append, pS_append]
        have w := RepO.lst (K := C.K) (F := F) (H := upd H D (.lst (vs ++ [z]))) (H0 := C.H0) upd_same hF h0 (RepOs.append (rs.mono (Ex.refl _) (up_keep l2.1) (fun _ _ e => e) (fun _ _ e => e)) (RepO.one (ro.mono (Ex.refl _) (up_keep d2) (fun _ _ e => e) (fun _ _ e => e))))
        have w2 := Slots.append (a1.mono (Ex.refl F) (up_keep d1) (fun _ _ e => e) (fun _ _ e => e)) (Slots.own w .nil)
        rw [List.append_nil] at w2
        exact w2

/-! ### comprehensions -/
def wipeE (e : Env) : List Nat → Env
  | [] => e
  | v :: vs => (wipeE e vs).set v .un
theorem Slots.setU {K : PySem.W.Frag} {H0 : Hp} {o : Option V} : ∀ {env : Env} {σ : St} {fp : List Addr} {i : Nat}, Slots K F H H0 env σ fp → ∃ fp', fp'.Sublist fp ∧ Slots K F H H0 (env.set i .un) (σ.set i o) fp'
  | _, _, _, i, .nil => ⟨[], .slnil, by simp; exact .nil⟩
  | _, _, _, 0, .un t => ⟨_, List.Sublist.refl _, .un t⟩
  | _, _, _, 0, .v _ t => ⟨_, List.Sublist.refl _, .un t⟩
  | _, _, _, 0, .own (f2 := f2) _ t => ⟨f2, List.sublist_append_right _ _, .un t⟩
  | _, _, _, i + 1, .un t => by
    obtain ⟨f, a, b⟩ := Slots.setU (i := i) (o := o) t
    exact ⟨f, a, .un b⟩
  | _, _, _, i + 1, .v q t => by
    obtain ⟨f, a, b⟩ := Slots.setU (i := i) (o := o) t
    exact ⟨f, a, .v q b⟩
  | _, _, _, i + 1, .own (f1 := f1) q t => by
    obtain ⟨f, a, b⟩ := Slots.setU (i := i) (o := o) t
    exact ⟨f1 ++ f, List.Sublist.append (List.Sublist.refl _) a, .own q b⟩
theorem ENV.wipe (I : ENV C F1 env pend σ F H) : ∀ vs : List Nat, ENV C F1 (wipeE env vs) pend (L2.wipe σ vs) F H
  | [] => I
  | v :: vs => by
    obtain ⟨fe, fq, nd, s1, s2⟩ := (ENV.wipe I vs).slots
    obtain ⟨f, a, b⟩ := s1.setU (i := v) (o := none)
    exact ⟨I.step, I.low, f, fq, (List.Sublist.append (List.Sublist.refl _) a).nodup nd, b, s2⟩
def SD.plain : SD → Bool
  | .own _ => false
  | _ => true
theorem Slots.merge {K : PySem.W.Frag} {H0 : Hp} (ex : Ex F F2) : ∀ {e e1 : Env} {s s1 : St} {f0 f : List Addr}, Slots K F H H0 e s f0 → Slots K F2 H2 H0 e1 s1 f → e.length = e1.length →
    (∀ (i : Nat) (a : SD), e[i]? = some a → a.plain = true ∨ (e1[i]? = some a ∧ s1[i]? = s[i]?)) → ∃ f', f'.Sublist f ∧ Slots K F2 H2 H0 e s f'
  | _, _, _, _, _, f, .nil, t, hl, _ => ⟨[], List.nil_sublist _, .nil⟩
  | _, [], _, _, _, f, .un a, t, hl, _ => by cases hl
  | _, [], _, _, _, f, .v r a, t, hl, _ => by cases hl
  | _, [], _, _, _, f, .own r a, t, hl, _ => by cases hl
  | _, y :: e1, _, s1, _, f, .un a, t, hl, k => by
    have step : ∃ o s2 f2, s1 = o :: s2 ∧ f2.Sublist f ∧ Slots K F2 H2 H0 e1 s2 f2 := by
      cases t with
      | un t => exact ⟨_, _, _, rfl, List.Sublist.refl _, t⟩
      | v r t => exact ⟨_, _, _, rfl, List.Sublist.refl _, t⟩
      | own r t => exact ⟨_, _, _, rfl, List.sublist_append_right _ _, t⟩
    obtain ⟨o, s2, f2, rfl, hf, t⟩ := step
    obtain ⟨f', p, q⟩ := Slots.merge ex a t (Nat.succ.inj hl) fun i b h => k (i + 1) b h
    exact ⟨f', p.trans hf, .un q⟩
  | _, y :: e1, _, s1, _, f, .v r a, t, hl, k => by
    have step : ∃ o s2 f2, s1 = o :: s2 ∧ f2.Sublist f ∧ Slots K F2 H2 H0 e1 s2 f2 := by
      cases t with
      | un t => exact ⟨_, _, _, rfl, List.Sublist.refl _, t⟩
      | v r t => exact ⟨_, _, _, rfl, List.Sublist.refl _, t⟩
      | own r t => exact ⟨_, _, _, rfl, List.sublist_append_right _ _, t⟩
    obtain ⟨o, s2, f2, rfl, hf, t⟩ := step
    obtain ⟨f', p, q⟩ := Slots.merge ex a t (Nat.succ.inj hl) fun i b h => k (i + 1) b h
    exact ⟨f', p.trans hf, .v (r.up ex) q⟩
  | _, y :: e1, _, s1, _, f, .own (σ := s0) (v := v0) (o := o0) r a, t, hl, k => by
    rcases k 0 (.own o0) rfl with h | ⟨h, hs⟩
    · cases h
    · have e : y = .own o0 := Option.some.inj h
      subst e
      cases t with
      | @own _ s2 g1 g2 u _ r2 t =>
        have eu : u = v0 := by
          have q : some (some u) = some (some v0) := hs
          cases q; rfl
        subst eu
        obtain ⟨f', p, q⟩ := Slots.merge ex a t (Nat.succ.inj hl) fun i b h => k (i + 1) b h
        exact ⟨g1 ++ f', List.Sublist.append (List.Sublist.refl _) p, .own r2 q⟩
theorem wipeE_length {e : Env} : ∀ vs : List Nat, (wipeE e vs).length = e.length
  | [] => rfl
  | v :: vs => by
    show ((wipeE e vs).set v .un).length = e.length
    rw [List.length_set, wipeE_length vs]
theorem wipeE_out {e : Env} {i : Nat} : ∀ {vs : List Nat}, i ∉ vs → (wipeE e vs)[i]? = e[i]?
  | [], _ => rfl
  | v :: vs, h => by
    show ((wipeE e vs).set v .un)[i]? = e[i]?
    rw [List.getElem?_set_ne (fun z => h (by rw [z]; exact List.mem_cons_self ..)), wipeE_out fun z => h (List.mem_cons_of_mem _ z)]
theorem wipe_eq_out {σ σ2 : St} {vs : List Nat} (h : L2.wipe σ2 vs = L2.wipe σ vs) {i : Nat} (hi : i ∉ vs) : σ2[i]? = σ[i]? := by
  rw [← L2.wipe_out (σ := σ2) hi, h, L2.wipe_out hi]
/-- out of a comprehension's block -/
theorem ENV.unwipe {vs : List Nat} (I : ENV C F1 env pend σ F H) (J : ENV C F e1 ps σ' F2 H2) (hp : ∀ i ∈ vs, ∀ a, env[i]? = some a → a.plain = true) (hl : e1.length = env.length) (he : ∀ i, i ∉ vs → e1[i]? = env[i]?) (hs : L2.wipe σ' vs = L2.wipe σ vs) : ENV C F env ps σ F2 H2 := by
  obtain ⟨fe, fq, nd, s1, s2⟩ := J.slots
  obtain ⟨ge, gq, _, t1, _⟩ := I.slots
  obtain ⟨f', p, q⟩ := t1.merge J.low s1 hl.symm fun i a h => by
    by_cases hi : i ∈ vs
    · exact Or.inl (hp i hi a h)
    · exact Or.inr ⟨by rw [he i hi]; exact h, wipe_eq_out hs hi⟩
  exact ⟨J.step, J.low, f', fq, (List.Sublist.append (List.Sublist.refl _) p).nodup nd, q, s2⟩
def lcL (mg : SV → Env → (Env → Prop) → Prop) (mt : MT) (me : MX) (e0 : Env) (E : XP) (K : List O → Prop) : List SV → List O → Prop
  | [], acc => K acc
  | x :: xs, acc => mg x e0 fun e1 => mt e1 E fun b e2 => e2 = e1 ∧ if b = true then me e1 E fun r e3 => e3 = e1 ∧ ∃ o, r.tree = some o ∧ lcL mg mt me e0 E K xs (acc ++ [o]) else lcL mg mt me e0 E K xs acc
/-- what a target of a comprehension does to the slots: only those in vs -/
def GOut (mg : SV → Env → (Env → Prop) → Prop) (vs : List Nat) : Prop := ∀ x e (Q : Env → Prop), mg x e Q → mg x e fun e' => Q e' ∧ e'.length = e.length ∧ ∀ i, i ∉ vs → e'[i]? = e[i]?
def plains (e : Env) (vs : List Nat) : Bool := vs.all fun i => match e[i]? with
  | some a => a.plain
  | none => true
def mLc (mi : MI) (mg : SV → Env → (Env → Prop) → Prop) (mt : MT) (me : MX) (vs : List Nat) : MX := fun env E Q => mi env E fun xs e => xs.length ≤ BIG ∧ plains e vs = true ∧ lcL mg mt me (wipeE e vs) E (fun os => Q (.own (.lst os)) e) xs []
theorem em_lc {wi : TI} {g : TG} {ts : List Nat} {tt : TT} {te : TE} {vs : List Nat} {mi : MI} {mg : SV → Env → (Env → Prop) → Prop} {mt : MT} {me : MX} (hi : EI C wi mi) (hg : GM C g ts mg) (ht : ET C tt mt) (he : EM C te me) (hts : ∀ i ∈ ts, i ∈ vs) (ho : GOut mg vs) :
    EM C (tLc wi g tt te vs) (mLc mi mg mt me vs) := fun F1 env pend σ F H Qd Q I hm k =>
  hi F1 env pend σ F H _ _ I hm fun xs e F' H' J ⟨hb, hp, q⟩ I' it => by
    intro D hD
    have hp' : ∀ i ∈ vs, ∀ a, e[i]? = some a → a.plain = true := fun i hiv a ha => by
      have z := List.all_eq_true.mp hp i hiv
      rw [ha] at z
      exact z
    have fD : F' D = none := by
      cases q : F' D with
      | none => rfl
      | some u => rw [I'.ok.sub D u q] at hD; cases hD
    have J0 := I'.push (z := .ref D) (r := .own (.lst [])) (F' := F') (H' := upd H' D (.lst [])) ⟨Step.fresh I'.ok hD, [D], by simp, .lst upd_same fD hD .nil⟩
    refine ⟨fun i m H2 => m = xs.length - i ∧ i ≤ xs.length ∧ ∃ F2 acc, ENV C F' e (pend ++ [(.ref D, .own (.lst acc))]) σ F2 H2 ∧ acc.length ≤ i ∧ lcL mg mt me (wipeE e vs) C.Ed (fun os => Qd (.own (.lst os)) e) (xs.drop i) acc, ⟨xs.length, rfl, Nat.zero_le _, F', [], J0.raise, Nat.le_refl _, q⟩, ?_⟩
    rintro i m H2 ⟨rfl, hi, F2, acc, I2, hacc, q2⟩
    obtain ⟨go, stop⟩ := it F2 H2 I2.low I2.ok i
    cases hx : xs[i]? with
    | none =>
      have hl : xs.length ≤ i := List.getElem?_eq_none_iff.mp hx
      rw [List.drop_eq_nil_of_le hl] at q2
      exact Or.inl ⟨stop (Nat.le_antisymm hi hl), k _ e _ F2 H2 q2 (I2.lower I'.low)⟩
    | some x =>
      obtain ⟨hlt, ex⟩ := List.getElem?_eq_some_iff.mp hx
      obtain ⟨g1, yl⟩ := go x hx
      rw [List.drop_eq_getElem_cons hlt, ex] at q2
      let Nx : Hp → Prop := fun H3 => ∃ F3 acc, ENV C F' e (pend ++ [(.ref D, .own (.lst acc))]) σ F3 H3 ∧ acc.length ≤ i + 1 ∧ lcL mg mt me (wipeE e vs) C.Ed (fun os => Qd (.own (.lst os)) e) (xs.drop (i + 1)) acc
      refine Or.inr ⟨g1, Nx, fun H3 ⟨F3, acc3, I3, ha3, q3⟩ => ⟨xs.length - (i + 1), by omega, rfl, hlt, F3, acc3, I3, ha3, q3⟩, fun v H3 y => ?_⟩
      obtain ⟨F3, s3, r3⟩ := yl v H3 y
      have I3 := I2.go s3
      have I3w := I3.raise.wipe vs
      refine hg F3 (wipeE e vs) _ (L2.wipe σ vs) F3 H3 v x _ _ I3w r3 (ho _ _ _ q2) fun e4 σ4 ⟨q4, hl4, ho4⟩ I4 hw4 => ?_
      have hw : L2.wipe σ4 vs = L2.wipe σ vs := by
        rw [hw4 vs hts]
        exact wipe_idem fun i h => h
      refine ⟨hw, ?_⟩
      -- back to the outer slots
      have back : ∀ {F5 H5 : Hp} {ps : List (V × SD)}, ENV C F3 e4 ps σ4 F5 H5 → ENV C F' e ps σ F5 H5 := fun J5 => by
        have u := ENV.unwipe (vs := vs) I3.raise J5 hp' (by rw [hl4, wipeE_length]) (fun i hiv => by rw [ho4 i hiv, wipeE_out hiv]) hw
        exact u.lower (I2.low.trans s3.ex)
      refine ht F3 e4 _ σ4 F3 H3 _ _ I4 q4 fun b e5 F5 H5 ⟨ee, q5⟩ I5 => ?_
      subst ee
      cases b with
      | false => exact (if_neg Bool.false_ne_true).mpr ⟨F5, acc, back I5, Nat.le_succ_of_le hacc, q5⟩
      | true =>
        refine (if_pos rfl).mpr ?_
        refine he F3 e5 _ σ4 F5 H5 _ _ I5 q5 fun r e6 z F6 H6 ⟨ee, o, ho6, q6⟩ I6 => ?_
        subst ee
        obtain ⟨ws, hw6, hl6, I7⟩ := I6.snoc ho6
        refine ⟨ws, hw6, ?_, F6, acc ++ [o], back I7, ?_, q6⟩
        · have : ws.length ≤ BIG := by omega
          exact big_lt this
        · rw [List.length_append, List.length_singleton]
          omega
theorem go_name {i : Nat} {vs : List Nat} (h : i ∈ vs) : GOut (gmName i) vs := fun x e Q q => ⟨q, List.length_set, fun j hj => List.getElem?_set_ne fun z => hj (by rw [← z]; exact h)⟩
end DL

namespace DL
open PySem L2
variable {K : PySem.W.Frag} {A : Amb} {X : Cx} {C : Ctx} {F H : Hp}
abbrev SVi (i : Int) : SV := .d (.int i)
abbrev SVb (b : Bool) : SV := .d (.bool b)
def leafs (ds : List PyData) : List O := ds.map fun d => .leaf (.d d)
theorem ok_none (k : Ok A F H) {p : Addr} (h : H p = none) : F p = none := by
  cases q : F p with
  | none => rfl
  | some u => rw [k.sub p u q] at h; cases h
theorem res_same {z : V} {x : SV} (k : Ok A F H) (r : RepV K F z x) : Res K A F H z (.v x) F H := ⟨Step.refl k, r⟩
theorem res_tup {p : Addr} {vs : List V} {ds : List PyData} (k : Ok A F H) (h : H p = none) (r : DqAll K F vs ds) : Res K A F H (.ref p) (.v (.d (.tuple ds))) (upd F p (.tup vs)) (upd H p (.tup vs)) :=
  ⟨Step.alloc k h, .tup (Or.inl (Or.inl upd_same)) (r.up (Ex.new (ok_none k h)))⟩
theorem DqAll.leaves {G H0 : Hp} : ∀ {vs : List V} {ds : List PyData}, DqAll K F vs ds → RepOs K F G H0 vs (leafs ds) []
  | _, _, .nil => .nil
  | _, _, .cons (d := d) h t => by
    have q := RepOs.cons (K := K) (F := F) (H := G) (H0 := H0) (RepO.leaf (x := .d d) h) (DqAll.leaves t)
    exact q
theorem res_lst {p : Addr} {vs : List V} {ds : List PyData} (k : Ok A F H) (h : H p = none) (r : DqAll K F vs ds) : Res K A F H (.ref p) (.own (.lst (leafs ds))) F (upd H p (.lst vs)) :=
  ⟨Step.fresh k h, [p], by simp, .lst upd_same (ok_none k h) h r.leaves⟩

/-! ### +, -, *, //, %, ** -/
def rAddA (K : PySem.W.Frag) : R2 := fun x y H Q => (rI0 fun i j => .int (i + j)) x y H Q ∨ ((∃ i j, x = .str i ∧ y = .str j ∧ i.length + j.length ≤ sizeLine ∧ Q (.str (i ++ j)) H) ∨ (rCat x y H Q ∨ rCatA K x y H Q))
theorem op_addA : OpR X (binaryOp .Add) (rAddA X.K) := OpR.or op_add (OpR.or op_add_str (OpR.or op_cat op_catA))
def fAdd : SV → SV → (SD → Prop) → Prop
  | .d (.int i), .d (.int j), Q => Q (.v (SVi (i + j)))
  | .d (.str a), .d (.str b), Q => a.length + b.length ≤ BIG ∧ Q (.v (.d (.str (a ++ b))))
  | .d (.list a), .d (.list b), Q => a.length + b.length ≤ BIG ∧ Q (.own (.lst (leafs (a ++ b))))
  | .d (.tuple a), .d (.tuple b), Q => a.length + b.length ≤ BIG ∧ Q (.v (.d (.tuple (a ++ b))))
  | _, _, _ => False
theorem fr_addA : FR K A (rAddA K) fAdd := fun F H x y dx dy Qd Q ok rx ry f k => by
  unfold fAdd at f
  split at f
  · cases rx
    cases ry
    exact Or.inl ⟨_, _, rfl, rfl, k _ _ F H f (res_same ok (.int _))⟩
  · cases rx
    cases ry
    exact Or.inr (Or.inl ⟨_, _, rfl, rfl, big_size f.1, k _ _ F H f.2 (res_same ok (.str _))⟩)
  · cases rx with
    | lst h1 r1 =>
      cases ry with
      | lst h2 r2 =>
        exact Or.inr (Or.inr (Or.inl ⟨_, _, _, _, rfl, rfl, ok.sub _ _ h1, ok.sub _ _ h2, big_size (by rw [r1.length, r2.length]; exact f.1), fun p hp => k _ _ _ _ f.2 (res_lst ok hp (r1.append r2))⟩))
  · cases rx with
    | @tup a xs es h1 r1 =>
      cases ry with
      | @tup b ys gs h2 r2 =>
        refine Or.inr (Or.inr (Or.inr ⟨_, _, _, _, rfl, rfl, ex_t ok.sub h1, ex_t ok.sub h2, big_size (by rw [r1.length, r2.length]; exact f.1), fun e => ?_, fun _ e => ?_, fun _ _ p hp => k _ _ _ _ f.2 (res_tup ok hp (r1.append r2))⟩))
        · subst e
          cases r1
          exact k _ _ F H f.2 (res_same ok (.tup h2 r2))
        · subst e
          cases r2
          refine k _ _ F H f.2 (res_same ok ?_)
          rw [List.append_nil]
          exact .tup h1 r1
  · exact f.elim
/-- ints -/
def fI0 (g : Int → Int → Int) : SV → SV → (SD → Prop) → Prop
  | .d (.int i), .d (.int j), Q => Q (.v (SVi (g i j)))
  | _, _, _ => False
theorem fr_I0 {g : Int → Int → Int} : FR K A (rI0 fun i j => .int (g i j)) (fI0 g) := fun F H x y dx dy Qd Q ok rx ry f k => by
  unfold fI0 at f
  split at f
  · cases rx
    cases ry
    exact ⟨_, _, rfl, rfl, k _ _ F H f (res_same ok (.int _))⟩
  · exact f.elim
def fIC (c : Int → Int → Prop) (g : Int → Int → Int) : SV → SV → (SD → Prop) → Prop
  | .d (.int i), .d (.int j), Q => c i j ∧ Q (.v (SVi (g i j)))
  | _, _, _ => False
theorem fr_IC {c : Int → Int → Prop} {g : Int → Int → Int} : FR K A (rI c fun i j => .int (g i j)) (fIC c g) := fun F H x y dx dy Qd Q ok rx ry f k => by
  unfold fIC at f
  split at f
  · cases rx
    cases ry
    exact ⟨_, _, rfl, rfl, f.1, k _ _ F H f.2 (res_same ok (.int _))⟩
  · exact f.elim
def fIb (g : Int → Int → Bool) : SV → SV → (SD → Prop) → Prop
  | .d (.int i), .d (.int j), Q => Q (.v (SVb (g i j)))
  | _, _, _ => False
theorem fr_Ib {g : Int → Int → Bool} : FR K A (rI0 fun i j => .bl (g i j)) (fIb g) := fun F H x y dx dy Qd Q ok rx ry f k => by
  unfold fIb at f
  split at f
  · cases rx
    cases ry
    exact ⟨_, _, rfl, rfl, k _ _ F H f (res_same ok (.bl _))⟩
  · exact f.elim
abbrev fSub := fI0 (· - ·)
abbrev fMod := fIC (fun _ j => 0 < j) (· % ·)
abbrev fDiv := fIC CDivW (· / ·)
abbrev fPow := fIC CPow fun i j => i ^ j.toNat
abbrev fLt := fIb fun i j => decide (i < j)
abbrev fLe := fIb fun i j => decide (i ≤ j)
abbrev fGt := fIb fun i j => decide (j < i)
abbrev fGe := fIb fun i j => decide (j ≤ i)
def rMulA (K : PySem.W.Frag) : R2 := fun x y H Q => (rI CMulW fun i j => .int (i * j)) x y H Q ∨ (rRep x y H Q ∨ rRepT K x y H Q)
theorem op_mulA : OpR X (binaryOp .Mult) (rMulA X.K) := OpR.or op_mulW (OpR.or op_rep op_repT)
def fMul : SV → SV → (SD → Prop) → Prop
  | .d (.int i), .d (.int j), Q => CMulW i j ∧ Q (.v (SVi (i * j)))
  | .d (.list a), .d (.int k), Q => k < 2 ^ 62 ∧ -(2 ^ 62) < k ∧ a.length * k.toNat ≤ BIG ∧ Q (.own (.lst (leafs (List.replicate k.toNat a).flatten)))
  | .d (.tuple a), .d (.int k), Q => a ≠ [] ∧ 2 ≤ k ∧ k ≤ 1000 ∧ a.length ≤ 1000 ∧ Q (.v (.d (.tuple (List.replicate k.toNat a).flatten)))
  | _, _, _ => False
theorem DqAll.rep {vs : List V} {ds : List PyData} (r : DqAll K F vs ds) : ∀ n : Nat, DqAll K F (List.replicate n vs).flatten (List.replicate n ds).flatten
  | 0 => .nil
  | n + 1 => by
    rw [List.replicate_succ, List.replicate_succ, List.flatten_cons, List.flatten_cons]
    exact r.append (DqAll.rep r n)
theorem fr_mulA : FR K A (rMulA K) fMul := fun F H x y dx dy Qd Q ok rx ry f k => by
  unfold fMul at f
  split at f
  · cases rx
    cases ry
    exact Or.inl ⟨_, _, rfl, rfl, f.1, k _ _ F H f.2 (res_same ok (.int _))⟩
  · cases rx with
    | lst h1 r1 =>
      cases ry
      obtain ⟨f1, f2, f3, f4⟩ := f
      refine Or.inr (Or.inl ⟨_, _, _, rfl, rfl, ok.sub _ _ h1, ?_, ?_, big_size (by rw [r1.length]; exact f3), fun p hp => k _ _ _ _ f4 (res_lst ok hp (r1.rep _))⟩)
      · exact Int.le_of_lt (Int.lt_trans (by decide) f2)
      · exact Int.lt_trans f1 (by decide)
  · cases rx with
    | tup h1 r1 =>
      cases ry
      obtain ⟨f1, f2, f3, f4, f5⟩ := f
      refine Or.inr (Or.inr ⟨_, _, _, rfl, rfl, ex_t ok.sub h1, fun e => ?_, f2, f3, by rw [r1.length]; exact f4, fun p hp => k _ _ _ _ f5 (res_tup ok hp (r1.rep _))⟩)
      subst e
      cases r1
      exact f1 rfl
  · exact f.elim
/-! ### ==, !=, in, is None -/
def fEq : SV → SV → (SD → Prop) → Prop
  | .d a, .d b, Q => SeqAt.shaped a = true ∧ SeqAt.shaped b = true ∧ Q (.v (SVb (PyData.eqv a b)))
  | _, _, _ => False
theorem fr_eqD : FR K A (rEqD K) fEq := fun F H x y dx dy Qd Q ok rx ry f k => by
  unfold fEq at f
  split at f
  · obtain ⟨h1, h2, q⟩ := f
    exact ⟨_, _, (Dq.up ok.sub rx).dp (SeqAt.canLay_of_shaped h1), (Dq.up ok.sub ry).dp (SeqAt.canLay_of_shaped h2), h1, h2, k _ _ F H q (res_same ok (.bl _))⟩
  · exact f.elim
def fNe : SV → SV → (SD → Prop) → Prop
  | .d a, .d b, Q => SeqAt.shaped a = true ∧ SeqAt.shaped b = true ∧ Q (.v (SVb (!PyData.eqv a b)))
  | _, _, _ => False
theorem fr_neD : FR K A (rNeD K) fNe := fun F H x y dx dy Qd Q ok rx ry f k => by
  unfold fNe at f
  split at f
  · obtain ⟨h1, h2, q⟩ := f
    exact ⟨_, _, (Dq.up ok.sub rx).dp (SeqAt.canLay_of_shaped h1), (Dq.up ok.sub ry).dp (SeqAt.canLay_of_shaped h2), h1, h2, k _ _ F H q (res_same ok (.bl _))⟩
  · exact f.elim
def isNoneD : PyData → Bool
  | .none => true
  | _ => false
def fIsN : SV → SV → (SD → Prop) → Prop
  | .d a, .d .none, Q => Q (.v (SVb (isNoneD a)))
  | _, _, _ => False
theorem isNone_V {v : V} {a : PyData} (r : Dq K F v a) : decide (v = .non) = isNoneD a := by
  cases r <;> rfl
theorem fr_isN : FR K A (fun x y H Q => y = .non ∧ Q (.bl (decide (x = .non))) H) fIsN := fun F H x y dx dy Qd Q ok rx ry f k => by
  unfold fIsN at f
  split at f
  · cases ry
    rw [isNone_V rx]
    exact ⟨rfl, k _ _ F H f (res_same ok (.bl _))⟩
  · exact f.elim
def fNotN : SV → SV → (SD → Prop) → Prop
  | .d a, .d .none, Q => Q (.v (SVb (!isNoneD a)))
  | _, _, _ => False
theorem fr_notN : FR K A (fun x y H Q => y = .non ∧ Q (.bl (!decide (x = .non))) H) fNotN := fun F H x y dx dy Qd Q ok rx ry f k => by
  unfold fNotN at f
  split at f
  · cases ry
    rw [isNone_V rx]
    exact ⟨rfl, k _ _ F H f (res_same ok (.bl _))⟩
  · exact f.elim
def flatD : PyData → Bool
  | .none => true
  | .bool _ => true
  | .int _ => true
  | .str _ => true
  | _ => false
theorem flat_V {v : V} {a : PyData} (r : Dq K F v a) (h : flatD a = true) : flatV v = true := by
  cases r <;> first | rfl | cases h
theorem eq_V {v w : V} {a b : PyData} (r : Dq K F v a) (s : Dq K F w b) (h : flatD a = true) (g : flatD b = true) : eqV v w = PyData.eqv a b := by
  cases r <;> cases s <;> first | rfl | cases h | cases g | skip
  all_goals simp [eqV, PyData.eqv]
theorem in_V {v : V} {a : PyData} (r : Dq K F v a) (h : flatD a = true) : ∀ {vs : List V} {ds : List PyData}, DqAll K F vs ds → ds.all flatD = true → inV v vs = ds.any fun z => PyData.eqv z a
  | _, _, .nil, _ => rfl
  | _, _, .cons (d := d) (ds := ds) q t, g => by
    rw [List.all_cons, Bool.and_eq_true] at g
    have ih := in_V r h t g.2
    unfold inV at ih ⊢
    rw [List.any_cons, List.any_cons, ih, eq_V q r g.1 h]
theorem flats_V : ∀ {vs : List V} {ds : List PyData}, DqAll K F vs ds → ds.all flatD = true → vs.all flatV = true
  | _, _, .nil, _ => rfl
  | _, _, .cons q t, g => by
    rw [List.all_cons, Bool.and_eq_true] at g
    rw [List.all_cons, flat_V q g.1, flats_V t g.2]
    rfl
def fIn (neg : Bool) : SV → SV → (SD → Prop) → Prop
  | .d a, .d c, Q => ∃ ds, items c = some ds ∧ flatD a = true ∧ ds.all flatD = true ∧ Q (.v (SVb (if neg then !ds.any fun z => PyData.eqv z a else ds.any fun z => PyData.eqv z a)))
  | _, _, _ => False
theorem fr_in {neg : Bool} : FR K A (rIn K neg) (fIn neg) := fun F H x y dx dy Qd Q ok rx ry f k => by
  unfold fIn at f
  split at f
  · obtain ⟨ds, h1, h2, h3, q⟩ := f
    cases ry with
    | lst hs r =>
      cases h1
      refine ⟨_, _, rfl, Or.inl (Or.inl (Or.inl (ok.sub _ _ hs))), flat_V rx h2, flats_V r h3, ?_⟩
      rw [in_V rx h2 r h3]
      exact k _ _ F H q (res_same ok (.bl _))
    | tup hs r =>
      cases h1
      refine ⟨_, _, rfl, Or.inr (ex_t ok.sub hs), flat_V rx h2, flats_V r h3, ?_⟩
      rw [in_V rx h2 r h3]
      exact k _ _ F H q (res_same ok (.bl _))
    | non => cases h1
    | bl _ => cases h1
    | int _ => cases h1
    | str _ => cases h1
    | dct0 _ => cases h1
  · exact f.elim
/-! ### x[i] -/
def fIx : SV → SV → (SD → Prop) → Prop
  | .d (.list ds), .d (.int j), Q => ∃ d, atI ds j = some d ∧ Q (.v (.d d))
  | .d (.tuple ds), .d (.int j), Q => ∃ d, atI ds j = some d ∧ Q (.v (.d d))
  | .d (.str z), .d (.int j), Q => z.length ≤ BIG ∧ ∃ c, atI z.cps.toList j = some c ∧ Q (.v (.d (.str ⟨#[c]⟩)))
  | _, _, _ => False
theorem atI_V {vs : List V} {ds : List PyData} {j : Int} {d : PyData} (r : DqAll K F vs ds) (h : atI ds j = some d) : ∃ v, atI vs j = some v ∧ Dq K F v d := by
  unfold atI at h ⊢
  rw [r.length]
  cases q : ixN ds.length j with
  | none => rw [q] at h; cases h
  | some i =>
    rw [q] at h
    exact r.get (i := i) h
theorem fr_ix : FR K A (rIx K) fIx := fun F H x y dx dy Qd Q ok rx ry f k => by
  unfold fIx at f
  split at f
  · obtain ⟨d, h, q⟩ := f
    cases ry
    cases rx with
    | lst hs r =>
      obtain ⟨v, hv, rv⟩ := atI_V r h
      exact Or.inl ⟨_, _, _, v, rfl, rfl, Or.inl (Or.inl (ok.sub _ _ hs)), hv, k _ _ F H q (res_same ok rv)⟩
  · obtain ⟨d, h, q⟩ := f
    cases ry
    cases rx with
    | tup hs r =>
      obtain ⟨v, hv, rv⟩ := atI_V r h
      exact Or.inr (Or.inl ⟨_, _, _, v, rfl, rfl, ex_t ok.sub hs, hv, k _ _ F H q (res_same ok rv)⟩)
  · obtain ⟨hz, c, h, q⟩ := f
    cases rx
    cases ry
    exact Or.inr (Or.inr ⟨_, _, c, rfl, rfl, big_size hz, h, k _ _ F H q (res_same ok (.str _))⟩)
  · exact f.elim
/-! ### built-in functions -/
def fLen : List SV → (SD → Prop) → Prop
  | [.d (.list ds)], Q => Q (.v (SVi ds.length))
  | [.d (.tuple ds)], Q => Q (.v (SVi ds.length))
  | [.d (.str z)], Q => z.length ≤ BIG ∧ Q (.v (SVi z.length))
  | _, _ => False
theorem fc_len : FC K A (fun xs H Q => ∃ x n, xs = [x] ∧ LenV K x H n ∧ Q (.int n) H) fLen := fun F H vs xs Qd Q ok r f k => by
  unfold fLen at f
  split at f
  · cases r with
    | cons r1 r2 =>
      cases r2
      cases r1 with
      | lst hs ra => exact ⟨_, _, rfl, Or.inl ⟨_, Or.inl (Or.inl (ok.sub _ _ hs)), ra.length.symm⟩, k _ _ F H f (res_same ok (.int _))⟩
  · cases r with
    | cons r1 r2 =>
      cases r2
      cases r1 with
      | tup hs ra => exact ⟨_, _, rfl, Or.inr ⟨_, ex_t ok.sub hs, ra.length.symm⟩, k _ _ F H f (res_same ok (.int _))⟩
  · cases r with
    | cons r1 r2 =>
      cases r2
      cases r1
      exact ⟨_, _, rfl, ⟨big_size f.1, rfl⟩, k _ _ F H f.2 (res_same ok (.int _))⟩
  · exact f.elim
def fList : List SV → (SD → Prop) → Prop
  | [.d d], Q => ∃ ds, items d = some ds ∧ Q (.own (.lst (leafs ds)))
  | _, _ => False
theorem fc_list : FC K A (fun xs H Q => ∃ p ys, xs = [.ref p] ∧ (SqL K H p ys ∨ SqT K H p ys) ∧ ∀ l, H l = none → Q (.ref l) (upd H l (.lst ys))) fList := fun F H vs xs Qd Q ok r f k => by
  unfold fList at f
  split at f
  · obtain ⟨ds, h, q⟩ := f
    cases r with
    | cons r1 r2 =>
      cases r2
      cases r1 with
      | lst hs ra =>
        cases h
        exact ⟨_, _, rfl, Or.inl (Or.inl (Or.inl (ok.sub _ _ hs))), fun l hl => k _ _ _ _ q (res_lst ok hl ra)⟩
      | tup hs ra =>
        cases h
        exact ⟨_, _, rfl, Or.inr (ex_t ok.sub hs), fun l hl => k _ _ _ _ q (res_lst ok hl ra)⟩
      | non => cases h
      | bl _ => cases h
      | int _ => cases h
      | str _ => cases h
      | dct0 _ => cases h
  · exact f.elim
def fTuple : List SV → (SD → Prop) → Prop
  | [.d d], Q => ∃ ds, items d = some ds ∧ Q (.v (.d (.tuple ds)))
  | _, _ => False
theorem fc_tuple : FC K A (fun xs H Q => ∃ p ys, xs = [.ref p] ∧ ((SqL K H p ys ∧ ∀ l, H l = none → Q (.ref l) (upd H l (.tup ys))) ∨ (SqT K H p ys ∧ Q (.ref p) H))) fTuple := fun F H vs xs Qd Q ok r f k => by
  unfold fTuple at f
  split at f
  · obtain ⟨ds, h, q⟩ := f
    cases r with
    | cons r1 r2 =>
      cases r2
      cases r1 with
      | lst hs ra =>
        cases h
        exact ⟨_, _, rfl, Or.inl ⟨Or.inl (Or.inl (ok.sub _ _ hs)), fun l hl => k _ _ _ _ q (res_tup ok hl ra)⟩⟩
      | tup hs ra =>
        cases h
        exact ⟨_, _, rfl, Or.inr ⟨ex_t ok.sub hs, k _ _ F H q (res_same ok (.tup hs ra))⟩⟩
      | non => cases h
      | bl _ => cases h
      | int _ => cases h
      | str _ => cases h
      | dct0 _ => cases h
  · exact f.elim
def fAbs : List SV → (SD → Prop) → Prop
  | [.d (.int i)], Q => Q (.v (SVi (if i < 0 then -i else i)))
  | _, _ => False
theorem fc_abs : FC K A (fun xs H Q => ∃ i, xs = [.int i] ∧ Q (.int (if i < 0 then -i else i)) H) fAbs := fun F H vs xs Qd Q ok r f k => by
  unfold fAbs at f
  split at f
  · cases r with
    | cons r1 r2 =>
      cases r2
      cases r1
      exact ⟨_, rfl, k _ _ F H f (res_same ok (.int _))⟩
  · exact f.elim
def fInt : List SV → (SD → Prop) → Prop
  | [.d (.int i)], Q => Q (.v (SVi i))
  | [.d (.bool b)], Q => Q (.v (SVi (if b then 1 else 0)))
  | _, _ => False
theorem fc_int : FC K A (fun xs H Q => (∃ i, xs = [.int i] ∧ Q (.int i) H) ∨ ∃ k, xs = [.bl k] ∧ Q (.int (if k then 1 else 0)) H) fInt := fun F H vs xs Qd Q ok r f k => by
  unfold fInt at f
  split at f
  · cases r with
    | cons r1 r2 =>
      cases r2
      cases r1
      exact Or.inl ⟨_, rfl, k _ _ F H f (res_same ok (.int _))⟩
  · cases r with
    | cons r1 r2 =>
      cases r2
      cases r1
      exact Or.inr ⟨_, rfl, k _ _ F H f (res_same ok (.int _))⟩
  · exact f.elim
def fStr : List SV → (SD → Prop) → Prop
  | [.d (.int i)], Q => i.natAbs.log2 < 1920 ∧ Q (.v (.d (.str (toString i))))
  | _, _ => False
theorem fc_str : FC K A (fun xs H Q => ∃ i, xs = [.int i] ∧ i.natAbs.log2 < 1920 ∧ Q (.str (toString i)) H) fStr := fun F H vs xs Qd Q ok r f k => by
  unfold fStr at f
  split at f
  · cases r with
    | cons r1 r2 =>
      cases r2
      cases r1
      exact ⟨_, rfl, f.1, k _ _ F H f.2 (res_same ok (.str _))⟩
  · exact f.elim
def boolsOf : List PyData → Option (List Bool)
  | [] => some []
  | .bool b :: ds => (boolsOf ds).map (b :: ·)
  | _ :: _ => none
theorem boolsOf_eq : ∀ {ds : List PyData} {bs : List Bool}, boolsOf ds = some bs → ds = bs.map PyData.bool
  | [], bs, h => by cases h; rfl
  | d :: ds, bs, h => by
    unfold boolsOf at h
    split at h
    · rename_i q; cases q
    · rename_i b es q
      cases q
      cases w : boolsOf ds with
      | none => rw [w] at h; cases h
      | some cs =>
        rw [w] at h
        cases h
        rw [boolsOf_eq w]
        rfl
    · cases h
def fAll : List SV → (SD → Prop) → Prop
  | [.d (.list ds)], Q => ∃ bs, boolsOf ds = some bs ∧ Q (.v (SVb (bs.all id)))
  | _, _ => False
theorem fc_all : FC K A (rAll K) fAll := fun F H vs xs Qd Q ok r f k => by
  unfold fAll at f
  split at f
  · obtain ⟨bs, h, q⟩ := f
    cases r with
    | cons r1 r2 =>
      cases r2
      cases r1 with
      | lst hs ra =>
        rw [boolsOf_eq h] at ra
        rw [ra.bools] at hs
        exact ⟨_, bs, rfl, Or.inl (Or.inl (ok.sub _ _ hs)), k _ _ F H q (res_same ok (.bl _))⟩
  · exact f.elim
def fAny : List SV → (SD → Prop) → Prop
  | [.d (.list ds)], Q => ∃ bs, boolsOf ds = some bs ∧ Q (.v (SVb (bs.any id)))
  | _, _ => False
theorem fc_any : FC K A (rAny K) fAny := fun F H vs xs Qd Q ok r f k => by
  unfold fAny at f
  split at f
  · obtain ⟨bs, h, q⟩ := f
    cases r with
    | cons r1 r2 =>
      cases r2
      cases r1 with
      | lst hs ra =>
        rw [boolsOf_eq h] at ra
        rw [ra.bools] at hs
        exact ⟨_, bs, rfl, Or.inl (Or.inl (ok.sub _ _ hs)), k _ _ F H q (res_same ok (.bl _))⟩
  · exact f.elim
def intsOf : List PyData → Option (List Int)
  | [] => some []
  | .int b :: ds => (intsOf ds).map (b :: ·)
  | _ :: _ => none
theorem intsOf_eq : ∀ {ds : List PyData} {bs : List Int}, intsOf ds = some bs → ds = bs.map PyData.int
  | [], bs, h => by cases h; rfl
  | d :: ds, bs, h => by
    unfold intsOf at h
    split at h
    · rename_i q; cases q
    · rename_i b es q
      cases q
      cases w : intsOf ds with
      | none => rw [w] at h; cases h
      | some cs =>
        rw [w] at h
        cases h
        rw [intsOf_eq w]
        rfl
    · cases h
theorem intsOf_map : ∀ ns : List Int, intsOf (ns.map PyData.int) = some ns
  | [] => rfl
  | n :: ns => by
    show (intsOf (ns.map PyData.int)).map (n :: ·) = some (n :: ns)
    rw [intsOf_map ns]
    rfl
theorem boolsOf_map : ∀ ns : List Bool, boolsOf (ns.map PyData.bool) = some ns
  | [] => rfl
  | n :: ns => by
    show (boolsOf (ns.map PyData.bool)).map (n :: ·) = some (n :: ns)
    rw [boolsOf_map ns]
    rfl
end DL

namespace DL
open PySem L2
variable {K : PySem.W.Frag} {A : Amb} {X : Cx} {C : Ctx} {F1 F H H' : Hp} {env : Env} {σ : St} {pend : List (V × SD)} {z : V} {r : SD} {x : SV}
/-! ### one own slot, the others apart -/
theorem Slots.focus {H0 : Hp} : ∀ {env : Env} {σ : St} {fp : List Addr} {i : Nat} {o : O}, Slots K F H H0 env σ fp → env[i]? = some (.own o) →
    ∃ v g rest, σ[i]? = some (some v) ∧ RepO K F H H0 v o g ∧ fp.Perm (g ++ rest) ∧ ∀ H' o' g', RepO K F H' H0 v o' g' → (∀ a ∈ rest, ∀ u, H a = some u → H' a = some u) → ∃ fp', Slots K F H' H0 (env.set i (.own o')) σ fp' ∧ fp'.Perm (g' ++ rest)
  | _, _, _, i, o, .nil, h => by simp at h
  | _, _, _, 0, o, .un t, h => by cases h
  | _, _, _, 0, o, .v _ t, h => by cases h
  | _, _, _, 0, o, .own (f1 := f1) (f2 := f2) r t, h => by
    cases h
    exact ⟨_, f1, f2, rfl, r, List.Perm.refl _, fun H' o' g' r' k => ⟨g' ++ f2, .own r' (t.mono (Ex.refl _) k (fun _ _ e => e) (fun _ _ e => e)), List.Perm.refl _⟩⟩
  | _, _, _, i + 1, o, .un t, h => by
    obtain ⟨v, g, rest, a, b, c, d⟩ := Slots.focus (i := i) t h
    refine ⟨v, g, rest, a, b, c, fun H' o' g' r' k => ?_⟩
    obtain ⟨f, p, q⟩ := d H' o' g' r' k
    exact ⟨f, .un p, q⟩
  | _, _, _, i + 1, o, .v r t, h => by
    obtain ⟨v, g, rest, a, b, c, d⟩ := Slots.focus (i := i) t h
    refine ⟨v, g, rest, a, b, c, fun H' o' g' r' k => ?_⟩
    obtain ⟨f, p, q⟩ := d H' o' g' r' k
    exact ⟨f, .v r p, q⟩
  | _, _, _, i + 1, o, .own (f1 := f1) r t, h => by
    obtain ⟨v, g, rest, a, b, c, d⟩ := Slots.focus (i := i) t h
    have pm : ∀ l : List Addr, (f1 ++ (l ++ rest)).Perm (l ++ (f1 ++ rest)) := fun l => by
      rw [← List.append_assoc, ← List.append_assoc]
      exact List.Perm.append_right _ List.perm_append_comm
    refine ⟨v, g, f1 ++ rest, a, b, (c.append_left f1).trans (pm g), fun H' o' g' r' k => ?_⟩
    obtain ⟨f, p, q⟩ := d H' o' g' r' fun a ha => k a (List.mem_append_right _ ha)
    exact ⟨f1 ++ f, .own (r.mono (Ex.refl _) (fun a ha => k a (List.mem_append_left _ ha)) (fun _ _ e => e) (fun _ _ e => e)) p, (q.append_left f1).trans (pm g')⟩
theorem ENV.ownAt (I : ENV C F1 env pend σ F H) {i : Nat} {os : List O} (h : env[i]? = some (.own (.lst os))) : ∃ p vs, σ[i]? = some (some (.ref p)) ∧ H p = some (.lst vs) ∧ vs.length = os.length := by
  obtain ⟨fe, fq, nd, s1, s2⟩ := I.slots
  obtain ⟨v, g, rest, a, b, _, _⟩ := s1.focus h
  cases b with
  | lst hH _ _ rs => exact ⟨_, _, a, hH, rs.length⟩
/-- an own slot's list is changed; what stands in it now may take what is on top -/
theorem ENV.change {os : List O} {ps : List (V × SD)} {i : Nat} (I : ENV C F1 env (pend ++ ps) σ F H) (h : env[i]? = some (.own (.lst os))) :
    ∃ p vs g f, σ[i]? = some (some (.ref p)) ∧ H p = some (.lst vs) ∧ RepOs C.K F H C.H0 vs os g ∧ Slots C.K F H C.H0 (pE ps) (pS ps) f ∧ (g ++ f).Nodup ∧
      ∀ vs' os' g', RepOs C.K F H C.H0 vs' os' g' → g'.Nodup → (∀ a ∈ g', a ∈ g ++ f) → ENV C F1 (env.set i (.own (.lst os'))) pend σ F (upd H p (.lst vs')) := by
  obtain ⟨fe, fq, nd, s1, s2⟩ := I.slots
  rw [pE_append, pS_append] at s2
  obtain ⟨f1, f2, rfl, a, b⟩ := Slots.split (pES pend) s2
  obtain ⟨v, g, rest, hv, ro, pm, re⟩ := s1.focus h
  cases ro with
  | @lst p vs _ g0 hH hF h0 rs =>
    -- all places apart
    have nd2 : (f1 ++ f2 ++ (p :: g0 ++ rest)).Nodup := (pm.append_left _).nodup_iff.mp nd
    rw [List.nodup_append] at nd2
    obtain ⟨n1, n2, n3⟩ := nd2
    rw [List.nodup_append] at n1
    obtain ⟨m1, m2, m3⟩ := n1
    rw [List.cons_append, List.nodup_cons] at n2
    obtain ⟨n4, n5⟩ := n2
    rw [List.nodup_append] at n5
    obtain ⟨n6, n7, n8⟩ := n5
    have gf : (g0 ++ f2).Nodup := List.nodup_append.mpr ⟨n6, m2, fun x hx y hy e => by
      subst e
      exact n3 x (List.mem_append_right _ hy) x (List.mem_cons_of_mem _ (List.mem_append_left _ hx)) rfl⟩
    refine ⟨p, vs, g0, f2, hv, hH, rs, b, gf, fun vs' os' g' rs' nd' sub => ?_⟩
    have pg : p ∉ g' := fun q => by
      rcases List.mem_append.mp (sub p q) with w | w
      · exact n4 (List.mem_append_left _ w)
      · exact n3 p (List.mem_append_right _ w) p (List.mem_cons_self ..) rfl
    have pr : p ∉ rest := fun q => n4 (List.mem_append_right _ q)
    have pf : p ∉ f1 := fun q => n3 p (List.mem_append_left _ q) p (List.mem_cons_self ..) rfl
    obtain ⟨fp', s3, pm3⟩ := re (upd H p (.lst vs')) (.lst os') (p :: g') (.lst upd_same hF h0 (rs'.mono (Ex.refl _) (up_keep pg) (fun _ _ e => e) (fun _ _ e => e))) (up_keep pr)
    refine ⟨own_store I.step hF h0 (by rw [hH]; exact fun z => by cases z), I.low, fp', f1, ?_, s3, a.mono (Ex.refl _) (up_keep pf) (fun _ _ e => e) (fun _ _ e => e)⟩
    refine (pm3.append_left f1).nodup_iff.mpr (List.nodup_append.mpr ⟨m1, ?_, fun x hx y hy e => ?_⟩)
    · rw [List.cons_append, List.nodup_cons]
      refine ⟨fun q => (List.mem_append.mp q).elim pg pr, List.nodup_append.mpr ⟨nd', n7, fun x hx y hy e => ?_⟩⟩
      subst e
      rcases List.mem_append.mp (sub x hx) with w | w
      · exact n8 x w x hy rfl
      · exact n3 x (List.mem_append_right _ w) x (List.mem_cons_of_mem _ (List.mem_append_right _ hy)) rfl
    · subst e
      rw [List.cons_append] at hy
      cases hy with
      | head => exact pf hx
      | tail _ hy =>
        rcases List.mem_append.mp hy with w | w
        · rcases List.mem_append.mp (sub x w) with u | u
          · exact n3 x (List.mem_append_left _ hx) x (List.mem_cons_of_mem _ (List.mem_append_left _ u)) rfl
          · exact m3 x hx x u rfl
        · exact n3 x (List.mem_append_left _ hx) x (List.mem_cons_of_mem _ (List.mem_append_right _ w)) rfl
theorem top_tree {H0 : Hp} {v : V} {f : List Addr} {o : O} (s : Slots K F H H0 (pE [(v, r)]) (pS [(v, r)]) f) (h : r.tree = some o) : RepO K F H H0 v o f := by
  cases s with
  | un t => cases h
  | v r t => cases h; cases t; exact .leaf r
  | own ro t => cases h; cases t; rw [List.append_nil]; exact ro
/-- the items of an all-leaf list -/
theorem leaves_dq {H0 : Hp} : ∀ {vs : List V} {ds : List PyData} {f : List Addr}, RepOs K F H H0 vs (leafs ds) f → DqAll K F vs ds ∧ f = []
  | [], ds, f, h => by
    cases ds with
    | nil => cases h; exact ⟨.nil, rfl⟩
    | cons d ds => cases h
  | v :: vs, ds, f, h => by
    cases ds with
    | nil => cases h
    | cons d ds =>
      have h : RepOs K F H H0 (v :: vs) (.leaf (.d d) :: leafs ds) f := h
      cases h with
      | cons r t =>
        cases r with
        | leaf r =>
          obtain ⟨a, b⟩ := leaves_dq t
          subst b
          exact ⟨.cons r a, rfl⟩
theorem dat_leafs : ∀ ds : List PyData, Os.dat (leafs ds) = some ds
  | [] => rfl
  | d :: ds => by
    show (match O.dat (.leaf (.d d)), Os.dat (leafs ds) with | some d, some ds => some (d :: ds) | _, _ => none) = some (d :: ds)
    rw [dat_leafs ds]
    rfl
theorem dat_lst (ds : List PyData) : O.dat (.lst (leafs ds)) = some (.list ds) := by
  show (Os.dat (leafs ds)).map PyData.list = some (.list ds)
  rw [dat_leafs ds]
  rfl
/-- xs.append(e) -/
def sApp (i : Nat) (m : MX) : MS := fun env E P => ∃ os, env[i]? = some (.own (.lst os)) ∧ m env E fun r e => e[i]? = some (.own (.lst os)) ∧ os.length < BIG ∧ ∃ o, r.tree = some o ∧ P.nx (e.set i (.own (.lst (os ++ [o]))))
theorem sm_app {te : TE} {m : MX} {i : Nat} (h : EM C te m) : SM C (tDrop (tBM C.K "list" rAppend (tVar i) (tCons te tNil))) (sApp i m) := fun F1 env σ F H P De I ⟨os, hi, hm⟩ k => by
  obtain ⟨p, vs, hp, hH, hl⟩ := I.ownAt hi
  refine ⟨.ref p, hp, Or.inl ⟨rfl, vs, Or.inl (Or.inl hH)⟩, ?_⟩
  refine h F1 env [] σ F H _ _ I hm fun r e v F' H' ⟨hi', hb, o, ho, q⟩ J => ?_
  obtain ⟨p', ws, g, f, hp', hH', rs, st, nd, done⟩ := ENV.change (pend := []) (ps := [(v, r)]) J hi'
  have ep : p' = p := by rw [hp] at hp'; cases hp'; rfl
  subst ep
  exact ⟨p', ws, v, rfl, rfl, hH', big_lt (by rw [rs.length]; exact Nat.le_of_lt hb), k.nx _ _ _ _ (done _ _ _ (rs.append (RepO.one (top_tree st ho))) nd fun _ h => h) q⟩
/-- xs.insert(j, e), xs of told items -/
def sIns (i : Nat) (ms : MA) : MS := fun env E P => ∃ ds, env[i]? = some (.own (.lst (leafs ds))) ∧ ms env E fun xs e => e[i]? = some (.own (.lst (leafs ds))) ∧ ds.length < BIG ∧ ∃ j d, xs = [SVi j, .d d] ∧ 0 ≤ j ∧ j < 2 ^ 62 ∧ P.nx (e.set i (.own (.lst (leafs (ds.take j.toNat ++ [d] ++ ds.drop j.toNat)))))
theorem sm_ins {ta : TA} {ms : MA} {i : Nat} (h : EA C ta ms) : SM C (tDrop (tBM C.K "list" (fun x vs H Q => ∃ (l : Addr) (xs : List V) (i : Int) (y : V), x = .ref l ∧ vs = [.int i, y] ∧ H l = some (.lst xs) ∧ xs.length < sizeLine ∧ 0 ≤ i ∧ i < 2 ^ 63 ∧ Q .non (upd H l (.lst (xs.take i.toNat ++ [y] ++ xs.drop i.toNat)))) (tVar i) ta)) (sIns i ms) := fun F1 env σ F H P De I ⟨ds, hi, hm⟩ k => by
  obtain ⟨p, vs, hp, hH, hl⟩ := I.ownAt hi
  refine ⟨.ref p, hp, Or.inl ⟨rfl, vs, Or.inl (Or.inl hH)⟩, ?_⟩
  refine h F1 env [] σ F H _ _ I hm fun xs e us F' H' ⟨hi', hb, j, d, ex, j0, j1, q⟩ hl J => ?_
  have ra := J.args hl
  have J0 := J.pops
  obtain ⟨p', ws, g, f, hp', hH', rs, st, nd, done⟩ := ENV.change (pend := []) (ps := []) J0 hi'
  have ep : p' = p := by rw [hp] at hp'; cases hp'; rfl
  subst ep
  subst ex
  obtain ⟨rq, eg⟩ := leaves_dq rs
  subst eg
  cases ra with
  | cons r1 r2 =>
    cases r2 with
    | @cons w _ _ _ r2 r3 =>
      cases r3
      cases r1
      refine ⟨p', ws, j, w, rfl, rfl, hH', big_lt (by rw [rq.length]; exact Nat.le_of_lt hb), j0, Int.lt_trans j1 (by decide), k.nx _ _ _ _ (done _ _ [] (DqAll.leaves (((rq.take j.toNat).append (.cons r2 .nil)).append (rq.drop j.toNat))) List.nodup_nil fun _ h => by cases h) q⟩
/-- xs[j] = e, xs of told items -/
def sPut (i : Nat) (m mj : MX) : MS := fun env E P => m env E fun r e => ∃ d, r.frz = some (.d d) ∧ (∃ os, e[i]? = some (.own (.lst os))) ∧ mj e E fun r2 e2 => ∃ j ds n, r2.frz = some (SVi j) ∧ e2[i]? = some (.own (.lst (leafs ds))) ∧ ixN ds.length j = some n ∧ P.nx (e2.set i (.own (.lst (leafs (ds.set n d)))))
theorem DqAll.set {v : V} {d : PyData} (r : Dq K F v d) : ∀ {vs : List V} {ds : List PyData} {n : Nat}, DqAll K F vs ds → DqAll K F (vs.set n v) (ds.set n d)
  | _, _, _, .nil => .nil
  | _, _, 0, .cons _ t => .cons r t
  | _, _, n + 1, .cons a t => .cons a (DqAll.set r t)
theorem sm_put {te tj : TE} {m mj : MX} {i : Nat} (h : EM C te m) (hj : EM C tj mj) : SM C (tAsg te (gSub (tVar i) tj rSetL)) (sPut i m mj) := fun F1 env σ F H P De I hm k => by
  refine h.val F1 env [] σ F H (fun x e => ∃ d, x = .d d ∧ (∃ os, e[i]? = some (.own (.lst os))) ∧ mj e C.Ed fun r2 e2 => ∃ j ds n, r2.frz = some (SVi j) ∧ e2[i]? = some (.own (.lst (leafs ds))) ∧ ixN ds.length j = some n ∧ P.nx (e2.set i (.own (.lst (leafs (ds.set n d)))))) _ I ?_ fun x e v F' H' ⟨d, ex, ⟨os, ho⟩, q⟩ J => ?_
  · refine cast ?_ hm
    unfold sPut
    congr 1
    funext r e
    apply propext
    constructor
    · rintro ⟨d, a, b⟩
      exact ⟨_, a, d, rfl, b⟩
    · rintro ⟨x, a, d, rfl, b⟩
      exact ⟨d, a, b⟩
  subst ex
  -- the list is there already: its slot holds a reference
  have sref : ∀ {e2 : Env} {F2 H2 : Hp} {ps : List (V × SD)} {os : List O}, ENV C F1 e2 ps σ F2 H2 → e2[i]? = some (.own (.lst os)) → ∃ p, σ[i]? = some (some (.ref p)) := fun J2 h2 => by
    obtain ⟨p, _, hp, _⟩ := J2.ownAt h2
    exact ⟨p, hp⟩
  obtain ⟨p, hp⟩ := sref J ho
  refine ⟨.ref p, hp, ?_⟩
  refine hj.val F1 e _ σ F' H' (fun x2 e2 => ∃ j ds n, x2 = SVi j ∧ e2[i]? = some (.own (.lst (leafs ds))) ∧ ixN ds.length j = some n ∧ P.nx (e2.set i (.own (.lst (leafs (ds.set n d)))))) _ J ?_ fun x2 e2 w F2 H2 ⟨j, ds, n, ex2, hi2, hn, q2⟩ J2 => ?_
  · refine cast ?_ q
    congr 1
    funext r e
    apply propext
    constructor
    · rintro ⟨j, ds, n, a, b⟩
      exact ⟨_, a, j, ds, n, rfl, b⟩
    · rintro ⟨x, a, j, ds, n, rfl, b⟩
      exact ⟨j, ds, n, a, b⟩
  subst ex2
  have rw2 := J2.topV
  have rv2 := J2.pop.topV
  have J3 : ENV C F1 e2 ([] ++ []) σ F2 H2 := ENV.pop (pend := []) J2.pop
  obtain ⟨p', ws, g, f, hp', hH', rs, st, nd, done⟩ := ENV.change (pend := []) (ps := []) J3 hi2
  have ep : p' = p := by rw [hp] at hp'; cases hp'; rfl
  subst ep
  obtain ⟨rq, eg⟩ := leaves_dq rs
  subst eg
  cases rw2
  exact ⟨p', ws, j, n, rfl, rfl, hH', by rw [rq.length]; exact hn, k.nx _ _ _ _ (done _ _ [] (DqAll.leaves (rq.set rv2)) List.nodup_nil fun _ h => by cases h) q2⟩
end DL

namespace DL
open PySem L2
variable {K : PySem.W.Frag} {A : Amb} {X : Cx} {C : Ctx} {F1 F H H' : Hp} {env : Env} {σ : St} {pend : List (V × SD)} {z : V} {r : SD} {x : SV}
/-! ### slices -/
abbrev MP := Env → XP → (Option Int → Env → Prop) → Prop
def EP (C : Ctx) (to : TO) (m : MP) : Prop := ∀ F1 env pend σ F H (Qd : Option Int → Env → Prop) (Q : Option Int → Hp → Prop), ENV C F1 env pend σ F H → m env C.Ed Qd →
  (∀ o env' F' H', Qd o env' → ENV C F1 env' pend σ F' H' → Q o H') → to σ H Q
def pNo : MP := fun env _ Q => Q none env
theorem ep_no : EP C tNoPart pNo := fun F1 env pend σ F H Qd Q I m k => k none env F H m I
def pSome (m : MX) : MP := fun env E Q => m env E fun r e => ∃ i, r.frz = some (SVi i) ∧ Q (some i) e
theorem ep_some {te : TE} {m : MX} (h : EM C te m) : EP C (tPart te) (pSome m) := fun F1 env pend σ F H Qd Q I hm k =>
  h F1 env pend σ F H _ _ I hm fun r e v F' H' ⟨i, er, q⟩ J => by
    obtain ⟨F2, _, J2⟩ := J.frzTop er
    have t := J2.topV
    cases t
    exact ⟨i, rfl, k _ e F2 H' q J2.pop⟩
def cutD {α : Type} (xs : List α) (lo hi : Option Int) : List α := (xs.drop (HT.sIx xs.length 0 lo)).take (HT.sIx xs.length xs.length hi - HT.sIx xs.length 0 lo)
def fSl (x : SV) (lo hi : Option Int) (Q : SD → Prop) : Prop := match x with
  | .d (.list ds) => Q (.own (.lst (leafs (cutD ds lo hi))))
  | .d (.tuple ds) => Q (.v (.d (.tuple (cutD ds lo hi))))
  | .d (.str z) => z.length ≤ BIG ∧ Q (.v (.d (.str (cutS z lo hi))))
  | _ => False
def rSlAll (K : PySem.W.Frag) : V → Option Int → Option Int → Hp → VK → Prop := fun x lo hi H Q => rSlL K x lo hi H Q ∨ (rSlA K x lo hi H Q ∨ rSlS x lo hi H Q)
theorem sl_all : SlR X (rSlAll X.K) := SlR.or sl_list (SlR.or sl_tupA sl_str)
theorem cut_dq {vs : List V} {ds : List PyData} {lo hi : Option Int} (r : DqAll K F vs ds) : DqAll K F (cutV vs lo hi) (cutD ds lo hi) := by
  unfold cutV cutD
  rw [r.length]
  exact (r.drop _).take _
def mSl (m : MX) (l h : MP) : MX := fun env E Q => m env E fun r1 e1 => ∃ x, r1.frz = some x ∧ l e1 E fun lo e2 => h e2 E fun hi e3 => fSl x lo hi fun r => Q r e3
theorem em_sl {te : TE} {tl th : TO} {m : MX} {ml mh : MP} (h : EM C te m) (hl : EP C tl ml) (hh : EP C th mh) : EM C (tSl (rSlAll C.K) te tl th) (mSl m ml mh) := fun F1 env pend σ F H Qd Q I hm k =>
  h.val F1 env pend σ F H _ _ I hm fun x e v F1' H1 m1 J => hl F1 e _ σ F1' H1 _ _ J m1 fun lo e2 F2 H2 m2 J2 => hh F1 e2 _ σ F2 H2 _ _ J2 m2 fun hi e3 F3 H3 m3 J3 => by
    have rx := J3.topV
    have J4 := J3.pop
    unfold fSl at m3
    split at m3
    · cases rx with
      | lst hs ra => exact Or.inl ⟨_, _, rfl, Or.inl (Or.inl (J4.ok.sub _ _ hs)), fun p hp => k _ e3 _ _ _ m3 (J4.push (res_lst J4.ok hp (cut_dq ra)))⟩
    · rename_i ds
      cases rx with
      | @tup a vs _ hs ra =>
        refine Or.inr (Or.inl ⟨_, _, rfl, ex_t J4.ok.sub hs, fun e => ?_, fun _ p hp => k _ e3 _ _ _ m3 (J4.push (res_tup J4.ok hp (cut_dq ra)))⟩)
        have ec : cutD ds lo hi = ds := by
          unfold cutD
          rw [← ra.length, e.1, e.2, List.drop_zero, Nat.sub_zero, ra.length, List.take_length]
        rw [ec] at m3
        exact k _ e3 _ _ _ m3 (J4.push (res_same J4.ok (.tup hs ra)))
    · cases rx
      exact Or.inr (Or.inr ⟨_, rfl, big_size m3.1, k _ e3 _ _ _ m3.2 (J4.push (res_same J4.ok (.str _)))⟩)
    · exact m3.elim
/-- xs[::-1] of a list -/
def fRev : SV → (SD → Prop) → Prop
  | .d (.list ds), Q => Q (.own (.lst (leafs ds.reverse)))
  | _, _ => False
theorem em_rev {te : TE} {m : MX} (h : EM C te m) : EM C (tRevL C.K te) (mUn fRev m) := fun F1 env pend σ F H Qd Q I hm k =>
  h.val F1 env pend σ F H _ _ I hm fun x e v F1' H1 m1 J => by
    have rx := J.topV
    unfold fRev at m1
    split at m1
    · cases rx with
      | lst hs ra => exact ⟨_, _, rfl, Or.inl (Or.inl (J.ok.sub _ _ hs)), fun p hp => k _ e _ _ _ m1 (J.pop.push (res_lst J.ok hp ra.reverse))⟩
    · exact m1.elim
/-! ### sorted, isinstance, list(range) -/
def fSorted : List SV → (SD → Prop) → Prop
  | [.d (.list ds)], Q => ∃ ns, intsOf ds = some ns ∧ ∀ ns' : List Int, ns'.Perm ns → ns'.Pairwise (· ≤ ·) → Q (.own (.lst (leafs (ns'.map PyData.int))))
  | _, _ => False
theorem fc_sorted : FC K A (rSortedI K) fSorted := fun F H vs xs Qd Q ok r f k => by
  unfold fSorted at f
  split at f
  · obtain ⟨ns, h, q⟩ := f
    cases r with
    | cons r1 r2 =>
      cases r2
      cases r1 with
      | lst hs ra =>
        rw [intsOf_eq h] at ra
        rw [ra.ints] at hs
        exact ⟨_, ns, rfl, Or.inl (Or.inl (ok.sub _ _ hs)), fun ns' p h1 h2 hp => k _ _ _ _ (q ns' h1 h2) (res_lst ok hp (DqAll.ofInts ns'))⟩
  · exact f.elim
def tyD : PyData → String
  | .none => "NoneType"
  | .bool _ => "bool"
  | .int _ => "int"
  | .str _ => "str"
  | .list _ => "list"
  | .tuple _ => "tuple"
  | .dict _ => "dict"
theorem ty_X {v : V} {d : PyData} (ok : Ok A F H) (r : Dq K F v d) : TyX K H v (.type (tyD d)) := by
  cases r with
  | non => exact .base .non
  | bl b => exact .base (.bl b)
  | int i => exact .base (.int i)
  | str z => exact .base (.str z)
  | lst hs _ => exact .base (.lst (ok.sub _ _ hs))
  | tup hs _ =>
    rcases ex_t ok.sub hs with (h | ⟨o, h⟩) | ⟨o, its, n, h, hc, _⟩
    · exact .base (.tup h)
    · exact .fTuple h
    · exact .kTuple h hc
  | dct0 h => exact .base (.dK (ok.sub _ _ h))
def fIsi : List SV → (SD → Prop) → Prop
  | [.d d, .r (.ty T)], Q => ∃ b, kitB (tyD d) T = some b ∧ Q (.v (SVb b))
  | _, _ => False
theorem fc_isi : FC K A (rIsi K) fIsi := fun F H vs xs Qd Q ok r f k => by
  unfold fIsi at f
  split at f
  · obtain ⟨b, h, q⟩ := f
    cases r with
    | cons r1 r2 =>
      cases r2 with
      | cons r2 r3 =>
        cases r3
        have e := r2
        cases e
        exact ⟨_, _, _, _, b, rfl, .ty _, ty_X ok r1, kit_ty h, k _ _ F H q (res_same ok (.bl _))⟩
  · exact f.elim
def isTup : PyData → Bool
  | .tuple _ => true
  | _ => false
def isIntB : PyData → Bool
  | .int _ => true
  | .bool _ => true
  | _ => false
def isBool : PyData → Bool
  | .bool _ => true
  | _ => false
def isStrD : PyData → Bool
  | .str _ => true
  | _ => false
theorem kit_tup (d : PyData) : kitB (tyD d) "tuple" = some (isTup d) := by
  cases d <;> (simp only [tyD, isTup]; decide +kernel)
theorem kit_int (d : PyData) : kitB (tyD d) "int" = some (isIntB d) := by
  cases d <;> (simp only [tyD, isIntB]; decide +kernel)
theorem kit_bool (d : PyData) : kitB (tyD d) "bool" = some (isBool d) := by
  cases d <;> (simp only [tyD, isBool]; decide +kernel)
theorem kit_str (d : PyData) : kitB (tyD d) "str" = some (isStrD d) := by
  cases d <;> (simp only [tyD, isStrD]; decide +kernel)
theorem rgV_dq (a b : Int) : DqAll K F (rgV a b) ((List.range (b - a).toNat).map fun i => PyData.int (a + (i : Nat))) := by
  unfold rgV
  generalize (List.range (b - a).toNat) = l
  induction l with
  | nil => exact .nil
  | cons i l ih => exact .cons (.int _) ih
def rngD (a b : Int) : List PyData := (List.range (b - a).toNat).map fun i => PyData.int (a + (i : Nat))
def mLstRg1 (m : MX) : MX := fun env E Q => m env E fun r e => ∃ n, r.frz = some (SVi n) ∧ -(2 ^ 62) ≤ n ∧ n ≤ BIG ∧ Q (.own (.lst (leafs (rngD 0 n)))) e
theorem em_lstRg1 {te : TE} {m : MX} (h : EM C te m) : EM C (tLstRg (tRg1 te)) (mLstRg1 m) := fun F1 env pend σ F H Qd Q I hm k =>
  h F1 env pend σ F H _ _ I hm fun r e v F1' H1 ⟨n, er, n0, n1, q⟩ J => by
    obtain ⟨F2, _, J2⟩ := J.frzTop er
    have t := J2.topV
    cases t
    have n2 : n ≤ 1000000 := n1
    exact ⟨n, rfl, ⟨by decide, by decide, n0, by omega, by omega⟩, fun p hp => k _ e _ _ _ q (J2.pop.push (res_lst J2.ok hp (rgV_dq 0 n)))⟩
/-! ### xs.pop(j), xs.pop() of told items, as values -/
def mPopAt (i : Nat) (m : MX) : MX := fun env E Q => ∃ ds, env[i]? = some (.own (.lst (leafs ds))) ∧ m env E fun r e => e[i]? = some (.own (.lst (leafs ds))) ∧ ∃ j d, r.frz = some (SVi j) ∧ 0 ≤ j ∧ j < 2 ^ 62 ∧ ds[j.toNat]? = some d ∧ Q (.v (.d d)) (e.set i (.own (.lst (leafs (ds.eraseIdx j.toNat)))))
theorem DqAll.erase : ∀ {vs : List V} {ds : List PyData} (n : Nat), DqAll K F vs ds → DqAll K F (vs.eraseIdx n) (ds.eraseIdx n)
  | _, _, _, .nil => .nil
  | _, _, 0, .cons _ t => t
  | _, _, n + 1, .cons a t => .cons a (DqAll.erase n t)
theorem em_popAt {te : TE} {m : MX} {i : Nat} (h : EM C te m) : EM C (tBM C.K "list" rPopAt (tVar i) (tCons te tNil)) (mPopAt i m) := fun F1 env pend σ F H Qd Q I ⟨ds, hi, hm⟩ k => by
  obtain ⟨p, vs, hp, hH, hl⟩ := I.ownAt hi
  refine ⟨.ref p, hp, Or.inl ⟨rfl, vs, Or.inl (Or.inl hH)⟩, ?_⟩
  refine h F1 env pend σ F H _ _ I hm fun r e v F' H' ⟨hi', j, d, er, j0, j1, hd, q⟩ J => ?_
  obtain ⟨F2, _, J2⟩ := J.frzTop er
  have t := J2.topV
  cases t
  have J3 : ENV C F1 e (pend ++ []) σ F2 H' := by rw [List.append_nil]; exact J2.pop
  obtain ⟨p', ws, g, f, hp', hH', rs, st, nd, done⟩ := ENV.change (pend := pend) (ps := []) J3 hi'
  have ep : p' = p := by rw [hp] at hp'; cases hp'; rfl
  subst ep
  obtain ⟨rq, eg⟩ := leaves_dq rs
  subst eg
  obtain ⟨y, hy, ry⟩ := rq.get hd
  obtain ⟨hlt, _⟩ := List.getElem?_eq_some_iff.mp hy
  have hs : seqIndex? j ws.length = some j.toNat := by
    have w := (ixN_seq (n := ws.length) (i := j) (j := j.toNat) (by unfold ixN; rw [if_pos j0, if_pos (by omega)])).1
    exact w
  refine ⟨p', ws, j, j.toNat, y, rfl, rfl, hH', by omega, Int.lt_trans j1 (by decide), hs, hy, ?_⟩
  have J4 := done _ _ [] (DqAll.leaves (rq.erase j.toNat)) List.nodup_nil fun _ h => by cases h
  exact k _ _ y _ _ q (J4.push (res_same J4.ok ry))
/-! ### the body of a def -/
def env0 (n : Nat) (xs : List SV) : Env := xs.map SD.v ++ List.replicate (n - xs.length) .un
theorem slots_un {H0 : Hp} : ∀ n : Nat, Slots K F H H0 (List.replicate n .un) (List.replicate n none) []
  | 0 => .nil
  | n + 1 => .un (slots_un n)
theorem slots_args {H0 : Hp} : ∀ {vs : List V} {xs : List SV} (n : Nat), RepVs K F vs xs → Slots K F H H0 (xs.map SD.v ++ List.replicate n .un) (vs.map some ++ List.replicate n none) []
  | _, _, n, .nil => slots_un n
  | _, _, n, .cons r t => .v r (slots_args n t)
/-- no exception leaves -/
theorem fn0 {N : List Str} {t : TS} {m : MS} {f : MF} {n : Nat} {vs : List V} {Q : VK} {E : XK} (hN : n ≤ N.length)
    (hm : ∀ (xs : List SV) (Ed : XP) (Qd : SV → Prop), xs.length = n → f xs Ed Qd → m (env0 N.length xs) (fun _ => False) { nx := fun _ => Qd (.d .none), rt := Qd })
    (h : SpecM K A n f vs H Q E) (ht : ∀ F0 H0 Ed ok0 hE, SM ⟨K, A, F0, H0, E0, Ed, ok0, hE⟩ t m) : t { nx := fun _ H' => Q .non H', rt := Q } (L2.start N vs) H := by
  obtain ⟨F, xs, Qd, Ed, ok, rv, hn, hf, kQ, kE⟩ := h
  have hl := rv.length
  refine ht F H (fun _ => False) ok (fun _ h => h.elim) F (env0 N.length xs) (L2.start N vs) F H _ _ ?_ (hm xs Ed Qd hn hf) ⟨fun env σ F' H' J q => kQ (.d .none) .non F' H' q J.step (show RepV K F' .non (.d .none) from Dq.non), fun x v F' H' s r q => kQ x v F' H' q s r, fun _ _ _ _ _ z => z.elim, fun _ _ _ _ _ z => z.elim⟩
  refine ⟨Step.refl ok, Ex.refl F, [], [], by simp, ?_, .nil⟩
  unfold L2.start env0
  rw [hl]
  exact slots_args _ rv
/-- exceptions leave as the promise says -/
theorem fnX {N : List Str} {t : TS} {m : MS} {f : MF} {n : Nat} {vs : List V} {Q : VK} {E : XK} (hN : n ≤ N.length)
    (hm : ∀ (xs : List SV) (Ed : XP) (Qd : SV → Prop), xs.length = n → f xs Ed Qd → m (env0 N.length xs) Ed { nx := fun _ => Qd (.d .none), rt := Qd })
    (h : SpecM K A n f vs H Q E) (ht : ∀ F0 H0 Ed ok0 hE, SM ⟨K, A, F0, H0, E, Ed, ok0, hE⟩ t m) : t { nx := fun _ H' => Q .non H', rt := Q } (L2.start N vs) H := by
  obtain ⟨F, xs, Qd, Ed, ok, rv, hn, hf, kQ, kE⟩ := h
  have hl := rv.length
  refine ht F H Ed ok kE F (env0 N.length xs) (L2.start N vs) F H _ _ ?_ (hm xs Ed Qd hn hf) ⟨fun env σ F' H' J q => kQ (.d .none) .non F' H' q J.step (show RepV K F' .non (.d .none) from Dq.non), fun x v F' H' s r q => kQ x v F' H' q s r, fun _ _ _ _ _ z => z.elim, fun _ _ _ _ _ z => z.elim⟩
  refine ⟨Step.refl ok, Ex.refl F, [], [], by simp, ?_, .nil⟩
  unfold L2.start env0
  rw [hl]
  exact slots_args _ rv
theorem spec_len {f : MF} {n : Nat} {vs : List V} {Q : VK} {E : XK} (h : SpecM K A n f vs H Q E) : vs.length = n := by
  obtain ⟨F, xs, Qd, Ed, ok, rv, hn, _⟩ := h
  rw [rv.length, hn]
end DL

namespace DL
open PySem L2
variable {K : PySem.W.Frag} {A : Amb} {X : Cx} {C : Ctx} {F1 F H H' : Hp} {env : Env} {σ : St} {pend : List (V × SD)} {z : V} {r : SD} {x : SV}
/-! ### a < b < c -/
theorem em_chain {f g : SV → SV → (SD → Prop) → Prop} {r r' : R2} {ta tb tc : TE} {ma mb mc : MX} (hf : FR C.K C.A r f) (hg : FR C.K C.A r' g) (ha : EM C ta ma) (hb : EM C tb mb) (hc : EM C tc mc) : EM C (tChain r r' ta tb tc) (mChain f g ma mb mc) :=
  fun F1 env pend σ F H Qd Q I m k =>
  ha.val F1 env pend σ F H _ _ I m fun x e1 v F' H' m1 J => hb.val F1 e1 _ σ F' H' _ _ J m1 fun y e2 w F2 H2 m2 J2 =>
    hf F2 H2 v w x y _ _ J2.ok J2.pop.topV J2.topV m2 fun z s F3 H3 ⟨b, es, q⟩ res => by
      subst es
      have J3 := J2.push res
      have rb := J3.topV
      cases rb
      refine ⟨b, rfl, ?_⟩
      have J4 := J3.pop
      cases b with
      | true =>
        refine (if_pos rfl).mpr ?_
        exact hc.val F1 e2 _ σ F3 H3 _ _ J4 q fun y3 e3 w3 F5 H5 m5 J5 => hg F5 H5 w w3 y y3 _ _ J5.ok J5.pop.topV J5.topV m5 fun z5 s5 F6 H6 q6 res6 => k s5 e3 z5 F6 H6 q6 (J5.pop.pop.pop.push res6)
      | false => exact k _ e2 _ F3 H3 q (J4.pop.pop.push (res_same J4.ok (.bl false)))
/-! ### targets of comprehensions that are tuples -/
def GOuts (mg : List SV → Env → (Env → Prop) → Prop) (vs : List Nat) : Prop := ∀ x e (Q : Env → Prop), mg x e Q → mg x e fun e' => Q e' ∧ e'.length = e.length ∧ ∀ i, i ∉ vs → e'[i]? = e[i]?
theorem gos_nil {vs : List Nat} : GOuts gmNil vs := fun x e Q ⟨h, q⟩ => ⟨h, q, rfl, fun _ _ => rfl⟩
theorem gos_cons {m : SV → Env → (Env → Prop) → Prop} {n : List SV → Env → (Env → Prop) → Prop} {vs : List Nat} (hm : GOut m vs) (mono : ∀ x e (Q Q' : Env → Prop), (∀ e', Q e' → Q' e') → m x e Q → m x e Q') (mono2 : ∀ x e (Q Q' : Env → Prop), (∀ e', Q e' → Q' e') → n x e Q → n x e Q') (hn : GOuts n vs) : GOuts (gmCons m n) vs :=
  fun xs e Q ⟨x, r, ex, q⟩ => ⟨x, r, ex, mono _ _ _ _ (fun e1 ⟨q1, l1, o1⟩ => mono2 _ _ _ _ (fun e2 ⟨q2, l2, o2⟩ => ⟨q2, l2.trans l1, fun i hi => (o2 i hi).trans (o1 i hi)⟩) (hn r e1 Q q1)) (hm x e _ q)⟩
theorem mono_name {i : Nat} : ∀ x e (Q Q' : Env → Prop), (∀ e', Q e' → Q' e') → gmName i x e Q → gmName i x e Q' := fun x e Q Q' h q => h _ q
theorem mono_nil : ∀ x e (Q Q' : Env → Prop), (∀ e', Q e' → Q' e') → gmNil x e Q → gmNil x e Q' := fun x e Q Q' h q => ⟨q.1, h _ q.2⟩
theorem mono_cons {m : SV → Env → (Env → Prop) → Prop} {n : List SV → Env → (Env → Prop) → Prop} (a : ∀ x e (Q Q' : Env → Prop), (∀ e', Q e' → Q' e') → m x e Q → m x e Q') (b : ∀ x e (Q Q' : Env → Prop), (∀ e', Q e' → Q' e') → n x e Q → n x e Q') : ∀ x e (Q Q' : Env → Prop), (∀ e', Q e' → Q' e') → gmCons m n x e Q → gmCons m n x e Q' :=
  fun xs e Q Q' h ⟨x, r, ex, q⟩ => ⟨x, r, ex, a _ _ _ _ (fun e1 q1 => b _ _ _ _ h q1) q⟩
theorem go_tup {n : Nat} {m : List SV → Env → (Env → Prop) → Prop} {vs : List Nat} (h : GOuts m vs) : GOut (gmTup n m) vs := fun x e Q ⟨ds, ex, hn, q⟩ => ⟨ds, ex, hn, h _ _ _ q⟩
/-! ### a list's list is changed -/
theorem RepOs.setAt {H0 : Hp} : ∀ {vs : List V} {os : List O} {g : List Addr} {n : Nat} {ds : List PyData}, RepOs K F H H0 vs os g → g.Nodup → os[n]? = some (.lst (leafs ds)) →
    ∃ q ws, vs[n]? = some (.ref q) ∧ H q = some (.lst ws) ∧ DqAll K F ws ds ∧ q ∈ g ∧ F q = none ∧ H0 q = none ∧ ∀ ws' ds', DqAll K F ws' ds' → RepOs K F (upd H q (.lst ws')) H0 vs (os.set n (.lst (leafs ds'))) g
  | _, _, _, n, ds, .nil, _, h => by simp at h
  | _, _, _, 0, ds, .cons (o := o) (f1 := f1) (f2 := f2) r t, nd, h => by
    have e : o = .lst (leafs ds) := Option.some.inj h
    subst e
    cases r with
    | @lst q ws _ g0 hH hF h0 rs =>
      obtain ⟨rq, eg⟩ := leaves_dq rs
      subst eg
      rw [List.cons_append, List.nil_append, List.nodup_cons] at nd
      refine ⟨q, ws, rfl, hH, rq, List.mem_cons_self .., hF, h0, fun ws' ds' r' => ?_⟩
      exact .cons (f1 := [q]) (.lst upd_same hF h0 (DqAll.leaves r')) (t.mono (Ex.refl _) (up_keep nd.1) (fun _ _ e => e) (fun _ _ e => e))
  | _, _, _, n + 1, ds, .cons (f1 := f1) (f2 := f2) r t, nd, h => by
    rw [List.nodup_append] at nd
    obtain ⟨n1, n2, n3⟩ := nd
    obtain ⟨q, ws, a, b, c, d, hF, h0, e⟩ := RepOs.setAt (n := n) t n2 h
    refine ⟨q, ws, a, b, c, List.mem_append_right _ d, hF, h0, fun ws' ds' r' => ?_⟩
    exact .cons (r.mono (Ex.refl _) (up_keep fun z => n3 q z q d rfl) (fun _ _ e => e) (fun _ _ e => e)) (e ws' ds' r')
/-- xs[j][k] = e, xs a list of lists of told items -/
def sPut2 (i : Nat) (m mj mk : MX) : MS := fun env E P => m env E fun r e => ∃ d, r.frz = some (.d d) ∧ (∃ os, e[i]? = some (.own (.lst os)) ∧ mj e E fun r2 e2 => ∃ j n ds0, r2.frz = some (SVi j) ∧ e2[i]? = some (.own (.lst os)) ∧ ixN os.length j = some n ∧ os[n]? = some (.lst (leafs ds0)) ∧
  mk e2 E fun r3 e3 => ∃ l n2, r3.frz = some (SVi l) ∧ e3[i]? = some (.own (.lst os)) ∧ ixN ds0.length l = some n2 ∧ P.nx (e3.set i (.own (.lst (os.set n (.lst (leafs (ds0.set n2 d))))))))
theorem val_cast {te : TE} {m : MX} {env : Env} {E : XP} {R : SD → Env → Prop} {Qd : SV → Env → Prop} (hm : m env E R) (h : ∀ r e, R r e ↔ ∃ x, r.frz = some x ∧ Qd x e) : m env E fun r e => ∃ x, r.frz = some x ∧ Qd x e := by
  refine cast ?_ hm
  congr 1
  funext r e
  exact propext (h r e)
/-- a reading that leaves the heap as it is -/
structure RO (te : TE) : Prop where
  mono : ∀ (σ : St) (H : Hp) (Q Q' : VK), (∀ v H', Q v H' → Q' v H') → te σ H Q → te σ H Q'
  stay : ∀ (σ : St) (H : Hp) (Q : VK), te σ H (fun v H' => H' = H → Q v H') → te σ H Q
structure RO2 (r : R2) : Prop where
  mono : ∀ (x y : V) (H : Hp) (Q Q' : VK), (∀ v H', Q v H' → Q' v H') → r x y H Q → r x y H Q'
  stay : ∀ (x y : V) (H : Hp) (Q : VK), r x y H (fun v H' => H' = H → Q v H') → r x y H Q
theorem ro_var {i : Nat} : RO (tVar i) := ⟨fun σ H Q Q' h ⟨v, e, q⟩ => ⟨v, e, h v H q⟩, fun σ H Q ⟨v, e, q⟩ => ⟨v, e, q rfl⟩⟩
theorem ro_c {v : V} : RO (tC v) := ⟨fun σ H Q Q' h q => h v H q, fun σ H Q q => q rfl⟩
theorem ro_op {r : R2} {ta tb : TE} (hr : RO2 r) (ha : RO ta) (hb : RO tb) : RO (tOp r ta tb) := ⟨fun σ H Q Q' h q => ha.mono σ H _ _ (fun x H1 q1 => hb.mono σ H1 _ _ (fun y H2 q2 => hr.mono x y H2 _ _ h q2) q1) q,
  fun σ H Q q => ha.stay σ H _ (ha.mono σ H _ _ (fun x H1 q1 e1 => hb.stay σ H1 _ (hb.mono σ H1 _ _ (fun y H2 q2 e2 => hr.stay x y H2 _ (hr.mono x y H2 _ _ (fun v H3 q3 e3 => q3 (by rw [e3, e2, e1])) q2)) q1)) q)⟩
theorem ro2_ix : RO2 (rIx K) := ⟨fun x y H Q Q' h q => by
    rcases q with ⟨p, xs, i, v, a, b, c, d, q⟩ | ⟨p, xs, i, v, a, b, c, d, q⟩ | ⟨s, i, c, a, b, d, e, q⟩
    · exact Or.inl ⟨p, xs, i, v, a, b, c, d, h _ _ q⟩
    · exact Or.inr (Or.inl ⟨p, xs, i, v, a, b, c, d, h _ _ q⟩)
    · exact Or.inr (Or.inr ⟨s, i, c, a, b, d, e, h _ _ q⟩), fun x y H Q q => by
    rcases q with ⟨p, xs, i, v, a, b, c, d, q⟩ | ⟨p, xs, i, v, a, b, c, d, q⟩ | ⟨s, i, c, a, b, d, e, q⟩
    · exact Or.inl ⟨p, xs, i, v, a, b, c, d, q rfl⟩
    · exact Or.inr (Or.inl ⟨p, xs, i, v, a, b, c, d, q rfl⟩)
    · exact Or.inr (Or.inr ⟨s, i, c, a, b, d, e, q rfl⟩)⟩
theorem sm_put2 {te tj tk : TE} {m mj mk : MX} {i : Nat} (ro : RO tk) (h : EM C te m) (hj : EM C tj mj) (hk : EM C tk mk) : SM C (tAsg te (gSub (tOp (rIx C.K) (tVar i) tj) tk rSetL)) (sPut2 i m mj mk) := fun F1 env σ F H P De I hm k => by
  unfold sPut2 at hm
  refine h F1 env [] σ F H _ _ I hm fun r e v F' H1 ⟨d, er, os, ho, q⟩ J => ?_
  obtain ⟨Fa, _, J⟩ := J.frzTop er
  obtain ⟨p, vs0, hp, hH0, _⟩ := J.ownAt ho
  refine ⟨.ref p, hp, ?_⟩
  refine hj F1 e _ σ Fa H1 _ _ J q fun r2 e2 w F2 H2 ⟨j, n, ds0, er2, hi2, hn, hos, q2⟩ J2 => ?_
  obtain ⟨Fb, _, J2⟩ := J2.frzTop er2
  have rj := J2.topV
  cases rj
  -- the inner list is there
  have inner : ∀ {e3 : Env} {F3 H3 : Hp} {ps : List (V × SD)}, ENV C F1 e3 ps σ F3 H3 → e3[i]? = some (.own (.lst os)) → ∃ vs q, H3 p = some (.lst vs) ∧ vs.length = os.length ∧ vs[n]? = some (.ref q) := fun J3 h3 => by
    obtain ⟨fe, fq, nd, s1, s2⟩ := J3.slots
    obtain ⟨v', g, rest, hv, ro, pm, re⟩ := s1.focus h3
    have ev : v' = .ref p := by rw [hv] at hp; cases hp; rfl
    subst ev
    cases ro with
    | @lst _ vs _ g0 hH hF h0 rs =>
      have nd2 := (pm.nodup_iff.mp ((List.sublist_append_right fq fe).nodup nd))
      have nd3 := (List.sublist_append_left (p :: g0) rest).nodup nd2
      rw [List.nodup_cons] at nd3
      obtain ⟨q, ws, a, _⟩ := rs.setAt nd3.2 hos
      exact ⟨vs, q, hH, rs.length, a⟩
  obtain ⟨vs2, q0, hH2, hl2, hq0⟩ := inner J2 hi2
  refine Or.inl ⟨p, vs2, j, .ref q0, rfl, rfl, Or.inl (Or.inl hH2), ?_, ?_⟩
  · unfold atI
    rw [hl2, hn]
    exact hq0
  refine ro.stay σ H2 _ (hk F1 e2 _ σ Fb H2 _ _ J2.pop q2 fun r3 e3 w3 F3 H3 ⟨l, n2, er3, hi3, hn2, q3⟩ J3 eH => ?_)
  subst eH
  obtain ⟨Fc, _, J3⟩ := J3.frzTop er3
  have rl := J3.topV
  cases rl
  have rv := J3.pop.topV
  have J4 : ENV C F1 e3 [] σ Fc H3 := ENV.pop (pend := []) J3.pop
  obtain ⟨fe, fq, nd, s1, s2⟩ := J4.slots
  cases s2
  rw [List.nil_append] at nd
  obtain ⟨v', g, rest, hv, ro, pm, re⟩ := s1.focus hi3
  have ev : v' = .ref p := by rw [hv] at hp; cases hp; rfl
  subst ev
  cases ro with
  | @lst _ vs _ g0 hH hF h0 rs =>
    have nd2 := pm.nodup_iff.mp nd
    have nd3 := (List.sublist_append_left (p :: g0) rest).nodup nd2
    rw [List.nodup_append] at nd2
    rw [List.nodup_cons] at nd3
    obtain ⟨q, ws, a, b, c, dm, qF, q0', up⟩ := rs.setAt nd3.2 hos
    have ek : q = q0 := by
      rw [hH] at hH2
      cases hH2
      rw [a] at hq0
      cases hq0
      rfl
    subst ek
    have wp : q ≠ p := fun z => nd3.1 (by rw [← z]; exact dm)
    refine ⟨q, ws, l, n2, rfl, rfl, b, by rw [c.length]; exact hn2, ?_⟩
    have rs' := up _ _ (c.set (n := n2) rv)
    obtain ⟨fp', s3, pm3⟩ := re (upd H3 q (.lst (ws.set n2 v))) (.lst (os.set n (.lst (leafs (ds0.set n2 d))))) (p :: g0) (.lst (by rw [upd_ne wp.symm]; exact hH) hF h0 rs') (up_keep fun z => nd2.2.2 q (List.mem_cons_of_mem _ dm) q z rfl)
    refine k.nx _ _ _ _ ⟨own_store J4.step qF q0' (by rw [b]; exact fun z => by cases z), J4.low, fp', [], ?_, s3, .nil⟩ q3
    rw [List.nil_append]
    exact (pm3.trans pm.symm).nodup_iff.mpr nd
end DL

namespace DL
open PySem L2
/-! ### a def that may be called -/
def Cal (P : Program) (w : World) (K : PySem.W.Frag) (mg : Str → Option Value) (base : Heap) (CX : CXT) (k : Nat) (x : Str) (ps : List Str) (sp : Sp) : Prop :=
  ∃ f fd, (mg x = some (.ref f) ∧ ∃ oc od osl, K.lookup f = some ⟨oc, od, .func fd, osl⟩) ∧ PySem.W.keepIn K (.ref f) = true ∧ Binds K fd ps [] ∧ FnOk P w K mg base CX k f fd ps sp
theorem cal_mk {P : Program} {w : World} {K : PySem.W.Frag} {mg : Str → Option Value} {base : Heap} {CX : CXT} {k : Nat} {x qual : Str} {st : Stmt} {ps : List Str} {sp : Sp} {f : Addr} {fd : FuncData} (m : mg x = some (.ref f)) (U : Fun K x qual st f fd) (b : Binds K fd ps []) (F : FnOk P w K mg base CX k f fd ps sp) :
    Cal P w K mg base CX k x ps sp := ⟨f, fd, ⟨m, by obtain ⟨oc, od, kV, doc, pm, an, cdv, ct, osl, e, l, _⟩ := U.ex; exact ⟨oc, od, osl, l⟩⟩, U.kp, b, F⟩
/-- one promise for each box: one def -/
theorem cal_any {ι : Type} [Inhabited ι] {P : Program} {w : World} {K : PySem.W.Frag} {mg : Str → Option Value} {base : Heap} {CX : CXT} {k : Nat} {x : Str} {ps : List Str} {sp : ι → Sp} (h : ∀ i, Cal P w K mg base CX k x ps (sp i)) :
    Cal P w K mg base CX k x ps (fun vs H Q E => ∃ i, sp i vs H Q E) := by
  obtain ⟨f, fd, ⟨m, oc, od, osl, l⟩, kp, b, F⟩ := h default
  have g : ∀ i, FnOk P w K mg base CX k f fd ps (sp i) := fun i => by
    obtain ⟨f', fd', ⟨m', oc', od', osl', l'⟩, kp', b', F'⟩ := h i
    rw [m] at m'
    cases m'
    rw [l] at l'
    cases l'
    exact F'
  exact ⟨f, fd, ⟨m, oc, od, osl, l⟩, kp, b, ⟨fun vs H Q E ⟨i, q⟩ => (g i).len vs H Q E q, fun A outer s H args us vs Q E hr he hb hv ⟨i, q⟩ => (g i).run A outer s H args us vs Q E hr he hb hv q⟩⟩
section
variable {X : Cx} {CX : CXT} {k : Nat} {x : Str} {ps : List Str} {sp : Sp} {e : Expr} {es : List Expr} {t : TA} {p pos : Pos}
theorem pe_cal (c : Cal X.prog X.w X.K X.mg X.base CX0 k x ps sp) (hr : Room k X.A) (ha : PA X (e :: es) t) (hg : Gl X x := by rfl) (hdb : (x == ("__debug__" : Str)) = false := by decide)
    (he : starEach (e :: es) X.env = (false, eval e X.env) :: starEach es X.env := by rfl) (hpl : (backTo pos (starEach es X.env)).any (·.1) = false := by rfl) : PE X (.Call (.Name x p) (e :: es) [] pos) (tCall sp [] E0 t) := by
  obtain ⟨f, fd, ⟨m, _⟩, kp, b, F⟩ := c
  exact pe_call F hr hg m kp b .nil pass0 ha hdb he hpl
theorem pe_cst {i : Int} (h : ∃ t, X.mg x = some (.int i t)) (hg : Gl X x := by rfl) (hd : (x == ("__debug__" : Str)) = false := by decide) : PE X (.Name x pos) (tC (.int i)) := by
  obtain ⟨t, h⟩ := h
  exact pe_glob hg h ⟨t, rfl⟩ hd
end
variable {K : PySem.W.Frag} {A : Amb} {C : Ctx} {F H : Hp}
/-! ### x[j], x a slot: an own list stays own -/
theorem RepOs.get {H0 : Hp} : ∀ {vs : List V} {os : List O} {g : List Addr} {n : Nat} {x : SV}, RepOs K F H H0 vs os g → os[n]? = some (.leaf x) → ∃ v, vs[n]? = some v ∧ RepV K F v x
  | _, _, _, n, x, .nil, h => by simp at h
  | _, _, _, 0, x, .cons r t, h => by
    cases h
    cases r with
    | leaf r => exact ⟨_, rfl, r⟩
  | _, _, _, n + 1, x, .cons r t, h => RepOs.get (n := n) t h
def mIxVar (i : Nat) (mj : MX) : MX := fun env E Q => match env[i]? with
  | some (.own (.lst os)) => mj env E fun r e => ∃ j x, r.frz = some (SVi j) ∧ e[i]? = some (.own (.lst os)) ∧ atI os j = some (.leaf x) ∧ Q (.v x) e
  | _ => mOp fIx (mVar i) mj env E Q
theorem em_ixVar {i : Nat} {tj : TE} {mj : MX} (h : EM C tj mj) : EM C (tOp (rIx C.K) (tVar i) tj) (mIxVar i mj) := fun F1 env pend σ F H Qd Q I hm k => by
  unfold mIxVar at hm
  split at hm
  · rename_i os hi
    obtain ⟨p, vs, hp, hH, hl⟩ := I.ownAt hi
    refine ⟨.ref p, hp, ?_⟩
    refine h F1 env pend σ F H _ _ I hm fun r e v F' H' ⟨j, x, er, hi', ha, q⟩ J => ?_
    obtain ⟨F2, _, J2⟩ := J.frzTop er
    have rj := J2.topV
    cases rj
    have J3 := J2.pop
    obtain ⟨fe, fq, nd, s1, s2⟩ := J3.slots
    obtain ⟨v', g, rest, hv, ro, _, _⟩ := s1.focus hi'
    have ev : v' = .ref p := by rw [hv] at hp; cases hp; rfl
    subst ev
    cases ro with
    | @lst _ vs' _ g0 hH' hF h0 rs =>
      unfold atI at ha
      rw [← rs.length] at ha
      cases w : ixN vs'.length j with
      | none => rw [w] at ha; cases ha
      | some n =>
        rw [w] at ha
        obtain ⟨u, hu, ru⟩ := rs.get (n := n) ha
        refine Or.inl ⟨p, vs', j, u, rfl, rfl, Or.inl (Or.inl hH'), ?_, k _ e u F2 H' q (J3.push (res_same J3.ok ru))⟩
        unfold atI
        rw [w]
        exact hu
  · exact em_op fr_ix em_var h F1 env pend σ F H Qd Q I hm k
def mLenVar (i : Nat) : MX := fun env E Q => match env[i]? with
  | some (.own (.lst os)) => Q (.v (SVi os.length)) env
  | _ => mCB fLen (aCons (mVar i) aNil) env E Q
theorem em_lenVar {i : Nat} : EM C (tCB (fun xs H Q => ∃ x n, xs = [x] ∧ LenV C.K x H n ∧ Q (.int n) H) (tCons (tVar i) tNil)) (mLenVar i) := fun F1 env pend σ F H Qd Q I hm k => by
  unfold mLenVar at hm
  split at hm
  · rename_i os hi
    obtain ⟨p, vs, hp, hH, hl⟩ := I.ownAt hi
    exact ⟨.ref p, hp, _, _, rfl, Or.inl ⟨vs, Or.inl (Or.inl hH), rfl⟩, by rw [hl]; exact k _ _ _ _ _ hm (I.push (res_same I.ok (.int _)))⟩
  · exact em_cb fc_len (ea_cons em_var ea_nil) F1 env pend σ F H Qd Q I hm k
/-! ### the draws' state -/
structure Box where
  h : Addr
  g : Addr
  ne : h ≠ g
instance : Inhabited Box := ⟨⟨0, 1, by decide⟩⟩
def BoxI (b : Box) (H : Hp) : Prop := ∃ (cells : List Int) (stir : Int), H b.h = some (.lst [.ref b.g, .int stir]) ∧ H b.g = some (.lst (cells.map V.int)) ∧ (∀ c ∈ cells, 0 ≤ c) ∧ 0 ≤ stir ∧ stir < 2147483647 ∧ cells.length ≤ 2 ^ 24
def ABox (b : Box) : Amb := ⟨fun a => a = b.h ∨ a = b.g, BoxI b, fun H H' h ⟨cells, stir, e1, e2, r⟩ => ⟨cells, stir, by rw [h _ (Or.inl rfl)]; exact e1, by rw [h _ (Or.inr rfl)]; exact e2, r⟩⟩
/-- a draw: any number below -/
def s_draw (b : Box) : MF := fun xs _ Q => ∃ n : Int, xs = [.r (.ref b.h), SVi n] ∧ 0 < n ∧ n < 2 ^ 63 ∧ ∀ r : Int, 0 ≤ r → r < n → Q (SVi r)
end DL

namespace DL
open PySem L2
/-! ### the rules, the written part named (within a comprehension the context is another one) -/
section
variable {X : Cx} (K : PySem.W.Frag)
theorem kAdd (h : X.K = K := by rfl) : OpR X (binaryOp .Add) (rAddA K) := by subst h; exact op_addA
theorem kMul (h : X.K = K := by rfl) : OpR X (binaryOp .Mult) (rMulA K) := by subst h; exact op_mulA
theorem kEq {A : Around} {k : Nat} (hr : Room k A) (h : X.K = K := by rfl) (a : X.A = A := by rfl) : OpR X (compareOp .Eq) (rEqD K) := by subst h a; exact op_eqD hr.units
theorem kNe {A : Around} {k : Nat} (hr : Room k A) (h : X.K = K := by rfl) (a : X.A = A := by rfl) : OpR X (compareOp .NotEq) (rNeD K) := by subst h a; exact op_neD hr.units
theorem kIn (h : X.K = K := by rfl) : OpR X (compareOp .In) (rIn K false) := by subst h; exact op_in_seq
theorem kNotIn (h : X.K = K := by rfl) : OpR X (compareOp .NotIn) (rIn K true) := by subst h; exact op_notIn_seq
theorem kIx (h : X.K = K := by rfl) : IxR X (rIx K) := by subst h; exact ix_seq
theorem kLen (h : X.K = K := by rfl) : CallR X (.builtin "len") (fun xs H Q => ∃ x n, xs = [x] ∧ LenV K x H n ∧ Q (.int n) H) := by subst h; exact call_len
theorem kList (h : X.K = K := by rfl) : CallR X (.type "list") (fun xs H Q => ∃ p ys, xs = [.ref p] ∧ (SqL K H p ys ∨ SqT K H p ys) ∧ ∀ l, H l = none → Q (.ref l) (upd H l (.lst ys))) := by subst h; exact call_list_of
theorem kTuple (h : X.K = K := by rfl) : CallR X (.type "tuple") (fun xs H Q => ∃ p ys, xs = [.ref p] ∧ ((SqL K H p ys ∧ ∀ l, H l = none → Q (.ref l) (upd H l (.tup ys))) ∨ (SqT K H p ys ∧ Q (.ref p) H))) := by subst h; exact call_tuple_of
theorem kIsi (h : X.K = K := by rfl) : CallR X (.builtin "isinstance") (rIsi K) := by subst h; exact call_isi
theorem kAll (h : X.K = K := by rfl) (c : X.calm = true := by rfl) : CallR X (.builtin "all") (rAll K) := by subst h; exact cr_all c
theorem kAny (h : X.K = K := by rfl) (c : X.calm = true := by rfl) : CallR X (.builtin "any") (rAny K) := by subst h; exact cr_any c
theorem kSorted (h : X.K = K := by rfl) : CallR X (.builtin "sorted") (rSortedI K) := by subst h; exact cr_sortedI
theorem kSl (h : X.K = K := by rfl) : SlR X (rSlAll K) := by subst h; exact sl_all
theorem kRev {e : Expr} {te : TE} {k : Nat} {p1 p2 p3 pos : Pos} (he : PE X e te) (h : X.K = K := by rfl) : PE X (.Subscript e (.Slice none none (some (.UnaryOp .USub (.Constant (.int 1) k p1) p2)) p3) pos) (tRevL K te) := by subst h; exact pe_revL he
theorem kSeq {tg l : Expr} {tl : TE} (hl : PE X l tl) (h : X.K = K := by rfl) : PI X tg l (iSeq K tl) := by subst h; exact pi_seq hl
theorem kTup {es : List Expr} {k n : Nat} {t : TGs} {pos : Pos} (c : X.calm = true) (g : PGs X es t) (h : X.K = K := by rfl) (hn : (assignEach es X.env).length = n := by rfl) (hst : (assignEach es X.env).findIdx? (·.1) = none := by rfl) : PG X (.Tuple es k pos) (gTup K n t) := by subst h; exact pg_tup c g hn hst
theorem kBm {o e : Expr} {es : List Expr} {to : TE} {t : TA} {name : Str} {apos cpos : Pos} {T id : String} {r : V → List V → Hp → VK → Prop} (pa : PlainAttrs T) (slot : Slot T name id) (hty : typeOf (.builtin id) = pure (.type "method_descriptor")) (hm : MtR X id r) (ho : PE X o to) (ha : PA X (e :: es) t) (h : X.K = K := by rfl)
    (hbase : attributeBase o name X.env (eval o X.env) = eval o X.env := by rfl)
    (hfew : ((backTo cpos (starEach (e :: es) X.env)).all (fun x => !x.1) && (backToKw cpos (keywordEach [] X.env)).all (fun x => x.1.isSome)
      && decide ((e :: es).length + ([] : List Keyword).length + (if ([] : List Keyword).isEmpty then 0 else 1) < 30)) = true := by rfl)
    (hline : (apos.endLine == cpos.line) = true := by rfl) (hs : starEach (e :: es) X.env = (false, eval e X.env) :: starEach es X.env := by rfl) (hplain : (backTo cpos (starEach es X.env)).any (·.1) = false := by rfl) :
    PE X (.Call (.Attribute o name apos) (e :: es) [] cpos) (tBM K T r to t) := by subst h; exact pe_bm pa slot hty hm ho ha hbase hfew hline hs hplain
end
end DL

/-! Rules the hand layer has not: t[::-1], sorted(t), enumerate(t) of a tuple t. -/
namespace HT
open PySem PyProof.Rows
section
variable {prog : Program} {w : World} {A : Around} {E : Value → Shared → Prop} {s : Shared}
theorem sliceApplied_back {sl : Addr} {vl vu vs : Value} {n : Nat} {Q : Int × Int × Nat → Shared → Prop} (hs : s.heap.IsSliceOf sl vl vu vs) (pl : IsPart vl none) (pu : IsPart vu none) (ps : IsPart vs (some (-1)))
    (h : Q ((n : Int) - 1, -1, n) s) : wpAny (model prog w) A (Builtin.Slice.sliceApplied (.ref sl) (pure (n : Int))) Q E s := by
  obtain ⟨os, hos, hcs, hds⟩ := id hs
  unfold Builtin.Slice.sliceApplied Builtin.Slice.sliceFields
  refine wpAny_bind (wpAny_bind (wpAny_field hos hds (x := vl) rfl (wpAny_bind (wpAny_field hos hds (x := vu) rfl (wpAny_bind (wpAny_field hos hds (x := vs) rfl (wpAny_pure ?_)))))))
  refine wpAny_bind (slicePart_ ps ?_)
  show wpAny _ _ (if ((-1 : Int) == 0) = true then _ else _) _ _ s
  rw [if_neg (by decide)]
  refine wpAny_bind (slicePart_ pl (wpAny_bind (slicePart_ pu (wpAny_bind (wpAny_pure ?_)))))
  have e1 : Builtin.Slice.sliceAdjust none none (-1) (n : Int) = ((n : Int) - 1, -1) := by
    unfold Builtin.Slice.sliceAdjust
    simp
  have e2 : Builtin.Slice.slicePlaces ((n : Int) - 1) (-1) (-1) = n := by
    unfold Builtin.Slice.slicePlaces
    simp only [show ¬ ((-1 : Int) > 0) by decide, if_false, Int.neg_neg, Int.ediv_one]
    split <;> omega
  show wpAny _ _ (match Builtin.Slice.sliceAdjust none none (-1) (n : Int) with | (lo, hi) => pure (lo, (-1 : Int), Builtin.Slice.slicePlaces lo hi (-1))) _ _ s
  rw [e1]
  show wpAny _ _ (pure ((n : Int) - 1, (-1 : Int), Builtin.Slice.slicePlaces ((n : Int) - 1) (-1) (-1))) _ _ s
  rw [e2]
  exact wpAny_pure h
theorem filterMap_same {α β : Type} {f g : α → Option β} : ∀ {l : List α}, (∀ m ∈ l, f m = g m) → l.filterMap f = l.filterMap g
  | [], _ => rfl
  | a :: l, h => by
    rw [List.filterMap_cons, List.filterMap_cons, h a (List.mem_cons_self ..), filterMap_same fun m hm => h m (List.mem_cons_of_mem _ hm)]
theorem pick_back (xs : Array Value) : ((List.range xs.size).filterMap fun (m : Nat) => xs[(((xs.size : Int) - 1) + (m : Int) * (-1)).toNat]?).toArray = xs.toList.reverse.toArray := by
  congr 1
  apply List.ext_getElem?
  intro i
  have e : (List.range xs.size).filterMap (fun (m : Nat) => xs[(((xs.size : Int) - 1) + (m : Int) * (-1)).toNat]?) = (List.range xs.size).map fun m => xs.toList.getD (xs.size - 1 - m) .none := by
    rw [← List.filterMap_eq_map]
    refine filterMap_same fun m hm => ?_
    have hm' := List.mem_range.mp hm
    have e1 : (((xs.size : Int) - 1) + (m : Int) * (-1)).toNat = xs.size - 1 - m := by omega
    rw [e1]
    have hlt : xs.size - 1 - m < xs.toList.length := by rw [Array.length_toList]; omega
    show xs[xs.size - 1 - m]? = some (xs.toList.getD (xs.size - 1 - m) .none)
    rw [← Array.getElem?_toList, List.getElem?_eq_getElem hlt]
    simp [List.getD, List.getElem?_eq_getElem hlt]
  rw [e, List.getElem?_map]
  by_cases hi : i < xs.size
  · rw [List.getElem?_range hi, List.getElem?_reverse (by rw [Array.length_toList]; exact hi)]
    have hlt : xs.size - 1 - i < xs.toList.length := by rw [Array.length_toList]; omega
    show some (xs.toList.getD (xs.size - 1 - i) .none) = _
    rw [Array.length_toList, List.getElem?_eq_getElem hlt]
    simp [List.getD, List.getElem?_eq_getElem hlt]
  · rw [List.getElem?_eq_none (by rw [List.length_range]; omega), List.getElem?_eq_none (by rw [List.length_reverse, Array.length_toList]; omega)]
    rfl
theorem getItem_tuple_back {t sl : Addr} {items : Array Value} {vl vu vs : Value} {Q : Value → Shared → Prop} (ht : IsTup s.heap t items) (hs : s.heap.IsSliceOf sl vl vu vs) (pl : IsPart vl none) (pu : IsPart vu none) (ps : IsPart vs (some (-1)))
    (h : Q (.ref s.heap.objs.size) { s with heap := s.heap.push { cls := .type "tuple", data := .seq items.toList.reverse.toArray } })
    (hsz : items.size ≤ sizeLine) : wpAny (model prog w) A (getItem (.ref t) (.ref sl)) Q E s := by
  have fits : sizeOk (.seq items.toList.reverse.toArray) := by
    show items.toList.reverse.toArray.size ≤ sizeLine
    rw [List.size_toArray, List.length_reverse, Array.length_toList]
    exact hsz
  obtain ⟨os, hos, hcs, hds⟩ := id hs
  have hT : s.TypeIs (.ref sl) "slice" := ⟨os, hos, hcs⟩
  unfold getItem
  try with_reducible refine wpAny_holding ?_
  first | refine wpAny_bind (wpAny_pure ?_) | skip
  refine wpAny_bind (wpAny_sequenceKey ht.typeIs (by decide) ?_)
  refine wpAny_bind (wpAny_callSpecial?_slot (name := Str.ofString "__getitem__") ht.typeIs PyProof.Rows.slot_tuple_getitem
    (wpAny_call_entry PyProof.Rows.slot_tuple_getitem ht.typeIs entry_tuple_getitem ?_ (args_tuple_getitem _ _)))
  show wpAny _ _ (Builtin.Tuple.tupleItemsOf (.ref t) >>= _) _ _ s
  refine wpAny_bind (tupleItemsOf_ ht (wpAny_bind (wpAny_typeOf hT ?_)))
  rw [if_pos (by decide)]
  refine wpAny_bind (sliceApplied_back hs pl pu ps ?_)
  show wpAny _ _ (if (((items.size : Int) - 1) == 0 && (-1 : Int) == 1 && items.size == items.size) = true then _ else _) _ _ s
  rw [if_neg (by intro q; rw [Bool.and_eq_true, Bool.and_eq_true] at q; exact absurd q.1.2 (by decide)), pick_back]
  first
    | exact wpAny_bind (m := Builtin.Tuple.tupleExact _) (wpAny_newObj_type (wpAny_pure ⟨_, rfl, wpAny_pure h⟩) fits)
    | exact wpAny_bind (m := Builtin.Tuple.tupleExact _) (wpAny_newObj_type (wpAny_bind (wpAny_pure (wpAny_pure ⟨_, rfl, wpAny_pure h⟩))) fits)
    | exact wpAny_bind (wpAny_bind (m := Builtin.Tuple.tupleExact _) (wpAny_newObj_type (wpAny_pure (wpAny_pure ⟨_, rfl, wpAny_pure h⟩)) fits))
    | exact wpAny_bind (wpAny_bind (m := Builtin.Tuple.tupleExact _) (wpAny_newObj_type (wpAny_pure ⟨_, rfl, wpAny_pure h⟩) fits))
end
end HT

namespace SrtO
open PySem PyProof.Rows Srt
section
variable {prog : Program} {w : World} {A : Around} {E : Value → Shared → Prop} {s : Shared}
theorem collect_tup {t : Addr} {vs : List Value} {Q : List Value → Shared → Prop} (ht : IsTup s.heap t vs.toArray)
    (h : Q vs { s with heap := (s.heap.push (seqObj "list" #[] 0)).update s.heap.objs.size (Obj.mapSeq (· ++ vs.toArray)) }) (hsz : vs.length ≤ sizeLine) : wpAny (model prog w) A (collect (.ref t)) Q E s := by
  obtain ⟨o, ho, hc, n, hd⟩ := id ht
  unfold collect
  refine wpAny_bind (wpAny_runValue (codeAny_builtin entry_proto_collect' ?_))
  show wpAny _ _ (do again (.builtin "list.__iadd__" ⟨[← newList [], .ref t], []⟩)) _ _ s
  refine wpAny_bind (wpAny_newList (wpAny_pure ⟨Code.quiet_builtin _ (by decide +kernel), codeAny_builtin entry_list_iadd' ?_⟩))
  show wpAny _ _ (Builtin.List.listExtendWith (.ref s.heap.objs.size) (.ref t) (.ref s.heap.objs.size)) _ _ { s with heap := s.heap.push (seqObj "list" #[] 0) }
  unfold Builtin.List.listExtendWith
  have hold : (s.heap.push (seqObj "list" #[] 0)).get? t = some o := Heap.get?_push_of_some _ ho
  refine wpAny_bind (wpAny_typeOf (T := "tuple") ⟨o, hold, hc⟩ ?_)
  have q : (Value.type "tuple" == Value.type "tuple") = true := by rfl
  rw [if_pos (by rw [q]; simp)]
  refine wpAny_bind (listItems_at hold hd (wpAny_bind (listItems_at (xs := #[]) (n := 0) (Heap.get?_push_size _ rfl) rfl ?_)))
  rw [if_neg (by simp)]
  refine wpAny_bind (listUpdate_at (xs := #[]) (n := 0) (Heap.get?_push_size _ rfl) rfl (wpAny_pure ?_) (Nat.zero_le _) (by show (#[] ++ vs.toArray).size ≤ sizeLine + 1; simp only [Array.size_append, List.size_toArray, List.length_nil]; omega))
  show wpAny (model prog w) A (do
      let o ← load s.heap.objs.size
      match o.data with
      | .seq xs _ => pure xs.toList
      | _ => unsupported "internal:collect") Q E _
  refine wpAny_bind (wpAny_load (get?_update_seq (Heap.get?_push_size _ rfl) _) ?_)
  show wpAny _ _ (pure ((#[] : Array Value) ++ vs.toArray).toList) Q E _
  have e : ((#[] : Array Value) ++ vs.toArray).toList = vs := by simp
  rw [e]
  exact wpAny_pure h
theorem sorted_tup_ord {t : Addr} {vs : List Value} {ltv : Value → Value → Bool} {Q : Value → Shared → Prop} (O : Swo ltv) (ht : IsTup s.heap t vs.toArray) (hz : vs.length ≤ sizeLine)
    (hS : 2 ≤ vs.length → ∀ (g : Heap) (a : Addr), g.get? a = some (seqObj "list" vs.toArray 0) → (∀ b o, s.heap.get? b = some o → b ≠ a ∧ g.get? b = some o) → SortableO prog w A.in1.in1 { s with heap := g } a vs ltv)
    (h : ∀ out : List Value, Srtd ltv out → Stb ltv out vs → Q (.ref (s.heap.objs.size + 1)) { s with heap := sortedAll s.heap vs out.toArray }) :
    wpAny (model prog w) A (call (.builtin "sorted") [.ref t]) Q E s := by
  refine Calls.call_function_entry kind_sorted plain_sorted entry_sorted (args_sorted1 _) ?_
  unfold Builtin.«sorted»
  refine wpAny_bind (m := checkCount "sorted" 1 1 _) (wpAny_pure (wpAny_bind (collect_tup ht (wpAny_bind (wpAny_newList ?_ hz)) hz)))
  have hn : ((s.heap.push (seqObj "list" #[] 0)).update s.heap.objs.size (Obj.mapSeq (· ++ vs.toArray))).objs.size = s.heap.objs.size + 1 := by
    rw [Heap.size_update, size_push']
  have hL : (((s.heap.push (seqObj "list" #[] 0)).update s.heap.objs.size (Obj.mapSeq (· ++ vs.toArray))).push (seqObj "list" vs.toArray 0)).get? (s.heap.objs.size + 1) = some (seqObj "list" vs.toArray 0) := by
    rw [← hn]; exact Heap.get?_push_size _ rfl
  have old : ∀ b o, s.heap.get? b = some o → b ≠ s.heap.objs.size + 1 ∧ (((s.heap.push (seqObj "list" #[] 0)).update s.heap.objs.size (Obj.mapSeq (· ++ vs.toArray))).push (seqObj "list" vs.toArray 0)).get? b = some o := fun b o q => by
    have lt : b < s.heap.objs.size := Heap.lt_size q
    refine ⟨Nat.ne_of_lt (Nat.lt_succ_of_lt lt), Heap.get?_push_of_some _ ?_⟩
    rw [Heap.get?_update_ne _ _ _ _ (Nat.ne_of_lt lt)]
    exact Heap.get?_push_of_some _ q
  show wpAny _ _ _ _ _ { s with heap := ((s.heap.push (seqObj "list" #[] 0)).update s.heap.objs.size (Obj.mapSeq (· ++ vs.toArray))).push (seqObj "list" vs.toArray 0) }
  rw [hn]
  exact wpAny_bind (wpAny_holding (wpAny_call_entry slot_list_sort ⟨_, hL, rfl⟩ entry_list_sort (list_sort_ord O hL hz (fun h2 => hS h2 _ _ hL old) fun out hs hb => ⟨_, rfl, wpAny_pure ⟨_, rfl, h out hs hb⟩⟩) (args_list_sort _)))
end
end SrtO
namespace DL
open PySem PySem.Spec PyProof.Rows L2
section
variable {X : Cx}
/-- sorted(t) of ints, a list or a tuple -/
def rSortedA (K : PySem.W.Frag) : List V → Hp → VK → Prop := fun vs H Q => ∃ (a : Addr) (ns : List Int), vs = [V.ref a] ∧ (SqL K H a (ns.map V.int) ∨ SqT K H a (ns.map V.int)) ∧
  ∀ (ns' : List Int) (p : Addr), ns'.Perm ns → ns'.Pairwise (· ≤ ·) → H p = none → Q (.ref p) (upd H p (.lst (ns'.map V.int)))
theorem cr_sortedA : CallR X (.builtin "sorted") (rSortedA X.K) := by
  intro pins s σ H vs us Q I r h
  obtain ⟨a, ns, e, hs, q⟩ := h
  rcases hs with hs | hs
  · exact cr_sortedI pins s σ H vs us Q I r ⟨a, ns, e, hs, q⟩
  · subst e
    obtain ⟨its, rv, pt, hz⟩ := I.tuple hs
    rw [Vals.ref1 r]
    have hi := rv.ints
    refine SrtO.sorted_tup_ord SrtO.swo_int pt (by rw [← rv.length]; exact hz) (fun h2 g b _ _ => SrtO.ints_sortable hi h2) fun out h1 h2 => ?_
    obtain ⟨k1, k2, k3⟩ := SrtO.ints_out hi h1 h2
    obtain ⟨ep, he⟩ := PyProof.Rows.sortedAll_at s.heap its out.toArray
    have hl : ((out.map SrtO.iv).map V.int).length ≤ sizeLine := by
      rw [List.length_map, k2.length_eq]
      rw [List.length_map] at hz
      exact hz
    exact ⟨.ref _, upd H (s.heap.objs.size + 1) (.lst ((out.map SrtO.iv).map V.int)), I.laid (t' := s.toks) (fun _ _ => PyProof.Rows.sortedAll_old) (Nat.le_succ _) ⟨hl, out, ep, vals_of_ints k1, he⟩, rfl, q _ _ k2 k3 (I.hok.fresh (Nat.le_succ _))⟩
/-- x[::-1], a list or a tuple -/
def tBack (K : PySem.W.Frag) (te : TE) : TE := fun σ H Q => te σ H fun x H1 => (∃ a xs, x = .ref a ∧ SqL K H1 a xs ∧ ∀ p, H1 p = none → Q (.ref p) (upd H1 p (.lst xs.reverse))) ∨ (∃ a xs, x = .ref a ∧ SqT K H1 a xs ∧ ∀ p, H1 p = none → Q (.ref p) (upd H1 p (.tup xs.reverse)))
theorem pe_back {e : Expr} {te : TE} {k : Nat} {p1 p2 p3 pos : Pos} (he : PE X e te) : PE X (.Subscript e (.Slice none none (some (.UnaryOp .USub (.Constant (.int 1) k p1) p2)) p3) pos) (tBack X.K te) := by
  refine ⟨fun pins s σ H Q I h => ?_⟩
  refine Subscript_ (thn (he.run pins s σ H _ I h) fun v s1 hh => ?_)
  obtain ⟨x, H1, I1, r1, q1⟩ := hh
  have hst : PO X (some (.UnaryOp .USub (.Constant (.int 1) k p1) p2)) (tPart (tUn (rU fun i => .int (-i)) (tC (.int 1)))) := po_some (pe_un un_neg pe_int)
  refine wpAny_Slice (thn (po_none.run pins s1 σ H1 (fun o H2 => o = none ∧ H2 = H1) I1 ⟨rfl, rfl⟩) fun vl s2 h2 => ?_)
  obtain ⟨l, H2, I2, pl, el, e2⟩ := h2
  subst el e2
  refine thn (po_none.run pins s2 σ H2 (fun o H3 => o = none ∧ H3 = H2) I2 ⟨rfl, rfl⟩) fun vu s3 h3 => ?_
  obtain ⟨u, H3, I3, pu, eu, e3⟩ := h3
  subst eu e3
  refine thn (hst.run pins s3 σ H3 (fun o H4 => o = some (-1) ∧ H4 = H3) I3 ⟨1, rfl, -1, rfl, rfl, rfl⟩) fun vs s4 h4 => ?_
  obtain ⟨o, H4, I4, ps, eo, e4⟩ := h4
  subst eo e4
  have I5 : Inv X pins σ H4 { s4 with heap := s4.heap.push { cls := .type "slice", data := .fields #[vl, vu, vs] } } := I4.kept (t' := s4.toks) fun b ob q => Heap.get?_push_of_some _ q
  rcases q1 with ⟨a, xs, ex, hx, q⟩ | ⟨a, xs, ex, hx, q⟩
  · subst ex
    cases r1
    obtain ⟨its, r, ht, hz⟩ := I5.list hx
    have hlen := r.length
    show wpAny (model X.prog X.w) X.A (subscriptTail e (.Slice none none (some (.UnaryOp .USub (.Constant (.int 1) k p1) p2)) p3) (.ref a) (.ref s4.heap.objs.size)) (L2.EP X pins σ Q) X.xe _
    refine tail_any (ops := [.ref a, .ref s4.heap.objs.size]) ht.isList.typeIs (PySem.slot_list_getitem.lookup) ?_ (by with_unfolding_all rfl)
    refine wpAny_getItem_list_slice ht.isList (Heap.IsSliceOf.new _ vl vu vs) pl pu ps (by decide) ?_ (by rw [List.size_toArray]; omega)
    rw [PySem.W.krv_pick]
    exact ⟨.ref _, _, I5.laid (t' := s4.toks) (o := .lst xs.reverse) (fun b ob q => Heap.get?_push_of_some _ q) (Nat.le_refl _) ⟨by rw [List.length_reverse]; exact hz, _, 0, r.reverse, Heap.get?_push_size _ rfl⟩, rfl, q _ (I5.hok.fresh (Nat.le_refl _))⟩
  · subst ex
    cases r1
    obtain ⟨its, r, ht, hz⟩ := I5.tuple hx
    have hlen := r.length
    show wpAny (model X.prog X.w) X.A (subscriptTail e (.Slice none none (some (.UnaryOp .USub (.Constant (.int 1) k p1) p2)) p3) (.ref a) (.ref s4.heap.objs.size)) (L2.EP X pins σ Q) X.xe _
    refine tail_any (ops := [.ref a, .ref s4.heap.objs.size]) ht.typeIs (PyProof.Rows.slot_tuple_getitem.lookup) ?_ (by with_unfolding_all rfl)
    refine HT.getItem_tuple_back ht (Heap.IsSliceOf.new _ vl vu vs) pl pu ps ?_ (by rw [List.size_toArray]; omega)
    exact ⟨.ref _, _, I5.laid (t' := s4.toks) (o := .tup xs.reverse) (fun b ob q => Heap.get?_push_of_some _ q) (Nat.le_refl _) ⟨by rw [List.length_reverse]; exact hz, _, r.reverse, PyProof.Rows.IsTup.new _ _⟩, rfl, q _ (I5.hok.fresh (Nat.le_refl _))⟩
end
end DL

namespace DL
open PySem PySem.Spec PyProof.Rows L2
/-! ### enumerate(t), t a tuple -/
def IteT (K : PySem.W.Frag) (a : Addr) : It :=
  ⟨fun i H => ∃ (xs : List V) (x : V), SqT K H a xs ∧ xs[i]? = some x, fun i H v H' => ∃ T x, v = .ref T ∧ H T = none ∧ H' = upd H T (.tup [.int (i : Nat), x]) ∧ ∀ xs, SqT K H a xs → xs[i]? = some x, fun i H => ∃ xs : List V, SqT K H a xs ∧ i = xs.length⟩
theorem cls_ne {h : Heap} {a b : Addr} {o u : Obj} (ha : h.get? a = some o) (hb : h.get? b = some u) (n : o.cls ≠ u.cls) : a ≠ b := fun e => by
  subst e
  rw [ha] at hb
  cases hb
  exact n rfl
theorem turn_enumT {P : Program} {w : World} {K : PySem.W.Frag} {elts : List Expr} {kk : Nat} {tpos : Pos} (a e it : Addr) :
    Turn P w K (.Tuple elts kk tpos) (IteT K a) [e, it] e (fun i h => (∃ old, IsEnum h e it ((i : Nat) : Int) old) ∧ h.IsTupleIter it a i ∧ e ≠ it) where
  mem := by simp
  obj := fun i h st b hb => by
    obtain ⟨⟨old, he⟩, ⟨o, ho, hc, hd⟩, _⟩ := st
    rcases (show b = e ∨ b = it by simpa using hb) with z | z
    · rw [z]; exact ⟨_, he, fun v q => nomatch q⟩
    · rw [z]; exact ⟨o, ho, fun v q => by rw [hd] at q; cases q⟩
  keep := fun i h h' st k => let ⟨⟨old, he⟩, hi, hne⟩ := st; ⟨⟨old, k e (by simp) _ he⟩, hi.at fun o q => k it (by simp) o q, hne⟩
  item := by
    intro X hP hw hK hc i pins s σ H E I hf st hg
    subst hP hw hK
    obtain ⟨⟨old, he⟩, hit, hne⟩ := st
    obtain ⟨xs, x, hq, hx⟩ := hg
    obtain ⟨its, rv, p, hz⟩ := I.tuple hq
    obtain ⟨u, hu, ru⟩ := rv.get hx
    obtain ⟨op, hop, hcp, _⟩ := id p
    obtain ⟨oi, hoi, hci, _⟩ := id hit
    have n1 : a ≠ it := cls_ne hop hoi (by rw [hcp, hci]; decide)
    have n2 : e ≠ a := cls_ne he hop (by rw [hcp]; exact (by decide : Value.type "enumerate" ≠ Value.type "tuple"))
    have G := GoesN.enumFrom (prog := X.prog) (w := X.w) (A := X.A) (elts := elts) (x1 := kk) (pos := tpos) 0 (Draws.tuple (prog := X.prog) (w := X.w) (A := X.A.in1) (I.ok.hd hc) it a n1 its.toArray) e hne (by simp [hne, n2]) (by simp)
    have lt : i < its.toArray.size := by
      obtain ⟨q, _⟩ := List.getElem?_eq_some_iff.mp hu
      simpa using q
    refine G.goes i s _ E lt ⟨⟨old, by rw [Int.zero_add]; exact he⟩, hit, p⟩ fun v h' tk Y S keep _ => ?_
    obtain ⟨T, t, y, ev, hT, hy, hTt⟩ := Y
    obtain ⟨⟨old', he'⟩, hit', _⟩ := S
    have ey : y = u := by
      have q : its.toArray[i]? = some u := by simpa using hu
      rw [q] at hy
      cases hy
      rfl
    subst ey
    rw [Int.zero_add] at hTt he'
    have new : ObjOk X.prog X.w (upd H T (.tup [.int (i : Nat), x])) h' T (.tup [.int (i : Nat), x]) := ⟨by show 2 ≤ sizeLine; decide, [.int i t, y], .cons ⟨_, rfl⟩ (.cons ru .nil), hTt⟩
    have J : Inv X pins σ (upd H T (.tup [.int (i : Nat), x])) { s with heap := h', toks := tk } := I.turnedNew (ch := [e, it]) (fun b o hb q => keep b o hb q) hf hT new
    refine ⟨.ref T, _, J, ev, ⟨_, x, rfl, I.hok.fresh hT, rfl, fun ys hy => by rw [I.tuple_inj hy hq]; exact hx⟩, ⟨⟨old', he'⟩, hit', hne⟩, fun b hb => ?_⟩
    have hbT : b ≠ T := by
      have lb : b < s.heap.objs.size := by
        rcases (show b = e ∨ b = it by simpa using hb) with z | z
        · rw [z]; exact Heap.lt_size he
        · rw [z]; exact Heap.lt_size hoi
      exact Nat.ne_of_lt (Nat.lt_of_lt_of_le lb hT)
    rw [upd_ne hbT]
    exact (hf b hb).1
  done := by
    intro X hP hw hK hc i pins s σ H E I hf st hg
    subst hP hw hK
    obtain ⟨⟨old, he⟩, hit, hne⟩ := st
    obtain ⟨xs, hq, hx⟩ := hg
    obtain ⟨its, rv, p, hz⟩ := I.tuple hq
    obtain ⟨op, hop, hcp, _⟩ := id p
    obtain ⟨oi, hoi, hci, _⟩ := id hit
    have n1 : a ≠ it := cls_ne hop hoi (by rw [hcp, hci]; decide)
    have n2 : e ≠ a := cls_ne he hop (by rw [hcp]; exact (by decide : Value.type "enumerate" ≠ Value.type "tuple"))
    obtain ⟨f0, f1, f2, f3, f4, f5⟩ := hf it (by simp)
    have D := Draws.tuple (prog := X.prog) (w := X.w) (A := X.A.in1) (I.ok.hd hc) it a n1 its.toArray
    have en : i = its.toArray.size := by
      rw [hx, List.size_toArray]
      exact rv.length
    exact wpAny_pyNext_enum_endD D he (by rw [← en]; exact ⟨hit, p⟩) fun h' hx => ⟨rfl, I.turned (t' := s.toks) (fun b o hb y => hx b o hb y) f0 f1 f3 f4 f5⟩
  self := fun A i s Q E st h => let ⟨⟨_, he⟩, _⟩ := st; wpAny_pyIter_enum he h
def iEnA (K : PySem.W.Frag) (ta : TA) : TI := fun σ H R => ta σ H fun vs H1 => ∃ a xs, vs = [.ref a] ∧ SqT K H1 a xs ∧ R (IteT K a) H1
theorem meets_enum_tup (l : Addr) (items : Array Value) (n : Nat) (dct : Option Addr) (sl : Array (Option Value)) :
    Meets (Builtin.«enumerate.__new__» ⟨[.type "enumerate", .ref l], []⟩) (fun _ R s => s.heap.get? l = some { cls := .type "tuple", dict := dct, data := .seq items n, slots := sl } ∧
      R (.ok (.ret (.ref (s.heap.push { cls := .type "tuple_iterator", data := .fields #[.ref l, .int 0 0] }).objs.size)))
        { s with heap := (s.heap.push { cls := .type "tuple_iterator", data := .fields #[.ref l, .int 0 0] }).push { cls := .type "enumerate", data := .fields #[.none, .bool false, .ref s.heap.objs.size, rawInt 0, .none, .none] } }) :=
  .of_wp fun prog w A R s h => by
    obtain ⟨hp, g, d, tk, os⟩ := s
    obtain ⟨hl, h⟩ := h
    have hsub := sub_enumerate
    have hT : Heap.IsTuple (Shared.heap ⟨hp, g, d, tk, os⟩) l items := ⟨_, hl, rfl, n, rfl⟩
    have q1 : ∀ {A' : Around} {E : Value → Shared → Prop} {Q : Value → Shared → Prop}, Q (.ref hp.objs.size) ⟨hp.push { cls := .type "tuple_iterator", data := .fields #[.ref l, .int 0 0] }, g, d, tk, os⟩ → wpAny (model prog w) A' (pyIter (.ref l)) Q E ⟨hp, g, d, tk, os⟩ :=
      fun q => wpAny_pyIter_tuple hT q
    wp_walk using q1
    refine wpAny_stack_any fun st => wpAny_pure ?_
    split
    · rename_i c _ _ _ _ _
      cases (c == Value.type "enumerate") <;> (wp_walk using q1; exact ⟨_, rfl, h⟩)
    · wp_walk using q1
      exact ⟨_, rfl, h⟩
theorem call_enum_tup {prog : Program} {w : World} {A : Around} {E : Value → Shared → Prop} {s : Shared} {l : Addr} {items : Array Value} {Q : Value → Shared → Prop} (hL : s.heap.IsTuple l items)
    (h : ∀ h', IsEnum h' (s.heap.objs.size + 1) s.heap.objs.size 0 .none → h'.IsTupleIter s.heap.objs.size l 0 →
      (∀ b o, s.heap.get? b = some o → h'.get? b = some o) → Q (.ref (s.heap.objs.size + 1)) { s with heap := h' }) :
    wpAny (model prog w) A (call (.type "enumerate") [.ref l]) Q E s := by
  obtain ⟨⟨c, dct, dt, sl⟩, hl, hc, n, hd⟩ := hL
  replace hc : c = .type "tuple" := hc
  replace hd : dt = .seq items n := hd
  subst hc hd
  refine callType_new F.called_enumerate (by decide) (F.typeCall_enumerate_1 _) (F.newCall_enumerate_1 _) (fun obj => F.args_object_init_2 obj _) F.entry_enumerate_new
    (meets_enum_tup l items n dct sl) ⟨hl, ?_⟩
  have hz : (s.heap.push { cls := .type "tuple_iterator", data := .fields #[.ref l, .int 0 0] }).objs.size = s.heap.objs.size + 1 := Heap.size_push ..
  show _ ∧ _
  rw [hz]
  have he : IsEnum ((s.heap.push { cls := .type "tuple_iterator", data := .fields #[.ref l, .int 0 0] }).push
      { cls := .type "enumerate", data := .fields #[.none, .bool false, .ref s.heap.objs.size, rawInt 0, .none, .none] }) (s.heap.objs.size + 1) s.heap.objs.size 0 .none := by
    have q := Heap.get?_push_size (s.heap.push { cls := .type "tuple_iterator", data := .fields #[.ref l, .int 0 0] })
      (o := { cls := .type "enumerate", data := .fields #[.none, .bool false, .ref s.heap.objs.size, rawInt 0, .none, .none] }) rfl
    rw [hz] at q
    exact q
  exact ⟨⟨_, he, rfl⟩, h _ he ⟨_, Heap.get?_push_of_some _ (Heap.get?_push_size _ rfl), rfl, rfl⟩ fun b o x => Heap.get?_push_of_some _ (Heap.get?_push_of_some _ x)⟩
theorem pi_enumA {X : Cx} (K : PySem.W.Frag) {e : Expr} {ta : TA} {p pos tpos : Pos} {elts : List Expr} {kk : Nat} (hg : Gl X "enumerate") (hm : X.mg "enumerate" = none) (ha : PA X [e] ta) (hs : starEach [e] X.env = [(false, eval e X.env)] := by rfl) (hK : X.K = K := by rfl) :
    PI X (.Tuple elts kk tpos) (.Call (.Name "enumerate" p) [e] [] pos) (iEnA K ta) := by
  subst hK
  refine ⟨fun pins s σ H R I h => ?_⟩
  refine Call_ (ld_blt I hg hm boot_enumerate (PyProof.Rows.callWith_type1 (thn (ha.run pos pins s σ H _ I h) fun us s1 hh => ?_) hs rfl))
  obtain ⟨vs, H1, I1, r1, a, xs, ex, hq, q⟩ := hh
  subst ex
  cases r1 with
  | cons r rr =>
    cases rr
    cases r
    obtain ⟨its, rv, p', hz⟩ := I1.tuple hq
    refine call_enum_tup (show s1.heap.IsTuple a its.toArray from p') fun h' he hit hk => wpAny_pyIter_enum he ?_
    have I2 : Inv X pins σ H1 { s1 with heap := h' } := I1.kept (t' := s1.toks) hk
    refine ⟨s1.heap.objs.size + 1, [s1.heap.objs.size + 1, s1.heap.objs.size], _, _, H1, rfl, I2, turn_enumT a (s1.heap.objs.size + 1) s1.heap.objs.size, ⟨⟨.none, he⟩, hit, Nat.succ_ne_self _⟩, fun b hb => ?_, q⟩
    have hle : s1.heap.objs.size ≤ b := by
      rcases (show b = s1.heap.objs.size + 1 ∨ b = s1.heap.objs.size by simpa using hb) with z | z
      · rw [z]; exact Nat.le_succ _
      · rw [z]; exact Nat.le_refl _
    exact I1.fpOk hle (I1.hok.fresh hle)
def numd (ds : List PyData) : List SV := ds.zipIdx.map fun p => SV.d (.tuple [.int (p.2 : Nat), p.1])
def miEnum (ms : MA) : MI := fun env E Q => ms env E fun xs e => ∃ ds, xs = [.d (.tuple ds)] ∧ Q (numd ds) e
theorem numd_get {ds : List PyData} {i : Nat} {x : SV} (h : (numd ds)[i]? = some x) : ∃ d, ds[i]? = some d ∧ x = .d (.tuple [.int (i : Nat), d]) := by
  unfold numd at h
  rw [List.getElem?_map, List.getElem?_zipIdx] at h
  cases q : ds[i]? with
  | none => rw [q] at h; cases h
  | some d =>
    rw [q] at h
    cases h
    exact ⟨d, rfl, by simp⟩
theorem numd_length {ds : List PyData} : (numd ds).length = ds.length := by unfold numd; rw [List.length_map, List.length_zipIdx]
theorem it_enum {K : PySem.W.Frag} {A : Amb} {F : Hp} {a : Addr} {vs : List V} {ds : List PyData} (h : SqT K F a vs) (r : DqAll K F vs ds) : Iters K A F (IteT K a) (numd ds) := fun F2 H2 e ok i => by
  have hs : SqT K H2 a vs := ex_t ok.sub (ex_t e h)
  refine ⟨fun x hx => ?_, fun hn => ⟨vs, hs, by rw [numd_length] at hn; rw [hn, r.length]⟩⟩
  obtain ⟨d, hd, ex⟩ := numd_get hx
  subst ex
  obtain ⟨v, hv, rv⟩ := r.get hd
  refine ⟨⟨vs, v, hs, hv⟩, fun w H3 y => ?_⟩
  obtain ⟨T, u, ew, hT, e3, hy⟩ := y
  have z := hy vs hs
  rw [hv] at z
  cases z
  subst ew e3
  obtain ⟨s, q⟩ := res_tup (K := K) (vs := [.int (i : Nat), v]) (ds := [.int (i : Nat), d]) ok hT (.cons (.int _) (.cons (Dq.up e rv) .nil))
  exact ⟨_, s, q⟩
theorem ei_enum {C : Ctx} {ta : TA} {ms : MA} (h : EA C ta ms) : EI C (iEnA C.K ta) (miEnum ms) := fun F1 env pend σ F H Qi R I hm k =>
  h F1 env pend σ F H _ _ I hm fun xs e vs F' H' ⟨ds, ex, q⟩ hl J => by
    have ra := J.args hl
    subst ex
    cases ra with
    | cons r1 r2 =>
      cases r2
      cases r1 with
      | tup hs rq => exact ⟨_, _, rfl, ex_t J.ok.sub hs, k _ e F' H' _ q J.pops (it_enum hs rq)⟩
end DL

namespace DL
open PySem L2
variable {K : PySem.W.Frag} {A : Amb} {C : Ctx} {F H : Hp}
def fSortedA : List SV → (SD → Prop) → Prop
  | [.d d], Q => ∃ ds ns, items d = some ds ∧ intsOf ds = some ns ∧ ∀ ns' : List Int, ns'.Perm ns → ns'.Pairwise (· ≤ ·) → Q (.own (.lst (leafs (ns'.map PyData.int))))
  | _, _ => False
theorem fc_sortedA : FC K A (rSortedA K) fSortedA := fun F H vs xs Qd Q ok r f k => by
  unfold fSortedA at f
  split at f
  · obtain ⟨ds, ns, hi, h, q⟩ := f
    cases r with
    | cons r1 r2 =>
      cases r2
      cases r1 with
      | lst hs ra =>
        cases hi
        rw [intsOf_eq h] at ra
        rw [ra.ints] at hs
        exact ⟨_, ns, rfl, Or.inl (Or.inl (Or.inl (ok.sub _ _ hs))), fun ns' p h1 h2 hp => k _ _ _ _ (q ns' h1 h2) (res_lst ok hp (DqAll.ofInts ns'))⟩
      | tup hs ra =>
        cases hi
        rw [intsOf_eq h] at ra
        rw [ra.ints] at hs
        exact ⟨_, ns, rfl, Or.inr (ex_t ok.sub hs), fun ns' p h1 h2 hp => k _ _ _ _ (q ns' h1 h2) (res_lst ok hp (DqAll.ofInts ns'))⟩
      | non => cases hi
      | bl _ => cases hi
      | int _ => cases hi
      | str _ => cases hi
      | dct0 _ => cases hi
  · exact f.elim
def fBack : SV → (SD → Prop) → Prop
  | .d (.list ds), Q => Q (.own (.lst (leafs ds.reverse)))
  | .d (.tuple ds), Q => Q (.v (.d (.tuple ds.reverse)))
  | _, _ => False
theorem em_back {te : TE} {m : MX} (h : EM C te m) : EM C (tBack C.K te) (mUn fBack m) := fun F1 env pend σ F H Qd Q I hm k =>
  h.val F1 env pend σ F H _ _ I hm fun x e v F1' H1 m1 J => by
    have rx := J.topV
    unfold fBack at m1
    split at m1
    · cases rx with
      | lst hs ra => exact Or.inl ⟨_, _, rfl, Or.inl (Or.inl (J.ok.sub _ _ hs)), fun p hp => k _ e _ _ _ m1 (J.pop.push (res_lst J.ok hp ra.reverse))⟩
    · cases rx with
      | tup hs ra => exact Or.inr ⟨_, _, rfl, ex_t J.ok.sub hs, fun p hp => k _ e _ _ _ m1 (J.pop.push (res_tup J.ok hp ra.reverse))⟩
    · exact m1.elim
def sPar3 (ms : MO) (i j l : Nat) : MS := fun env E P => ms env E fun rs e => ∃ r s t, rs = [r, s, t] ∧ i ≠ j ∧ i ≠ l ∧ j ≠ l ∧ P.nx (((e.set i r).set j s).set l t)
theorem sm_par3 {ta : TA} {ms : MO} {i j l : Nat} (h : EO C ta ms) : SM C (tPar3 i j l ta) (sPar3 ms i j l) := fun F1 env σ F H P De I hm k =>
  h F1 env [] σ F H _ _ I hm fun rs e vs F' H' ⟨r, s, t, er, hij, hil, hjl, q⟩ hl J => by
    subst er
    match vs, hl with
    | [u, v, w], _ =>
      refine ⟨u, v, w, rfl, ?_⟩
      have J1 : ENV C F1 e ([(u, r), (v, s)] ++ [(w, t)]) σ F' H' := J
      have J2 : ENV C F1 (e.set l t) ([(u, r)] ++ [(v, s)]) (σ.set l (some w)) F' H' := J1.setTop l
      have J3 := J2.setTop j
      have J4 := ENV.setTop (pend := []) J3 i
      have e1 : ((e.set l t).set j s).set i r = ((e.set i r).set j s).set l t := by
        rw [List.set_comm _ _ (Ne.symm hjl), List.set_comm _ _ (Ne.symm hil), List.set_comm _ _ (Ne.symm hij)]
      have e2 : ((σ.set l (some w)).set j (some v)).set i (some u) = ((σ.set i (some u)).set j (some v)).set l (some w) := by
        rw [List.set_comm _ _ (Ne.symm hjl), List.set_comm _ _ (Ne.symm hil), List.set_comm _ _ (Ne.symm hij)]
      rw [e1, e2] at J4
      exact k.nx _ _ F' H' J4 q
section
variable {X : Cx} (K : PySem.W.Frag)
theorem kSortedA (h : X.K = K := by rfl) : CallR X (.builtin "sorted") (rSortedA K) := by subst h; exact cr_sortedA
theorem kBack {e : Expr} {te : TE} {k : Nat} {p1 p2 p3 pos : Pos} (he : PE X e te) (h : X.K = K := by rfl) : PE X (.Subscript e (.Slice none none (some (.UnaryOp .USub (.Constant (.int 1) k p1) p2)) p3) pos) (tBack K te) := by subst h; exact pe_back he
end
end DL

namespace DL
open PySem L2
variable {A : Amb} {C : Ctx} {F H : Hp}
section
variable {X : Cx} {k : Nat} {x : Str} {ps : List Str} {sp : Sp} {e : Expr} {es : List Expr} {t : TA} {p pos : Pos} {E : XK} {W : WX}
/-- a call whose exceptions leave this def too -/
theorem pe_calX (c : Cal X.prog X.w X.K X.mg X.base (L2.CX X.prog X.w) k x ps sp) (hr : Room k X.A) (tk : Takes X (fun cls d _ H => E cls d H)) (ha : PA X (e :: es) t) (hg : Gl X x := by rfl) (hdb : (x == ("__debug__" : Str)) = false := by decide)
    (he : starEach (e :: es) X.env = (false, eval e X.env) :: starEach es X.env := by rfl) (hpl : (backTo pos (starEach es X.env)).any (·.1) = false := by rfl) : PE X (.Call (.Name x p) (e :: es) [] pos) (tCall sp [] E t) := by
  obtain ⟨f, fd, ⟨m, _⟩, kp, b, F⟩ := c
  exact pe_call F hr hg m kp b .nil (passes_call tk fun _ _ _ _ h => h) ha hdb he hpl
end
/-! ### an own error with one field -/
/-- __init__: self.f = v -/
def spIni (K : PySem.W.Frag) (C : Addr) (f : Str) : Sp := fun vs H Q _ => ∃ a v, vs = [.ref a, v] ∧ H a = some (exo a C none) ∧ ∀ dx, H dx = none → dx ≠ a → Q .non (upd (upd H dx (exd dx [(f, v)])) a (exo a C (some dx)))
/-- what the written part says of the class x at C, whose __init__(self, g) says self.f = g -/
structure ErrC (P : Program) (w : World) (K : PySem.W.Frag) (mg : Str → Option Value) (base : Heap) (k : Nat) (x : Str) (C : Addr) (f : Str) (ps : List Str) : Prop where
  o : OexC K C
  ini : ∃ fI fd, PySem.W.findIn K (.ref C) "__init__" = some (some (.ref fI)) ∧ PySem.W.typeIn K (.ref fI) = some (.type "function") ∧ FnOk P w K mg base CX0 k fI fd ps (spIni K C f) ∧ Binds K fd ps []
  g : mg x = some (.ref C)
def tRaise (K : PySem.W.Frag) (C : Addr) (f : Str) (E : XK) (ta : TA) : TS := fun _ σ H => tMkO C (spIni K C f) [] ta σ H fun cls d H' => E cls d H'
theorem ps_rz {X : Cx} {k : Nat} {x f : Str} {Ca : Addr} {ps : List Str} {E : XK} {e : Expr} {es : List Expr} {ta : TA} {p p2 pos : Pos} (c : ErrC X.prog X.w X.K X.mg X.base k x Ca f ps) (hr : Room (k + 1) X.A) (hc : X.calm = true) (tk : Takes X (fun cls d _ H => E cls d H)) (ha : PA X (e :: es) ta)
    (hg : Gl X x := by rfl) (hdb : (x == ("__debug__" : Str)) = false := by decide) (he : starEach (e :: es) X.env = (false, eval e X.env) :: starEach es X.env := by rfl) (hpl : (backTo p2 (starEach es X.env)).any (·.1) = false := by rfl) :
    PS X (.Raise (some (.Call (.Name x p) (e :: es) [] p2)) none pos) (tRaise X.K Ca f E ta) := by
  obtain ⟨fI, fd, iC, tI, F1, b⟩ := c.ini
  exact ps_raise hc tk (pmk_oex c.o iC tI F1 hr b .nil pass0 hg c.g ha hdb he hpl)
def sRaise (Ca : Addr) (f : Str) (ms : MA) : MS := fun env E P => ms env E fun xs e => ∃ x, xs = [x] ∧ E ⟨Ca, [(f, x)]⟩
theorem sm_raise {Ca : Addr} {f : Str} {ta : TA} {ms : MA} (h : EA C ta ms) : SM C (tRaise C.K Ca f C.E ta) (sRaise Ca f ms) := fun F1 env σ F H P De I hm k =>
  h F1 env [] σ F H _ _ I hm fun xs e vs F' H' ⟨x, ex, q⟩ hl J => by
    have ra := J.args hl
    have J0 := J.pops
    subst ex
    cases ra with
    | @cons v _ _ _ r1 r2 =>
      cases r2
      refine ⟨(show 1 ≤ 1000 by decide), fun a ha => ⟨a, v, rfl, upd_same, fun dx hdx na => ⟨rfl, dx, [(f, v)], upd_same, ?_, ?_, ?_⟩⟩⟩
      · rw [upd_ne na, upd_same]
      · have z : dx ≠ a := na
        rw [upd_ne z] at hdx
        exact hdx
      · have hdx' : H' dx = none := by
          rw [upd_ne na] at hdx
          exact hdx
        have eH : upd (del (upd (upd (upd H' a (exo a Ca none)) dx (exd dx [(f, v)])) a (exo a Ca (some dx))) a) dx (.xd [(f, v)]) = upd H' dx (.xd [(f, v)]) := by
          funext b
          by_cases q1 : b = dx
          · subst q1
            rw [upd_same, upd_same]
          · rw [upd_ne q1, upd_ne q1]
            by_cases q2 : b = a
            · subst q2
              rw [del_same, ha]
            · rw [del_ne q2, upd_ne q2, upd_ne q1, upd_ne q2]
        rw [eH]
        have st := Step.fresh (A := C.A) (o := .xd [(f, v)]) J0.ok hdx'
        exact C.hE _ q _ _ F' _ (J0.step.trans st) ⟨rfl, [(f, v)], .cons ⟨rfl, r1.up (Ex.refl _)⟩ .nil, Or.inr ⟨by simp, dx, rfl, upd_same⟩⟩
/-- tuple(range(n)) -/
def mTupRg1 (m : MX) : MX := fun env E Q => m env E fun r e => ∃ n, r.frz = some (SVi n) ∧ -(2 ^ 62) ≤ n ∧ n ≤ BIG ∧ Q (.v (.d (.tuple (rngD 0 n)))) e
theorem em_tupRg1 {te : TE} {m : MX} (h : EM C te m) : EM C (tTupRg (tRg1 te)) (mTupRg1 m) := fun F1 env pend σ F H Qd Q I hm k =>
  h F1 env pend σ F H _ _ I hm fun r e v F1' H1 ⟨n, er, n0, n1, q⟩ J => by
    obtain ⟨F2, _, J2⟩ := J.frzTop er
    have t := J2.topV
    cases t
    have n2 : n ≤ 1000000 := n1
    exact ⟨n, rfl, ⟨by decide, by decide, n0, by omega, by omega⟩, fun p hp => k _ e _ _ _ q (J2.pop.push (res_tup J2.ok hp (rgV_dq 0 n)))⟩
def fNeg : SV → (SD → Prop) → Prop
  | .d (.int i), Q => Q (.v (SVi (-i)))
  | _, _ => False
theorem fu_neg {K : PySem.W.Frag} : FU K A (rU fun i => .int (-i)) fNeg := fun F H x dx Qd Q ok rx f k => by
  unfold fNeg at f
  split at f
  · cases rx
    exact ⟨_, rfl, k _ _ F H f (res_same ok (.int _))⟩
  · exact f.elim
end DL

/-! A def that hands back new lists to be changed; the draws' heap; the law's own walk behind it. -/
namespace DL
open PySem L2
variable {K : PySem.W.Frag} {A : Amb} {C : Ctx} {F H : Hp}
/-- a def that hands back what it has made, own -/
def SpecO (K : PySem.W.Frag) (A : Amb) (n : Nat) (m : List SV → (SD → Prop) → Prop) : Sp := fun vs H Q _ => ∃ (F : Hp) (xs : List SV) (Qd : SD → Prop), Ok A F H ∧ RepVs K F vs xs ∧ xs.length = n ∧ m xs Qd ∧ ∀ r v F' H', Qd r → Res K A F H v r F' H' → Q v H'
def mCallO (m : List SV → (SD → Prop) → Prop) (ms : MA) (n : Nat) : MX := fun env E Q => ms env E fun xs e => xs.length = n ∧ m xs fun r => Q r e
theorem em_callO {n : Nat} {m : List SV → (SD → Prop) → Prop} {ta : TA} {ms : MA} (h : EA C ta ms) : EM C (tCall (SpecO C.K C.A n m) [] (fun _ _ _ => False) ta) (mCallO m ms n) := fun F1 env pend σ F H Qd Q I hm k =>
  h F1 env pend σ F H _ _ I hm fun xs e vs F' H' ⟨hn, q⟩ hl J => by
    show SpecO C.K C.A n m (vs ++ []) H' Q _
    rw [List.append_nil]
    exact ⟨F', xs, _, J.ok, J.args hl, hn, q, fun r v F2 H2 q res => k r e v F2 H2 q (J.pops.push res)⟩
theorem specO_len {n : Nat} {m : List SV → (SD → Prop) → Prop} {vs : List V} {Q : VK} {E : XK} (h : SpecO K A n m vs H Q E) : vs.length = n := by
  obtain ⟨F, xs, Qd, ok, rv, hn, _⟩ := h
  exact rv.length.trans hn
/-- what stands behind the last step of a def, as what the def has made -/
theorem ENV.res {F1 F H : Hp} {env : Env} {σ : St} {v : V} {r : SD} (I : ENV C F1 env [(v, r)] σ F H) (hr : r ≠ .un) : Res C.K C.A C.F0 C.H0 v r F H := by
  obtain ⟨fe, fq, nd, s1, s2⟩ := I.slots
  refine ⟨I.step, ?_⟩
  cases r with
  | un => exact absurd rfl hr
  | v x =>
    cases s2 with
    | v r t => exact r
  | own o =>
    cases s2 with
    | @own _ _ f1 f2 _ _ r t =>
      cases t
      rw [List.append_nil] at nd
      exact ⟨f1, (List.nodup_append.mp nd).1, r⟩
/-- a body whose last step hands back what it has made -/
abbrev MSO := Env → XP → (SD → Prop) → Prop
def SMO (C : Ctx) (ts : TS) (m : MSO) : Prop := ∀ F1 env σ F H (Qd : SD → Prop) (De : Ends), ENV C F1 env [] σ F H → m env C.Ed Qd → (∀ r v F' H', Qd r → Res C.K C.A C.F0 C.H0 v r F' H' → De.rt v H') → ts De σ H
def oSeq (m : MS) (n : MSO) : MSO := fun env E Q => m env E { nx := fun e => n e E Q, rt := fun _ => False }
theorem smo_seq {t u : TS} {m : MS} {n : MSO} (h : SM C t m) (g : SMO C u n) : SMO C (tSeq t u) (oSeq m n) := fun F1 env σ F H Qd De I hm k =>
  h F1 env σ F H _ _ I hm ⟨fun e σ' F' H' J q => g F1 e σ' F' H' Qd De J q k, fun _ _ _ _ _ _ z => z.elim, fun _ _ _ _ _ z => z.elim, fun _ _ _ _ _ z => z.elim⟩
def oRet (m : MX) : MSO := fun env E Q => m env E fun r _ => Q r ∧ r ≠ .un
theorem smo_ret {te : TE} {m : MX} (h : EM C te m) : SMO C (tRet te) (oRet m) := fun F1 env σ F H Qd De I hm k =>
  h F1 env [] σ F H _ _ I hm fun r e v F' H' q J => k r v F' H' q.1 (ENV.res (C := C) J q.2)
theorem fnO {N : List Str} {t : TS} {m : MSO} {f : List SV → (SD → Prop) → Prop} {n : Nat} {vs : List V} {Q : VK} {E : XK} (hN : n ≤ N.length)
    (hm : ∀ (xs : List SV) (Qd : SD → Prop), xs.length = n → f xs Qd → m (env0 N.length xs) (fun _ => False) Qd)
    (h : SpecO K A n f vs H Q E) (ht : ∀ F0 H0 Ed ok0 hE, SMO ⟨K, A, F0, H0, E0, Ed, ok0, hE⟩ t m) :
    t { nx := fun _ H' => Q .non H', rt := Q } (L2.start N vs) H := by
  obtain ⟨F, xs, Qd, ok, rv, hn, hf, kQ⟩ := h
  have hl := rv.length
  refine ht F H (fun _ => False) ok (fun _ h => h.elim) F (env0 N.length xs) (L2.start N vs) F H Qd _ ?_ (hm xs Qd hn hf) kQ
  refine ⟨Step.refl ok, Ex.refl F, [], [], by simp, ?_, .nil⟩
  unfold L2.start env0
  rw [hl]
  exact slots_args _ rv
/-- the draws' heap, fresh -/
def IsHeap (r : SD) : Prop := ∃ (cells : List Int) (stir : Int), r = .own (.lst [.lst (leafs (cells.map PyData.int)), .leaf (SVi stir)]) ∧ (∀ c ∈ cells, 0 ≤ c) ∧ 0 ≤ stir ∧ stir < 2147483647 ∧ cells.length ≤ 2 ^ 24
theorem leafs_ints {H0 : Hp} : ∀ {cells : List Int} {vs : List V} {fp : List Addr}, RepOs K F H H0 vs (leafs (cells.map PyData.int)) fp → vs = cells.map V.int ∧ fp = []
  | [], _, _, .nil => ⟨rfl, rfl⟩
  | c :: cs, _, _, .cons (.leaf r) t => by
    obtain ⟨e1, e2⟩ := leafs_ints (cells := cs) t
    cases r
    exact ⟨by rw [e1]; rfl, by rw [e2]; rfl⟩
theorem heap_box {H0 : Hp} {v : V} {cells : List Int} {stir : Int} {fp : List Addr} (nd : fp.Nodup) (r : RepO K F H H0 v (.lst [.lst (leafs (cells.map PyData.int)), .leaf (SVi stir)]) fp) (hp : ∀ c ∈ cells, 0 ≤ c) (h0 : 0 ≤ stir) (h1 : stir < 2147483647) (hl : cells.length ≤ 2 ^ 24) (ok : Ok A0 F H) :
    ∃ b : Box, v = .ref b.h ∧ Ok (ABox b) F H := by
  cases r with
  | lst a1 a2 a3 t =>
    cases t with
    | cons t1 t2 =>
      cases t2 with
      | cons t3 t4 =>
        cases t4
        cases t3 with
        | leaf r3 =>
        cases r3
        cases t1 with
        | lst b1 b2 b3 t =>
          obtain ⟨e1, e2⟩ := leafs_ints t
          subst e1
          subst e2
          refine ⟨⟨_, _, ?_⟩, rfl, ok.sub, ⟨cells, stir, a1, b1, hp, h0, h1, hl⟩, fun a z => ?_⟩
          · intro e
            subst e
            simp at nd
          · rcases z with z | z
            · subst z; exact ⟨a2, by rw [a1]; exact fun q => by cases q⟩
            · subst z; exact ⟨b2, by rw [b1]; exact fun q => by cases q⟩
/-! ### the script: a list that was there, perhaps of the written part -/
theorem sqL_keep {H' : Hp} {a : Addr} {xs : List V} (h : SqL K H a xs) (k : ∀ o, H a = some o → H' a = some o) : SqL K H' a xs := by
  rcases h with (h | ⟨o, h⟩) | h
  · exact Or.inl (Or.inl (k _ h))
  · exact Or.inl (Or.inr ⟨o, k _ h⟩)
  · exact Or.inr h
def mSlR (a : Addr) (ns : List Int) (i : Nat) (l h : MP) : MX := fun env E Q => env[i]? = some (.v (.r (.ref a))) ∧ l env E fun lo e2 => h e2 E fun hi e3 => Q (.own (.lst (leafs (cutD (ns.map PyData.int) lo hi)))) e3
theorem ints_dq {F : Hp} : ∀ ns : List Int, DqAll K F (ns.map V.int) (ns.map PyData.int)
  | [] => .nil
  | n :: ns => .cons (.int n) (ints_dq ns)
theorem em_slR {a : Addr} {ns : List Int} {i : Nat} {tl th : TO} {ml mh : MP} (hS : SqL C.K C.H0 a (ns.map V.int)) (hB : ¬ C.A.B a) (hl : EP C tl ml) (hh : EP C th mh) : EM C (tSl (rSlAll C.K) (tVar i) tl th) (mSlR a ns i ml mh) := fun F1 env pend σ F H Qd Q I ⟨hi, m⟩ k => by
  obtain ⟨v, e, r⟩ := I.slotV hi
  have r' : v = .ref a := r
  subst r'
  exact ⟨_, e, hl F1 env pend σ F H _ _ I m fun lo e2 F2 H2 m2 J2 => hh F1 e2 pend σ F2 H2 _ _ J2 m2 fun hi e3 F3 H3 m3 J3 =>
    Or.inl ⟨a, _, rfl, sqL_keep hS fun o q => J3.step.keep a o hB q, fun p hp => k _ e3 _ _ _ m3 (J3.push (res_lst J3.ok hp (cut_dq (ints_dq ns))))⟩⟩
/-- heap = _law_heap(script, i) -/
def SpecH (K : PySem.W.Frag) : Sp := fun vs H Q _ => ∃ (F : Hp) (a : Addr) (ns : List Int) (i : Int), vs = [.ref a, .int i] ∧ SqL K H a (ns.map V.int) ∧ Ok A0 F H ∧ ns.length ≤ 1000 ∧ 0 ≤ i ∧ i ≤ 1000 ∧ ∀ r v F' H', IsHeap r → Res K A0 F H v r F' H' → Q v H'
theorem fnH {n : Nat} {t : TS} {m : Addr → List Int → MSO} {vs : List V} {N : List Str} {Q : VK} {E : XK} (hN : N.length = n + 2) (h : SpecH K vs H Q E)
    (hm : ∀ (a : Addr) (ns : List Int) (i : Int), ns.length ≤ 1000 → 0 ≤ i → i ≤ 1000 → m a ns (.v (.r (.ref a)) :: .v (SVi i) :: List.replicate n .un) (fun _ => False) IsHeap)
    (ht : ∀ F0 H0 Ed ok0 hE a ns, SqL K H0 a (ns.map V.int) → SMO ⟨K, A0, F0, H0, E0, Ed, ok0, hE⟩ t (m a ns)) : t { nx := fun _ H' => Q .non H', rt := Q } (L2.start N vs) H := by
  obtain ⟨F, a, ns, i, rfl, hS, ok, hl, i0, i1, kQ⟩ := h
  refine ht F H (fun _ => False) ok (fun _ h => h.elim) a ns hS F _ _ F H IsHeap _ ?_ (hm a ns i hl i0 i1) kQ
  refine ⟨Step.refl ok, Ex.refl F, [], [], by simp, ?_, .nil⟩
  unfold L2.start
  rw [hN]
  exact .v rfl (.v (.int i) (slots_un n))
theorem specH_len {vs : List V} {Q : VK} {E : XK} (h : SpecH K vs H Q E) : vs.length = 2 := by
  obtain ⟨F, a, ns, i, rfl, _⟩ := h
  rfl
/-- heap = _law_heap(script, i), then the rest -/
theorem fnBox {n : Nat} {i : Int} {rest : TS} {a : Addr} {ns : List Int} {m : Box → MS} {D : Ends} (hS : SqL K H a (ns.map V.int)) (hl : ns.length ≤ 1000) (i0 : 0 ≤ i) (i1 : i ≤ 1000)
    (hm : ∀ b : Box, m b (.v (.r (.ref a)) :: .v (.r (.ref b.h)) :: List.replicate n .un) (fun _ => False) { nx := fun _ => False, rt := fun y => y = .d (.bool true) })
    (ht : ∀ b F0 H0 Ed ok0 hE, SM ⟨K, ABox b, F0, H0, E0, Ed, ok0, hE⟩ rest (m b)) (hQ : ∀ H', D.rt (.bl true) H') :
    tSeq (tAsg (tCall (SpecH K) [] E0 (tCons (tVar 0) (tCons (tC (.int i)) tNil))) (gName 1)) rest D (some (.ref a) :: none :: List.replicate n none) H := by
  refine ⟨_, rfl, fun _ => none, a, ns, i, rfl, hS, ⟨(fun _ _ z => nomatch z), trivial, fun _ z => False.elim z⟩, hl, i0, i1, ?_⟩
  rintro r u F1 H1 ⟨cells, stir, er, hp, h0, h1, hl⟩ ⟨st, hr⟩
  subst er
  obtain ⟨fp, nd, ro⟩ := hr
  obtain ⟨b, eb, okb⟩ := heap_box nd ro hp h0 h1 hl st.ok
  subst eb
  refine ht b F1 H1 (fun _ => False) okb (fun _ h => h.elim) F1 _ (some (.ref a) :: some (.ref b.h) :: List.replicate n none) F1 H1 _ _ ?_ (hm b) ⟨fun _ _ _ _ _ z => z.elim, fun y v' F' H' s rr e => ?_, fun _ _ _ _ _ z => z.elim, fun _ _ _ _ _ z => z.elim⟩
  · exact ⟨Step.refl okb, Ex.refl F1, [], [], by simp, .v rfl (.v rfl (slots_un n)), .nil⟩
  · subst e
    cases rr
    exact hQ H'
end DL

/-! How mirrors are reckoned. -/
namespace DL
open PySem L2
variable {mg : SV → Env → (Env → Prop) → Prop} {mt : MT} {me : MX} {mb : MS} {E : XP} {P : Post}
theorem lcL_of {e0 : Env} {k : List O → Prop} (g : SV → List O) : ∀ (xs : List SV) (acc : List O),
    (∀ x ∈ xs, ∀ (acc : List O) (R : List O → Prop), R (acc ++ g x) → mg x e0 fun e1 => mt e1 E fun b e2 => e2 = e1 ∧ if b = true then me e1 E fun r e3 => e3 = e1 ∧ ∃ o, r.tree = some o ∧ R (acc ++ [o]) else R acc) →
    k (acc ++ xs.flatMap g) → lcL mg mt me e0 E k xs acc
  | [], acc, _, q => by
    rw [List.flatMap_nil, List.append_nil] at q
    exact q
  | x :: xs, acc, h, q => h x (List.mem_cons_self ..) acc (fun a => lcL mg mt me e0 E k xs a) (lcL_of g xs _ (fun y hy => h y (List.mem_cons_of_mem _ hy)) (by
      rw [List.flatMap_cons, ← List.append_assoc] at q
      exact q))
theorem loopE_of (I : List SV → Env → Prop) (stop : ∀ e, I [] e → P.nx e)
    (step : ∀ x xs e, I (x :: xs) e → ∀ R : Env → Prop, (∀ e2, I xs e2 → R e2) → mg x e fun e1 => mb e1 E { nx := R, ct := R, bk := P.nx, rt := P.rt }) :
    ∀ (xs : List SV) (e : Env), I xs e → loopE mg mb E P xs e
  | [], e, h => stop e h
  | x :: xs, e, h => step x xs e h _ fun e2 h2 => loopE_of I stop step xs e2 h2
theorem ints_frz (ns : List Int) : SD.frz (.own (.lst (leafs (ns.map PyData.int)))) = some (.d (.list (ns.map PyData.int))) := by
  show (O.dat (.lst (leafs _))).map SV.d = _
  rw [dat_lst] <;> rfl
theorem cutD_map {α β : Type} (f : α → β) (xs : List α) (lo hi : Option Int) : cutD (xs.map f) lo hi = (cutD xs lo hi).map f := by
  unfold cutD
  rw [List.length_map, List.map_take, List.map_drop]
def gInts (g : Int → List Int) : SV → List O
  | .d (.int c) => leafs ((g c).map PyData.int)
  | _ => []
theorem flat_ints (g : Int → List Int) : ∀ ns : List Int, ((ns.map PyData.int).map SV.d).flatMap (gInts g) = leafs ((ns.flatMap g).map PyData.int)
  | [] => rfl
  | n :: ns => by
    show leafs ((g n).map PyData.int) ++ List.flatMap _ ((ns.map PyData.int).map SV.d) = _
    rw [flat_ints g ns, List.flatMap_cons, List.map_append]
    unfold leafs
    rw [List.map_append]
theorem flat_one {α β : Type} (g : α → β) (ns : List α) : ns.flatMap (fun x => [g x]) = ns.map g := by
  induction ns with
  | nil => rfl
  | cons n ns ih => rw [List.flatMap_cons, ih]; rfl
theorem flat_if {α : Type} (p : α → Bool) (ns : List α) : ns.flatMap (fun x => if p x = true then [x] else []) = ns.filter p := by
  induction ns with
  | nil => rfl
  | cons n ns ih =>
    rw [List.flatMap_cons, ih]
    by_cases h : p n = true
    · rw [if_pos h, List.filter_cons_of_pos h]; rfl
    · rw [if_neg h, List.filter_cons_of_neg h]; rfl
theorem log2_lt63 {i : Int} (h : i.natAbs < 2 ^ 63) : i.natAbs.log2 < 63 := by
  rcases Nat.eq_zero_or_pos i.natAbs with z | z
  · rw [z]; decide
  · exact (Nat.log2_lt (by omega)).mpr h
theorem mul_small {i j : Int} (h : i.natAbs < 2 ^ 63) (g : j.natAbs < 2 ^ 63) : CMulW i j := by
  have := log2_lt63 h
  have := log2_lt63 g
  show i.natAbs.log2 + j.natAbs.log2 < 1000000
  omega
theorem modI {i n : Int} (h : 0 < n) : 0 ≤ i % n ∧ i % n < n := ⟨Int.emod_nonneg _ (by omega), Int.emod_lt_of_pos _ h⟩
end DL

/-! isinstance of a caught own error that has fields; what a law's own def tells of a call. -/
namespace DL
open PySem L2
/-- isinstance(e, c), e the caught exception, of the class D, its dict at d -/
def rIsD (K : PySem.W.Frag) (D a : Addr) (cls : Value) (d : Option Addr) : List V → Hp → VK → Prop := fun xs H Q => cls = .ref D ∧ ∃ (dd : Addr) (fs : List (Str × V)) (c : V) (cv : Value) (b : Bool), d = some dd ∧ H dd = some (.xd fs) ∧ xs = [.ref a, c] ∧ (∀ u, RelV c u → u = cv) ∧ PySem.W.kitOne K (.ref D) cv = some b ∧ Q (.bl b) H
theorem call_isD {X : Cx} {a D : Addr} {cls : Value} {d : Option Addr} {oe : Obj} {pn : List (Addr × Obj)} (C : ExcC X.K D) (hz : Zc cls d oe) (hf : ∃ vs, oe.data = .fields vs) : CallR (X.suite a ((a, oe) :: pn)) (.builtin "isinstance") (rIsD X.K D a cls d) := by
  rintro pins s σ H xs us Q I r ⟨ec, dd, fs, c, cv, b, ed, hd, rfl, hcv, e, q⟩
  subst ec
  subst ed
  cases r with
  | cons rx rr =>
    cases rr with
    | cons rt rr =>
      cases rr
      cases rx
      cases hcv _ rt
      obtain ⟨at0, _⟩ := I.pin (a, oe) (List.mem_append_left _ List.mem_cons_self)
      obtain ⟨mA, hns, hr⟩ : ObjOk X.prog X.w H s.heap dd (.xd fs) := I.hok dd _ hd
      obtain ⟨od, ho, _⟩ := lookIn_ns hns
      obtain ⟨vs, hv⟩ := hf
      have J : PySem.W.InstAt s.heap a oe D (some od) := ⟨at0, hz.1, by unfold PySem.W.notCls; rw [hv] <;> rfl, by rw [hz.2]; exact ho⟩
      obtain ⟨cd, hcd, _⟩ := PySem.W.any_some C.hd
      exact PySem.W.kia_one (PySem.W.kitx_exc (by rw [hcd] <;> rfl) C.hg C.hk C.hs C.ha C.hn C.ht C.hm) I.kIn J e (fun z => nomatch z) fun tk => ⟨.bl b, H, I.kept (t' := tk) fun _ _ z => z, rfl, q⟩
/-- what is said of an own error class C below S, one field f -/
structure ErrT (K : PySem.W.Frag) (mg : Str → Option Value) (C S : Addr) (x sx f : Str) : Prop where
  g : mg x = some (.ref C)
  gS : mg sx = some (.ref S)
  xc : ExcC K C
  xf : XfC K C
  no : PySem.W.findIn K (.ref C) f = some none
  te : PySem.W.exmOne K (.ref C) (.ref C) = some true
  kt : PySem.W.kitOne K (.ref C) (.ref S) = some true
theorem lookup_hd {f : Str} {v : V} {r : List (Str × V)} : List.lookup f ((f, v) :: r) = some v := by simp [List.lookup]
end DL

/-! f(a=e), all by keyword. -/
namespace DL
open PySem L2
section
variable {X : Cx} {CX : CXT} {k : Nat} {f : Addr} {fd : FuncData} {ps ks : List Str} {sp : Sp} {E : XK} {x : Str} {p pos : Pos} {kws : List Keyword} {tk : TA}
theorem pe_kw0 (F : FnOk X.prog X.w X.K X.mg X.base CX k f fd ps sp) (hr : Room k X.A) (hm : X.mg x = some (.ref f)) (hk : PySem.W.keepIn X.K (.ref f) = true) (hb : KBinds X.K fd ps ks (· ++ ·) (· ++ ·)) (hx : Passes CX X E) (hkw : PK X kws tk) (hg : Gl X x := by rfl)
    (hall : (backToKw pos (keywordEach kws X.env)).all (·.1.isSome) = true := by rfl) (hks : (backToKw pos (keywordEach kws X.env)).filterMap (·.1) = ks := by rfl) (hdb : (x == ("__debug__" : Str)) = false := by decide)
    (hpl : ((backTo pos (starEach [] X.env)).any (·.1) || (backToKw pos (keywordEach kws X.env)).any (·.1.isNone)) = false := by rfl) :
    PE X (.Call (.Name x p) [] kws pos) (tCall sp [] E tk) := by
  refine ⟨fun pins s σ H Q I h => wpAny_Call_Name_kw (ld_glob I hg hm ?_ hdb)⟩
  refine PySem.W.callWith_KW0 (h₀ := X.base) I.ok.mod.kin hk hall (thn (hkw.run pos pins s σ H _ I h) fun ws s2 ⟨zs, H2, I2, rz, q⟩ => ⟨I2.kIn, ?_⟩) hpl
  rw [hks]
  refine run_fnk (us := []) (vs := []) F hr hb hx I2 .nil rz ?_
  have q' : sp (zs ++ []) H2 Q E := q
  rw [List.append_nil] at q'
  exact q'
/-- the same, of a def that may raise, where it doesn't -/
theorem pe_calK (c : Cal X.prog X.w X.K X.mg X.base (L2.CX X.prog X.w) k x ps sp) (hb : ∀ (f : Addr) (fd : FuncData), X.mg x = some (.ref f) → (∃ oc od osl, X.K.lookup f = some ⟨oc, od, .func fd, osl⟩) → KBinds X.K fd ps ks (· ++ ·) (· ++ ·)) (hr : Room k X.A) (tk0 : Takes X (fun cls d _ H => E cls d H)) (hkw : PK X kws tk) (hg : Gl X x := by rfl)
    (hall : (backToKw pos (keywordEach kws X.env)).all (·.1.isSome) = true := by rfl) (hks : (backToKw pos (keywordEach kws X.env)).filterMap (·.1) = ks := by rfl) (hdb : (x == ("__debug__" : Str)) = false := by decide)
    (hpl : ((backTo pos (starEach [] X.env)).any (·.1) || (backToKw pos (keywordEach kws X.env)).any (·.1.isNone)) = false := by rfl) :
    PE X (.Call (.Name x p) [] kws pos) (tCall sp [] E tk) := by
  obtain ⟨f, fd, ⟨m, l⟩, kp, b, F⟩ := c
  exact pe_kw0 F hr m kp (hb f fd m l) (passes_call tk0 fun _ _ _ _ h => h) hkw hg hall hks hdb hpl
end
/-- all parameters, some by place, the others by keyword -/
theorem kbinds {K : PySem.W.Frag} {fd : FuncData} {ps ks : List Str} (h : ∀ us ws : List Value, us.length + ws.length = ps.length → bindArgs fd ⟨us, ks.zip ws⟩ = pure (ps.zip (us ++ ws))) : KBinds K fd ps ks (· ++ ·) (· ++ ·) :=
  ⟨fun s us ws _ hl => .of_eq (h us ws (by rw [← List.length_append]; exact hl)), fun a b => a.append b⟩
/-! ### calls behind the making of the draws' heap -/
/-- the promise for whatever box there is -/
def SpecB (K : PySem.W.Frag) (n : Nat) (m : Box → MF) : Sp := fun vs H Q E => ∃ b, SpecM K (ABox b) n (m b) vs H Q E
theorem em_callB {C : Ctx} {b : Box} {n : Nat} {m : Box → MF} {ta : TA} {ms : MA} (hA : C.A = ABox b) (h : EA C ta ms) : EM C (tCall (SpecB C.K n m) [] (fun _ _ _ => False) ta) (mCall (m b) ms n) := fun F1 env pend σ F H Qd Q I hm k =>
  h F1 env pend σ F H _ _ I hm fun xs e vs F' H' ⟨hn, q⟩ hl J => by
    show SpecB C.K n m (vs ++ []) H' Q _
    rw [List.append_nil]
    refine ⟨b, ?_⟩
    rw [← hA]
    exact ⟨F', xs, _, _, J.ok, J.args hl, hn, q, fun x v F2 H2 q s r => k _ e v F2 H2 q (J.pops.push ⟨s, r⟩), fun x hx => hx.elim⟩
/-- a law's def holds at every script -/
def spScript (K : PySem.W.Frag) : Sp := fun vs H Q _ => ∃ (a : Addr) (ns : List Int), vs = [V.ref a] ∧ SqL K H a (ns.map V.int) ∧ ns.length ≤ 63 ∧ ∀ G : Hp, Q (V.bl true) G
/-- by keyword, as the text of the def tells -/
theorem kb_of {K : PySem.W.Frag} {mg : Str → Option Value} {x qual : Str} {st : Stmt} {f : Addr} {fd : FuncData} {ps ks : List Str} (m : mg x = some (.ref f)) (U : Fun K x qual st f fd)
    (h : ∀ (kV doc pm : Value) (an : Option Addr) (cdv ct : Value) (us ws : List Value), us.length + ws.length = ps.length → bindArgs (PySem.W.fnOf x qual (defArgs st) (defBody st) (defScope st) .none kV doc pm an cdv ct) ⟨us, ks.zip ws⟩ = pure (ps.zip (us ++ ws))) :
    ∀ (f' : Addr) (fd' : FuncData), mg x = some (.ref f') → (∃ oc od osl, K.lookup f' = some ⟨oc, od, .func fd', osl⟩) → KBinds K fd' ps ks (· ++ ·) (· ++ ·) := by
  rintro f' fd' m' ⟨oc', od', osl', l'⟩
  rw [m] at m'
  cases m'
  obtain ⟨oc, od, kV, doc, pm, an, cdv, ct, osl, e, l, _⟩ := U.ex
  subst e
  rw [l] at l'
  cases l'
  exact kbinds (h kV doc pm an cdv ct)
theorem one_of {us ws : List Value} (h : us.length + ws.length = 1) : (∃ u, us = [u] ∧ ws = []) ∨ ∃ v, us = [] ∧ ws = [v] := by
  cases us with
  | nil =>
    cases ws with
    | nil => cases h
    | cons v ws =>
      cases ws with
      | nil => exact Or.inr ⟨v, rfl, rfl⟩
      | cons _ _ => simp only [List.length_cons, List.length_nil] at h; omega
  | cons u us =>
    have e1 : us.length = 0 := by simp only [List.length_cons] at h; omega
    have e2 : ws.length = 0 := by simp only [List.length_cons] at h; omega
    exact Or.inl ⟨u, by rw [List.length_eq_zero_iff.mp e1], List.length_eq_zero_iff.mp e2⟩
end DL

/-! Values and loops, reckoned. -/
namespace DL
open PySem L2
variable {mg : SV → Env → (Env → Prop) → Prop} {mt : MT} {me : MX} {mb : MS} {E : XP} {P : Post}
theorem loopE_ix {xs : List SV} {e : Env} (I : Nat → Env → Prop) (h0 : I 0 e) (stop : ∀ e, I xs.length e → P.nx e)
    (step : ∀ i x e, xs[i]? = some x → I i e → ∀ R : Env → Prop, (∀ e2, I (i + 1) e2 → R e2) → mg x e fun e1 => mb e1 E { nx := R, ct := R, bk := P.nx, rt := P.rt }) : loopE mg mb E P xs e := by
  refine loopE_of (fun ys e => ∃ i, ys = xs.drop i ∧ i ≤ xs.length ∧ I i e) ?_ ?_ xs e ⟨0, rfl, Nat.zero_le _, h0⟩
  · rintro e ⟨i, hy, hi, h⟩
    have : (xs.drop i).length = 0 := by rw [← hy]; rfl
    rw [List.length_drop] at this
    have e1 : i = xs.length := by omega
    subst e1
    exact stop e h
  · rintro x ys e ⟨i, hy, hi, h⟩ R hR
    have hx : xs[i]? = some x := by
      have : (xs.drop i)[0]? = some x := by rw [← hy]; rfl
      rw [List.getElem?_drop] at this
      exact this
    refine step i x e hx h R fun e2 h2 => hR e2 ⟨i + 1, ?_, ?_, h2⟩
    · have : (xs.drop i).drop 1 = ys := by rw [← hy]; rfl
      rw [List.drop_drop] at this
      rw [← this]
    · obtain ⟨q, _⟩ := List.getElem?_eq_some_iff.mp hx
      exact q
theorem rgD_get {lo : Int} {n i : Nat} {x : SV} (h : (rgD lo n)[i]? = some x) : i < n ∧ x = SVi (lo + i) := by
  unfold rgD at h
  rw [List.getElem?_map] at h
  by_cases q : i < n
  · rw [List.getElem?_range q] at h
    exact ⟨q, (Option.some.inj h).symm⟩
  · rw [List.getElem?_eq_none (by rw [List.length_range]; omega)] at h
    cases h
theorem rgD_len {lo : Int} {n : Nat} : (rgD lo n).length = n := by
  unfold rgD
  rw [List.length_map, List.length_range]
theorem numd_len {ds : List PyData} : (numd ds).length = ds.length := by
  unfold numd
  rw [List.length_map, List.length_zipIdx]
def natD (k : Nat) : PyData := .int (k : Int)
theorem atN {α : Type} {xs : List α} {k : Nat} {a : α} (h : xs[k]? = some a) : atI xs (k : Int) = some a := by
  obtain ⟨q, _⟩ := List.getElem?_eq_some_iff.mp h
  show (ixN xs.length (k : Int)).bind _ = _
  have e : ixN xs.length (k : Int) = some k := by
    unfold ixN
    rw [if_pos (by omega), if_pos (by omega)]
    simp
  rw [e]
  exact h
theorem nats_ints (ns : List Nat) : ns.map natD = (ns.map fun k : Nat => (k : Int)).map PyData.int := by
  rw [List.map_map]; rfl
theorem can_ints : ∀ ns : List Int, PyData.canLayAll0 (ns.map PyData.int) = true
  | [] => rfl
  | n :: ns => by
    show PyData.canLayAll0 (.int n :: ns.map PyData.int) = true
    simp only [PyData.canLayAll0, PyData.canLay0, Bool.true_and]
    exact can_ints ns
theorem depth_ints : ∀ ns : List Int, PyData.depthAll (ns.map PyData.int) ≤ 1
  | [] => by simp [PyData.depthAll]
  | n :: ns => by
    simp only [List.map_cons, PyData.depthAll, PyData.depth]
    have := depth_ints ns
    omega
theorem shaped_lst (ns : List Int) : SeqAt.shaped (.list (ns.map PyData.int)) = true := by
  show (PyData.canLay0 (.list (ns.map PyData.int)) && decide (PyData.depth (.list (ns.map PyData.int)) ≤ 64)) = true
  rw [Bool.and_eq_true]
  refine ⟨by simp only [PyData.canLay0]; exact can_ints ns, decide_eq_true ?_⟩
  have := depth_ints ns
  simp only [PyData.depth]
  omega
theorem shaped_tup (ns : List Int) : SeqAt.shaped (.tuple (ns.map PyData.int)) = true := by
  show (PyData.canLay0 (.tuple (ns.map PyData.int)) && decide (PyData.depth (.tuple (ns.map PyData.int)) ≤ 64)) = true
  rw [Bool.and_eq_true]
  refine ⟨by simp only [PyData.canLay0]; exact can_ints ns, decide_eq_true ?_⟩
  have := depth_ints ns
  simp only [PyData.depth]
  omega
theorem eqvAll_ints : ∀ as bs : List Int, PyData.eqvAll (as.map PyData.int) (bs.map PyData.int) = decide (as = bs)
  | [], [] => by simp [PyData.eqvAll]
  | [], _ :: _ => by simp [PyData.eqvAll]
  | _ :: _, [] => by simp [PyData.eqvAll]
  | a :: as, b :: bs => by
    simp only [List.map_cons, PyData.eqvAll, PyData.eqv, eqvAll_ints as bs, List.cons.injEq]
    by_cases h : a = b <;> simp [h]
theorem eqv_lst (as bs : List Int) : PyData.eqv (.list (as.map PyData.int)) (.list (bs.map PyData.int)) = decide (as = bs) := by
  simp only [PyData.eqv, eqvAll_ints]
theorem eqv_tup (as bs : List Int) : PyData.eqv (.tuple (as.map PyData.int)) (.tuple (bs.map PyData.int)) = decide (as = bs) := by
  simp only [PyData.eqv, eqvAll_ints]
theorem eqv_int (a b : Int) : PyData.eqv (.int a) (.int b) = decide (a = b) := by
  simp only [PyData.eqv]
  by_cases h : a = b <;> simp [h]
theorem shaped_int (a : Int) : SeqAt.shaped (.int a) = true := by
  show (PyData.canLay0 (.int a) && decide (PyData.depth (.int a) ≤ 64)) = true
  simp [PyData.canLay0, PyData.depth]
theorem rngD_ints (n : Nat) : rngD 0 (n : Int) = (List.range n).map natD := by
  unfold rngD
  have : ((n : Int) - 0).toNat = n := by omega
  rw [this]
  congr 1
  funext i
  show PyData.int (0 + (i : Int)) = natD i
  rw [Int.zero_add]; rfl
/-- the first index with p -/
theorem find_first {p : Nat → Bool} {n i : Nat} (hi : i < n) (h : p i = true) (lo : ∀ j, j < i → p j = false) : (List.range n).find? p = some i := by
  rw [List.find?_range_eq_some]
  exact ⟨h, List.mem_range.mpr hi, fun j hj => by rw [lo j hj]; rfl⟩
theorem find_none {p : Nat → Bool} {n : Nat} (lo : ∀ j, j < n → p j = false) : (List.range n).find? p = none := by
  rw [List.find?_range_eq_none]
  exact fun j hj => by rw [lo j hj]; rfl
theorem ifF {c : Bool} {A B : Prop} (e : c = false) (h : B) : if c = true then A else B := by
  rw [if_neg (by rw [e]; exact Bool.false_ne_true)]; exact h
theorem ifT {c : Bool} {A B : Prop} (e : c = true) (h : A) : if c = true then A else B := by
  rw [if_pos e]; exact h
theorem ifE {c : Bool} {A B : Prop} (h1 : c = true → A) (h2 : c = false → B) : if c = true then A else B := by
  cases hc : c with
  | true => rw [if_pos rfl]; exact h1 hc
  | false => rw [if_neg Bool.false_ne_true]; exact h2 hc
theorem castN_inj : ∀ {as bs : List Nat}, (as.map fun k : Nat => (k : Int)) = (bs.map fun k : Nat => (k : Int)) ↔ as = bs
  | [], [] => by simp
  | [], _ :: _ => by simp
  | _ :: _, [] => by simp
  | a :: as, b :: bs => by
    rw [List.map_cons, List.map_cons, List.cons.injEq, List.cons.injEq, castN_inj]
    exact and_congr_left' (by omega)
theorem eqv_tupN (as bs : List Nat) : PyData.eqv (.tuple (as.map natD)) (.tuple (bs.map natD)) = decide (as = bs) := by
  rw [nats_ints, nats_ints, eqv_tup]
  exact decide_eq_decide.mpr castN_inj
theorem eqv_lstN (as bs : List Nat) : PyData.eqv (.list (as.map natD)) (.list (bs.map natD)) = decide (as = bs) := by
  rw [nats_ints, nats_ints, eqv_lst]
  exact decide_eq_decide.mpr castN_inj
theorem eqv_natD (a b : Nat) : PyData.eqv (natD a) (natD b) = decide (a = b) := by
  unfold natD
  rw [eqv_int]
  exact decide_eq_decide.mpr (by omega)
theorem shaped_tupN (as : List Nat) : SeqAt.shaped (.tuple (as.map natD)) = true := by rw [nats_ints]; exact shaped_tup _
theorem shaped_lstN (as : List Nat) : SeqAt.shaped (.list (as.map natD)) = true := by rw [nats_ints]; exact shaped_lst _
def gNats (f : Nat → Nat) : SV → List O
  | .d (.int c) => [.leaf (.d (natD (f c.toNat)))]
  | _ => []
theorem flat_nats (f : Nat → Nat) : ∀ ns : List Nat, ((ns.map natD).map SV.d).flatMap (gNats f) = leafs ((ns.map f).map natD)
  | [] => rfl
  | n :: ns => by
    show (gNats f (.d (natD n))) ++ List.flatMap (gNats f) ((ns.map natD).map SV.d) = _
    rw [flat_nats f ns]
    rfl
theorem numd_map {xs : List PyData} {i : Nat} {x : SV} (h : (numd xs)[i]? = some x) : ∃ d, xs[i]? = some d ∧ x = .d (.tuple [natD i, d]) := numd_get h
theorem frz_lst (ds : List PyData) : SD.frz (.own (.lst (leafs ds))) = some (.d (.list ds)) := by
  show (O.dat (.lst (leafs _))).map SV.d = _
  rw [dat_lst] <;> rfl
end DL

namespace K36
open PySem L2 DL
def top (i : Nat) : Stmt := PySem.Challenge.pw_sharedunseen_k36_tables_taken_and_refuse.main.body.getD i (.Pass ⟨0, 0, 0, 0⟩)
structure Er where
  e_InvalidTable : Addr
def b_is_below : MS :=
  (sRet (vAnd (mCB fIsi (aCons (mVar 0) (aCons (mC (.r (.ty "int"))) aNil))) (vAnd (vNot (mCB fIsi (aCons (mVar 0) (aCons (mC (.r (.ty "bool"))) aNil)))) (mChain fLe fLt (mC (SVi 0)) (mVar 0) (mVar 1)))))
def m_is_below : MF := fun xs _ Q => b_is_below (env0 2 xs) (fun _ => False) { nx := fun _ => Q (.d .none), rt := Q }
abbrev s_is_below : MF := m_is_below
theorem hs_is_below : ∀ xs E Q, xs.length = 2 → s_is_below xs E Q → m_is_below xs E Q := fun _ _ _ _ h => h
def b_is_order : MS :=
  (sSeq (sIf (mOr (mNot (tbl (mCB fIsi (aCons (mVar 0) (aCons (mC (.r (.ty "tuple"))) aNil))))) (tbl (mOp fNe (mLenVar 0) (mVar 1)))) (sRet (mC (SVb false))) sNext)
    (sSeq (sSet (mOp fMul (mLst (oCons (mC (SVb false)) oNil)) (mVar 1)) 2)
    (sSeq (sFor (miSeq (mVar 0)) (gmName 3) (sSeq (sIf (mOr (mNot (tbl (mCall (s_is_below) (aCons (mVar 3) (aCons (mVar 1) aNil)) 2))) (tbl (mIxVar 2 (mVar 3)))) (sRet (mC (SVb false))) sNext)
    (sPut 2 (mC (SVb true)) (mVar 3))))
    (sRet (mC (SVb true))))))
def m_is_order : MF := fun xs _ Q => b_is_order (env0 4 xs) (fun _ => False) { nx := fun _ => Q (.d .none), rt := Q }
abbrev s_is_order : MF := m_is_order
theorem hs_is_order : ∀ xs E Q, xs.length = 2 → s_is_order xs E Q → m_is_order xs E Q := fun _ _ _ _ h => h
def b_is_associative : MS :=
  (sSeq (sFor (miEnum (aCons (mVar 0) aNil)) (gmTup 2 (gmCons (gmName 2) (gmCons (gmName 3) gmNil))) (sIf (tbl (mOp fNe (mCB fTuple (aCons (mLc (miSeq (mVar 3)) (gmName 4) (fun env _ Q => Q true env) (mIxVar 1 (mVar 4)) [4]) aNil)) (mCB fTuple (aCons (mIxVar 0 (mIxVar 1 (mVar 2))) aNil)))) (sRet (mC (SVb false))) sNext))
    (sRet (mC (SVb true))))
def m_is_associative : MF := fun xs _ Q => b_is_associative (env0 5 xs) (fun _ => False) { nx := fun _ => Q (.d .none), rt := Q }
abbrev s_is_associative : MF := m_is_associative
theorem hs_is_associative : ∀ xs E Q, xs.length = 2 → s_is_associative xs E Q → m_is_associative xs E Q := fun _ _ _ _ h => h
def b_check_table (er : Er) : MS :=
  (sSeq (sIf (mOr (mNot (tbl (mCB fIsi (aCons (mVar 0) (aCons (mC (.r (.ty "tuple"))) aNil))))) (mNot (tbl (mChain fLe fLe (mC (SVi 1)) (mLenVar 0) (mC (SVi 200)))))) (sRaise er.e_InvalidTable "at" (aCons (mUn fNeg (mC (SVi 1))) aNil)) sNext)
    (sSeq (sSet (mLenVar 0) 1)
    (sSeq (sFor (miEnum (aCons (mVar 0) aNil)) (gmTup 2 (gmCons (gmName 2) (gmCons (gmName 3) gmNil))) (sSeq (sIf (mOr (mNot (tbl (mCall (s_is_order) (aCons (mVar 3) (aCons (mVar 1) aNil)) 2))) (tbl (mOp fNe (mIxVar 3 (mC (SVi 0))) (mVar 2)))) (sRaise er.e_InvalidTable "at" (aCons (mVar 2) aNil)) sNext)
    (sIf (mAnd (tbl (mOp fEq (mVar 2) (mC (SVi 0)))) (tbl (mOp fNe (mCB fList (aCons (mVar 3) aNil)) (mLstRg1 (mVar 1))))) (sRaise er.e_InvalidTable "at" (aCons (mC (SVi 0)) aNil)) sNext)))
    (sFor (miEnum (aCons (mVar 0) aNil)) (gmTup 2 (gmCons (gmName 2) (gmCons (gmName 3) gmNil))) (sIf (mNot (tbl (mCall (s_is_associative) (aCons (mVar 0) (aCons (mVar 3) aNil)) 2))) (sRaise er.e_InvalidTable "at" (aCons (mVar 2) aNil)) sNext)))))
def m_check_table (er : Er) : MF := fun xs E Q => b_check_table er (env0 4 xs) E { nx := fun _ => Q (.d .none), rt := Q }
abbrev s_check_table (er : Er) : MF := m_check_table er
theorem hs_check_table (er : Er) : ∀ xs E Q, xs.length = 1 → s_check_table er xs E Q → m_check_table er xs E Q := fun _ _ _ _ h => h
def b__law_heap (a : Addr) (ns : List Int) : MSO :=
  (oSeq (sSet (mLc (miSeq (mSlR a ns 0 (pSome (mVar 1)) (pSome (mC (SVi 48))))) (gmName 3) (fun env _ Q => Q true env) (mCB fAbs (aCons (mVar 3) aNil)) [3]) 2)
    (oSeq (sSet (mOp fAdd (mC (SVi 6971)) (mOp fMul (mC (SVi 37)) (mVar 1))) 4)
    (oSeq (sFor (miSeq (mVar 2)) (gmName 3) (sSet (mOp fMod (mCB fInt (aCons (mOp fAdd (mOp fAdd (mOp fMul (mVar 4) (mC (SVi 48271))) (mOp fMod (mCB fInt (aCons (mVar 3) aNil)) (mC (SVi 2147483549)))) (mC (SVi 19))) aNil)) (mC (SVi 2147483647))) 4))
    (oRet (mLst (oCons (mUn fBack (mLc (miSeq (mVar 2)) (gmName 3) (tbl (mOp fGe (mVar 3) (mOp fPow (mC (SVi 10)) (mC (SVi 18))))) (mVar 3) [3])) (oCons (mVar 4) oNil)))))))
theorem hs__law_heap (a : Addr) (ns : List Int) (base : Int) (hl : ns.length ≤ 1000) (b0 : 0 ≤ base) (b1 : base ≤ 1000) : b__law_heap a ns (.v (.r (.ref a)) :: .v (SVi base) :: List.replicate 3 .un) (fun _ => False) IsHeap := by
  have lc : (cutD ns (some base) (some 48)).length ≤ 1000 := by
    unfold cutD
    rw [List.length_take, List.length_drop]
    omega
  generalize ecs : cutD ns (some base) (some 48) = cs at lc
  have ec : cutD (ns.map PyData.int) (some base) (some 48) = cs.map PyData.int := by rw [cutD_map, ecs]
  refine ⟨rfl, _, rfl, _, rfl, ?_⟩
  show ∃ d ds, _
  rw [ec]
  refine ⟨_, _, ints_frz _, rfl, by rw [List.length_map, List.length_map]; show _ ≤ 1000000; omega, rfl, ?_⟩
  refine lcL_of (gInts fun c => [if c < 0 then -c else c]) _ _ (fun x hx acc R q => ?_) ?_
  · obtain ⟨d, hd, rfl⟩ := List.mem_map.mp hx
    obtain ⟨c, hc, rfl⟩ := List.mem_map.mp hd
    exact ⟨rfl, _, rfl, rfl, _, rfl, q⟩
  rw [flat_ints (fun c => [if c < 0 then -c else c]), flat_one, List.nil_append]
  generalize eg : cs.map (fun c : Int => if c < 0 then -c else c) = gs
  have hg : ∀ c ∈ gs, 0 ≤ c := by
    intro c hc
    rw [← eg] at hc
    obtain ⟨c', _, rfl⟩ := List.mem_map.mp hc
    split <;> omega
  have hgl : gs.length ≤ 1000 := by rw [← eg, List.length_map]; exact lc
  refine ⟨_, rfl, _, rfl, _, rfl, mul_small (by decide) (by omega), _, rfl, ?_⟩
  refine ⟨_, dat_lst _, _, _, rfl, rfl, ?_⟩
  refine loopE_of (fun xs e => (∀ x ∈ xs, ∃ c : Int, x = SVi c) ∧ ∃ (x3 : SD) (stir : Int), x3.plain = true ∧ e = [.v (.r (.ref a)), .v (SVi base), .v (.d (.list (gs.map PyData.int))), x3, .v (SVi stir)] ∧ 0 ≤ stir ∧ stir < 2147483647) ?stop ?step _ _ ⟨fun x hx => ?_, _, _, rfl, rfl, by omega, by omega⟩
  case step =>
    rintro x xs _ ⟨hx, x3, stir, _, rfl, s0, s1⟩ R hR
    obtain ⟨c, rfl⟩ := hx _ (List.mem_cons_self ..)
    refine ⟨_, rfl, _, rfl, mul_small (by omega) (by decide), _, rfl, _, rfl, _, rfl, _, rfl, (by show (0 : Int) < 2147483549; decide), _, rfl, _, rfl, _, rfl, _, rfl, _, rfl, _, rfl, (by show (0 : Int) < 2147483647; decide), ?_⟩
    exact hR _ ⟨fun y hy => hx y (List.mem_cons_of_mem _ hy), _, _, rfl, rfl, modI (by decide)⟩
  case stop =>
    rintro _ ⟨_, x3, stir, hp, rfl, s0, s1⟩
    refine ⟨_, _, rfl, rfl, by rw [List.length_map, List.length_map]; show _ ≤ 1000000; omega, (by show (x3.plain && true) = true; rw [hp]; rfl), ?_⟩
    refine lcL_of (gInts fun c => if decide ((10 : Int) ^ (18 : Int).toNat ≤ c) = true then [c] else []) _ _ (fun x hx acc R q => ?_) ?_
    · obtain ⟨d, hd, rfl⟩ := List.mem_map.mp hx
      obtain ⟨c, hc, rfl⟩ := List.mem_map.mp hd
      refine ⟨_, rfl, _, rfl, _, rfl, ⟨by decide, by decide, by decide⟩, _, rfl, _, rfl, rfl, ?_⟩
      by_cases h : decide ((10 : Int) ^ (18 : Int).toNat ≤ c) = true
      · rw [if_pos h]
        have q' : R (acc ++ leafs ((if decide ((10 : Int) ^ (18 : Int).toNat ≤ c) = true then [c] else []).map PyData.int)) := q
        rw [if_pos h] at q'
        exact ⟨rfl, _, rfl, q'⟩
      · rw [if_neg h]
        have q' : R (acc ++ leafs ((if decide ((10 : Int) ^ (18 : Int).toNat ≤ c) = true then [c] else []).map PyData.int)) := q
        rw [if_neg h] at q'
        have e0 : acc ++ leafs (([] : List Int).map PyData.int) = acc := by simp [leafs]
        rw [e0] at q'
        exact q'
    rw [flat_ints (fun c => if decide ((10 : Int) ^ (18 : Int).toNat ≤ c) = true then [c] else []), flat_if, List.nil_append]
    refine ⟨_, ints_frz _, ?_⟩
    show (fun r => _) _
    refine ⟨_, rfl, (by show 2 ≤ 1000000; decide), ⟨(gs.filter fun c => decide ((10 : Int) ^ (18 : Int).toNat ≤ c)).reverse, stir, by rw [List.map_reverse], fun c hc => hg c (List.mem_filter.mp (List.mem_reverse.mp hc)).1, s0, s1, ?_⟩, fun z => nomatch z⟩
    rw [List.length_reverse]
    have := List.length_filter_le (fun c => decide ((10 : Int) ^ (18 : Int).toNat ≤ c)) gs
    omega
  · obtain ⟨d, hd, rfl⟩ := List.mem_map.mp hx
    obtain ⟨c, hc, rfl⟩ := List.mem_map.mp hd
    exact ⟨c, rfl⟩

abbrev s__law_draw := s_draw

def b__law_pick (b : Box) : MS :=
  (sRet (mIxVar 1 (mCall (s__law_draw b) (aCons (mVar 0) (aCons (mLenVar 1) aNil)) 2)))
def m__law_pick (b : Box) : MF := fun xs _ Q => b__law_pick b (env0 2 xs) (fun _ => False) { nx := fun _ => Q (.d .none), rt := Q }
abbrev s__law_pick (b : Box) : MF := m__law_pick b
theorem hs__law_pick (b : Box) : ∀ xs E Q, xs.length = 2 → s__law_pick b xs E Q → m__law_pick b xs E Q := fun _ _ _ _ h => h
def b__law_order (b : Box) : MS :=
  (sSeq (sSet (mLst oNil) 2)
    (sSeq (sFor (miRng1 (aCons (mVar 1) aNil)) (gmName 3) (sIns 2 (aCons (mCall (s__law_draw b) (aCons (mVar 0) (aCons (mOp fAdd (mLenVar 2) (mC (SVi 1))) aNil)) 2) (aCons (mVar 3) aNil))))
    (sRet (mVar 2))))
def m__law_order (b : Box) : MF := fun xs _ Q => b__law_order b (env0 4 xs) (fun _ => False) { nx := fun _ => Q (.d .none), rt := Q }
abbrev s__law_order (b : Box) : MF := m__law_order b
theorem hs__law_order (b : Box) : ∀ xs E Q, xs.length = 2 → s__law_order b xs E Q → m__law_order b xs E Q := fun _ _ _ _ h => h
def b__law_table : MS :=
  (sSeq (sAsg (mVar 0) (gmTup 4 (gmCons (gmName 1) (gmCons (gmName 2) (gmCons (gmName 3) (gmCons (gmName 4) gmNil))))))
    (sSeq (sSet (mLst oNil) 5)
    (sSeq (sFor (miRng1 (aCons (mOp fMul (mVar 1) (mVar 2)) aNil)) (gmName 6) (sSeq (sPar (oCons (mIf (tbl (mOp fGe (mVar 6) (mVar 1))) (mVar 3) (mC (SVi 1))) (oCons (mLst oNil) oNil)) 8 9)
    (sSeq (sFor (miRng1 (aCons (mOp fMul (mVar 1) (mVar 2)) aNil)) (gmName 7) (sSeq (sSet (mIf (mAnd (tbl (mOp fGe (mVar 6) (mVar 1))) (tbl (mOp fGe (mVar 7) (mVar 1)))) (mVar 4) (mC (SVi 0))) 10)
    (sSeq (sPar (oCons (mOp fMod (mCB fInt (aCons (mOp fAdd (mOp fAdd (mOp fMod (mVar 6) (mVar 1)) (mOp fMul (mVar 8) (mOp fMod (mVar 7) (mVar 1)))) (mVar 10)) aNil)) (mVar 1)) (oCons (mOp fMod (mCB fInt (aCons (mOp fAdd (mOp fDiv (mVar 6) (mVar 1)) (mOp fDiv (mVar 7) (mVar 1))) aNil)) (mVar 2)) oNil)) 11 12)
    (sApp 9 (mOp fAdd (mVar 11) (mOp fMul (mVar 1) (mVar 12)))))))
    (sApp 5 (mVar 9)))))
    (sRet (mVar 5)))))
def m__law_table : MF := fun xs _ Q => b__law_table (env0 13 xs) (fun _ => False) { nx := fun _ => Q (.d .none), rt := Q }
abbrev s__law_table : MF := m__law_table
theorem hs__law_table : ∀ xs E Q, xs.length = 1 → s__law_table xs E Q → m__law_table xs E Q := fun _ _ _ _ h => h
def b__law_renamed : MS :=
  (sSeq (sSet (mLc (miSeq (mVar 0)) (gmName 3) (fun env _ Q => Q true env) (mOp fMul (mLst (oCons (mC (SVi 0)) oNil)) (mLenVar 0)) [3]) 2)
    (sSeq (sFor (miRng1 (aCons (mLenVar 0) aNil)) (gmName 3) (sFor (miRng1 (aCons (mLenVar 0) aNil)) (gmName 4) (sPut2 2 (mIxVar 1 (mOp fIx (mIxVar 0 (mVar 3)) (mVar 4))) (mIxVar 1 (mVar 3)) (mIxVar 1 (mVar 4)))))
    (sRet (mCB fTuple (aCons (mLc (miSeq (mVar 2)) (gmName 5) (fun env _ Q => Q true env) (mCB fTuple (aCons (mVar 5) aNil)) [5]) aNil)))))
def m__law_renamed : MF := fun xs _ Q => b__law_renamed (env0 6 xs) (fun _ => False) { nx := fun _ => Q (.d .none), rt := Q }
abbrev s__law_renamed : MF := m__law_renamed
theorem hs__law_renamed : ∀ xs E Q, xs.length = 2 → s__law_renamed xs E Q → m__law_renamed xs E Q := fun _ _ _ _ h => h
def b__law_drawn (b : Box) : MS :=
  (sSeq (sSet (mLst (oCons (mTup (aCons (mC (SVi 1)) (aCons (mC (SVi 1)) (aCons (mC (SVi 1)) (aCons (mC (SVi 0)) aNil))))) (oCons (mTup (aCons (mC (SVi 2)) (aCons (mC (SVi 1)) (aCons (mC (SVi 1)) (aCons (mC (SVi 0)) aNil))))) (oCons (mTup (aCons (mC (SVi 3)) (aCons (mC (SVi 1)) (aCons (mC (SVi 1)) (aCons (mC (SVi 0)) aNil))))) (oCons (mTup (aCons (mC (SVi 2)) (aCons (mC (SVi 2)) (aCons (mC (SVi 1)) (aCons (mC (SVi 0)) aNil))))) (oCons (mTup (aCons (mC (SVi 4)) (aCons (mC (SVi 1)) (aCons (mC (SVi 1)) (aCons (mC (SVi 0)) aNil))))) (oCons (mTup (aCons (mC (SVi 5)) (aCons (mC (SVi 1)) (aCons (mC (SVi 1)) (aCons (mC (SVi 0)) aNil))))) (oCons (mTup (aCons (mC (SVi 3)) (aCons (mC (SVi 2)) (aCons (mOp fSub (mC (SVi 0)) (mC (SVi 1))) (aCons (mC (SVi 0)) aNil))))) (oCons (mTup (aCons (mC (SVi 6)) (aCons (mC (SVi 1)) (aCons (mC (SVi 1)) (aCons (mC (SVi 0)) aNil))))) oNil))))))))) 1)
    (sSeq (sSet (mCall (s__law_pick b) (aCons (mVar 0) (aCons (mOp fAdd (mVar 1) (mLst (oCons (mTup (aCons (mC (SVi 3)) (aCons (mC (SVi 2)) (aCons (mOp fSub (mC (SVi 0)) (mC (SVi 1))) (aCons (mC (SVi 0)) aNil))))) (oCons (mTup (aCons (mC (SVi 7)) (aCons (mC (SVi 1)) (aCons (mC (SVi 1)) (aCons (mC (SVi 0)) aNil))))) (oCons (mTup (aCons (mC (SVi 4)) (aCons (mC (SVi 2)) (aCons (mOp fSub (mC (SVi 0)) (mC (SVi 1))) (aCons (mC (SVi 0)) aNil))))) (oCons (mTup (aCons (mC (SVi 4)) (aCons (mC (SVi 2)) (aCons (mOp fSub (mC (SVi 0)) (mC (SVi 1))) (aCons (mC (SVi 2)) aNil))))) oNil)))))) aNil)) 2) 2)
    (sRet (mCall (s__law_renamed) (aCons (mCall (s__law_table) (aCons (mVar 2) aNil) 1) (aCons (mOp fAdd (mLst (oCons (mC (SVi 0)) oNil)) (mLc (miSeq (mCall (s__law_order b) (aCons (mVar 0) (aCons (mOp fSub (mOp fMul (mIxVar 2 (mC (SVi 0))) (mIxVar 2 (mC (SVi 1)))) (mC (SVi 1))) aNil)) 2)) (gmName 3) (fun env _ Q => Q true env) (mOp fAdd (mVar 3) (mC (SVi 1))) [3])) aNil)) 2))))
def m__law_drawn (b : Box) : MF := fun xs _ Q => b__law_drawn b (env0 4 xs) (fun _ => False) { nx := fun _ => Q (.d .none), rt := Q }
abbrev s__law_drawn (b : Box) : MF := m__law_drawn b
theorem hs__law_drawn (b : Box) : ∀ xs E Q, xs.length = 1 → s__law_drawn b xs E Q → m__law_drawn b xs E Q := fun _ _ _ _ h => h
def b__law_wrong : MS :=
  (sSeq (sIf (mOr (mNot (tbl (mCB fIsi (aCons (mVar 0) (aCons (mC (.r (.ty "tuple"))) aNil))))) (mOr (tbl (mOp fLt (mLenVar 0) (mC (SVi 1)))) (tbl (mOp fGt (mLenVar 0) (mC (SVi 200)))))) (sRet (mOp fSub (mC (SVi 0)) (mC (SVi 1)))) sNext)
    (sSeq (sSet (mLenVar 0) 1)
    (sSeq (sFor (miRng1 (aCons (mVar 1) aNil)) (gmName 2) (sSeq (sSet (mIxVar 0 (mVar 2)) 3)
    (sSeq (sIf (mOr (mNot (tbl (mCB fIsi (aCons (mVar 3) (aCons (mC (.r (.ty "tuple"))) aNil))))) (tbl (mOp fNe (mLenVar 3) (mVar 1)))) (sRet (mVar 2)) sNext)
    (sSeq (sIf (mNot (tbl (mCB fAll (aCons (mLc (miSeq (mVar 3)) (gmName 4) (fun env _ Q => Q true env) (vAnd (mCB fIsi (aCons (mVar 4) (aCons (mC (.r (.ty "int"))) aNil))) (vNot (mCB fIsi (aCons (mVar 4) (aCons (mC (.r (.ty "bool"))) aNil))))) [4]) aNil)))) (sRet (mVar 2)) sNext)
    (sIf (mOr (tbl (mOp fNe (mCB fSortedA (aCons (mVar 3) aNil)) (mLstRg1 (mVar 1)))) (mOr (tbl (mOp fNe (mIxVar 3 (mC (SVi 0))) (mVar 2))) (mAnd (tbl (mOp fEq (mVar 2) (mC (SVi 0)))) (tbl (mOp fNe (mCB fList (aCons (mVar 3) aNil)) (mLstRg1 (mVar 1))))))) (sRet (mVar 2)) sNext)))))
    (sSeq (sFor (miRng1 (aCons (mVar 1) aNil)) (gmName 2) (sFor (miRng1 (aCons (mVar 1) aNil)) (gmName 5) (sFor (miRng1 (aCons (mVar 1) aNil)) (gmName 6) (sIf (tbl (mOp fNe (mOp fIx (mIxVar 0 (mOp fIx (mIxVar 0 (mVar 2)) (mVar 5))) (mVar 6)) (mOp fIx (mIxVar 0 (mVar 2)) (mOp fIx (mIxVar 0 (mVar 5)) (mVar 6))))) (sRet (mVar 2)) sNext))))
    (sRet (mC (.d .none)))))))
def m__law_wrong : MF := fun xs _ Q => b__law_wrong (env0 7 xs) (fun _ => False) { nx := fun _ => Q (.d .none), rt := Q }
abbrev s__law_wrong : MF := m__law_wrong
theorem hs__law_wrong : ∀ xs E Q, xs.length = 1 → s__law_wrong xs E Q → m__law_wrong xs E Q := fun _ _ _ _ h => h
def s__law_told (er : Er) : MF := fun xs _ Q => ∃ x, xs = [x] ∧ s_check_table er [x] (fun xd => ∃ p, xd = ⟨er.e_InvalidTable, [("at", .d p)]⟩ ∧ Q (.d (.list [.str "refused", p]))) (fun y => ∃ p, y = .d p ∧ Q (.d (.list [.str "table", p])))

def b__law_due : MS :=
  (sSeq (sSet (mCall (s__law_wrong) (aCons (mVar 0) aNil) 1) 1)
    (sRet (mIf (tbl (mOp fIsN (mVar 1) (mC (.d .none)))) (mLst (oCons (mC (.d (.str "table"))) (oCons (mC (.d .none)) oNil))) (mLst (oCons (mC (.d (.str "refused"))) (oCons (mVar 1) oNil))))))
def m__law_due : MF := fun xs _ Q => b__law_due (env0 2 xs) (fun _ => False) { nx := fun _ => Q (.d .none), rt := Q }
abbrev s__law_due : MF := m__law_due
theorem hs__law_due : ∀ xs E Q, xs.length = 1 → s__law_due xs E Q → m__law_due xs E Q := fun _ _ _ _ h => h
def b__law_put : MS :=
  (sRet (mOp fAdd (mOp fAdd (mSl (mVar 0) pNo (pSome (mVar 1))) (mTup (aCons (mVar 2) aNil))) (mSl (mVar 0) (pSome (mOp fAdd (mVar 1) (mC (SVi 1)))) pNo)))
def m__law_put : MF := fun xs _ Q => b__law_put (env0 3 xs) (fun _ => False) { nx := fun _ => Q (.d .none), rt := Q }
abbrev s__law_put : MF := m__law_put
theorem hs__law_put : ∀ xs E Q, xs.length = 3 → s__law_put xs E Q → m__law_put xs E Q := fun _ _ _ _ h => h
def b__law_spoilt (b : Box) : MS :=
  (sSeq (sPar (oCons (mCall (s__law_draw b) (aCons (mVar 0) (aCons (mC (SVi 7)) aNil)) 2) (oCons (mLenVar 1) oNil)) 2 3)
    (sSeq (sPar3 (oCons (mCall (s__law_draw b) (aCons (mVar 0) (aCons (mVar 3) aNil)) 2) (oCons (mCall (s__law_draw b) (aCons (mVar 0) (aCons (mVar 3) aNil)) 2) (oCons (mCall (s__law_draw b) (aCons (mVar 0) (aCons (mVar 3) aNil)) 2) oNil))) 4 5 6)
    (sSeq (sSet (mIxVar 1 (mVar 4)) 7)
    (sSeq (sIf (tbl (mOp fEq (mVar 2) (mC (SVi 0)))) (sSeq (sSet (mLst (oCons (mVar 6) (oCons (mVar 6) (oCons (mVar 3) (oCons (mOp fSub (mC (SVi 0)) (mC (SVi 1))) (oCons (mC (.d .none)) (oCons (mOp fEq (mVar 3) (mVar 3)) (oCons (mCB fStr (aCons (mVar 6) aNil)) (oCons (mTup (aCons (mVar 6) aNil)) (oCons (mLst (oCons (mVar 6) oNil)) (oCons (mOp fPow (mC (SVi 10)) (mC (SVi 30))) oNil))))))))))) 8)
    (sRet (mCall (s__law_put) (aCons (mVar 1) (aCons (mVar 4) (aCons (mCall (s__law_put) (aCons (mVar 7) (aCons (mVar 5) (aCons (mCall (s__law_pick b) (aCons (mVar 0) (aCons (mVar 8) aNil)) 2) aNil))) 3) aNil))) 3))) sNext)
    (sSeq (sIf (tbl (mOp fEq (mVar 2) (mC (SVi 1)))) (sRet (mCall (s__law_put) (aCons (mVar 1) (aCons (mVar 4) (aCons (mCall (s__law_put) (aCons (mCall (s__law_put) (aCons (mVar 7) (aCons (mVar 5) (aCons (mIxVar 7 (mVar 6)) aNil))) 3) (aCons (mVar 6) (aCons (mIxVar 7 (mVar 5)) aNil))) 3) aNil))) 3)) sNext)
    (sSeq (sIf (tbl (mOp fEq (mVar 2) (mC (SVi 2)))) (sRet (mCall (s__law_put) (aCons (mCall (s__law_put) (aCons (mVar 1) (aCons (mVar 4) (aCons (mIxVar 1 (mVar 6)) aNil))) 3) (aCons (mVar 6) (aCons (mVar 7) aNil))) 3)) sNext)
    (sSeq (sIf (tbl (mOp fEq (mVar 2) (mC (SVi 3)))) (sRet (mCall (s__law_put) (aCons (mVar 1) (aCons (mVar 4) (aCons (mCall (s__law_pick b) (aCons (mVar 0) (aCons (mLst (oCons (mOp fAdd (mSl (mVar 7) pNo (pSome (mVar 5))) (mSl (mVar 7) (pSome (mOp fAdd (mVar 5) (mC (SVi 1)))) pNo)) (oCons (mOp fAdd (mVar 7) (mTup (aCons (mVar 6) aNil))) (oCons (mCB fList (aCons (mVar 7) aNil)) (oCons (mC (.d .none)) (oCons (mTup aNil) (oCons (mVar 4) oNil))))))) aNil)) 2) aNil))) 3)) sNext)
    (sSeq (sIf (tbl (mOp fEq (mVar 2) (mC (SVi 4)))) (sRet (mCall (s__law_pick b) (aCons (mVar 0) (aCons (mLst (oCons (mOp fAdd (mSl (mVar 1) pNo (pSome (mVar 4))) (mSl (mVar 1) (pSome (mOp fAdd (mVar 4) (mC (SVi 1)))) pNo)) (oCons (mOp fAdd (mVar 1) (mTup (aCons (mVar 7) aNil))) (oCons (mOp fAdd (mOp fAdd (mSl (mVar 1) pNo (pSome (mVar 4))) (mTup (aCons (mVar 7) aNil))) (mSl (mVar 1) (pSome (mVar 4)) pNo)) oNil)))) aNil)) 2)) sNext)
    (sSeq (sSet (mLst (oCons (mTupRg1 (mVar 3)) oNil)) 9)
    (sSeq (sFor (miRng2 (aCons (mC (SVi 1)) (aCons (mVar 3) aNil))) (gmName 10) (sSeq (sSet (mLc (miRng1 (aCons (mVar 3) aNil)) (gmName 12) (tbl (mOp fNe (mVar 12) (mVar 10))) (mVar 12) [12]) 11)
    (sApp 9 (mOp fAdd (mTup (aCons (mVar 10) aNil)) (mCB fTuple (aCons (mLc (miSeq (mCall (s__law_order b) (aCons (mVar 0) (aCons (mOp fSub (mVar 3) (mC (SVi 1))) aNil)) 2)) (gmName 12) (fun env _ Q => Q true env) (mIxVar 11 (mVar 12)) [12]) aNil))))))
    (sSeq (sIf (tbl (mOp fEq (mVar 2) (mC (SVi 5)))) (sRet (mCB fTuple (aCons (mVar 9) aNil))) sNext)
    (sRet (mCall (s__law_put) (aCons (mVar 1) (aCons (mVar 4) (aCons (mIxVar 9 (mVar 4)) aNil))) 3)))))))))))))
def m__law_spoilt (b : Box) : MF := fun xs _ Q => b__law_spoilt b (env0 13 xs) (fun _ => False) { nx := fun _ => Q (.d .none), rt := Q }
abbrev s__law_spoilt (b : Box) : MF := m__law_spoilt b
theorem hs__law_spoilt (b : Box) : ∀ xs E Q, xs.length = 2 → s__law_spoilt b xs E Q → m__law_spoilt b xs E Q := fun _ _ _ _ h => h
def b__law_half (b : Box) : MS :=
  (sSeq (sAsg (mCall (s__law_pick b) (aCons (mVar 0) (aCons (mLst (oCons (mTup (aCons (mC (SVi 2)) (aCons (mC (SVi 2)) aNil))) (oCons (mTup (aCons (mC (SVi 2)) (aCons (mC (SVi 3)) aNil))) (oCons (mTup (aCons (mC (SVi 3)) (aCons (mC (SVi 2)) aNil))) (oCons (mTup (aCons (mC (SVi 4)) (aCons (mC (SVi 2)) aNil))) (oCons (mTup (aCons (mC (SVi 4)) (aCons (mC (SVi 2)) aNil))) (oCons (mTup (aCons (mC (SVi 2)) (aCons (mC (SVi 4)) aNil))) (oCons (mTup (aCons (mC (SVi 1)) (aCons (mC (SVi 4)) aNil))) oNil)))))))) aNil)) 2) (gmTup 2 (gmCons (gmName 1) (gmCons (gmName 2) gmNil))))
    (sSeq (sPar (oCons (mOp fMul (mVar 1) (mVar 2)) (oCons (mLst oNil) oNil)) 3 4)
    (sSeq (sFor (miRng1 (aCons (mVar 2) aNil)) (gmName 5) (sSeq (sSet (mLc (miRng1 (aCons (mVar 3) aNil)) (gmName 9) (tbl (mOp fNe (mVar 9) (mOp fMul (mVar 1) (mVar 5)))) (mVar 9) [9]) 6)
    (sSeq (sSet (mOp fAdd (mLst (oCons (mOp fMul (mVar 1) (mVar 5)) oNil)) (mLc (miSeq (mCall (s__law_order b) (aCons (mVar 0) (aCons (mOp fSub (mVar 3) (mC (SVi 1))) aNil)) 2)) (gmName 10) (fun env _ Q => Q true env) (mIxVar 6 (mVar 10)) [10])) 7)
    (sSeq (sSet (mIf (tbl (mOp fEq (mVar 5) (mC (SVi 0)))) (mLstRg1 (mVar 3)) (mVar 7)) 7)
    (sFor (miRng1 (aCons (mVar 1) aNil)) (gmName 8) (sApp 4 (mLc (miSeq (mVar 7)) (gmName 11) (fun env _ Q => Q true env) (mOp fAdd (mOp fMod (mCB fInt (aCons (mOp fAdd (mOp fMod (mVar 11) (mVar 1)) (mVar 8)) aNil)) (mVar 1)) (mOp fMul (mVar 1) (mOp fDiv (mVar 11) (mVar 1)))) [11])))))))
    (sRet (mCall (s__law_renamed) (aCons (mVar 4) (aCons (mOp fAdd (mLst (oCons (mC (SVi 0)) oNil)) (mLc (miSeq (mCall (s__law_order b) (aCons (mVar 0) (aCons (mOp fSub (mVar 3) (mC (SVi 1))) aNil)) 2)) (gmName 11) (fun env _ Q => Q true env) (mOp fAdd (mVar 11) (mC (SVi 1))) [11])) aNil)) 2)))))
def m__law_half (b : Box) : MF := fun xs _ Q => b__law_half b (env0 12 xs) (fun _ => False) { nx := fun _ => Q (.d .none), rt := Q }
abbrev s__law_half (b : Box) : MF := m__law_half b
theorem hs__law_half (b : Box) : ∀ xs E Q, xs.length = 1 → s__law_half b xs E Q → m__law_half b xs E Q := fun _ _ _ _ h => h
def b_law (b : Box) (er : Er) : MS :=
  (sSeq (sSet (mCall (s__law_drawn b) (aCons (mVar 1) aNil) 1) 2)
    (sSeq (sIf (mOr (tbl (mOp fNe (mCall (s__law_told er) (aCons (mVar 2) aNil) 1) (mLst (oCons (mC (.d (.str "table"))) (oCons (mC (.d .none)) oNil))))) (mOr (tbl (mOp fNotN (mCall (s_check_table er) (aCons (mVar 2) aNil) 1) (mC (.d .none)))) (tbl (mOp fNe (mCall (s__law_told er) (aCons (mUn fBack (mVar 2)) aNil) 1) (mCall (s__law_due) (aCons (mUn fBack (mVar 2)) aNil) 1))))) (sRet (mC (SVb false))) sNext)
    (sSeq (sFor (miRng1 (aCons (mC (SVi 6)) aNil)) (gmName 3) (sSeq (sSet (mCall (s__law_spoilt b) (aCons (mVar 1) (aCons (mVar 2) aNil)) 2) 4)
    (sIf (mOr (tbl (mOp fNe (mCall (s__law_told er) (aCons (mVar 4) aNil) 1) (mCall (s__law_due) (aCons (mVar 4) aNil) 1))) (tbl (mOp fNe (mCall (s__law_told er) (aCons (mVar 2) aNil) 1) (mLst (oCons (mC (.d (.str "table"))) (oCons (mC (.d .none)) oNil)))))) (sRet (mC (SVb false))) sNext)))
    (sSeq (sSet (mCall (s__law_spoilt b) (aCons (mVar 1) (aCons (mCall (s__law_drawn b) (aCons (mVar 1) aNil) 1) aNil)) 2) 5)
    (sSeq (sSet (mIf (tbl (mOp fIsN (mCall (s__law_wrong) (aCons (mVar 5) aNil) 1) (mC (.d .none)))) (mCall (s__law_spoilt b) (aCons (mVar 1) (aCons (mVar 5) aNil)) 2) (mVar 5)) 5)
    (sSeq (sSet (mLst (oCons (mC (.d .none)) (oCons (mTup aNil) (oCons (mLst oNil) (oCons (mCB fList (aCons (mVar 2) aNil)) (oCons (mC (.d (.str "table"))) (oCons (mC (SVi 0)) (oCons (mOp fMul (mTup (aCons (mTup aNil) aNil)) (mC (SVi 201))) (oCons (mOp fMul (mTup (aCons (mTup aNil) aNil)) (mC (SVi 200))) (oCons (mTup (aCons (mC (SVi 0)) aNil)) (oCons (mTup (aCons (mTup aNil) aNil)) (oCons (mTup (aCons (mTup (aCons (mC (SVi 0)) (aCons (mC (SVi 0)) aNil))) aNil)) (oCons (mTup (aCons (mVar 2) aNil)) (oCons (mOp fEq (mVar 2) (mVar 2)) oNil)))))))))))))) 6)
    (sSeq (sSet (mCall (s__law_pick b) (aCons (mVar 1) (aCons (mOp fAdd (mVar 6) (mLst (oCons (mOp fMul (mTup (aCons (mTup (aCons (mC (SVi 0)) aNil)) aNil)) (mC (SVi 201))) (oCons (mOp fMul (mTup (aCons (mTup (aCons (mC (SVi 0)) aNil)) aNil)) (mC (SVi 200))) (oCons (mCB fTuple (aCons (mLc (miSeq (mVar 2)) (gmName 8) (fun env _ Q => Q true env) (mCB fList (aCons (mVar 8) aNil)) [8]) aNil)) (oCons (mVar 5) oNil)))))) aNil)) 2) 7)
    (sSeq (sSet (mCall (s__law_half b) (aCons (mVar 1) aNil) 1) 9)
    (sSeq (sIf (tbl (mOp fNe (mCall (s__law_told er) (aCons (mVar 9) aNil) 1) (mCall (s__law_due) (aCons (mVar 9) aNil) 1))) (sRet (mC (SVb false))) sNext)
    (sRet (vAnd (mOp fEq (mCall (s__law_told er) (aCons (mVar 7) aNil) 1) (mCall (s__law_due) (aCons (mVar 7) aNil) 1)) (mOp fEq (mCall (s__law_told er) (aCons (mVar 5) aNil) 1) (mCall (s__law_due) (aCons (mVar 5) aNil) 1)))))))))))))
structure Txt (P : Program) (w : World) (K : PySem.W.Frag) (mg : Str → Option Value) (base : Heap) (er : Er) : Prop where
  m_abs : mg "abs" = none
  m_all : mg "all" = none
  m_bool : mg "bool" = none
  g_MOST_SHARES : ∃ t, mg "MOST_SHARES" = some (.int 200 t)
  m_enumerate : mg "enumerate" = none
  e_InvalidTable : ErrC P w K mg base 1 "InvalidTable" er.e_InvalidTable "at" ["self", "at"]
  m_int : mg "int" = none
  m_isinstance : mg "isinstance" = none
  m_len : mg "len" = none
  m_list : mg "list" = none
  m_range : mg "range" = none
  m_sorted : mg "sorted" = none
  m_str : mg "str" = none
  m_tuple : mg "tuple" = none
section
variable {P : Program} {w : World} {K : PySem.W.Frag} {mg : Str → Option Value} {base : Heap}
def meth (c : Stmt) (i : Nat) : Stmt := match c with
  | .ClassDef (body := b) .. => b.getD i (.Pass ⟨0, 0, 0, 0⟩)
  | s => s
abbrev s_InvalidTable_init : Stmt := meth (top 2) 0
theorem sc_InvalidTable_init : FnScope ["self", "at"] ["self", "at"] (defScope s_InvalidTable_init) := ⟨rfl, rfl, rfl, by decide +kernel, rfl, by decide +kernel, by decide +kernel⟩
theorem err_InvalidTable {C fI : Addr} {fd : FuncData} (o : OexC K C) (g : mg "InvalidTable" = some (.ref C)) (no : PySem.W.findIn K (.ref C) "at" = some none) (iC : PySem.W.findIn K (.ref C) "__init__" = some (some (.ref fI))) (tI : PySem.W.typeIn K (.ref fI) = some (.type "function")) (F : Fun K "__init__" "InvalidTable.__init__" s_InvalidTable_init fI fd) :
    ErrC P w K mg base 1 "InvalidTable" C "at" ["self", "at"] := by
  refine ⟨o, ⟨fI, fd, iC, tI, F.ok sc_InvalidTable_init (fun vs H Q E h => ?_) (fun cdv Ar outer s H vs Q E hr h => ?_), F.binds (ps := ["self", "at"]) fun _ _ _ _ _ _ us hl => match us, hl with | [_, _], _ => rfl⟩, g⟩
  · obtain ⟨a, v, e, _⟩ := h
    rw [e]; rfl
  · refine ⟨_, pss_one (ps_ost (pv 0) (pv 1)), ?_⟩
    obtain ⟨a, v, rfl, ha, q⟩ := h
    exact ⟨_, rfl, _, rfl, a, C, rfl, o, no, Or.inl ⟨ha, q⟩⟩

abbrev sis_below : Stmt := top 4
abbrev N_is_below : List Str := ["value", "end"]
theorem sc_is_below : FnScope ["value", "end"] ["value", "end"] (defScope sis_below) := ⟨rfl, rfl, rfl, by decide +kernel, rfl, by decide +kernel, by decide +kernel⟩
theorem cal_is_below {er : Er} {f : Addr} {fd : FuncData} {A : Amb} (mf : mg "is_below" = some (.ref f)) (F : Fun K "is_below" "is_below" sis_below f fd) (T : Txt P w K mg base er)  :
    Cal P w K mg base CX0 1 "is_below" ["value", "end"] (SpecM K A 2 (s_is_below)) := by
  refine cal_mk mf F (F.binds (ps := ["value", "end"]) fun _ _ _ _ _ _ us hl => match us, hl with | [_, _], _ => rfl) (F.ok sc_is_below (fun vs H Q E h => spec_len h) (fun cdv Ar outer s H vs Q E hr h => ?_))
  refine ⟨_, (pss_one (ps_ret (pe_and (pe_callB (kIsi K) (by rfl) T.m_isinstance (by decide +kernel) (pa_cons (pv 0) (pa_cons (pe_bltn (v := .ty "int") (by rfl) T.m_int (by decide +kernel) rfl) pa_nil))) (pe_and (pe_not (pe_callB (kIsi K) (by rfl) T.m_isinstance (by decide +kernel) (pa_cons (pv 0) (pa_cons (pe_bltn (v := .ty "bool") (by rfl) T.m_bool (by decide +kernel) rfl) pa_nil)))) (pe_one (pe_chain op_le op_lt pe_int (pv 0) (pv 1))))))), ?_⟩
  exact fn0 (m := b_is_below) (by decide) (fun xs Ed Qd hl hx => hs_is_below xs Ed Qd hl hx) h fun F0 H0 Ed ok0 hE => (sm_ret (em_and (em_cb fc_isi (ea_cons em_var (ea_cons em_raw ea_nil))) (em_and (em_not (em_cb fc_isi (ea_cons em_var (ea_cons em_raw ea_nil)))) (em_chain fr_Ib fr_Ib em_int em_var em_var))))
abbrev sis_order : Stmt := top 5
abbrev N_is_order : List Str := ["value", "size", "seen", "item"]
theorem sc_is_order : FnScope ["value", "size", "seen", "item"] ["value", "size"] (defScope sis_order) := ⟨rfl, rfl, rfl, by decide +kernel, rfl, by decide +kernel, by decide +kernel⟩
theorem cal_is_order {er : Er} {f : Addr} {fd : FuncData} {A : Amb} (mf : mg "is_order" = some (.ref f)) (F : Fun K "is_order" "is_order" sis_order f fd) (T : Txt P w K mg base er) (c_is_below : Cal P w K mg base CX0 1 "is_below" ["value", "end"] (SpecM K A 2 (s_is_below))) :
    Cal P w K mg base CX0 2 "is_order" ["value", "size"] (SpecM K A 2 (s_is_order)) := by
  refine cal_mk mf F (F.binds (ps := ["value", "size"]) fun _ _ _ _ _ _ us hl => match us, hl with | [_, _], _ => rfl) (F.ok sc_is_order (fun vs H Q E h => spec_len h) (fun cdv Ar outer s H vs Q E hr h => ?_))
  refine ⟨_, (pss_cons (ps_if (pw_or (pt_not (pt_val (pe_callB (kIsi K) (by rfl) T.m_isinstance (by decide +kernel) (pa_cons (pv 0) (pa_cons (pe_bltn (v := .ty "tuple") (by rfl) T.m_tuple (by decide +kernel) rfl) pa_nil))))) (pw_or1 (pt_cmpR (kNe K hr) (pe_callB (kLen K) (by rfl) T.m_len PySem.boot_len (pa_cons (pv 0) pa_nil)) (pv 1) (nomark _)))).pt (pss_one (ps_ret pe_bl)) pss_nil)
    (pss_cons (ps_set (i := 2) sc_is_order.nd rfl (Or.inl rfl) (pe_op (kMul K) (pe_lst (pa_cons pe_bl pa_nil)) (pv 1)))
    (pss_cons (ps_for PassesOwn.never rfl (kSeq K (pv 0)) (pg_name (i := 3) sc_is_order.nd rfl (Or.inl rfl)) (pss_cons (ps_if (pw_or (pt_not (pt_val (pe_cal c_is_below (hr.mono (by decide)) (pa_cons (pv 3) (pa_cons (pv 1) pa_nil))))) (pw_or1 (pt_val (pe_ix (kIx K) (pv 2) (pv 3) (fun _ _ => rfl))))).pt (pss_one (ps_ret pe_bl)) pss_nil)
    (pss_one (ps_asg pe_bl (pg_sub (pv 2) (pv 3) set_list)))))
    (pss_one (ps_ret pe_bl))))), ?_⟩
  exact fn0 (m := b_is_order) (by decide) (fun xs Ed Qd hl hx => hs_is_order xs Ed Qd hl hx) h fun F0 H0 Ed ok0 hE => (sm_seq (sm_if (et_or (et_not (et_B (em_cb fc_isi (ea_cons em_var (ea_cons em_raw ea_nil))))) (et_test (em_op fr_neD em_lenVar em_var))) (sm_ret em_bl) sm_next)
    (sm_seq (sm_set (em_op fr_mulA (em_lst (eo_cons em_bl eo_nil)) em_var))
    (sm_seq (sm_for (ei_seq em_var) gm_name (sm_seq (sm_if (et_or (et_not (et_B (em_call (ea_cons em_var (ea_cons em_var ea_nil))))) (et_B (em_ixVar em_var))) (sm_ret em_bl) sm_next)
    (sm_put em_bl em_var)))
    (sm_ret em_bl))))
abbrev sis_associative : Stmt := top 9
abbrev N_is_associative : List Str := ["table", "row", "two", "further", "share"]
theorem sc_is_associative : FnScope ["table", "row", "two", "further", "share"] ["table", "row"] (defScope sis_associative) := ⟨rfl, rfl, rfl, by decide +kernel, rfl, by decide +kernel, by decide +kernel⟩
theorem cal_is_associative {er : Er} {f : Addr} {fd : FuncData} {A : Amb} (mf : mg "is_associative" = some (.ref f)) (F : Fun K "is_associative" "is_associative" sis_associative f fd) (T : Txt P w K mg base er)  :
    Cal P w K mg base CX0 1 "is_associative" ["table", "row"] (SpecM K A 2 (s_is_associative)) := by
  refine cal_mk mf F (F.binds (ps := ["table", "row"]) fun _ _ _ _ _ _ us hl => match us, hl with | [_, _], _ => rfl) (F.ok sc_is_associative (fun vs H Q E h => spec_len h) (fun cdv Ar outer s H vs Q E hr h => ?_))
  refine ⟨_, (pss_cons (ps_for PassesOwn.never rfl (pi_enumA K (by rfl) T.m_enumerate (pa_cons (pv 0) pa_nil)) (kTup K rfl (pgs_cons (pg_name (i := 2) sc_is_associative.nd rfl (Or.inl rfl)) (pgs_cons (pg_name (i := 3) sc_is_associative.nd rfl (Or.inl rfl)) pgs_nil))) (pss_one (ps_if (pt_cmpR (kNe K hr) (pe_callTy (kTuple K) (by rfl) T.m_tuple (by decide +kernel) (pa_cons (pe_lc (own := [("share", 4)]) rfl sc_is_associative.nd (kSeq K (pv 3)) (blkOk_by (N := N_is_associative) (sc := defScope sis_associative) (by decide +kernel)) (fun _ _ _ _ _ => (pg_name (i := 4) sc_is_associative.nd rfl (Or.inl rfl))) (fun _ _ _ _ _ => pts_nil) (fun _ _ _ _ _ => (pe_ix (kIx K) (pv 1) (pv 4) (fun _ _ => rfl)))) pa_nil)) (pe_callTy (kTuple K) (by rfl) T.m_tuple (by decide +kernel) (pa_cons (pe_ix (kIx K) (pv 0) (pe_ix (kIx K) (pv 1) (pv 2) (fun _ _ => rfl)) (fun _ _ => rfl)) pa_nil)) (nomark _)) (pss_one (ps_ret pe_bl)) pss_nil)))
    (pss_one (ps_ret pe_bl))), ?_⟩
  exact fn0 (m := b_is_associative) (by decide) (fun xs Ed Qd hl hx => hs_is_associative xs Ed Qd hl hx) h fun F0 H0 Ed ok0 hE => (sm_seq (sm_for (ei_enum (ea_cons em_var ea_nil)) (gm_tup (gm_cons gm_name (gm_cons gm_name gm_nil))) (sm_if (et_test (em_op fr_neD (em_cb fc_tuple (ea_cons (em_lc (vs := [4]) (ei_seq em_var) gm_name et_yes (em_ixVar em_var) (by decide) (go_name (by decide))) ea_nil)) (em_cb fc_tuple (ea_cons (em_ixVar (em_ixVar em_var)) ea_nil)))) (sm_ret em_bl) sm_next))
    (sm_ret em_bl))
abbrev scheck_table : Stmt := top 8
abbrev N_check_table : List Str := ["value", "size", "number", "row"]
theorem sc_check_table : FnScope ["value", "size", "number", "row"] ["value"] (defScope scheck_table) := ⟨rfl, rfl, rfl, by decide +kernel, rfl, by decide +kernel, by decide +kernel⟩
theorem cal_check_table {f : Addr} {fd : FuncData} {A : Amb} (er : Er) (mf : mg "check_table" = some (.ref f)) (F : Fun K "check_table" "check_table" scheck_table f fd) (T : Txt P w K mg base er) (c_is_order : Cal P w K mg base CX0 2 "is_order" ["value", "size"] (SpecM K A 2 (s_is_order))) (c_is_associative : Cal P w K mg base CX0 1 "is_associative" ["table", "row"] (SpecM K A 2 (s_is_associative))) :
    Cal P w K mg base (L2.CX P w) 3 "check_table" ["value"] (SpecM K A 1 (s_check_table er)) := by
  refine cal_mk mf F (F.binds (ps := ["value"]) fun _ _ _ _ _ _ us hl => match us, hl with | [_], _ => rfl) (F.okX sc_check_table (fun vs H Q E h => spec_len h) (fun cdv Ar outer s H vs Q E hr h => ?_))
  refine ⟨_, (pss_cons (ps_if (pw_or (pt_not (pt_val (pe_callB (kIsi K) (by rfl) T.m_isinstance (by decide +kernel) (pa_cons (pv 0) (pa_cons (pe_bltn (v := .ty "tuple") (by rfl) T.m_tuple (by decide +kernel) rfl) pa_nil))))) (pw_or1 (pt_not (pt_chain op_le op_le pe_int (pe_callB (kLen K) (by rfl) T.m_len PySem.boot_len (pa_cons (pv 0) pa_nil)) (pe_cst T.g_MOST_SHARES))))).pt (pss_one (ps_rz (T.e_InvalidTable) (hr.mono (by decide)) rfl (takes_of rfl rfl rfl rfl) (pa_cons (pe_un un_neg pe_int) pa_nil))) pss_nil)
    (pss_cons (ps_set (i := 1) sc_check_table.nd rfl (Or.inl rfl) (pe_callB (kLen K) (by rfl) T.m_len PySem.boot_len (pa_cons (pv 0) pa_nil)))
    (pss_cons (ps_for (passes_of rfl) rfl (pi_enumA K (by rfl) T.m_enumerate (pa_cons (pv 0) pa_nil)) (kTup K rfl (pgs_cons (pg_name (i := 2) sc_check_table.nd rfl (Or.inl rfl)) (pgs_cons (pg_name (i := 3) sc_check_table.nd rfl (Or.inl rfl)) pgs_nil))) (pss_cons (ps_if (pw_or (pt_not (pt_val (pe_cal c_is_order (hr.mono (by decide)) (pa_cons (pv 3) (pa_cons (pv 1) pa_nil))))) (pw_or1 (pt_cmpR (kNe K hr) (pe_ix (kIx K) (pv 3) pe_int (fun _ _ => rfl)) (pv 2) (nomark _)))).pt (pss_one (ps_rz (T.e_InvalidTable) (hr.mono (by decide)) rfl (takes_of rfl rfl rfl rfl) (pa_cons (pv 2) pa_nil))) pss_nil)
    (pss_one (ps_if (pw_and (pt_cmpR (kEq K hr) (pv 2) pe_int (nomark _)) (pw_and1 (pt_cmpR (kNe K hr) (pe_callTy (kList K) (by rfl) T.m_list (by decide +kernel) (pa_cons (pv 3) pa_nil)) (pe_listRg rfl (by rfl) T.m_list (prg_1 (by rfl) T.m_range (pv 1))) (nomark _)))).pt (pss_one (ps_rz (T.e_InvalidTable) (hr.mono (by decide)) rfl (takes_of rfl rfl rfl rfl) (pa_cons pe_int pa_nil))) pss_nil))))
    (pss_one (ps_for (passes_of rfl) rfl (pi_enumA K (by rfl) T.m_enumerate (pa_cons (pv 0) pa_nil)) (kTup K rfl (pgs_cons (pg_name (i := 2) sc_check_table.nd rfl (Or.inl rfl)) (pgs_cons (pg_name (i := 3) sc_check_table.nd rfl (Or.inl rfl)) pgs_nil))) (pss_one (ps_if (pt_not (pt_val (pe_cal c_is_associative (hr.mono (by decide)) (pa_cons (pv 0) (pa_cons (pv 3) pa_nil))))) (pss_one (ps_rz (T.e_InvalidTable) (hr.mono (by decide)) rfl (takes_of rfl rfl rfl rfl) (pa_cons (pv 2) pa_nil))) pss_nil))))))), ?_⟩
  exact fnX (m := b_check_table er) (by decide) (fun xs Ed Qd hl hx => hs_check_table er xs Ed Qd hl hx) h fun F0 H0 Ed ok0 hE => (sm_seq (sm_if (et_or (et_not (et_B (em_cb fc_isi (ea_cons em_var (ea_cons em_raw ea_nil))))) (et_not (et_test (em_chain fr_Ib fr_Ib em_int em_lenVar em_int)))) (sm_raise (ea_cons (em_un fu_neg em_int) ea_nil)) sm_next)
    (sm_seq (sm_set em_lenVar)
    (sm_seq (sm_for (ei_enum (ea_cons em_var ea_nil)) (gm_tup (gm_cons gm_name (gm_cons gm_name gm_nil))) (sm_seq (sm_if (et_or (et_not (et_B (em_call (ea_cons em_var (ea_cons em_var ea_nil))))) (et_test (em_op fr_neD (em_ixVar em_int) em_var))) (sm_raise (ea_cons em_var ea_nil)) sm_next)
    (sm_if (et_and (et_test (em_op fr_eqD em_var em_int)) (et_test (em_op fr_neD (em_cb fc_list (ea_cons em_var ea_nil)) (em_lstRg1 em_var)))) (sm_raise (ea_cons em_int ea_nil)) sm_next)))
    (sm_for (ei_enum (ea_cons em_var ea_nil)) (gm_tup (gm_cons gm_name (gm_cons gm_name gm_nil))) (sm_if (et_not (et_B (em_call (ea_cons em_var (ea_cons em_var ea_nil))))) (sm_raise (ea_cons em_var ea_nil)) sm_next)))))
abbrev s_law_heap : Stmt := top 11
abbrev N__law_heap : List Str := ["script", "base", "given", "cell", "stir"]
theorem sc__law_heap : FnScope ["script", "base", "given", "cell", "stir"] ["script", "base"] (defScope s_law_heap) := ⟨rfl, rfl, rfl, by decide +kernel, rfl, by decide +kernel, by decide +kernel⟩
theorem cal__law_heap {er : Er} {f : Addr} {fd : FuncData} (mf : mg "_law_heap" = some (.ref f)) (F : Fun K "_law_heap" "_law_heap" s_law_heap f fd) (T : Txt P w K mg base er)  :
    Cal P w K mg base CX0 1 "_law_heap" ["script", "base"] (SpecH K) := by
  refine cal_mk mf F (F.binds (ps := ["script", "base"]) fun _ _ _ _ _ _ us hl => match us, hl with | [_, _], _ => rfl) (F.ok sc__law_heap (fun vs H Q E h => specH_len h) (fun cdv Ar outer s H vs Q E hr h => ?_))
  refine ⟨_, (pss_cons (ps_setLc (i := 2) (own := [("cell", 3)]) rfl sc__law_heap.nd rfl rfl (sw_true rfl rfl rfl (by decide +kernel)) (kSeq K (pe_slice (kSl K) (pv 0) (po_some (pv 1)) (po_some pe_int))) (blkOk_by (N := N__law_heap) (sc := defScope s_law_heap) (by decide +kernel)) (fun _ _ _ _ _ => (pg_name (i := 3) sc__law_heap.nd rfl (Or.inl rfl))) (fun _ _ _ _ _ => pts_nil) (fun _ _ _ _ _ => (pe_callB call_abs (by rfl) T.m_abs (by decide +kernel) (pa_cons (pv 3) pa_nil))))
    (pss_cons (ps_set (i := 4) sc__law_heap.nd rfl (Or.inl rfl) (pe_op (kAdd K) pe_int (pe_op (kMul K) pe_int (pv 1))))
    (pss_cons (ps_for PassesOwn.never rfl (kSeq K (pv 2)) (pg_name (i := 3) sc__law_heap.nd rfl (Or.inl rfl)) (pss_one (ps_set (i := 4) sc__law_heap.nd rfl (Or.inl rfl) (pe_op op_mod (pe_callTy call_int1 (by rfl) T.m_int (by decide +kernel) (pa_cons (pe_op (kAdd K) (pe_op (kAdd K) (pe_op (kMul K) (pv 4) pe_int) (pe_op op_mod (pe_callTy call_int1 (by rfl) T.m_int (by decide +kernel) (pa_cons (pv 3) pa_nil)) pe_int)) pe_int) pa_nil)) pe_int))))
    (pss_one (ps_ret (pe_lst (pa_cons (kBack K (pe_lc (own := [("cell", 3)]) rfl sc__law_heap.nd (kSeq K (pv 2)) (blkOk_by (N := N__law_heap) (sc := defScope s_law_heap) (by decide +kernel)) (fun _ _ _ _ _ => (pg_name (i := 3) sc__law_heap.nd rfl (Or.inl rfl))) (fun _ _ _ _ _ => pts_one (pt_cmpR op_ge (pv 3) (pe_op op_pow pe_int pe_int) (nomark _))) (fun _ _ _ _ _ => (pv 3)))) (pa_cons (pv 4) pa_nil)))))))), ?_⟩
  exact fnH (n := 3) rfl h hs__law_heap
    (fun F0 H0 Ed ok0 hE a ns hS => (smo_seq (sm_set (em_lc (vs := [3]) (ei_seq (em_slR hS (fun z => z) (ep_some em_var) (ep_some em_int))) gm_name et_yes (em_cb fc_abs (ea_cons em_var ea_nil)) (by decide) (go_name (by decide))))
      (smo_seq (sm_set (em_op fr_addA em_int (em_op fr_mulA em_int em_var)))
      (smo_seq (sm_for (ei_seq em_var) gm_name (sm_set (em_op fr_IC (em_cb fc_int (ea_cons (em_op fr_addA (em_op fr_addA (em_op fr_mulA em_var em_int) (em_op fr_IC (em_cb fc_int (ea_cons em_var ea_nil)) em_int)) em_int) ea_nil)) em_int)))
      (smo_ret (em_lst (eo_cons (em_back (em_lc (vs := [3]) (ei_seq em_var) gm_name (et_test (em_op fr_Ib em_var (em_op fr_IC em_int em_int))) em_var (by decide) (go_name (by decide)))) (eo_cons em_var eo_nil))))))))

abbrev s_law_draw : Stmt := top 12
theorem sc__law_draw : FnScope ["heap", "many", "rest"] ["heap", "many"] (defScope s_law_draw) := ⟨rfl, rfl, rfl, by decide +kernel, rfl, by decide +kernel, by decide +kernel⟩
/-- behind some steps of a draw -/
structure Dr (b : Box) (H H' : Hp) (cells : List Int) (stir : Int) : Prop where
  keep : ∀ a o, ¬ (a = b.h ∨ a = b.g) → H a = some o → H' a = some o
  h : H' b.h = some (.lst [.ref b.g, .int stir])
  g : H' b.g = some (.lst (cells.map V.int))
  pos : ∀ c ∈ cells, 0 ≤ c
  s0 : 0 ≤ stir
  s1 : stir < 2147483647
  len : cells.length ≤ 2 ^ 24
theorem Dr.new {b : Box} {H H' : Hp} {cells : List Int} {stir : Int} (d : Dr b H H' cells stir) {p : Addr} {o : HO} (hp : H' p = none) : Dr b H (upd H' p o) cells stir :=
  ⟨fun a u n e => Ex.new hp a u (d.keep a u n e), Ex.new hp _ _ d.h, Ex.new hp _ _ d.g, d.pos, d.s0, d.s1, d.len⟩
theorem Dr.cells {b : Box} {H H' : Hp} {cells : List Int} {stir : Int} (d : Dr b H H' cells stir) {cs : List Int} (hc : ∀ c ∈ cs, 0 ≤ c) (hl : cs.length ≤ 2 ^ 24) : Dr b H (upd H' b.g (.lst (cs.map V.int))) cs stir :=
  ⟨fun a u n e => by rw [upd_ne (fun z => n (Or.inr z))]; exact d.keep a u n e, by rw [upd_ne b.ne]; exact d.h, upd_same, hc, d.s0, d.s1, hl⟩
theorem Dr.stir {b : Box} {H H' : Hp} {cells : List Int} {stir : Int} (d : Dr b H H' cells stir) {t : Int} (h0 : 0 ≤ t) (h1 : t < 2147483647) : Dr b H (upd H' b.h (.lst [.ref b.g, .int t])) cells t :=
  ⟨fun a u n e => by rw [upd_ne (fun z => n (Or.inl z))]; exact d.keep a u n e, upd_same, by rw [upd_ne b.ne.symm]; exact d.g, d.pos, h0, h1, d.len⟩
theorem Dr.step {b : Box} {F H H' : Hp} {cells : List Int} {stir : Int} (ok : Ok (ABox b) F H) (d : Dr b H H' cells stir) : Step (ABox b) F H F H' :=
  ⟨d.keep, Ex.refl F, fun _ _ h => h, ⟨fun a o e => d.keep a o (fun z => by rw [(ok.box a z).1] at e; cases e) (ok.sub a o e), ⟨cells, stir, d.h, d.g, d.pos, d.s0, d.s1, d.len⟩, fun a z => ⟨(ok.box a z).1, by
    rcases z with z | z
    · rw [z, d.h]; exact fun q => by cases q
    · rw [z, d.g]; exact fun q => by cases q⟩⟩⟩
theorem ints_dp {K : PySem.W.Frag} {H : Hp} : ∀ ns : List Int, DpAll K H (ns.map V.int) (ns.map PyData.int)
  | [] => .nil
  | n :: ns => .cons (.int n) (ints_dp ns)
theorem ints_shaped (ns : List Int) : SeqAt.shaped (.list (ns.map PyData.int)) = true := by
  have h1 : PyData.canLayAll0 (ns.map PyData.int) = true := by
    induction ns with
    | nil => rfl
    | cons n ns ih =>
      show PyData.canLayAll0 (.int n :: ns.map PyData.int) = true
      simp only [PyData.canLayAll0, PyData.canLay0, Bool.true_and]
      exact ih
  have h2 : PyData.depthAll (ns.map PyData.int) ≤ 1 := by
    induction ns with
    | nil => simp [PyData.depthAll]
    | cons n ns ih =>
      simp only [List.map_cons, PyData.depthAll, PyData.depth]
      simp only [PyData.canLayAll0, List.map_cons, PyData.canLay0, Bool.true_and] at h1
      have := ih h1
      omega
  show (PyData.canLay0 (.list (ns.map PyData.int)) && decide (PyData.depth (.list (ns.map PyData.int)) ≤ 64)) = true
  rw [Bool.and_eq_true]
  refine ⟨by simp only [PyData.canLay0]; exact h1, decide_eq_true ?_⟩
  simp only [PyData.depth]
  omega
theorem eqv_nil (ns : List Int) : PyData.eqv (.list (ns.map PyData.int)) (.list []) = ns.isEmpty := by
  cases ns with
  | nil => simp [PyData.eqv, PyData.eqvAll]
  | cons n ns => simp [PyData.eqv, PyData.eqvAll]
theorem mod_lt {i n : Int} (h : 0 < n) : 0 ≤ i % n ∧ i % n < n := ⟨Int.emod_nonneg _ (by omega), Int.emod_lt_of_pos _ h⟩
theorem atI_last {α : Type} (xs : List α) (y : α) : atI (xs ++ [y]) (-1) = some y := by
  have e : ixN (xs ++ [y]).length (-1) = some xs.length := by
    unfold ixN
    rw [if_neg (by decide), if_pos (by rw [List.length_append, List.length_singleton]; omega), List.length_append, List.length_singleton]
    congr 1
    omega
  show (ixN (xs ++ [y]).length (-1)).bind _ = _
  rw [e]
  simp
theorem cal__law_draw {er : Er} {f : Addr} {fd : FuncData} (b : Box) (mf : mg "_law_draw" = some (.ref f)) (F : Fun K "_law_draw" "_law_draw" s_law_draw f fd) (T : Txt P w K mg base er) :
    Cal P w K mg base CX0 1 "_law_draw" ["heap", "many"] (SpecM K (ABox b) 2 (s_draw b)) := by
  refine cal_mk mf F (F.binds (ps := ["heap", "many"]) fun _ _ _ _ _ _ us hl => match us, hl with | [_, _], _ => rfl) (F.ok sc__law_draw (fun vs H Q E h => spec_len h) (fun cdv Ar outer s H vs Q E hr h => ?_))
  have IX0 : ∀ {X : Cx}, True := trivial
  refine ⟨_, (pss_cons (ps_while PassesOwn.never (pw_and (pt_cmpR (kNe K hr) (pe_ix (kIx K) (pv 0) pe_int (fun _ _ => rfl)) (pe_lst pa_nil) (nomark _)) (pw_and1 (pt_cmpR (kEq K hr) (pe_ix (kIx K) (pe_ix (kIx K) (pv 0) pe_int (fun _ _ => rfl)) (pe_un un_neg pe_int) (fun _ _ => rfl)) pe_int (nomark _)))).pt
        (pss_one (ps_expr (pe_bm0 PySem.F.plainAttrs_list PySem.F.slot_list_pop PySem.F.type_list_pop mt_pop (pe_ix (kIx K) (pv 0) pe_int (fun _ _ => rfl))))))
    (pss_cons (ps_if (pt_cmpR (kNe K hr) (pe_ix (kIx K) (pv 0) pe_int (fun _ _ => rfl)) (pe_lst pa_nil) (nomark _))
        (pss_cons (ps_set (i := 2) sc__law_draw.nd rfl (Or.inl rfl) (pe_bm0 PySem.F.plainAttrs_list PySem.F.slot_list_pop PySem.F.type_list_pop mt_pop (pe_ix (kIx K) (pv 0) pe_int (fun _ _ => rfl))))
        (pss_cons (ps_expr (kBm K PySem.F.plainAttrs_list PySem.F.slot_list_append PySem.F.type_list_append mt_append (pe_ix (kIx K) (pv 0) pe_int (fun _ _ => rfl)) (pa_cons (pe_op op_fdivW (pv 2) (pv 1)) pa_nil)))
        (pss_one (ps_ret (pe_op op_mod (pe_callTy call_int1 (by rfl) T.m_int (by decide +kernel) (pa_cons (pv 2) pa_nil)) (pv 1)))))) pss_nil)
    (pss_cons (ps_asg (pe_op op_mod (pe_callTy call_int1 (by rfl) T.m_int (by decide +kernel) (pa_cons (pe_op op_add (pe_op op_mulW (pe_ix (kIx K) (pv 0) pe_int (fun _ _ => rfl)) pe_int) pe_int) pa_nil)) pe_int) (pg_sub (pv 0) pe_int set_list))
    (pss_one (ps_ret (pe_op op_mod (pe_callTy call_int1 (by rfl) T.m_int (by decide +kernel) (pa_cons (pe_op op_fdivW (pe_ix (kIx K) (pv 0) pe_int (fun _ _ => rfl)) pe_int) pa_nil)) (pv 1))))))), ?_⟩
  obtain ⟨F0, xs, Qd, Ed, ok, rv, hn, ⟨n, ex, n0, n1, hd⟩, kQ, _⟩ := h
  subst ex
  obtain ⟨c0, st0, eh, eg, hp, hs0, hs1, hlen⟩ := id ok.inv
  cases rv with
  | cons r1 r2 =>
    cases r2 with
    | cons r2 r3 =>
      cases r3
      cases r2
      have e1 := r1
      cases e1
      -- what is read in the two lists
      have rd0 : ∀ {H' : Hp} {cells : List Int} {stir : Int} {Q : VK}, Dr b H H' cells stir → Q (.ref b.g) H' → rIx K (.ref b.h) (.int 0) H' Q := fun d q => Or.inl ⟨b.h, _, 0, .ref b.g, rfl, rfl, Or.inl (Or.inl d.h), rfl, q⟩
      have rd1 : ∀ {H' : Hp} {cells : List Int} {stir : Int} {Q : VK}, Dr b H H' cells stir → Q (.int stir) H' → rIx K (.ref b.h) (.int 1) H' Q := fun d q => Or.inl ⟨b.h, _, 1, .int _, rfl, rfl, Or.inl (Or.inl d.h), rfl, q⟩
      have ne0 : ∀ {H' : Hp} {cells : List Int} {stir : Int} {Q : VK} {p : Addr}, Dr b H H' cells stir → H' p = some (.lst []) → Q (.bl (!cells.isEmpty)) H' → rNeD K (.ref b.g) (.ref p) H' Q := fun d hp q =>
        ⟨_, _, .lst (Or.inl (Or.inl d.g)) (ints_dp _), .lst (Or.inl (Or.inl hp)) .nil, ints_shaped _, by decide, by rw [eqv_nil]; exact q⟩
      have big : n.natAbs < 2 ^ 63 := by omega
      have dv : ∀ i : Int, CDivW i n := fun i => ⟨n0, by
        have : n.natAbs.log2 < 63 := Nat.log2_lt (by omega) |>.mpr big
        omega⟩
      have d0 : Dr b H H c0 st0 := ⟨fun _ _ _ e => e, eh, eg, hp, hs0, hs1, hlen⟩
      have d0 : Dr b H H c0 st0 := ⟨fun _ _ _ e => e, eh, eg, hp, hs0, hs1, hlen⟩
      have fin : ∀ {H' : Hp} {cells : List Int} {stir : Int} (i : Int), Dr b H H' cells stir → rI (fun _ j => 0 < j) (fun i j => V.int (i % j)) (.int i) (.int n) H' Q := fun i d => ⟨i, n, rfl, rfl, n0, kQ (SVi (i % n)) _ F0 _ (hd _ (mod_lt n0).1 (mod_lt n0).2) (d.step ok) (.int _)⟩
      -- the last cell: pop
      have pops : ∀ {H' : Hp} {cells : List Int} {c : Int} {stir : Int} {Q : VK}, Dr b H H' (cells ++ [c]) stir → (Dr b H (upd H' b.g (.lst (cells.map V.int))) cells stir → Q (.int c) (upd H' b.g (.lst (cells.map V.int)))) → tyV K "list" (.ref b.g) H' ∧ rPop (.ref b.g) [] H' Q := fun {H' cells c stir Q} d q => by
        refine ⟨Or.inl ⟨rfl, _, Or.inl (Or.inl d.g)⟩, b.g, (cells ++ [c]).map V.int, .int c, rfl, rfl, d.g, ?_, ?_⟩
        · simp
        · rw [List.map_append, List.map_singleton, List.dropLast_concat]
          exact q (d.cells (fun x hx => d.pos x (List.mem_append_left _ hx)) (by have := d.len; simp at this; omega))
      refine ⟨fun m σ H' => σ = [some (.ref b.h), some (.int n), none] ∧ ∃ cells stir, Dr b H H' cells stir ∧ m = cells.length, ⟨_, rfl, c0, st0, d0, rfl⟩, ?_⟩
      rintro m σ H1 ⟨rfl, cells, stir, d, rfl⟩
      -- behind the loop
      have after : ∀ {H' : Hp} {cells : List Int} {stir : Int}, Dr b H H' cells stir → tSeq
                              (tIfS (tTest (tOp (rNeD K) (tOp (rIx K) (tVar 0) (tC (V.int 0))) (tLst tNil)))
                                (tSeq
                                  (tAsg
                                    (tBM0 K "list" rPop (tOp (rIx K) (tVar 0) (tC (V.int 0))))
                                    (gName 2))
                                  (tSeq
                                    (tDrop
                                      (tBM K "list" rAppend (tOp (rIx K) (tVar 0) (tC (V.int 0)))
                                        (tCons (tOp (rI CDivW fun i j => V.int (i / j)) (tVar 2) (tVar 1)) tNil)))
                                    (tRet
                                      (tOp (rI (fun x j => 0 < j) fun i j => V.int (i % j))
                                        (tCB
                                          (fun xs H Q =>
                                            (∃ i, xs = [V.int i] ∧ Q (V.int i) H) ∨
                                              ∃ k, xs = [V.bl k] ∧ Q (V.int (if k = true then 1 else 0)) H)
                                          (tCons (tVar 2) tNil))
                                        (tVar 1)))))
                                tNext)
                              (tSeq
                                (tAsg
                                  (tOp (rI (fun x j => 0 < j) fun i j => V.int (i % j))
                                    (tCB
                                      (fun xs H Q =>
                                        (∃ i, xs = [V.int i] ∧ Q (V.int i) H) ∨
                                          ∃ k, xs = [V.bl k] ∧ Q (V.int (if k = true then 1 else 0)) H)
                                      (tCons
                                        (tOp (rI0 fun i j => V.int (i + j))
                                          (tOp (rI CMulW fun i j => V.int (i * j)) (tOp (rIx K) (tVar 0) (tC (V.int 1)))
                                            (tC (V.int 48271)))
                                          (tC (V.int 13)))
                                        tNil))
                                    (tC (V.int 2147483647)))
                                  (gSub (tVar 0) (tC (V.int 1)) rSetL))
                                (tRet
                                  (tOp (rI (fun x j => 0 < j) fun i j => V.int (i % j))
                                    (tCB
                                      (fun xs H Q =>
                                        (∃ i, xs = [V.int i] ∧ Q (V.int i) H) ∨
                                          ∃ k, xs = [V.bl k] ∧ Q (V.int (if k = true then 1 else 0)) H)
                                      (tCons
                                        (tOp (rI CDivW fun i j => V.int (i / j)) (tOp (rIx K) (tVar 0) (tC (V.int 1)))
                                          (tC (V.int 64)))
                                        tNil))
                                    (tVar 1))))
                              { nx := fun x H' => Q V.non H', rt := Q } [some (.ref b.h), some (.int n), none] H' := by
        intro H' cells stir d
        refine ⟨_, rfl, rd0 d ⟨Nat.zero_le _, fun p hp1 => ?_⟩⟩
        have d2 := d.new (o := .lst []) hp1
        refine ne0 d2 upd_same ⟨_, rfl, ?_⟩
        rcases List.eq_nil_or_concat cells with e | ⟨cs, c, e⟩
        · subst e
          rw [if_neg (by decide)]
          refine ⟨_, rfl, rd1 d2 ⟨stir, 48271, rfl, rfl, ?_, _, _, rfl, rfl, Or.inl ⟨_, rfl, _, _, rfl, rfl, (by show (0 : Int) < 2147483647; decide), _, rfl, b.h, _, 1, 1, rfl, rfl, d2.h, rfl, ?_⟩⟩⟩
          · have : stir.natAbs.log2 < 63 := by
              rcases Nat.eq_zero_or_pos stir.natAbs with z | z
              · rw [z]; decide
              · exact (Nat.log2_lt (by omega)).mpr (by have := d2.s0; have := d2.s1; omega)
            show stir.natAbs.log2 + (48271 : Int).natAbs.log2 < 1000000
            have : (48271 : Int).natAbs.log2 = 15 := by decide
            omega
          · have d3 := d2.stir (mod_lt (i := stir * 48271 + 13) (n := 2147483647) (by decide)).1 (mod_lt (by decide)).2
            exact ⟨_, rfl, rd1 d3 ⟨_, 64, rfl, rfl, ⟨by decide, by decide⟩, Or.inl ⟨_, rfl, _, rfl, fin _ d3⟩⟩⟩
        · rw [List.concat_eq_append] at e
          subst e
          rw [if_pos (by simp)]
          refine ⟨_, rfl, rd0 d2 (pops d2 fun d3 => ?_)⟩
          have d4 := d3.cells (cs := cs ++ [c / n]) (fun x hx => by
            rcases List.mem_append.mp hx with h | h
            · exact d3.pos x h
            · rw [List.mem_singleton.mp h]; exact Int.ediv_nonneg (d2.pos c (by simp)) (by omega)) (by have := d2.len; simp at this; simp; omega)
          rw [List.map_append] at d4
          refine ⟨_, rfl, rd0 d3 ⟨Or.inl ⟨rfl, _, Or.inl (Or.inl d3.g)⟩, _, rfl, _, rfl, c, n, rfl, rfl, dv c, b.g, _, _, rfl, rfl, d3.g, ?_, _, rfl, Or.inl ⟨_, rfl, _, rfl, fin _ d4⟩⟩⟩
          have := d2.len
          simp at this
          show (cs.map V.int).length < 2 ^ 24
          rw [List.length_map]
          omega
      -- heap[0] != [] and heap[0][-1] == 0
      refine ⟨_, rfl, rd0 d ⟨Nat.zero_le _, fun p hp1 => ?_⟩⟩
      have d2 := d.new (o := .lst []) hp1
      refine ne0 d2 upd_same ⟨_, rfl, ?_⟩
      rcases List.eq_nil_or_concat cells with e | ⟨cs, c, e⟩
      · subst e
        show (if (false : Bool) = true then _ else _)
        rw [if_neg (by decide)]
        exact after d2
      · rw [List.concat_eq_append] at e
        subst e
        show (if (!(cs ++ [c]).isEmpty) = true then _ else _)
        rw [if_pos (by simp)]
        refine ⟨_, rfl, rd0 d2 ⟨1, rfl, Or.inl ⟨b.g, _, -1, .int c, rfl, rfl, Or.inl (Or.inl d2.g), (by rw [List.map_append]; exact atI_last _ _), .int c, .int 0, .int c, .int 0, rfl, rfl, _, rfl, ?_⟩⟩⟩
        show (if PyData.eqv (.int c) (.int 0) = true then _ else _)
        split
        · exact ⟨fun σ' H' => σ' = [some (.ref b.h), some (.int n), none] ∧ ∃ stir', Dr b H H' cs stir', fun σ' H' ⟨e, st, d⟩ => ⟨cs.length, by simp, e, cs, st, d, rfl⟩, _, rfl, rd0 d2 (pops d2 fun d3 => ⟨rfl, _, d3⟩)⟩
        · exact after d2

abbrev s_law_pick : Stmt := top 13
abbrev N__law_pick : List Str := ["heap", "some"]
theorem sc__law_pick : FnScope ["heap", "some"] ["heap", "some"] (defScope s_law_pick) := ⟨rfl, rfl, rfl, by decide +kernel, rfl, by decide +kernel, by decide +kernel⟩
theorem cal__law_pick {er : Er} {f : Addr} {fd : FuncData} (b : Box) (mf : mg "_law_pick" = some (.ref f)) (F : Fun K "_law_pick" "_law_pick" s_law_pick f fd) (T : Txt P w K mg base er) (c__law_draw : Cal P w K mg base CX0 1 "_law_draw" ["heap", "many"] (SpecM K (ABox b) 2 (s__law_draw b))) :
    Cal P w K mg base CX0 2 "_law_pick" ["heap", "some"] (SpecM K (ABox b) 2 (s__law_pick b)) := by
  refine cal_mk mf F (F.binds (ps := ["heap", "some"]) fun _ _ _ _ _ _ us hl => match us, hl with | [_, _], _ => rfl) (F.ok sc__law_pick (fun vs H Q E h => spec_len h) (fun cdv Ar outer s H vs Q E hr h => ?_))
  refine ⟨_, (pss_one (ps_ret (pe_ix (kIx K) (pv 1) (pe_cal c__law_draw (hr.mono (by decide)) (pa_cons (pv 0) (pa_cons (pe_callB (kLen K) (by rfl) T.m_len PySem.boot_len (pa_cons (pv 1) pa_nil)) pa_nil))) (fun _ _ => rfl)))), ?_⟩
  exact fn0 (m := b__law_pick b) (by decide) (fun xs Ed Qd hl hx => hs__law_pick b xs Ed Qd hl hx) h fun F0 H0 Ed ok0 hE => (sm_ret (em_ixVar (em_call (ea_cons em_var (ea_cons em_lenVar ea_nil)))))
abbrev s_law_order : Stmt := top 14
abbrev N__law_order : List Str := ["heap", "many", "order", "one"]
theorem sc__law_order : FnScope ["heap", "many", "order", "one"] ["heap", "many"] (defScope s_law_order) := ⟨rfl, rfl, rfl, by decide +kernel, rfl, by decide +kernel, by decide +kernel⟩
theorem cal__law_order {er : Er} {f : Addr} {fd : FuncData} (b : Box) (mf : mg "_law_order" = some (.ref f)) (F : Fun K "_law_order" "_law_order" s_law_order f fd) (T : Txt P w K mg base er) (c__law_draw : Cal P w K mg base CX0 1 "_law_draw" ["heap", "many"] (SpecM K (ABox b) 2 (s__law_draw b))) :
    Cal P w K mg base CX0 2 "_law_order" ["heap", "many"] (SpecM K (ABox b) 2 (s__law_order b)) := by
  refine cal_mk mf F (F.binds (ps := ["heap", "many"]) fun _ _ _ _ _ _ us hl => match us, hl with | [_, _], _ => rfl) (F.ok sc__law_order (fun vs H Q E h => spec_len h) (fun cdv Ar outer s H vs Q E hr h => ?_))
  refine ⟨_, (pss_cons (ps_set (i := 2) sc__law_order.nd rfl (Or.inl rfl) (pe_lst pa_nil))
    (pss_cons (ps_for PassesOwn.never rfl (pi_range1 (by rfl) T.m_range (pa_cons (pv 1) pa_nil)) (pg_name (i := 3) sc__law_order.nd rfl (Or.inl rfl)) (pss_one (ps_expr (kBm K PySem.F.plainAttrs_list PySem.F.slot_list_insert PySem.F.type_list_insert mt_insert (pv 2) (pa_cons (pe_cal c__law_draw (hr.mono (by decide)) (pa_cons (pv 0) (pa_cons (pe_op (kAdd K) (pe_callB (kLen K) (by rfl) T.m_len PySem.boot_len (pa_cons (pv 2) pa_nil)) pe_int) pa_nil))) (pa_cons (pv 3) pa_nil))))))
    (pss_one (ps_ret (pv 2))))), ?_⟩
  exact fn0 (m := b__law_order b) (by decide) (fun xs Ed Qd hl hx => hs__law_order b xs Ed Qd hl hx) h fun F0 H0 Ed ok0 hE => (sm_seq (sm_set (em_lst eo_nil))
    (sm_seq (sm_for (ei_rng1 (ea_cons em_var ea_nil)) gm_name (sm_ins (ea_cons (em_call (ea_cons em_var (ea_cons (em_op fr_addA em_lenVar em_int) ea_nil))) (ea_cons em_var ea_nil))))
    (sm_ret em_var)))
abbrev s_law_table : Stmt := top 15
abbrev N__law_table : List Str := ["kind", "wheel", "kinds", "sign", "extra", "rows", "one", "two", "turn", "row", "more", "place", "part"]
theorem sc__law_table : FnScope ["kind", "wheel", "kinds", "sign", "extra", "rows", "one", "two", "turn", "row", "more", "place", "part"] ["kind"] (defScope s_law_table) := ⟨rfl, rfl, rfl, by decide +kernel, rfl, by decide +kernel, by decide +kernel⟩
theorem cal__law_table {er : Er} {f : Addr} {fd : FuncData} {A : Amb} (mf : mg "_law_table" = some (.ref f)) (F : Fun K "_law_table" "_law_table" s_law_table f fd) (T : Txt P w K mg base er)  :
    Cal P w K mg base CX0 1 "_law_table" ["kind"] (SpecM K A 1 (s__law_table)) := by
  refine cal_mk mf F (F.binds (ps := ["kind"]) fun _ _ _ _ _ _ us hl => match us, hl with | [_], _ => rfl) (F.ok sc__law_table (fun vs H Q E h => spec_len h) (fun cdv Ar outer s H vs Q E hr h => ?_))
  refine ⟨_, (pss_cons (ps_asg (pv 0) (kTup K rfl (pgs_cons (pg_name (i := 1) sc__law_table.nd rfl (Or.inl rfl)) (pgs_cons (pg_name (i := 2) sc__law_table.nd rfl (Or.inl rfl)) (pgs_cons (pg_name (i := 3) sc__law_table.nd rfl (Or.inl rfl)) (pgs_cons (pg_name (i := 4) sc__law_table.nd rfl (Or.inl rfl)) pgs_nil))))))
    (pss_cons (ps_set (i := 5) sc__law_table.nd rfl (Or.inl rfl) (pe_lst pa_nil))
    (pss_cons (ps_for PassesOwn.never rfl (pi_range1 (by rfl) T.m_range (pa_cons (pe_op (kMul K) (pv 1) (pv 2)) pa_nil)) (pg_name (i := 6) sc__law_table.nd rfl (Or.inl rfl)) (pss_cons (ps_par (i := 8) (j := 9) rfl sc__law_table.nd rfl rfl (by decide) rfl rfl (pa_cons (pe_ifExp (pt_cmpR op_ge (pv 6) (pv 1) (nomark _)) (pv 3) pe_int) (pa_cons (pe_lst pa_nil) pa_nil)) (by rfl))
    (pss_cons (ps_for PassesOwn.never rfl (pi_range1 (by rfl) T.m_range (pa_cons (pe_op (kMul K) (pv 1) (pv 2)) pa_nil)) (pg_name (i := 7) sc__law_table.nd rfl (Or.inl rfl)) (pss_cons (ps_set (i := 10) sc__law_table.nd rfl (Or.inl rfl) (pe_ifExp (pw_and (pt_cmpR op_ge (pv 6) (pv 1) (nomark _)) (pw_and1 (pt_cmpR op_ge (pv 7) (pv 1) (nomark _)))).pt (pv 4) pe_int))
    (pss_cons (ps_par (i := 11) (j := 12) rfl sc__law_table.nd rfl rfl (by decide) rfl rfl (pa_cons (pe_op op_mod (pe_callTy call_int1 (by rfl) T.m_int (by decide +kernel) (pa_cons (pe_op (kAdd K) (pe_op (kAdd K) (pe_op op_mod (pv 6) (pv 1)) (pe_op (kMul K) (pv 8) (pe_op op_mod (pv 7) (pv 1)))) (pv 10)) pa_nil)) (pv 1)) (pa_cons (pe_op op_mod (pe_callTy call_int1 (by rfl) T.m_int (by decide +kernel) (pa_cons (pe_op (kAdd K) (pe_op op_fdivW (pv 6) (pv 1)) (pe_op op_fdivW (pv 7) (pv 1))) pa_nil)) (pv 2)) pa_nil)) (by rfl))
    (pss_one (ps_expr (kBm K PySem.F.plainAttrs_list PySem.F.slot_list_append PySem.F.type_list_append mt_append (pv 9) (pa_cons (pe_op (kAdd K) (pv 11) (pe_op (kMul K) (pv 1) (pv 12))) pa_nil)))))))
    (pss_one (ps_expr (kBm K PySem.F.plainAttrs_list PySem.F.slot_list_append PySem.F.type_list_append mt_append (pv 5) (pa_cons (pv 9) pa_nil)))))))
    (pss_one (ps_ret (pv 5)))))), ?_⟩
  exact fn0 (m := b__law_table) (by decide) (fun xs Ed Qd hl hx => hs__law_table xs Ed Qd hl hx) h fun F0 H0 Ed ok0 hE => (sm_seq (sm_asg em_var (gm_tup (gm_cons gm_name (gm_cons gm_name (gm_cons gm_name (gm_cons gm_name gm_nil))))))
    (sm_seq (sm_set (em_lst eo_nil))
    (sm_seq (sm_for (ei_rng1 (ea_cons (em_op fr_mulA em_var em_var) ea_nil)) gm_name (sm_seq (sm_par (eo_cons (em_if (et_test (em_op fr_Ib em_var em_var)) em_var em_int) (eo_cons (em_lst eo_nil) eo_nil)))
    (sm_seq (sm_for (ei_rng1 (ea_cons (em_op fr_mulA em_var em_var) ea_nil)) gm_name (sm_seq (sm_set (em_if (et_and (et_test (em_op fr_Ib em_var em_var)) (et_test (em_op fr_Ib em_var em_var))) em_var em_int))
    (sm_seq (sm_par (eo_cons (em_op fr_IC (em_cb fc_int (ea_cons (em_op fr_addA (em_op fr_addA (em_op fr_IC em_var em_var) (em_op fr_mulA em_var (em_op fr_IC em_var em_var))) em_var) ea_nil)) em_var) (eo_cons (em_op fr_IC (em_cb fc_int (ea_cons (em_op fr_addA (em_op fr_IC em_var em_var) (em_op fr_IC em_var em_var)) ea_nil)) em_var) eo_nil)))
    (sm_app (em_op fr_addA em_var (em_op fr_mulA em_var em_var))))))
    (sm_app em_var))))
    (sm_ret em_var))))
abbrev s_law_renamed : Stmt := top 16
abbrev N__law_renamed : List Str := ["table", "names", "rows", "one", "two", "row"]
theorem sc__law_renamed : FnScope ["table", "names", "rows", "one", "two", "row"] ["table", "names"] (defScope s_law_renamed) := ⟨rfl, rfl, rfl, by decide +kernel, rfl, by decide +kernel, by decide +kernel⟩
theorem cal__law_renamed {er : Er} {f : Addr} {fd : FuncData} {A : Amb} (mf : mg "_law_renamed" = some (.ref f)) (F : Fun K "_law_renamed" "_law_renamed" s_law_renamed f fd) (T : Txt P w K mg base er)  :
    Cal P w K mg base CX0 1 "_law_renamed" ["table", "names"] (SpecM K A 2 (s__law_renamed)) := by
  refine cal_mk mf F (F.binds (ps := ["table", "names"]) fun _ _ _ _ _ _ us hl => match us, hl with | [_, _], _ => rfl) (F.ok sc__law_renamed (fun vs H Q E h => spec_len h) (fun cdv Ar outer s H vs Q E hr h => ?_))
  refine ⟨_, (pss_cons (ps_setLc (i := 2) (own := [("one", 3)]) rfl sc__law_renamed.nd rfl rfl (sw_true rfl rfl rfl (by decide +kernel)) (kSeq K (pv 0)) (blkOk_by (N := N__law_renamed) (sc := defScope s_law_renamed) (by decide +kernel)) (fun _ _ _ _ _ => (pg_name (i := 3) sc__law_renamed.nd rfl (Or.inl rfl))) (fun _ _ _ _ _ => pts_nil) (fun _ _ _ _ _ => (pe_op (kMul K) (pe_lst (pa_cons pe_int pa_nil)) (pe_callB (kLen K) (by rfl) T.m_len PySem.boot_len (pa_cons (pv 0) pa_nil)))))
    (pss_cons (ps_for PassesOwn.never rfl (pi_range1 (by rfl) T.m_range (pa_cons (pe_callB (kLen K) (by rfl) T.m_len PySem.boot_len (pa_cons (pv 0) pa_nil)) pa_nil)) (pg_name (i := 3) sc__law_renamed.nd rfl (Or.inl rfl)) (pss_one (ps_for PassesOwn.never rfl (pi_range1 (by rfl) T.m_range (pa_cons (pe_callB (kLen K) (by rfl) T.m_len PySem.boot_len (pa_cons (pv 0) pa_nil)) pa_nil)) (pg_name (i := 4) sc__law_renamed.nd rfl (Or.inl rfl)) (pss_one (ps_asg (pe_ix (kIx K) (pv 1) (pe_ix (kIx K) (pe_ix (kIx K) (pv 0) (pv 3) (fun _ _ => rfl)) (pv 4) (fun _ _ => rfl)) (fun _ _ => rfl)) (pg_sub (pe_ix (kIx K) (pv 2) (pe_ix (kIx K) (pv 1) (pv 3) (fun _ _ => rfl)) (fun _ _ => rfl)) (pe_ix (kIx K) (pv 1) (pv 4) (fun _ _ => rfl)) set_list))))))
    (pss_one (ps_ret (pe_callTy (kTuple K) (by rfl) T.m_tuple (by decide +kernel) (pa_cons (pe_lc (own := [("row", 5)]) rfl sc__law_renamed.nd (kSeq K (pv 2)) (blkOk_by (N := N__law_renamed) (sc := defScope s_law_renamed) (by decide +kernel)) (fun _ _ _ _ _ => (pg_name (i := 5) sc__law_renamed.nd rfl (Or.inl rfl))) (fun _ _ _ _ _ => pts_nil) (fun _ _ _ _ _ => (pe_callTy (kTuple K) (by rfl) T.m_tuple (by decide +kernel) (pa_cons (pv 5) pa_nil)))) pa_nil)))))), ?_⟩
  exact fn0 (m := b__law_renamed) (by decide) (fun xs Ed Qd hl hx => hs__law_renamed xs Ed Qd hl hx) h fun F0 H0 Ed ok0 hE => (sm_seq (sm_set (em_lc (vs := [3]) (ei_seq em_var) gm_name et_yes (em_op fr_mulA (em_lst (eo_cons em_int eo_nil)) em_lenVar) (by decide) (go_name (by decide))))
    (sm_seq (sm_for (ei_rng1 (ea_cons em_lenVar ea_nil)) gm_name (sm_for (ei_rng1 (ea_cons em_lenVar ea_nil)) gm_name (sm_put2 (ro_op ro2_ix ro_var ro_var) (em_ixVar (em_op fr_ix (em_ixVar em_var) em_var)) (em_ixVar em_var) (em_ixVar em_var))))
    (sm_ret (em_cb fc_tuple (ea_cons (em_lc (vs := [5]) (ei_seq em_var) gm_name et_yes (em_cb fc_tuple (ea_cons em_var ea_nil)) (by decide) (go_name (by decide))) ea_nil)))))
abbrev s_law_drawn : Stmt := top 17
abbrev N__law_drawn : List Str := ["heap", "kinds", "kind", "one"]
theorem sc__law_drawn : FnScope ["heap", "kinds", "kind", "one"] ["heap"] (defScope s_law_drawn) := ⟨rfl, rfl, rfl, by decide +kernel, rfl, by decide +kernel, by decide +kernel⟩
theorem cal__law_drawn {er : Er} {f : Addr} {fd : FuncData} (b : Box) (mf : mg "_law_drawn" = some (.ref f)) (F : Fun K "_law_drawn" "_law_drawn" s_law_drawn f fd) (T : Txt P w K mg base er) (c__law_pick : Cal P w K mg base CX0 2 "_law_pick" ["heap", "some"] (SpecM K (ABox b) 2 (s__law_pick b))) (c__law_renamed : Cal P w K mg base CX0 1 "_law_renamed" ["table", "names"] (SpecM K (ABox b) 2 (s__law_renamed))) (c__law_order : Cal P w K mg base CX0 2 "_law_order" ["heap", "many"] (SpecM K (ABox b) 2 (s__law_order b))) (c__law_table : Cal P w K mg base CX0 1 "_law_table" ["kind"] (SpecM K (ABox b) 1 (s__law_table))) :
    Cal P w K mg base CX0 3 "_law_drawn" ["heap"] (SpecM K (ABox b) 1 (s__law_drawn b)) := by
  refine cal_mk mf F (F.binds (ps := ["heap"]) fun _ _ _ _ _ _ us hl => match us, hl with | [_], _ => rfl) (F.ok sc__law_drawn (fun vs H Q E h => spec_len h) (fun cdv Ar outer s H vs Q E hr h => ?_))
  refine ⟨_, (pss_cons (ps_set (i := 1) sc__law_drawn.nd rfl (Or.inl rfl) (pe_lst (pa_cons (pe_tup (pa_cons pe_int (pa_cons pe_int (pa_cons pe_int (pa_cons pe_int pa_nil))))) (pa_cons (pe_tup (pa_cons pe_int (pa_cons pe_int (pa_cons pe_int (pa_cons pe_int pa_nil))))) (pa_cons (pe_tup (pa_cons pe_int (pa_cons pe_int (pa_cons pe_int (pa_cons pe_int pa_nil))))) (pa_cons (pe_tup (pa_cons pe_int (pa_cons pe_int (pa_cons pe_int (pa_cons pe_int pa_nil))))) (pa_cons (pe_tup (pa_cons pe_int (pa_cons pe_int (pa_cons pe_int (pa_cons pe_int pa_nil))))) (pa_cons (pe_tup (pa_cons pe_int (pa_cons pe_int (pa_cons pe_int (pa_cons pe_int pa_nil))))) (pa_cons (pe_tup (pa_cons pe_int (pa_cons pe_int (pa_cons (pe_op op_sub pe_int pe_int) (pa_cons pe_int pa_nil))))) (pa_cons (pe_tup (pa_cons pe_int (pa_cons pe_int (pa_cons pe_int (pa_cons pe_int pa_nil))))) pa_nil))))))))))
    (pss_cons (ps_set (i := 2) sc__law_drawn.nd rfl (Or.inl rfl) (pe_cal c__law_pick (hr.mono (by decide)) (pa_cons (pv 0) (pa_cons (pe_op (kAdd K) (pv 1) (pe_lst (pa_cons (pe_tup (pa_cons pe_int (pa_cons pe_int (pa_cons (pe_op op_sub pe_int pe_int) (pa_cons pe_int pa_nil))))) (pa_cons (pe_tup (pa_cons pe_int (pa_cons pe_int (pa_cons pe_int (pa_cons pe_int pa_nil))))) (pa_cons (pe_tup (pa_cons pe_int (pa_cons pe_int (pa_cons (pe_op op_sub pe_int pe_int) (pa_cons pe_int pa_nil))))) (pa_cons (pe_tup (pa_cons pe_int (pa_cons pe_int (pa_cons (pe_op op_sub pe_int pe_int) (pa_cons pe_int pa_nil))))) pa_nil)))))) pa_nil))))
    (pss_one (ps_ret (pe_cal c__law_renamed (hr.mono (by decide)) (pa_cons (pe_cal c__law_table (hr.mono (by decide)) (pa_cons (pv 2) pa_nil)) (pa_cons (pe_op (kAdd K) (pe_lst (pa_cons pe_int pa_nil)) (pe_lc (own := [("one", 3)]) rfl sc__law_drawn.nd (kSeq K (pe_cal c__law_order (hr.mono (by decide)) (pa_cons (pv 0) (pa_cons (pe_op op_sub (pe_op (kMul K) (pe_ix (kIx K) (pv 2) pe_int (fun _ _ => rfl)) (pe_ix (kIx K) (pv 2) pe_int (fun _ _ => rfl))) pe_int) pa_nil)))) (blkOk_by (N := N__law_drawn) (sc := defScope s_law_drawn) (by decide +kernel)) (fun _ _ _ _ _ => (pg_name (i := 3) sc__law_drawn.nd rfl (Or.inl rfl))) (fun _ _ _ _ _ => pts_nil) (fun _ _ _ _ _ => (pe_op (kAdd K) (pv 3) pe_int)))) pa_nil))))))), ?_⟩
  exact fn0 (m := b__law_drawn b) (by decide) (fun xs Ed Qd hl hx => hs__law_drawn b xs Ed Qd hl hx) h fun F0 H0 Ed ok0 hE => (sm_seq (sm_set (em_lst (eo_cons (em_tup (ea_cons em_int (ea_cons em_int (ea_cons em_int (ea_cons em_int ea_nil))))) (eo_cons (em_tup (ea_cons em_int (ea_cons em_int (ea_cons em_int (ea_cons em_int ea_nil))))) (eo_cons (em_tup (ea_cons em_int (ea_cons em_int (ea_cons em_int (ea_cons em_int ea_nil))))) (eo_cons (em_tup (ea_cons em_int (ea_cons em_int (ea_cons em_int (ea_cons em_int ea_nil))))) (eo_cons (em_tup (ea_cons em_int (ea_cons em_int (ea_cons em_int (ea_cons em_int ea_nil))))) (eo_cons (em_tup (ea_cons em_int (ea_cons em_int (ea_cons em_int (ea_cons em_int ea_nil))))) (eo_cons (em_tup (ea_cons em_int (ea_cons em_int (ea_cons (em_op fr_I0 em_int em_int) (ea_cons em_int ea_nil))))) (eo_cons (em_tup (ea_cons em_int (ea_cons em_int (ea_cons em_int (ea_cons em_int ea_nil))))) eo_nil))))))))))
    (sm_seq (sm_set (em_call (ea_cons em_var (ea_cons (em_op fr_addA em_var (em_lst (eo_cons (em_tup (ea_cons em_int (ea_cons em_int (ea_cons (em_op fr_I0 em_int em_int) (ea_cons em_int ea_nil))))) (eo_cons (em_tup (ea_cons em_int (ea_cons em_int (ea_cons em_int (ea_cons em_int ea_nil))))) (eo_cons (em_tup (ea_cons em_int (ea_cons em_int (ea_cons (em_op fr_I0 em_int em_int) (ea_cons em_int ea_nil))))) (eo_cons (em_tup (ea_cons em_int (ea_cons em_int (ea_cons (em_op fr_I0 em_int em_int) (ea_cons em_int ea_nil))))) eo_nil)))))) ea_nil))))
    (sm_ret (em_call (ea_cons (em_call (ea_cons em_var ea_nil)) (ea_cons (em_op fr_addA (em_lst (eo_cons em_int eo_nil)) (em_lc (vs := [3]) (ei_seq (em_call (ea_cons em_var (ea_cons (em_op fr_I0 (em_op fr_mulA (em_ixVar em_int) (em_ixVar em_int)) em_int) ea_nil)))) gm_name et_yes (em_op fr_addA em_var em_int) (by decide) (go_name (by decide)))) ea_nil))))))
abbrev s_law_wrong : Stmt := top 18
abbrev N__law_wrong : List Str := ["value", "many", "at", "row", "one", "two", "three"]
theorem sc__law_wrong : FnScope ["value", "many", "at", "row", "one", "two", "three"] ["value"] (defScope s_law_wrong) := ⟨rfl, rfl, rfl, by decide +kernel, rfl, by decide +kernel, by decide +kernel⟩
theorem cal__law_wrong {er : Er} {f : Addr} {fd : FuncData} {A : Amb} (mf : mg "_law_wrong" = some (.ref f)) (F : Fun K "_law_wrong" "_law_wrong" s_law_wrong f fd) (T : Txt P w K mg base er)  :
    Cal P w K mg base CX0 1 "_law_wrong" ["value"] (SpecM K A 1 (s__law_wrong)) := by
  refine cal_mk mf F (F.binds (ps := ["value"]) fun _ _ _ _ _ _ us hl => match us, hl with | [_], _ => rfl) (F.ok sc__law_wrong (fun vs H Q E h => spec_len h) (fun cdv Ar outer s H vs Q E hr h => ?_))
  refine ⟨_, (pss_cons (ps_if (pw_or (pt_not (pt_val (pe_callB (kIsi K) (by rfl) T.m_isinstance (by decide +kernel) (pa_cons (pv 0) (pa_cons (pe_bltn (v := .ty "tuple") (by rfl) T.m_tuple (by decide +kernel) rfl) pa_nil))))) (pw_or (pt_cmpR op_lt (pe_callB (kLen K) (by rfl) T.m_len PySem.boot_len (pa_cons (pv 0) pa_nil)) pe_int (nomark _)) (pw_or1 (pt_cmpR op_gt (pe_callB (kLen K) (by rfl) T.m_len PySem.boot_len (pa_cons (pv 0) pa_nil)) pe_int (nomark _))))).pt (pss_one (ps_ret (pe_op op_sub pe_int pe_int))) pss_nil)
    (pss_cons (ps_set (i := 1) sc__law_wrong.nd rfl (Or.inl rfl) (pe_callB (kLen K) (by rfl) T.m_len PySem.boot_len (pa_cons (pv 0) pa_nil)))
    (pss_cons (ps_for PassesOwn.never rfl (pi_range1 (by rfl) T.m_range (pa_cons (pv 1) pa_nil)) (pg_name (i := 2) sc__law_wrong.nd rfl (Or.inl rfl)) (pss_cons (ps_set (i := 3) sc__law_wrong.nd rfl (Or.inl rfl) (pe_ix (kIx K) (pv 0) (pv 2) (fun _ _ => rfl)))
    (pss_cons (ps_if (pw_or (pt_not (pt_val (pe_callB (kIsi K) (by rfl) T.m_isinstance (by decide +kernel) (pa_cons (pv 3) (pa_cons (pe_bltn (v := .ty "tuple") (by rfl) T.m_tuple (by decide +kernel) rfl) pa_nil))))) (pw_or1 (pt_cmpR (kNe K hr) (pe_callB (kLen K) (by rfl) T.m_len PySem.boot_len (pa_cons (pv 3) pa_nil)) (pv 1) (nomark _)))).pt (pss_one (ps_ret (pv 2))) pss_nil)
    (pss_cons (ps_if (pt_not (pt_val (pe_callB (kAll K) (by rfl) T.m_all (by decide +kernel) (pa_cons (pe_lc (own := [("one", 4)]) rfl sc__law_wrong.nd (kSeq K (pv 3)) (blkOk_by (N := N__law_wrong) (sc := defScope s_law_wrong) (by decide +kernel)) (fun _ _ _ _ _ => (pg_name (i := 4) sc__law_wrong.nd rfl (Or.inl rfl))) (fun _ _ _ _ _ => pts_nil) (fun _ _ _ _ _ => (pe_and (pe_callB (kIsi K) (by rfl) T.m_isinstance (by decide +kernel) (pa_cons (pv 4) (pa_cons (pe_bltn (v := .ty "int") (by rfl) T.m_int (by decide +kernel) rfl) pa_nil))) (pe_one (pe_not (pe_callB (kIsi K) (by rfl) T.m_isinstance (by decide +kernel) (pa_cons (pv 4) (pa_cons (pe_bltn (v := .ty "bool") (by rfl) T.m_bool (by decide +kernel) rfl) pa_nil)))))))) pa_nil)))) (pss_one (ps_ret (pv 2))) pss_nil)
    (pss_one (ps_if (pw_or (pt_cmpR (kNe K hr) (pe_callB (kSortedA K) (by rfl) T.m_sorted (by decide +kernel) (pa_cons (pv 3) pa_nil)) (pe_listRg rfl (by rfl) T.m_list (prg_1 (by rfl) T.m_range (pv 1))) (nomark _)) (pw_or (pt_cmpR (kNe K hr) (pe_ix (kIx K) (pv 3) pe_int (fun _ _ => rfl)) (pv 2) (nomark _)) (pw_or1 (pw_and (pt_cmpR (kEq K hr) (pv 2) pe_int (nomark _)) (pw_and1 (pt_cmpR (kNe K hr) (pe_callTy (kList K) (by rfl) T.m_list (by decide +kernel) (pa_cons (pv 3) pa_nil)) (pe_listRg rfl (by rfl) T.m_list (prg_1 (by rfl) T.m_range (pv 1))) (nomark _)))).pt))).pt (pss_one (ps_ret (pv 2))) pss_nil))))))
    (pss_cons (ps_for PassesOwn.never rfl (pi_range1 (by rfl) T.m_range (pa_cons (pv 1) pa_nil)) (pg_name (i := 2) sc__law_wrong.nd rfl (Or.inl rfl)) (pss_one (ps_for PassesOwn.never rfl (pi_range1 (by rfl) T.m_range (pa_cons (pv 1) pa_nil)) (pg_name (i := 5) sc__law_wrong.nd rfl (Or.inl rfl)) (pss_one (ps_for PassesOwn.never rfl (pi_range1 (by rfl) T.m_range (pa_cons (pv 1) pa_nil)) (pg_name (i := 6) sc__law_wrong.nd rfl (Or.inl rfl)) (pss_one (ps_if (pt_cmpR (kNe K hr) (pe_ix (kIx K) (pe_ix (kIx K) (pv 0) (pe_ix (kIx K) (pe_ix (kIx K) (pv 0) (pv 2) (fun _ _ => rfl)) (pv 5) (fun _ _ => rfl)) (fun _ _ => rfl)) (pv 6) (fun _ _ => rfl)) (pe_ix (kIx K) (pe_ix (kIx K) (pv 0) (pv 2) (fun _ _ => rfl)) (pe_ix (kIx K) (pe_ix (kIx K) (pv 0) (pv 5) (fun _ _ => rfl)) (pv 6) (fun _ _ => rfl)) (fun _ _ => rfl)) (nomark _)) (pss_one (ps_ret (pv 2))) pss_nil)))))))
    (pss_one (ps_ret pe_non)))))), ?_⟩
  exact fn0 (m := b__law_wrong) (by decide) (fun xs Ed Qd hl hx => hs__law_wrong xs Ed Qd hl hx) h fun F0 H0 Ed ok0 hE => (sm_seq (sm_if (et_or (et_not (et_B (em_cb fc_isi (ea_cons em_var (ea_cons em_raw ea_nil))))) (et_or (et_test (em_op fr_Ib em_lenVar em_int)) (et_test (em_op fr_Ib em_lenVar em_int)))) (sm_ret (em_op fr_I0 em_int em_int)) sm_next)
    (sm_seq (sm_set em_lenVar)
    (sm_seq (sm_for (ei_rng1 (ea_cons em_var ea_nil)) gm_name (sm_seq (sm_set (em_ixVar em_var))
    (sm_seq (sm_if (et_or (et_not (et_B (em_cb fc_isi (ea_cons em_var (ea_cons em_raw ea_nil))))) (et_test (em_op fr_neD em_lenVar em_var))) (sm_ret em_var) sm_next)
    (sm_seq (sm_if (et_not (et_B (em_cb fc_all (ea_cons (em_lc (vs := [4]) (ei_seq em_var) gm_name et_yes (em_and (em_cb fc_isi (ea_cons em_var (ea_cons em_raw ea_nil))) (em_not (em_cb fc_isi (ea_cons em_var (ea_cons em_raw ea_nil))))) (by decide) (go_name (by decide))) ea_nil)))) (sm_ret em_var) sm_next)
    (sm_if (et_or (et_test (em_op fr_neD (em_cb fc_sortedA (ea_cons em_var ea_nil)) (em_lstRg1 em_var))) (et_or (et_test (em_op fr_neD (em_ixVar em_int) em_var)) (et_and (et_test (em_op fr_eqD em_var em_int)) (et_test (em_op fr_neD (em_cb fc_list (ea_cons em_var ea_nil)) (em_lstRg1 em_var)))))) (sm_ret em_var) sm_next)))))
    (sm_seq (sm_for (ei_rng1 (ea_cons em_var ea_nil)) gm_name (sm_for (ei_rng1 (ea_cons em_var ea_nil)) gm_name (sm_for (ei_rng1 (ea_cons em_var ea_nil)) gm_name (sm_if (et_test (em_op fr_neD (em_op fr_ix (em_ixVar (em_op fr_ix (em_ixVar em_var) em_var)) em_var) (em_op fr_ix (em_ixVar em_var) (em_op fr_ix (em_ixVar em_var) em_var)))) (sm_ret em_var) sm_next))))
    (sm_ret em_non)))))
abbrev s_law_told : Stmt := top 19
theorem sc__law_told : FnScope ["value", "error"] ["value"] (defScope s_law_told) := ⟨rfl, rfl, rfl, by decide +kernel, rfl, by decide +kernel, by decide +kernel⟩
theorem cal__law_told {f : Addr} {fd : FuncData} {A : Amb} (er : Er) {S : Addr} (mf : mg "_law_told" = some (.ref f)) (F : Fun K "_law_told" "_law_told" s_law_told f fd) (T : Txt P w K mg base er) (X : ErrT K mg er.e_InvalidTable S "InvalidTable" "StoreError" "at") (c_check_table : Cal P w K mg base (L2.CX P w) 3 "check_table" ["value"] (SpecM K A 1 (s_check_table er))) :
    Cal P w K mg base CX0 4 "_law_told" ["value"] (SpecM K A 1 (s__law_told er)) := by
  refine cal_mk mf F (F.binds (ps := ["value"]) fun _ _ _ _ _ _ us hl => match us, hl with | [_], _ => rfl) (F.ok sc__law_told (fun vs H Q E h => spec_len h) (fun cdv Ar outer s H vs Q E hr h => ?_))
  obtain ⟨fc, fdc, ⟨mc, _⟩, kc, bc, Fc⟩ := c_check_table
  refine ⟨_, (pss_one (ps_try_as (i := 1) (tb := fun W => tRet (tLst (tCons (tC (.str "table")) (tCons (tCallS (SpecM K A 1 (s_check_table er)) (WE W) (tCons (tVar 0) tNil)) tNil))))
    (ts := fun a cls d => tRet (tIf (tB (tCB (rIsD K er.e_InvalidTable a cls d) (tCons (tVar 1) (tCons (tC (.ref S)) tNil)))) (tLst (tCons (tC (.str "refused")) (tCons (tXf a cls d er.e_InvalidTable "at" (tVar 1)) tNil))) (tLst (tCons (tC (.str "other")) tNil))))
    (Wout := fun _ _ _ _ => False) rfl rfl sc__law_told.nd rfl rfl ⟨rfl, by decide, Or.inl X.g⟩ takes0
    (fun W pn xe tk _ => pss_one (ps_ret (pe_lst (pa_cons pe_str (pa_cons (by exact (pe_callS Fc (hr.mono (by decide)) rfl mc kc bc (fun σ => passAt tk σ) (by exact (pa_cons (pv 0) pa_nil)))) pa_nil)))))
    (fun a oe cls d pn hz hf => pss_one (ps_ret (pe_ifExp (pt_val (pe_callB (call_isD X.xc hz hf) (by rfl) T.m_isinstance (by decide +kernel) (pa_cons (pv 1) (pa_cons (pe_glob (by rfl) X.gS rfl) pa_nil)))) (pe_lst (pa_cons pe_str (pa_cons (pe_xf X.xf X.no hz hf (pv 1)) pa_nil))) (pe_lst (pa_cons pe_str pa_nil))))))), ?_⟩
  obtain ⟨F0, xs, Qd, Ed, ok, rv, hn, ⟨x, ex, hm⟩, kQ, _⟩ := h
  subst ex
  cases rv with
  | cons r1 r2 =>
    cases r2
    have two : (2 : Nat) ≤ sizeLine := by decide
    -- behind the call
    show (_ : Prop)
    refine ⟨_, rfl, F0, [x], _, _, ok, .cons r1 .nil, rfl, hm, ?_, ?_⟩
    · rintro y v F1 H1 ⟨p, ey, q⟩ st r
      subst ey
      refine ⟨two, fun a ha => ?_⟩
      exact kQ _ _ (upd F1 a (.lst [.str "table", v])) _ q (st.trans (Step.alloc st.ok ha)) (.lst upd_same (.cons (.str _) (.cons (Dq.up (Ex.new (ok_none st.ok ha)) r) .nil)))
    · rintro xd ⟨p, ex, q⟩ c dd F1 H1 st ⟨ec, vs, pr, dis⟩
      subst ex
      subst ec
      cases pr with
      | cons h1 t1 =>
        cases t1
        rename_i pv0
        obtain ⟨nm, vv⟩ := pv0
        obtain ⟨e1, r⟩ := h1
        cases e1
        rcases dis with ⟨z, _⟩ | ⟨_, d, ed, hd⟩
        · cases z
        subst ed
        refine ⟨true, X.te, fun _ a ha => ?_, fun z => nomatch z⟩
        refine ⟨_, rfl, rfl, d, _, .ref S, .ref S, true, rfl, hd, rfl, fun u hu => hu, X.kt, ⟨true, rfl, ?_⟩⟩
        show (if true = true then _ else _)
        rw [if_pos rfl]
        refine ⟨_, rfl, rfl, rfl, d, _, vv, rfl, hd, lookup_hd, two, fun b hb => ?_⟩
        exact kQ _ _ (upd F1 b (.lst [.str "refused", vv])) _ q (st.trans (Step.alloc st.ok hb)) (.lst upd_same (.cons (.str _) (.cons (Dq.up (Ex.new (ok_none st.ok hb)) r) .nil)))

abbrev s_law_due : Stmt := top 20
abbrev N__law_due : List Str := ["value", "wrong"]
theorem sc__law_due : FnScope ["value", "wrong"] ["value"] (defScope s_law_due) := ⟨rfl, rfl, rfl, by decide +kernel, rfl, by decide +kernel, by decide +kernel⟩
theorem cal__law_due {er : Er} {f : Addr} {fd : FuncData} {A : Amb} (mf : mg "_law_due" = some (.ref f)) (F : Fun K "_law_due" "_law_due" s_law_due f fd) (T : Txt P w K mg base er) (c__law_wrong : Cal P w K mg base CX0 1 "_law_wrong" ["value"] (SpecM K A 1 (s__law_wrong))) :
    Cal P w K mg base CX0 2 "_law_due" ["value"] (SpecM K A 1 (s__law_due)) := by
  refine cal_mk mf F (F.binds (ps := ["value"]) fun _ _ _ _ _ _ us hl => match us, hl with | [_], _ => rfl) (F.ok sc__law_due (fun vs H Q E h => spec_len h) (fun cdv Ar outer s H vs Q E hr h => ?_))
  refine ⟨_, (pss_cons (ps_set (i := 1) sc__law_due.nd rfl (Or.inl rfl) (pe_cal c__law_wrong (hr.mono (by decide)) (pa_cons (pv 0) pa_nil)))
    (pss_one (ps_ret (pe_ifExp (pt_cmpR op_isN (pv 1) pe_non (nomark _)) (pe_lst (pa_cons pe_str (pa_cons pe_non pa_nil))) (pe_lst (pa_cons pe_str (pa_cons (pv 1) pa_nil))))))), ?_⟩
  exact fn0 (m := b__law_due) (by decide) (fun xs Ed Qd hl hx => hs__law_due xs Ed Qd hl hx) h fun F0 H0 Ed ok0 hE => (sm_seq (sm_set (em_call (ea_cons em_var ea_nil)))
    (sm_ret (em_if (et_test (em_op fr_isN em_var em_non)) (em_lst (eo_cons em_str (eo_cons em_non eo_nil))) (em_lst (eo_cons em_str (eo_cons em_var eo_nil))))))
abbrev s_law_put : Stmt := top 21
abbrev N__law_put : List Str := ["row", "at", "thing"]
theorem sc__law_put : FnScope ["row", "at", "thing"] ["row", "at", "thing"] (defScope s_law_put) := ⟨rfl, rfl, rfl, by decide +kernel, rfl, by decide +kernel, by decide +kernel⟩
theorem cal__law_put {er : Er} {f : Addr} {fd : FuncData} {A : Amb} (mf : mg "_law_put" = some (.ref f)) (F : Fun K "_law_put" "_law_put" s_law_put f fd) (T : Txt P w K mg base er)  :
    Cal P w K mg base CX0 1 "_law_put" ["row", "at", "thing"] (SpecM K A 3 (s__law_put)) := by
  refine cal_mk mf F (F.binds (ps := ["row", "at", "thing"]) fun _ _ _ _ _ _ us hl => match us, hl with | [_, _, _], _ => rfl) (F.ok sc__law_put (fun vs H Q E h => spec_len h) (fun cdv Ar outer s H vs Q E hr h => ?_))
  refine ⟨_, (pss_one (ps_ret (pe_op (kAdd K) (pe_op (kAdd K) (pe_slice (kSl K) (pv 0) po_none (po_some (pv 1))) (pe_tup (pa_cons (pv 2) pa_nil))) (pe_slice (kSl K) (pv 0) (po_some (pe_op (kAdd K) (pv 1) pe_int)) po_none)))), ?_⟩
  exact fn0 (m := b__law_put) (by decide) (fun xs Ed Qd hl hx => hs__law_put xs Ed Qd hl hx) h fun F0 H0 Ed ok0 hE => (sm_ret (em_op fr_addA (em_op fr_addA (em_sl em_var ep_no (ep_some em_var)) (em_tup (ea_cons em_var ea_nil))) (em_sl em_var (ep_some (em_op fr_addA em_var em_int)) ep_no)))
abbrev s_law_spoilt : Stmt := top 22
abbrev N__law_spoilt : List Str := ["heap", "table", "kind", "many", "at", "place", "other", "row", "things", "rows", "one", "left", "two"]
theorem sc__law_spoilt : FnScope ["heap", "table", "kind", "many", "at", "place", "other", "row", "things", "rows", "one", "left", "two"] ["heap", "table"] (defScope s_law_spoilt) := ⟨rfl, rfl, rfl, by decide +kernel, rfl, by decide +kernel, by decide +kernel⟩
theorem cal__law_spoilt {er : Er} {f : Addr} {fd : FuncData} (b : Box) (mf : mg "_law_spoilt" = some (.ref f)) (F : Fun K "_law_spoilt" "_law_spoilt" s_law_spoilt f fd) (T : Txt P w K mg base er) (c__law_draw : Cal P w K mg base CX0 1 "_law_draw" ["heap", "many"] (SpecM K (ABox b) 2 (s__law_draw b))) (c__law_put : Cal P w K mg base CX0 1 "_law_put" ["row", "at", "thing"] (SpecM K (ABox b) 3 (s__law_put))) (c__law_pick : Cal P w K mg base CX0 2 "_law_pick" ["heap", "some"] (SpecM K (ABox b) 2 (s__law_pick b))) (c__law_order : Cal P w K mg base CX0 2 "_law_order" ["heap", "many"] (SpecM K (ABox b) 2 (s__law_order b))) :
    Cal P w K mg base CX0 3 "_law_spoilt" ["heap", "table"] (SpecM K (ABox b) 2 (s__law_spoilt b)) := by
  refine cal_mk mf F (F.binds (ps := ["heap", "table"]) fun _ _ _ _ _ _ us hl => match us, hl with | [_, _], _ => rfl) (F.ok sc__law_spoilt (fun vs H Q E h => spec_len h) (fun cdv Ar outer s H vs Q E hr h => ?_))
  refine ⟨_, (pss_cons (ps_par (i := 2) (j := 3) rfl sc__law_spoilt.nd rfl rfl (by decide) rfl rfl (pa_cons (pe_cal c__law_draw (hr.mono (by decide)) (pa_cons (pv 0) (pa_cons pe_int pa_nil))) (pa_cons (pe_callB (kLen K) (by rfl) T.m_len PySem.boot_len (pa_cons (pv 1) pa_nil)) pa_nil)) (by rfl))
    (pss_cons (ps_par3 (i := 4) (j := 5) (l := 6) rfl sc__law_spoilt.nd rfl rfl rfl (by decide) (by decide) (by decide) rfl rfl rfl (pa_cons (pe_cal c__law_draw (hr.mono (by decide)) (pa_cons (pv 0) (pa_cons (pv 3) pa_nil))) (pa_cons (pe_cal c__law_draw (hr.mono (by decide)) (pa_cons (pv 0) (pa_cons (pv 3) pa_nil))) (pa_cons (pe_cal c__law_draw (hr.mono (by decide)) (pa_cons (pv 0) (pa_cons (pv 3) pa_nil))) pa_nil))) (by rfl))
    (pss_cons (ps_set (i := 7) sc__law_spoilt.nd rfl (Or.inl rfl) (pe_ix (kIx K) (pv 1) (pv 4) (fun _ _ => rfl)))
    (pss_cons (ps_if (pt_cmpR (kEq K hr) (pv 2) pe_int (nomark _)) (pss_cons (ps_set (i := 8) sc__law_spoilt.nd rfl (Or.inl rfl) (pe_lst (pa_cons (pv 6) (pa_cons (pv 6) (pa_cons (pv 3) (pa_cons (pe_op op_sub pe_int pe_int) (pa_cons pe_non (pa_cons (pe_cmpR (kEq K hr) (pv 3) (pv 3) (nomark _)) (pa_cons (pe_callTy call_str_int (by rfl) T.m_str (by decide +kernel) (pa_cons (pv 6) pa_nil)) (pa_cons (pe_tup (pa_cons (pv 6) pa_nil)) (pa_cons (pe_lst (pa_cons (pv 6) pa_nil)) (pa_cons (pe_op op_pow pe_int pe_int) pa_nil))))))))))))
    (pss_one (ps_ret (pe_cal c__law_put (hr.mono (by decide)) (pa_cons (pv 1) (pa_cons (pv 4) (pa_cons (pe_cal c__law_put (hr.mono (by decide)) (pa_cons (pv 7) (pa_cons (pv 5) (pa_cons (pe_cal c__law_pick (hr.mono (by decide)) (pa_cons (pv 0) (pa_cons (pv 8) pa_nil))) pa_nil)))) pa_nil))))))) pss_nil)
    (pss_cons (ps_if (pt_cmpR (kEq K hr) (pv 2) pe_int (nomark _)) (pss_one (ps_ret (pe_cal c__law_put (hr.mono (by decide)) (pa_cons (pv 1) (pa_cons (pv 4) (pa_cons (pe_cal c__law_put (hr.mono (by decide)) (pa_cons (pe_cal c__law_put (hr.mono (by decide)) (pa_cons (pv 7) (pa_cons (pv 5) (pa_cons (pe_ix (kIx K) (pv 7) (pv 6) (fun _ _ => rfl)) pa_nil)))) (pa_cons (pv 6) (pa_cons (pe_ix (kIx K) (pv 7) (pv 5) (fun _ _ => rfl)) pa_nil)))) pa_nil)))))) pss_nil)
    (pss_cons (ps_if (pt_cmpR (kEq K hr) (pv 2) pe_int (nomark _)) (pss_one (ps_ret (pe_cal c__law_put (hr.mono (by decide)) (pa_cons (pe_cal c__law_put (hr.mono (by decide)) (pa_cons (pv 1) (pa_cons (pv 4) (pa_cons (pe_ix (kIx K) (pv 1) (pv 6) (fun _ _ => rfl)) pa_nil)))) (pa_cons (pv 6) (pa_cons (pv 7) pa_nil)))))) pss_nil)
    (pss_cons (ps_if (pt_cmpR (kEq K hr) (pv 2) pe_int (nomark _)) (pss_one (ps_ret (pe_cal c__law_put (hr.mono (by decide)) (pa_cons (pv 1) (pa_cons (pv 4) (pa_cons (pe_cal c__law_pick (hr.mono (by decide)) (pa_cons (pv 0) (pa_cons (pe_lst (pa_cons (pe_op (kAdd K) (pe_slice (kSl K) (pv 7) po_none (po_some (pv 5))) (pe_slice (kSl K) (pv 7) (po_some (pe_op (kAdd K) (pv 5) pe_int)) po_none)) (pa_cons (pe_op (kAdd K) (pv 7) (pe_tup (pa_cons (pv 6) pa_nil))) (pa_cons (pe_callTy (kList K) (by rfl) T.m_list (by decide +kernel) (pa_cons (pv 7) pa_nil)) (pa_cons pe_non (pa_cons (pe_tup pa_nil) (pa_cons (pv 4) pa_nil))))))) pa_nil))) pa_nil)))))) pss_nil)
    (pss_cons (ps_if (pt_cmpR (kEq K hr) (pv 2) pe_int (nomark _)) (pss_one (ps_ret (pe_cal c__law_pick (hr.mono (by decide)) (pa_cons (pv 0) (pa_cons (pe_lst (pa_cons (pe_op (kAdd K) (pe_slice (kSl K) (pv 1) po_none (po_some (pv 4))) (pe_slice (kSl K) (pv 1) (po_some (pe_op (kAdd K) (pv 4) pe_int)) po_none)) (pa_cons (pe_op (kAdd K) (pv 1) (pe_tup (pa_cons (pv 7) pa_nil))) (pa_cons (pe_op (kAdd K) (pe_op (kAdd K) (pe_slice (kSl K) (pv 1) po_none (po_some (pv 4))) (pe_tup (pa_cons (pv 7) pa_nil))) (pe_slice (kSl K) (pv 1) (po_some (pv 4)) po_none)) pa_nil)))) pa_nil))))) pss_nil)
    (pss_cons (ps_set (i := 9) sc__law_spoilt.nd rfl (Or.inl rfl) (pe_lst (pa_cons (pe_tupRg rfl (by rfl) T.m_tuple (prg_1 (by rfl) T.m_range (pv 3))) pa_nil)))
    (pss_cons (ps_for PassesOwn.never rfl (pi_range2 (by rfl) T.m_range (pa_cons pe_int (pa_cons (pv 3) pa_nil))) (pg_name (i := 10) sc__law_spoilt.nd rfl (Or.inr rfl)) (pss_cons (ps_set (i := 11) sc__law_spoilt.nd rfl (Or.inr rfl) (pe_lc (own := [("two", 12)]) rfl sc__law_spoilt.nd (pi_range1 (by rfl) T.m_range (pa_cons (pv 3) pa_nil)) (blkOk_by (N := N__law_spoilt) (sc := defScope s_law_spoilt) (by decide +kernel)) (fun _ _ _ _ _ => (pg_name (i := 12) sc__law_spoilt.nd rfl (Or.inl rfl))) (fun _ _ _ _ _ => pts_one (pt_cmpR (kNe K hr) (pv 12) (pv 10) (nomark _))) (fun _ _ _ _ _ => (pv 12))))
    (pss_one (ps_expr (kBm K PySem.F.plainAttrs_list PySem.F.slot_list_append PySem.F.type_list_append mt_append (pv 9) (pa_cons (pe_op (kAdd K) (pe_tup (pa_cons (pv 10) pa_nil)) (pe_callTy (kTuple K) (by rfl) T.m_tuple (by decide +kernel) (pa_cons (pe_lc (own := [("two", 12)]) rfl sc__law_spoilt.nd (kSeq K (pe_cal c__law_order (hr.mono (by decide)) (pa_cons (pv 0) (pa_cons (pe_op op_sub (pv 3) pe_int) pa_nil)))) (blkOk_by (N := N__law_spoilt) (sc := defScope s_law_spoilt) (by decide +kernel)) (fun _ _ _ _ _ => (pg_name (i := 12) sc__law_spoilt.nd rfl (Or.inl rfl))) (fun _ _ _ _ _ => pts_nil) (fun _ _ _ _ _ => (pe_ix (kIx K) (pv 11) (pv 12) (fun _ _ => rfl)))) pa_nil))) pa_nil))))))
    (pss_cons (ps_if (pt_cmpR (kEq K hr) (pv 2) pe_int (nomark _)) (pss_one (ps_ret (pe_callTy (kTuple K) (by rfl) T.m_tuple (by decide +kernel) (pa_cons (pv 9) pa_nil)))) pss_nil)
    (pss_one (ps_ret (pe_cal c__law_put (hr.mono (by decide)) (pa_cons (pv 1) (pa_cons (pv 4) (pa_cons (pe_ix (kIx K) (pv 9) (pv 4) (fun _ _ => rfl)) pa_nil))))))))))))))))), ?_⟩
  exact fn0 (m := b__law_spoilt b) (by decide) (fun xs Ed Qd hl hx => hs__law_spoilt b xs Ed Qd hl hx) h fun F0 H0 Ed ok0 hE => (sm_seq (sm_par (eo_cons (em_call (ea_cons em_var (ea_cons em_int ea_nil))) (eo_cons em_lenVar eo_nil)))
    (sm_seq (sm_par3 (eo_cons (em_call (ea_cons em_var (ea_cons em_var ea_nil))) (eo_cons (em_call (ea_cons em_var (ea_cons em_var ea_nil))) (eo_cons (em_call (ea_cons em_var (ea_cons em_var ea_nil))) eo_nil))))
    (sm_seq (sm_set (em_ixVar em_var))
    (sm_seq (sm_if (et_test (em_op fr_eqD em_var em_int)) (sm_seq (sm_set (em_lst (eo_cons em_var (eo_cons em_var (eo_cons em_var (eo_cons (em_op fr_I0 em_int em_int) (eo_cons em_non (eo_cons (em_op fr_eqD em_var em_var) (eo_cons (em_cb fc_str (ea_cons em_var ea_nil)) (eo_cons (em_tup (ea_cons em_var ea_nil)) (eo_cons (em_lst (eo_cons em_var eo_nil)) (eo_cons (em_op fr_IC em_int em_int) eo_nil))))))))))))
    (sm_ret (em_call (ea_cons em_var (ea_cons em_var (ea_cons (em_call (ea_cons em_var (ea_cons em_var (ea_cons (em_call (ea_cons em_var (ea_cons em_var ea_nil))) ea_nil)))) ea_nil)))))) sm_next)
    (sm_seq (sm_if (et_test (em_op fr_eqD em_var em_int)) (sm_ret (em_call (ea_cons em_var (ea_cons em_var (ea_cons (em_call (ea_cons (em_call (ea_cons em_var (ea_cons em_var (ea_cons (em_ixVar em_var) ea_nil)))) (ea_cons em_var (ea_cons (em_ixVar em_var) ea_nil)))) ea_nil))))) sm_next)
    (sm_seq (sm_if (et_test (em_op fr_eqD em_var em_int)) (sm_ret (em_call (ea_cons (em_call (ea_cons em_var (ea_cons em_var (ea_cons (em_ixVar em_var) ea_nil)))) (ea_cons em_var (ea_cons em_var ea_nil))))) sm_next)
    (sm_seq (sm_if (et_test (em_op fr_eqD em_var em_int)) (sm_ret (em_call (ea_cons em_var (ea_cons em_var (ea_cons (em_call (ea_cons em_var (ea_cons (em_lst (eo_cons (em_op fr_addA (em_sl em_var ep_no (ep_some em_var)) (em_sl em_var (ep_some (em_op fr_addA em_var em_int)) ep_no)) (eo_cons (em_op fr_addA em_var (em_tup (ea_cons em_var ea_nil))) (eo_cons (em_cb fc_list (ea_cons em_var ea_nil)) (eo_cons em_non (eo_cons (em_tup ea_nil) (eo_cons em_var eo_nil))))))) ea_nil))) ea_nil))))) sm_next)
    (sm_seq (sm_if (et_test (em_op fr_eqD em_var em_int)) (sm_ret (em_call (ea_cons em_var (ea_cons (em_lst (eo_cons (em_op fr_addA (em_sl em_var ep_no (ep_some em_var)) (em_sl em_var (ep_some (em_op fr_addA em_var em_int)) ep_no)) (eo_cons (em_op fr_addA em_var (em_tup (ea_cons em_var ea_nil))) (eo_cons (em_op fr_addA (em_op fr_addA (em_sl em_var ep_no (ep_some em_var)) (em_tup (ea_cons em_var ea_nil))) (em_sl em_var (ep_some em_var) ep_no)) eo_nil)))) ea_nil)))) sm_next)
    (sm_seq (sm_set (em_lst (eo_cons (em_tupRg1 em_var) eo_nil)))
    (sm_seq (sm_for (ei_rng2 (ea_cons em_int (ea_cons em_var ea_nil))) gm_name (sm_seq (sm_set (em_lc (vs := [12]) (ei_rng1 (ea_cons em_var ea_nil)) gm_name (et_test (em_op fr_neD em_var em_var)) em_var (by decide) (go_name (by decide))))
    (sm_app (em_op fr_addA (em_tup (ea_cons em_var ea_nil)) (em_cb fc_tuple (ea_cons (em_lc (vs := [12]) (ei_seq (em_call (ea_cons em_var (ea_cons (em_op fr_I0 em_var em_int) ea_nil)))) gm_name et_yes (em_ixVar em_var) (by decide) (go_name (by decide))) ea_nil))))))
    (sm_seq (sm_if (et_test (em_op fr_eqD em_var em_int)) (sm_ret (em_cb fc_tuple (ea_cons em_var ea_nil))) sm_next)
    (sm_ret (em_call (ea_cons em_var (ea_cons em_var (ea_cons (em_ixVar em_var) ea_nil))))))))))))))))
abbrev s_law_half : Stmt := top 23
abbrev N__law_half : List Str := ["heap", "wheel", "blocks", "many", "rows", "block", "rest", "start", "turn", "share", "at", "one"]
theorem sc__law_half : FnScope ["heap", "wheel", "blocks", "many", "rows", "block", "rest", "start", "turn", "share", "at", "one"] ["heap"] (defScope s_law_half) := ⟨rfl, rfl, rfl, by decide +kernel, rfl, by decide +kernel, by decide +kernel⟩
theorem cal__law_half {er : Er} {f : Addr} {fd : FuncData} (b : Box) (mf : mg "_law_half" = some (.ref f)) (F : Fun K "_law_half" "_law_half" s_law_half f fd) (T : Txt P w K mg base er) (c__law_pick : Cal P w K mg base CX0 2 "_law_pick" ["heap", "some"] (SpecM K (ABox b) 2 (s__law_pick b))) (c__law_order : Cal P w K mg base CX0 2 "_law_order" ["heap", "many"] (SpecM K (ABox b) 2 (s__law_order b))) (c__law_renamed : Cal P w K mg base CX0 1 "_law_renamed" ["table", "names"] (SpecM K (ABox b) 2 (s__law_renamed))) :
    Cal P w K mg base CX0 3 "_law_half" ["heap"] (SpecM K (ABox b) 1 (s__law_half b)) := by
  refine cal_mk mf F (F.binds (ps := ["heap"]) fun _ _ _ _ _ _ us hl => match us, hl with | [_], _ => rfl) (F.ok sc__law_half (fun vs H Q E h => spec_len h) (fun cdv Ar outer s H vs Q E hr h => ?_))
  refine ⟨_, (pss_cons (ps_asg (pe_cal c__law_pick (hr.mono (by decide)) (pa_cons (pv 0) (pa_cons (pe_lst (pa_cons (pe_tup (pa_cons pe_int (pa_cons pe_int pa_nil))) (pa_cons (pe_tup (pa_cons pe_int (pa_cons pe_int pa_nil))) (pa_cons (pe_tup (pa_cons pe_int (pa_cons pe_int pa_nil))) (pa_cons (pe_tup (pa_cons pe_int (pa_cons pe_int pa_nil))) (pa_cons (pe_tup (pa_cons pe_int (pa_cons pe_int pa_nil))) (pa_cons (pe_tup (pa_cons pe_int (pa_cons pe_int pa_nil))) (pa_cons (pe_tup (pa_cons pe_int (pa_cons pe_int pa_nil))) pa_nil)))))))) pa_nil))) (kTup K rfl (pgs_cons (pg_name (i := 1) sc__law_half.nd rfl (Or.inr rfl)) (pgs_cons (pg_name (i := 2) sc__law_half.nd rfl (Or.inl rfl)) pgs_nil))))
    (pss_cons (ps_par (i := 3) (j := 4) rfl sc__law_half.nd rfl rfl (by decide) rfl rfl (pa_cons (pe_op (kMul K) (pv 1) (pv 2)) (pa_cons (pe_lst pa_nil) pa_nil)) (by rfl))
    (pss_cons (ps_for PassesOwn.never rfl (pi_range1 (by rfl) T.m_range (pa_cons (pv 2) pa_nil)) (pg_name (i := 5) sc__law_half.nd rfl (Or.inr rfl)) (pss_cons (ps_set (i := 6) sc__law_half.nd rfl (Or.inr rfl) (pe_lc (own := [("share", 9)]) rfl sc__law_half.nd (pi_range1 (by rfl) T.m_range (pa_cons (pv 3) pa_nil)) (blkOk_by (N := N__law_half) (sc := defScope s_law_half) (by decide +kernel)) (fun _ _ _ _ _ => (pg_name (i := 9) sc__law_half.nd rfl (Or.inl rfl))) (fun _ _ _ _ _ => pts_one (pt_cmpR (kNe K hr) (pv 9) (pe_op (kMul K) (pv 1) (pv 5)) (nomark _))) (fun _ _ _ _ _ => (pv 9))))
    (pss_cons (ps_set (i := 7) sc__law_half.nd rfl (Or.inl rfl) (pe_op (kAdd K) (pe_lst (pa_cons (pe_op (kMul K) (pv 1) (pv 5)) pa_nil)) (pe_lc (own := [("at", 10)]) rfl sc__law_half.nd (kSeq K (pe_cal c__law_order (hr.mono (by decide)) (pa_cons (pv 0) (pa_cons (pe_op op_sub (pv 3) pe_int) pa_nil)))) (blkOk_by (N := N__law_half) (sc := defScope s_law_half) (by decide +kernel)) (fun _ _ _ _ _ => (pg_name (i := 10) sc__law_half.nd rfl (Or.inl rfl))) (fun _ _ _ _ _ => pts_nil) (fun _ _ _ _ _ => (pe_ix (kIx K) (pv 6) (pv 10) (fun _ _ => rfl))))))
    (pss_cons (ps_set (i := 7) sc__law_half.nd rfl (Or.inl rfl) (pe_ifExp (pt_cmpR (kEq K hr) (pv 5) pe_int (nomark _)) (pe_listRg rfl (by rfl) T.m_list (prg_1 (by rfl) T.m_range (pv 3))) (pv 7)))
    (pss_one (ps_for PassesOwn.never rfl (pi_range1 (by rfl) T.m_range (pa_cons (pv 1) pa_nil)) (pg_name (i := 8) sc__law_half.nd rfl (Or.inr rfl)) (pss_one (ps_expr (kBm K PySem.F.plainAttrs_list PySem.F.slot_list_append PySem.F.type_list_append mt_append (pv 4) (pa_cons (pe_lc (own := [("one", 11)]) rfl sc__law_half.nd (kSeq K (pv 7)) (blkOk_by (N := N__law_half) (sc := defScope s_law_half) (by decide +kernel)) (fun _ _ _ _ _ => (pg_name (i := 11) sc__law_half.nd rfl (Or.inl rfl))) (fun _ _ _ _ _ => pts_nil) (fun _ _ _ _ _ => (pe_op (kAdd K) (pe_op op_mod (pe_callTy call_int1 (by rfl) T.m_int (by decide +kernel) (pa_cons (pe_op (kAdd K) (pe_op op_mod (pv 11) (pv 1)) (pv 8)) pa_nil)) (pv 1)) (pe_op (kMul K) (pv 1) (pe_op op_fdivW (pv 11) (pv 1)))))) pa_nil))))))))))
    (pss_one (ps_ret (pe_cal c__law_renamed (hr.mono (by decide)) (pa_cons (pv 4) (pa_cons (pe_op (kAdd K) (pe_lst (pa_cons pe_int pa_nil)) (pe_lc (own := [("one", 11)]) rfl sc__law_half.nd (kSeq K (pe_cal c__law_order (hr.mono (by decide)) (pa_cons (pv 0) (pa_cons (pe_op op_sub (pv 3) pe_int) pa_nil)))) (blkOk_by (N := N__law_half) (sc := defScope s_law_half) (by decide +kernel)) (fun _ _ _ _ _ => (pg_name (i := 11) sc__law_half.nd rfl (Or.inl rfl))) (fun _ _ _ _ _ => pts_nil) (fun _ _ _ _ _ => (pe_op (kAdd K) (pv 11) pe_int)))) pa_nil)))))))), ?_⟩
  exact fn0 (m := b__law_half b) (by decide) (fun xs Ed Qd hl hx => hs__law_half b xs Ed Qd hl hx) h fun F0 H0 Ed ok0 hE => (sm_seq (sm_asg (em_call (ea_cons em_var (ea_cons (em_lst (eo_cons (em_tup (ea_cons em_int (ea_cons em_int ea_nil))) (eo_cons (em_tup (ea_cons em_int (ea_cons em_int ea_nil))) (eo_cons (em_tup (ea_cons em_int (ea_cons em_int ea_nil))) (eo_cons (em_tup (ea_cons em_int (ea_cons em_int ea_nil))) (eo_cons (em_tup (ea_cons em_int (ea_cons em_int ea_nil))) (eo_cons (em_tup (ea_cons em_int (ea_cons em_int ea_nil))) (eo_cons (em_tup (ea_cons em_int (ea_cons em_int ea_nil))) eo_nil)))))))) ea_nil))) (gm_tup (gm_cons gm_name (gm_cons gm_name gm_nil))))
    (sm_seq (sm_par (eo_cons (em_op fr_mulA em_var em_var) (eo_cons (em_lst eo_nil) eo_nil)))
    (sm_seq (sm_for (ei_rng1 (ea_cons em_var ea_nil)) gm_name (sm_seq (sm_set (em_lc (vs := [9]) (ei_rng1 (ea_cons em_var ea_nil)) gm_name (et_test (em_op fr_neD em_var (em_op fr_mulA em_var em_var))) em_var (by decide) (go_name (by decide))))
    (sm_seq (sm_set (em_op fr_addA (em_lst (eo_cons (em_op fr_mulA em_var em_var) eo_nil)) (em_lc (vs := [10]) (ei_seq (em_call (ea_cons em_var (ea_cons (em_op fr_I0 em_var em_int) ea_nil)))) gm_name et_yes (em_ixVar em_var) (by decide) (go_name (by decide)))))
    (sm_seq (sm_set (em_if (et_test (em_op fr_eqD em_var em_int)) (em_lstRg1 em_var) em_var))
    (sm_for (ei_rng1 (ea_cons em_var ea_nil)) gm_name (sm_app (em_lc (vs := [11]) (ei_seq em_var) gm_name et_yes (em_op fr_addA (em_op fr_IC (em_cb fc_int (ea_cons (em_op fr_addA (em_op fr_IC em_var em_var) em_var) ea_nil)) em_var) (em_op fr_mulA em_var (em_op fr_IC em_var em_var))) (by decide) (go_name (by decide)))))))))
    (sm_ret (em_call (ea_cons em_var (ea_cons (em_op fr_addA (em_lst (eo_cons em_int eo_nil)) (em_lc (vs := [11]) (ei_seq (em_call (ea_cons em_var (ea_cons (em_op fr_I0 em_var em_int) ea_nil)))) gm_name et_yes (em_op fr_addA em_var em_int) (by decide) (go_name (by decide)))) ea_nil)))))))
abbrev slaw : Stmt := top 24
abbrev N_law : List Str := ["script", "heap", "table", "turn", "spoilt", "twice", "values", "value", "row", "half"]
theorem sc_law : FnScope ["script", "heap", "table", "turn", "spoilt", "twice", "values", "value", "row", "half"] ["script"] (defScope slaw) := ⟨rfl, rfl, rfl, by decide +kernel, rfl, by decide +kernel, by decide +kernel⟩
theorem ok_law {er : Er} {f : Addr} {fd : FuncData} (F : Fun K "law" "law" slaw f fd) (T : Txt P w K mg base er) (c__law_heap : Cal P w K mg base CX0 1 "_law_heap" ["script", "base"] (SpecH K)) (c__law_drawn : Cal P w K mg base CX0 3 "_law_drawn" ["heap"] (SpecB K 1 (fun b => s__law_drawn b))) (c__law_told : Cal P w K mg base CX0 4 "_law_told" ["value"] (SpecB K 1 (fun _ => s__law_told er))) (c_check_table : Cal P w K mg base (L2.CX P w) 3 "check_table" ["value"] (SpecB K 1 (fun _ => s_check_table er))) (c__law_due : Cal P w K mg base CX0 2 "_law_due" ["value"] (SpecB K 1 (fun _ => s__law_due))) (c__law_spoilt : Cal P w K mg base CX0 3 "_law_spoilt" ["heap", "table"] (SpecB K 2 (fun b => s__law_spoilt b))) (c__law_wrong : Cal P w K mg base CX0 1 "_law_wrong" ["value"] (SpecB K 1 (fun _ => s__law_wrong))) (c__law_pick : Cal P w K mg base CX0 2 "_law_pick" ["heap", "some"] (SpecB K 2 (fun b => s__law_pick b))) (c__law_half : Cal P w K mg base CX0 3 "_law_half" ["heap"] (SpecB K 1 (fun b => s__law_half b))) (kb_check_table : ∀ (f : Addr) (fd : FuncData), mg "check_table" = some (.ref f) → (∃ oc od osl, K.lookup f = some ⟨oc, od, .func fd, osl⟩) → KBinds K fd ["value"] ["value"] (· ++ ·) (· ++ ·))
    (hm : ∀ (a : Addr) (b : Box), b_law b er (.v (.r (.ref a)) :: .v (.r (.ref b.h)) :: List.replicate 8 .un) (fun _ => False) { nx := fun _ => False, rt := fun y => y = .d (.bool true) }) :
    FnOk P w K mg base CX0 5 f fd ["script"] (spScript K) := by
  refine F.ok sc_law (fun vs H Q E h => by obtain ⟨a, ns, rfl, _⟩ := h; rfl) (fun cdv Ar outer s H vs Q E hr h => ?_)
  refine ⟨_, (pss_cons (ps_set (i := 1) sc_law.nd rfl (Or.inl rfl) (pe_cal c__law_heap (hr.mono (by decide)) (pa_cons (pv 0) (pa_cons pe_int pa_nil))))
    (pss_cons (ps_set (i := 2) sc_law.nd rfl (Or.inl rfl) (pe_cal c__law_drawn (hr.mono (by decide)) (pa_cons (pv 1) pa_nil)))
    (pss_cons (ps_if (pw_or (pt_cmpR (kNe K hr) (pe_cal c__law_told (hr.mono (by decide)) (pa_cons (pv 2) pa_nil)) (pe_lst (pa_cons pe_str (pa_cons pe_non pa_nil))) (nomark _)) (pw_or (pt_cmpR op_notN (pe_calK c_check_table kb_check_table (hr.mono (by decide)) takes0 (pk_cons (pv 2) pk_nil)) pe_non (nomark _)) (pw_or1 (pt_cmpR (kNe K hr) (pe_cal c__law_told (hr.mono (by decide)) (pa_cons (kBack K (pv 2)) pa_nil)) (pe_cal c__law_due (hr.mono (by decide)) (pa_cons (kBack K (pv 2)) pa_nil)) (nomark _))))).pt (pss_one (ps_ret pe_bl)) pss_nil)
    (pss_cons (ps_for PassesOwn.never rfl (pi_range1 (by rfl) T.m_range (pa_cons pe_int pa_nil)) (pg_name (i := 3) sc_law.nd rfl (Or.inl rfl)) (pss_cons (ps_set (i := 4) sc_law.nd rfl (Or.inl rfl) (pe_cal c__law_spoilt (hr.mono (by decide)) (pa_cons (pv 1) (pa_cons (pv 2) pa_nil))))
    (pss_one (ps_if (pw_or (pt_cmpR (kNe K hr) (pe_cal c__law_told (hr.mono (by decide)) (pa_cons (pv 4) pa_nil)) (pe_cal c__law_due (hr.mono (by decide)) (pa_cons (pv 4) pa_nil)) (nomark _)) (pw_or1 (pt_cmpR (kNe K hr) (pe_cal c__law_told (hr.mono (by decide)) (pa_cons (pv 2) pa_nil)) (pe_lst (pa_cons pe_str (pa_cons pe_non pa_nil))) (nomark _)))).pt (pss_one (ps_ret pe_bl)) pss_nil))))
    (pss_cons (ps_set (i := 5) sc_law.nd rfl (Or.inl rfl) (pe_cal c__law_spoilt (hr.mono (by decide)) (pa_cons (pv 1) (pa_cons (pe_cal c__law_drawn (hr.mono (by decide)) (pa_cons (pv 1) pa_nil)) pa_nil))))
    (pss_cons (ps_set (i := 5) sc_law.nd rfl (Or.inl rfl) (pe_ifExp (pt_cmpR op_isN (pe_cal c__law_wrong (hr.mono (by decide)) (pa_cons (pv 5) pa_nil)) pe_non (nomark _)) (pe_cal c__law_spoilt (hr.mono (by decide)) (pa_cons (pv 1) (pa_cons (pv 5) pa_nil))) (pv 5)))
    (pss_cons (ps_set (i := 6) sc_law.nd rfl (Or.inl rfl) (pe_lst (pa_cons pe_non (pa_cons (pe_tup pa_nil) (pa_cons (pe_lst pa_nil) (pa_cons (pe_callTy (kList K) (by rfl) T.m_list (by decide +kernel) (pa_cons (pv 2) pa_nil)) (pa_cons pe_str (pa_cons pe_int (pa_cons (pe_op (kMul K) (pe_tup (pa_cons (pe_tup pa_nil) pa_nil)) pe_int) (pa_cons (pe_op (kMul K) (pe_tup (pa_cons (pe_tup pa_nil) pa_nil)) pe_int) (pa_cons (pe_tup (pa_cons pe_int pa_nil)) (pa_cons (pe_tup (pa_cons (pe_tup pa_nil) pa_nil)) (pa_cons (pe_tup (pa_cons (pe_tup (pa_cons pe_int (pa_cons pe_int pa_nil))) pa_nil)) (pa_cons (pe_tup (pa_cons (pv 2) pa_nil)) (pa_cons (pe_cmpR (kEq K hr) (pv 2) (pv 2) (nomark _)) pa_nil)))))))))))))))
    (pss_cons (ps_set (i := 7) sc_law.nd rfl (Or.inl rfl) (pe_cal c__law_pick (hr.mono (by decide)) (pa_cons (pv 1) (pa_cons (pe_op (kAdd K) (pv 6) (pe_lst (pa_cons (pe_op (kMul K) (pe_tup (pa_cons (pe_tup (pa_cons pe_int pa_nil)) pa_nil)) pe_int) (pa_cons (pe_op (kMul K) (pe_tup (pa_cons (pe_tup (pa_cons pe_int pa_nil)) pa_nil)) pe_int) (pa_cons (pe_callTy (kTuple K) (by rfl) T.m_tuple (by decide +kernel) (pa_cons (pe_lc (own := [("row", 8)]) rfl sc_law.nd (kSeq K (pv 2)) (blkOk_by (N := N_law) (sc := defScope slaw) (by decide +kernel)) (fun _ _ _ _ _ => (pg_name (i := 8) sc_law.nd rfl (Or.inl rfl))) (fun _ _ _ _ _ => pts_nil) (fun _ _ _ _ _ => (pe_callTy (kList K) (by rfl) T.m_list (by decide +kernel) (pa_cons (pv 8) pa_nil)))) pa_nil)) (pa_cons (pv 5) pa_nil)))))) pa_nil))))
    (pss_cons (ps_set (i := 9) sc_law.nd rfl (Or.inl rfl) (pe_cal c__law_half (hr.mono (by decide)) (pa_cons (pv 1) pa_nil)))
    (pss_cons (ps_if (pt_cmpR (kNe K hr) (pe_cal c__law_told (hr.mono (by decide)) (pa_cons (pv 9) pa_nil)) (pe_cal c__law_due (hr.mono (by decide)) (pa_cons (pv 9) pa_nil)) (nomark _)) (pss_one (ps_ret pe_bl)) pss_nil)
    (pss_one (ps_ret (pe_and (pe_cmpR (kEq K hr) (pe_cal c__law_told (hr.mono (by decide)) (pa_cons (pv 7) pa_nil)) (pe_cal c__law_due (hr.mono (by decide)) (pa_cons (pv 7) pa_nil)) (nomark _)) (pe_one (pe_cmpR (kEq K hr) (pe_cal c__law_told (hr.mono (by decide)) (pa_cons (pv 5) pa_nil)) (pe_cal c__law_due (hr.mono (by decide)) (pa_cons (pv 5) pa_nil)) (nomark _)))))))))))))))), ?_⟩
  obtain ⟨a, ns, rfl, hS, hl, hQ⟩ := h
  exact fnBox (n := 8) (i := 0) (m := fun b => b_law b er) hS (Nat.le_trans hl (by decide)) (by decide) (by decide) (hm a) (fun b F0 H0 Ed ok0 hE => (sm_seq (sm_set (em_callB rfl (ea_cons em_var ea_nil)))
    (sm_seq (sm_if (et_or (et_test (em_op fr_neD (em_callB rfl (ea_cons em_var ea_nil)) (em_lst (eo_cons em_str (eo_cons em_non eo_nil))))) (et_or (et_test (em_op fr_notN (em_callB rfl (ea_cons em_var ea_nil)) em_non)) (et_test (em_op fr_neD (em_callB rfl (ea_cons (em_back em_var) ea_nil)) (em_callB rfl (ea_cons (em_back em_var) ea_nil)))))) (sm_ret em_bl) sm_next)
    (sm_seq (sm_for (ei_rng1 (ea_cons em_int ea_nil)) gm_name (sm_seq (sm_set (em_callB rfl (ea_cons em_var (ea_cons em_var ea_nil))))
    (sm_if (et_or (et_test (em_op fr_neD (em_callB rfl (ea_cons em_var ea_nil)) (em_callB rfl (ea_cons em_var ea_nil)))) (et_test (em_op fr_neD (em_callB rfl (ea_cons em_var ea_nil)) (em_lst (eo_cons em_str (eo_cons em_non eo_nil)))))) (sm_ret em_bl) sm_next)))
    (sm_seq (sm_set (em_callB rfl (ea_cons em_var (ea_cons (em_callB rfl (ea_cons em_var ea_nil)) ea_nil))))
    (sm_seq (sm_set (em_if (et_test (em_op fr_isN (em_callB rfl (ea_cons em_var ea_nil)) em_non)) (em_callB rfl (ea_cons em_var (ea_cons em_var ea_nil))) em_var))
    (sm_seq (sm_set (em_lst (eo_cons em_non (eo_cons (em_tup ea_nil) (eo_cons (em_lst eo_nil) (eo_cons (em_cb fc_list (ea_cons em_var ea_nil)) (eo_cons em_str (eo_cons em_int (eo_cons (em_op fr_mulA (em_tup (ea_cons (em_tup ea_nil) ea_nil)) em_int) (eo_cons (em_op fr_mulA (em_tup (ea_cons (em_tup ea_nil) ea_nil)) em_int) (eo_cons (em_tup (ea_cons em_int ea_nil)) (eo_cons (em_tup (ea_cons (em_tup ea_nil) ea_nil)) (eo_cons (em_tup (ea_cons (em_tup (ea_cons em_int (ea_cons em_int ea_nil))) ea_nil)) (eo_cons (em_tup (ea_cons em_var ea_nil)) (eo_cons (em_op fr_eqD em_var em_var) eo_nil)))))))))))))))
    (sm_seq (sm_set (em_callB rfl (ea_cons em_var (ea_cons (em_op fr_addA em_var (em_lst (eo_cons (em_op fr_mulA (em_tup (ea_cons (em_tup (ea_cons em_int ea_nil)) ea_nil)) em_int) (eo_cons (em_op fr_mulA (em_tup (ea_cons (em_tup (ea_cons em_int ea_nil)) ea_nil)) em_int) (eo_cons (em_cb fc_tuple (ea_cons (em_lc (vs := [8]) (ei_seq em_var) gm_name et_yes (em_cb fc_list (ea_cons em_var ea_nil)) (by decide) (go_name (by decide))) ea_nil)) (eo_cons em_var eo_nil)))))) ea_nil))))
    (sm_seq (sm_set (em_callB rfl (ea_cons em_var ea_nil)))
    (sm_seq (sm_if (et_test (em_op fr_neD (em_callB rfl (ea_cons em_var ea_nil)) (em_callB rfl (ea_cons em_var ea_nil)))) (sm_ret em_bl) sm_next)
    (sm_ret (em_and (em_op fr_eqD (em_callB rfl (ea_cons em_var ea_nil)) (em_callB rfl (ea_cons em_var ea_nil))) (em_op fr_eqD (em_callB rfl (ea_cons em_var ea_nil)) (em_callB rfl (ea_cons em_var ea_nil))))))))))))))) hQ
end
end K36

namespace K36
open PySem L2 DL
def belowB (n : Int) : PyData → Bool
  | .int i => decide (0 ≤ i) && decide (i < n)
  | _ => false
theorem below_of (d : PyData) (n : Int) {E : XP} {Q : SV → Prop} (h : Q (SVb (belowB n d))) : s_is_below [.d d, SVi n] E Q := by
  refine ⟨_, rfl, _, rfl, _, kit_int d, _, rfl, ?_⟩
  have no : belowB n d = false → Q (SVb false) := fun e => by rw [e] at h; exact h
  cases d with
  | none => exact ifF rfl ⟨_, rfl, no rfl⟩
  | str s => exact ifF rfl ⟨_, rfl, no rfl⟩
  | list s => exact ifF rfl ⟨_, rfl, no rfl⟩
  | tuple s => exact ifF rfl ⟨_, rfl, no rfl⟩
  | dict s => exact ifF rfl ⟨_, rfl, no rfl⟩
  | bool b =>
    refine ifT rfl ⟨_, rfl, _, rfl, _, kit_bool _, _, rfl, _, rfl, ?_⟩
    exact ifF rfl ⟨_, rfl, no rfl⟩
  | int i =>
    refine ifT rfl ⟨_, rfl, _, rfl, _, kit_bool _, _, rfl, _, rfl, ?_⟩
    refine ifT rfl ⟨_, rfl, _, rfl, _, rfl, ?_⟩
    have h' : Q (SVb (decide (0 ≤ i) && decide (i < n))) := h
    by_cases q : (0 : Int) ≤ i
    · have e : decide ((0 : Int) ≤ i) = true := decide_eq_true q
      rw [e, Bool.true_and] at h'
      exact ifT e ⟨_, rfl, _, rfl, h'⟩
    · have e : decide ((0 : Int) ≤ i) = false := decide_eq_false q
      rw [e, Bool.false_and] at h'
      exact ifF e ⟨_, rfl, h'⟩
/-- a row of numbers: each one below n once -/
def GoodRow (n : Nat) (d : PyData) : Prop := ∃ ns : List Nat, d = .tuple (ns.map natD) ∧ ns.length = n ∧ (∀ k ∈ ns, k < n) ∧ ns.Nodup
theorem GoodRow.tup {n : Nat} {d : PyData} (g : GoodRow n d) : ∃ ds, d = .tuple ds ∧ ds.length = n := by
  obtain ⟨ns, rfl, hl, _⟩ := g
  exact ⟨_, rfl, by rw [List.length_map]; exact hl⟩
def seenL (n : Nat) (ps : List Nat) : List PyData := (List.range n).map fun k => .bool (decide (k ∈ ps))
theorem seenL_len {n : Nat} {ps : List Nat} : (seenL n ps).length = n := by unfold seenL; rw [List.length_map, List.length_range]
theorem seenL_get {n k : Nat} {ps : List Nat} (h : k < n) : (seenL n ps)[k]? = some (.bool (decide (k ∈ ps))) := by
  unfold seenL
  rw [List.getElem?_map, List.getElem?_range h]; rfl
theorem seenL_set {n k : Nat} {ps : List Nat} (h : k < n) : (seenL n ps).set k (.bool true) = seenL n (ps ++ [k]) := by
  refine List.ext_getElem? fun j => ?_
  by_cases hj : j < n
  · by_cases e : k = j
    · subst e
      rw [List.getElem?_set_self (by rw [seenL_len]; exact h), seenL_get h]
      simp
    · rw [List.getElem?_set_ne e, seenL_get hj, seenL_get hj]
      have : (j ∈ ps ++ [k]) ↔ j ∈ ps := by
        rw [List.mem_append, List.mem_singleton]
        exact ⟨fun z => z.elim id fun z => absurd z.symm e, Or.inl⟩
      rw [decide_eq_decide.mpr this]
  · rw [List.getElem?_eq_none (by rw [List.length_set, seenL_len]; omega), List.getElem?_eq_none (by rw [seenL_len]; omega)]
theorem natD_inj {a b : Nat} (h : natD a = natD b) : a = b := by
  have : (a : Int) = b := PyData.int.inj h
  omega
theorem natDs_inj : ∀ {as bs : List Nat}, as.map natD = bs.map natD → as = bs
  | [], [], _ => rfl
  | [], _ :: _, h => by cases h
  | _ :: _, [], h => by cases h
  | a :: as, b :: bs, h => by
    rw [List.map_cons, List.map_cons] at h
    obtain ⟨h1, h2⟩ := List.cons.inj h
    rw [natD_inj h1, natDs_inj h2]
theorem seenL_nil : ∀ n : Nat, (List.replicate n [PyData.bool false]).flatten = seenL n [] := fun n => by
  unfold seenL
  have : ∀ n : Nat, (List.replicate n [PyData.bool false]).flatten = List.replicate n (.bool false) := fun n => by
    induction n with
    | zero => rfl
    | succ n ih => rw [List.replicate_succ, List.flatten_cons, ih]; rfl
  rw [this]
  have e : (fun k : Nat => PyData.bool (decide (k ∈ ([] : List Nat)))) = fun _ => .bool false := by
    funext k; simp
  rw [e, List.map_const', List.length_range]
theorem take_next {α : Type} {xs : List α} {i : Nat} {a : α} (h : xs[i]? = some a) : xs.take (i + 1) = xs.take i ++ [a] := by
  rw [List.take_add_one, h]; rfl
theorem order_of {d : PyData} {n : Nat} {E : XP} {Q : SV → Prop} (hn : n ≤ 1000) (hT : GoodRow n d → Q (SVb true)) (hF : ¬ GoodRow n d → Q (SVb false)) : s_is_order [.d d, SVi n] E Q := by
  refine ⟨_, rfl, _, rfl, _, kit_tup d, _, rfl, ?_⟩
  cases ht : isTup d with
  | false =>
    refine ifT rfl (ifT rfl ⟨_, rfl, hF fun g => ?_⟩)
    obtain ⟨ds, rfl, _⟩ := g.tup
    cases ht
  | true =>
    obtain ⟨ds, rfl⟩ : ∃ ds, d = .tuple ds := by
      cases d <;> first | exact ⟨_, rfl⟩ | cases ht
    refine ifF rfl ⟨_, rfl, _, rfl, _, rfl, shaped_int _, shaped_int _, _, rfl, ?_⟩
    rw [eqv_int]
    by_cases hl : ds.length = n
    · refine ifF (by rw [decide_eq_true (by rw [hl])]; rfl) ?_
      refine ⟨_, rfl, by decide, _, rfl, _, rfl, by omega, by omega, by show 1 * (n : Int).toNat ≤ 1000000; omega, ?_⟩
      have e0 : (List.replicate (n : Int).toNat [PyData.bool false]).flatten = seenL n [] := by
        have : (n : Int).toNat = n := by omega
        rw [this]; exact seenL_nil n
      rw [e0]
      refine ⟨_, _, rfl, rfl, ?_⟩
      refine loopE_ix (fun i e => ∃ (ps : List Nat) (x3 : SD), ds.take i = ps.map natD ∧ (∀ k ∈ ps, k < n) ∧ ps.Nodup ∧ e = [.v (.d (.tuple ds)), .v (SVi n), .own (.lst (leafs (seenL n ps))), x3]) ⟨[], .un, rfl, by simp, by simp, rfl⟩ ?_ ?_
      · rintro e ⟨ps, x3, h1, h2, h3, rfl⟩
        rw [List.length_map, List.take_length] at h1
        exact ⟨_, rfl, hT ⟨ps, by rw [h1], by rw [← hl, h1, List.length_map], h2, h3⟩⟩
      · rintro i x e hx ⟨ps, x3, h1, h2, h3, rfl⟩ R hR
        rw [List.getElem?_map] at hx
        obtain ⟨di, hd, rfl⟩ := Option.map_eq_some_iff.mp hx
        refine ⟨_, rfl, _, rfl, rfl, below_of di n ⟨_, rfl, ?_⟩⟩
        have key : GoodRow n (.tuple ds) → ∃ k : Nat, di = natD k ∧ k < n ∧ k ∉ ps := by
          rintro ⟨ns, e1, e2, e3, e4⟩
          have e1' : ds = ns.map natD := PyData.tuple.inj e1
          subst e1'
          rw [List.getElem?_map] at hd
          obtain ⟨k, hk, rfl⟩ := Option.map_eq_some_iff.mp hd
          refine ⟨k, rfl, e3 k (List.mem_of_getElem? hk), fun hm => ?_⟩
          have hp : ns.take i = ps := by
            rw [← List.map_take] at h1
            exact natDs_inj h1
          have nd : (ns.take (i + 1)).Nodup := e4.sublist (List.take_sublist _ _)
          rw [take_next hk, hp] at nd
          exact (List.nodup_append.mp nd).2.2 k hm k (List.mem_singleton.mpr rfl) rfl
        refine ifE (fun hb => ?_) (fun hb => ?_)
        · refine ifT rfl ⟨_, rfl, hF fun g => ?_⟩
          obtain ⟨k, rfl, hk, _⟩ := key g
          have : belowB n (natD k) = true := by
            show (decide ((0 : Int) ≤ (k : Int)) && decide ((k : Int) < n)) = true
            rw [decide_eq_true (by omega), decide_eq_true (by omega)]; rfl
          rw [this] at hb
          cases hb
        · have hb' : belowB n di = true := by
            cases q : belowB n di with
            | true => rfl
            | false => rw [q] at hb; cases hb
          obtain ⟨k, rfl, hk⟩ : ∃ k : Nat, di = natD k ∧ k < n := by
            cases di with
            | int i =>
              have z : (decide ((0 : Int) ≤ i) && decide (i < n)) = true := hb'
              rw [Bool.and_eq_true] at z
              have z1 := of_decide_eq_true z.1
              have z2 := of_decide_eq_true z.2
              exact ⟨i.toNat, by show PyData.int i = .int _; congr 1; omega, by omega⟩
            | _ => cases hb'
          refine ⟨(k : Int), SVb (decide (k ∈ ps)), rfl, rfl, atN (by unfold leafs; rw [List.getElem?_map, seenL_get hk]; rfl), _, rfl, ?_⟩
          refine ifE (fun hm => ?_) (fun hm => ?_)
          · refine ⟨_, rfl, hF fun g => ?_⟩
            obtain ⟨k', e, _, hk'⟩ := key g
            rw [natD_inj e] at hm
            exact hk' (of_decide_eq_true hm)
          · have hm' : k ∉ ps := of_decide_eq_false hm
            refine ⟨_, rfl, ⟨_, rfl⟩, (k : Int), seenL n ps, k, rfl, rfl, ?_, hR _ ⟨ps ++ [k], .v (.d (natD k)), ?_, ?_, ?_, ?_⟩⟩
            · unfold ixN
              rw [seenL_len, if_pos (by omega), if_pos (by omega)]
              simp
            · rw [take_next hd, h1, List.map_append]; rfl
            · intro j hj
              rcases List.mem_append.mp hj with h | h
              · exact h2 j h
              · rw [List.mem_singleton.mp h]; exact hk
            · refine List.nodup_append.mpr ⟨h3, by simp, fun a ha b hb => ?_⟩
              rw [List.mem_singleton.mp hb]
              exact fun z => hm' (z ▸ ha)
            · rw [seenL_set hk]; rfl
    · refine ifT (by rw [decide_eq_false (by omega)]; rfl) ⟨_, rfl, hF fun g => ?_⟩
      obtain ⟨ds', e, h⟩ := g.tup
      cases e
      exact hl h
def rowD (r : List Nat) : PyData := .tuple (r.map natD)
def tabD (tab : List (List Nat)) : PyData := .tuple (tab.map rowD)
/-- all rows of n numbers below n -/
structure Sq (n : Nat) (tab : List (List Nat)) : Prop where
  len : tab.length = n
  row : ∀ r ∈ tab, r.length = n ∧ ∀ k ∈ r, k < n
def ent (tab : List (List Nat)) (i j : Nat) : Nat := (tab.getD i []).getD j 0
theorem getD_some {α : Type} {xs : List α} {i : Nat} {a b : α} (h : xs[i]? = some a) : xs.getD i b = a := by
  rw [List.getD_eq_getElem?_getD, h]; rfl
theorem some_getD {α : Type} {xs : List α} {i : Nat} {b : α} (h : i < xs.length) : xs[i]? = some (xs.getD i b) := by
  rw [List.getD_eq_getElem?_getD, List.getElem?_eq_getElem h]; rfl
theorem Sq.get {n : Nat} {tab : List (List Nat)} (s : Sq n tab) {i : Nat} (h : i < n) : tab[i]? = some (tab.getD i []) ∧ (tab.getD i []).length = n ∧ ∀ k ∈ tab.getD i [], k < n := by
  have e := some_getD (b := ([] : List Nat)) (show i < tab.length by rw [s.len]; exact h)
  exact ⟨e, s.row _ (List.mem_of_getElem? e)⟩
theorem Sq.lt {n : Nat} {tab : List (List Nat)} (s : Sq n tab) {i j : Nat} (h : i < n) (g : j < n) : ent tab i j < n := by
  obtain ⟨_, hl, hk⟩ := s.get h
  exact hk _ (List.mem_of_getElem? (some_getD (b := 0) (by rw [hl]; exact g)))
/-- the last rule, for the row r -/
def Asc (n : Nat) (tab : List (List Nat)) (r : List Nat) : Prop := ∀ j k, j < n → k < n → r.getD (ent tab j k) 0 = ent tab (r.getD j 0) k
theorem assoc_of {n : Nat} {tab : List (List Nat)} {r : List Nat} {E : XP} {Q : SV → Prop} (hn : n ≤ 1000) (s : Sq n tab) (hr : r.length = n) (hk : ∀ k ∈ r, k < n) (hT : Asc n tab r → Q (SVb true)) (hF : ¬ Asc n tab r → Q (SVb false)) :
    s_is_associative [.d (tabD tab), .d (rowD r)] E Q := by
  have rl : ∀ {j}, j < n → r[j]? = some (r.getD j 0) ∧ r.getD j 0 < n := fun {j} h => by
    have e := some_getD (b := 0) (show j < r.length by rw [hr]; exact h)
    exact ⟨e, hk _ (List.mem_of_getElem? e)⟩
  refine ⟨_, rfl, _, rfl, ?_⟩
  refine loopE_ix (fun i e => (∃ x2 x3 x4 : SD, x4.plain = true ∧ e = [.v (.d (tabD tab)), .v (.d (rowD r)), x2, x3, x4]) ∧ ∀ j, j < i → (tab.getD j []).map (fun a => r.getD a 0) = tab.getD (r.getD j 0) []) ⟨⟨.un, .un, .un, rfl, rfl⟩, fun j h => absurd h (by omega)⟩ ?_ ?_
  · rintro e ⟨⟨x2, x3, x4, hp, rfl⟩, h⟩
    refine ⟨_, rfl, hT fun j k hj hk' => ?_⟩
    rw [numd_len, List.length_map, s.len] at h
    have e := h j hj
    obtain ⟨_, hl, _⟩ := s.get hj
    have : ((tab.getD j []).map fun a => r.getD a 0).getD k 0 = (tab.getD (r.getD j 0) []).getD k 0 := by rw [e]
    rw [getD_some (by rw [List.getElem?_map, some_getD (b := 0) (by rw [hl]; exact hk')]; rfl)] at this
    exact this
  · rintro i x e hx ⟨⟨x2, x3, x4, hp, rfl⟩, h⟩ R hR
    obtain ⟨d, hd, rfl⟩ := numd_map hx
    rw [List.getElem?_map] at hd
    obtain ⟨f, hf, rfl⟩ := Option.map_eq_some_iff.mp hd
    have hi : i < n := by
      obtain ⟨q, _⟩ := List.getElem?_eq_some_iff.mp hf
      rw [← s.len]; exact q
    obtain ⟨e1, fl, fk⟩ := s.get hi
    have ef : f = tab.getD i [] := by rw [hf] at e1; exact Option.some.inj e1
    rw [← ef] at fl fk
    refine ⟨_, rfl, rfl, _, _, rfl, _, _, rfl, rfl, ?_⟩
    refine ⟨_, _, rfl, rfl, by rw [List.length_map, List.length_map, fl]; show n ≤ 1000000; omega, by show (x4.plain && true) = true; rw [hp]; rfl, ?_⟩
    refine lcL_of (gNats fun a => r.getD a 0) _ _ (fun y hy acc R q => ?_) ?_
    · obtain ⟨d', hd', rfl⟩ := List.mem_map.mp hy
      obtain ⟨a, ha, rfl⟩ := List.mem_map.mp hd'
      obtain ⟨g1, g2⟩ := rl (fk a ha)
      refine ⟨rfl, _, rfl, _, rfl, natD (r.getD a 0), atN (by rw [List.getElem?_map, g1]; rfl), rfl, _, rfl, ?_⟩
      have q' : R (acc ++ [.leaf (.d (natD (r.getD ((a : Int).toNat) 0)))]) := q
      rw [Int.toNat_natCast] at q'
      exact q'
    rw [List.nil_append, flat_nats]
    obtain ⟨g1, g2⟩ := rl hi
    obtain ⟨t1, tl, tk⟩ := s.get g2
    refine ⟨_, frz_lst _, _, rfl, _, rfl, _, rfl, _, rfl, _, rfl, natD (r.getD i 0), atN (by rw [List.getElem?_map, g1]; rfl), _, rfl, rowD (tab.getD (r.getD i 0) []), atN (by rw [List.getElem?_map, t1]; rfl), _, rfl, _, rfl, _, rfl, shaped_tupN _, shaped_tupN _, _, rfl, ?_⟩
    rw [eqv_tupN]
    by_cases he : f.map (fun a => r.getD a 0) = tab.getD (r.getD i 0) []
    · refine ifF (by rw [decide_eq_true he]; rfl) (hR _ ⟨⟨_, _, x4, hp, rfl⟩, fun j hj => ?_⟩)
      by_cases hji : j = i
      · subst hji; rw [← ef]; exact he
      · exact h j (by omega)
    · refine ifT (by rw [decide_eq_false he]; rfl) ⟨_, rfl, hF fun g => he ?_⟩
      refine List.ext_getElem? fun k => ?_
      by_cases hk' : k < n
      · rw [List.getElem?_map, some_getD (b := 0) (by rw [fl]; exact hk'), some_getD (b := 0) (by rw [tl]; exact hk')]
        have := g i k hi hk'
        show some (r.getD (f.getD k 0) 0) = _
        rw [ef]
        exact congrArg some this
      · rw [List.getElem?_eq_none (by rw [List.length_map, fl]; omega), List.getElem?_eq_none (by rw [tl]; omega)]
/-- row i of a table of n rows -/
def RowOk (n i : Nat) (d : PyData) : Prop := ∃ ns : List Nat, d = rowD ns ∧ ns.length = n ∧ (∀ k ∈ ns, k < n) ∧ ns.Nodup ∧ ns[0]? = some i ∧ (i = 0 → ns = List.range n)
def rowOf : PyData → List Nat
  | .tuple ds => ds.map fun d => match d with | .int i => i.toNat | _ => 0
  | _ => []
theorem rowOf_rowD (ns : List Nat) : rowOf (rowD ns) = ns := by
  show (ns.map natD).map _ = ns
  rw [List.map_map]
  have : ((fun d => match d with | .int i => i.toNat | _ => 0) ∘ natD : Nat → Nat) = id := by
    funext k; show ((k : Int)).toNat = k; omega
  rw [this, List.map_id]
def tabOf (rows : List PyData) : List (List Nat) := rows.map rowOf
open Classical in
noncomputable def badRow (rows : List PyData) (i : Nat) : Bool := decide (¬ RowOk rows.length i (rows.getD i .none))
open Classical in
noncomputable def badAsc (rows : List PyData) (i : Nat) : Bool := decide (¬ Asc rows.length (tabOf rows) (rowOf (rows.getD i .none)))
open Classical in
theorem badRow_t {rows : List PyData} {i : Nat} (h : ¬ RowOk rows.length i (rows.getD i .none)) : badRow rows i = true := by unfold badRow; exact decide_eq_true h
open Classical in
theorem badRow_f {rows : List PyData} {i : Nat} (h : RowOk rows.length i (rows.getD i .none)) : badRow rows i = false := by unfold badRow; exact decide_eq_false (fun z => z h)
open Classical in
theorem badAsc_t {rows : List PyData} {i : Nat} (h : ¬ Asc rows.length (tabOf rows) (rowOf (rows.getD i .none))) : badAsc rows i = true := by unfold badAsc; exact decide_eq_true h
open Classical in
theorem badAsc_f {rows : List PyData} {i : Nat} (h : Asc rows.length (tabOf rows) (rowOf (rows.getD i .none))) : badAsc rows i = false := by unfold badAsc; exact decide_eq_false (fun z => z h)
/-- the place that is told of a value, if it is no table -/
noncomputable def verdT (rows : List PyData) : Option Int :=
  if rows.length = 0 ∨ 200 < rows.length then some (-1) else
    match (List.range rows.length).find? (badRow rows) with
    | some i => some (Int.ofNat i)
    | none => match (List.range rows.length).find? (badAsc rows) with
      | some i => some (Int.ofNat i)
      | none => none
noncomputable def verd : PyData → Option Int
  | .tuple rows => verdT rows
  | _ => some (-1)
theorem verd_no {d : PyData} (h : isTup d = false) : verd d = some (-1) := by
  cases d <;> first | rfl | cases h
theorem verd_len {rows : List PyData} (h : rows.length = 0 ∨ 200 < rows.length) : verd (.tuple rows) = some (-1) := by
  show verdT rows = _
  unfold verdT
  rw [if_pos h]
theorem verd_row {rows : List PyData} {i : Nat} (h0 : 1 ≤ rows.length) (h1 : rows.length ≤ 200) (hi : i < rows.length) (lo : ∀ j, j < i → RowOk rows.length j (rows.getD j .none)) (h : ¬ RowOk rows.length i (rows.getD i .none)) : verd (.tuple rows) = some (i : Int) := by
  show verdT rows = _
  unfold verdT
  rw [if_neg (by omega), find_first hi (badRow_t h) (fun j hj => badRow_f (lo j hj))]
  try rfl
theorem verd_asc {rows : List PyData} {i : Nat} (h0 : 1 ≤ rows.length) (h1 : rows.length ≤ 200) (all : ∀ j, j < rows.length → RowOk rows.length j (rows.getD j .none)) (hi : i < rows.length)
    (lo : ∀ j, j < i → Asc rows.length (tabOf rows) (rowOf (rows.getD j .none))) (h : ¬ Asc rows.length (tabOf rows) (rowOf (rows.getD i .none))) : verd (.tuple rows) = some (i : Int) := by
  show verdT rows = _
  unfold verdT
  rw [if_neg (by omega), find_none fun j hj => badRow_f (all j hj)]
  show (match (List.range rows.length).find? (badAsc rows) with | some i => some (Int.ofNat i) | none => none) = _
  rw [find_first hi (badAsc_t h) (fun j hj => badAsc_f (lo j hj))]
  try rfl
theorem verd_ok {rows : List PyData} (h0 : 1 ≤ rows.length) (h1 : rows.length ≤ 200) (all : ∀ j, j < rows.length → RowOk rows.length j (rows.getD j .none))
    (asc : ∀ j, j < rows.length → Asc rows.length (tabOf rows) (rowOf (rows.getD j .none))) : verd (.tuple rows) = none := by
  show verdT rows = _
  unfold verdT
  rw [if_neg (by omega), find_none fun j hj => badRow_f (all j hj)]
  show (match (List.range rows.length).find? (badAsc rows) with | some i => some (Int.ofNat i) | none => none) = _
  rw [find_none fun j hj => badAsc_f (asc j hj)]
theorem rows_sq {rows : List PyData} (all : ∀ j, j < rows.length → RowOk rows.length j (rows.getD j .none)) : Sq rows.length (tabOf rows) ∧ PyData.tuple rows = tabD (tabOf rows) := by
  refine ⟨⟨by unfold tabOf; rw [List.length_map], fun r hr => ?_⟩, ?_⟩
  · obtain ⟨d, hd, rfl⟩ := List.mem_map.mp hr
    obtain ⟨j, hj, e⟩ := List.getElem_of_mem hd
    obtain ⟨ns, e1, e2, e3, _⟩ := all j hj
    rw [getD_some (by rw [List.getElem?_eq_getElem hj, e])] at e1
    rw [e1, rowOf_rowD]
    exact ⟨e2, e3⟩
  · show PyData.tuple rows = .tuple ((rows.map rowOf).map rowD)
    rw [List.map_map]
    congr 1
    refine List.ext_getElem? fun j => ?_
    by_cases hj : j < rows.length
    · obtain ⟨ns, e1, _⟩ := all j hj
      have e := some_getD (b := PyData.none) hj
      rw [List.getElem?_map, e, e1]
      show some (rowD ns) = some (rowD (rowOf (rowD ns)))
      rw [rowOf_rowD]
    · rw [List.getElem?_eq_none (by omega), List.getElem?_eq_none (by rw [List.length_map]; omega)]
theorem RowOk.good {n i : Nat} {d : PyData} (h : RowOk n i d) : GoodRow n d := by
  obtain ⟨ns, e1, e2, e3, e4, _⟩ := h
  exact ⟨ns, e1, e2, e3, e4⟩
theorem check_of {d : PyData} {er : Er} {E : XP} {Q : SV → Prop} (h0 : verd d = none → Q (.d .none)) (h1 : ∀ k, verd d = some k → E ⟨er.e_InvalidTable, [("at", SVi k)]⟩) : s_check_table er [.d d] E Q := by
  refine ⟨_, rfl, _, rfl, _, kit_tup d, _, rfl, ?_⟩
  cases ht : isTup d with
  | false => exact ifT rfl (ifT rfl ⟨_, rfl, _, rfl, _, rfl, h1 _ (verd_no ht)⟩)
  | true =>
    obtain ⟨rows, rfl⟩ : ∃ rows, d = .tuple rows := by
      cases d <;> first | exact ⟨_, rfl⟩ | cases ht
    refine ifF rfl ?_
    refine ⟨_, rfl, _, rfl, _, rfl, _, rfl, ?_⟩
    have bad : (rows.length = 0 ∨ 200 < rows.length) → E ⟨er.e_InvalidTable, [("at", SVi (-1))]⟩ := fun z => h1 _ (verd_len z)
    refine ifE (fun g1 => ?_) (fun g1 => ?_)
    case refine_2 => exact ⟨_, rfl, ifT rfl ⟨_, rfl, _, rfl, _, rfl, bad (Or.inl (by have := of_decide_eq_false g1; omega))⟩⟩
    refine ⟨_, rfl, _, rfl, ?_⟩
    refine ifE (fun g2 => ?_) (fun g2 => ?_)
    · refine ⟨_, rfl, _, rfl, _, rfl, bad (Or.inr ?_)⟩
      have g3 : (!decide ((rows.length : Int) ≤ 200)) = true := g2
      have := of_decide_eq_false (by simpa using g3 : decide ((rows.length : Int) ≤ 200) = false)
      omega
    have l0 : 1 ≤ rows.length := by have := of_decide_eq_true g1; omega
    have l1 : rows.length ≤ 200 := by
      have g3 : (!decide ((rows.length : Int) ≤ 200)) = false := g2
      have := of_decide_eq_true (by simpa using g3 : decide ((rows.length : Int) ≤ 200) = true)
      omega
    refine ⟨_, rfl, _, rfl, _, rfl, ?_⟩
    refine loopE_ix (fun i e => (∃ x2 x3 : SD, e = [.v (.d (.tuple rows)), .v (SVi rows.length), x2, x3]) ∧ ∀ j, j < i → RowOk rows.length j (rows.getD j .none)) ⟨⟨.un, .un, rfl⟩, fun j h => absurd h (by omega)⟩ ?_ ?_
    · rintro e ⟨⟨x2, x3, rfl⟩, all⟩
      rw [numd_len] at all
      obtain ⟨sq, et⟩ := rows_sq all
      refine ⟨_, rfl, _, rfl, ?_⟩
      refine loopE_ix (fun i e => (∃ x2 x3 : SD, e = [.v (.d (.tuple rows)), .v (SVi rows.length), x2, x3]) ∧ ∀ j, j < i → Asc rows.length (tabOf rows) (rowOf (rows.getD j .none))) ⟨⟨x2, x3, rfl⟩, fun j h => absurd h (by omega)⟩ ?_ ?_
      · rintro e ⟨⟨x2, x3, rfl⟩, asc⟩
        rw [numd_len] at asc
        exact h0 (verd_ok l0 l1 all asc)
      · rintro i x e hx ⟨⟨x2, x3, rfl⟩, lo⟩ R hR
        obtain ⟨d, hd, rfl⟩ := numd_map hx
        obtain ⟨hi, _⟩ := List.getElem?_eq_some_iff.mp hd
        have ed : rows.getD i .none = d := getD_some hd
        obtain ⟨ns, e1, e2, e3, _⟩ := all i hi
        rw [ed] at e1
        subst e1
        refine ⟨_, rfl, rfl, _, _, rfl, _, _, rfl, rfl, ?_⟩
        refine ⟨_, rfl, _, rfl, rfl, ?_⟩
        have ac : ∀ {E : XP} {Q : SV → Prop}, (Asc rows.length (tabOf rows) ns → Q (SVb true)) → (¬ Asc rows.length (tabOf rows) ns → Q (SVb false)) → s_is_associative [.d (.tuple rows), .d (rowD ns)] E Q := fun {E Q} a b => by
          rw [et]; exact assoc_of (by omega) sq e2 e3 a b
        have er0 : rowOf (rows.getD i .none) = ns := by rw [ed, rowOf_rowD]
        refine ac (fun g => ⟨_, rfl, ifF rfl (hR _ ⟨⟨_, _, rfl⟩, fun j hj => ?_⟩)⟩) (fun g => ⟨_, rfl, ifT rfl ⟨_, rfl, _, rfl, h1 _ (verd_asc l0 l1 all hi lo (by rw [er0]; exact g))⟩⟩)
        by_cases hji : j = i
        · subst hji; rw [er0]; exact g
        · exact lo j (by omega)
    · rintro i x e hx ⟨⟨x2, x3, rfl⟩, lo⟩ R hR
      obtain ⟨d, hd, rfl⟩ := numd_map hx
      obtain ⟨hi, _⟩ := List.getElem?_eq_some_iff.mp hd
      have ed : rows.getD i .none = d := getD_some hd
      have fail : ¬ RowOk rows.length i d → E ⟨er.e_InvalidTable, [("at", SVi (i : Int))]⟩ := fun g => h1 _ (verd_row l0 l1 hi lo (by rw [ed]; exact g))
      refine ⟨_, rfl, rfl, _, _, rfl, _, _, rfl, rfl, ?_⟩
      refine ⟨_, rfl, _, rfl, rfl, ?_⟩
      refine order_of (by omega) (fun g => ⟨_, rfl, ifF rfl ?_⟩) (fun g => ⟨_, rfl, ifT rfl (ifT rfl ⟨_, rfl, _, rfl, fail fun z => g z.good⟩)⟩)
      obtain ⟨ns, rfl, e2, e3, e4⟩ := g
      have hz := some_getD (b := 0) (show 0 < ns.length by omega)
      refine ⟨_, rfl, _, rfl, natD (ns.getD 0 0), atN (k := 0) (by rw [List.getElem?_map, hz]; rfl), _, rfl, _, rfl, shaped_int _, shaped_int _, _, rfl, ?_⟩
      show (if (!PyData.eqv (natD (ns.getD 0 0)) (natD i)) = true then _ else _)
      rw [eqv_natD]
      by_cases hat : ns.getD 0 0 = i
      · refine ifF (by rw [decide_eq_true hat]; rfl) ?_
        refine ⟨_, rfl, _, rfl, shaped_int _, shaped_int _, _, rfl, ?_⟩
        show (if PyData.eqv (natD i) (natD 0) = true then _ else _)
        rw [eqv_natD]
        by_cases h00 : i = 0
        · refine ifT (decide_eq_true h00) ?_
          refine ⟨_, rfl, _, rfl, _, frz_lst _, _, rfl, by omega, by show (rows.length : Int) ≤ 1000000; omega, _, frz_lst _, shaped_lstN _, by rw [rngD_ints]; exact shaped_lstN _, _, rfl, ?_⟩
          rw [rngD_ints, eqv_lstN]
          by_cases hr : ns = List.range rows.length
          · refine ifF (by rw [decide_eq_true hr]; rfl) (hR _ ⟨⟨_, _, rfl⟩, fun j hj => ?_⟩)
            by_cases hji : j = i
            · subst hji; rw [ed]; exact ⟨ns, rfl, e2, e3, e4, by rw [hz, hat], fun _ => hr⟩
            · exact lo j (by omega)
          · refine ifT (by rw [decide_eq_false hr]; rfl) ⟨_, rfl, _, rfl, ?_⟩
            have := fail (fun ⟨ms, f1, _, _, _, _, f6⟩ => hr (by rw [natDs_inj (PyData.tuple.inj f1)]; exact f6 h00))
            rw [h00] at this
            exact this
        · refine ifF (decide_eq_false h00) ?_
          refine ifF rfl (hR _ ⟨⟨_, _, rfl⟩, fun j hj => ?_⟩)
          by_cases hji : j = i
          · subst hji; rw [ed]; exact ⟨ns, rfl, e2, e3, e4, by rw [hz, hat], fun z => absurd z h00⟩
          · exact lo j (by omega)
      · refine ifT (by rw [decide_eq_false hat]; rfl) ⟨_, rfl, _, rfl, fail ?_⟩
        rintro ⟨ms, f1, _, _, _, f5, _⟩
        rw [← natDs_inj (PyData.tuple.inj f1)] at f5
        rw [hz] at f5
        exact hat (Option.some.inj f5)
theorem len_lt : ∀ (n : Nat) (ns : List Nat), ns.Nodup → (∀ k ∈ ns, k < n) → ns.length ≤ n
  | 0, ns, _, h => by
    cases ns with
    | nil => exact Nat.le_refl _
    | cons a r => exact absurd (h a (List.mem_cons_self ..)) (by omega)
  | n + 1, ns, nd, h => by
    by_cases m : n ∈ ns
    · have := len_lt n (ns.erase n) (nd.erase n) (fun k hk => by
        obtain ⟨a, b⟩ := nd.mem_erase_iff.mp hk
        have := h k b
        omega)
      rw [List.length_erase_of_mem m] at this
      omega
    · have := len_lt n ns nd (fun k hk => by
        have := h k hk
        have : k ≠ n := fun z => m (z ▸ hk)
        omega)
      omega
theorem perm_range : ∀ (n : Nat) (ns : List Nat), ns.Nodup → (∀ k ∈ ns, k < n) → ns.length = n → ns.Perm (List.range n)
  | 0, ns, _, _, h => by
    rw [List.length_eq_zero_iff.mp h]; exact .refl _
  | n + 1, ns, nd, h, hl => by
    have lo : ∀ k ∈ ns.erase n, k < n := fun k hk => by
      obtain ⟨a, b⟩ := nd.mem_erase_iff.mp hk
      have := h k b
      omega
    have m : n ∈ ns := by
      refine Classical.byContradiction fun m => ?_
      have := len_lt n ns nd (fun k hk => by
        have := h k hk
        have : k ≠ n := fun z => m (z ▸ hk)
        omega)
      omega
    have ih := perm_range n (ns.erase n) (nd.erase n) lo (by rw [List.length_erase_of_mem m]; omega)
    rw [List.range_succ]
    exact (List.perm_cons_erase m).trans ((ih.cons n).trans (List.perm_append_comm (l₁ := [n]) (l₂ := List.range n)))
def pI (d : PyData) : Bool := isIntB d && !isBool d
def gB : SV → List O
  | .d d => [.leaf (SVb (pI d))]
  | _ => []
theorem flat_B : ∀ ds : List PyData, (ds.map SV.d).flatMap gB = leafs (ds.map fun d => PyData.bool (pI d))
  | [] => rfl
  | d :: ds => by
    show gB (.d d) ++ List.flatMap gB (ds.map SV.d) = _
    rw [flat_B ds]; rfl
theorem bools_B : ∀ ds : List PyData, boolsOf (ds.map fun d => PyData.bool (pI d)) = some (ds.map pI)
  | [] => rfl
  | d :: ds => by
    show (boolsOf (ds.map fun d => PyData.bool (pI d))).map (pI d :: ·) = _
    rw [bools_B ds]; rfl
theorem ints_of : ∀ ds : List PyData, (ds.map pI).all id = true → ∃ ns, ds = ns.map PyData.int ∧ intsOf ds = some ns
  | [], _ => ⟨[], rfl, rfl⟩
  | d :: ds, h => by
    rw [List.map_cons, List.all_cons, Bool.and_eq_true] at h
    obtain ⟨ns, e1, e2⟩ := ints_of ds h.2
    cases d with
    | int i => exact ⟨i :: ns, by rw [e1]; rfl, by show (intsOf ds).map (i :: ·) = _; rw [e2]; rfl⟩
    | _ => cases h.1
theorem pI_nat (k : Nat) : pI (natD k) = true := rfl
theorem rg0_get {n i : Nat} {x : SV} (h : (rgD 0 n)[i]? = some x) : i < n ∧ x = .d (natD i) := by
  obtain ⟨a, b⟩ := rgD_get h
  rw [Int.zero_add] at b
  exact ⟨a, b⟩
/-- sorted(..) of a row, compared -/
theorem sorted_row {n : Nat} {ns ns' : List Int} (p : ns'.Perm ns) (s : ns'.Pairwise (· ≤ ·)) : (ns' = (List.range n).map fun k : Nat => (k : Int)) ↔ ∃ ms : List Nat, ns = ms.map (fun k : Nat => (k : Int)) ∧ ms.length = n ∧ (∀ k ∈ ms, k < n) ∧ ms.Nodup := by
  constructor
  · intro e
    rw [e] at p
    have lo : ∀ i ∈ ns, 0 ≤ i := fun i hi => by
      obtain ⟨k, _, rfl⟩ := List.mem_map.mp (p.mem_iff.mpr hi)
      omega
    have en : ns = (ns.map Int.toNat).map fun k : Nat => (k : Int) := by
      rw [List.map_map]
      have : ∀ l : List Int, (∀ i ∈ l, 0 ≤ i) → l = l.map ((fun k : Nat => (k : Int)) ∘ Int.toNat) := fun l hl => by
        induction l with
        | nil => rfl
        | cons a l ih =>
          rw [List.map_cons, ← ih fun i hi => hl i (List.mem_cons_of_mem _ hi)]
          have := hl a (List.mem_cons_self ..)
          show a :: l = ((a.toNat : Nat) : Int) :: l
          rw [Int.toNat_of_nonneg this]
      exact this ns lo
    have pm : (ns.map Int.toNat).Perm (List.range n) := by
      have q := (p.map Int.toNat).symm
      rw [List.map_map] at q
      have : (Int.toNat ∘ fun k : Nat => (k : Int)) = id := by funext k; show ((k : Int)).toNat = k; omega
      rw [this, List.map_id] at q
      exact q
    exact ⟨_, en, by rw [pm.length_eq, List.length_range], fun k hk => List.mem_range.mp (pm.mem_iff.mp hk), pm.nodup_iff.mpr List.nodup_range⟩
  · rintro ⟨ms, rfl, h1, h2, h3⟩
    have pm := perm_range n ms h3 h2 h1
    have p2 : ns'.Perm ((List.range n).map fun k : Nat => (k : Int)) := p.trans (pm.map _)
    refine List.Perm.eq_of_pairwise (le := (· ≤ ·)) (fun a b _ _ x y => Int.le_antisymm x y) s ?_ p2
    rw [List.pairwise_map]
    exact List.pairwise_le_range.imp fun h => by omega
def resW : Option Int → PyData
  | none => .none
  | some k => .int k
theorem rowD_int {ms : List Nat} : rowD ms = .tuple ((ms.map fun k : Nat => (k : Int)).map PyData.int) := by
  unfold rowD; rw [nats_ints]
theorem wrong_of {d : PyData} {E : XP} {Q : SV → Prop} (h : Q (.d (resW (verd d)))) : s__law_wrong [.d d] E Q := by
  have h1 : ∀ k, verd d = some k → Q (SVi k) := fun k e => by rw [e] at h; exact h
  have h0 : verd d = none → Q (.d .none) := fun e => by rw [e] at h; exact h
  clear h
  refine ⟨_, rfl, _, rfl, _, kit_tup d, _, rfl, ?_⟩
  cases ht : isTup d with
  | false => exact ifT rfl (ifT rfl ⟨_, rfl, _, rfl, _, rfl, h1 (-1) (verd_no ht)⟩)
  | true =>
    obtain ⟨rows, rfl⟩ : ∃ rows, d = .tuple rows := by
      cases d <;> first | exact ⟨_, rfl⟩ | cases ht
    refine ifF rfl ?_
    have bad : (rows.length = 0 ∨ 200 < rows.length) → Q (SVi (-1)) := fun z => h1 _ (verd_len z)
    refine ⟨_, rfl, _, rfl, _, rfl, _, rfl, ?_⟩
    refine ifE (fun g1 => ?_) (fun g1 => ?_)
    case refine_1 => exact ifT rfl ⟨_, rfl, _, rfl, _, rfl, bad (Or.inl (by have := of_decide_eq_true g1; omega))⟩
    refine ⟨_, rfl, _, rfl, _, rfl, _, rfl, ?_⟩
    refine ifE (fun g2 => ?_) (fun g2 => ?_)
    case refine_1 => exact ⟨_, rfl, _, rfl, _, rfl, bad (Or.inr (by have := of_decide_eq_true g2; omega))⟩
    have l0 : 1 ≤ rows.length := by have := of_decide_eq_false g1; omega
    have l1 : rows.length ≤ 200 := by have := of_decide_eq_false g2; omega
    refine ⟨_, rfl, _, rfl, _, rfl, by omega, by omega, ?_⟩
    show loopE _ _ _ _ (rgD 0 (rows.length : Int).toNat) _
    rw [Int.toNat_natCast]
    refine loopE_ix (fun i e => (∃ x2 x3 x4 : SD, x4.plain = true ∧ e = [.v (.d (.tuple rows)), .v (SVi rows.length), x2, x3, x4, .un, .un]) ∧ ∀ j, j < i → RowOk rows.length j (rows.getD j .none)) ⟨⟨.un, .un, .un, rfl, rfl⟩, fun j h => absurd h (by omega)⟩ ?_ ?_
    · rintro e ⟨⟨x2, x3, x4, hp, rfl⟩, all⟩
      rw [rgD_len] at all
      obtain ⟨sq, et⟩ := rows_sq all
      have cell : ∀ {i j : Nat}, i < rows.length → j < rows.length → ((tabOf rows).map rowD)[i]? = some (rowD ((tabOf rows).getD i [])) ∧ (((tabOf rows).getD i []).map natD)[j]? = some (natD (ent (tabOf rows) i j)) := fun {i j} a b => by
        obtain ⟨t1, t2, _⟩ := sq.get a
        refine ⟨by rw [List.getElem?_map, t1]; rfl, ?_⟩
        rw [List.getElem?_map, some_getD (b := 0) (by rw [t2]; exact b)]; rfl
      have asc_of : ∀ i, i < rows.length → rowOf (rows.getD i .none) = (tabOf rows).getD i [] := fun i a => by
        unfold tabOf
        rw [getD_some (a := rowOf (rows.getD i .none)) (by rw [List.getElem?_map, some_getD (b := PyData.none) a]; rfl)]
      rw [et]
      refine ⟨_, rfl, _, rfl, by omega, by omega, ?_⟩
      show loopE _ _ _ _ (rgD 0 (rows.length : Int).toNat) _
      rw [Int.toNat_natCast]
      refine loopE_ix (fun i e => (∃ x2 x5 x6 : SD, e = [.v (.d (tabD (tabOf rows))), .v (SVi rows.length), x2, x3, x4, x5, x6]) ∧ ∀ j, j < i → Asc rows.length (tabOf rows) (rowOf (rows.getD j .none))) ⟨⟨x2, .un, .un, rfl⟩, fun j h => absurd h (by omega)⟩ ?_ ?_
      · rintro e ⟨_, asc⟩
        rw [rgD_len] at asc
        exact ⟨_, rfl, h0 (verd_ok l0 l1 all asc)⟩
      · rintro i x e hx ⟨⟨x2, x5, x6, rfl⟩, lo⟩ R hR
        obtain ⟨hi, rfl⟩ := rg0_get hx
        refine ⟨_, rfl, _, rfl, by omega, by omega, ?_⟩
        show loopE _ _ _ _ (rgD 0 (rows.length : Int).toNat) _
        rw [Int.toNat_natCast]
        refine loopE_ix (fun j e => (∃ x5 x6 : SD, e = [.v (.d (tabD (tabOf rows))), .v (SVi rows.length), .v (.d (natD i)), x3, x4, x5, x6]) ∧ ∀ j', j' < j → ∀ k, k < rows.length → ent (tabOf rows) (ent (tabOf rows) i j') k = ent (tabOf rows) i (ent (tabOf rows) j' k)) ⟨⟨x5, x6, rfl⟩, fun j h => absurd h (by omega)⟩ ?_ ?_
        · rintro e ⟨⟨x5, x6, rfl⟩, hj⟩
          rw [rgD_len] at hj
          refine hR _ ⟨⟨_, _, _, rfl⟩, fun j h => ?_⟩
          by_cases hji : j = i
          · subst hji
            rw [asc_of j hi]
            exact fun a b ha hb => (hj a ha b hb).symm
          · exact lo j (by omega)
        · rintro j x e hx ⟨⟨x5, x6, rfl⟩, hj⟩ R2 hR2
          obtain ⟨hjn, rfl⟩ := rg0_get hx
          refine ⟨_, rfl, _, rfl, by omega, by omega, ?_⟩
          show loopE _ _ _ _ (rgD 0 (rows.length : Int).toNat) _
          rw [Int.toNat_natCast]
          refine loopE_ix (fun k e => (∃ x6 : SD, e = [.v (.d (tabD (tabOf rows))), .v (SVi rows.length), .v (.d (natD i)), x3, x4, .v (.d (natD j)), x6]) ∧ ∀ k', k' < k → ent (tabOf rows) (ent (tabOf rows) i j) k' = ent (tabOf rows) i (ent (tabOf rows) j k')) ⟨⟨x6, rfl⟩, fun j h => absurd h (by omega)⟩ ?_ ?_
          · rintro e ⟨⟨x6, rfl⟩, hk⟩
            rw [rgD_len] at hk
            refine hR2 _ ⟨⟨_, _, rfl⟩, fun j' h => ?_⟩
            by_cases hji : j' = j
            · subst hji; exact hk
            · exact hj j' (by omega)
          · rintro k x e hx ⟨⟨x6, rfl⟩, hk⟩ R3 hR3
            obtain ⟨hkn, rfl⟩ := rg0_get hx
            have c1 := cell hi hjn
            have c2 := cell (sq.lt hi hjn) hkn
            have c3 := cell hjn hkn
            have c4 := cell hi (sq.lt hjn hkn)
            refine ⟨_, rfl, _, rfl, _, rfl, rowD ((tabOf rows).getD i []), atN c1.1, _, rfl, _, rfl, natD (ent (tabOf rows) i j), atN c1.2, _, rfl, rowD ((tabOf rows).getD (ent (tabOf rows) i j) []), atN c2.1, _, rfl, _, rfl, natD (ent (tabOf rows) (ent (tabOf rows) i j) k), atN c2.2, _, rfl, ?_⟩
            refine ⟨_, rfl, _, rfl, rowD ((tabOf rows).getD i []), atN c1.1, _, rfl, _, rfl, _, rfl, rowD ((tabOf rows).getD j []), atN c3.1, _, rfl, _, rfl, natD (ent (tabOf rows) j k), atN c3.2, _, rfl, natD (ent (tabOf rows) i (ent (tabOf rows) j k)), atN c4.2, _, rfl, shaped_int _, shaped_int _, _, rfl, ?_⟩
            show (if (!PyData.eqv (natD _) (natD _)) = true then _ else _)
            rw [eqv_natD]
            by_cases hq : ent (tabOf rows) (ent (tabOf rows) i j) k = ent (tabOf rows) i (ent (tabOf rows) j k)
            · refine ifF (by rw [decide_eq_true hq]; rfl) (hR3 _ ⟨⟨_, rfl⟩, fun k' h => ?_⟩)
              by_cases hkk : k' = k
              · subst hkk; exact hq
              · exact hk k' (by omega)
            · refine ifT (by rw [decide_eq_false hq]; rfl) ⟨_, rfl, h1 _ (verd_asc l0 l1 all hi lo fun a => hq ?_)⟩
              rw [asc_of i hi] at a
              exact (a j k hjn hkn).symm
    · rintro i x e hx ⟨⟨x2, x3, x4, hp, rfl⟩, lo⟩ R hR
      obtain ⟨hi, rfl⟩ := rg0_get hx
      have hd := some_getD (b := PyData.none) hi
      generalize ed : rows.getD i .none = d at hd
      have fail : ¬ RowOk rows.length i d → Q (SVi (i : Int)) := fun g => h1 _ (verd_row l0 l1 hi lo (by rw [ed]; exact g))
      refine ⟨_, rfl, _, rfl, d, atN hd, ?_⟩
      refine ⟨_, rfl, _, rfl, _, kit_tup d, _, rfl, ?_⟩
      cases htd : isTup d with
      | false => exact ifT rfl (ifT rfl ⟨_, rfl, fail fun ⟨ns, e1, _⟩ => by rw [e1] at htd; cases htd⟩)
      | true =>
        obtain ⟨ds, rfl⟩ : ∃ ds, d = .tuple ds := by
          cases d <;> first | exact ⟨_, rfl⟩ | cases htd
        refine ifF rfl ⟨_, rfl, _, rfl, _, rfl, shaped_int _, shaped_int _, _, rfl, ?_⟩
        rw [eqv_int]
        by_cases hl : ds.length = rows.length
        · refine ifF (by rw [decide_eq_true (by rw [hl])]; rfl) ?_
          refine ⟨_, _, rfl, rfl, by rw [List.length_map, hl]; show rows.length ≤ 1000000; omega, by show (x4.plain && true) = true; rw [hp]; rfl, ?_⟩
          refine lcL_of gB _ _ (fun y hy acc R' q => ?_) ?_
          · obtain ⟨z, hz, rfl⟩ := List.mem_map.mp hy
            refine ⟨rfl, ifT rfl ?_⟩
            have q' : R' (acc ++ [.leaf (SVb (isIntB z && !isBool z))]) := q
            refine ⟨_, rfl, _, rfl, _, kit_int z, _, rfl, ?_⟩
            refine ifE (fun c => ?_) (fun c => ?_)
            · have c' : isIntB z = true := c
              rw [c', Bool.true_and] at q'
              exact ⟨_, rfl, _, rfl, _, kit_bool z, _, rfl, rfl, _, rfl, q'⟩
            · have c' : isIntB z = false := c
              rw [c', Bool.false_and] at q'
              exact ⟨rfl, _, rfl, q'⟩
          rw [List.nil_append, flat_B]
          refine ⟨_, frz_lst _, _, bools_B _, _, rfl, ?_⟩
          refine ifE (fun ga => ?_) (fun ga => ?_)
          · refine ⟨_, rfl, fail ?_⟩
            rintro ⟨ns, e1, _⟩
            cases e1
            have : ((ns.map natD).map pI).all id = true := by
              rw [List.all_eq_true]
              intro b hb
              obtain ⟨z, hz, rfl⟩ := List.mem_map.mp hb
              obtain ⟨k, _, rfl⟩ := List.mem_map.mp hz
              exact pI_nat k
            have ga' : (!((ns.map natD).map pI).all id) = true := ga
            rw [this] at ga'
            cases ga'
          · have ga' : (ds.map pI).all id = true := by
              have : (!(ds.map pI).all id) = false := ga
              simpa using this
            obtain ⟨ns, en, ei⟩ := ints_of ds ga'
            refine ⟨_, rfl, _, _, rfl, ei, fun ns' pm st => ?_⟩
            refine ⟨_, frz_lst _, _, rfl, by omega, by show (rows.length : Int) ≤ 1000000; omega, _, frz_lst _, shaped_lst _, by rw [rngD_ints]; exact shaped_lstN _, _, rfl, ?_⟩
            rw [rngD_ints, nats_ints, eqv_lst]
            have fits := sorted_row (n := rows.length) pm st
            by_cases hs : ns' = (List.range rows.length).map fun k : Nat => (k : Int)
            · refine ifF (by rw [decide_eq_true hs]; rfl) ?_
              obtain ⟨ms, em, m1, m2, m3⟩ := fits.mp hs
              have edm : PyData.tuple ds = rowD ms := by rw [rowD_int, en, em]
              have hz := some_getD (b := 0) (show 0 < ms.length by omega)
              have hds : ds = ms.map natD := PyData.tuple.inj edm
              subst hds
              refine ⟨_, rfl, _, rfl, natD (ms.getD 0 0), atN (k := 0) (by rw [List.getElem?_map, hz]; rfl), _, rfl, _, rfl, shaped_int _, shaped_int _, _, rfl, ?_⟩
              show (if (!PyData.eqv (natD (ms.getD 0 0)) (natD i)) = true then _ else _)
              rw [eqv_natD]
              by_cases hat : ms.getD 0 0 = i
              · refine ifF (by rw [decide_eq_true hat]; rfl) ?_
                refine ⟨_, rfl, _, rfl, shaped_int _, shaped_int _, _, rfl, ?_⟩
                show (if PyData.eqv (natD i) (natD 0) = true then _ else _)
                rw [eqv_natD]
                by_cases h00 : i = 0
                · refine ifT (decide_eq_true h00) ?_
                  refine ⟨_, rfl, _, rfl, _, frz_lst _, _, rfl, by omega, by show (rows.length : Int) ≤ 1000000; omega, _, frz_lst _, shaped_lstN _, by rw [rngD_ints]; exact shaped_lstN _, _, rfl, ?_⟩
                  rw [rngD_ints, eqv_lstN]
                  by_cases hr : ms = List.range rows.length
                  · refine ifF (by rw [decide_eq_true hr]; rfl) (hR _ ⟨⟨_, _, x4, hp, rfl⟩, fun j hj => ?_⟩)
                    by_cases hji : j = i
                    · subst hji; rw [ed]; exact ⟨ms, rfl, m1, m2, m3, by rw [hz, hat], fun _ => hr⟩
                    · exact lo j (by omega)
                  · refine ifT (by rw [decide_eq_false hr]; rfl) ⟨_, rfl, fail fun ⟨ks, f1, _, _, _, _, f6⟩ => hr (by rw [natDs_inj (PyData.tuple.inj f1)]; exact f6 h00)⟩
                · refine ifF (decide_eq_false h00) ?_
                  refine ifF rfl (hR _ ⟨⟨_, _, x4, hp, rfl⟩, fun j hj => ?_⟩)
                  by_cases hji : j = i
                  · subst hji; rw [ed]; exact ⟨ms, rfl, m1, m2, m3, by rw [hz, hat], fun z => absurd z h00⟩
                  · exact lo j (by omega)
              · refine ifT (by rw [decide_eq_false hat]; rfl) (ifT rfl ⟨_, rfl, fail ?_⟩)
                rintro ⟨ks, f1, _, _, _, f5, _⟩
                rw [← natDs_inj (PyData.tuple.inj f1)] at f5
                rw [hz] at f5
                exact hat (Option.some.inj f5)
            · refine ifT (by rw [decide_eq_false hs]; rfl) (ifT rfl ⟨_, rfl, fail ?_⟩)
              rintro ⟨ms, e1, m1, m2, m3, _⟩
              refine hs (fits.mpr ⟨ms, ?_, m1, m2, m3⟩)
              rw [rowD_int] at e1
              have e2 : ns.map PyData.int = (ms.map fun k : Nat => (k : Int)).map PyData.int := by rw [← en]; exact PyData.tuple.inj e1
              have inj : ∀ as bs : List Int, as.map PyData.int = bs.map PyData.int → as = bs := fun as => by
                induction as with
                | nil => intro bs hb; cases bs with | nil => rfl | cons _ _ => cases hb
                | cons a as ih =>
                  intro bs hb
                  cases bs with
                  | nil => cases hb
                  | cons b bs =>
                    obtain ⟨q1, q2⟩ := List.cons.inj hb
                    rw [PyData.int.inj q1, ih bs q2]
              exact inj _ _ e2
        · refine ifT (by rw [decide_eq_false (by omega)]; rfl) ⟨_, rfl, fail fun ⟨ns, e1, e2, _⟩ => hl ?_⟩
          cases e1
          rw [List.length_map]; exact e2
def resD : Option Int → PyData
  | none => .list [.str "table", .none]
  | some k => .list [.str "refused", .int k]
theorem due_of {d : PyData} {E : XP} {Q : SV → Prop} (h : Q (.d (resD (verd d)))) : s__law_due [.d d] E Q := by
  refine ⟨_, rfl, rfl, wrong_of ?_⟩
  generalize verd d = o at h
  cases o with
  | none => exact ⟨_, rfl, _, rfl, _, rfl, ifT rfl ⟨_, rfl, by decide, _, rfl, h⟩⟩
  | some k => exact ⟨_, rfl, _, rfl, _, rfl, ifF rfl ⟨_, rfl, (by show 2 ≤ 1000000; decide), _, rfl, h⟩⟩
theorem told_of {er : Er} {d : PyData} {E : XP} {Q : SV → Prop} (h : Q (.d (resD (verd d)))) : s__law_told er [.d d] E Q :=
  ⟨_, rfl, check_of (fun e => ⟨_, rfl, by rw [e] at h; exact h⟩) (fun k e => ⟨_, rfl, by rw [e] at h; exact h⟩)⟩
theorem resD_shaped (o : Option Int) : SeqAt.shaped (resD o) = true := by
  cases o with
  | none => decide +kernel
  | some k =>
    show (PyData.canLay0 _ && decide (PyData.depth _ ≤ 64)) = true
    rw [Bool.and_eq_true]
    refine ⟨?_, ?_⟩
    · show PyData.canLay0 (.list [.str "refused", .int k]) = true
      simp only [PyData.canLay0, PyData.canLayAll0, Bool.and_true]
      decide +kernel
    · show decide (PyData.depth (.list [.str "refused", .int k]) ≤ 64) = true
      simp [PyData.depth, PyData.depthAll]
theorem resD_eqv (o : Option Int) : PyData.eqv (resD o) (resD o) = true := by
  cases o <;> simp [resD, PyData.eqv, PyData.eqvAll]
/-- one of some things -/
theorem pick_of {b : Box} {ds : List PyData} {E : XP} {Q : SV → Prop} (h0 : ds ≠ []) (h1 : ds.length ≤ 1000) (h : ∀ d ∈ ds, Q (.d d)) : s__law_pick b [.r (.ref b.h), .d (.list ds)] E Q := by
  have hl : 0 < ds.length := List.length_pos_iff.mpr h0
  refine ⟨_, rfl, _, rfl, _, rfl, _, rfl, rfl, ds.length, rfl, by omega, by omega, fun r r0 r1 => ?_⟩
  obtain ⟨k, rfl⟩ := Int.eq_ofNat_of_zero_le r0
  have hd := some_getD (b := PyData.none) (show k < ds.length by omega)
  exact ⟨_, rfl, _, atN hd, _, rfl, h _ (List.mem_of_getElem? hd)⟩
theorem draw_of {b : Box} {n : Nat} {E : XP} {Q : SV → Prop} (h0 : 0 < n) (h1 : n ≤ 100000) (h : ∀ k, k < n → Q (.d (natD k))) : s__law_draw b [.r (.ref b.h), SVi n] E Q := by
  refine ⟨n, rfl, by omega, by omega, fun r r0 r1 => ?_⟩
  obtain ⟨k, rfl⟩ := Int.eq_ofNat_of_zero_le r0
  exact h k (by omega)
/-- so many numbers in some order -/
theorem lorder_of {b : Box} {m : Nat} {E : XP} {Q : SV → Prop} (h1 : m ≤ 1000) (h : ∀ p : List Nat, p.Perm (List.range m) → Q (.d (.list (p.map natD)))) : s__law_order b [.r (.ref b.h), SVi m] E Q := by
  refine ⟨[], rfl, by decide, ?_⟩
  refine ⟨_, rfl, _, rfl, by omega, by omega, ?_⟩
  show loopE _ _ _ _ (rgD 0 (m : Int).toNat) _
  rw [Int.toNat_natCast]
  refine loopE_ix (fun i e => ∃ (p : List Nat) (x3 : SD), p.Perm (List.range i) ∧ e = [.v (.r (.ref b.h)), .v (SVi m), .own (.lst (leafs (p.map natD))), x3]) ⟨[], .un, .refl _, rfl⟩ ?_ ?_
  · rintro e ⟨p, x3, hp, rfl⟩
    rw [rgD_len] at hp
    exact ⟨_, dat_lst _, _, rfl, h p hp⟩
  · rintro i x e hx ⟨p, x3, hp, rfl⟩ R hR
    obtain ⟨hi, rfl⟩ := rg0_get hx
    have hl := hp.length_eq
    rw [List.length_range] at hl
    have ll : (leafs (p.map natD)).length = i := by unfold leafs; rw [List.length_map, List.length_map, hl]
    refine ⟨_, rfl, _, rfl, _, rfl, _, rfl, _, rfl, rfl, ?_⟩
    show s__law_draw b [.r (.ref b.h), SVi (((leafs (p.map natD)).length : Int) + 1)] _ _
    rw [ll]
    refine draw_of (n := i + 1) (by omega) (by omega) fun k hk => ?_
    refine ⟨_, rfl, _, rfl, rfl, by rw [List.length_map, hl]; show i < 1000000; omega, k, natD i, rfl, by omega, by omega, hR _ ⟨p.take k ++ [i] ++ p.drop k, .v (.d (natD i)), ?_, ?_⟩⟩
    · have q : (p.take k ++ [i] ++ p.drop k).Perm (p ++ [i]) := by
        have a : (p.take k ++ [i] ++ p.drop k).Perm (p.take k ++ (p.drop k ++ [i])) := by
          rw [List.append_assoc]
          exact List.Perm.append_left _ List.perm_append_comm
        rw [← List.append_assoc, List.take_append_drop] at a
        exact a
      rw [List.range_succ]
      exact q.trans (hp.append_right [i])
    · show [_, _, _, _] = [_, _, _, _]
      rw [Int.toNat_natCast, List.map_append, List.map_append, List.map_take, List.map_drop]
      rfl
/-- a row with another thing at a place -/
theorem put_of {ds : List PyData} {k : Nat} {x : PyData} {E : XP} {Q : SV → Prop} (h1 : ds.length ≤ 10000) (h : ∀ es : List PyData, es.length ≤ 2 * ds.length + 1 → Q (.d (.tuple es))) : s__law_put [.d (.tuple ds), SVi k, .d x] E Q := by
  have cl : ∀ lo hi, (cutD ds lo hi).length ≤ ds.length := fun lo hi => by
    unfold cutD
    rw [List.length_take, List.length_drop]
    omega
  refine ⟨_, rfl, _, rfl, _, rfl, _, rfl, [x], rfl, (by show 1 ≤ 1000000; decide), _, rfl, ?_⟩
  have c1 := cl none (some k)
  refine ⟨by show (cutD ds none (some k)).length + 1 ≤ 1000000; omega, _, rfl, _, rfl, _, rfl, _, rfl, _, rfl, _, rfl, ?_⟩
  have c2 := cl (some ((k : Int) + 1)) none
  refine ⟨?_, _, rfl, h _ ?_⟩
  · show ((cutD ds none (some k)) ++ [x]).length + (cutD ds (some ((k : Int) + 1)) none).length ≤ 1000000
    rw [List.length_append, List.length_singleton]
    omega
  · rw [List.length_append, List.length_append, List.length_singleton]
    omega
def rowL (r : List Nat) : PyData := .list (r.map natD)
def lstD (tab : List (List Nat)) : PyData := .list (tab.map rowL)
def matO (M : List (List Nat)) : List O := M.map fun r => .lst (leafs (r.map natD))
theorem matO_dat : ∀ M : List (List Nat), Os.dat (matO M) = some (M.map rowL)
  | [] => rfl
  | r :: M => by
    show (match O.dat (.lst (leafs (r.map natD))), Os.dat (matO M) with | some d, some ds => some (d :: ds) | _, _ => none) = _
    rw [dat_lst, matO_dat M]; rfl
theorem matO_frz (M : List (List Nat)) : O.dat (.lst (matO M)) = some (lstD M) := by
  show (Os.dat (matO M)).map PyData.list = _
  rw [matO_dat]; rfl
def setM (M : List (List Nat)) (a b v : Nat) : List (List Nat) := M.set a ((M.getD a []).set b v)
theorem Sq.set {n a b v : Nat} {M : List (List Nat)} (s : Sq n M) (ha : a < n) (hv : v < n) : Sq n (setM M a b v) := by
  refine ⟨by unfold setM; rw [List.length_set]; exact s.len, fun r hr => ?_⟩
  obtain ⟨_, t2, t3⟩ := s.get ha
  rcases List.mem_or_eq_of_mem_set hr with h | h
  · exact s.row r h
  · subst h
    refine ⟨by rw [List.length_set]; exact t2, fun k hk => ?_⟩
    rcases List.mem_or_eq_of_mem_set hk with h | h
    · exact t3 k h
    · rw [h]; exact hv
theorem ent_set {n a b v : Nat} {M : List (List Nat)} (s : Sq n M) (ha : a < n) (hb : b < n) : ent (setM M a b v) a b = v := by
  obtain ⟨t1, t2, _⟩ := s.get ha
  unfold ent setM
  rw [getD_some (a := (M.getD a []).set b v) (by rw [List.getElem?_set_self (by rw [s.len]; exact ha)])]
  exact getD_some (by rw [List.getElem?_set_self (by rw [t2]; exact hb)])
theorem ent_other {a b v i j : Nat} {M : List (List Nat)} (h : i ≠ a ∨ j ≠ b) : ent (setM M a b v) i j = ent M i j := by
  unfold ent setM
  by_cases e : i = a
  · subst e
    have hj : j ≠ b := h.elim (fun z => absurd rfl z) id
    by_cases l : i < M.length
    · rw [getD_some (a := (M.getD i []).set b v) (by rw [List.getElem?_set_self l])]
      rw [List.getD_eq_getElem?_getD, List.getD_eq_getElem?_getD (l := M.getD i []), List.getElem?_set_ne (fun z => hj z.symm)]
    · rw [List.set_eq_of_length_le (by omega)]
  · rw [List.getD_eq_getElem?_getD (l := M.set _ _), List.getElem?_set_ne (fun z => e z.symm), ← List.getD_eq_getElem?_getD]
theorem matO_set {a b v : Nat} {M : List (List Nat)} : (matO M).set a (.lst (leafs (((M.getD a []).map natD).set b (natD v)))) = matO (setM M a b v) := by
  unfold matO setM
  rw [List.map_set, List.map_set]
def gRow : SV → List O
  | .d (.list ds) => [.leaf (.d (.tuple ds))]
  | _ => []
theorem flat_row : ∀ M : List (List Nat), ((M.map rowL).map SV.d).flatMap gRow = leafs (M.map rowD)
  | [] => rfl
  | r :: M => by
    show gRow (.d (rowL r)) ++ List.flatMap gRow ((M.map rowL).map SV.d) = _
    rw [flat_row M]; rfl
theorem flat_const {α : Type} (a : O) : ∀ xs : List α, xs.flatMap (fun _ => [a]) = List.replicate xs.length a
  | [] => rfl
  | x :: xs => by rw [List.flatMap_cons, flat_const a xs]; rfl
theorem ixN_nat {n k : Nat} (h : k < n) : ixN n (k : Int) = some k := by
  unfold ixN
  rw [if_pos (by omega), if_pos (by omega)]
  simp
/-- the numbers of a matching -/
structure Pm (n : Nat) (p : List Nat) : Prop where
  perm : p.Perm (List.range n)
theorem Pm.get {n : Nat} {p : List Nat} (h : Pm n p) {i : Nat} (hi : i < n) : p[i]? = some (p.getD i 0) ∧ p.getD i 0 < n := by
  have e := some_getD (b := 0) (show i < p.length by rw [h.perm.length_eq, List.length_range]; exact hi)
  exact ⟨e, List.mem_range.mp (h.perm.mem_iff.mp (List.mem_of_getElem? e))⟩
theorem Pm.inj {n : Nat} {p : List Nat} (h : Pm n p) {i j : Nat} (hi : i < n) (hj : j < n) (e : p.getD i 0 = p.getD j 0) : i = j := by
  have nd : p.Nodup := h.perm.nodup_iff.mpr List.nodup_range
  have a := (h.get hi).1
  have c := (h.get hj).1
  obtain ⟨x, ex⟩ := List.getElem?_eq_some_iff.mp a
  obtain ⟨y, ey⟩ := List.getElem?_eq_some_iff.mp c
  have q := List.pairwise_iff_getElem.mp nd
  rcases Nat.lt_trichotomy i j with z | z | z
  · exact absurd (by rw [ex, ey, e]) (q i j x y z)
  · exact z
  · exact absurd (by rw [ex, ey, e]) (q j i y x z)
theorem renamed_of {n : Nat} {T : List (List Nat)} {p : List Nat} {E : XP} {Q : SV → Prop} (hn : n ≤ 1000) (s : Sq n T) (hp : Pm n p)
    (h : ∀ M, Sq n M → (∀ i j, i < n → j < n → ent M (p.getD i 0) (p.getD j 0) = p.getD (ent T i j) 0) → Q (.d (tabD M))) : s__law_renamed [.d (lstD T), .d (.list (p.map natD))] E Q := by
  have tl : (T.map rowL).length = n := by rw [List.length_map, s.len]
  refine ⟨_, _, rfl, rfl, by rw [List.length_map, tl]; show n ≤ 1000000; omega, rfl, ?_⟩
  refine lcL_of (fun _ => [.lst (leafs ((List.replicate n 0).map natD))]) _ _ (fun x hx acc R q => ?_) ?_
  · refine ⟨rfl, [.leaf (SVi 0)], rfl, (by show 1 ≤ 1000000; decide), _, rfl, _, rfl, _, rfl, by show ((T.map rowL).length : Int) < 2 ^ 62; omega, by show -(2 ^ 62) < ((T.map rowL).length : Int); omega, by show 1 * ((T.map rowL).length : Int).toNat ≤ 1000000; omega, rfl, _, rfl, ?_⟩
    have e : (List.replicate ((T.map rowL).length : Int).toNat [PyData.int 0]).flatten = (List.replicate n 0).map natD := by
      rw [Int.toNat_natCast, tl]
      have : ∀ m : Nat, (List.replicate m [PyData.int 0]).flatten = (List.replicate m 0).map natD := fun m => by
        induction m with
        | zero => rfl
        | succ m ih => rw [List.replicate_succ, List.flatten_cons, ih]; rfl
      exact this n
    rw [e]
    exact q
  rw [flat_const, List.length_map, tl, List.nil_append]
  have e0 : List.replicate n (O.lst (leafs ((List.replicate n 0).map natD))) = matO (List.replicate n (List.replicate n 0)) := by
    simp only [matO, List.map_replicate]
  rw [e0]
  have s0 : Sq n (List.replicate n (List.replicate n 0)) := ⟨List.length_replicate, fun r hr => by
    rw [(List.mem_replicate.mp hr).2]
    exact ⟨List.length_replicate, fun k hk => by obtain ⟨a, b⟩ := List.mem_replicate.mp hk; omega⟩⟩
  refine ⟨_, rfl, _, rfl, _, rfl, by show -(2 ^ 62) ≤ ((T.map rowL).length : Int); omega, by show ((T.map rowL).length : Int) < 2 ^ 62; omega, ?_⟩
  show loopE _ _ _ _ (rgD 0 ((T.map rowL).length : Int).toNat) _
  rw [Int.toNat_natCast, tl]
  refine loopE_ix (fun i e => ∃ (M : List (List Nat)) (x3 x4 : SD), Sq n M ∧ (∀ i', i' < i → ∀ j, j < n → ent M (p.getD i' 0) (p.getD j 0) = p.getD (ent T i' j) 0) ∧ e = [.v (.d (lstD T)), .v (.d (.list (p.map natD))), .own (.lst (matO M)), x3, x4, .un]) ⟨_, .un, .un, s0, fun i h => absurd h (by omega), rfl⟩ ?_ ?_
  · rintro e ⟨M, x3, x4, sM, hM, rfl⟩
    rw [rgD_len] at hM
    refine ⟨_, matO_frz M, _, _, rfl, rfl, by rw [List.length_map, List.length_map, sM.len]; show n ≤ 1000000; omega, rfl, ?_⟩
    refine lcL_of gRow _ _ (fun y hy acc R q => ?_) ?_
    · obtain ⟨d, hd, rfl⟩ := List.mem_map.mp hy
      obtain ⟨r, hr, rfl⟩ := List.mem_map.mp hd
      exact ⟨rfl, _, rfl, _, rfl, rfl, _, rfl, q⟩
    rw [List.nil_append, flat_row]
    exact ⟨_, frz_lst _, _, rfl, _, rfl, h M sM fun i j hi hj => hM i hi j hj⟩
  · rintro i x e hx ⟨M, x3, x4, sM, hM, rfl⟩ R hR
    obtain ⟨hi, rfl⟩ := rg0_get hx
    refine ⟨_, rfl, _, rfl, _, rfl, by show -(2 ^ 62) ≤ ((T.map rowL).length : Int); omega, by show ((T.map rowL).length : Int) < 2 ^ 62; omega, ?_⟩
    show loopE _ _ _ _ (rgD 0 ((T.map rowL).length : Int).toNat) _
    rw [Int.toNat_natCast, tl]
    refine loopE_ix (fun j e => ∃ (M : List (List Nat)) (x4 : SD), Sq n M ∧ (∀ i', i' < i → ∀ j, j < n → ent M (p.getD i' 0) (p.getD j 0) = p.getD (ent T i' j) 0) ∧ (∀ j', j' < j → ent M (p.getD i 0) (p.getD j' 0) = p.getD (ent T i j') 0) ∧ e = [.v (.d (lstD T)), .v (.d (.list (p.map natD))), .own (.lst (matO M)), .v (.d (natD i)), x4, .un]) ⟨M, x4, sM, hM, fun i h => absurd h (by omega), rfl⟩ ?_ ?_
    · rintro e ⟨M, x4, sM, hM, hr, rfl⟩
      rw [rgD_len] at hr
      refine hR _ ⟨M, _, _, sM, fun i' h' j hj => ?_, rfl⟩
      by_cases hii : i' = i
      · subst hii; exact hr j hj
      · exact hM i' (by omega) j hj
    · rintro j x e hx ⟨M, x4, sM, hM, hr, rfl⟩ R2 hR2
      obtain ⟨hj, rfl⟩ := rg0_get hx
      obtain ⟨t1, t2, t3⟩ := s.get hi
      have c1 : (T.map rowL)[i]? = some (rowL (T.getD i [])) := by rw [List.getElem?_map, t1]; rfl
      have c2 : ((T.getD i []).map natD)[j]? = some (natD (ent T i j)) := by rw [List.getElem?_map, some_getD (b := 0) (by rw [t2]; exact hj)]; rfl
      have pg : ∀ {k}, k < n → (p.map natD)[k]? = some (natD (p.getD k 0)) := fun {k} hk => by rw [List.getElem?_map, (hp.get hk).1]; rfl
      have hpi := (hp.get hi).2
      have hpj := (hp.get hj).2
      have hpe := (hp.get (s.lt hi hj)).2
      obtain ⟨m1, m2, m3⟩ := sM.get hpi
      refine ⟨_, rfl, _, rfl, _, rfl, rowL (T.getD i []), atN c1, _, rfl, _, rfl, natD (ent T i j), atN c2, _, rfl, natD (p.getD (ent T i j) 0), atN (pg (s.lt hi hj)), ?_⟩
      refine ⟨_, rfl, ⟨matO M, rfl, _, rfl, _, rfl, natD (p.getD i 0), atN (pg hi), ((p.getD i 0 : Nat) : Int), p.getD i 0, (M.getD (p.getD i 0) []).map natD, rfl, rfl, ?_, ?_, _, rfl, _, rfl, natD (p.getD j 0), atN (pg hj), ((p.getD j 0 : Nat) : Int), p.getD j 0, rfl, rfl, ?_, hR2 _ ⟨setM M (p.getD i 0) (p.getD j 0) (p.getD (ent T i j) 0), .v (.d (natD j)), sM.set hpi hpe, ?_, ?_, ?_⟩⟩⟩
      · exact ixN_nat (by unfold matO; rw [List.length_map, sM.len]; exact hpi)
      · unfold matO; rw [List.getElem?_map, m1]; rfl
      · exact ixN_nat (by rw [List.length_map, m2]; exact hpj)
      · intro i' hi' j' hj'
        rw [ent_other (Or.inl fun z => by have := hp.inj (by omega) hi z; omega)]
        exact hM i' hi' j' hj'
      · intro j' hj'
        by_cases hjj : j' = j
        · subst hjj; exact ent_set sM hpi hpj
        · rw [ent_other (Or.inr fun z => hjj (hp.inj (by omega) hj z))]
          exact hr j' (by omega)
      · rw [matO_set]; rfl
theorem ne_t {c : Bool} (h : c = false) : ¬ c = true := fun z => by rw [h] at z; cases z
def turnI (w : Nat) (s : Int) (i : Nat) : Int := if decide ((w : Int) ≤ (i : Int)) = true then s else 1
def moreI (w : Nat) (x : Int) (i j : Nat) : Int := if decide ((w : Int) ≤ (i : Int)) = true then (if decide ((w : Int) ≤ (j : Int)) = true then x else 0) else 0
def cellI (w k : Nat) (s x : Int) (i j : Nat) : Int := ((i : Int) % w + turnI w s i * ((j : Int) % w) + moreI w x i j) % w + w * (((i : Int) / w + (j : Int) / w) % k)
def rowI (w k : Nat) (s x : Int) (i n : Nat) : List PyData := (List.range n).map fun j => PyData.int (cellI w k s x i j)
def tabI (w k : Nat) (s x : Int) (n : Nat) : List PyData := (List.range n).map fun i => PyData.list (rowI w k s x i (w * k))
theorem leafs_snoc (xs : List PyData) (d : PyData) : leafs xs ++ [.leaf (.d d)] = leafs (xs ++ [d]) := by
  unfold leafs; rw [List.map_append]; rfl
theorem table_of {w k : Nat} {s x : Int} {E : XP} {Q : SV → Prop} (w0 : 1 ≤ w) (w1 : w ≤ 100) (k0 : 1 ≤ k) (k1 : k ≤ 10) (s0 : s.natAbs ≤ 100) (h : Q (.d (.list (tabI w k s x (w * k))))) :
    s__law_table [.d (.tuple [.int w, .int k, .int s, .int x])] E Q := by
  have hwk : ((w : Int) * (k : Int)) = ((w * k : Nat) : Int) := by omega
  have hb : w * k ≤ 1000 := Nat.mul_le_mul w1 k1
  have cd : CDivW 0 w := ⟨by omega, by have := log2_lt63 (i := (w : Int)) (by omega); omega⟩
  refine ⟨_, rfl, _, rfl, rfl, _, _, rfl, _, _, rfl, _, _, rfl, _, _, rfl, rfl, ?_⟩
  refine ⟨[], rfl, (by show 0 ≤ 1000000; decide), ?_⟩
  refine ⟨_, rfl, _, rfl, mul_small (by omega) (by omega), _, rfl, _, rfl, by rw [hwk]; omega, by rw [hwk]; omega, ?_⟩
  show loopE _ _ _ _ (rgD 0 ((w : Int) * (k : Int)).toNat) _
  rw [hwk, Int.toNat_natCast]
  refine loopE_ix (fun i e => ∃ x6 x7 x8 x9 x10 x11 x12 : SD, e = [.v (.d (.tuple [.int w, .int k, .int s, .int x])), .v (SVi w), .v (SVi k), .v (SVi s), .v (SVi x), .own (.lst (leafs (tabI w k s x i))), x6, x7, x8, x9, x10, x11, x12]) ⟨_, _, _, _, _, _, _, rfl⟩ ?_ ?_
  · rintro e ⟨x6, x7, x8, x9, x10, x11, x12, rfl⟩
    rw [rgD_len]
    exact ⟨_, dat_lst _, _, rfl, h⟩
  · rintro i z e hx ⟨x6, x7, x8, x9, x10, x11, x12, rfl⟩ R hR
    obtain ⟨hi, rfl⟩ := rg0_get hx
    -- behind turn
    have cont : ∀ R' : DL.Env → Prop, (∀ e2, (∃ x6 x7 x8 x9 x10 x11 x12 : SD, e2 = [.v (.d (.tuple [.int w, .int k, .int s, .int x])), .v (SVi w), .v (SVi k), .v (SVi s), .v (SVi x), .own (.lst (leafs (tabI w k s x (i + 1)))), x6, x7, x8, x9, x10, x11, x12]) → R' e2) → ∀ P' : Post, P'.nx = R' →
        (sSeq (sFor (miRng1 (aCons (mOp fMul (mVar 1) (mVar 2)) aNil)) (gmName 7) (sSeq (sSet (mIf (mAnd (tbl (mOp fGe (mVar 6) (mVar 1))) (tbl (mOp fGe (mVar 7) (mVar 1)))) (mVar 4) (mC (SVi 0))) 10)
    (sSeq (sPar (oCons (mOp fMod (mCB fInt (aCons (mOp fAdd (mOp fAdd (mOp fMod (mVar 6) (mVar 1)) (mOp fMul (mVar 8) (mOp fMod (mVar 7) (mVar 1)))) (mVar 10)) aNil)) (mVar 1)) (oCons (mOp fMod (mCB fInt (aCons (mOp fAdd (mOp fDiv (mVar 6) (mVar 1)) (mOp fDiv (mVar 7) (mVar 1))) aNil)) (mVar 2)) oNil)) 11 12)
    (sApp 9 (mOp fAdd (mVar 11) (mOp fMul (mVar 1) (mVar 12)))))))
    (sApp 5 (mVar 9))) [.v (.d (.tuple [.int w, .int k, .int s, .int x])), .v (SVi w), .v (SVi k), .v (SVi s), .v (SVi x), .own (.lst (leafs (tabI w k s x i))), .v (.d (natD i)), x7, .v (SVi (turnI w s i)), .own (.lst (leafs [])), x10, x11, x12] (fun _ => False) P' := by
      intro R' hR' P' eP
      refine ⟨_, rfl, _, rfl, mul_small (by omega) (by omega), _, rfl, _, rfl, by rw [hwk]; omega, by rw [hwk]; omega, ?_⟩
      show loopE _ _ _ _ (rgD 0 ((w : Int) * (k : Int)).toNat) _
      rw [hwk, Int.toNat_natCast]
      refine loopE_ix (fun j e => ∃ x7 x10 x11 x12 : SD, e = [.v (.d (.tuple [.int w, .int k, .int s, .int x])), .v (SVi w), .v (SVi k), .v (SVi s), .v (SVi x), .own (.lst (leafs (tabI w k s x i))), .v (.d (natD i)), x7, .v (SVi (turnI w s i)), .own (.lst (leafs (rowI w k s x i j))), x10, x11, x12]) ⟨_, _, _, _, rfl⟩ ?_ ?_
      · rintro e ⟨x7, x10, x11, x12, rfl⟩
        rw [rgD_len]
        refine ⟨_, rfl, _, dat_lst _, rfl, ?_, _, rfl, ?_⟩
        · unfold leafs tabI; rw [List.length_map, List.length_map, List.length_range]; show i < 1000000; omega
        · rw [eP]
          refine hR' _ ⟨.v (.d (natD i)), x7, .v (SVi (turnI w s i)), .v (.d (.list (rowI w k s x i (w * k)))), x10, x11, x12, ?_⟩
          rw [leafs_snoc]
          have : tabI w k s x i ++ [.list (rowI w k s x i (w * k))] = tabI w k s x (i + 1) := by unfold tabI; rw [List.range_succ, List.map_append]; rfl
          rw [this]
          rfl
      · rintro j z e hx ⟨x7, x10, x11, x12, rfl⟩ R2 hR2
        obtain ⟨hj, rfl⟩ := rg0_get hx
        have tb : (turnI w s i).natAbs ≤ 100 := by unfold turnI; split <;> omega
        have md : ((j : Int) % w).natAbs < 2 ^ 63 := by
          have a := (modI (i := (j : Int)) (n := (w : Int)) (by omega)).1
          have b := (modI (i := (j : Int)) (n := (w : Int)) (by omega)).2
          omega
        have pb : ((((i : Int) / w + (j : Int) / w) % k)).natAbs < 2 ^ 63 := by
          have a := (modI (i := ((i : Int) / w + (j : Int) / w)) (n := (k : Int)) (by omega)).1
          have b := (modI (i := ((i : Int) / w + (j : Int) / w)) (n := (k : Int)) (by omega)).2
          omega
        -- behind more
        have cont2 : ∀ v : Int, v = moreI w x i j → (sSeq (sPar (oCons (mOp fMod (mCB fInt (aCons (mOp fAdd (mOp fAdd (mOp fMod (mVar 6) (mVar 1)) (mOp fMul (mVar 8) (mOp fMod (mVar 7) (mVar 1)))) (mVar 10)) aNil)) (mVar 1)) (oCons (mOp fMod (mCB fInt (aCons (mOp fAdd (mOp fDiv (mVar 6) (mVar 1)) (mOp fDiv (mVar 7) (mVar 1))) aNil)) (mVar 2)) oNil)) 11 12)
            (sApp 9 (mOp fAdd (mVar 11) (mOp fMul (mVar 1) (mVar 12))))) [.v (.d (.tuple [.int w, .int k, .int s, .int x])), .v (SVi w), .v (SVi k), .v (SVi s), .v (SVi x), .own (.lst (leafs (tabI w k s x i))), .v (.d (natD i)), .v (.d (natD j)), .v (SVi (turnI w s i)), .own (.lst (leafs (rowI w k s x i j))), .v (SVi v), x11, x12] (fun _ => False) { nx := R2, ct := R2, bk := fun e => sSeq (sApp 5 (mVar 9)) sNext e (fun _ => False) P', rt := P'.rt } := by
          intro v ev
          refine ⟨_, rfl, _, rfl, (by show (0 : Int) < w; omega), _, rfl, _, rfl, _, rfl, _, rfl, (by show (0 : Int) < w; omega), _, rfl, mul_small (by omega) md, _, rfl, _, rfl, _, rfl, _, rfl, _, rfl, _, rfl, (by show (0 : Int) < w; omega), ?_⟩
          refine ⟨_, rfl, _, rfl, cd, _, rfl, _, rfl, _, rfl, cd, _, rfl, _, rfl, _, rfl, _, rfl, (by show (0 : Int) < k; omega), _, _, rfl, by decide, ?_⟩
          refine ⟨_, rfl, _, rfl, _, rfl, _, rfl, mul_small (by omega) pb, _, rfl, rfl, ?_, _, rfl, hR2 _ ⟨.v (.d (natD j)), .v (SVi v), .v (SVi (((i : Int) % w + turnI w s i * ((j : Int) % w) + v) % w)), .v (SVi (((i : Int) / w + (j : Int) / w) % k)), ?_⟩⟩
          · unfold leafs rowI; rw [List.length_map, List.length_map, List.length_range]; show j < 1000000; omega
          · show [_, _, _, _, _, _, _, _, _, _, _, _, _] = [_, _, _, _, _, _, _, _, _, _, _, _, _]
            rw [leafs_snoc]
            have : rowI w k s x i (j + 1) = rowI w k s x i j ++ [.int (cellI w k s x i j)] := by unfold rowI; rw [List.range_succ, List.map_append]; rfl
            rw [this, ev]
            rfl
        refine ⟨_, rfl, _, rfl, _, rfl, ?_⟩
        refine ifE (fun c => ?_) (fun c => ?_)
        · refine ⟨_, rfl, _, rfl, _, rfl, ?_⟩
          refine ifE (fun c2 => ?_) (fun c2 => ?_)
          · exact cont2 x (by unfold moreI; rw [if_pos c, if_pos c2])
          · exact cont2 0 (by unfold moreI; rw [if_pos c, if_neg (ne_t c2)])
        · exact ifF rfl (cont2 0 (by unfold moreI; rw [if_neg (ne_t c)]))
    refine ⟨_, rfl, _, rfl, _, rfl, ?_⟩
    refine ifE (fun c => ?_) (fun c => ?_)
    · have et : turnI w s i = s := by unfold turnI; rw [if_pos c]
      have q := cont R hR
      rw [et] at q
      exact ⟨[], rfl, (by show 0 ≤ 1000000; decide), _, _, rfl, by decide, q _ rfl⟩
    · have et : turnI w s i = 1 := by unfold turnI; rw [if_neg (ne_t c)]
      have q := cont R hR
      rw [et] at q
      exact ⟨[], rfl, (by show 0 ≤ 1000000; decide), _, _, rfl, by decide, q _ rfl⟩
structure Grp (n : Nat) (T : List (List Nat)) : Prop where
  sq : Sq n T
  nd : ∀ r ∈ T, r.Nodup
  z : ∀ i, i < n → ent T i 0 = i
  o : ∀ i, i < n → ent T 0 i = i
  asc : ∀ i j k, i < n → j < n → k < n → ent T (ent T i j) k = ent T i (ent T j k)
def grpB (n : Nat) (T : List (List Nat)) : Bool :=
  decide (T.length = n) && (T.all (fun r => decide (r.length = n) && (r.all (fun k => decide (k < n)) && decide r.Nodup)) && ((List.range n).all (fun i => decide (ent T i 0 = i) && decide (ent T 0 i = i)) &&
    (List.range n).all fun i => (List.range n).all fun j => (List.range n).all fun k => decide (ent T (ent T i j) k = ent T i (ent T j k))))
theorem grp_of {n : Nat} {T : List (List Nat)} (h : grpB n T = true) : Grp n T := by
  unfold grpB at h
  rw [Bool.and_eq_true, Bool.and_eq_true, Bool.and_eq_true] at h
  obtain ⟨h1, h2, h3, h4⟩ := h
  have r := fun x (hx : x ∈ T) => by
    have := List.all_eq_true.mp h2 x hx
    rw [Bool.and_eq_true, Bool.and_eq_true] at this
    exact this
  refine ⟨⟨of_decide_eq_true h1, fun x hx => ⟨of_decide_eq_true (r x hx).1, fun k hk => of_decide_eq_true (List.all_eq_true.mp (r x hx).2.1 k hk)⟩⟩, fun x hx => of_decide_eq_true (r x hx).2.2, fun i hi => ?_, fun i hi => ?_, fun i j k hi hj hk => ?_⟩
  · have := List.all_eq_true.mp h3 i (List.mem_range.mpr hi)
    rw [Bool.and_eq_true] at this
    exact of_decide_eq_true this.1
  · have := List.all_eq_true.mp h3 i (List.mem_range.mpr hi)
    rw [Bool.and_eq_true] at this
    exact of_decide_eq_true this.2
  · exact of_decide_eq_true (List.all_eq_true.mp (List.all_eq_true.mp (List.all_eq_true.mp h4 i (List.mem_range.mpr hi)) j (List.mem_range.mpr hj)) k (List.mem_range.mpr hk))
theorem nodup_inj {r : List Nat} (h : ∀ i j, i < r.length → j < r.length → r.getD i 0 = r.getD j 0 → i = j) : r.Nodup := by
  refine List.pairwise_iff_getElem.mpr fun i j hi hj hij e => ?_
  have := h i j hi hj (by rw [getD_some (List.getElem?_eq_getElem hi), getD_some (List.getElem?_eq_getElem hj), e])
  omega
theorem inj_nodup {r : List Nat} (nd : r.Nodup) {i j : Nat} (hi : i < r.length) (hj : j < r.length) (e : r.getD i 0 = r.getD j 0) : i = j := by
  rw [getD_some (List.getElem?_eq_getElem hi), getD_some (List.getElem?_eq_getElem hj)] at e
  have q := List.pairwise_iff_getElem.mp nd
  rcases Nat.lt_trichotomy i j with z | z | z
  · exact absurd e (q i j hi hj z)
  · exact z
  · exact absurd e.symm (q j i hj hi z)
theorem Pm.surj {n : Nat} {p : List Nat} (h : Pm n p) {a : Nat} (ha : a < n) : ∃ i, i < n ∧ p.getD i 0 = a := by
  obtain ⟨i, hi, e⟩ := List.getElem_of_mem (h.perm.mem_iff.mpr (List.mem_range.mpr ha))
  refine ⟨i, by have := h.perm.length_eq; rw [List.length_range] at this; omega, ?_⟩
  rw [getD_some (List.getElem?_eq_getElem hi), e]
theorem verd_grp {n : Nat} {T M : List (List Nat)} {p : List Nat} (n0 : 1 ≤ n) (n1 : n ≤ 200) (g : Grp n T) (hp : Pm n p) (p0 : p.getD 0 0 = 0) (sM : Sq n M) (hM : ∀ i j, i < n → j < n → ent M (p.getD i 0) (p.getD j 0) = p.getD (ent T i j) 0) : verd (tabD M) = none := by
  have rl : (M.map rowD).length = n := by rw [List.length_map, sM.len]
  have rg : ∀ {a}, a < n → (M.map rowD).getD a .none = rowD (M.getD a []) := fun {a} ha => getD_some (by rw [List.getElem?_map, (sM.get ha).1]; rfl)
  have te : tabOf (M.map rowD) = M := by
    unfold tabOf
    rw [List.map_map]
    have : (rowOf ∘ rowD) = id := by funext r; exact rowOf_rowD r
    rw [this, List.map_id]
  have e0 : ∀ {a}, a < n → ent M a 0 = a := fun {a} ha => by
    obtain ⟨i, hi, rfl⟩ := hp.surj ha
    have := hM i 0 hi n0
    rw [p0, g.z i hi] at this
    exact this
  have eo : ∀ {a}, a < n → ent M 0 a = a := fun {a} ha => by
    obtain ⟨i, hi, rfl⟩ := hp.surj ha
    have := hM 0 i n0 hi
    rw [p0, g.o i hi] at this
    exact this
  refine verd_ok (by rw [rl]; exact n0) (by rw [rl]; exact n1) (fun a ha => ?_) (fun a ha => ?_)
  · rw [rl] at ha ⊢
    rw [rg ha]
    obtain ⟨t1, t2, t3⟩ := sM.get ha
    refine ⟨_, rfl, t2, t3, nodup_inj fun x y hx hy e => ?_, ?_, fun z => ?_⟩
    · rw [t2] at hx hy
      obtain ⟨i, hi, ea⟩ := hp.surj ha
      obtain ⟨j, hj, ex⟩ := hp.surj hx
      obtain ⟨j', hj', ey⟩ := hp.surj hy
      have q : ent M (p.getD i 0) (p.getD j 0) = ent M (p.getD i 0) (p.getD j' 0) := by rw [ea, ex, ey]; exact e
      rw [hM i j hi hj, hM i j' hi hj'] at q
      have q2 := hp.inj (g.sq.lt hi hj) (g.sq.lt hi hj') q
      obtain ⟨u1, u2, _⟩ := g.sq.get hi
      have q3 := inj_nodup (g.nd _ (List.mem_of_getElem? u1)) (by rw [u2]; exact hj) (by rw [u2]; exact hj') q2
      rw [← ex, ← ey, q3]
    · rw [some_getD (b := 0) (by rw [t2]; exact n0)]
      exact congrArg some (e0 ha)
    · subst z
      refine List.ext_getElem? fun j => ?_
      by_cases hj : j < n
      · rw [some_getD (b := 0) (by rw [t2]; exact hj), List.getElem?_range hj]
        exact congrArg some (eo hj)
      · rw [List.getElem?_eq_none (by rw [t2]; omega), List.getElem?_eq_none (by rw [List.length_range]; omega)]
  · rw [rl] at ha
    rw [rl, rg ha, te, rowOf_rowD]
    intro j k hj hk
    obtain ⟨i, hi, rfl⟩ := hp.surj ha
    obtain ⟨j0, hj0, rfl⟩ := hp.surj hj
    obtain ⟨k0, hk0, rfl⟩ := hp.surj hk
    show ent M (p.getD i 0) (ent M (p.getD j0 0) (p.getD k0 0)) = ent M (ent M (p.getD i 0) (p.getD j0 0)) (p.getD k0 0)
    rw [hM j0 k0 hj0 hk0, hM i _ hi (g.sq.lt hj0 hk0), hM i j0 hi hj0, hM _ k0 (g.sq.lt hi hj0) hk0, g.asc i j0 k0 hi hj0 hk0]
theorem names_pm {m : Nat} {p : List Nat} (h : p.Perm (List.range m)) : Pm (m + 1) (0 :: p.map (· + 1)) := by
  refine ⟨?_⟩
  rw [List.range_succ_eq_map]
  exact (h.map _).cons 0
def natT (w k : Nat) (s x : Int) : List (List Nat) := (List.range (w * k)).map fun i => (List.range (w * k)).map fun j => (cellI w k s x i j).toNat
def K12 : List (Nat × Nat × Int × Int) := [(1, 1, 1, 0), (2, 1, 1, 0), (3, 1, 1, 0), (2, 2, 1, 0), (4, 1, 1, 0), (5, 1, 1, 0), (3, 2, -1, 0), (6, 1, 1, 0), (3, 2, -1, 0), (7, 1, 1, 0), (4, 2, -1, 0), (4, 2, -1, 2)]
def kindD (q : Nat × Nat × Int × Int) : PyData := .tuple [.int q.1, .int q.2.1, .int q.2.2.1, .int q.2.2.2]
def okB (q : Nat × Nat × Int × Int) : Bool := decide (1 ≤ q.1) && (decide (q.1 ≤ 100) && (decide (1 ≤ q.2.1) && (decide (q.2.1 ≤ 10) && (decide (q.2.2.1.natAbs ≤ 100) && (decide (q.1 * q.2.1 ≤ 8) && (grpB (q.1 * q.2.1) (natT q.1 q.2.1 q.2.2.1 q.2.2.2) &&
  (List.range (q.1 * q.2.1)).all fun i => (List.range (q.1 * q.2.1)).all fun j => decide (0 ≤ cellI q.1 q.2.1 q.2.2.1 q.2.2.2 i j)))))))
theorem K12_ok : K12.all okB = true := by decide +kernel
theorem natT_lst {w k : Nat} {s x : Int} (h : ∀ i j, i < w * k → j < w * k → 0 ≤ cellI w k s x i j) : lstD (natT w k s x) = .list (tabI w k s x (w * k)) := by
  show PyData.list ((natT w k s x).map rowL) = _
  unfold natT tabI
  rw [List.map_map]
  congr 1
  refine List.map_congr_left fun i hi => ?_
  show PyData.list (((List.range (w * k)).map fun j => (cellI w k s x i j).toNat).map natD) = .list (rowI w k s x i (w * k))
  unfold rowI
  rw [List.map_map]
  congr 1
  refine List.map_congr_left fun j hj => ?_
  show PyData.int (((cellI w k s x i j).toNat : Nat) : Int) = _
  rw [Int.toNat_of_nonneg (h i j (List.mem_range.mp hi) (List.mem_range.mp hj))]
/-- a drawn table -/
def Drawn (d : PyData) : Prop := ∃ (n : Nat) (M : List (List Nat)), d = tabD M ∧ 1 ≤ n ∧ n ≤ 8 ∧ Sq n M ∧ verd d = none
theorem tup4 {a b c d : Int} {env : DL.Env} {E : XP} {Q : SD → DL.Env → Prop} (h : Q (.v (.d (.tuple [.int a, .int b, .int c, .int d]))) env) : mTup (aCons (mC (SVi a)) (aCons (mC (SVi b)) (aCons (mC (SVi c)) (aCons (mC (SVi d)) aNil)))) env E Q :=
  ⟨_, rfl, _, rfl, _, rfl, _, rfl, _, rfl, (by show 4 ≤ 1000000; decide), h⟩
theorem tup4m {a b c c' d : Int} {env : DL.Env} {E : XP} {Q : SD → DL.Env → Prop} (h : Q (.v (.d (.tuple [.int a, .int b, .int (c - c'), .int d]))) env) : mTup (aCons (mC (SVi a)) (aCons (mC (SVi b)) (aCons (mOp fSub (mC (SVi c)) (mC (SVi c'))) (aCons (mC (SVi d)) aNil)))) env E Q :=
  ⟨_, rfl, _, rfl, _, rfl, _, rfl, _, rfl, _, rfl, _, rfl, (by show 4 ≤ 1000000; decide), h⟩
theorem drawn_of {b : Box} {E : XP} {Q : SV → Prop} (h : ∀ d, Drawn d → Q (.d d)) : s__law_drawn b [.r (.ref b.h)] E Q := by
  delta s__law_drawn m__law_drawn b__law_drawn sSeq sSet mLst oCons
  iterate 6 refine tup4 ?_
  refine tup4m ?_
  refine tup4 ?_
  refine ⟨_, rfl, (by show 8 ≤ 1000000; decide), ?_⟩
  refine ⟨_, rfl, _, rfl, _, rfl, ?_⟩
  refine tup4m ?_
  refine tup4 ?_
  refine tup4m ?_
  refine tup4m ?_
  refine ⟨_, rfl, (by show 4 ≤ 1000000; decide), _, rfl, (by show 8 + 4 ≤ 1000000; decide), _, frz_lst _, rfl, ?_⟩
  show s__law_pick b [.r (.ref b.h), .d (.list (K12.map kindD))] _ _
  refine pick_of (by decide) (by decide) fun d hd => ?_
  obtain ⟨q, hq, rfl⟩ := List.mem_map.mp hd
  have ok := List.all_eq_true.mp K12_ok q hq
  obtain ⟨w, k, s, x⟩ := q
  unfold okB at ok
  simp only [Bool.and_eq_true, decide_eq_true_eq] at ok
  obtain ⟨w0, w1, k0, k1, s0, n8, gr, nn⟩ := ok
  have nn' : ∀ i j, i < w * k → j < w * k → 0 ≤ cellI w k s x i j := fun i j hi hj => of_decide_eq_true (List.all_eq_true.mp (List.all_eq_true.mp nn i (List.mem_range.mpr hi)) j (List.mem_range.mpr hj))
  have g := grp_of gr
  have n0 : 1 ≤ w * k := Nat.mul_pos w0 k0
  refine ⟨_, rfl, rfl, table_of w0 w1 k0 k1 s0 ?_⟩
  rw [← natT_lst nn']
  refine ⟨_, rfl, [.leaf (SVi 0)], rfl, (by show 1 ≤ 1000000; decide), _, rfl, ?_⟩
  refine ⟨_, rfl, _, rfl, _, rfl, .int w, rfl, _, rfl, _, rfl, _, rfl, .int k, rfl, _, rfl, mul_small (by omega) (by omega), _, rfl, _, rfl, _, rfl, rfl, ?_⟩
  have en : (w : Int) * (k : Int) - 1 = ((w * k - 1 : Nat) : Int) := by
    have : (w : Int) * (k : Int) = ((w * k : Nat) : Int) := by omega
    omega
  show s__law_order b [.r (.ref b.h), SVi ((w : Int) * (k : Int) - 1)] _ _
  rw [en]
  refine lorder_of (by omega) fun p hp => ?_
  have pl := hp.length_eq
  rw [List.length_range] at pl
  refine ⟨_, _, rfl, rfl, by rw [List.length_map, List.length_map, pl]; show _ ≤ 1000000; omega, rfl, ?_⟩
  refine lcL_of (gNats (· + 1)) _ _ (fun y hy acc R q => ?_) ?_
  · obtain ⟨d', hd', rfl⟩ := List.mem_map.mp hy
    obtain ⟨a, ha, rfl⟩ := List.mem_map.mp hd'
    exact ⟨rfl, _, rfl, _, rfl, rfl, _, rfl, q⟩
  rw [List.nil_append, flat_nats]
  have hpm := names_pm hp
  have e1 : w * k - 1 + 1 = w * k := by omega
  rw [e1] at hpm
  refine ⟨_, frz_lst _, by show 1 + ((p.map (· + 1)).map natD).length ≤ 1000000; rw [List.length_map, List.length_map, pl]; omega, _, frz_lst _, rfl, ?_⟩
  show s__law_renamed [.d (lstD (natT w k s x)), .d (.list ((0 :: p.map (· + 1)).map natD))] _ _
  refine renamed_of (by omega) g.sq hpm fun M sM hM => ⟨_, rfl, h _ ⟨w * k, M, rfl, n0, n8, sM, verd_grp n0 (by omega) g hpm rfl sM hM⟩⟩
/-- any table that is taken is one of rows of numbers -/
theorem verd_sq {d : PyData} (h : verd d = none) : ∃ (n : Nat) (M : List (List Nat)), d = tabD M ∧ 1 ≤ n ∧ n ≤ 200 ∧ Sq n M := by
  cases d with
  | tuple rows =>
    have hl : ¬ (rows.length = 0 ∨ 200 < rows.length) := fun z => by rw [verd_len z] at h; cases h
    have all : ∀ j, j < rows.length → RowOk rows.length j (rows.getD j .none) := by
      intro j
      induction j using Nat.strongRecOn with
      | _ j ih =>
        intro hj
        refine Classical.byContradiction fun bad => ?_
        rw [verd_row (by omega) (by omega) hj (fun i hi => ih i hi (by omega)) bad] at h
        cases h
    obtain ⟨sq, et⟩ := rows_sq all
    exact ⟨rows.length, tabOf rows, et, by omega, by omega, sq⟩
  | _ => cases h
theorem osd_leaf {d : PyData} {os : List O} {ds : List PyData} (h : Os.dat os = some ds) : Os.dat (.leaf (.d d) :: os) = some (d :: ds) := by
  show (match O.dat (.leaf (.d d)), Os.dat os with | some d, some ds => some (d :: ds) | _, _ => none) = _
  rw [h]; rfl
theorem osd_lst {xs : List PyData} {os : List O} {ds : List PyData} (h : Os.dat os = some ds) : Os.dat (.lst (leafs xs) :: os) = some (.list xs :: ds) := by
  show (match O.dat (.lst (leafs xs)), Os.dat os with | some d, some ds => some (d :: ds) | _, _ => none) = _
  rw [h, dat_lst]
theorem dat_own {os : List O} {ds : List PyData} (h : Os.dat os = some ds) : O.dat (.lst os) = some (.list ds) := by
  show (Os.dat os).map PyData.list = _
  rw [h]; rfl
theorem frz_own {os : List O} {ds : List PyData} (h : Os.dat os = some ds) : SD.frz (.own (.lst os)) = some (.d (.list ds)) := by
  show (O.dat (.lst os)).map SV.d = _
  rw [dat_own h]; rfl
theorem spoilt_of {b : Box} {n : Nat} {M : List (List Nat)} {E : XP} {Q : SV → Prop} (n0 : 1 ≤ n) (n1 : n ≤ 200) (s : Sq n M) (h : ∀ d, Q (.d d)) : s__law_spoilt b [.r (.ref b.h), .d (tabD M)] E Q := by
  have tl : (M.map rowD).length = n := by rw [List.length_map, s.len]
  refine ⟨_, rfl, _, rfl, rfl, ?_⟩
  show s__law_draw b [.r (.ref b.h), SVi ((7 : Nat) : Int)] _ _
  refine draw_of (by decide) (by decide) fun kd hkd => ?_
  refine ⟨_, rfl, _, _, rfl, by decide, ?_⟩
  rw [tl]
  refine ⟨_, rfl, _, rfl, rfl, draw_of (n := n) (by omega) (by omega) fun a ha => ?_⟩
  refine ⟨_, rfl, _, rfl, rfl, draw_of (n := n) (by omega) (by omega) fun c hc => ?_⟩
  refine ⟨_, rfl, _, rfl, rfl, draw_of (n := n) (by omega) (by omega) fun o ho => ?_⟩
  refine ⟨_, _, _, rfl, by decide, by decide, by decide, ?_⟩
  obtain ⟨t1, t2, t3⟩ := s.get ha
  generalize er : M.getD a [] = r at t1 t2 t3
  have ra : ∀ {k}, k < n → (M.map rowD)[k]? = some (rowD (M.getD k [])) := fun {k} hk => by rw [List.getElem?_map, (s.get hk).1]; rfl
  have re : ∀ {k}, k < n → (r.map natD)[k]? = some (natD (r.getD k 0)) := fun {k} hk => by rw [List.getElem?_map, some_getD (b := 0) (by rw [t2]; exact hk)]; rfl
  have rr : (r.map natD).length = n := by rw [List.length_map, t2]
  refine ⟨_, rfl, _, rfl, rowD r, atN (by rw [ra ha, er]), ?_⟩
  have cl : ∀ {α : Type} (ds : List α) lo hi, (cutD ds lo hi).length ≤ ds.length := fun ds lo hi => by
    unfold cutD
    rw [List.length_take, List.length_drop]
    omega
  -- 0: another thing in a row
  refine ⟨_, rfl, _, rfl, shaped_int _, shaped_int _, _, rfl, ?_⟩
  refine ifE (fun _ => ?_) (fun _ => ?_)
  · refine ⟨_, rfl, _, rfl, _, rfl, _, rfl, shaped_int _, shaped_int _, _, rfl, by have := log2_lt63 (i := (o : Int)) (by omega); omega, _, rfl, [natD o], rfl, (by show 1 ≤ 1000000; decide), [.leaf (.d (natD o))], rfl, (by show 1 ≤ 1000000; decide), _, rfl, _, rfl, ⟨by decide, by decide, by decide⟩, _, rfl, (by show 10 ≤ 1000000; decide), ?_⟩
    refine ⟨_, rfl, _, rfl, _, rfl, _, rfl, _, rfl, _, rfl, _, rfl, rfl, pick_of (by intro z; cases z) (by show 10 ≤ 1000; decide) fun d hd => ?_⟩
    exact ⟨_, rfl, rfl, put_of (by rw [rr]; omega) fun es _ => ⟨_, rfl, rfl, put_of (by rw [tl]; omega) fun es' _ => ⟨_, rfl, h _⟩⟩⟩
  -- 1: two shares
  refine ⟨_, rfl, _, rfl, shaped_int _, shaped_int _, _, rfl, ?_⟩
  refine ifE (fun _ => ?_) (fun _ => ?_)
  · refine ⟨_, rfl, _, rfl, _, rfl, _, rfl, _, rfl, _, rfl, natD (r.getD o 0), atN (re ho), _, rfl, rfl, put_of (by rw [rr]; omega) fun es he => ?_⟩
    refine ⟨_, rfl, _, rfl, _, rfl, _, rfl, natD (r.getD c 0), atN (re hc), _, rfl, rfl, put_of (by rw [rr] at he; omega) fun es' _ => ?_⟩
    exact ⟨_, rfl, rfl, put_of (by rw [tl]; omega) fun es' _ => ⟨_, rfl, h _⟩⟩
  -- 2: two rows
  refine ⟨_, rfl, _, rfl, shaped_int _, shaped_int _, _, rfl, ?_⟩
  refine ifE (fun _ => ?_) (fun _ => ?_)
  · refine ⟨_, rfl, _, rfl, _, rfl, _, rfl, rowD (M.getD o []), atN (ra ho), _, rfl, rfl, put_of (by rw [tl]; omega) fun es he => ?_⟩
    exact ⟨_, rfl, _, rfl, _, rfl, rfl, put_of (by rw [tl] at he; omega) fun es' _ => ⟨_, rfl, h _⟩⟩
  -- 3: a row of another kind
  refine ⟨_, rfl, _, rfl, shaped_int _, shaped_int _, _, rfl, ?_⟩
  refine ifE (fun _ => ?_) (fun _ => ?_)
  · have c1 := cl (r.map natD) none (some (c : Int))
    have c2 := cl (r.map natD) (some ((c : Int) + 1)) none
    refine ⟨_, rfl, _, rfl, _, rfl, ?_⟩
    refine ⟨_, rfl, _, rfl, _, rfl, _, rfl, _, rfl, _, rfl, _, rfl, _, rfl, by show (cutD (r.map natD) none (some (c : Int))).length + (cutD (r.map natD) (some ((c : Int) + 1)) none).length ≤ 1000000; omega, ?_⟩
    refine ⟨_, rfl, _, rfl, [natD o], rfl, (by show 1 ≤ 1000000; decide), _, rfl, by show (r.map natD).length + 1 ≤ 1000000; omega, ?_⟩
    refine ⟨_, rfl, _, rfl, [], rfl, (by show 0 ≤ 1000000; decide), _, rfl, (by show 6 ≤ 1000000; decide), _, frz_own (osd_leaf (osd_leaf (osd_lst (osd_leaf (osd_leaf (osd_leaf rfl)))))), rfl, ?_⟩
    refine pick_of (by intro z; cases z) (by show 6 ≤ 1000; decide) fun d hd => ?_
    exact ⟨_, rfl, rfl, put_of (by rw [tl]; omega) fun es' _ => ⟨_, rfl, h _⟩⟩
  -- 4: more rows or fewer
  refine ⟨_, rfl, _, rfl, shaped_int _, shaped_int _, _, rfl, ?_⟩
  refine ifE (fun _ => ?_) (fun _ => ?_)
  · have c1 := cl (M.map rowD) none (some (a : Int))
    have c2 := cl (M.map rowD) (some ((a : Int) + 1)) none
    have c3 := cl (M.map rowD) (some (a : Int)) none
    refine ⟨_, rfl, ?_⟩
    refine ⟨_, rfl, _, rfl, _, rfl, _, rfl, _, rfl, _, rfl, _, rfl, _, rfl, by show (cutD (M.map rowD) none (some (a : Int))).length + (cutD (M.map rowD) (some ((a : Int) + 1)) none).length ≤ 1000000; omega, ?_⟩
    refine ⟨_, rfl, _, rfl, [rowD r], rfl, (by show 1 ≤ 1000000; decide), _, rfl, by show (M.map rowD).length + 1 ≤ 1000000; omega, ?_⟩
    refine ⟨_, rfl, _, rfl, _, rfl, _, rfl, [rowD r], rfl, (by show 1 ≤ 1000000; decide), _, rfl, by show (cutD (M.map rowD) none (some (a : Int))).length + 1 ≤ 1000000; omega, _, rfl, _, rfl, _, rfl, _, rfl, ?_⟩
    refine ⟨by show ((cutD (M.map rowD) none (some (a : Int))) ++ [rowD r]).length + (cutD (M.map rowD) (some (a : Int)) none).length ≤ 1000000; rw [List.length_append, List.length_singleton]; omega, _, rfl, (by show 3 ≤ 1000000; decide), _, frz_own (osd_leaf (osd_leaf (osd_leaf rfl))), rfl, ?_⟩
    exact pick_of (by intro z; cases z) (by show 3 ≤ 1000; decide) fun d hd => ⟨_, rfl, h _⟩
  -- 5, 6: rows that begin as they must
  refine ⟨_, rfl, by omega, by show (n : Int) ≤ 1000000; omega, _, rfl, (by show 1 ≤ 1000000; decide), ?_⟩
  refine ⟨_, rfl, _, rfl, _, _, rfl, ⟨by decide, by decide, by omega, by omega⟩, ?_⟩
  refine loopE_ix (fun i e => ∃ (rows : List PyData) (x10 x11 x12 : SD), rows.length = i + 1 ∧ x12.plain = true ∧ e = [.v (.r (.ref b.h)), .v (.d (tabD M)), .v (.d (natD kd)), .v (SVi n), .v (.d (natD a)), .v (.d (natD c)), .v (.d (natD o)), .v (.d (rowD r)), .un, .own (.lst (leafs rows)), x10, x11, x12]) ⟨[_], .un, .un, .un, rfl, rfl, rfl⟩ ?_ ?_
  · rintro e ⟨rows, x10, x11, x12, hl, hp, rfl⟩
    rw [rgD_len] at hl
    refine ⟨_, rfl, _, rfl, shaped_int _, shaped_int _, _, rfl, ?_⟩
    refine ifE (fun _ => ?_) (fun _ => ?_)
    · exact ⟨_, dat_lst _, _, rfl, _, rfl, _, rfl, h _⟩
    · have ll : rows.length = n := by omega
      have e1 := some_getD (b := PyData.none) (show a < rows.length by omega)
      refine ⟨_, rfl, _, rfl, (a : Int), .d (rows.getD a .none), rfl, rfl, atN (by unfold leafs; rw [List.getElem?_map, e1]; rfl), _, rfl, rfl, put_of (by rw [tl]; omega) fun es' _ => ⟨_, rfl, h _⟩⟩
  · rintro i x e hx ⟨rows, x10, x11, x12, hl, hp, rfl⟩ R hR
    obtain ⟨hi, hx'⟩ := rgD_get hx
    have one : (1 : Int) + (i : Int) = ((i + 1 : Nat) : Int) := by omega
    rw [one] at hx'
    subst hx'
    have hi' : i + 1 < n := by omega
    refine ⟨_, rfl, _, rfl, by omega, by omega, by rw [rgD_len]; show (n : Int).toNat ≤ 1000000; omega, by show (x12.plain && true) = true; rw [hp]; rfl, ?_⟩
    have er2 : rgD 0 (n : Int).toNat = ((List.range n).map natD).map SV.d := by
      rw [Int.toNat_natCast]
      unfold rgD
      rw [List.map_map]
      refine List.map_congr_left fun k _ => ?_
      show SVi (0 + (k : Int)) = .d (natD k)
      rw [Int.zero_add]; rfl
    rw [er2]
    refine lcL_of (gInts fun z => if (!decide (z = ((i + 1 : Nat) : Int))) = true then [z] else []) _ _ (fun y hy acc R' q => ?_) ?_
    · obtain ⟨d', hd', rfl⟩ := List.mem_map.mp hy
      obtain ⟨k, hk, rfl⟩ := List.mem_map.mp hd'
      refine ⟨_, rfl, _, rfl, shaped_int _, shaped_int _, _, rfl, rfl, ?_⟩
      show (if (!PyData.eqv (.int (k : Int)) (.int ((i + 1 : Nat) : Int))) = true then _ else _)
      rw [eqv_int]
      have q' : R' (acc ++ leafs ((if (!decide ((k : Int) = ((i + 1 : Nat) : Int))) = true then [(k : Int)] else []).map PyData.int)) := q
      refine ifE (fun g => ?_) (fun g => ?_)
      · rw [if_pos g] at q'
        exact ⟨rfl, _, rfl, q'⟩
      · rw [if_neg (ne_t g)] at q'
        have e0 : acc ++ leafs (([] : List Int).map PyData.int) = acc := by simp [leafs]
        rw [e0] at q'
        exact q'
    rw [List.nil_append, nats_ints, flat_ints, flat_if]
    generalize el : (((List.range n).map fun k : Nat => (k : Int)).filter fun z => !decide (z = ((i + 1 : Nat) : Int))) = left
    have hleft : left.length = n - 1 := by
      rw [← el, List.filter_map, List.length_map]
      have e2 : ((fun z => !decide (z = ((i + 1 : Nat) : Int))) ∘ fun k : Nat => (k : Int)) = fun k : Nat => k != (i + 1) := by
        funext k
        show (!decide ((k : Int) = ((i + 1 : Nat) : Int))) = !(k == (i + 1))
        congr 1
        by_cases g : k = i + 1
        · subst g; simp
        · rw [decide_eq_false (by omega)]
          exact (beq_eq_false_iff_ne.mpr g).symm
      rw [e2, ← List.nodup_range.erase_eq_filter, List.length_erase_of_mem (List.mem_range.mpr hi'), List.length_range]
    refine ⟨_, rfl, _, rfl, [natD (i + 1)], rfl, (by show 1 ≤ 1000000; decide), _, rfl, ?_⟩
    refine ⟨_, rfl, _, rfl, _, rfl, _, rfl, rfl, ?_⟩
    show s__law_order b [.r (.ref b.h), SVi ((n : Int) - 1)] _ _
    rw [show (n : Int) - 1 = ((n - 1 : Nat) : Int) by omega]
    refine lorder_of (by omega) fun p hp' => ?_
    have pl := hp'.length_eq
    rw [List.length_range] at pl
    refine ⟨_, _, rfl, rfl, by rw [List.length_map, List.length_map, pl]; show n - 1 ≤ 1000000; omega, by show (x12.plain && true) = true; rw [hp]; rfl, ?_⟩
    refine lcL_of (gInts fun z => [left.getD z.toNat 0]) _ _ (fun y hy acc R' q => ?_) ?_
    · obtain ⟨d', hd', rfl⟩ := List.mem_map.mp hy
      obtain ⟨k, hk, rfl⟩ := List.mem_map.mp hd'
      have hkn : k < left.length := by rw [hleft]; exact List.mem_range.mp (hp'.mem_iff.mp hk)
      exact ⟨rfl, ifT rfl ⟨(k : Int), .d (.int (left.getD k 0)), rfl, rfl, atN (by unfold leafs; rw [List.getElem?_map, List.getElem?_map, some_getD (b := 0) hkn]; rfl), rfl, _, rfl, q⟩⟩
    rw [List.nil_append, nats_ints, flat_ints]
    refine ⟨_, frz_lst _, _, rfl, _, rfl, ?_, rfl, ?_, _, rfl, hR _ ⟨rows ++ [.tuple ([natD (i + 1)] ++ (((p.map fun k : Nat => (k : Int)).flatMap fun z => [left.getD z.toNat 0]).map PyData.int))], .v (.d (natD (i + 1))), .own (.lst (leafs (left.map PyData.int))), x12, ?_, hp, ?_⟩⟩
    · rw [List.length_map, flat_one, List.length_map, List.length_map, pl]; show 1 + (n - 1) ≤ 1000000; omega
    · unfold leafs; rw [List.length_map, hl]; show i + 1 < 1000000; omega
    · rw [List.length_append, hl]; rfl
    · rw [← leafs_snoc]; rfl
def gFl (pr : Nat → Bool) : SV → List O
  | .d (.int c) => if pr c.toNat = true then [.leaf (.d (natD c.toNat))] else []
  | _ => []
theorem flat_fl (pr : Nat → Bool) : ∀ ns : List Nat, ((ns.map natD).map SV.d).flatMap (gFl pr) = leafs ((ns.filter pr).map natD)
  | [] => rfl
  | n :: ns => by
    show gFl pr (.d (natD n)) ++ List.flatMap (gFl pr) ((ns.map natD).map SV.d) = _
    rw [flat_fl pr ns]
    show (if pr (n : Int).toNat = true then [O.leaf (.d (natD (n : Int).toNat))] else []) ++ _ = _
    rw [Int.toNat_natCast]
    by_cases h : pr n = true
    · rw [if_pos h, List.filter_cons_of_pos h]; rfl
    · rw [if_neg h, List.filter_cons_of_neg h]; rfl
theorem rg0_list (n : Nat) : rgD 0 n = ((List.range n).map natD).map SV.d := by
  unfold rgD
  rw [List.map_map]
  refine List.map_congr_left fun k _ => ?_
  show SVi (0 + (k : Int)) = .d (natD k)
  rw [Int.zero_add]; rfl
theorem left_len {n a : Nat} (h : a < n) : ((List.range n).filter fun k => !decide (k = a)).length = n - 1 := by
  have e2 : (fun k : Nat => !decide (k = a)) = fun k : Nat => k != a := by
    funext k
    rfl
  rw [e2, ← List.nodup_range.erase_eq_filter, List.length_erase_of_mem (List.mem_range.mpr h), List.length_range]
theorem aCons_i {m : MX} {ms : MA} {env : DL.Env} {E : XP} {Q : List SV → DL.Env → Prop} (h : m env E fun r e => ∃ x, r.frz = some x ∧ ms e E fun xs e' => Q (x :: xs) e') : aCons m ms env E Q := h
theorem tup2 {a b : Int} {env : DL.Env} {E : XP} {Q : SD → DL.Env → Prop} (h : Q (.v (.d (.tuple [.int a, .int b]))) env) : mTup (aCons (mC (SVi a)) (aCons (mC (SVi b)) aNil)) env E Q :=
  ⟨_, rfl, _, rfl, _, rfl, (by show 2 ≤ 1000000; decide), h⟩
def K7 : List (Nat × Nat) := [(2, 2), (2, 3), (3, 2), (4, 2), (4, 2), (2, 4), (1, 4)]
theorem K7_ok : ∀ q ∈ K7, 1 ≤ q.1 ∧ q.1 ≤ 4 ∧ 1 ≤ q.2 ∧ q.2 ≤ 4 := by decide
theorem half_of {b : Box} {E : XP} {Q : SV → Prop} (h : ∀ d, Q (.d d)) : s__law_half b [.r (.ref b.h)] E Q := by
  refine ⟨_, rfl, ?_⟩
  delta mLst oCons
  refine aCons_i ?_
  iterate 7 refine tup2 ?_
  refine ⟨_, rfl, (by show 7 ≤ 1000000; decide), _, rfl, rfl, ?_⟩
  show s__law_pick b [.r (.ref b.h), .d (.list (K7.map fun q => PyData.tuple [.int q.1, .int q.2]))] _ _
  refine pick_of (by decide) (by decide) fun d hd => ?_
  obtain ⟨q, hq, rfl⟩ := List.mem_map.mp hd
  obtain ⟨w0, w1, k0, k1⟩ := K7_ok q hq
  obtain ⟨w, k⟩ := q
  clear hd hq
  have n0 : 1 ≤ w * k := Nat.mul_pos w0 k0
  have n1 : w * k ≤ 16 := Nat.mul_le_mul w1 k1
  refine ⟨_, rfl, _, rfl, rfl, _, _, rfl, _, _, rfl, rfl, ?_⟩
  refine ⟨_, rfl, _, rfl, mul_small (by omega) (by omega), [], rfl, (by show 0 ≤ 1000000; decide), _, _, rfl, by decide, ?_⟩
  generalize en : w * k = n at n0 n1
  have enI : (w : Int) * (k : Int) = (n : Int) := by rw [← en]; rfl
  rw [enI]
  refine ⟨_, rfl, _, rfl, by omega, by omega, ?_⟩
  show loopE _ _ _ _ (rgD 0 (k : Int).toNat) _
  rw [Int.toNat_natCast]
  refine loopE_ix (fun i e => ∃ (T : List (List Nat)) (x5 x6 x7 x8 x9 x10 x11 : SD), T.length = i * w ∧ (∀ r ∈ T, r.length = n ∧ ∀ a ∈ r, a < n) ∧ x9.plain = true ∧ x10.plain = true ∧ x11.plain = true ∧ e = [.v (.r (.ref b.h)), .v (SVi w), .v (SVi k), .v (SVi n), .own (.lst (matO T)), x5, x6, x7, x8, x9, x10, x11]) ⟨[], .un, .un, .un, .un, .un, .un, .un, by rw [Nat.zero_mul]; rfl, (fun r hr => nomatch hr), rfl, rfl, rfl, rfl⟩ ?_ ?_
  · rintro e ⟨T, x5, x6, x7, x8, x9, x10, x11, hl, hT, p9, p10, p11, rfl⟩
    rw [rgD_len] at hl
    have sT : Sq n T := ⟨by rw [hl, Nat.mul_comm, en], hT⟩
    refine ⟨_, matO_frz T, _, rfl, [.leaf (SVi 0)], rfl, (by show 1 ≤ 1000000; decide), _, rfl, ?_⟩
    refine ⟨_, rfl, _, rfl, _, rfl, _, rfl, rfl, ?_⟩
    show s__law_order b [.r (.ref b.h), SVi ((n : Int) - 1)] _ _
    rw [show (n : Int) - 1 = ((n - 1 : Nat) : Int) by omega]
    refine lorder_of (by omega) fun p hp => ?_
    have pl := hp.length_eq
    rw [List.length_range] at pl
    refine ⟨_, _, rfl, rfl, by rw [List.length_map, List.length_map, pl]; show _ ≤ 1000000; omega, by show (x11.plain && true) = true; rw [p11]; rfl, ?_⟩
    refine lcL_of (gNats (· + 1)) _ _ (fun y hy acc R q => ?_) ?_
    · obtain ⟨d', hd', rfl⟩ := List.mem_map.mp hy
      obtain ⟨a, ha, rfl⟩ := List.mem_map.mp hd'
      exact ⟨rfl, _, rfl, _, rfl, rfl, _, rfl, q⟩
    rw [List.nil_append, flat_nats]
    have hpm := names_pm hp
    rw [show n - 1 + 1 = n by omega] at hpm
    refine ⟨_, frz_lst _, by show 1 + ((p.map (· + 1)).map natD).length ≤ 1000000; rw [List.length_map, List.length_map, pl]; omega, _, frz_lst _, rfl, ?_⟩
    show s__law_renamed [.d (lstD T), .d (.list ((0 :: p.map (· + 1)).map natD))] _ _
    exact renamed_of (by omega) sT hpm fun M _ _ => ⟨_, rfl, h _⟩
  · rintro i x e hx ⟨T, x5, x6, x7, x8, x9, x10, x11, hl, hT, p9, p10, p11, rfl⟩ R hR
    obtain ⟨hi, rfl⟩ := rg0_get hx
    have hwi : w * i < n := by rw [← en]; exact Nat.mul_lt_mul_of_pos_left hi w0
    have hwb : (w : Int) * (i : Int) = ((w * i : Nat) : Int) := by rfl
    -- rest
    refine ⟨_, rfl, _, rfl, by omega, by omega, by rw [rgD_len]; show (n : Int).toNat ≤ 1000000; omega, by show (x9.plain && true) = true; rw [p9]; rfl, ?_⟩
    rw [Int.toNat_natCast, rg0_list]
    refine lcL_of (gFl fun z => !decide (z = w * i)) _ _ (fun y hy acc R' q => ?_) ?_
    · obtain ⟨d', hd', rfl⟩ := List.mem_map.mp hy
      obtain ⟨z, hz, rfl⟩ := List.mem_map.mp hd'
      refine ⟨_, rfl, _, rfl, _, rfl, mul_small (by omega) (by omega), _, rfl, shaped_int _, shaped_int _, _, rfl, rfl, ?_⟩
      show (if (!PyData.eqv (natD z) (natD (w * i))) = true then _ else _)
      rw [eqv_natD]
      have q' : R' (acc ++ (if (!decide ((z : Int).toNat = w * i)) = true then [.leaf (.d (natD (z : Int).toNat))] else [])) := q
      rw [Int.toNat_natCast] at q'
      refine ifE (fun g => ?_) (fun g => ?_)
      · rw [if_pos g] at q'
        exact ⟨rfl, _, rfl, q'⟩
      · rw [if_neg (ne_t g), List.append_nil] at q'
        exact q'
    rw [List.nil_append, flat_fl]
    have hleft := left_len hwi
    have lmem : ∀ a ∈ (List.range n).filter fun k => !decide (k = w * i), a < n := fun a ha => List.mem_range.mp (List.mem_filter.mp ha).1
    generalize (List.range n).filter (fun k => !decide (k = w * i)) = left at hleft lmem
    -- start
    refine ⟨_, rfl, _, rfl, mul_small (by omega) (by omega), [.leaf (SVi ((w : Int) * (i : Int)))], rfl, (by show 1 ≤ 1000000; decide), _, rfl, ?_⟩
    refine ⟨_, rfl, _, rfl, _, rfl, _, rfl, rfl, ?_⟩
    show s__law_order b [.r (.ref b.h), SVi ((n : Int) - 1)] _ _
    rw [show (n : Int) - 1 = ((n - 1 : Nat) : Int) by omega]
    refine lorder_of (by omega) fun p hp => ?_
    have pl := hp.length_eq
    rw [List.length_range] at pl
    have plm : ∀ a ∈ p, a < left.length := fun a ha => by rw [hleft]; exact List.mem_range.mp (hp.mem_iff.mp ha)
    refine ⟨_, _, rfl, rfl, by rw [List.length_map, List.length_map, pl]; show _ ≤ 1000000; omega, by show (x10.plain && true) = true; rw [p10]; rfl, ?_⟩
    refine lcL_of (gNats fun a => left.getD a 0) _ _ (fun y hy acc R' q => ?_) ?_
    · obtain ⟨d', hd', rfl⟩ := List.mem_map.mp hy
      obtain ⟨a, ha, rfl⟩ := List.mem_map.mp hd'
      exact ⟨rfl, ifT rfl ⟨(a : Int), .d (natD (left.getD a 0)), rfl, rfl, atN (by unfold leafs; rw [List.getElem?_map, List.getElem?_map, some_getD (b := 0) (plm a ha)]; rfl), rfl, _, rfl, q⟩⟩
    rw [List.nil_append, flat_nats]
    refine ⟨_, frz_lst _, by show 1 + ((p.map fun a => left.getD a 0).map natD).length ≤ 1000000; rw [List.length_map, List.length_map, pl]; omega, ?_⟩
    have st : ∀ st : List Nat, st.length = n → (∀ a ∈ st, a < n) → ∀ x7 : SD, (x7 = .own (.lst (leafs (st.map natD))) ∨ x7 = .v (.d (.list (st.map natD)))) → ∀ P' : Post, P'.nx = R →
        (sFor (miRng1 (aCons (mVar 1) aNil)) (gmName 8) (sApp 4 (mLc (miSeq (mVar 7)) (gmName 11) (fun env _ Q => Q true env) (mOp fAdd (mOp fMod (mCB fInt (aCons (mOp fAdd (mOp fMod (mVar 11) (mVar 1)) (mVar 8)) aNil)) (mVar 1)) (mOp fMul (mVar 1) (mOp fDiv (mVar 11) (mVar 1)))) [11])))
          [.v (.r (.ref b.h)), .v (SVi w), .v (SVi k), .v (SVi n), .own (.lst (matO T)), .v (.d (natD i)), .own (.lst (leafs (left.map natD))), x7, x8, x9, x10, x11] (fun _ => False) P' := by
      intro st hst hlt x7 hx7 P' eP
      refine ⟨_, rfl, _, rfl, by omega, by omega, ?_⟩
      show loopE _ _ _ _ (rgD 0 (w : Int).toNat) _
      rw [Int.toNat_natCast]
      refine loopE_ix (fun j e => ∃ (T' : List (List Nat)) (x7 x8 x11 : SD), T'.length = i * w + j ∧ (∀ r ∈ T', r.length = n ∧ ∀ a ∈ r, a < n) ∧ (x7 = .own (.lst (leafs (st.map natD))) ∨ x7 = .v (.d (.list (st.map natD)))) ∧ x11.plain = true ∧
        e = [.v (.r (.ref b.h)), .v (SVi w), .v (SVi k), .v (SVi n), .own (.lst (matO T')), .v (.d (natD i)), .own (.lst (leafs (left.map natD))), x7, x8, x9, x10, x11]) ⟨T, x7, x8, x11, hl, hT, hx7, p11, rfl⟩ ?_ ?_
      · rintro e ⟨T', x7, x8, x11, hl', hT', _, p11', rfl⟩
        rw [rgD_len] at hl'
        rw [eP]
        exact hR _ ⟨T', _, _, x7, x8, x9, x10, x11, by rw [hl', Nat.succ_mul], hT', p9, p10, p11', rfl⟩
      · rintro j x e hx ⟨T', x7, x8, x11, hl', hT', hx7', p11', rfl⟩ R2 hR2
        obtain ⟨hj, rfl⟩ := rg0_get hx
        have cd : CDivW 0 w := ⟨by omega, by have := log2_lt63 (i := (w : Int)) (by omega); omega⟩
        have one : ∀ (z : Nat), z < n → ∀ (E' : XP) (R' : List O → Prop) (acc : List O) (x7 : SD), R' (acc ++ [.leaf (.d (natD ((z % w + j) % w + w * (z / w))))]) →
            (mOp fAdd (mOp fMod (mCB fInt (aCons (mOp fAdd (mOp fMod (mVar 11) (mVar 1)) (mVar 8)) aNil)) (mVar 1)) (mOp fMul (mVar 1) (mOp fDiv (mVar 11) (mVar 1)))) [.v (.r (.ref b.h)), .v (SVi w), .v (SVi k), .v (SVi n), .own (.lst (matO T')), .v (.d (natD i)), .own (.lst (leafs (left.map natD))), x7, .v (.d (natD j)), x9, x10, .v (.d (natD z))] E'
              (fun r e3 => e3 = [.v (.r (.ref b.h)), .v (SVi w), .v (SVi k), .v (SVi n), .own (.lst (matO T')), .v (.d (natD i)), .own (.lst (leafs (left.map natD))), x7, .v (.d (natD j)), x9, x10, .v (.d (natD z))] ∧ ∃ o, r.tree = some o ∧ R' (acc ++ [o])) := by
          intro z hz E' R' acc x7 q
          have dv : ((z : Int) / (w : Int)).natAbs < 2 ^ 63 := by
            have : (z : Int) / (w : Int) = ((z / w : Nat) : Int) := rfl
            rw [this, Int.natAbs_natCast]
            exact Nat.lt_of_le_of_lt (Nat.div_le_self z w) (by omega)
          refine ⟨_, rfl, _, rfl, (by show (0 : Int) < w; omega), _, rfl, _, rfl, _, rfl, _, rfl, _, rfl, (by show (0 : Int) < w; omega), _, rfl, _, rfl, _, rfl, _, rfl, cd, _, rfl, mul_small (by omega) dv, _, rfl, rfl, _, rfl, ?_⟩
          exact q
        have fb : ∀ z, z < n → (z % w + j) % w + w * (z / w) < n := fun z hz => by
          have a1 : (z % w + j) % w < w := Nat.mod_lt _ w0
          have a2 : z / w < k := Nat.div_lt_of_lt_mul (by rw [en]; exact hz)
          have a3 : w * (z / w) + w ≤ w * k := by
            have := Nat.mul_le_mul_left w (show z / w + 1 ≤ k by omega)
            rw [Nat.mul_succ] at this
            exact this
          omega
        have done : R2 [.v (.r (.ref b.h)), .v (SVi w), .v (SVi k), .v (SVi n), .own (.lst (matO T' ++ [.lst (leafs ((st.map fun z => (z % w + j) % w + w * (z / w)).map natD))])), .v (.d (natD i)), .own (.lst (leafs (left.map natD))), .v (.d (.list (st.map natD))), .v (.d (natD j)), x9, x10, x11] := by
          refine hR2 _ ⟨T' ++ [st.map fun z => (z % w + j) % w + w * (z / w)], .v (.d (.list (st.map natD))), .v (.d (natD j)), x11, by rw [List.length_append, hl']; rfl, fun r hr => ?_, Or.inr rfl, p11', ?_⟩
          · rcases List.mem_append.mp hr with g | g
            · exact hT' r g
            · rw [List.mem_singleton.mp g]
              refine ⟨by rw [List.length_map, hst], fun a ha => ?_⟩
              obtain ⟨z, hz, rfl⟩ := List.mem_map.mp ha
              exact fb z (hlt z hz)
          · have : matO (T' ++ [st.map fun z => (z % w + j) % w + w * (z / w)]) = matO T' ++ [.lst (leafs ((st.map fun z => (z % w + j) % w + w * (z / w)).map natD))] := by unfold matO; rw [List.map_append]; rfl
            rw [this]
        have lt : (matO T').length < 1000000 := by
          unfold matO
          rw [List.length_map, hl']
          have : i * w ≤ 4 * 4 := Nat.mul_le_mul (by omega) w1
          omega
        have sl : ((st.map natD).map SV.d).length ≤ 1000000 := by rw [List.length_map, List.length_map, hst]; omega
        rcases hx7' with rfl | rfl
        · refine ⟨_, rfl, _, dat_lst _, _, _, rfl, rfl, sl, by show (x11.plain && true) = true; rw [p11']; rfl, ?_⟩
          refine lcL_of (gNats fun z => (z % w + j) % w + w * (z / w)) _ _ (fun y hy acc R' q => ?_) ?_
          · obtain ⟨d', hd', rfl⟩ := List.mem_map.mp hy
            obtain ⟨z, hz, rfl⟩ := List.mem_map.mp hd'
            exact ⟨rfl, ifT rfl (one z (hlt z hz) _ R' acc _ q)⟩
          rw [List.nil_append, flat_nats]
          exact ⟨rfl, lt, _, rfl, done⟩
        · refine ⟨_, rfl, _, _, rfl, rfl, sl, by show (x11.plain && true) = true; rw [p11']; rfl, ?_⟩
          refine lcL_of (gNats fun z => (z % w + j) % w + w * (z / w)) _ _ (fun y hy acc R' q => ?_) ?_
          · obtain ⟨d', hd', rfl⟩ := List.mem_map.mp hy
            obtain ⟨z, hz, rfl⟩ := List.mem_map.mp hd'
            exact ⟨rfl, ifT rfl (one z (hlt z hz) _ R' acc _ q)⟩
          rw [List.nil_append, flat_nats]
          exact ⟨rfl, lt, _, rfl, done⟩
    refine ⟨_, rfl, _, rfl, shaped_int _, shaped_int _, _, rfl, ?_⟩
    refine ifE (fun _ => ?_) (fun _ => ?_)
    · refine ⟨_, rfl, by omega, by show (n : Int) ≤ 1000000; omega, ?_⟩
      rw [rngD_ints]
      exact st (List.range n) List.length_range (fun a ha => List.mem_range.mp ha) _ (Or.inl rfl) _ rfl
    · refine ⟨_, dat_lst _, ?_⟩
      refine st (w * i :: p.map fun a => left.getD a 0) (by rw [List.length_cons, List.length_map, pl]; omega) (fun a ha => ?_) _ (Or.inr rfl) _ rfl
      rcases List.mem_cons.mp ha with g | g
      · rw [g]; exact hwi
      · obtain ⟨z, hz, rfl⟩ := List.mem_map.mp g
        exact lmem _ (List.mem_of_getElem? (some_getD (b := 0) (plm z hz)))
def b_tail (b : Box) (er : Er) : MS :=
  (sSeq (sSet (mLst (oCons (mC (.d .none)) (oCons (mTup aNil) (oCons (mLst oNil) (oCons (mCB fList (aCons (mVar 2) aNil)) (oCons (mC (.d (.str "table"))) (oCons (mC (SVi 0)) (oCons (mOp fMul (mTup (aCons (mTup aNil) aNil)) (mC (SVi 201))) (oCons (mOp fMul (mTup (aCons (mTup aNil) aNil)) (mC (SVi 200))) (oCons (mTup (aCons (mC (SVi 0)) aNil)) (oCons (mTup (aCons (mTup aNil) aNil)) (oCons (mTup (aCons (mTup (aCons (mC (SVi 0)) (aCons (mC (SVi 0)) aNil))) aNil)) (oCons (mTup (aCons (mVar 2) aNil)) (oCons (mOp fEq (mVar 2) (mVar 2)) oNil)))))))))))))) 6)
    (sSeq (sSet (mCall (s__law_pick b) (aCons (mVar 1) (aCons (mOp fAdd (mVar 6) (mLst (oCons (mOp fMul (mTup (aCons (mTup (aCons (mC (SVi 0)) aNil)) aNil)) (mC (SVi 201))) (oCons (mOp fMul (mTup (aCons (mTup (aCons (mC (SVi 0)) aNil)) aNil)) (mC (SVi 200))) (oCons (mCB fTuple (aCons (mLc (miSeq (mVar 2)) (gmName 8) (fun env _ Q => Q true env) (mCB fList (aCons (mVar 8) aNil)) [8]) aNil)) (oCons (mVar 5) oNil)))))) aNil)) 2) 7)
    (sSeq (sSet (mCall (s__law_half b) (aCons (mVar 1) aNil) 1) 9)
    (sSeq (sIf (tbl (mOp fNe (mCall (s__law_told er) (aCons (mVar 9) aNil) 1) (mCall (s__law_due) (aCons (mVar 9) aNil) 1))) (sRet (mC (SVb false))) sNext)
    (sRet (vAnd (mOp fEq (mCall (s__law_told er) (aCons (mVar 7) aNil) 1) (mCall (s__law_due) (aCons (mVar 7) aNil) 1)) (mOp fEq (mCall (s__law_told er) (aCons (mVar 5) aNil) 1) (mCall (s__law_due) (aCons (mVar 5) aNil) 1))))))))
theorem can_row : ∀ M : List (List Nat), PyData.canLayAll0 (M.map rowD) = true
  | [] => rfl
  | r :: M => by
    show PyData.canLayAll0 (rowD r :: M.map rowD) = true
    have h : PyData.canLay0 (rowD r) = true := SeqAt.canLay_of_shaped (shaped_tupN r)
    simp only [PyData.canLayAll0, h, Bool.true_and]
    exact can_row M
theorem depth_row : ∀ M : List (List Nat), PyData.depthAll (M.map rowD) ≤ 2
  | [] => by simp [PyData.depthAll]
  | r :: M => by
    have h : PyData.depth (rowD r) ≤ 2 := by
      unfold rowD
      rw [nats_ints]
      have := depth_ints (r.map fun k : Nat => (k : Int))
      simp only [PyData.depth]
      omega
    have := depth_row M
    simp only [List.map_cons, PyData.depthAll]
    omega
theorem shaped_tab (M : List (List Nat)) : SeqAt.shaped (tabD M) = true := by
  show (PyData.canLay0 (.tuple (M.map rowD)) && decide (PyData.depth (.tuple (M.map rowD)) ≤ 64)) = true
  rw [Bool.and_eq_true]
  refine ⟨by simp only [PyData.canLay0]; exact can_row M, decide_eq_true ?_⟩
  have := depth_row M
  simp only [PyData.depth]
  omega
def gLs : SV → List O
  | .d (.tuple ds) => [.lst (leafs ds)]
  | _ => []
theorem flat_ls : ∀ M : List (List Nat), ((M.map rowD).map SV.d).flatMap gLs = matO M
  | [] => rfl
  | r :: M => by
    show gLs (.d (rowD r)) ++ List.flatMap gLs ((M.map rowD).map SV.d) = _
    rw [flat_ls M]; rfl
theorem ne_self (o : Option Int) : (!PyData.eqv (resD o) (resD o)) = false := by rw [resD_eqv]; rfl
theorem tail_true {b : Box} {er : Er} {a : Addr} {n : Nat} {M : List (List Nat)} {tw : PyData} {x3 x4 : SD} (n0 : 1 ≤ n) (n8 : n ≤ 8) (sM : Sq n M) :
    b_tail b er [.v (.r (.ref a)), .v (.r (.ref b.h)), .v (.d (tabD M)), x3, x4, .v (.d tw), .un, .un, .un, .un] (fun _ => False) { nx := fun _ => False, rt := fun y => y = .d (.bool true) } := by
  have tl : (M.map rowD).length = n := by rw [List.length_map, sM.len]
  have z1 : 1 ≤ 1000000 := by decide
  have z0 : 0 ≤ 1000000 := by decide
  have z2 : 2 ≤ 1000000 := by decide
  refine ⟨[], rfl, z0, [], rfl, z0, _, rfl, _, rfl, ?_⟩
  refine ⟨[], rfl, z0, _, rfl, [.tuple []], rfl, z1, _, rfl, _, rfl, (fun z => nomatch z), by decide, by decide, (by show 1 ≤ 1000; decide), ?_⟩
  refine ⟨[], rfl, z0, _, rfl, [.tuple []], rfl, z1, _, rfl, _, rfl, (fun z => nomatch z), by decide, by decide, (by show 1 ≤ 1000; decide), ?_⟩
  refine ⟨_, rfl, [.int 0], rfl, z1, [], rfl, z0, _, rfl, [.tuple []], rfl, z1, _, rfl, _, rfl, [.int 0, .int 0], rfl, z2, _, rfl, [.tuple [.int 0, .int 0]], rfl, z1, _, rfl, [tabD M], rfl, z1, _, rfl, _, rfl, shaped_tab M, shaped_tab M, ?_⟩
  refine ⟨_, rfl, (by show 13 ≤ 1000000; decide), ?_⟩
  refine ⟨_, rfl, _, dat_own (osd_leaf (osd_leaf (osd_lst (xs := []) (osd_lst (osd_leaf (osd_leaf (osd_leaf (osd_leaf (osd_leaf (osd_leaf (osd_leaf (osd_leaf (osd_leaf rfl))))))))))))), _, rfl, ?_⟩
  refine ⟨_, rfl, [.int 0], rfl, z1, _, rfl, [.tuple [.int 0]], rfl, z1, _, rfl, _, rfl, (fun z => nomatch z), by decide, by decide, (by show 1 ≤ 1000; decide), ?_⟩
  refine ⟨_, rfl, [.int 0], rfl, z1, _, rfl, [.tuple [.int 0]], rfl, z1, _, rfl, _, rfl, (fun z => nomatch z), by decide, by decide, (by show 1 ≤ 1000; decide), ?_⟩
  refine ⟨_, _, rfl, rfl, by rw [List.length_map, tl]; show n ≤ 1000000; omega, rfl, ?_⟩
  refine lcL_of gLs _ _ (fun y hy acc R q => ?_) ?_
  · obtain ⟨d, hd, rfl⟩ := List.mem_map.mp hy
    obtain ⟨r, hr, rfl⟩ := List.mem_map.mp hd
    exact ⟨rfl, ifT rfl ⟨_, rfl, _, rfl, rfl, _, rfl, q⟩⟩
  rw [List.nil_append, flat_ls]
  refine ⟨_, (show SD.frz (.own (.lst (matO M))) = some (.d (lstD M)) by show (O.dat _).map SV.d = _; rw [matO_frz]; rfl), _, rfl, _, rfl, (by show 4 ≤ 1000000; decide), _, frz_own (osd_leaf (osd_leaf (osd_leaf (osd_leaf rfl)))), (by show 13 + 4 ≤ 1000000; decide), _, frz_lst _, rfl, ?_⟩
  refine pick_of (fun z => nomatch z) (by show 17 ≤ 1000; decide) fun v hv => ?_
  refine ⟨_, rfl, rfl, half_of fun hf => ?_⟩
  refine ⟨_, rfl, rfl, told_of ⟨_, rfl, _, rfl, rfl, due_of ⟨_, rfl, resD_shaped _, resD_shaped _, _, rfl, ifF (ne_self _) ?_⟩⟩⟩
  refine ⟨_, rfl, rfl, told_of ⟨_, rfl, _, rfl, rfl, due_of ⟨_, rfl, resD_shaped _, resD_shaped _, _, rfl, ifT (resD_eqv _) ?_⟩⟩⟩
  refine ⟨_, rfl, rfl, told_of ⟨_, rfl, _, rfl, rfl, due_of ⟨_, rfl, resD_shaped _, resD_shaped _, _, rfl, ?_⟩⟩⟩
  exact congrArg (fun c => SV.d (.bool c)) (resD_eqv _)
theorem law_true (a : Addr) (b : Box) (er : Er) : b_law b er (.v (.r (.ref a)) :: .v (.r (.ref b.h)) :: List.replicate 8 .un) (fun _ => False) { nx := fun _ => False, rt := fun y => y = .d (.bool true) } := by
  refine ⟨_, rfl, rfl, drawn_of fun t ht => ?_⟩
  obtain ⟨n, M, rfl, n0, n8, sM, hv⟩ := ht
  have tk : ∀ {E : XP} {Q : SV → Prop}, Q (.d (resD none)) → s__law_told er [.d (tabD M)] E Q := fun {E Q} q => told_of (by rw [hv]; exact q)
  have z2 : 2 ≤ 1000000 := by decide
  refine ⟨_, rfl, rfl, tk ⟨_, rfl, _, rfl, z2, _, rfl, resD_shaped none, resD_shaped none, _, rfl, ifF (ne_self none) ?_⟩⟩
  refine ⟨_, rfl, rfl, check_of (fun _ => ⟨_, rfl, _, rfl, _, rfl, ifF rfl ?_⟩) (fun k e => by rw [hv] at e; cases e)⟩
  refine ⟨_, rfl, _, rfl, rfl, told_of ⟨_, rfl, _, rfl, _, rfl, rfl, due_of ⟨_, rfl, resD_shaped _, resD_shaped _, _, rfl, ifF (ne_self _) ?_⟩⟩⟩
  refine ⟨_, rfl, _, rfl, by decide, by decide, ?_⟩
  refine loopE_ix (fun i e => ∃ x3 x4 : SD, e = [.v (.r (.ref a)), .v (.r (.ref b.h)), .v (.d (tabD M)), x3, x4, .un, .un, .un, .un, .un]) ⟨.un, .un, rfl⟩ ?_ ?_
  · rintro e ⟨x3, x4, rfl⟩
    refine ⟨_, rfl, _, rfl, rfl, drawn_of fun t2 ht2 => ?_⟩
    obtain ⟨n', M', rfl, n0', n8', sM', _⟩ := ht2
    refine ⟨_, rfl, rfl, spoilt_of n0' (by omega) sM' fun tw => ?_⟩
    refine ⟨_, rfl, rfl, wrong_of ?_⟩
    cases hw : verd tw with
    | none =>
      obtain ⟨m, W, rfl, m0, m1, sW⟩ := verd_sq hw
      exact ⟨_, rfl, _, rfl, _, rfl, ifT rfl ⟨_, rfl, _, rfl, rfl, spoilt_of m0 m1 sW fun tw2 => tail_true n0 n8 sM⟩⟩
    | some k => exact ⟨_, rfl, _, rfl, _, rfl, ifF rfl (tail_true n0 n8 sM)⟩
  · rintro i x e hx ⟨x3, x4, rfl⟩ R hR
    obtain ⟨hi, rfl⟩ := rgD_get hx
    refine ⟨_, rfl, _, rfl, rfl, spoilt_of n0 (by omega) sM fun sp => ?_⟩
    refine ⟨_, rfl, rfl, told_of ⟨_, rfl, _, rfl, rfl, due_of ⟨_, rfl, resD_shaped _, resD_shaped _, _, rfl, ifF (ne_self _) ?_⟩⟩⟩
    exact ⟨_, rfl, rfl, tk ⟨_, rfl, _, rfl, z2, _, rfl, resD_shaped none, resD_shaped none, _, rfl, ifF (ne_self none) (hR _ ⟨_, _, rfl⟩)⟩⟩

theorem all_mk {P : Program} {w : World} {K : PySem.W.Frag} {h : Heap} {mg : Str → Option Value} {fa C_StoreError C_InvalidTable i_InvalidTable f_is_below f_is_order f_is_associative f_check_table f__law_heap f__law_draw f__law_pick f__law_order f__law_table f__law_renamed f__law_drawn f__law_wrong f__law_told f__law_due f__law_put f__law_spoilt f__law_half f_law : Addr} {nmInvalidTable qInvalidTable : Str} {NInvalidTable : Addr} {bsInvalidTable bmInvalidTable subInvalidTable : List Value} {snInvalidTable : List Str} {abInvalidTable : Bool} {colInvalidTable : Option Bool} {ddInvalidTable : Option Addr} {m0InvalidTable m1InvalidTable m2InvalidTable m3InvalidTable m5InvalidTable : Option Value} {odi_InvalidTable ani_InvalidTable : Option Addr} {sli_InvalidTable : Array (Option Value)} {oci_InvalidTable kVi_InvalidTable dci_InvalidTable pmi_InvalidTable cdi_InvalidTable cti_InvalidTable : Value} {odis_below anis_below : Option Addr} {slis_below : Array (Option Value)} {ocis_below kVis_below dcis_below pmis_below cdis_below ctis_below : Value} {odis_order anis_order : Option Addr} {slis_order : Array (Option Value)} {ocis_order kVis_order dcis_order pmis_order cdis_order ctis_order : Value} {odis_associative anis_associative : Option Addr} {slis_associative : Array (Option Value)} {ocis_associative kVis_associative dcis_associative pmis_associative cdis_associative ctis_associative : Value} {odcheck_table ancheck_table : Option Addr} {slcheck_table : Array (Option Value)} {occheck_table kVcheck_table dccheck_table pmcheck_table cdcheck_table ctcheck_table : Value} {od_law_heap an_law_heap : Option Addr} {sl_law_heap : Array (Option Value)} {oc_law_heap kV_law_heap dc_law_heap pm_law_heap cd_law_heap ct_law_heap : Value} {od_law_draw an_law_draw : Option Addr} {sl_law_draw : Array (Option Value)} {oc_law_draw kV_law_draw dc_law_draw pm_law_draw cd_law_draw ct_law_draw : Value} {od_law_pick an_law_pick : Option Addr} {sl_law_pick : Array (Option Value)} {oc_law_pick kV_law_pick dc_law_pick pm_law_pick cd_law_pick ct_law_pick : Value} {od_law_order an_law_order : Option Addr} {sl_law_order : Array (Option Value)} {oc_law_order kV_law_order dc_law_order pm_law_order cd_law_order ct_law_order : Value} {od_law_table an_law_table : Option Addr} {sl_law_table : Array (Option Value)} {oc_law_table kV_law_table dc_law_table pm_law_table cd_law_table ct_law_table : Value} {od_law_renamed an_law_renamed : Option Addr} {sl_law_renamed : Array (Option Value)} {oc_law_renamed kV_law_renamed dc_law_renamed pm_law_renamed cd_law_renamed ct_law_renamed : Value} {od_law_drawn an_law_drawn : Option Addr} {sl_law_drawn : Array (Option Value)} {oc_law_drawn kV_law_drawn dc_law_drawn pm_law_drawn cd_law_drawn ct_law_drawn : Value} {od_law_wrong an_law_wrong : Option Addr} {sl_law_wrong : Array (Option Value)} {oc_law_wrong kV_law_wrong dc_law_wrong pm_law_wrong cd_law_wrong ct_law_wrong : Value} {od_law_told an_law_told : Option Addr} {sl_law_told : Array (Option Value)} {oc_law_told kV_law_told dc_law_told pm_law_told cd_law_told ct_law_told : Value} {od_law_due an_law_due : Option Addr} {sl_law_due : Array (Option Value)} {oc_law_due kV_law_due dc_law_due pm_law_due cd_law_due ct_law_due : Value} {od_law_put an_law_put : Option Addr} {sl_law_put : Array (Option Value)} {oc_law_put kV_law_put dc_law_put pm_law_put cd_law_put ct_law_put : Value} {od_law_spoilt an_law_spoilt : Option Addr} {sl_law_spoilt : Array (Option Value)} {oc_law_spoilt kV_law_spoilt dc_law_spoilt pm_law_spoilt cd_law_spoilt ct_law_spoilt : Value} {od_law_half an_law_half : Option Addr} {sl_law_half : Array (Option Value)} {oc_law_half kV_law_half dc_law_half pm_law_half cd_law_half ct_law_half : Value} {odlaw anlaw : Option Addr} {sllaw : Array (Option Value)} {oclaw kVlaw dclaw pmlaw cdlaw ctlaw : Value} {t_MOST_SHARES : Nat} (X : K.In h) (G : h.Ns mainGlobals mg) (hfa : mg "law" = some (.ref fa))
    (aS_StoreError : PySem.W.nsIn K mainGlobals "StoreError" = some (some (.ref C_StoreError)))
    (hn : PySem.W.specialIn K (.builtin "object.__class__") "__get__" = some (some (.builtin "getset_descriptor.__get__")))
    (ht : PySem.W.takesIn K (.builtin "object.__class__") = some true)
    (aC_InvalidTable : PySem.W.nsIn K mainGlobals "InvalidTable" = some (some (.ref C_InvalidTable)))
    (xL_InvalidTable : K.lookup C_InvalidTable = some (excClassObj nmInvalidTable qInvalidTable C_InvalidTable NInvalidTable bsInvalidTable bmInvalidTable true snInvalidTable subInvalidTable abInvalidTable colInvalidTable ddInvalidTable m0InvalidTable m1InvalidTable m2InvalidTable m3InvalidTable m5InvalidTable "ValueError.__new__"))
    (xM_InvalidTable : PySem.HandSPX.refsVE bmInvalidTable = true)
    (sa_InvalidTable : PySem.W.findIn K (.ref C_InvalidTable) "__setattr__" = some (some (.builtin "object.__setattr__")))
    (ga_InvalidTable : PySem.W.findIn K (.ref C_InvalidTable) "__getattribute__" = some (some (.builtin "BaseException.__getattribute__")))
    (gg_InvalidTable : PySem.W.findIn K (.ref C_InvalidTable) "__getattr__" = some none)
    (nf_InvalidTable : PySem.W.findIn K (.ref C_InvalidTable) "at" = some none)
    (ca_InvalidTable : PySem.W.findIn K (.ref C_InvalidTable) "__class__" = some (some (.builtin "object.__class__")))
    (fi_InvalidTable : PySem.W.findIn K (.ref C_InvalidTable) "__init__" = some (some (.ref i_InvalidTable)))
    (ti_InvalidTable : PySem.W.typeIn K (.ref i_InvalidTable) = some (.type "function"))
    (li_InvalidTable : K.lookup i_InvalidTable = some ⟨oci_InvalidTable, odi_InvalidTable, .func (PySem.W.fnOf "__init__" "InvalidTable.__init__" (defArgs s_InvalidTable_init) (defBody s_InvalidTable_init) (defScope s_InvalidTable_init) .none kVi_InvalidTable dci_InvalidTable pmi_InvalidTable ani_InvalidTable cdi_InvalidTable cti_InvalidTable), sli_InvalidTable⟩)
    (ci_InvalidTable : PySem.W.codeIn K cdi_InvalidTable "InvalidTable.__init__" = true)
    (ki_InvalidTable : PySem.W.keepIn K (.ref i_InvalidTable) = true)
    (kc_InvalidTable : PySem.W.keepIn K (.ref C_InvalidTable) = true)
    (ec_InvalidTable : PySem.W.subIn K (.ref C_InvalidTable) (.type "BaseException") = some true)
    (tc_InvalidTable : PySem.W.typeIn K (.ref C_InvalidTable) = some (.type "type"))
    (hc_InvalidTable : PySem.W.hasDictIn K C_InvalidTable = true)
    (mo_InvalidTable : PySem.W.mroIn K C_InvalidTable (.type "object") = some true)
    (sc_InvalidTable : PySem.W.subIn K (.ref C_InvalidTable) (.ref C_InvalidTable) = some true)
    (kt_InvalidTable : PySem.W.kitOne K (.ref C_InvalidTable) (.ref C_StoreError) = some true)
    (a_is_below : PySem.W.nsIn K mainGlobals "is_below" = some (some (.ref f_is_below)))
    (l_is_below : K.lookup f_is_below = some ⟨ocis_below, odis_below, .func (PySem.W.fnOf "is_below" "is_below" (defArgs sis_below) (defBody sis_below) (defScope sis_below) .none kVis_below dcis_below pmis_below anis_below cdis_below ctis_below), slis_below⟩)
    (c_is_below : PySem.W.codeIn K cdis_below "is_below" = true)
    (k_is_below : PySem.W.keepIn K (.ref f_is_below) = true)
    (a_is_order : PySem.W.nsIn K mainGlobals "is_order" = some (some (.ref f_is_order)))
    (l_is_order : K.lookup f_is_order = some ⟨ocis_order, odis_order, .func (PySem.W.fnOf "is_order" "is_order" (defArgs sis_order) (defBody sis_order) (defScope sis_order) .none kVis_order dcis_order pmis_order anis_order cdis_order ctis_order), slis_order⟩)
    (c_is_order : PySem.W.codeIn K cdis_order "is_order" = true)
    (k_is_order : PySem.W.keepIn K (.ref f_is_order) = true)
    (a_is_associative : PySem.W.nsIn K mainGlobals "is_associative" = some (some (.ref f_is_associative)))
    (l_is_associative : K.lookup f_is_associative = some ⟨ocis_associative, odis_associative, .func (PySem.W.fnOf "is_associative" "is_associative" (defArgs sis_associative) (defBody sis_associative) (defScope sis_associative) .none kVis_associative dcis_associative pmis_associative anis_associative cdis_associative ctis_associative), slis_associative⟩)
    (c_is_associative : PySem.W.codeIn K cdis_associative "is_associative" = true)
    (k_is_associative : PySem.W.keepIn K (.ref f_is_associative) = true)
    (a_check_table : PySem.W.nsIn K mainGlobals "check_table" = some (some (.ref f_check_table)))
    (l_check_table : K.lookup f_check_table = some ⟨occheck_table, odcheck_table, .func (PySem.W.fnOf "check_table" "check_table" (defArgs scheck_table) (defBody scheck_table) (defScope scheck_table) .none kVcheck_table dccheck_table pmcheck_table ancheck_table cdcheck_table ctcheck_table), slcheck_table⟩)
    (c_check_table : PySem.W.codeIn K cdcheck_table "check_table" = true)
    (k_check_table : PySem.W.keepIn K (.ref f_check_table) = true)
    (a__law_heap : PySem.W.nsIn K mainGlobals "_law_heap" = some (some (.ref f__law_heap)))
    (l__law_heap : K.lookup f__law_heap = some ⟨oc_law_heap, od_law_heap, .func (PySem.W.fnOf "_law_heap" "_law_heap" (defArgs s_law_heap) (defBody s_law_heap) (defScope s_law_heap) .none kV_law_heap dc_law_heap pm_law_heap an_law_heap cd_law_heap ct_law_heap), sl_law_heap⟩)
    (c__law_heap : PySem.W.codeIn K cd_law_heap "_law_heap" = true)
    (k__law_heap : PySem.W.keepIn K (.ref f__law_heap) = true)
    (a__law_draw : PySem.W.nsIn K mainGlobals "_law_draw" = some (some (.ref f__law_draw)))
    (l__law_draw : K.lookup f__law_draw = some ⟨oc_law_draw, od_law_draw, .func (PySem.W.fnOf "_law_draw" "_law_draw" (defArgs s_law_draw) (defBody s_law_draw) (defScope s_law_draw) .none kV_law_draw dc_law_draw pm_law_draw an_law_draw cd_law_draw ct_law_draw), sl_law_draw⟩)
    (c__law_draw : PySem.W.codeIn K cd_law_draw "_law_draw" = true)
    (k__law_draw : PySem.W.keepIn K (.ref f__law_draw) = true)
    (a__law_pick : PySem.W.nsIn K mainGlobals "_law_pick" = some (some (.ref f__law_pick)))
    (l__law_pick : K.lookup f__law_pick = some ⟨oc_law_pick, od_law_pick, .func (PySem.W.fnOf "_law_pick" "_law_pick" (defArgs s_law_pick) (defBody s_law_pick) (defScope s_law_pick) .none kV_law_pick dc_law_pick pm_law_pick an_law_pick cd_law_pick ct_law_pick), sl_law_pick⟩)
    (c__law_pick : PySem.W.codeIn K cd_law_pick "_law_pick" = true)
    (k__law_pick : PySem.W.keepIn K (.ref f__law_pick) = true)
    (a__law_order : PySem.W.nsIn K mainGlobals "_law_order" = some (some (.ref f__law_order)))
    (l__law_order : K.lookup f__law_order = some ⟨oc_law_order, od_law_order, .func (PySem.W.fnOf "_law_order" "_law_order" (defArgs s_law_order) (defBody s_law_order) (defScope s_law_order) .none kV_law_order dc_law_order pm_law_order an_law_order cd_law_order ct_law_order), sl_law_order⟩)
    (c__law_order : PySem.W.codeIn K cd_law_order "_law_order" = true)
    (k__law_order : PySem.W.keepIn K (.ref f__law_order) = true)
    (a__law_table : PySem.W.nsIn K mainGlobals "_law_table" = some (some (.ref f__law_table)))
    (l__law_table : K.lookup f__law_table = some ⟨oc_law_table, od_law_table, .func (PySem.W.fnOf "_law_table" "_law_table" (defArgs s_law_table) (defBody s_law_table) (defScope s_law_table) .none kV_law_table dc_law_table pm_law_table an_law_table cd_law_table ct_law_table), sl_law_table⟩)
    (c__law_table : PySem.W.codeIn K cd_law_table "_law_table" = true)
    (k__law_table : PySem.W.keepIn K (.ref f__law_table) = true)
    (a__law_renamed : PySem.W.nsIn K mainGlobals "_law_renamed" = some (some (.ref f__law_renamed)))
    (l__law_renamed : K.lookup f__law_renamed = some ⟨oc_law_renamed, od_law_renamed, .func (PySem.W.fnOf "_law_renamed" "_law_renamed" (defArgs s_law_renamed) (defBody s_law_renamed) (defScope s_law_renamed) .none kV_law_renamed dc_law_renamed pm_law_renamed an_law_renamed cd_law_renamed ct_law_renamed), sl_law_renamed⟩)
    (c__law_renamed : PySem.W.codeIn K cd_law_renamed "_law_renamed" = true)
    (k__law_renamed : PySem.W.keepIn K (.ref f__law_renamed) = true)
    (a__law_drawn : PySem.W.nsIn K mainGlobals "_law_drawn" = some (some (.ref f__law_drawn)))
    (l__law_drawn : K.lookup f__law_drawn = some ⟨oc_law_drawn, od_law_drawn, .func (PySem.W.fnOf "_law_drawn" "_law_drawn" (defArgs s_law_drawn) (defBody s_law_drawn) (defScope s_law_drawn) .none kV_law_drawn dc_law_drawn pm_law_drawn an_law_drawn cd_law_drawn ct_law_drawn), sl_law_drawn⟩)
    (c__law_drawn : PySem.W.codeIn K cd_law_drawn "_law_drawn" = true)
    (k__law_drawn : PySem.W.keepIn K (.ref f__law_drawn) = true)
    (a__law_wrong : PySem.W.nsIn K mainGlobals "_law_wrong" = some (some (.ref f__law_wrong)))
    (l__law_wrong : K.lookup f__law_wrong = some ⟨oc_law_wrong, od_law_wrong, .func (PySem.W.fnOf "_law_wrong" "_law_wrong" (defArgs s_law_wrong) (defBody s_law_wrong) (defScope s_law_wrong) .none kV_law_wrong dc_law_wrong pm_law_wrong an_law_wrong cd_law_wrong ct_law_wrong), sl_law_wrong⟩)
    (c__law_wrong : PySem.W.codeIn K cd_law_wrong "_law_wrong" = true)
    (k__law_wrong : PySem.W.keepIn K (.ref f__law_wrong) = true)
    (a__law_told : PySem.W.nsIn K mainGlobals "_law_told" = some (some (.ref f__law_told)))
    (l__law_told : K.lookup f__law_told = some ⟨oc_law_told, od_law_told, .func (PySem.W.fnOf "_law_told" "_law_told" (defArgs s_law_told) (defBody s_law_told) (defScope s_law_told) .none kV_law_told dc_law_told pm_law_told an_law_told cd_law_told ct_law_told), sl_law_told⟩)
    (c__law_told : PySem.W.codeIn K cd_law_told "_law_told" = true)
    (k__law_told : PySem.W.keepIn K (.ref f__law_told) = true)
    (a__law_due : PySem.W.nsIn K mainGlobals "_law_due" = some (some (.ref f__law_due)))
    (l__law_due : K.lookup f__law_due = some ⟨oc_law_due, od_law_due, .func (PySem.W.fnOf "_law_due" "_law_due" (defArgs s_law_due) (defBody s_law_due) (defScope s_law_due) .none kV_law_due dc_law_due pm_law_due an_law_due cd_law_due ct_law_due), sl_law_due⟩)
    (c__law_due : PySem.W.codeIn K cd_law_due "_law_due" = true)
    (k__law_due : PySem.W.keepIn K (.ref f__law_due) = true)
    (a__law_put : PySem.W.nsIn K mainGlobals "_law_put" = some (some (.ref f__law_put)))
    (l__law_put : K.lookup f__law_put = some ⟨oc_law_put, od_law_put, .func (PySem.W.fnOf "_law_put" "_law_put" (defArgs s_law_put) (defBody s_law_put) (defScope s_law_put) .none kV_law_put dc_law_put pm_law_put an_law_put cd_law_put ct_law_put), sl_law_put⟩)
    (c__law_put : PySem.W.codeIn K cd_law_put "_law_put" = true)
    (k__law_put : PySem.W.keepIn K (.ref f__law_put) = true)
    (a__law_spoilt : PySem.W.nsIn K mainGlobals "_law_spoilt" = some (some (.ref f__law_spoilt)))
    (l__law_spoilt : K.lookup f__law_spoilt = some ⟨oc_law_spoilt, od_law_spoilt, .func (PySem.W.fnOf "_law_spoilt" "_law_spoilt" (defArgs s_law_spoilt) (defBody s_law_spoilt) (defScope s_law_spoilt) .none kV_law_spoilt dc_law_spoilt pm_law_spoilt an_law_spoilt cd_law_spoilt ct_law_spoilt), sl_law_spoilt⟩)
    (c__law_spoilt : PySem.W.codeIn K cd_law_spoilt "_law_spoilt" = true)
    (k__law_spoilt : PySem.W.keepIn K (.ref f__law_spoilt) = true)
    (a__law_half : PySem.W.nsIn K mainGlobals "_law_half" = some (some (.ref f__law_half)))
    (l__law_half : K.lookup f__law_half = some ⟨oc_law_half, od_law_half, .func (PySem.W.fnOf "_law_half" "_law_half" (defArgs s_law_half) (defBody s_law_half) (defScope s_law_half) .none kV_law_half dc_law_half pm_law_half an_law_half cd_law_half ct_law_half), sl_law_half⟩)
    (c__law_half : PySem.W.codeIn K cd_law_half "_law_half" = true)
    (k__law_half : PySem.W.keepIn K (.ref f__law_half) = true)
    (a_law : PySem.W.nsIn K mainGlobals "law" = some (some (.ref f_law)))
    (l_law : K.lookup f_law = some ⟨oclaw, odlaw, .func (PySem.W.fnOf "law" "law" (defArgs slaw) (defBody slaw) (defScope slaw) .none kVlaw dclaw pmlaw anlaw cdlaw ctlaw), sllaw⟩)
    (c_law : PySem.W.codeIn K cdlaw "law" = true)
    (k_law : PySem.W.keepIn K (.ref f_law) = true)
    (z_abs : PySem.W.nsIn K mainGlobals "abs" = some none)
    (z_all : PySem.W.nsIn K mainGlobals "all" = some none)
    (z_bool : PySem.W.nsIn K mainGlobals "bool" = some none)
    (v_MOST_SHARES : PySem.W.nsIn K mainGlobals "MOST_SHARES" = some (some (.int 200 t_MOST_SHARES)))
    (z_enumerate : PySem.W.nsIn K mainGlobals "enumerate" = some none)
    (z_int : PySem.W.nsIn K mainGlobals "int" = some none)
    (z_isinstance : PySem.W.nsIn K mainGlobals "isinstance" = some none)
    (z_len : PySem.W.nsIn K mainGlobals "len" = some none)
    (z_list : PySem.W.nsIn K mainGlobals "list" = some none)
    (z_range : PySem.W.nsIn K mainGlobals "range" = some none)
    (z_sorted : PySem.W.nsIn K mainGlobals "sorted" = some none)
    (z_str : PySem.W.nsIn K mainGlobals "str" = some none)
    (z_tuple : PySem.W.nsIn K mainGlobals "tuple" = some none)
    : ∃ fd : FuncData, (∀ (s : Shared) (v : Value), BindsTo s fd ⟨[v], []⟩ [("script", v)]) ∧ ∀ base : Heap, K.In base → base.Ns mainGlobals mg → FnOk P w K mg base CX0 5 fa fd ["script"] (spScript K) := by
  have e := hfa.symm.trans (PySem.W.mg_of X G a_law)
  cases e
  have o_InvalidTable : OexC K C_InvalidTable := ⟨⟨_, _, _, _, _, _, _, _, _, _, _, _, _, _, _, xL_InvalidTable, xM_InvalidTable⟩, sa_InvalidTable, ec_InvalidTable, tc_InvalidTable, kc_InvalidTable⟩
  have F_InvalidTable := fun_mk (st := s_InvalidTable_init) li_InvalidTable ci_InvalidTable ki_InvalidTable
  have E_InvalidTable : ErrT K mg C_InvalidTable C_StoreError "InvalidTable" "StoreError" "at" := ⟨PySem.W.mg_of X G aC_InvalidTable, PySem.W.mg_of X G aS_StoreError, ⟨ga_InvalidTable, gg_InvalidTable, ec_InvalidTable, hc_InvalidTable, ca_InvalidTable, hn, ht, mo_InvalidTable⟩, ⟨ga_InvalidTable, gg_InvalidTable, ec_InvalidTable, hc_InvalidTable⟩, nf_InvalidTable, PySem.W.exm_ref ec_InvalidTable hc_InvalidTable tc_InvalidTable sc_InvalidTable, kt_InvalidTable⟩
  have F_is_below := fun_mk (st := sis_below) l_is_below c_is_below k_is_below
  have g_is_below := PySem.W.mg_of X G a_is_below
  have F_is_order := fun_mk (st := sis_order) l_is_order c_is_order k_is_order
  have g_is_order := PySem.W.mg_of X G a_is_order
  have F_is_associative := fun_mk (st := sis_associative) l_is_associative c_is_associative k_is_associative
  have g_is_associative := PySem.W.mg_of X G a_is_associative
  have F_check_table := fun_mk (st := scheck_table) l_check_table c_check_table k_check_table
  have g_check_table := PySem.W.mg_of X G a_check_table
  have F__law_heap := fun_mk (st := s_law_heap) l__law_heap c__law_heap k__law_heap
  have g__law_heap := PySem.W.mg_of X G a__law_heap
  have F__law_draw := fun_mk (st := s_law_draw) l__law_draw c__law_draw k__law_draw
  have g__law_draw := PySem.W.mg_of X G a__law_draw
  have F__law_pick := fun_mk (st := s_law_pick) l__law_pick c__law_pick k__law_pick
  have g__law_pick := PySem.W.mg_of X G a__law_pick
  have F__law_order := fun_mk (st := s_law_order) l__law_order c__law_order k__law_order
  have g__law_order := PySem.W.mg_of X G a__law_order
  have F__law_table := fun_mk (st := s_law_table) l__law_table c__law_table k__law_table
  have g__law_table := PySem.W.mg_of X G a__law_table
  have F__law_renamed := fun_mk (st := s_law_renamed) l__law_renamed c__law_renamed k__law_renamed
  have g__law_renamed := PySem.W.mg_of X G a__law_renamed
  have F__law_drawn := fun_mk (st := s_law_drawn) l__law_drawn c__law_drawn k__law_drawn
  have g__law_drawn := PySem.W.mg_of X G a__law_drawn
  have F__law_wrong := fun_mk (st := s_law_wrong) l__law_wrong c__law_wrong k__law_wrong
  have g__law_wrong := PySem.W.mg_of X G a__law_wrong
  have F__law_told := fun_mk (st := s_law_told) l__law_told c__law_told k__law_told
  have g__law_told := PySem.W.mg_of X G a__law_told
  have F__law_due := fun_mk (st := s_law_due) l__law_due c__law_due k__law_due
  have g__law_due := PySem.W.mg_of X G a__law_due
  have F__law_put := fun_mk (st := s_law_put) l__law_put c__law_put k__law_put
  have g__law_put := PySem.W.mg_of X G a__law_put
  have F__law_spoilt := fun_mk (st := s_law_spoilt) l__law_spoilt c__law_spoilt k__law_spoilt
  have g__law_spoilt := PySem.W.mg_of X G a__law_spoilt
  have F__law_half := fun_mk (st := s_law_half) l__law_half c__law_half k__law_half
  have g__law_half := PySem.W.mg_of X G a__law_half
  have F_law := fun_mk (st := slaw) l_law c_law k_law
  have g_law := PySem.W.mg_of X G a_law
  refine ⟨PySem.W.fnOf "law" "law" (defArgs slaw) (defBody slaw) (defScope slaw) .none kVlaw dclaw pmlaw anlaw cdlaw ctlaw, fun s v => .of_eq rfl, fun base _ _ => ?_⟩
  have T : Txt P w K mg base ⟨C_InvalidTable⟩ := { m_abs := PySem.W.mg_none_of X G z_abs, m_all := PySem.W.mg_none_of X G z_all, m_bool := PySem.W.mg_none_of X G z_bool, g_MOST_SHARES := ⟨_, PySem.W.mg_of X G v_MOST_SHARES⟩, m_enumerate := PySem.W.mg_none_of X G z_enumerate, e_InvalidTable := err_InvalidTable o_InvalidTable (PySem.W.mg_of X G aC_InvalidTable) nf_InvalidTable fi_InvalidTable ti_InvalidTable F_InvalidTable, m_int := PySem.W.mg_none_of X G z_int, m_isinstance := PySem.W.mg_none_of X G z_isinstance, m_len := PySem.W.mg_none_of X G z_len, m_list := PySem.W.mg_none_of X G z_list, m_range := PySem.W.mg_none_of X G z_range, m_sorted := PySem.W.mg_none_of X G z_sorted, m_str := PySem.W.mg_none_of X G z_str, m_tuple := PySem.W.mg_none_of X G z_tuple }
  have c_is_below : ∀ b : Box, Cal P w K mg base CX0 1 "is_below" ["value", "end"] (SpecM K (ABox b) 2 (s_is_below)) := fun b => cal_is_below g_is_below F_is_below T
  have c_is_order : ∀ b : Box, Cal P w K mg base CX0 2 "is_order" ["value", "size"] (SpecM K (ABox b) 2 (s_is_order)) := fun b => cal_is_order g_is_order F_is_order T (c_is_below b)
  have c_is_associative : ∀ b : Box, Cal P w K mg base CX0 1 "is_associative" ["table", "row"] (SpecM K (ABox b) 2 (s_is_associative)) := fun b => cal_is_associative g_is_associative F_is_associative T
  have c_check_table : ∀ b : Box, Cal P w K mg base (L2.CX P w) 3 "check_table" ["value"] (SpecM K (ABox b) 1 (s_check_table ⟨C_InvalidTable⟩)) := fun b => cal_check_table ⟨C_InvalidTable⟩ g_check_table F_check_table T (c_is_order b) (c_is_associative b)
  have c__law_heap : Cal P w K mg base CX0 1 "_law_heap" ["script", "base"] (SpecH K) := cal__law_heap g__law_heap F__law_heap T
  have c__law_draw : ∀ b : Box, Cal P w K mg base CX0 1 "_law_draw" ["heap", "many"] (SpecM K (ABox b) 2 (s__law_draw b)) := fun b => cal__law_draw b g__law_draw F__law_draw T
  have c__law_pick : ∀ b : Box, Cal P w K mg base CX0 2 "_law_pick" ["heap", "some"] (SpecM K (ABox b) 2 (s__law_pick b)) := fun b => cal__law_pick b g__law_pick F__law_pick T (c__law_draw b)
  have c__law_order : ∀ b : Box, Cal P w K mg base CX0 2 "_law_order" ["heap", "many"] (SpecM K (ABox b) 2 (s__law_order b)) := fun b => cal__law_order b g__law_order F__law_order T (c__law_draw b)
  have c__law_table : ∀ b : Box, Cal P w K mg base CX0 1 "_law_table" ["kind"] (SpecM K (ABox b) 1 (s__law_table)) := fun b => cal__law_table g__law_table F__law_table T
  have c__law_renamed : ∀ b : Box, Cal P w K mg base CX0 1 "_law_renamed" ["table", "names"] (SpecM K (ABox b) 2 (s__law_renamed)) := fun b => cal__law_renamed g__law_renamed F__law_renamed T
  have c__law_drawn : ∀ b : Box, Cal P w K mg base CX0 3 "_law_drawn" ["heap"] (SpecM K (ABox b) 1 (s__law_drawn b)) := fun b => cal__law_drawn b g__law_drawn F__law_drawn T (c__law_pick b) (c__law_renamed b) (c__law_order b) (c__law_table b)
  have c__law_wrong : ∀ b : Box, Cal P w K mg base CX0 1 "_law_wrong" ["value"] (SpecM K (ABox b) 1 (s__law_wrong)) := fun b => cal__law_wrong g__law_wrong F__law_wrong T
  have c__law_told : ∀ b : Box, Cal P w K mg base CX0 4 "_law_told" ["value"] (SpecM K (ABox b) 1 (s__law_told ⟨C_InvalidTable⟩)) := fun b => cal__law_told ⟨C_InvalidTable⟩ g__law_told F__law_told T E_InvalidTable (c_check_table b)
  have c__law_due : ∀ b : Box, Cal P w K mg base CX0 2 "_law_due" ["value"] (SpecM K (ABox b) 1 (s__law_due)) := fun b => cal__law_due g__law_due F__law_due T (c__law_wrong b)
  have c__law_put : ∀ b : Box, Cal P w K mg base CX0 1 "_law_put" ["row", "at", "thing"] (SpecM K (ABox b) 3 (s__law_put)) := fun b => cal__law_put g__law_put F__law_put T
  have c__law_spoilt : ∀ b : Box, Cal P w K mg base CX0 3 "_law_spoilt" ["heap", "table"] (SpecM K (ABox b) 2 (s__law_spoilt b)) := fun b => cal__law_spoilt b g__law_spoilt F__law_spoilt T (c__law_draw b) (c__law_put b) (c__law_pick b) (c__law_order b)
  have c__law_half : ∀ b : Box, Cal P w K mg base CX0 3 "_law_half" ["heap"] (SpecM K (ABox b) 1 (s__law_half b)) := fun b => cal__law_half b g__law_half F__law_half T (c__law_pick b) (c__law_order b) (c__law_renamed b)
  exact ok_law F_law T c__law_heap (cal_any c__law_drawn) (cal_any c__law_told) (cal_any c_check_table) (cal_any c__law_due) (cal_any c__law_spoilt) (cal_any c__law_wrong) (cal_any c__law_pick) (cal_any c__law_half) (kb_of g_check_table F_check_table fun _ _ _ _ _ _ us ws hl => by rcases one_of hl with ⟨u, rfl, rfl⟩ | ⟨v, rfl, rfl⟩ <;> rfl) (fun a b => law_true a b _)
end K36
open PySem PySem.W PyProof.Rows in
set_option maxRecDepth 100000 in
set_option maxHeartbeats 0 in
theorem PySem.Challenge.cw_sharedunseen_k36_tables_taken_and_refuse_holds : PySem.Challenge.rw_sharedunseen_k36_tables_taken_and_refuse.Holds := by
  w_on; o_law; k_head; (case hw => w_witness2)
  k_fill
  refine L2.walk_of (l := PySem.Challenge.rw_sharedunseen_k36_tables_taken_and_refuse) (n := 63) (k := 5) (x := "script") (CX := fun _ => L2.CX0) (sp := fun w => DL.spScript _) rfl (by decide) rfl ⟨rfl, by decide, by decide⟩ (fun w h Y => PySem.W.kIn_of Y) ?F (fun _ _ a ns hl _ hS => ⟨a, ns, rfl, hS, hl, fun _ => rfl⟩) (fun _ _ _ _ _ z => z)
  case F =>
    intro w mg fa h KX G hmg
    refine' K36.all_mk KX G hmg ?aS_StoreError ?hn ?ht ?aC_InvalidTable ?xL_InvalidTable ?xM_InvalidTable ?sa_InvalidTable ?ga_InvalidTable ?gg_InvalidTable ?nf_InvalidTable ?ca_InvalidTable ?fi_InvalidTable ?ti_InvalidTable ?li_InvalidTable ?ci_InvalidTable ?ki_InvalidTable ?kc_InvalidTable ?ec_InvalidTable ?tc_InvalidTable ?hc_InvalidTable ?mo_InvalidTable ?sc_InvalidTable ?kt_InvalidTable ?a_is_below ?l_is_below ?c_is_below ?k_is_below ?a_is_order ?l_is_order ?c_is_order ?k_is_order ?a_is_associative ?l_is_associative ?c_is_associative ?k_is_associative ?a_check_table ?l_check_table ?c_check_table ?k_check_table ?a__law_heap ?l__law_heap ?c__law_heap ?k__law_heap ?a__law_draw ?l__law_draw ?c__law_draw ?k__law_draw ?a__law_pick ?l__law_pick ?c__law_pick ?k__law_pick ?a__law_order ?l__law_order ?c__law_order ?k__law_order ?a__law_table ?l__law_table ?c__law_table ?k__law_table ?a__law_renamed ?l__law_renamed ?c__law_renamed ?k__law_renamed ?a__law_drawn ?l__law_drawn ?c__law_drawn ?k__law_drawn ?a__law_wrong ?l__law_wrong ?c__law_wrong ?k__law_wrong ?a__law_told ?l__law_told ?c__law_told ?k__law_told ?a__law_due ?l__law_due ?c__law_due ?k__law_due ?a__law_put ?l__law_put ?c__law_put ?k__law_put ?a__law_spoilt ?l__law_spoilt ?c__law_spoilt ?k__law_spoilt ?a__law_half ?l__law_half ?c__law_half ?k__law_half ?a_law ?l_law ?c_law ?k_law ?z_abs ?z_all ?z_bool ?v_MOST_SHARES ?z_enumerate ?z_int ?z_isinstance ?z_len ?z_list ?z_range ?z_sorted ?z_str ?z_tuple
    (case aS_StoreError => k_is)
    (case hn => k_is)
    (case ht => k_is)
    (case aC_InvalidTable => k_is)
    (case xL_InvalidTable => k_is)
    (case xM_InvalidTable => first | rfl | decide +kernel)
    (case sa_InvalidTable => k_is)
    (case ga_InvalidTable => k_is)
    (case gg_InvalidTable => k_is)
    (case nf_InvalidTable => k_is)
    (case ca_InvalidTable => k_is)
    (case fi_InvalidTable => k_is)
    (case ti_InvalidTable => k_is)
    (case li_InvalidTable => k_is)
    (case ci_InvalidTable => k_is)
    (case ki_InvalidTable => k_is)
    (case kc_InvalidTable => k_is)
    (case ec_InvalidTable => k_is)
    (case tc_InvalidTable => k_is)
    (case hc_InvalidTable => k_is)
    (case mo_InvalidTable => k_is)
    (case sc_InvalidTable => first | rfl | k_is)
    (case kt_InvalidTable => first | kit_is | k_is | rfl)
    (case a_is_below => k_is)
    (case l_is_below => k_is)
    (case c_is_below => k_is)
    (case k_is_below => k_is)
    (case a_is_order => k_is)
    (case l_is_order => k_is)
    (case c_is_order => k_is)
    (case k_is_order => k_is)
    (case a_is_associative => k_is)
    (case l_is_associative => k_is)
    (case c_is_associative => k_is)
    (case k_is_associative => k_is)
    (case a_check_table => k_is)
    (case l_check_table => k_is)
    (case c_check_table => k_is)
    (case k_check_table => k_is)
    (case a__law_heap => k_is)
    (case l__law_heap => k_is)
    (case c__law_heap => k_is)
    (case k__law_heap => k_is)
    (case a__law_draw => k_is)
    (case l__law_draw => k_is)
    (case c__law_draw => k_is)
    (case k__law_draw => k_is)
    (case a__law_pick => k_is)
    (case l__law_pick => k_is)
    (case c__law_pick => k_is)
    (case k__law_pick => k_is)
    (case a__law_order => k_is)
    (case l__law_order => k_is)
    (case c__law_order => k_is)
    (case k__law_order => k_is)
    (case a__law_table => k_is)
    (case l__law_table => k_is)
    (case c__law_table => k_is)
    (case k__law_table => k_is)
    (case a__law_renamed => k_is)
    (case l__law_renamed => k_is)
    (case c__law_renamed => k_is)
    (case k__law_renamed => k_is)
    (case a__law_drawn => k_is)
    (case l__law_drawn => k_is)
    (case c__law_drawn => k_is)
    (case k__law_drawn => k_is)
    (case a__law_wrong => k_is)
    (case l__law_wrong => k_is)
    (case c__law_wrong => k_is)
    (case k__law_wrong => k_is)
    (case a__law_told => k_is)
    (case l__law_told => k_is)
    (case c__law_told => k_is)
    (case k__law_told => k_is)
    (case a__law_due => k_is)
    (case l__law_due => k_is)
    (case c__law_due => k_is)
    (case k__law_due => k_is)
    (case a__law_put => k_is)
    (case l__law_put => k_is)
    (case c__law_put => k_is)
    (case k__law_put => k_is)
    (case a__law_spoilt => k_is)
    (case l__law_spoilt => k_is)
    (case c__law_spoilt => k_is)
    (case k__law_spoilt => k_is)
    (case a__law_half => k_is)
    (case l__law_half => k_is)
    (case c__law_half => k_is)
    (case k__law_half => k_is)
    (case a_law => k_is)
    (case l_law => k_is)
    (case c_law => k_is)
    (case k_law => k_is)
    (case z_abs => k_is)
    (case z_all => k_is)
    (case z_bool => k_is)
    (case v_MOST_SHARES => k_is)
    (case z_enumerate => k_is)
    (case z_int => k_is)
    (case z_isinstance => k_is)
    (case z_len => k_is)
    (case z_list => k_is)
    (case z_range => k_is)
    (case z_sorted => k_is)
    (case z_str => k_is)
    (case z_tuple => k_is)
