import PyProof.Rows.All
import Wide.All
import OpenK.AllK
import Wide.FinOn
import HandS.ForMost
import HandS.TupAny
import HandS.Wide
import HandS.IsInst
import HandS.SortKw
import KE.DataMinMax
import KE.GoesEnum
import HandS.Dict
import HandS.ListItems
import HandS.More
import HandS.Deep
import HandS.ExcOwn
import HandS.WordsExc
import HandS.Small
import HandS.FStr
import HandS.TryOnly
import HandS.ExcIs
import KE.RegKIsAll
import PySem.Challenge.RW_lendback_k06_kinds_of_places
set_option Elab.async false
set_option linter.all false
set_option maxRecDepth 100000
/-! Values without the heap: tuples are data, only what may change has an address. -/
namespace Q4
open PySem L2

inductive D where
  | non | bl (b : Bool) | int (i : Int) | str (x : Str) | tup (xs : List D) | rol (xs : List D) | ref (a : Addr) | ty (n : String)
inductive DO where
  | lst (xs : List D)
  | ins (C dx : Addr) (fs : List (Str × D))
  | dct (kvs : List (Key × D))
abbrev M := Addr → Option DO
def put (m : M) (a : Addr) (o : DO) : M := fun b => if b = a then some o else m b
theorem put_same {m : M} {a : Addr} {o : DO} : put m a o a = some o := if_pos rfl
theorem put_ne {m : M} {a b : Addr} {o : DO} (h : b ≠ a) : put m a o b = m b := if_neg h
theorem put_put {m : M} {a : Addr} {o u : DO} : put (put m a o) a u = put m a u := by
  funext b; unfold put; split <;> rfl
theorem put_comm {m : M} {a b : Addr} {o u : DO} (h : a ≠ b) : put (put m a o) b u = put (put m b u) a o := by
  funext c; unfold put
  by_cases h1 : c = b
  · have : ¬ c = a := fun e => h (e.symm.trans h1)
    simp [h1, this]
    intro e; exact absurd e.symm h
  · simp [h1]

/-- a list that nobody changes: locked, or one of the module's -/
def FrzL (K : PySem.W.Frag) (H : Hp) (a : Addr) (xs : List V) : Prop :=
  (∃ o, H a = some (.frz o (.lst xs))) ∨
    ∃ (o : Obj) (its : Array Value) (n : Nat), K.lookup a = some o ∧ o.cls = .type "list" ∧ o.dict = none ∧ o.data = .seq its n ∧ its.size ≤ sizeLine ∧ Vals xs its.toList
theorem FrzL.sq {K : PySem.W.Frag} {H : Hp} {a : Addr} {xs : List V} (h : FrzL K H a xs) : SqL K H a xs := by
  rcases h with ⟨o, h⟩ | h
  · exact .inl (.inr ⟨o, h⟩)
  · exact .inr h
mutual
inductive RD (K : PySem.W.Frag) (H : Hp) : D → V → Prop
  | non : RD K H .non .non
  | bl (b : Bool) : RD K H (.bl b) (.bl b)
  | int (i : Int) : RD K H (.int i) (.int i)
  | str (x : Str) : RD K H (.str x) (.str x)
  | ref (a : Addr) : RD K H (.ref a) (.ref a)
  | ty (n : String) : RD K H (.ty n) (.ty n)
  | tup {a : Addr} {xs : List V} {ds : List D} : SqT K H a xs → RDs K H ds xs → RD K H (.tup ds) (.ref a)
  | rol {a : Addr} {xs : List V} {ds : List D} : FrzL K H a xs → RDs K H ds xs → RD K H (.rol ds) (.ref a)
inductive RDs (K : PySem.W.Frag) (H : Hp) : List D → List V → Prop
  | nil : RDs K H [] []
  | cons {v : V} {vs : List V} {d : D} {ds : List D} : RD K H d v → RDs K H ds vs → RDs K H (d :: ds) (v :: vs)
end
structure Keep (K : PySem.W.Frag) (H H' : Hp) : Prop where
  t : ∀ a xs, SqT K H a xs → SqT K H' a xs
  f : ∀ a xs, FrzL K H a xs → FrzL K H' a xs
section
variable {K : PySem.W.Frag} {H H' H'' : Hp}
theorem Keep.refl (H : Hp) : Keep K H H := ⟨fun _ _ h => h, fun _ _ h => h⟩
theorem Keep.trans (a : Keep K H H') (b : Keep K H' H'') : Keep K H H'' := ⟨fun _ _ h => b.t _ _ (a.t _ _ h), fun _ _ h => b.f _ _ (a.f _ _ h)⟩
mutual
theorem RD.mono (k : Keep K H H') : ∀ {d : D} {v : V}, RD K H d v → RD K H' d v
  | _, _, .non => .non
  | _, _, .bl b => .bl b
  | _, _, .int b => .int b
  | _, _, .str b => .str b
  | _, _, .ref b => .ref b
  | _, _, .ty b => .ty b
  | _, _, .tup h r => .tup (k.t _ _ h) (RDs.mono k r)
  | _, _, .rol h r => .rol (k.f _ _ h) (RDs.mono k r)
theorem RDs.mono (k : Keep K H H') : ∀ {d : List D} {v : List V}, RDs K H d v → RDs K H' d v
  | _, _, .nil => .nil
  | _, _, .cons h r => .cons (h.mono k) (RDs.mono k r)
end
theorem RDs.length : ∀ {ds : List D} {vs : List V}, RDs K H ds vs → ds.length = vs.length
  | _, _, .nil => rfl
  | _, _, .cons _ r => congrArg (· + 1) r.length
theorem RDs.get : ∀ {ds : List D} {vs : List V} {i : Nat} {d : D}, RDs K H ds vs → ds[i]? = some d → ∃ v, vs[i]? = some v ∧ RD K H d v
  | _, _, _, _, .nil, e => by simp at e
  | _, _, 0, _, .cons h _, e => by simp at e; subst e; exact ⟨_, rfl, h⟩
  | _, _, i + 1, d, .cons _ r, e => by
    obtain ⟨v, h1, h2⟩ := RDs.get (i := i) (d := d) r (by simpa using e)
    exact ⟨v, by simpa using h1, h2⟩
theorem RDs.getV : ∀ {ds : List D} {vs : List V} {i : Nat} {v : V}, RDs K H ds vs → vs[i]? = some v → ∃ d, ds[i]? = some d ∧ RD K H d v
  | _, _, _, _, .nil, e => by simp at e
  | _, _, 0, _, .cons h _, e => by simp at e; subst e; exact ⟨_, rfl, h⟩
  | _, _, i + 1, d, .cons _ r, e => by
    obtain ⟨v, h1, h2⟩ := RDs.getV (i := i) (v := d) r (by simpa using e)
    exact ⟨v, by simpa using h1, h2⟩
theorem RDs.append : ∀ {ds es : List D} {vs us : List V}, RDs K H ds vs → RDs K H es us → RDs K H (ds ++ es) (vs ++ us)
  | _, _, _, _, .nil, s => s
  | _, _, _, _, .cons h r, s => .cons h (r.append s)
theorem RDs.set {d : D} {v : V} (h : RD K H d v) : ∀ {ds : List D} {vs : List V} (i : Nat), RDs K H ds vs → RDs K H (ds.set i d) (vs.set i v)
  | _, _, _, .nil => .nil
  | _, _, 0, .cons _ r => .cons h r
  | _, _, i + 1, .cons q r => .cons q (RDs.set h i r)
theorem RDs.take : ∀ {ds : List D} {vs : List V} (n : Nat), RDs K H ds vs → RDs K H (ds.take n) (vs.take n)
  | _, _, 0, _ => .nil
  | _, _, _ + 1, .nil => .nil
  | _, _, n + 1, .cons r t => .cons r (RDs.take n t)
theorem RDs.drop : ∀ {ds : List D} {vs : List V} (n : Nat), RDs K H ds vs → RDs K H (ds.drop n) (vs.drop n)
  | _, _, 0, r => r
  | _, _, _ + 1, .nil => .nil
  | _, _, n + 1, .cons _ t => RDs.drop n t
/-- a new object keeps every tuple -/
theorem Keep.new {p : Addr} {o : HO} (h : H p = none) : Keep K H (upd H p o) := by
  refine ⟨fun a xs q => ?_, fun a xs q => ?_⟩
  · rcases q with (q | ⟨o', q⟩) | q
    · exact .inl (.inl (by rw [upd_ne (ne_of_none q h)]; exact q))
    · exact .inl (.inr ⟨o', by rw [upd_ne (ne_of_none q h)]; exact q⟩)
    · exact .inr q
  · rcases q with ⟨o', q⟩ | q
    · exact .inl ⟨o', by rw [upd_ne (ne_of_none q h)]; exact q⟩
    · exact .inr q
/-- a list that changes keeps every tuple -/
theorem Keep.lst {p : Addr} {vs : List V} {o : HO} (h : H p = some (.lst vs)) : Keep K H (upd H p o) := by
  refine ⟨fun a xs q => ?_, fun a xs q => ?_⟩
  · rcases q with (q | ⟨o', q⟩) | q
    · exact .inl (.inl (by rw [upd_ne (ne_of q h (by simp))]; exact q))
    · exact .inl (.inr ⟨o', by rw [upd_ne (ne_of q h (by simp))]; exact q⟩)
    · exact .inr q
  · rcases q with ⟨o', q⟩ | q
    · exact .inl ⟨o', by rw [upd_ne (ne_of q h (by simp))]; exact q⟩
    · exact .inr q

/-- what stands at a changeable address -/
def RO (K : PySem.W.Frag) (H : Hp) (a : Addr) : DO → Prop
  | .lst xs => ∃ vs, H a = some (.lst vs) ∧ RDs K H xs vs
  | .ins C dx fs => ∃ gs, H a = some (.ins C dx gs) ∧ RDs K H (fs.map (·.2)) (gs.map (·.2)) ∧ fs.map (·.1) = gs.map (·.1)
  | .dct kvs => ∃ gs, H a = some (.dK gs) ∧ RDs K H (kvs.map (·.2)) (gs.map (·.2)) ∧ kvs.map (·.1) = gs.map (·.1)
def RM (K : PySem.W.Frag) (H : Hp) (m : M) : Prop := ∀ a o, m a = some o → RO K H a o
theorem RM.free {m : M} (r : RM K H m) {p : Addr} (h : H p = none) : m p = none := by
  cases e : m p with
  | none => rfl
  | some o =>
    have q := r p o e
    cases o with
    | lst xs => obtain ⟨vs, e1, _⟩ := q; rw [h] at e1; cases e1
    | ins C dx fs => obtain ⟨vs, e1, _⟩ := q; rw [h] at e1; cases e1
    | dct kvs => obtain ⟨vs, e1, _⟩ := q; rw [h] at e1; cases e1
/-- objects that stay as they are -/
theorem RO.stay {a : Addr} {o : DO} (q : RO K H a o) (k : Keep K H H') (e : H' a = H a) : RO K H' a o := by
  cases o with
  | lst xs => obtain ⟨vs, e1, r⟩ := q; exact ⟨vs, e.trans e1, r.mono k⟩
  | ins C dx fs => obtain ⟨vs, e1, r⟩ := q; exact ⟨vs, e.trans e1, r.1.mono k, r.2⟩
  | dct kvs => obtain ⟨vs, e1, r⟩ := q; exact ⟨vs, e.trans e1, r.1.mono k, r.2⟩
theorem RM.new {m : M} (r : RM K H m) {p : Addr} {o : HO} (h : H p = none) : RM K (upd H p o) m := fun a u e => by
  have n : a ≠ p := fun z => by rw [z, r.free h] at e; cases e
  exact (r a u e).stay (Keep.new h) (upd_ne n)
theorem RM.newPut {m : M} (r : RM K H m) {p : Addr} {vs : List V} {xs : List D} (h : H p = none) (q : RDs K H xs vs) : RM K (upd H p (.lst vs)) (put m p (.lst xs)) := fun a u e => by
  by_cases n : a = p
  · subst n
    rw [put_same] at e; cases e
    exact ⟨vs, upd_same, q.mono (Keep.new h)⟩
  · rw [put_ne n] at e
    exact (r a u e).stay (Keep.new h) (upd_ne n)
theorem RM.setPut {m : M} (r : RM K H m) {p : Addr} {ws vs : List V} {xs : List D} (h : H p = some (.lst ws)) (q : RDs K H xs vs) : RM K (upd H p (.lst vs)) (put m p (.lst xs)) := fun a u e => by
  by_cases n : a = p
  · subst n
    rw [put_same] at e; cases e
    exact ⟨vs, upd_same, q.mono (Keep.lst h)⟩
  · rw [put_ne n] at e
    exact (r a u e).stay (Keep.lst h) (upd_ne n)
/-- forgetting -/
theorem RM.less {m m' : M} (r : RM K H m) (h : ∀ a o, m' a = some o → m a = some o) : RM K H m' := fun a o e => r a o (h a o e)

abbrev DS := List (Option D)
structure RS (K : PySem.W.Frag) (H : Hp) (sd : DS) (σ : St) : Prop where
  len : sd.length = σ.length
  get : ∀ (i : Nat) (d : D), sd[i]? = some (some d) → ∃ v, σ[i]? = some (some v) ∧ RD K H d v
theorem RS.mono {sd : DS} {σ : St} (r : RS K H sd σ) (k : Keep K H H') : RS K H' sd σ :=
  ⟨r.len, fun i d e => let ⟨v, e1, q⟩ := r.get i d e; ⟨v, e1, q.mono k⟩⟩
theorem RS.set {sd : DS} {σ : St} (r : RS K H sd σ) (i : Nat) {d : D} {v : V} (q : RD K H d v) : RS K H (sd.set i (some d)) (σ.set i (some v)) :=
  ⟨by rw [List.length_set, List.length_set, r.len], fun j e h => by
    by_cases hj : i = j
    · subst hj
      by_cases hi : i < sd.length
      · rw [List.getElem?_set_self hi] at h
        cases h
        exact ⟨v, List.getElem?_set_self (by rw [← r.len]; exact hi), q⟩
      · rw [List.getElem?_eq_none (by rw [List.length_set]; omega)] at h
        cases h
    · rw [List.getElem?_set_ne hj] at h
      obtain ⟨u, e1, q1⟩ := r.get j e h
      exact ⟨u, by rw [List.getElem?_set_ne hj]; exact e1, q1⟩⟩
theorem RS.start {N : List Str} {ds : List D} {vs : List V} (r : RDs K H ds vs) : RS K H (ds.map some ++ List.replicate (N.length - ds.length) none) (L2.start N vs) := by
  refine ⟨?_, fun i d e => ?_⟩
  · unfold L2.start
    simp [r.length]
  · unfold L2.start
    by_cases hi : i < ds.length
    · rw [List.getElem?_append_left (by simpa using hi), List.getElem?_map] at e
      cases q : ds[i]? with
      | none => rw [q] at e; cases e
      | some d' =>
        rw [q] at e
        have e' : d' = d := by simpa using e
        subst e'
        obtain ⟨v, h1, h2⟩ := r.get q
        exact ⟨v, by rw [List.getElem?_append_left (by simp; rw [← r.length]; exact hi), List.getElem?_map, h1]; rfl, h2⟩
    · rw [List.getElem?_append_right (by simpa using Nat.le_of_not_lt hi), List.getElem?_replicate] at e
      split at e <;> cases e
end
def Less (m' m : M) : Prop := ∀ a o, m' a = some o → m a = some o
theorem Less.refl (m : M) : Less m m := fun _ _ h => h
theorem Less.trans {a b c : M} (h : Less a b) (h' : Less b c) : Less a c := fun x o e => h' x o (h x o e)
theorem Less.new {m : M} {p : Addr} {o : DO} (h : m p = none) : Less m (put m p o) := fun a u e => by
  rw [put_ne (fun z => by rw [z, h] at e; cases e)]
  exact e
theorem Less.put {m m' : M} {p : Addr} {o : DO} (h : Less m m') : Less (Q4.put m p o) (Q4.put m' p o) := fun a u e => by
  by_cases n : a = p
  · subst n; rw [put_same] at e ⊢; exact e
  · rw [put_ne n] at e ⊢; exact h a u e
/-- less may be known -/
def Fg (J : List (Option D) → M → Prop) : List (Option D) → M → Prop := fun sd m => ∃ m', Less m' m ∧ J sd m'
end Q4

set_option Elab.async false
set_option linter.all false
set_option maxRecDepth 100000
namespace Q4
open PySem L2
abbrev DK := D → M → Prop
abbrev DXK := Value → Option (List (Str × D)) → M → Prop
abbrev TDE := DS → M → DK → Prop
abbrev TDT := DS → M → (Bool → M → Prop) → Prop
abbrev TDA := DS → M → (List D → M → Prop) → Prop
structure DEnds where
  nx : DS → M → Prop
  rt : DK
  bk : DS → M → Prop := fun _ _ => False
  ct : DS → M → Prop := fun _ _ => False
abbrev TDS := DEnds → DS → M → Prop
structure At (K : PySem.W.Frag) (H0 : Hp) (sd : DS) (m : M) (σ : St) (H : Hp) : Prop where
  s : RS K H sd σ
  m : RM K H m
  k : Keep K H0 H
section
variable (K : PySem.W.Frag) (H0 : Hp)
def lE (t : TDE) : TE := fun σ H Q => ∃ sd m P, At K H0 sd m σ H ∧ t sd m P ∧ ∀ d m' v H', Keep K H H' → RM K H' m' → RD K H' d v → P d m' → Q v H'
def lT (t : TDT) : TT := fun σ H Q => ∃ sd m P, At K H0 sd m σ H ∧ t sd m P ∧ ∀ b m' H', Keep K H H' → RM K H' m' → P b m' → Q b H'
def lA (t : TDA) : TA := fun σ H Q => ∃ sd m P, At K H0 sd m σ H ∧ t sd m P ∧ ∀ ds m' vs H', Keep K H H' → RM K H' m' → RDs K H' ds vs → P ds m' → Q vs H'
def lS (t : TDS) : TS := fun D σ H => ∃ sd m DD, At K H0 sd m σ H ∧ t DD sd m ∧
  (∀ sd' m' σ' H', Keep K H H' → RS K H' sd' σ' → RM K H' m' → DD.nx sd' m' → D.nx σ' H') ∧
  (∀ d m' v H', Keep K H H' → RM K H' m' → RD K H' d v → DD.rt d m' → D.rt v H') ∧
  (∀ sd' m' σ' H', Keep K H H' → RS K H' sd' σ' → RM K H' m' → DD.bk sd' m' → D.bk σ' H') ∧
  (∀ sd' m' σ' H', Keep K H H' → RS K H' sd' σ' → RM K H' m' → DD.ct sd' m' → D.ct σ' H')
end
section
variable {K : PySem.W.Frag} {H0 H H' : Hp} {sd : DS} {m m' : M} {σ : St}
theorem At.to (a : At K H0 sd m σ H) (k : Keep K H H') (r : RM K H' m') : At K H0 sd m' σ H' := ⟨a.s.mono k, r, a.k.trans k⟩
theorem At.toS {sd' : DS} {σ' : St} (a : At K H0 sd m σ H) (k : Keep K H H') (s : RS K H' sd' σ') (r : RM K H' m') : At K H0 sd' m' σ' H' := ⟨s, r, a.k.trans k⟩
end
section
variable {X : Cx} {H0 : Hp}
theorem peL {e : Expr} {t t' : TE} (h : PE X e t) (i : ∀ σ H Q, t' σ H Q → t σ H Q) : PE X e t' := ⟨fun pins s σ H Q I ht => h.run pins s σ H Q I (i _ _ _ ht)⟩
theorem ptL {e : Expr} {t t' : TT} (h : PT X e t) (i : ∀ σ H Q, t' σ H Q → t σ H Q) : PT X e t' := ⟨fun pins s σ H Q I ht => h.run pins s σ H Q I (i _ _ _ ht)⟩
theorem pwL {e : Expr} {t t' : TT} (h : PW X e t) (i : ∀ σ H Q, t' σ H Q → t σ H Q) : PW X e t' := ⟨fun wh pins s σ H Q I ht => h.run wh pins s σ H Q I (i _ _ _ ht)⟩
theorem paL {e : List Expr} {t t' : TA} (h : PA X e t) (i : ∀ σ H Q, t' σ H Q → t σ H Q) : PA X e t' := ⟨fun p pins s σ H Q I ht => h.run p pins s σ H Q I (i _ _ _ ht)⟩
theorem psL {e : Stmt} {t t' : TS} (h : PS X e t) (i : ∀ D σ H, t' D σ H → t D σ H) : PS X e t' := ⟨fun pins s σ H Q I ht => h.run pins s σ H Q I (i _ _ _ ht)⟩
theorem pssL {e : List Stmt} {t t' : TS} (h : PSs X e t) (i : ∀ D σ H, t' D σ H → t D σ H) : PSs X e t' := ⟨fun pins s σ H Q I ht => h.run pins s σ H Q I (i _ _ _ ht)⟩

/-! ### names, constants -/
def dVar (i : Nat) : TDE := fun sd m P => ∃ d, sd[i]? = some (some d) ∧ P d m
def dC (d : D) : TDE := fun _ m P => P d m
theorem l_var {K : PySem.W.Frag} {i : Nat} {σ : St} {H : Hp} {Q : VK} (h : lE K H0 (dVar i) σ H Q) : tVar i σ H Q := by
  obtain ⟨sd, m, P, a, ⟨d, e, p⟩, q⟩ := h
  obtain ⟨v, e1, r⟩ := a.s.get i d e
  exact ⟨v, e1, q d m v H (Keep.refl _) a.m r p⟩
theorem qv (i : Nat) {x : Str} {pos : Pos} (hN : X.N[i]? = some x := by rfl) (hv : Vis X.env.scope x := by first | exact Or.inl rfl | exact Or.inr (Or.inl rfl) | exact Or.inr (Or.inr rfl)) (hd : (x == ("__debug__" : Str)) = false := by decide)
    (hcd : (x == ("__classdict__" : Str)) = false := by decide) : PE X (.Name x pos) (lE X.K H0 (dVar i)) := peL (pv i hN hv hd hcd) fun _ _ _ => l_var
theorem l_c {K : PySem.W.Frag} {d : D} {v : V} {σ : St} {H : Hp} {Q : VK} (r : ∀ H, RD K H d v) (h : lE K H0 (dC d) σ H Q) : tC v σ H Q := by
  obtain ⟨sd, m, P, a, p, q⟩ := h
  exact q d m v H (Keep.refl _) a.m (r H) p
theorem qe_int {i : Int} {j pos} : PE X (.Constant (.int i) j pos) (lE X.K H0 (dC (.int i))) := peL pe_int fun _ _ _ => l_c fun _ => .int i
theorem qe_bl {i : Bool} {j pos} : PE X (.Constant (.bool i) j pos) (lE X.K H0 (dC (.bl i))) := peL pe_bl fun _ _ _ => l_c fun _ => .bl i
theorem qe_str {i : Str} {j pos} : PE X (.Constant (.str i) j pos) (lE X.K H0 (dC (.str i))) := peL pe_str fun _ _ _ => l_c fun _ => .str i
theorem qe_non {j pos} : PE X (.Constant .none j pos) (lE X.K H0 (dC .non)) := peL pe_non fun _ _ _ => l_c fun _ => .non
/-- a module's constant -/
theorem qe_glob {x : Str} {v : V} {d : D} {u : Value} {pos : Pos} (hg : Gl X x) (hm : X.mg x = some u) (r : RelV v u) (rd : ∀ H, RD X.K H d v) (hd : (x == ("__debug__" : Str)) = false := by decide) : PE X (.Name x pos) (lE X.K H0 (dC d)) :=
  peL (pe_glob hg hm r hd) fun _ _ _ => l_c rd
theorem qe_bltn {x : Str} {v : V} {d : D} {u : Value} {pos : Pos} (hg : Gl X x) (hm : X.mg x = none) (hv : bootBuiltins x = some u) (r : RelV v u) (rd : ∀ H, RD X.K H d v) (hn : x ≠ "__name__" := by decide) (hd : (x == ("__debug__" : Str)) = false := by decide) : PE X (.Name x pos) (lE X.K H0 (dC d)) :=
  peL (pe_bltn hg hm hv r hn hd) fun _ _ _ => l_c rd

/-! ### operators by values -/
abbrev R2D := D → D → M → DK → Prop
abbrev R1D := D → M → DK → Prop
abbrev RnD := List D → M → DK → Prop
def Wants (K : PySem.W.Frag) (H : Hp) (P : DK) (Q : VK) : Prop := ∀ d m' w H', Keep K H H' → RM K H' m' → RD K H' d w → P d m' → Q w H'
theorem Wants.mono {K : PySem.W.Frag} {H H' : Hp} {P : DK} {Q : VK} (h : Wants K H P Q) (k : Keep K H H') : Wants K H' P Q := fun d m' w H2 k2 => h d m' w H2 (k.trans k2)
def Lift2 (K : PySem.W.Frag) (r' : R2D) (r : R2) : Prop := ∀ H m x y u v P Q, RM K H m → RD K H x u → RD K H y v → r' x y m P → Wants K H P Q → r u v H Q
def Lift1 (K : PySem.W.Frag) (r' : R1D) (r : V → Hp → VK → Prop) : Prop := ∀ H m x u P Q, RM K H m → RD K H x u → r' x m P → Wants K H P Q → r u H Q
def LiftN (K : PySem.W.Frag) (r' : RnD) (r : List V → Hp → VK → Prop) : Prop := ∀ H m xs us P Q, RM K H m → RDs K H xs us → r' xs m P → Wants K H P Q → r us H Q
def dOp (r : R2D) (ta tb : TDE) : TDE := fun sd m P => ta sd m fun x m1 => tb sd m1 fun y m2 => r x y m2 P
def dUn (r : R1D) (ta : TDE) : TDE := fun sd m P => ta sd m fun x m1 => r x m1 P
theorem l_op {K : PySem.W.Frag} {r' : R2D} {r : R2} {ta tb : TDE} {σ : St} {H : Hp} {Q : VK} (l : Lift2 K r' r) (h : lE K H0 (dOp r' ta tb) σ H Q) : tOp r (lE K H0 ta) (lE K H0 tb) σ H Q := by
  obtain ⟨sd, m, P, a, p, q⟩ := h
  refine ⟨sd, m, _, a, p, fun x m1 u H1 k1 r1 d1 p1 => ?_⟩
  refine ⟨sd, m1, _, a.to k1 r1, p1, fun y m2 v H2 k2 r2 d2 p2 => ?_⟩
  exact l H2 m2 x y u v P Q r2 (d1.mono k2) d2 p2 fun d m' w H' k => q d m' w H' ((k1.trans k2).trans k)
theorem l_un {K : PySem.W.Frag} {r' : R1D} {r : V → Hp → VK → Prop} {ta : TDE} {σ : St} {H : Hp} {Q : VK} (l : Lift1 K r' r) (h : lE K H0 (dUn r' ta) σ H Q) : tUn r (lE K H0 ta) σ H Q := by
  obtain ⟨sd, m, P, a, p, q⟩ := h
  refine ⟨sd, m, _, a, p, fun x m1 u H1 k1 r1 d1 p1 => ?_⟩
  exact l H1 m1 x u P Q r1 d1 p1 fun d m' w H' k => q d m' w H' (k1.trans k)
structure OpD (X : Cx) (f : Value → Value → Sem Value) (r' : R2D) : Prop where
  ex : ∃ r, OpR X f r ∧ Lift2 X.K r' r
theorem qe_op {a b : Expr} {op : Operator} {pos : Pos} {r' : R2D} {ta tb : TDE} (o : OpD X (binaryOp op) r') (ha : PE X a (lE X.K H0 ta)) (hb : PE X b (lE X.K H0 tb)) : PE X (.BinOp a op b pos) (lE X.K H0 (dOp r' ta tb)) := by
  obtain ⟨r, h1, h2⟩ := o.ex
  exact peL (pe_op h1 ha hb) fun _ _ _ => l_op h2
theorem qe_cmp {a b : Expr} {op : CmpOp} {pos : Pos} {r' : R2D} {ta tb : TDE} (o : OpD X (compareOp op) r') (ha : PE X a (lE X.K H0 ta)) (hb : PE X b (lE X.K H0 tb)) (hm : behindInMarks op b = false) : PE X (.Compare a [op] [b] pos) (lE X.K H0 (dOp r' ta tb)) := by
  obtain ⟨r, h1, h2⟩ := o.ex
  exact peL (pe_cmpR h1 ha hb hm) fun _ _ _ => l_op h2
theorem OpD.or {f : Value → Value → Sem Value} {r r' : R2D} (h : OpD X f r) (h' : OpD X f r') : OpD X f (fun x y m P => r x y m P ∨ r' x y m P) := by
  obtain ⟨r1, h1, h2⟩ := h.ex
  obtain ⟨r3, h3, h4⟩ := h'.ex
  refine ⟨fun x y H Q => r1 x y H Q ∨ r3 x y H Q, ?_, ?_⟩
  · intro pins s σ H x y v u Q I rx ry q
    rcases q with q | q
    · exact h1 pins s σ H x y v u Q I rx ry q
    · exact h3 pins s σ H x y v u Q I rx ry q
  · intro H m x y u v P Q a b c d e
    exact d.imp (fun d => h2 H m x y u v P Q a b c d e) fun d => h4 H m x y u v P Q a b c d e
theorem OpD.imp {f : Value → Value → Sem Value} {r r' : R2D} (h : OpD X f r) (i : ∀ x y m P, r' x y m P → r x y m P) : OpD X f r' := by
  obtain ⟨r1, h1, h2⟩ := h.ex
  exact ⟨r1, h1, fun H m x y u v P Q a b c d e => h2 H m x y u v P Q a b c (i _ _ _ _ d) e⟩
end
end Q4

set_option Elab.async false
set_option linter.all false
set_option maxRecDepth 100000
namespace Q4
open PySem L2
section
variable {K : PySem.W.Frag} {H : Hp}
theorem RD.int_ {i : Int} {u : V} (h : RD K H (.int i) u) : u = .int i := by cases h; rfl
theorem RD.str_ {i : Str} {u : V} (h : RD K H (.str i) u) : u = .str i := by cases h; rfl
theorem RD.bl_ {i : Bool} {u : V} (h : RD K H (.bl i) u) : u = .bl i := by cases h; rfl
theorem RD.non_ {u : V} (h : RD K H .non u) : u = .non := by cases h; rfl
theorem RD.ref_ {a : Addr} {u : V} (h : RD K H (.ref a) u) : u = .ref a := by cases h; rfl
theorem RD.ty_ {n : String} {u : V} (h : RD K H (.ty n) u) : u = .ty n := by cases h; rfl
theorem RD.tup_ {xs : List D} {u : V} (h : RD K H (.tup xs) u) : ∃ a vs, u = .ref a ∧ SqT K H a vs ∧ RDs K H xs vs := by cases h; exact ⟨_, _, rfl, by assumption, by assumption⟩
theorem RD.rol_ {xs : List D} {u : V} (h : RD K H (.rol xs) u) : ∃ a vs, u = .ref a ∧ FrzL K H a vs ∧ RDs K H xs vs := by cases h; exact ⟨_, _, rfl, by assumption, by assumption⟩
theorem RDs.one_ {x : D} {us : List V} (h : RDs K H [x] us) : ∃ u, us = [u] ∧ RD K H x u := by
  cases h with | cons a b => cases b; exact ⟨_, rfl, a⟩
theorem RDs.two_ {x y : D} {us : List V} (h : RDs K H [x, y] us) : ∃ u v, us = [u, v] ∧ RD K H x u ∧ RD K H y v := by
  cases h with | cons a b => cases b with | cons c d => cases d; exact ⟨_, _, rfl, a, c⟩
theorem RDs.three_ {x y z : D} {us : List V} (h : RDs K H [x, y, z] us) : ∃ u v w, us = [u, v, w] ∧ RD K H x u ∧ RD K H y v ∧ RD K H z w := by
  cases h with | cons a b => cases b with | cons c d => cases d with | cons e f => cases f; exact ⟨_, _, _, rfl, a, c, e⟩
theorem RDs.nil_ {us : List V} (h : RDs K H [] us) : us = [] := by cases h; rfl
end
/-- ints in, one scalar out -/
def rI2 (C : Int → Int → Prop) (g : Int → Int → D) : R2D := fun x y m P => match x, y with
  | .int i, .int j => C i j ∧ P (g i j) m
  | _, _ => False
section
variable {X : Cx} {f : Value → Value → Sem Value}
theorem opd_I {C : Int → Int → Prop} {g : Int → Int → V} {gd : Int → Int → D} (h : OpR X f (rI C g)) (r : ∀ H i j, RD X.K H (gd i j) (g i j)) : OpD X f (rI2 C gd) := by
  refine ⟨_, h, fun H m x y u v P Q rm rx ry p q => ?_⟩
  unfold rI2 at p
  split at p
  · obtain ⟨c, p⟩ := p
    cases rx.int_
    cases ry.int_
    exact ⟨_, _, rfl, rfl, c, q _ m _ H (Keep.refl _) rm (r H _ _) p⟩
  · exact p.elim
theorem opd_I0 {g : Int → Int → V} {gd : Int → Int → D} (h : OpR X f (rI0 g)) (r : ∀ H i j, RD X.K H (gd i j) (g i j)) : OpD X f (rI2 (fun _ _ => True) gd) := by
  refine ⟨_, h, fun H m x y u v P Q rm rx ry p q => ?_⟩
  unfold rI2 at p
  split at p
  · obtain ⟨c, p⟩ := p
    cases rx.int_
    cases ry.int_
    exact ⟨_, _, rfl, rfl, q _ m _ H (Keep.refl _) rm (r H _ _) p⟩
  · exact p.elim
/-! ### + -/
def rAdd : R2D := fun x y m P => match x, y with
  | .int i, .int j => P (.int (i + j)) m
  | .str a, .str b => a.length + b.length ≤ sizeLine ∧ P (.str (a ++ b)) m
  | .tup xs, .tup ys => xs.length + ys.length ≤ sizeLine ∧ P (.tup (xs ++ ys)) m
  | .ref a, .ref b => ∃ xs ys, m a = some (.lst xs) ∧ m b = some (.lst ys) ∧ xs.length + ys.length ≤ sizeLine ∧ ∀ p, m p = none → P (.ref p) (put m p (.lst (xs ++ ys)))
  | _, _ => False
theorem od_add : OpD X (binaryOp .Add) rAdd := by
  have h1 : OpD X (binaryOp .Add) (rI2 (fun _ _ => True) fun i j => .int (i + j)) := opd_I0 op_add fun _ _ _ => .int _
  have h2 : OpD X (binaryOp .Add) (fun x y m P => ∃ a b, x = .str a ∧ y = .str b ∧ a.length + b.length ≤ sizeLine ∧ P (.str (a ++ b)) m) := by
    refine ⟨_, op_add_str, fun H m x y u v P Q rm rx ry p q => ?_⟩
    obtain ⟨a, b, rfl, rfl, z, p⟩ := p
    cases rx.str_
    cases ry.str_
    exact ⟨_, _, rfl, rfl, z, q _ m _ H (Keep.refl _) rm (.str _) p⟩
  have h3 : OpD X (binaryOp .Add) (fun x y m P => ∃ xs ys, x = .tup xs ∧ y = .tup ys ∧ xs.length + ys.length ≤ sizeLine ∧ P (.tup (xs ++ ys)) m) := by
    refine ⟨_, op_catA, fun H m x y u v P Q rm rx ry p q => ?_⟩
    obtain ⟨xs, ys, rfl, rfl, z, p⟩ := p
    obtain ⟨a, vs, rfl, ha, r1⟩ := rx.tup_
    obtain ⟨b, us, rfl, hb, r2⟩ := ry.tup_
    refine ⟨a, b, vs, us, rfl, rfl, ha, hb, by rw [← r1.length, ← r2.length]; exact z, fun e => ?_, fun e e2 => ?_, fun e e2 p' hp => ?_⟩
    · subst e
      have : xs = [] := List.length_eq_zero_iff.mp r1.length
      subst this
      exact q _ m _ H (Keep.refl _) rm (.tup hb r2) p
    · subst e2
      have : ys = [] := List.length_eq_zero_iff.mp r2.length
      subst this
      exact q _ m _ H (Keep.refl _) rm (.tup ha (by simpa using r1)) p
    · exact q _ m _ _ (Keep.new hp) (rm.new hp) (.tup (.inl (.inl upd_same)) ((r1.append r2).mono (Keep.new hp))) p
  have h4 : OpD X (binaryOp .Add) (fun x y m P => ∃ a b xs ys, x = .ref a ∧ y = .ref b ∧ m a = some (.lst xs) ∧ m b = some (.lst ys) ∧ xs.length + ys.length ≤ sizeLine ∧ ∀ p, m p = none → P (.ref p) (put m p (.lst (xs ++ ys)))) := by
    refine ⟨_, op_cat, fun H m x y u v P Q rm rx ry p q => ?_⟩
    obtain ⟨a, b, xs, ys, rfl, rfl, ha, hb, z, p⟩ := p
    cases rx.ref_
    cases ry.ref_
    obtain ⟨vs, e1, r1⟩ := rm a _ ha
    obtain ⟨us, e2, r2⟩ := rm b _ hb
    refine ⟨a, b, vs, us, rfl, rfl, e1, e2, by rw [← r1.length, ← r2.length]; exact z, fun p' hp => ?_⟩
    exact q _ _ _ _ (Keep.new hp) (rm.newPut hp (r1.append r2)) (.ref p') (p p' (rm.free hp))
  refine (h1.or (h2.or (h3.or h4))).imp fun x y m P p => ?_
  unfold rAdd at p
  split at p
  · exact .inl ⟨trivial, p⟩
  · exact .inr (.inl ⟨_, _, rfl, rfl, p⟩)
  · exact .inr (.inr (.inl ⟨_, _, rfl, rfl, p⟩))
  · obtain ⟨xs, ys, p⟩ := p
    exact .inr (.inr (.inr ⟨_, _, xs, ys, rfl, rfl, p⟩))
  · exact p.elim
/-! ### other arithmetic -/
abbrev rSub : R2D := rI2 (fun _ _ => True) fun i j => .int (i - j)
theorem od_sub : OpD X (binaryOp .Sub) rSub := opd_I0 op_sub fun _ _ _ => .int _
abbrev rFdiv : R2D := rI2 CDivW fun i j => .int (i / j)
theorem od_fdiv : OpD X (binaryOp .FloorDiv) rFdiv := opd_I op_fdivW fun _ _ _ => .int _
abbrev rMod : R2D := rI2 (fun _ j => 0 < j) fun i j => .int (i % j)
theorem od_mod : OpD X (binaryOp .Mod) rMod := opd_I op_mod fun _ _ _ => .int _
abbrev rPow : R2D := rI2 CPow fun i j => .int (i ^ j.toNat)
theorem od_pow : OpD X (binaryOp .Pow) rPow := opd_I op_pow fun _ _ _ => .int _
def rMul : R2D := fun x y m P => match x, y with
  | .int i, .int j => CMul i j ∧ P (.int (i * j)) m
  | .ref a, .int k => ∃ xs, m a = some (.lst xs) ∧ -(2 ^ 63) ≤ k ∧ k < 2 ^ 63 ∧ xs.length * k.toNat ≤ sizeLine ∧ ∀ p, m p = none → P (.ref p) (put m p (.lst (List.replicate k.toNat xs).flatten))
  | _, _ => False
theorem RDs.flat {K : PySem.W.Frag} {H : Hp} {xs : List D} {vs : List V} (r : RDs K H xs vs) : ∀ n : Nat, RDs K H (List.replicate n xs).flatten (List.replicate n vs).flatten
  | 0 => .nil
  | n + 1 => by
    rw [List.replicate_succ, List.replicate_succ, List.flatten_cons, List.flatten_cons]
    exact r.append (r.flat n)
theorem od_mul : OpD X (binaryOp .Mult) rMul := by
  have h1 : OpD X (binaryOp .Mult) (rI2 CMul fun i j => .int (i * j)) := opd_I op_mul fun _ _ _ => .int _
  have h2 : OpD X (binaryOp .Mult) (fun x y m P => ∃ a k xs, x = .ref a ∧ y = .int k ∧ m a = some (.lst xs) ∧ -(2 ^ 63) ≤ k ∧ k < 2 ^ 63 ∧ xs.length * k.toNat ≤ sizeLine ∧ ∀ p, m p = none → P (.ref p) (put m p (.lst (List.replicate k.toNat xs).flatten))) := by
    refine ⟨_, op_rep, fun H m x y u v P Q rm rx ry p q => ?_⟩
    obtain ⟨a, k, xs, rfl, rfl, ha, h1, h2, z, p⟩ := p
    cases rx.ref_
    cases ry.int_
    obtain ⟨vs, e1, r1⟩ := rm a _ ha
    refine ⟨a, k, vs, rfl, rfl, e1, h1, h2, by rw [← r1.length]; exact z, fun p' hp => ?_⟩
    exact q _ _ _ _ (Keep.new hp) (rm.newPut hp (r1.flat _)) (.ref p') (p p' (rm.free hp))
  refine (h1.or h2).imp fun x y m P p => ?_
  unfold rMul at p
  split at p
  · exact .inl p
  · obtain ⟨xs, p⟩ := p
    exact .inr ⟨_, _, xs, rfl, rfl, p⟩
  · exact p.elim
/-! ### order -/
def rLtD : R2D := rI2 (fun _ _ => True) fun i j => .bl (decide (i < j))
def rLeD : R2D := rI2 (fun _ _ => True) fun i j => .bl (decide (i ≤ j))
def rGtD : R2D := rI2 (fun _ _ => True) fun i j => .bl (decide (j < i))
def rGeD : R2D := rI2 (fun _ _ => True) fun i j => .bl (decide (j ≤ i))
theorem od_lt : OpD X (compareOp .Lt) rLtD := opd_I0 op_lt fun _ _ _ => .bl _
theorem od_le : OpD X (compareOp .LtE) rLeD := opd_I0 op_le fun _ _ _ => .bl _
theorem od_gt : OpD X (compareOp .Gt) rGtD := opd_I0 op_gt fun _ _ _ => .bl _
theorem od_ge : OpD X (compareOp .GtE) rGeD := opd_I0 op_ge fun _ _ _ => .bl _
end
/-! ### == -/
mutual
def D.py : D → PyData
  | .non => .none
  | .bl b => .bool b
  | .int i => .int i
  | .str x => .str x
  | .tup xs => .tuple (D.pys xs)
  | .rol _ => .dict []
  | .ref _ => .dict []
  | .ty _ => .dict []
def D.pys : List D → List PyData
  | [] => []
  | x :: xs => x.py :: D.pys xs
end
mutual
theorem dp_of {K : PySem.W.Frag} {H : Hp} : ∀ {d : D} {v : V}, RD K H d v → d.py.canLay0 = true → Dp K H v d.py
  | _, _, .non, _ => .non
  | _, _, .bl b, _ => .bl b
  | _, _, .int b, _ => .int b
  | _, _, .str b, _ => .str b
  | _, _, .ref b, h => by simp [D.py, PyData.canLay0] at h
  | _, _, .ty b, h => by simp [D.py, PyData.canLay0] at h
  | _, _, .rol _ _, h => by simp [D.py, PyData.canLay0] at h
  | _, _, .tup (ds := ds) hs r, h => .tup hs (dps_of r (by simpa [D.py, PyData.canLay0] using h))
theorem dps_of {K : PySem.W.Frag} {H : Hp} : ∀ {d : List D} {v : List V}, RDs K H d v → PyData.canLayAll0 (D.pys d) = true → DpAll K H v (D.pys d)
  | _, _, .nil, _ => .nil
  | _, _, .cons (d := d) (ds := ds) h r, z => by
    have z' : d.py.canLay0 = true ∧ PyData.canLayAll0 (D.pys ds) = true := by simpa [D.pys, PyData.canLayAll0] using z
    exact .cons (dp_of h z'.1) (dps_of r z'.2)
end
def okD (d : D) : Prop := SeqAt.shaped d.py = true
def eqD (x y : D) : Bool := PyData.eqv x.py y.py
def rEqD : R2D := fun x y m P => match x, y with
  | .int i, .int j => P (.bl (decide (i = j))) m
  | .str i, .str j => P (.bl (decide (i = j))) m
  | .bl i, .bl j => P (.bl (decide (i = j))) m
  | .int _, .str _ => P (.bl false) m
  | .str _, .int _ => P (.bl false) m
  | x, y => okD x ∧ okD y ∧ P (.bl (eqD x y)) m
def rNeD : R2D := fun x y m P => match x, y with
  | .int i, .int j => P (.bl (!decide (i = j))) m
  | .str i, .str j => P (.bl (!decide (i = j))) m
  | .bl i, .bl j => P (.bl (!decide (i = j))) m
  | .int _, .str _ => P (.bl true) m
  | .str _, .int _ => P (.bl true) m
  | x, y => okD x ∧ okD y ∧ P (.bl (!eqD x y)) m
section
variable {X : Cx}
theorem od_eq (hu : X.A.units + 64 < cLine) : OpD X (compareOp .Eq) rEqD := by
  have h1 : OpD X (compareOp .Eq) (fun x y m P => ∃ u v, (∀ H, RD X.K H x u → True) ∧ (∀ H w, RD X.K H x w → w = u) ∧ (∀ H w, RD X.K H y w → w = v) ∧ scal u v = true ∧ P (.bl (decide (u = v))) m) := by
    refine ⟨_, op_eq, fun H m x y u v P Q rm rx ry p q => ?_⟩
    obtain ⟨u', v', _, e1, e2, s, p⟩ := p
    cases e1 _ _ rx
    cases e2 _ _ ry
    exact ⟨s, q _ m _ H (Keep.refl _) rm (.bl _) p⟩
  have h2 : OpD X (compareOp .Eq) (fun x y m P => okD x ∧ okD y ∧ P (.bl (eqD x y)) m) := by
    refine ⟨_, op_eqD hu, fun H m x y u v P Q rm rx ry p q => ?_⟩
    obtain ⟨o1, o2, p⟩ := p
    exact ⟨_, _, dp_of rx (SeqAt.canLay_of_shaped o1), dp_of ry (SeqAt.canLay_of_shaped o2), o1, o2, q _ m _ H (Keep.refl _) rm (.bl _) p⟩
  refine (h1.or h2).imp fun x y m P p => ?_
  unfold rEqD at p
  split at p
  · exact .inl ⟨_, _, fun _ _ => trivial, fun _ _ r => r.int_, fun _ _ r => r.int_, rfl, by rw [dec_int, ← Bool.beq_eq_decide_eq] at *; simpa [Bool.beq_eq_decide_eq] using p⟩
  · exact .inl ⟨_, _, fun _ _ => trivial, fun _ _ r => r.str_, fun _ _ r => r.str_, rfl, by simpa using p⟩
  · exact .inl ⟨_, _, fun _ _ => trivial, fun _ _ r => r.bl_, fun _ _ r => r.bl_, rfl, by simpa using p⟩
  · exact .inl ⟨_, _, fun _ _ => trivial, fun _ _ r => r.int_, fun _ _ r => r.str_, rfl, by simpa using p⟩
  · exact .inl ⟨_, _, fun _ _ => trivial, fun _ _ r => r.str_, fun _ _ r => r.int_, rfl, by simpa using p⟩
  · exact .inr p
theorem od_ne (hu : X.A.units + 64 < cLine) : OpD X (compareOp .NotEq) rNeD := by
  have h1 : OpD X (compareOp .NotEq) (fun x y m P => ∃ u v, (∀ H w, RD X.K H x w → w = u) ∧ (∀ H w, RD X.K H y w → w = v) ∧ scal u v = true ∧ P (.bl (!decide (u = v))) m) := by
    refine ⟨_, op_ne, fun H m x y u v P Q rm rx ry p q => ?_⟩
    obtain ⟨u', v', e1, e2, s, p⟩ := p
    cases e1 _ _ rx
    cases e2 _ _ ry
    exact ⟨s, q _ m _ H (Keep.refl _) rm (.bl _) p⟩
  have h2 : OpD X (compareOp .NotEq) (fun x y m P => okD x ∧ okD y ∧ P (.bl (!eqD x y)) m) := by
    refine ⟨_, op_neD hu, fun H m x y u v P Q rm rx ry p q => ?_⟩
    obtain ⟨o1, o2, p⟩ := p
    exact ⟨_, _, dp_of rx (SeqAt.canLay_of_shaped o1), dp_of ry (SeqAt.canLay_of_shaped o2), o1, o2, q _ m _ H (Keep.refl _) rm (.bl _) p⟩
  refine (h1.or h2).imp fun x y m P p => ?_
  unfold rNeD at p
  split at p
  · exact .inl ⟨_, _, fun _ _ r => r.int_, fun _ _ r => r.int_, rfl, by simpa using p⟩
  · exact .inl ⟨_, _, fun _ _ r => r.str_, fun _ _ r => r.str_, rfl, by simpa using p⟩
  · exact .inl ⟨_, _, fun _ _ r => r.bl_, fun _ _ r => r.bl_, rfl, by simpa using p⟩
  · exact .inl ⟨_, _, fun _ _ r => r.int_, fun _ _ r => r.str_, rfl, by simpa using p⟩
  · exact .inl ⟨_, _, fun _ _ r => r.str_, fun _ _ r => r.int_, rfl, by simpa using p⟩
  · exact .inr p
end
end Q4

set_option Elab.async false
set_option linter.all false
set_option maxRecDepth 100000
namespace Q4
open PySem L2
section
variable {X : Cx} {H0 : Hp}
/-! ### tests -/
def dB (t : TDE) : TDT := fun sd m P => t sd m fun x m1 => match x with | .bl b => P b m1 | _ => False
def dAnd (t u : TDT) : TDT := fun sd m P => t sd m fun c m1 => if c = true then u sd m1 P else P false m1
def dOr (t u : TDT) : TDT := fun sd m P => t sd m fun c m1 => if c = true then P true m1 else u sd m1 P
def dNot (t : TDT) : TDT := fun sd m P => t sd m fun c m1 => P (!c) m1
section
variable {K : PySem.W.Frag} {σ : St} {H : Hp}
theorem l_B {t : TDE} {Q : Bool → Hp → Prop} (h : lT K H0 (dB t) σ H Q) : tB (lE K H0 t) σ H Q := by
  obtain ⟨sd, m, P, a, p, q⟩ := h
  refine ⟨sd, m, _, a, p, fun d m' v H' k r rd p' => ?_⟩
  cases d with
  | bl b => cases rd.bl_; exact ⟨b, rfl, q b m' H' k r p'⟩
  | _ => exact p'.elim
theorem l_and {t u : TDT} {Q : Bool → Hp → Prop} (h : lT K H0 (dAnd t u) σ H Q) : tAnd (lT K H0 t) (lT K H0 u) σ H Q := by
  obtain ⟨sd, m, P, a, p, q⟩ := h
  refine ⟨sd, m, _, a, p, fun b m' H' k r p' => ?_⟩
  cases b with
  | true => exact ⟨sd, m', P, a.to k r, p', fun b m2 H2 k2 => q b m2 H2 (k.trans k2)⟩
  | false => exact q _ m' H' k r p'
theorem l_or {t u : TDT} {Q : Bool → Hp → Prop} (h : lT K H0 (dOr t u) σ H Q) : tOr (lT K H0 t) (lT K H0 u) σ H Q := by
  obtain ⟨sd, m, P, a, p, q⟩ := h
  refine ⟨sd, m, _, a, p, fun b m' H' k r p' => ?_⟩
  cases b with
  | true => exact q _ m' H' k r p'
  | false => exact ⟨sd, m', P, a.to k r, p', fun b m2 H2 k2 => q b m2 H2 (k.trans k2)⟩
theorem l_not {t : TDT} {Q : Bool → Hp → Prop} (h : lT K H0 (dNot t) σ H Q) : tNot (lT K H0 t) σ H Q := by
  obtain ⟨sd, m, P, a, p, q⟩ := h
  exact ⟨sd, m, _, a, p, fun b m' H' k r p' => q _ m' H' k r p'⟩
end
theorem qt_val {e : Expr} {t : TDE} (h : PE X e (lE X.K H0 t)) (he : ∀ whole, isTrue e X.env whole = (do let v ← whole; standAt e.pos; holding [v] (truthy v)) := by intro _; rfl) : PT X e (lT X.K H0 (dB t)) := ptL (pt_val h he) fun _ _ _ => l_B
theorem l_tst {K : PySem.W.Frag} {σ : St} {H : Hp} {r' : R2D} {r : R2} {ta tb : TDE} {Q : Bool → Hp → Prop} (l : Lift2 K r' r) (h : lT K H0 (dB (dOp r' ta tb)) σ H Q) : tTest (tOp r (lE K H0 ta) (lE K H0 tb)) σ H Q := by
  refine l_op (K := K) (H0 := H0) l ?_
  obtain ⟨sd, m, P, a, p, q⟩ := h
  refine ⟨sd, m, _, a, p, fun d m' v H' k r rd p' => ?_⟩
  cases d with
  | bl b => cases rd.bl_; exact ⟨b, rfl, q b m' H' k r p'⟩
  | _ => exact p'.elim
theorem qt_cmp {a b : Expr} {op : CmpOp} {pos : Pos} {r' : R2D} {ta tb : TDE} (o : OpD X (compareOp op) r') (ha : PE X a (lE X.K H0 ta)) (hb : PE X b (lE X.K H0 tb)) (hm : behindInMarks op b = false) : PT X (.Compare a [op] [b] pos) (lT X.K H0 (dB (dOp r' ta tb))) := by
  obtain ⟨r, h1, h2⟩ := o.ex
  exact ptL (pt_cmpR h1 ha hb hm) fun _ _ _ => l_tst h2
theorem qw_and1 {a : Expr} {t : TDT} {pos : Pos} (h : PT X a (lT X.K H0 t)) : PW X (.BoolOp .And [a] pos) (lT X.K H0 t) := pw_and1 h
theorem qw_or1 {a : Expr} {t : TDT} {pos : Pos} (h : PT X a (lT X.K H0 t)) : PW X (.BoolOp .Or [a] pos) (lT X.K H0 t) := pw_or1 h
theorem qw_and {a b : Expr} {rest : List Expr} {t u : TDT} {pos : Pos} (ha : PT X a (lT X.K H0 t)) (hb : PW X (.BoolOp .And (b :: rest) pos) (lT X.K H0 u)) : PW X (.BoolOp .And (a :: b :: rest) pos) (lT X.K H0 (dAnd t u)) := pwL (pw_and ha hb) fun _ _ _ => l_and
theorem qw_or {a b : Expr} {rest : List Expr} {t u : TDT} {pos : Pos} (ha : PT X a (lT X.K H0 t)) (hb : PW X (.BoolOp .Or (b :: rest) pos) (lT X.K H0 u)) : PW X (.BoolOp .Or (a :: b :: rest) pos) (lT X.K H0 (dOr t u)) := pwL (pw_or ha hb) fun _ _ _ => l_or
theorem qt_not {a : Expr} {t : TDT} {pos : Pos} (ha : PT X a (lT X.K H0 t)) : PT X (.UnaryOp .Not a pos) (lT X.K H0 (dNot t)) := ptL (pt_not ha) fun _ _ _ => l_not
/-! ### and, or, not as values (bools) -/
def dAndV (ta tb : TDE) : TDE := fun sd m P => ta sd m fun x m1 => match x with | .bl c => if c = true then tb sd m1 P else P (.bl false) m1 | _ => False
def dOrV (ta tb : TDE) : TDE := fun sd m P => ta sd m fun x m1 => match x with | .bl c => if c = true then P (.bl true) m1 else tb sd m1 P | _ => False
def dNotV (ta : TDE) : TDE := fun sd m P => ta sd m fun x m1 => match x with | .bl c => P (.bl (!c)) m1 | _ => False
theorem qe_one {a : Expr} {op} {t : TDE} {pos : Pos} (h : PE X a (lE X.K H0 t)) : PE X (.BoolOp op [a] pos) (lE X.K H0 t) := pe_one h
theorem qe_and {a b : Expr} {rest : List Expr} {ta tb : TDE} {pos : Pos} (ha : PE X a (lE X.K H0 ta)) (hb : PE X (.BoolOp .And (b :: rest) pos) (lE X.K H0 tb)) : PE X (.BoolOp .And (a :: b :: rest) pos) (lE X.K H0 (dAndV ta tb)) := peL (pe_and ha hb) fun σ H Q h => by
  obtain ⟨sd, m, P, a, p, q⟩ := h
  refine ⟨sd, m, _, a, p, fun d m' v H' k r rd p' => ?_⟩
  cases d with
  | bl b =>
    cases rd.bl_
    refine ⟨b, rfl, ?_⟩
    cases b with
    | true => exact ⟨sd, m', P, a.to k r, p', fun b m2 v H2 k2 => q b m2 v H2 (k.trans k2)⟩
    | false => exact q _ m' _ H' k r (.bl _) p'
  | _ => exact p'.elim
theorem qe_or {a b : Expr} {rest : List Expr} {ta tb : TDE} {pos : Pos} (ha : PE X a (lE X.K H0 ta)) (hb : PE X (.BoolOp .Or (b :: rest) pos) (lE X.K H0 tb)) : PE X (.BoolOp .Or (a :: b :: rest) pos) (lE X.K H0 (dOrV ta tb)) := peL (pe_or ha hb) fun σ H Q h => by
  obtain ⟨sd, m, P, a, p, q⟩ := h
  refine ⟨sd, m, _, a, p, fun d m' v H' k r rd p' => ?_⟩
  cases d with
  | bl b =>
    cases rd.bl_
    refine ⟨b, rfl, ?_⟩
    cases b with
    | false => exact ⟨sd, m', P, a.to k r, p', fun b m2 v H2 k2 => q b m2 v H2 (k.trans k2)⟩
    | true => exact q _ m' _ H' k r (.bl _) p'
  | _ => exact p'.elim
theorem qe_not {a : Expr} {ta : TDE} {pos : Pos} (ha : PE X a (lE X.K H0 ta)) : PE X (.UnaryOp .Not a pos) (lE X.K H0 (dNotV ta)) := peL (pe_not ha) fun σ H Q h => by
  obtain ⟨sd, m, P, a, p, q⟩ := h
  refine ⟨sd, m, _, a, p, fun d m' v H' k r rd p' => ?_⟩
  cases d with
  | bl b => cases rd.bl_; exact ⟨b, rfl, q _ m' _ H' k r (.bl _) p'⟩
  | _ => exact p'.elim
def dIfE (t : TDT) (ta tb : TDE) : TDE := fun sd m P => t sd m fun c m1 => if c = true then ta sd m1 P else tb sd m1 P
theorem qe_if {c a b : Expr} {t : TDT} {ta tb : TDE} {pos : Pos} (hc : PT X c (lT X.K H0 t)) (ha : PE X a (lE X.K H0 ta)) (hb : PE X b (lE X.K H0 tb)) : PE X (.IfExp c a b pos) (lE X.K H0 (dIfE t ta tb)) := peL (pe_ifExp hc ha hb) fun σ H Q h => by
  obtain ⟨sd, m, P, a, p, q⟩ := h
  refine ⟨sd, m, _, a, p, fun b m' H' k r p' => ?_⟩
  cases b with
  | true => exact ⟨sd, m', P, a.to k r, p', fun b m2 v H2 k2 => q b m2 v H2 (k.trans k2)⟩
  | false => exact ⟨sd, m', P, a.to k r, p', fun b m2 v H2 k2 => q b m2 v H2 (k.trans k2)⟩
/-- a op b op' c -/
def dChain (r r' : R2D) (ta tb tc : TDE) : TDE := fun sd m P => ta sd m fun x m1 => tb sd m1 fun y m2 => r x y m2 fun z m3 => match z with
  | .bl k => if k = true then tc sd m3 fun w m4 => r' y w m4 P else P (.bl false) m3
  | _ => False
theorem l_chain {K : PySem.W.Frag} {r r' : R2D} {s s' : R2} {ta tb tc : TDE} {σ : St} {H : Hp} {Q : VK} (l : Lift2 K r s) (l' : Lift2 K r' s') (h : lE K H0 (dChain r r' ta tb tc) σ H Q) : tChain s s' (lE K H0 ta) (lE K H0 tb) (lE K H0 tc) σ H Q := by
  obtain ⟨sd, m, P, a, p, q⟩ := h
  refine ⟨sd, m, _, a, p, fun x m1 u H1 k1 r1 d1 p1 => ?_⟩
  refine ⟨sd, m1, _, a.to k1 r1, p1, fun y m2 v H2 k2 r2 d2 p2 => ?_⟩
  refine l H2 m2 x y u v _ _ r2 (d1.mono k2) d2 p2 fun d m3 w H3 k3 r3 d3 p3 => ?_
  cases d with
  | bl b =>
    cases d3.bl_
    refine ⟨b, rfl, ?_⟩
    cases b with
    | true =>
      refine ⟨sd, m3, _, a.to ((k1.trans k2).trans k3) r3, p3, fun z m4 w H4 k4 r4 d4 p4 => ?_⟩
      exact l' H4 m4 y z v w P Q r4 (d2.mono (k3.trans k4)) d4 p4 fun d m' w H' k => q d m' w H' ((((k1.trans k2).trans k3).trans k4).trans k)
    | false => exact q _ m3 _ H3 ((k1.trans k2).trans k3) r3 (.bl _) p3
  | _ => exact p3.elim
theorem qe_chain {a b c : Expr} {op op' : CmpOp} {r r' : R2D} {ta tb tc : TDE} {pos : Pos} (o : OpD X (compareOp op) r) (o' : OpD X (compareOp op') r') (ha : PE X a (lE X.K H0 ta)) (hb : PE X b (lE X.K H0 tb)) (hc : PE X c (lE X.K H0 tc))
    (hm : lastMarks [op, op'] [b, c] = false := by with_unfolding_all rfl) : PE X (.Compare a [op, op'] [b, c] pos) (lE X.K H0 (dChain r r' ta tb tc)) := by
  obtain ⟨s, h1, h2⟩ := o.ex
  obtain ⟨s', h1', h2'⟩ := o'.ex
  exact peL (pe_chain h1 h1' ha hb hc hm) fun _ _ _ => l_chain h2 h2'
theorem qt_chain {a b c : Expr} {op op' : CmpOp} {r r' : R2D} {ta tb tc : TDE} {pos : Pos} (o : OpD X (compareOp op) r) (o' : OpD X (compareOp op') r') (ha : PE X a (lE X.K H0 ta)) (hb : PE X b (lE X.K H0 tb)) (hc : PE X c (lE X.K H0 tc))
    (hm : lastMarks [op, op'] [b, c] = false := by with_unfolding_all rfl) : PT X (.Compare a [op, op'] [b, c] pos) (lT X.K H0 (dB (dChain r r' ta tb tc))) := by
  obtain ⟨s, h1, h2⟩ := o.ex
  obtain ⟨s', h1', h2'⟩ := o'.ex
  refine ptL (pt_chain h1 h1' ha hb hc hm) fun σ H Q h => ?_
  refine l_chain (K := X.K) (H0 := H0) h2 h2' ?_
  obtain ⟨sd, m, P, a, p, q⟩ := h
  refine ⟨sd, m, _, a, p, fun d m' v H' k r rd p' => ?_⟩
  cases d with
  | bl b => cases rd.bl_; exact ⟨b, rfl, q b m' H' k r p'⟩
  | _ => exact p'.elim
/-! ### truth of lists, tuples, texts, ints -/
def truD : D → M → (Bool → M → Prop) → Prop := fun x m P => match x with
  | .bl b => P b m
  | .int i => P (i != 0) m
  | .str y => y.length ≤ sizeLine ∧ P ((y.length : Int) != 0) m
  | .tup xs => P (!xs.isEmpty) m
  | .non => P false m
  | .rol xs => P (!xs.isEmpty) m
  | .ref a => ∃ xs, m a = some (.lst xs) ∧ P (!xs.isEmpty) m
  | _ => False
def dTru (t : TDE) : TDT := fun sd m P => t sd m fun x m1 => truD x m1 P
theorem RDs.isEmpty {K : PySem.W.Frag} {H : Hp} : ∀ {xs : List D} {vs : List V}, RDs K H xs vs → xs.isEmpty = vs.isEmpty
  | _, _, .nil => rfl
  | _, _, .cons _ _ => rfl
theorem qt_tru {a : Expr} {t : TDE} (ha : PE X a (lE X.K H0 t)) (he : ∀ whole, isTrue a X.env whole = (do let v ← whole; standAt a.pos; holding [v] (truthy v)) := by intro _; rfl) : PT X a (lT X.K H0 (dTru t)) := ptL (pt_truth ha he) fun σ H Q h => by
  obtain ⟨sd, m, P, a, p, q⟩ := h
  refine ⟨sd, m, _, a, p, fun d m' v H' k r rd p' => ?_⟩
  cases d with
  | bl b => cases rd.bl_; exact ⟨b, rfl, q b m' H' k r p'⟩
  | int b => cases rd.int_; exact ⟨_, rfl, q _ m' H' k r p'⟩
  | non => cases rd.non_; exact ⟨_, rfl, q _ m' H' k r p'⟩
  | str b => cases rd.str_; exact ⟨_, ⟨p'.1, rfl⟩, q _ m' H' k r p'.2⟩
  | tup xs =>
    obtain ⟨a, vs, rfl, h1, h2⟩ := rd.tup_
    exact ⟨_, .inr (.inl ⟨vs, h1, rfl⟩), q _ m' H' k r (by rw [← h2.isEmpty]; exact p')⟩
  | ref a =>
    cases rd.ref_
    obtain ⟨xs, h1, p'⟩ := p'
    obtain ⟨vs, e1, r1⟩ := r a _ h1
    exact ⟨_, .inl ⟨vs, .inl (.inl e1), rfl⟩, q _ m' H' k r (by rw [← r1.isEmpty]; exact p')⟩
  | rol xs =>
    obtain ⟨a, vs, rfl, h1, h2⟩ := rd.rol_
    exact ⟨_, .inl ⟨vs, h1.sq, rfl⟩, q _ m' H' k r (by rw [← h2.isEmpty]; exact p')⟩
  | ty n => exact p'.elim
/-! ### argument lists, displays -/
def dNil : TDA := fun _ m P => P [] m
def dCons (ta : TDE) (tr : TDA) : TDA := fun sd m P => ta sd m fun x m1 => tr sd m1 fun xs m2 => P (x :: xs) m2
theorem qa_nil : PA X [] (lA X.K H0 dNil) := paL pa_nil fun σ H Q h => by
  obtain ⟨sd, m, P, a, p, q⟩ := h
  exact q [] m [] H (Keep.refl _) a.m .nil p
theorem l_cons {K : PySem.W.Frag} {ta : TDE} {tr : TDA} {σ : St} {H : Hp} {Q : List V → Hp → Prop} (h : lA K H0 (dCons ta tr) σ H Q) : tCons (lE K H0 ta) (lA K H0 tr) σ H Q := by
  obtain ⟨sd, m, P, a, p, q⟩ := h
  refine ⟨sd, m, _, a, p, fun x m1 u H1 k1 r1 d1 p1 => ?_⟩
  exact ⟨sd, m1, _, a.to k1 r1, p1, fun xs m2 us H2 k2 r2 d2 p2 => q _ m2 _ H2 (k1.trans k2) r2 (.cons (d1.mono k2) d2) p2⟩
theorem qa_cons {e : Expr} {es : List Expr} {te : TDE} {t : TDA} (ha : PE X e (lE X.K H0 te)) (hr : PA X es (lA X.K H0 t)) (hs : starEach (e :: es) X.env = (false, eval e X.env) :: starEach es X.env := by rfl) : PA X (e :: es) (lA X.K H0 (dCons te t)) :=
  paL (pa_cons ha hr hs) fun _ _ _ => l_cons
def dTup (t : TDA) : TDE := fun sd m P => t sd m fun xs m1 => xs.length ≤ sizeLine ∧ P (.tup xs) m1
def dLst (t : TDA) : TDE := fun sd m P => t sd m fun xs m1 => xs.length ≤ sizeLine ∧ ∀ p, m1 p = none → P (.ref p) (put m1 p (.lst xs))
theorem qe_tup {es : List Expr} {x1} {pos : Pos} {t : TDA} (h : PA X es (lA X.K H0 t)) : PE X (.Tuple es x1 pos) (lE X.K H0 (dTup t)) := peL (pe_tup h) fun σ H Q h => by
  obtain ⟨sd, m, P, a, p, q⟩ := h
  refine ⟨sd, m, _, a, p, fun xs m1 us H1 k1 r1 d1 p1 => ⟨by rw [← d1.length]; exact p1.1, fun z hz => ?_⟩⟩
  exact q _ m1 _ _ (k1.trans (Keep.new hz)) (r1.new hz) (.tup (.inl (.inl upd_same)) (d1.mono (Keep.new hz))) p1.2
theorem qe_lst {es : List Expr} {pos : Pos} {t : TDA} (h : PA X es (lA X.K H0 t)) : PE X (.List es pos) (lE X.K H0 (dLst t)) := peL (pe_lst h) fun σ H Q h => by
  obtain ⟨sd, m, P, a, p, q⟩ := h
  refine ⟨sd, m, _, a, p, fun xs m1 us H1 k1 r1 d1 p1 => ⟨by rw [← d1.length]; exact p1.1, fun z hz => ?_⟩⟩
  exact q _ _ _ _ (k1.trans (Keep.new hz)) (r1.newPut hz d1) (.ref z) (p1.2 z (r1.free hz))
/-! ### subscripts -/
def rIxD : R2D := fun x y m P => match x, y with
  | .tup xs, .int i => ∃ d, atI xs i = some d ∧ P d m
  | .str z, .int i => z.length ≤ sizeLine ∧ ∃ c, atI z.cps.toList i = some c ∧ P (.str ⟨#[c]⟩) m
  | .rol xs, .int i => ∃ d, atI xs i = some d ∧ P d m
  | .ref a, .int i => ∃ xs d, m a = some (.lst xs) ∧ atI xs i = some d ∧ P d m
  | _, _ => False
theorem RDs.atI {K : PySem.W.Frag} {H : Hp} {xs : List D} {vs : List V} {i : Int} {d : D} (r : RDs K H xs vs) (h : L2.atI xs i = some d) : ∃ v, L2.atI vs i = some v ∧ RD K H d v := by
  unfold L2.atI at h ⊢
  rw [← r.length]
  cases e : ixN xs.length i with
  | none => rw [e] at h; cases h
  | some j => rw [e] at h; exact r.get (by simpa using h)
theorem lift_ix {K : PySem.W.Frag} : Lift2 K rIxD (rIx K) := fun H m x y u v P Q rm rx ry p q => by
  unfold rIxD at p
  split at p
  · obtain ⟨d, h, p⟩ := p
    obtain ⟨a, vs, rfl, h1, h2⟩ := rx.tup_
    cases ry.int_
    obtain ⟨w, e, rd⟩ := h2.atI h
    exact .inr (.inl ⟨a, vs, _, w, rfl, rfl, h1, e, q _ m _ H (Keep.refl _) rm rd p⟩)
  · obtain ⟨z, c, h, p⟩ := p
    cases rx.str_
    cases ry.int_
    exact .inr (.inr ⟨_, _, c, rfl, rfl, z, h, q _ m _ H (Keep.refl _) rm (.str _) p⟩)
  · obtain ⟨d, h, p⟩ := p
    obtain ⟨a, vs, rfl, h1, h2⟩ := rx.rol_
    cases ry.int_
    obtain ⟨w, e, rd⟩ := h2.atI h
    exact .inl ⟨a, vs, _, w, rfl, rfl, h1.sq, e, q _ m _ H (Keep.refl _) rm rd p⟩
  · obtain ⟨xs, d, h, e, p⟩ := p
    cases rx.ref_
    cases ry.int_
    obtain ⟨vs, e1, r1⟩ := rm _ _ h
    obtain ⟨w, e', rd⟩ := r1.atI e
    exact .inl ⟨_, vs, _, w, rfl, rfl, .inl (.inl e1), e', q _ m _ H (Keep.refl _) rm rd p⟩
  · exact p.elim
theorem qe_ix {a b : Expr} {ta tb : TDE} {pos : Pos} (ha : PE X a (lE X.K H0 ta)) (hb : PE X b (lE X.K H0 tb)) (hs : PlainIx b) : PE X (.Subscript a b pos) (lE X.K H0 (dOp rIxD ta tb)) := peL (pe_ix ix_seq ha hb hs) fun _ _ _ => l_op lift_ix
/-! ### built-ins by name -/
def dCB (r : RnD) (t : TDA) : TDE := fun sd m P => t sd m fun xs m1 => r xs m1 P
structure CallD (X : Cx) (f : Value) (r' : RnD) : Prop where
  ex : ∃ r, CallR X f r ∧ LiftN X.K r' r
theorem CallD.or {f : Value} {r r' : RnD} (h : CallD X f r) (h' : CallD X f r') : CallD X f (fun x m P => r x m P ∨ r' x m P) := by
  obtain ⟨r1, h1, h2⟩ := h.ex
  obtain ⟨r3, h3, h4⟩ := h'.ex
  refine ⟨fun x H Q => r1 x H Q ∨ r3 x H Q, ?_, ?_⟩
  · intro pins s σ H xs us Q I r q
    rcases q with q | q
    · exact h1 pins s σ H xs us Q I r q
    · exact h3 pins s σ H xs us Q I r q
  · intro H m x u P Q a b d e
    exact d.imp (fun d => h2 H m x u P Q a b d e) fun d => h4 H m x u P Q a b d e
theorem CallD.imp {f : Value} {r r' : RnD} (h : CallD X f r) (i : ∀ x m P, r' x m P → r x m P) : CallD X f r' := by
  obtain ⟨r1, h1, h2⟩ := h.ex
  exact ⟨r1, h1, fun H m x u P Q a b d e => h2 H m x u P Q a b (i _ _ _ d) e⟩
theorem l_cb {K : PySem.W.Frag} {r' : RnD} {r : List V → Hp → VK → Prop} {t : TDA} {σ : St} {H : Hp} {Q : VK} (l : LiftN K r' r) (h : lE K H0 (dCB r' t) σ H Q) : tCB r (lA K H0 t) σ H Q := by
  obtain ⟨sd, m, P, a, p, q⟩ := h
  exact ⟨sd, m, _, a, p, fun xs m1 us H1 k1 r1 d1 p1 => l H1 m1 xs us P Q r1 d1 p1 fun d m' w H' k => q d m' w H' (k1.trans k)⟩
theorem qe_callB {e : Expr} {es : List Expr} {x : Str} {p pos : Pos} {id : String} {r : RnD} {t : TDA} (hc : CallD X (.builtin id) r) (hg : Gl X x) (hm : X.mg x = none) (hv : bootBuiltins x = some (.builtin id)) (ha : PA X (e :: es) (lA X.K H0 t)) (hn : x ≠ "__name__" := by decide) (hdb : (x == ("__debug__" : Str)) = false := by decide)
    (he : starEach (e :: es) X.env = (false, eval e X.env) :: starEach es X.env := by rfl) (hpl : (backTo pos (starEach es X.env)).any (·.1) = false := by rfl) : PE X (.Call (.Name x p) (e :: es) [] pos) (lE X.K H0 (dCB r t)) := by
  obtain ⟨r, h1, h2⟩ := hc.ex
  exact peL (pe_callB h1 hg hm hv ha hn hdb he hpl) fun _ _ _ => l_cb h2
theorem qe_callTy {e : Expr} {es : List Expr} {x : Str} {p pos : Pos} {T : String} {r : RnD} {t : TDA} (hc : CallD X (.type T) r) (hg : Gl X x) (hm : X.mg x = none) (hv : bootBuiltins x = some (.type T)) (ha : PA X (e :: es) (lA X.K H0 t)) (hn : x ≠ "__name__" := by decide) (hdb : (x == ("__debug__" : Str)) = false := by decide)
    (he : starEach (e :: es) X.env = (false, eval e X.env) :: starEach es X.env := by rfl) (hpl : (backTo pos (starEach es X.env)).any (·.1) = false := by rfl) : PE X (.Call (.Name x p) (e :: es) [] pos) (lE X.K H0 (dCB r t)) := by
  obtain ⟨r, h1, h2⟩ := hc.ex
  exact peL (pe_callTy h1 hg hm hv ha hn hdb he hpl) fun _ _ _ => l_cb h2
end
end Q4

set_option Elab.async false
set_option linter.all false
set_option maxRecDepth 100000
namespace Q4
open PySem L2
/-! ### statements -/
def dNext : TDS := fun D sd m => D.nx sd m
def dSeq (t u : TDS) : TDS := fun D sd m => ∃ J : DS → M → Prop, t { D with nx := J } sd m ∧ ∀ sd' m', J sd' m' → Fg (u D) sd' m'
def dBreak : TDS := fun D sd m => D.bk sd m
def dCont : TDS := fun D sd m => D.ct sd m
def dDrop (t : TDE) : TDS := fun D sd m => t sd m fun _ m1 => D.nx sd m1
def dRet (t : TDE) : TDS := fun D sd m => t sd m D.rt
def dRetN : TDS := fun D _ m => D.rt .non m
def dIf (c : TDT) (t u : TDS) : TDS := fun D sd m => c sd m fun b m1 => if b = true then t D sd m1 else u D sd m1
def dNever : TDS := fun _ _ _ => False
abbrev TDG := D → DS → M → (DS → M → Prop) → Prop
def lG (K : PySem.W.Frag) (H0 : Hp) (vs : List Nat) (g : TDG) : TG := fun v σ H Q => ∃ d sd m P, At K H0 sd m σ H ∧ RD K H d v ∧ g d sd m P ∧
  ∀ sd' m' σ' H', Keep K H H' → RS K H' sd' σ' → RM K H' m' → wipe σ' vs = wipe σ vs → P sd' m' → Q σ' H'
abbrev TDGs := List D → DS → M → (DS → M → Prop) → Prop
def lGs (K : PySem.W.Frag) (H0 : Hp) (vs : List Nat) (g : TDGs) : TGs := fun v σ H Q => ∃ d sd m P, At K H0 sd m σ H ∧ RDs K H d v ∧ g d sd m P ∧
  ∀ sd' m' σ' H', Keep K H H' → RS K H' sd' σ' → RM K H' m' → wipe σ' vs = wipe σ vs → P sd' m' → Q σ' H'
def dName (i : Nat) : TDG := fun d sd m P => P (sd.set i (some d)) m
def dGNil : TDGs := fun ds sd m P => ds = [] ∧ P sd m
def dGCons (t : TDG) (u : TDGs) : TDGs := fun ds sd m P => ∃ d r, ds = d :: r ∧ t d sd m fun sd' m' => u r sd' m' P
def dGTup (n : Nat) (t : TDGs) : TDG := fun d sd m P => ∃ xs, d = .tup xs ∧ xs.length = n ∧ t xs sd m P
def dAsg (t : TDE) (g : TDG) : TDS := fun D sd m => t sd m fun x m1 => g x sd m1 D.nx
theorem wipe_set {σ : St} {i : Nat} {x : Option V} : ∀ {vs : List Nat}, i ∈ vs → wipe (σ.set i x) vs = wipe σ vs
  | [], h => absurd h (by simp)
  | v :: vs, h => by
    unfold wipe
    by_cases e : i ∈ vs
    · rw [wipe_set e]
    · have : i = v := by simpa [e] using h
      subst this
      have : ∀ ws : List Nat, i ∉ ws → wipe (σ.set i x) ws = (wipe σ ws).set i x := by
        intro ws
        induction ws with
        | nil => intro _; rfl
        | cons w ws ih =>
          intro hw
          unfold wipe
          rw [ih fun z => hw (List.mem_cons_of_mem _ z), List.set_comm _ _ (fun z => hw (by rw [z]; exact List.mem_cons_self))]
      rw [this vs e, List.set_set]
theorem wipe_wipe {σ : St} : ∀ {vs : List Nat}, wipe (wipe σ vs) vs = wipe σ vs := by
  intro vs
  refine List.ext_getElem? fun j => ?_
  by_cases hj : j ∈ vs
  · have : ∀ (τ : St) (ws : List Nat), j ∈ ws → (wipe τ ws)[j]? = if j < τ.length then some none else none := by
      intro τ ws
      induction ws with
      | nil => intro h; simp at h
      | cons w ws ih =>
        intro h
        unfold wipe
        by_cases e : w = j
        · subst e
          rw [List.getElem?_set]
          simp [wipe_length]
        · rw [List.getElem?_set_ne e]
          exact ih ((List.mem_cons.mp h).resolve_left fun z => e z.symm)
    rw [this _ _ hj, this _ _ hj, wipe_length]
  · rw [wipe_out hj]
section
variable {X : Cx} {H0 : Hp}
theorem qss_nil : PSs X [] (lS X.K H0 dNext) := pssL pss_nil fun D σ H h => by
  obtain ⟨sd, m, DD, a, p, q⟩ := h
  exact q.1 sd m σ H (Keep.refl _) a.s a.m p
theorem l_seq {K : PySem.W.Frag} {t u : TDS} {D : Ends} {σ : St} {H : Hp} (h : lS K H0 (dSeq t u) D σ H) : tSeq (lS K H0 t) (lS K H0 u) D σ H := by
  obtain ⟨sd, m, DD, a, ⟨J, p, hJ⟩, q1, q2, q3, q4⟩ := h
  refine ⟨sd, m, _, a, p, fun sd' m' σ' H' k s r p' => ?_, q2, q3, q4⟩
  obtain ⟨m2, hl, p2⟩ := hJ sd' m' p'
  exact ⟨sd', m2, DD, a.toS k s (r.less hl), p2, fun a b c d k2 => q1 a b c d (k.trans k2), fun a b c d k2 => q2 a b c d (k.trans k2), fun a b c d k2 => q3 a b c d (k.trans k2), fun a b c d k2 => q4 a b c d (k.trans k2)⟩
theorem qss_cons {st : Stmt} {rest : List Stmt} {t u : TDS} (h1 : PS X st (lS X.K H0 t)) (h2 : PSs X rest (lS X.K H0 u)) : PSs X (st :: rest) (lS X.K H0 (dSeq t u)) := pssL (pss_cons h1 h2) fun _ _ _ => l_seq
theorem qss_one {st : Stmt} {t : TDS} (h1 : PS X st (lS X.K H0 t)) : PSs X [st] (lS X.K H0 t) := pss_one h1
theorem qs_pass {pos : Pos} : PS X (.Pass pos) (lS X.K H0 dNext) := psL ps_pass fun D σ H h => by
  obtain ⟨sd, m, DD, a, p, q⟩ := h
  exact q.1 sd m σ H (Keep.refl _) a.s a.m p
theorem qs_break {pos : Pos} : PS X (.Break pos) (lS X.K H0 dBreak) := psL ps_break fun D σ H h => by
  obtain ⟨sd, m, DD, a, p, q⟩ := h
  exact q.2.2.1 sd m σ H (Keep.refl _) a.s a.m p
theorem qs_continue {pos : Pos} : PS X (.Continue pos) (lS X.K H0 dCont) := psL ps_continue fun D σ H h => by
  obtain ⟨sd, m, DD, a, p, q⟩ := h
  exact q.2.2.2 sd m σ H (Keep.refl _) a.s a.m p
theorem qs_expr {e : Expr} {pos : Pos} {t : TDE} (he : PE X e (lE X.K H0 t)) (hs : swapsWith e none pos.line X.env = pure false := by rfl) : PS X (.Expr e pos) (lS X.K H0 (dDrop t)) := psL (ps_expr he hs) fun D σ H h => by
  obtain ⟨sd, m, DD, a, p, q⟩ := h
  exact ⟨sd, m, _, a, p, fun d m' v H' k r _ p' => q.1 sd m' σ H' k (a.s.mono k) r p'⟩
theorem qs_ret {e : Expr} {pos : Pos} {t : TDE} (he : PE X e (lE X.K H0 t)) : PS X (.Return (some e) pos) (lS X.K H0 (dRet t)) := psL (ps_ret he) fun D σ H h => by
  obtain ⟨sd, m, DD, a, p, q⟩ := h
  exact ⟨sd, m, _, a, p, q.2.1⟩
theorem qs_retN {pos : Pos} : PS X (.Return none pos) (lS X.K H0 dRetN) := psL ps_retN fun D σ H h => by
  obtain ⟨sd, m, DD, a, p, q⟩ := h
  exact q.2.1 .non m .non H (Keep.refl _) a.m .non p
theorem qs_if {c : Expr} {a b : List Stmt} {pos : Pos} {tc : TDT} {t u : TDS} (hc : PT X c (lT X.K H0 tc)) (ha : PSs X a (lS X.K H0 t)) (hb : PSs X b (lS X.K H0 u)) : PS X (.If c a b pos) (lS X.K H0 (dIf tc t u)) := psL (ps_if hc ha hb) fun D σ H h => by
  obtain ⟨sd, m, DD, a, p, q1, q2, q3, q4⟩ := h
  refine ⟨sd, m, _, a, p, fun b m' H' k r p' => ?_⟩
  cases b with
  | true => exact ⟨sd, m', DD, a.to k r, p', fun a b c d k2 => q1 a b c d (k.trans k2), fun a b c d k2 => q2 a b c d (k.trans k2), fun a b c d k2 => q3 a b c d (k.trans k2), fun a b c d k2 => q4 a b c d (k.trans k2)⟩
  | false => exact ⟨sd, m', DD, a.to k r, p', fun a b c d k2 => q1 a b c d (k.trans k2), fun a b c d k2 => q2 a b c d (k.trans k2), fun a b c d k2 => q3 a b c d (k.trans k2), fun a b c d k2 => q4 a b c d (k.trans k2)⟩
theorem qs_never {st : Stmt} : PS X st (lS X.K H0 dNever) := psL ps_never fun D σ H h => by
  obtain ⟨sd, m, DD, a, p, q⟩ := h
  exact p.elim
/-! ### targets -/
theorem qg_name {i : Nat} {x : Str} {pos : Pos} {vs : List Nat} (hN : X.N.Nodup) (hi : X.N[i]? = some x) (hx : Loc X.env.scope x) (hv : i ∈ vs) (hf : X.fn x = true ∨ X.env.scope.names.lookup x = some .local := by first | exact .inl rfl | exact .inr rfl | assumption) : PG X (.Name x pos) (lG X.K H0 vs (dName i)) := by
  refine ⟨fun pins s σ H v u Q I r h => (pg_name hN hi hx hf).run pins s σ H v u Q I r ?_⟩
  obtain ⟨d, sd, m, P, a, rd, p, q⟩ := h
  exact q _ m _ H (Keep.refl _) (a.s.set i rd) a.m (wipe_set hv) p
theorem qgs_nil {vs : List Nat} : PGs X [] (lGs X.K H0 vs dGNil) := by
  refine ⟨fun pins s σ H v us Q I r h => pgs_nil.run pins s σ H v us Q I r ?_⟩
  obtain ⟨d, sd, m, P, a, rd, ⟨e, p⟩, q⟩ := h
  subst e
  exact ⟨rd.nil_, q sd m σ H (Keep.refl _) a.s a.m rfl p⟩
theorem qgs_cons {e : Expr} {es : List Expr} {vs : List Nat} {t : TDG} {u : TDGs} (h1 : PG X e (lG X.K H0 vs t)) (h2 : PGs X es (lGs X.K H0 vs u)) (hs : (assignEach (e :: es) X.env).map (·.2) = assign e X.env :: (assignEach es X.env).map (·.2) := by rfl) : PGs X (e :: es) (lGs X.K H0 vs (dGCons t u)) := by
  refine ⟨fun pins s σ H v us Q I r h => (pgs_cons h1 h2 hs).run pins s σ H v us Q I r ?_⟩
  obtain ⟨d, sd, m, P, a, rd, ⟨x, xs, e, p⟩, q⟩ := h
  subst e
  cases rd with
  | cons r1 r2 =>
    refine ⟨_, _, rfl, x, sd, m, _, a, r1, p, fun sd' m' σ' H' k s r w p' => ?_⟩
    exact ⟨xs, sd', m', P, a.toS k s r, r2.mono k, p', fun sd2 m2 σ2 H2 k2 s2 r2 w2 => q sd2 m2 σ2 H2 (k.trans k2) s2 r2 (w2.trans w)⟩
theorem qg_tup {es : List Expr} {k : Nat} {pos : Pos} {vs : List Nat} {t : TDGs} {n : Nat} (hc : X.calm = true) (h : PGs X es (lGs X.K H0 vs t)) (hn : (assignEach es X.env).length = n := by rfl) (hst : (assignEach es X.env).findIdx? (·.1) = none := by rfl) : PG X (.Tuple es k pos) (lG X.K H0 vs (dGTup n t)) := by
  refine ⟨fun pins s σ H v u Q I r h' => (pg_tup hc h hn hst).run pins s σ H v u Q I r ?_⟩
  obtain ⟨d, sd, m, P, a, rd, ⟨xs, e, hl, p⟩, q⟩ := h'
  subst e
  obtain ⟨b, ws, rfl, h1, h2⟩ := rd.tup_
  exact ⟨b, ws, rfl, h1, by rw [← h2.length]; exact hl, xs, sd, m, P, a, h2, p, q⟩
theorem l_asg {K : PySem.W.Frag} {t : TDE} {g : TDG} {vs : List Nat} {D : Ends} {σ : St} {H : Hp} (h : lS K H0 (dAsg t g) D σ H) : tAsg (lE K H0 t) (lG K H0 vs g) D σ H := by
  obtain ⟨sd, m, DD, a, p, q⟩ := h
  refine ⟨sd, m, _, a, p, fun d m' v H' k r rd p' => ?_⟩
  exact ⟨d, sd, m', _, a.to k r, rd, p', fun sd2 m2 σ2 H2 k2 s2 r2 _ => q.1 sd2 m2 σ2 H2 (k.trans k2) s2 r2⟩
theorem qs_asg {tg e : Expr} {pos : Pos} {t : TDE} {g : TDG} {vs : List Nat} (he : PE X e (lE X.K H0 t)) (hg : PG X tg (lG X.K H0 vs g)) (hs : swapsWithSole [tg] e pos.line X.env = pure false := by rfl) (hw : swappedStores [tg] e X.env = pure none := by rfl)
    (h1 : (assignEach [tg] X.env).map (·.2) = [assign tg X.env] := by rfl) : PS X (.Assign [tg] e pos) (lS X.K H0 (dAsg t g)) := psL (ps_asg he hg hs hw h1) fun _ _ _ => l_asg
theorem qs_set {i : Nat} {x : Str} {e : Expr} {t : TDE} {pos pos' : Pos} (hN : X.N.Nodup) (hi : X.N[i]? = some x) (hx : Loc X.env.scope x) (he : PE X e (lE X.K H0 t)) (hs : swapsWith e (some (.Name x pos')) pos.line X.env = pure false := by rfl) (hf : X.fn x = true ∨ X.env.scope.names.lookup x = some .local := by first | exact .inl rfl | exact .inr rfl | assumption) :
    PS X (.Assign [.Name x pos'] e pos) (lS X.K H0 (dAsg t (dName i))) := psL (ps_set hN hi hx he hs hf) fun D σ H h => by
  obtain ⟨sd, m, DD, a, p, q⟩ := h
  exact ⟨sd, m, _, a, p, fun d m' v H' k r rd p' => q.1 _ m' _ H' k ((a.s.mono k).set i rd) r p'⟩
/-- o[i] = e of a list -/
def dGSub (to ti : TDE) : TDG := fun v sd m P => to sd m fun o m1 => ti sd m1 fun i m2 => match o, i with
  | .ref a, .int k => ∃ xs j, m2 a = some (.lst xs) ∧ ixN xs.length k = some j ∧ P sd (put m2 a (.lst (xs.set j v)))
  | _, _ => False
theorem qg_sub {o i : Expr} {to ti : TDE} {pos : Pos} {vs : List Nat} (ho : PE X o (lE X.K H0 to)) (hi : PE X i (lE X.K H0 ti)) (ha : ∀ v, assign (.Subscript o i pos) X.env v = (do
      let ov ← holding [v] (eval o X.env)
      let iv ← holding [v, ov] (eval i X.env)
      standAt pos
      holding [v, ov, iv] (setItem ov iv v)
      release [v, ov, iv] []) := by intro _; rfl) : PG X (.Subscript o i pos) (lG X.K H0 vs (dGSub to ti)) := by
  refine ⟨fun pins s σ H v u Q I r h => (pg_sub ho hi set_list ha).run pins s σ H v u Q I r ?_⟩
  obtain ⟨d, sd, m, P, a, rd, p, q⟩ := h
  refine ⟨sd, m, _, a, p, fun x m1 w H1 k1 r1 d1 p1 => ?_⟩
  refine ⟨sd, m1, _, a.to k1 r1, p1, fun y m2 w2 H2 k2 r2 d2 p2 => ?_⟩
  split at p2
  · obtain ⟨xs, j, e, hj, p2⟩ := p2
    cases d1.ref_
    cases d2.int_
    obtain ⟨ws, e1, rr⟩ := r2 _ _ e
    exact ⟨_, ws, _, j, rfl, rfl, e1, by rw [← rr.length]; exact hj, q sd _ σ _ ((k1.trans k2).trans (Keep.lst e1)) (a.s.mono ((k1.trans k2).trans (Keep.lst e1))) (r2.setPut e1 (RDs.set (rd.mono (k1.trans k2)) j rr)) rfl p2⟩
  · exact p2.elim
/-- name op= e: the operator's own rule (ints) -/
def rInp (f : Int → Int → Int) : R2D := fun x y m P => match x, y with | .int i, .int j => P (.int (f i j)) m | _, _ => False
def dAug (i : Nat) (t : TDE) (r : R2D) : TDS := fun D sd m => ∃ x, sd[i]? = some (some x) ∧ t sd m fun y m1 => r x y m1 fun z m2 => D.nx (sd.set i (some z)) m2
theorem qs_augI {f : Int → Int → Int} {i : Nat} {x : Str} {e : Expr} {t : TDE} {op : Operator} {pos pos' : Pos} (hN : X.N.Nodup) (hi : X.N[i]? = some x) (hx : Loc X.env.scope x) (he : PE X e (lE X.K H0 t)) (ho : PIp X op (ipI f)) (hf : X.fn x = true ∨ X.env.scope.names.lookup x = some .local := by first | exact .inl rfl | exact .inr rfl | assumption) :
    PS X (.AugAssign (.Name x pos') op e pos) (lS X.K H0 (dAug i t (rInp f))) := psL (ps_aug hN hi hx he ho hf) fun D σ H h => by
  obtain ⟨sd, m, DD, a, ⟨d, e1, p⟩, q⟩ := h
  obtain ⟨v, e2, rd⟩ := a.s.get i d e1
  refine ⟨v, e2, sd, m, _, a, p, fun y m1 w H1 k1 r1 d1 p1 => ?_⟩
  unfold rInp at p1
  split at p1
  · cases rd.int_
    cases d1.int_
    exact ⟨_, _, rfl, rfl, q.1 _ m1 _ H1 k1 ((a.s.mono k1).set i (.int _)) r1 p1⟩
  · exact p1.elim
/-! ### while -/
def dWhile (c : TDT) (tb : TDS) : TDS := fun D sd m => ∃ W : Nat → DS → M → Prop, (∃ n, W n sd m) ∧ ∀ n sd m, W n sd m →
  c sd m fun b m1 => if b = true then tb { D with nx := Fg fun sd' m' => ∃ n', n' < n ∧ W n' sd' m', ct := Fg fun sd' m' => ∃ n', n' < n ∧ W n' sd' m', bk := D.nx } sd m1 else D.nx sd m1
theorem qs_while {c : Expr} {body : List Stmt} {tc : TDT} {tb : TDS} {pos : Pos} (hp : PassesOwn (model X.prog X.w) X.A X.env X.xe) (hc : PT X c (lT X.K H0 tc)) (hb : PSs X body (lS X.K H0 tb)) : PS X (.While c body [] pos) (lS X.K H0 (dWhile tc tb)) := psL (ps_while hp hc hb) fun D σ H h => by
  obtain ⟨sd, m, DD, a, ⟨W, ⟨n0, w0⟩, turn⟩, q1, q2, q3, q4⟩ := h
  refine ⟨fun n σ' H' => ∃ sd' m', Keep X.K H H' ∧ RS X.K H' sd' σ' ∧ RM X.K H' m' ∧ W n sd' m', ⟨n0, sd, m, Keep.refl _, a.s, a.m, w0⟩, ?_⟩
  rintro n σ1 H1 ⟨sd1, m1, k1, s1, r1, w1⟩
  refine ⟨sd1, m1, _, a.toS k1 s1 r1, turn n sd1 m1 w1, fun b m2 H2 k2 r2 p2 => ?_⟩
  cases b with
  | true =>
    refine ⟨fun σ' H' => ∃ n', n' < n ∧ ∃ sd' m', Keep X.K H H' ∧ RS X.K H' sd' σ' ∧ RM X.K H' m' ∧ W n' sd' m', fun σ' H' z => z, ?_⟩
    refine ⟨sd1, m2, _, a.toS (k1.trans k2) (s1.mono k2) r2, p2, ?_, ?_, ?_, ?_⟩
    · rintro sd3 m3 σ3 H3 k3 s3 r3 ⟨m4, hl, n', hn, w⟩
      exact ⟨n', hn, sd3, m4, (k1.trans k2).trans k3, s3, r3.less hl, w⟩
    · exact fun a b c d k3 => q2 a b c d ((k1.trans k2).trans k3)
    · exact fun a b c d k3 => q1 a b c d ((k1.trans k2).trans k3)
    · rintro sd3 m3 σ3 H3 k3 s3 r3 ⟨m4, hl, n', hn, w⟩
      exact ⟨n', hn, sd3, m4, (k1.trans k2).trans k3, s3, r3.less hl, w⟩
  | false => exact q1 sd1 m2 σ1 H2 (k1.trans k2) (s1.mono k2) r2 p2
/-! ### what is walked -/
abbrev DIt := Nat → M → Option D → Prop
def LiftIt (K : PySem.W.Frag) (H1 : Hp) (J : DIt) (J' : It) : Prop := ∀ H, Keep K H1 H → ∀ i m, RM K H m → ∀ o, J i m o → match o with
  | none => J'.stop i H
  | some x => J'.go i H ∧ ∀ v H', J'.yld i H v H' → Keep K H H' ∧ RM K H' m ∧ RD K H' x v
abbrev TDI := DS → M → (DIt → M → Prop) → Prop
def lI (K : PySem.W.Frag) (H0 : Hp) (wi : TDI) : TI := fun σ H R => ∃ sd m P, At K H0 sd m σ H ∧ wi sd m P ∧ ∀ J m' J' H', Keep K H H' → RM K H' m' → LiftIt K H' J J' → P J m' → R J' H'
theorem piL {tg e : Expr} {t t' : TI} (h : PI X tg e t) (i : ∀ σ H Q, t' σ H Q → t σ H Q) : PI X tg e t' := ⟨fun pins s σ H Q I ht => h.run pins s σ H Q I (i _ _ _ ht)⟩
def jTup (xs : List D) : DIt := fun i _ o => o = xs[i]?
def jLst (a : Addr) : DIt := fun i m o => ∃ xs, m a = some (.lst xs) ∧ o = xs[i]?
def jRng (lo : Int) (n : Nat) : DIt := fun i _ o => o = if i < n then some (.int (lo + i)) else none
/-- a tuple -/
def iT (t : TDE) : TDI := fun sd m P => t sd m fun x m1 => match x with | .tup xs => P (jTup xs) m1 | _ => False
/-- a list -/
def iL (t : TDE) : TDI := fun sd m P => t sd m fun x m1 => match x with | .rol xs => P (jTup xs) m1 | .ref a => (∃ xs, m1 a = some (.lst xs)) ∧ P (jLst a) m1 | _ => False
theorem lift_tup {K : PySem.W.Frag} {H : Hp} {b : Addr} {xs : List D} {vs : List V} (h1 : SqT K H b vs) (h2 : RDs K H xs vs) : LiftIt K H (jTup xs) (Itt K b) := fun H2 k2 i m2 r2 o e => by
  have e : o = xs[i]? := e
  cases e2 : xs[i]? with
  | none =>
    rw [e2] at e
    subst e
    exact ⟨vs, k2.t _ _ h1, by rw [← h2.length]; exact List.getElem?_eq_none_iff.mp e2⟩
  | some x =>
    rw [e2] at e
    subst e
    obtain ⟨u, e3, r3⟩ := h2.get e2
    refine ⟨⟨vs, u, k2.t _ _ h1, e3⟩, fun v H3 y => ?_⟩
    obtain ⟨e4, y⟩ := y
    have e5 := y vs (k2.t _ _ h1)
    rw [e3] at e5
    cases e5
    subst e4
    exact ⟨Keep.refl _, r2, r3.mono k2⟩
theorem lift_rol {K : PySem.W.Frag} {H : Hp} {b : Addr} {xs : List D} {vs : List V} (h1 : FrzL K H b vs) (h2 : RDs K H xs vs) : LiftIt K H (jTup xs) (Itl K b) := fun H2 k2 i m2 r2 o e => by
  have e : o = xs[i]? := e
  have g1 := (k2.f _ _ h1).sq
  cases e2 : xs[i]? with
  | none =>
    rw [e2] at e
    subst e
    exact ⟨vs, g1, by rw [← h2.length]; exact List.getElem?_eq_none_iff.mp e2⟩
  | some x =>
    rw [e2] at e
    subst e
    obtain ⟨u, e3, r3⟩ := h2.get e2
    refine ⟨⟨vs, u, g1, e3⟩, fun v H3 y => ?_⟩
    obtain ⟨e4, y⟩ := y
    have e5 := y vs g1
    rw [e3] at e5
    cases e5
    subst e4
    exact ⟨Keep.refl _, r2, r3.mono k2⟩
theorem lift_lst {K : PySem.W.Frag} {H : Hp} {b : Addr} : LiftIt K H (jLst b) (Itl K b) := fun H2 k2 i m2 r2 o e => by
  obtain ⟨ys, hy, e⟩ := e
  obtain ⟨ws, e1, g2⟩ := r2 _ _ hy
  have g1 : SqL K H2 b ws := .inl (.inl e1)
  cases e2 : ys[i]? with
  | none =>
    rw [e2] at e
    subst e
    exact ⟨ws, g1, by rw [← g2.length]; exact List.getElem?_eq_none_iff.mp e2⟩
  | some x =>
    rw [e2] at e
    subst e
    obtain ⟨u, e3, r3⟩ := g2.get e2
    refine ⟨⟨ws, u, g1, e3⟩, fun v H3 y => ?_⟩
    obtain ⟨e4, y⟩ := y
    have e5 := y ws g1
    rw [e3] at e5
    cases e5
    subst e4
    exact ⟨Keep.refl _, r2, r3⟩
theorem qi_tup {tg l : Expr} {t : TDE} (hl : PE X l (lE X.K H0 t)) : PI X tg l (lI X.K H0 (iT t)) := piL (pi_tup hl) fun σ H Q h => by
  obtain ⟨sd, m, P, a, p, q⟩ := h
  refine ⟨sd, m, _, a, p, fun d m' v H' k r rd p' => ?_⟩
  cases d with
  | tup xs =>
    obtain ⟨b, vs, rfl, h1, h2⟩ := rd.tup_
    refine ⟨b, rfl, ⟨vs, h1⟩, q _ m' _ H' k r (fun H2 k2 i m2 r2 o e => ?_) p'⟩
    have e : o = xs[i]? := e
    cases e2 : xs[i]? with
    | none =>
      rw [e2] at e
      subst e
      exact ⟨vs, k2.t _ _ h1, by rw [← h2.length]; exact List.getElem?_eq_none_iff.mp e2⟩
    | some x =>
      rw [e2] at e
      subst e
      obtain ⟨u, e3, r3⟩ := h2.get e2
      refine ⟨⟨vs, u, k2.t _ _ h1, e3⟩, fun v H3 y => ?_⟩
      obtain ⟨e4, y⟩ := y
      have e5 := y vs (k2.t _ _ h1)
      rw [e3] at e5
      cases e5
      subst e4
      exact ⟨Keep.refl _, r2, r3.mono k2⟩
  | _ => exact p'.elim
theorem qi_list {tg l : Expr} {t : TDE} (hl : PE X l (lE X.K H0 t)) : PI X tg l (lI X.K H0 (iL t)) := piL (pi_list hl) fun σ H Q h => by
  obtain ⟨sd, m, P, a, p, q⟩ := h
  refine ⟨sd, m, _, a, p, fun d m' v H' k r rd p' => ?_⟩
  cases d with
  | ref b =>
    cases rd.ref_
    obtain ⟨⟨xs, hx⟩, p'⟩ := p'
    have sq : ∀ {H2 : Hp} {m2 : M} {ys : List D}, RM X.K H2 m2 → m2 b = some (.lst ys) → ∃ vs, SqL X.K H2 b vs ∧ RDs X.K H2 ys vs := fun r2 h2 => by
      obtain ⟨vs, e1, r1⟩ := r2 _ _ h2; exact ⟨vs, .inl (.inl e1), r1⟩
    obtain ⟨vs, h1, h2⟩ := sq r hx
    refine ⟨b, rfl, ⟨vs, h1⟩, q _ m' _ H' k r (fun H2 k2 i m2 r2 o e => ?_) p'⟩
    obtain ⟨ys, hy, e⟩ := e
    obtain ⟨ws, g1, g2⟩ := sq r2 hy
    cases e2 : ys[i]? with
    | none =>
      rw [e2] at e
      subst e
      exact ⟨ws, g1, by rw [← g2.length]; exact List.getElem?_eq_none_iff.mp e2⟩
    | some x =>
      rw [e2] at e
      subst e
      obtain ⟨u, e3, r3⟩ := g2.get e2
      refine ⟨⟨ws, u, g1, e3⟩, fun v H3 y => ?_⟩
      obtain ⟨e4, y⟩ := y
      have e5 := y ws g1
      rw [e3] at e5
      cases e5
      subst e4
      exact ⟨Keep.refl _, r2, r3⟩
  | rol xs =>
    obtain ⟨b, vs, rfl, h1, h2⟩ := rd.rol_
    refine ⟨b, rfl, ⟨vs, h1.sq⟩, q _ m' _ H' k r (fun H2 k2 i m2 r2 o e => ?_) p'⟩
    have e : o = xs[i]? := e
    have g1 := (k2.f _ _ h1).sq
    cases e2 : xs[i]? with
    | none =>
      rw [e2] at e
      subst e
      exact ⟨vs, g1, by rw [← h2.length]; exact List.getElem?_eq_none_iff.mp e2⟩
    | some x =>
      rw [e2] at e
      subst e
      obtain ⟨u, e3, r3⟩ := h2.get e2
      refine ⟨⟨vs, u, g1, e3⟩, fun v H3 y => ?_⟩
      obtain ⟨e4, y⟩ := y
      have e5 := y vs g1
      rw [e3] at e5
      cases e5
      subst e4
      exact ⟨Keep.refl _, r2, r3.mono k2⟩
  | _ => exact p'.elim
theorem lift_rng {K : PySem.W.Frag} {H : Hp} {lo : Int} {n : Nat} : LiftIt K H (jRng lo n) (Itr lo n) := fun H2 k2 i m2 r2 o e => by
  have e : o = if i < n then some (.int (lo + i)) else none := e
  by_cases h : i < n
  · rw [if_pos h] at e
    subst e
    refine ⟨h, fun v H3 y => ?_⟩
    obtain ⟨e4, y⟩ := y
    subst e4 y
    exact ⟨Keep.refl _, r2, .int _⟩
  · rw [if_neg h] at e
    subst e
    exact Nat.le_of_not_lt h
def iR1 (t : TDA) : TDI := fun sd m P => t sd m fun xs m1 => match xs with | [.int j] => -(2 ^ 62) ≤ j ∧ j < 2 ^ 62 ∧ P (jRng 0 j.toNat) m1 | _ => False
def iR2 (t : TDA) : TDI := fun sd m P => t sd m fun xs m1 => match xs with | [.int i, .int j] => (-(2 ^ 62) ≤ i ∧ i < 2 ^ 62 ∧ -(2 ^ 62) ≤ j ∧ j < 2 ^ 62) ∧ P (jRng i (j - i).toNat) m1 | _ => False
theorem qi_range1 {tg a : Expr} {t : TDA} {p pos : Pos} (hg : Gl X "range") (hm : X.mg "range" = none) (ha : PA X [a] (lA X.K H0 t)) (hs : starEach [a] X.env = [(false, eval a X.env)] := by rfl) : PI X tg (.Call (.Name "range" p) [a] [] pos) (lI X.K H0 (iR1 t)) := piL (pi_range1 hg hm ha hs) fun σ H Q h => by
  obtain ⟨sd, m, P, a, p, q⟩ := h
  refine ⟨sd, m, _, a, p, fun d m' v H' k r rd p' => ?_⟩
  split at p'
  · obtain ⟨u, rfl, r1⟩ := rd.one_
    cases r1.int_
    exact ⟨_, rfl, p'.1, p'.2.1, q _ m' _ H' k r lift_rng p'.2.2⟩
  · exact p'.elim
theorem qi_range2 {tg a b : Expr} {t : TDA} {p pos : Pos} (hg : Gl X "range") (hm : X.mg "range" = none) (ha : PA X [a, b] (lA X.K H0 t)) (hs : starEach [a, b] X.env = [(false, eval a X.env), (false, eval b X.env)] := by rfl) (hs2 : starEach [b] X.env = [(false, eval b X.env)] := by rfl) :
    PI X tg (.Call (.Name "range" p) [a, b] [] pos) (lI X.K H0 (iR2 t)) := piL (pi_range2 hg hm ha hs hs2) fun σ H Q h => by
  obtain ⟨sd, m, P, a, p, q⟩ := h
  refine ⟨sd, m, _, a, p, fun d m' v H' k r rd p' => ?_⟩
  split at p'
  · obtain ⟨u, w, rfl, r1, r2⟩ := rd.two_
    cases r1.int_
    cases r2.int_
    exact ⟨_, _, rfl, p'.1, q _ m' _ H' k r lift_rng p'.2⟩
  · exact p'.elim
/-! ### for -/
def dFor (wi : TDI) (g : TDG) (tb : TDS) : TDS := fun D sd m => wi sd m fun J m1 => ∃ (N : Nat) (W : Nat → DS → M → Prop), W 0 sd m1 ∧ ∀ i sd m, W i sd m → i ≤ N ∧ ∃ o, J i m o ∧ match o with
  | none => D.nx sd m
  | some x => g x sd m fun sd2 m2 => tb { D with nx := Fg (W (i + 1)), ct := Fg (W (i + 1)), bk := D.nx } sd2 m2
/-- a loop's reading over any lifted iterable -/
theorem for_core {K : PySem.W.Frag} {g : TDG} {tb : TDS} {vs : List Nat} {J : DIt} {J' : It} {H H1 : Hp} {sd : DS} {m1 : M} {σ : St} {DD : DEnds} {D : Ends} (k0 : Keep K H0 H) (k1 : Keep K H H1) (s1 : RS K H1 sd σ) (r1 : RM K H1 m1) (l1 : LiftIt K H1 J J')
    (q1 : ∀ sd' m' σ' H', Keep K H H' → RS K H' sd' σ' → RM K H' m' → DD.nx sd' m' → D.nx σ' H') (q2 : ∀ d m' v H', Keep K H H' → RM K H' m' → RD K H' d v → DD.rt d m' → D.rt v H')
    (p : ∃ (N : Nat) (W : Nat → DS → M → Prop), W 0 sd m1 ∧ ∀ i sd m, W i sd m → i ≤ N ∧ ∃ o, J i m o ∧ match o with
      | none => DD.nx sd m
      | some x => g x sd m fun sd2 m2 => tb { DD with nx := Fg (W (i + 1)), ct := Fg (W (i + 1)), bk := DD.nx } sd2 m2) :
    ∃ W : Nat → Nat → St → Hp → Prop, (∃ m, W 0 m σ H1) ∧ ∀ i m σ H, W i m σ H →
      (J'.stop i H ∧ D.nx σ H) ∨ (J'.go i H ∧ ∃ N : St → Hp → Prop, (∀ σ' H', N σ' H' → ∃ m', m' < m ∧ W (i + 1) m' σ' H') ∧ ∀ x H', J'.yld i H x H' → lG K H0 vs g x σ H' fun σ2 H2 => lS K H0 tb { D with nx := N, ct := N, bk := D.nx } σ2 H2) := by
  obtain ⟨N, W, w0, turn⟩ := p
  refine ⟨fun i n σ' H' => n = N - i ∧ ∃ sd' m', Keep K H1 H' ∧ RS K H' sd' σ' ∧ RM K H' m' ∧ W i sd' m', ⟨N, rfl, sd, m1, Keep.refl _, s1, r1, w0⟩, ?_⟩
  rintro i n σ2 H2 ⟨rfl, sd2, m2, k2, s2, r2, w2⟩
  obtain ⟨hi, o, jo, rest⟩ := turn i sd2 m2 w2
  have L := l1 H2 k2 i m2 r2 o jo
  cases o with
  | none => exact .inl ⟨L, q1 sd2 m2 σ2 H2 (k1.trans k2) s2 r2 rest⟩
  | some x =>
    refine .inr ⟨L.1, fun σ3 H3 => ∃ sd' m', Keep K H1 H3 ∧ RS K H3 sd' σ3 ∧ RM K H3 m' ∧ W (i + 1) sd' m', ?_, fun v H3 y => ?_⟩
    · rintro σ3 H3 ⟨sd3, m3, k3, s3, r3, w3⟩
      have := (turn (i + 1) sd3 m3 w3).1
      exact ⟨N - (i + 1), by omega, rfl, sd3, m3, k3, s3, r3, w3⟩
    · obtain ⟨k3, r3, d3⟩ := L.2 v H3 y
      refine ⟨x, sd2, m2, _, ⟨s2.mono k3, r3, k0.trans (k1.trans (k2.trans k3))⟩, d3, rest, fun sd4 m4 σ4 H4 k4 s4 r4 _ p4 => ?_⟩
      have K4 : Keep K H1 H4 := k2.trans (k3.trans k4)
      refine ⟨sd4, m4, _, ⟨s4, r4, k0.trans (k1.trans K4)⟩, p4, ?_, ?_, ?_, ?_⟩
      · exact fun sd5 m5 σ5 H5 k5 s5 r5 ⟨m6, hl, w5⟩ => ⟨sd5, m6, K4.trans k5, s5, r5.less hl, w5⟩
      · exact fun a b c d k5 => q2 a b c d ((k1.trans K4).trans k5)
      · exact fun a b c d k5 => q1 a b c d ((k1.trans K4).trans k5)
      · exact fun sd5 m5 σ5 H5 k5 s5 r5 ⟨m6, hl, w5⟩ => ⟨sd5, m6, K4.trans k5, s5, r5.less hl, w5⟩
theorem qs_for {tg iter : Expr} {body : List Stmt} {wi : TDI} {g : TDG} {tb : TDS} {pos : Pos} {vs : List Nat} (hp : PassesOwn (model X.prog X.w) X.A X.env X.xe) (hc : X.calm = true) (hi : PI X tg iter (lI X.K H0 wi)) (hg : PG X tg (lG X.K H0 vs g)) (hb : PSs X body (lS X.K H0 tb))
    (hs : ∀ x, foldedSetIterable iter X.env x = pure x := by intro _; rfl) : PS X (.For tg iter body [] pos) (lS X.K H0 (dFor wi g tb)) := psL (ps_for hp hc hi hg hb hs) fun D σ H h => by
  obtain ⟨sd, m, DD, a, p, q1, q2, q3, q4⟩ := h
  exact ⟨sd, m, _, a, p, fun J m1 J' H1 k1 r1 l1 p1 => for_core a.k k1 (a.s.mono k1) r1 l1 q1 q2 p1⟩
end
end Q4

set_option Elab.async false
set_option linter.all false
set_option maxRecDepth 100000
namespace Q4
open PySem L2
section
variable {X : Cx} {H0 : Hp}
/-- a list: one that may change, or a locked one -/
def isL (m : M) (x : D) (ys : List D) : Prop := match x with | .rol xs => xs = ys | .ref a => m a = some (.lst ys) | _ => False
theorem RM.list {K : PySem.W.Frag} {H : Hp} {m : M} {x : D} {u : V} (r : RM K H m) (rd : RD K H x u) {ys : List D} (h : isL m x ys) : ∃ a vs, u = .ref a ∧ SqL K H a vs ∧ RDs K H ys vs := by
  unfold isL at h
  split at h
  · subst h
    obtain ⟨a, vs, rfl, h1, h2⟩ := rd.rol_
    exact ⟨a, vs, rfl, h1.sq, h2⟩
  · cases rd.ref_
    obtain ⟨vs, e1, r1⟩ := r _ _ h
    exact ⟨_, vs, rfl, .inl (.inl e1), r1⟩
  · exact h.elim
theorem rds_ints {K : PySem.W.Frag} {H : Hp} : ∀ {ns : List Int} {vs : List V}, RDs K H (ns.map D.int) vs → vs = ns.map V.int
  | [], _, .nil => rfl
  | n :: ns, _, .cons h r => by cases h.int_; rw [rds_ints r]; rfl
theorem rds_bls {K : PySem.W.Frag} {H : Hp} : ∀ {ns : List Bool} {vs : List V}, RDs K H (ns.map D.bl) vs → vs = ns.map V.bl
  | [], _, .nil => rfl
  | n :: ns, _, .cons h r => by cases h.bl_; rw [rds_bls r]; rfl
theorem rds_strs {K : PySem.W.Frag} {H : Hp} : ∀ {ns : List Str} {vs : List V}, RDs K H (ns.map D.str) vs → vs = ns.map V.str
  | [], _, .nil => rfl
  | n :: ns, _, .cons h r => by cases h.str_; rw [rds_strs r]; rfl
/-! ### len -/
def rLen : RnD := fun xs m P => match xs with
  | [.tup ys] => P (.int ys.length) m
  | [.str z] => z.length ≤ sizeLine ∧ P (.int z.length) m
  | [x] => ∃ ys, isL m x ys ∧ P (.int ys.length) m
  | _ => False
theorem cd_len : CallD X (.builtin "len") rLen := by
  have h1 : CallD X (.builtin "len") (fun xs m P => (∃ ys, xs = [.tup ys] ∧ P (.int ys.length) m) ∨ ∃ x ys, xs = [x] ∧ isL m x ys ∧ P (.int ys.length) m) := by
    refine ⟨_, call_len_seq, fun H m xs us P Q rm rx p q => ?_⟩
    rcases p with ⟨ys, rfl, p⟩ | ⟨a, ys, rfl, h, p⟩
    · obtain ⟨u, rfl, r⟩ := rx.one_
      obtain ⟨a, vs, rfl, h1, h2⟩ := r.tup_
      exact ⟨a, vs, rfl, .inr h1, q _ m _ H (Keep.refl _) rm (by rw [← h2.length]; exact .int _) p⟩
    · obtain ⟨u, rfl, r⟩ := rx.one_
      obtain ⟨a, vs, rfl, h1, h2⟩ := rm.list r h
      exact ⟨a, vs, rfl, .inl h1, q _ m _ H (Keep.refl _) rm (by rw [← h2.length]; exact .int _) p⟩
  have h2 : CallD X (.builtin "len") (fun xs m P => ∃ z, xs = [.str z] ∧ z.length ≤ sizeLine ∧ P (.int z.length) m) := by
    refine ⟨_, call_len_str, fun H m xs us P Q rm rx p q => ?_⟩
    obtain ⟨z, rfl, h, p⟩ := p
    obtain ⟨u, rfl, r⟩ := rx.one_
    cases r.str_
    exact ⟨z, rfl, h, q _ m _ H (Keep.refl _) rm (.int _) p⟩
  refine (h1.or h2).imp fun xs m P p => ?_
  unfold rLen at p
  split at p
  · exact .inl (.inl ⟨_, rfl, p⟩)
  · exact .inr ⟨_, rfl, p⟩
  · obtain ⟨ys, h, p⟩ := p
    exact .inl (.inr ⟨_, ys, rfl, h, p⟩)
  · exact p.elim
/-! ### abs, int, bool, str -/
def rAbs : RnD := fun xs m P => match xs with | [.int i] => P (.int (if i < 0 then -i else i)) m | _ => False
theorem cd_abs : CallD X (.builtin "abs") rAbs := by
  refine ⟨_, call_abs, fun H m xs us P Q rm rx p q => ?_⟩
  unfold rAbs at p
  split at p
  · obtain ⟨u, rfl, r⟩ := rx.one_
    cases r.int_
    exact ⟨_, rfl, q _ m _ H (Keep.refl _) rm (.int _) p⟩
  · exact p.elim
def rInt : RnD := fun xs m P => match xs with | [.int i] => P (.int i) m | [.bl k] => P (.int (if k then 1 else 0)) m | [.str a] => ∃ n, PySem.intText? a = some n ∧ a.length ≤ 640 ∧ P (.int n) m | _ => False
theorem cd_int : CallD X (.type "int") rInt := by
  have h1 : CallD X (.type "int") (fun xs m P => (∃ i, xs = [.int i] ∧ P (.int i) m) ∨ ∃ k : Bool, xs = [.bl k] ∧ P (.int (if k then 1 else 0)) m) := by
    refine ⟨_, call_int1, fun H m xs us P Q rm rx p q => ?_⟩
    rcases p with ⟨ys, rfl, p⟩ | ⟨a, rfl, p⟩
    · obtain ⟨u, rfl, r⟩ := rx.one_
      cases r.int_
      exact .inl ⟨_, rfl, q _ m _ H (Keep.refl _) rm (.int _) p⟩
    · obtain ⟨u, rfl, r⟩ := rx.one_
      cases r.bl_
      exact .inr ⟨_, rfl, q _ m _ H (Keep.refl _) rm (.int _) p⟩
  have h2 : CallD X (.type "int") (fun xs m P => ∃ z n, xs = [.str z] ∧ PySem.intText? z = some n ∧ z.length ≤ 640 ∧ P (.int n) m) := by
    refine ⟨_, call_int_str, fun H m xs us P Q rm rx p q => ?_⟩
    obtain ⟨z, n, rfl, h, h2, p⟩ := p
    obtain ⟨u, rfl, r⟩ := rx.one_
    cases r.str_
    exact ⟨z, n, rfl, h, h2, q _ m _ H (Keep.refl _) rm (.int _) p⟩
  refine (h1.or h2).imp fun xs m P p => ?_
  unfold rInt at p
  split at p
  · exact .inl (.inl ⟨_, rfl, p⟩)
  · exact .inl (.inr ⟨_, rfl, p⟩)
  · obtain ⟨n, p⟩ := p
    exact .inr ⟨_, n, rfl, p⟩
  · exact p.elim
def rStr : RnD := fun xs m P => match xs with | [.int i] => i.natAbs.log2 < 1920 ∧ P (.str (toString i)) m | _ => False
theorem cd_str : CallD X (.type "str") rStr := by
  refine ⟨_, call_str_int, fun H m xs us P Q rm rx p q => ?_⟩
  unfold rStr at p
  split at p
  · obtain ⟨u, rfl, r⟩ := rx.one_
    cases r.int_
    exact ⟨_, rfl, p.1, q _ m _ H (Keep.refl _) rm (.str _) p.2⟩
  · exact p.elim
/-! ### tuple, list -/
def rTuple : RnD := fun xs m P => match xs with | [.tup ys] => P (.tup ys) m | [x] => ∃ ys, isL m x ys ∧ P (.tup ys) m | _ => False
theorem cd_tuple : CallD X (.type "tuple") rTuple := by
  refine ⟨_, call_tuple_of, fun H m xs us P Q rm rx p q => ?_⟩
  unfold rTuple at p
  split at p
  · obtain ⟨u, rfl, r⟩ := rx.one_
    obtain ⟨a, vs, rfl, h1, h2⟩ := r.tup_
    exact ⟨a, vs, rfl, .inr ⟨h1, q _ m _ H (Keep.refl _) rm (.tup h1 h2) p⟩⟩
  · obtain ⟨u, rfl, r⟩ := rx.one_
    obtain ⟨ys, h, p⟩ := p
    obtain ⟨_, vs, rfl, h1, h2⟩ := rm.list r h
    exact ⟨_, vs, rfl, .inl ⟨h1, fun l hl => q _ m _ _ (Keep.new hl) (rm.new hl) (.tup (.inl (.inl upd_same)) (h2.mono (Keep.new hl))) p⟩⟩
  · exact p.elim
def rList : RnD := fun xs m P => match xs with | [.tup ys] => ∀ l, m l = none → P (.ref l) (put m l (.lst ys)) | [x] => ∃ ys, isL m x ys ∧ ∀ l, m l = none → P (.ref l) (put m l (.lst ys)) | _ => False
theorem cd_list : CallD X (.type "list") rList := by
  refine ⟨_, call_list_of, fun H m xs us P Q rm rx p q => ?_⟩
  unfold rList at p
  split at p
  · obtain ⟨u, rfl, r⟩ := rx.one_
    obtain ⟨a, vs, rfl, h1, h2⟩ := r.tup_
    exact ⟨a, vs, rfl, .inr h1, fun l hl => q _ _ _ _ (Keep.new hl) (rm.newPut hl h2) (.ref l) (p l (rm.free hl))⟩
  · obtain ⟨u, rfl, r⟩ := rx.one_
    obtain ⟨ys, h, p⟩ := p
    obtain ⟨_, vs, rfl, h1, h2⟩ := rm.list r h
    exact ⟨_, vs, rfl, .inl h1, fun l hl => q _ _ _ _ (Keep.new hl) (rm.newPut hl h2) (.ref l) (p l (rm.free hl))⟩
  · exact p.elim
/-! ### sum, all, any over lists -/
def rSumD : RnD := fun xs m P => match xs with | [x] => ∃ ns : List Int, isL m x (ns.map D.int) ∧ P (.int ns.sum) m | _ => False
theorem cd_sum (hc : X.calm = true) : CallD X (.builtin "sum") rSumD := by
  refine ⟨_, cr_sum hc, fun H m xs us P Q rm rx p q => ?_⟩
  unfold rSumD at p
  split at p
  · obtain ⟨u, rfl, r⟩ := rx.one_
    obtain ⟨ys, h, p⟩ := p
    obtain ⟨_, vs, rfl, h1, h2⟩ := rm.list r h
    cases rds_ints h2
    exact ⟨_, _, rfl, h1, q _ m _ H (Keep.refl _) rm (.int _) p⟩
  · exact p.elim
def rAllD : RnD := fun xs m P => match xs with | [x] => ∃ ns : List Bool, isL m x (ns.map D.bl) ∧ P (.bl (ns.all id)) m | _ => False
theorem cd_all (hc : X.calm = true) : CallD X (.builtin "all") rAllD := by
  refine ⟨_, cr_all hc, fun H m xs us P Q rm rx p q => ?_⟩
  unfold rAllD at p
  split at p
  · obtain ⟨u, rfl, r⟩ := rx.one_
    obtain ⟨ys, h, p⟩ := p
    obtain ⟨_, vs, rfl, h1, h2⟩ := rm.list r h
    cases rds_bls h2
    exact ⟨_, _, rfl, h1, q _ m _ H (Keep.refl _) rm (.bl _) p⟩
  · exact p.elim
def rAnyD : RnD := fun xs m P => match xs with | [x] => ∃ ns : List Bool, isL m x (ns.map D.bl) ∧ P (.bl (ns.any id)) m | _ => False
theorem cd_any (hc : X.calm = true) : CallD X (.builtin "any") rAnyD := by
  refine ⟨_, cr_any hc, fun H m xs us P Q rm rx p q => ?_⟩
  unfold rAnyD at p
  split at p
  · obtain ⟨u, rfl, r⟩ := rx.one_
    obtain ⟨ys, h, p⟩ := p
    obtain ⟨_, vs, rfl, h1, h2⟩ := rm.list r h
    cases rds_bls h2
    exact ⟨_, _, rfl, h1, q _ m _ H (Keep.refl _) rm (.bl _) p⟩
  · exact p.elim
def rMaxD : RnD := fun xs m P => match xs with
  | [.int i, .int j] => P (.int (if j > i then j else i)) m
  | [x] => ∃ ns : List Int, isL m x (ns.map D.int) ∧ 0 < ns.length ∧ ∀ k, k ∈ ns → (∀ y, y ∈ ns → y ≤ k) → P (.int k) m
  | _ => False
theorem cd_max (hc : X.calm = true) : CallD X (.builtin "max") rMaxD := by
  have h1 : CallD X (.builtin "max") (fun xs m P => ∃ i j, xs = [.int i, .int j] ∧ P (.int (if j > i then j else i)) m) := by
    refine ⟨_, call_max2 hc, fun H m xs us P Q rm rx p q => ?_⟩
    obtain ⟨i, j, rfl, p⟩ := p
    obtain ⟨u, v, rfl, r1, r2⟩ := rx.two_
    cases r1.int_
    cases r2.int_
    exact ⟨i, j, rfl, q _ m _ H (Keep.refl _) rm (.int _) p⟩
  have h2 : CallD X (.builtin "max") (fun xs m P => ∃ x, ∃ ns : List Int, xs = [x] ∧ isL m x (ns.map D.int) ∧ 0 < ns.length ∧ ∀ k, k ∈ ns → (∀ y, y ∈ ns → y ≤ k) → P (.int k) m) := by
    refine ⟨_, cr_max hc, fun H m xs us P Q rm rx p q => ?_⟩
    obtain ⟨a, ns, rfl, h, z, p⟩ := p
    obtain ⟨u, rfl, r⟩ := rx.one_
    obtain ⟨_, vs, rfl, h1, h2⟩ := rm.list r h
    cases rds_ints h2
    exact ⟨_, _, rfl, h1, z, fun k hk hy => q _ m _ H (Keep.refl _) rm (.int _) (p k hk hy)⟩
  refine (h1.or h2).imp fun xs m P p => ?_
  unfold rMaxD at p
  split at p
  · exact .inl ⟨_, _, rfl, p⟩
  · obtain ⟨n, p⟩ := p
    exact .inr ⟨_, n, rfl, p⟩
  · exact p.elim
/-! ### isinstance of a built-in class -/
def tyN (m : M) : D → Option String
  | .non => some "NoneType" | .bl _ => some "bool" | .int _ => some "int" | .str _ => some "str" | .tup _ => some "tuple"
  | .rol _ => some "list"
  | .ref a => match m a with | some (.lst _) => some "list" | _ => none
  | .ty _ => none
def rIsD : RnD := fun xs m P => match xs with | [x, .ty T] => ∃ n b, tyN m x = some n ∧ kitB n T = some b ∧ P (.bl b) m | _ => False
theorem tyX_of {K : PySem.W.Frag} {H : Hp} {m : M} {x : D} {u : V} {n : String} (rm : RM K H m) (r : RD K H x u) (h : tyN m x = some n) : TyX K H u (.type n) := by
  cases x with
  | non => cases r.non_; cases h; exact .base .non
  | bl b => cases r.bl_; cases h; exact .base (.bl b)
  | int b => cases r.int_; cases h; exact .base (.int b)
  | str b => cases r.str_; cases h; exact .base (.str b)
  | tup xs =>
    obtain ⟨a, vs, rfl, h1, h2⟩ := r.tup_
    cases h
    rcases h1 with (h1 | ⟨o, h1⟩) | ⟨o, its, k, h1, h2, _⟩
    · exact .base (.tup h1)
    · exact .fTuple h1
    · exact .kTuple h1 h2
  | ref a =>
    cases r.ref_
    have h : (match m a with | some (.lst _) => some "list" | _ => none) = some n := h
    split at h
    · rename_i e
      cases h
      obtain ⟨vs, e1, _⟩ := rm _ _ e
      exact .base (.lst e1)
    · cases h
  | rol xs =>
    obtain ⟨a, vs, rfl, h1, h2⟩ := r.rol_
    cases h
    rcases h1 with ⟨o, h1⟩ | ⟨o, its, k, h1, h2, _⟩
    · exact .base (.frz h1)
    · exact .kList h1 h2
  | ty n => cases h
theorem cd_isi : CallD X (.builtin "isinstance") rIsD := by
  refine ⟨_, call_isi, fun H m xs us P Q rm rx p q => ?_⟩
  unfold rIsD at p
  split at p
  · obtain ⟨u, v, rfl, r1, r2⟩ := rx.two_
    cases r2.ty_
    obtain ⟨n, b, h1, h2, p⟩ := p
    exact ⟨_, _, _, _, b, rfl, .ty _, tyX_of rm r1 h1, kit_ty h2, q _ m _ H (Keep.refl _) rm (.bl _) p⟩
  · exact p.elim
/-! ### methods of built-in types -/
abbrev RmD := D → List D → M → DK → Prop
structure MethD (X : Cx) (T id : String) (ty : D → M → Prop) (r' : RmD) : Prop where
  ex : ∃ r, MtR X id r ∧ (∀ H m x u, RM X.K H m → RD X.K H x u → ty x m → tyV X.K T u H) ∧ ∀ H m x u xs us P Q, RM X.K H m → RD X.K H x u → RDs X.K H xs us → r' x xs m P → Wants X.K H P Q → r u us H Q
def dBM (ty : D → M → Prop) (r : RmD) (to : TDE) (t : TDA) : TDE := fun sd m P => to sd m fun x m1 => ty x m1 ∧ t sd m1 fun xs m2 => r x xs m2 P
theorem qe_bm {T id : String} {name : Str} {o e : Expr} {es : List Expr} {apos cpos : Pos} {ty : D → M → Prop} {r : RmD} {to : TDE} {t : TDA} (hm : MethD X T id ty r) (pa : PlainAttrs T) (slot : Slot T name id) (hty : typeOf (.builtin id) = pure (.type "method_descriptor")) (ho : PE X o (lE X.K H0 to)) (ha : PA X (e :: es) (lA X.K H0 t))
    (hbase : attributeBase o name X.env (eval o X.env) = eval o X.env := by rfl)
    (hfew : ((backTo cpos (starEach (e :: es) X.env)).all (fun x => !x.1) && (backToKw cpos (keywordEach [] X.env)).all (fun x => x.1.isSome)
      && decide ((e :: es).length + ([] : List Keyword).length + (if ([] : List Keyword).isEmpty then 0 else 1) < 30)) = true := by rfl)
    (hline : (apos.endLine == cpos.line) = true := by rfl) (hs : starEach (e :: es) X.env = (false, eval e X.env) :: starEach es X.env := by rfl) (hplain : (backTo cpos (starEach es X.env)).any (·.1) = false := by rfl) :
    PE X (.Call (.Attribute o name apos) (e :: es) [] cpos) (lE X.K H0 (dBM ty r to t)) := by
  obtain ⟨r1, h1, h2, h3⟩ := hm.ex
  refine peL (pe_bm pa slot hty h1 ho ha hbase hfew hline hs hplain) fun σ H Q h => ?_
  obtain ⟨sd, m, P, a, p, q⟩ := h
  refine ⟨sd, m, _, a, p, fun x m1 u H1 k1 r1 d1 p1 => ⟨h2 H1 m1 x u r1 d1 p1.1, ?_⟩⟩
  exact ⟨sd, m1, _, a.to k1 r1, p1.2, fun xs m2 us H2 k2 r2 d2 p2 => h3 H2 m2 x u xs us P Q r2 (d1.mono k2) d2 p2 fun d m' w H' k => q d m' w H' ((k1.trans k2).trans k)⟩
def isLst (x : D) (m : M) : Prop := match x with | .ref a => ∃ xs, m a = some (.lst xs) | _ => False
def rApp : RmD := fun x ys m P => match x, ys with | .ref a, [y] => ∃ xs, m a = some (.lst xs) ∧ xs.length < sizeLine ∧ P .non (put m a (.lst (xs ++ [y]))) | _, _ => False
theorem md_append : MethD X "list" "list.append" isLst rApp := by
  refine ⟨_, mt_append, fun H m x u rm rx h => ?_, fun H m x u xs us P Q rm rx rs p q => ?_⟩
  · unfold isLst at h
    split at h
    · cases rx.ref_
      obtain ⟨xs, h⟩ := h
      obtain ⟨vs, e, _⟩ := rm _ _ h
      exact .inl ⟨rfl, _, .inl (.inl e)⟩
    · exact h.elim
  · unfold rApp at p
    split at p
    · cases rx.ref_
      obtain ⟨w, rfl, r⟩ := rs.one_
      obtain ⟨xs, h, z, p⟩ := p
      obtain ⟨vs, e, rr⟩ := rm _ _ h
      exact ⟨_, vs, w, rfl, rfl, e, by rw [← rr.length]; exact z, q _ _ _ _ (Keep.lst e) (rm.setPut e (rr.append (.cons r .nil))) .non p⟩
    · exact p.elim
/-! ### slices -/
abbrev TDO := DS → M → (Option Int → M → Prop) → Prop
def lO (K : PySem.W.Frag) (H0 : Hp) (t : TDO) : TO := fun σ H Q => ∃ sd m P, At K H0 sd m σ H ∧ t sd m P ∧ ∀ o m' H', Keep K H H' → RM K H' m' → P o m' → Q o H'
def dNoPart : TDO := fun _ m P => P none m
def dPart (t : TDE) : TDO := fun sd m P => t sd m fun x m1 => match x with | .int i => P (some i) m1 | _ => False
theorem poL {e : Option Expr} {t t' : TO} (h : PO X e t) (i : ∀ σ H Q, t' σ H Q → t σ H Q) : PO X e t' := ⟨fun pins s σ H Q I ht => h.run pins s σ H Q I (i _ _ _ ht)⟩
theorem qo_none : PO X none (lO X.K H0 dNoPart) := poL po_none fun σ H Q h => by
  obtain ⟨sd, m, P, a, p, q⟩ := h
  exact q none m H (Keep.refl _) a.m p
theorem qo_some {e : Expr} {t : TDE} (h : PE X e (lE X.K H0 t)) : PO X (some e) (lO X.K H0 (dPart t)) := poL (po_some h) fun σ H Q h => by
  obtain ⟨sd, m, P, a, p, q⟩ := h
  refine ⟨sd, m, _, a, p, fun d m' v H' k r rd p' => ?_⟩
  cases d with
  | int i => cases rd.int_; exact ⟨i, rfl, q _ m' H' k r p'⟩
  | _ => exact p'.elim
def cutL {α : Type} (xs : List α) (lo hi : Option Int) : List α := (xs.drop (HT.sIx xs.length 0 lo)).take (HT.sIx xs.length xs.length hi - HT.sIx xs.length 0 lo)
def rSlD (x : D) (l u : Option Int) (m : M) (P : DK) : Prop := match x with
  | .tup xs => P (.tup (cutL xs l u)) m
  | .str z => z.length ≤ sizeLine ∧ P (.str (cutS z l u)) m
  | x => ∃ xs, isL m x xs ∧ ∀ p, m p = none → P (.ref p) (put m p (.lst (cutL xs l u)))
def dSl (t : TDE) (tl th : TDO) : TDE := fun sd m P => t sd m fun x m1 => tl sd m1 fun l m2 => th sd m2 fun u m3 => rSlD x l u m3 P
theorem RDs.cut {K : PySem.W.Frag} {H : Hp} {xs : List D} {vs : List V} (r : RDs K H xs vs) (lo hi : Option Int) : RDs K H (cutL xs lo hi) (cutV vs lo hi) := by
  unfold cutL cutV
  rw [← r.length]
  exact (r.drop _).take _
theorem qe_slice {e : Expr} {lo hi : Option Expr} {p2 pos : Pos} {t : TDE} {tl th : TDO} (he : PE X e (lE X.K H0 t)) (hl : PO X lo (lO X.K H0 tl)) (hu : PO X hi (lO X.K H0 th)) : PE X (.Subscript e (.Slice lo hi none p2) pos) (lE X.K H0 (dSl t tl th)) :=
  peL (pe_slice (sl_tupA.or (sl_str.or sl_list)) he hl hu) fun σ H Q h => by
    obtain ⟨sd, m, P, a, p, q⟩ := h
    refine ⟨sd, m, _, a, p, fun x m1 u H1 k1 r1 d1 p1 => ⟨sd, m1, _, a.to k1 r1, p1, fun l m2 H2 k2 r2 p2 => ⟨sd, m2, _, a.to (k1.trans k2) r2, p2, fun o m3 H3 k3 r3 p3 => ?_⟩⟩⟩
    have k : Keep X.K H H3 := (k1.trans k2).trans k3
    have d3 := d1.mono (k2.trans k3)
    unfold rSlD at p3
    split at p3
    · rename_i xs
      obtain ⟨b, vs, rfl, h1, h2⟩ := d3.tup_
      refine .inl ⟨b, vs, rfl, h1, fun e => ?_, fun e z hz => ?_⟩
      · refine q _ m3 _ H3 k r3 ?_ p3
        refine .tup h1 ?_
        have e' : cutL xs l o = xs := by
          unfold cutL
          rw [h2.length, e.1, e.2, List.drop_zero, Nat.sub_zero, ← h2.length]
          exact List.take_length
        rw [e']
        exact h2
      · exact q _ m3 _ _ (k.trans (Keep.new hz)) (r3.new hz) (.tup (.inl (.inl upd_same)) ((h2.cut l o).mono (Keep.new hz))) p3
    · cases d3.str_
      exact .inr (.inl ⟨_, rfl, p3.1, q _ m3 _ H3 k r3 (.str _) p3.2⟩)
    · obtain ⟨xs, h, p3⟩ := p3
      obtain ⟨_, vs, rfl, h1, h2⟩ := r3.list d3 h
      exact .inr (.inr ⟨_, vs, rfl, h1, fun z hz => q _ _ _ _ (k.trans (Keep.new hz)) (r3.newPut hz (h2.cut l o)) (.ref z) (p3 z (r3.free hz))⟩)
end
end Q4

set_option Elab.async false
set_option linter.all false
set_option maxRecDepth 100000
namespace Q4
open PySem L2
open PyProof.Rows (envOfC)
def Ret (P : DK) : DK := fun d m => ∃ m', Less m' m ∧ P d m'
abbrev DSp := List D → M → DK → DXK → Prop
def XRel (K : PySem.W.Frag) (H : Hp) : Option (List (Str × D)) → Option Addr → Prop
  | none, none => True
  | some fs, some d => ∃ gs, H d = some (.xd gs) ∧ RDs K H (fs.map (·.2)) (gs.map (·.2)) ∧ fs.map (·.1) = gs.map (·.1)
  | _, _ => False
def WantsX (K : PySem.W.Frag) (H : Hp) (EX : DXK) (E : XK) : Prop := ∀ c fo m' od H', Keep K H H' → RM K H' m' → XRel K H' fo od → EX c fo m' → E c od H'
def noX : DXK := fun _ _ _ => False
def lSp (K : PySem.W.Frag) (d : DSp) : Sp := fun vs H Q E => ∃ ds m P EX, RDs K H ds vs ∧ RM K H m ∧ d ds m P EX ∧ Wants K H P Q ∧ WantsX K H EX E
theorem wantsX0 {K : PySem.W.Frag} {H : Hp} {E : XK} : WantsX K H noX E := fun _ _ _ _ _ _ _ _ h => h.elim
section
variable {X : Cx} {H0 : Hp}
/-! ### calls of defs that raise nothing -/
def dCall (d : DSp) (t : TDA) : TDE := fun sd m P => t sd m fun xs m1 => d xs m1 P noX
theorem l_call {K : PySem.W.Frag} {d : DSp} {E : XK} {t : TDA} {σ : St} {H : Hp} {Q : VK} (h : lE K H0 (dCall d t) σ H Q) : tCall (lSp K d) [] E (lA K H0 t) σ H Q := by
  obtain ⟨sd, m, P, a, p, q⟩ := h
  refine ⟨sd, m, _, a, p, fun xs m1 us H1 k1 r1 d1 p1 => ?_⟩
  show lSp K d (us ++ []) H1 Q E
  rw [List.append_nil]
  exact ⟨xs, m1, P, noX, d1, r1, p1, fun d m' w H' k => q d m' w H' (k1.trans k), wantsX0⟩
theorem qe_call {CX : CXT} {k : Nat} {f : Addr} {fd : FuncData} {ps : List Str} {d : DSp} {E : XK} {x : Str} {p pos : Pos} {e : Expr} {es : List Expr} {t : TDA} (F : FnOk X.prog X.w X.K X.mg X.base CX k f fd ps (lSp X.K d)) (hr : Room k X.A) (hg : Gl X x) (hm : X.mg x = some (.ref f)) (hk : PySem.W.keepIn X.K (.ref f) = true) (hb : Binds X.K fd ps []) (hx : Passes CX X E)
    (ha : PA X (e :: es) (lA X.K H0 t)) (hdb : (x == ("__debug__" : Str)) = false := by decide) (he : starEach (e :: es) X.env = (false, eval e X.env) :: starEach es X.env := by rfl) (hpl : (backTo pos (starEach es X.env)).any (·.1) = false := by rfl) :
    PE X (.Call (.Name x p) (e :: es) [] pos) (lE X.K H0 (dCall d t)) := peL (pe_call F hr hg hm hk hb .nil hx ha hdb he hpl) fun _ _ _ => l_call
theorem qe_call0 {CX : CXT} {k : Nat} {f : Addr} {fd : FuncData} {ps : List Str} {d : DSp} {E : XK} {x : Str} {p pos : Pos} (F : FnOk X.prog X.w X.K X.mg X.base CX k f fd ps (lSp X.K d)) (hr : Room k X.A) (hg : Gl X x) (hm : X.mg x = some (.ref f)) (hk : PySem.W.keepIn X.K (.ref f) = true) (hb : Binds X.K fd ps []) (hx : Passes CX X E)
    (hdb : (x == ("__debug__" : Str)) = false := by decide) : PE X (.Call (.Name x p) [] [] pos) (lE X.K H0 (dCall d dNil)) := peL (pe_call0 F hr hg hm hk hb .nil hx hdb) fun σ H Q h => by
  have h' := l_call (K := X.K) (E := E) h
  obtain ⟨sd, m, P, a, p, q⟩ := h
  exact ⟨[], m, P, noX, .nil, a.m, p, q, wantsX0⟩
/-! ### a def -/
def dstart (N : List Str) (ds : List D) : DS := ds.map some ++ List.replicate (N.length - ds.length) none
theorem Fun.okD {P : Program} {w : World} {K : PySem.W.Frag} {mg : Str → Option Value} {base : Heap} {x qual : Str} {st : Stmt} {f : Addr} {fd : FuncData} {N ps : List Str} {k : Nat} {d : DSp} (F : Fun K x qual st f fd) (S : FnScope N ps (defScope st)) (len : ∀ ds m P EX, d ds m P EX → ds.length = ps.length)
    (t : TDS) (hread : ∀ ds m P EX, d ds m P EX → t { nx := fun _ m' => Ret P .non m', rt := Ret P } (dstart N ds) m)
    (hbody : ∀ (cdv : Value) (A : Around) (outer : List Env) (s : Shared) (H : Hp) (E : XK), Room k (A.deeper (envOfC qual (defScope st) s.heap.objs.size f cdv)) → PSs (cxOf CX0 P w K mg base N qual (defScope st) f cdv A outer s H E).nox (defBody st) (lS K H t)) :
    FnOk P w K mg base CX0 (k + 1) f fd ps (lSp K d) := by
  refine F.ok S (fun vs H Q E h => ?_) (fun cdv A outer s H vs Q E hr h => ?_)
  · obtain ⟨ds, m, P, EX, r, _, h, _⟩ := h
    rw [← r.length]
    exact len _ _ _ _ h
  · obtain ⟨ds, m, P', EX, r, rm, h, q, _⟩ := h
    refine ⟨_, hbody cdv A outer s H E hr, dstart N ds, m, _, ⟨RS.start r, rm, Keep.refl _⟩, hread ds m P' EX h, ?_, ?_, ?_, ?_⟩
    · rintro sd' m' σ' H' k s r ⟨m2, l, p⟩
      exact q _ m2 _ H' k (r.less l) .non p
    · rintro d m' v H' k r rd ⟨m2, l, p⟩
      exact q _ m2 _ H' k (r.less l) rd p
    · exact fun _ _ _ _ _ _ _ h => h
    · exact fun _ _ _ _ _ _ _ h => h
/-! ### comprehensions -/
def dYes : TDT := fun _ m P => P true m
theorem qts_nil : PTs X [] (lT X.K H0 dYes) := ⟨fun pins s σ H Q I h => pts_nil.run pins s σ H Q I (by
  obtain ⟨sd, m, P, a, p, q⟩ := h
  exact q true m H (Keep.refl _) a.m p)⟩
theorem qts_one {c : Expr} {t : TDT} (h : PT X c (lT X.K H0 t)) : PTs X [c] (lT X.K H0 t) := pts_one h
def wipeD (sd : DS) : List Nat → DS
  | [] => sd
  | v :: vs => (wipeD sd vs).set v none
theorem RS.wipe {K : PySem.W.Frag} {H : Hp} {sd : DS} {σ : St} (r : RS K H sd σ) : ∀ vs : List Nat, RS K H (wipeD sd vs) (L2.wipe σ vs)
  | [] => r
  | v :: vs => by
    have ih := r.wipe vs
    unfold wipeD L2.wipe
    refine ⟨by rw [List.length_set, List.length_set, ih.len], fun j d e => ?_⟩
    by_cases hj : v = j
    · subst hj
      rw [List.getElem?_set] at e
      simp at e
    · rw [List.getElem?_set_ne hj] at e ⊢
      exact ih.get j d e
/-- [e for g in wi if tt]: the new list's items so far are acc -/
def dLc (wi : TDI) (g : TDG) (tt : TDT) (te : TDE) (vs : List Nat) : TDE := fun sd m P => wi sd m fun J m1 => ∀ p, m1 p = none → ∃ (N : Nat) (W : Nat → List D → M → Prop), W 0 [] m1 ∧ ∀ i acc m2, W i acc m2 → i ≤ N ∧ ∃ o, J i (put m2 p (.lst acc)) o ∧ match o with
  | none => P (.ref p) (put m2 p (.lst acc))
  | some x => g x (wipeD sd vs) (put m2 p (.lst acc)) fun sd2 m3 => tt sd2 m3 fun b m4 =>
    if b = true then te sd2 m4 fun y m5 => ∃ m6, Less (put m6 p (.lst acc)) m5 ∧ acc.length < sizeLine ∧ W (i + 1) (acc ++ [y]) m6 else ∃ m6, Less (put m6 p (.lst acc)) m4 ∧ W (i + 1) acc m6
theorem lc_core {K : PySem.W.Frag} {g : TDG} {tt : TDT} {te : TDE} {vs : List Nat} {J : DIt} {J' : It} {H H1 : Hp} {sd : DS} {m1 : M} {σ : St} {P : DK} {Q : VK} (k0 : Keep K H0 H) (k1 : Keep K H H1) (s0 : RS K H sd σ) (r1 : RM K H1 m1) (l1 : LiftIt K H1 J J')
    (q : ∀ d m' v H', Keep K H H' → RM K H' m' → RD K H' d v → P d m' → Q v H') {D : Addr} (hD : H1 D = none)
    (p : ∃ (N : Nat) (W : Nat → List Q4.D → M → Prop), W 0 [] m1 ∧ ∀ i acc m2, W i acc m2 → i ≤ N ∧ ∃ o, J i (put m2 D (.lst acc)) o ∧ match o with
      | none => P (.ref D) (put m2 D (.lst acc))
      | some x => g x (wipeD sd vs) (put m2 D (.lst acc)) fun sd2 m3 => tt sd2 m3 fun b m4 =>
        if b = true then te sd2 m4 fun y m5 => ∃ m6, Less (put m6 D (.lst acc)) m5 ∧ acc.length < sizeLine ∧ W (i + 1) (acc ++ [y]) m6 else ∃ m6, Less (put m6 D (.lst acc)) m4 ∧ W (i + 1) acc m6) :
    ∃ W : Nat → Nat → Hp → Prop, (∃ m, W 0 m (upd H1 D (.lst []))) ∧ ∀ i m H, W i m H →
      (J'.stop i H ∧ Q (.ref D) H) ∨ (J'.go i H ∧ ∃ Nx : Hp → Prop, (∀ H', Nx H' → ∃ m', m' < m ∧ W (i + 1) m' H') ∧ ∀ x H', J'.yld i H x H' → lG K H0 vs g x (L2.wipe σ vs) H' fun σ2 H2 => L2.wipe σ2 vs = L2.wipe σ vs ∧ lT K H0 tt σ2 H2 fun b H3 =>
        if b = true then lE K H0 te σ2 H3 fun y H4 => ∃ acc, H4 D = some (.lst acc) ∧ acc.length < sizeLine ∧ Nx (upd H4 D (.lst (acc ++ [y]))) else Nx H3) := by
  obtain ⟨N, W, w0, turn⟩ := p
  refine ⟨fun i n H' => n = N - i ∧ ∃ acc m', Keep K H1 H' ∧ RM K H' (put m' D (.lst acc)) ∧ W i acc m', ⟨N, rfl, [], m1, Keep.new hD, r1.newPut hD .nil, w0⟩, ?_⟩
  rintro i n H2 ⟨rfl, acc, m2, k2, r2, w2⟩
  obtain ⟨hi, o, jo, rest⟩ := turn i acc m2 w2
  have L := l1 H2 k2 i _ r2 o jo
  cases o with
  | none => exact .inl ⟨L, q _ _ _ H2 (k1.trans k2) r2 (.ref D) rest⟩
  | some x =>
    refine .inr ⟨L.1, fun H3 => ∃ acc m', Keep K H1 H3 ∧ RM K H3 (put m' D (.lst acc)) ∧ W (i + 1) acc m', ?_, fun v H3 y => ?_⟩
    · rintro H3 ⟨acc3, m3, k3, r3, w3⟩
      have := (turn (i + 1) acc3 m3 w3).1
      exact ⟨N - (i + 1), by omega, rfl, acc3, m3, k3, r3, w3⟩
    · obtain ⟨k3, r3, d3⟩ := L.2 v H3 y
      have K3 : Keep K H H3 := k1.trans (k2.trans k3)
      refine ⟨x, wipeD sd vs, _, _, ⟨(s0.mono K3).wipe vs, r3, k0.trans K3⟩, d3, rest, fun sd4 m4 σ4 H4 k4 s4 r4 hw p4 => ⟨hw.trans wipe_wipe, ?_⟩⟩
      have K4 : Keep K H H4 := K3.trans k4
      refine ⟨sd4, m4, _, ⟨s4, r4, k0.trans K4⟩, p4, fun b m5 H5 k5 r5 p5 => ?_⟩
      have K5 : Keep K H1 H5 := (k2.trans k3).trans (k4.trans k5)
      cases b with
      | true =>
        refine ⟨sd4, m5, _, ⟨s4.mono k5, r5, k0.trans (K4.trans k5)⟩, p5, fun z m6 w H6 k6 r6 d6 p6 => ?_⟩
        obtain ⟨m7, hl7, hz, w7⟩ := p6
        have r6 := r6.less hl7
        obtain ⟨us, e1, rr⟩ := r6 D _ put_same
        refine ⟨us, e1, by rw [← rr.length]; exact hz, acc ++ [z], m7, (K5.trans k6).trans (Keep.lst e1), ?_, w7⟩
        have := r6.setPut e1 (rr.append (.cons d6 .nil))
        rw [put_put] at this
        exact this
      | false =>
        obtain ⟨m7, hl7, w7⟩ := p5
        exact ⟨acc, m7, K5, r5.less hl7, w7⟩
theorem l_lc {K : PySem.W.Frag} {wi : TDI} {g : TDG} {tt : TDT} {te : TDE} {vs : List Nat} {σ : St} {H : Hp} {Q : VK} (h : lE K H0 (dLc wi g tt te vs) σ H Q) : tLc (lI K H0 wi) (lG K H0 vs g) (lT K H0 tt) (lE K H0 te) vs σ H Q := by
  obtain ⟨sd, m, P, a, p, q⟩ := h
  exact ⟨sd, m, _, a, p, fun J m1 J' H1 k1 r1 l1 p1 D hD => lc_core a.k k1 a.s r1 l1 q hD (p1 D (r1.free hD))⟩
theorem qe_lc {elt tg iter : Expr} {ifs : List Expr} {scope : Scope} {own : List (Str × Nat)} {pos : Pos} {wi : TDI} {g : TDG} {tt : TDT} {te : TDE} (hc : X.calm = true) (hN : X.N.Nodup) (hi : PI X tg iter (lI X.K H0 wi)) (ok : BlkOk X.N X.env.scope scope own)
    (hg : ∀ (s : Shared) (H : Hp) (C : Addr) (cl : List (Str × Addr)) (fp : List Addr), PG (X.blk s H scope (compEnvC scope cl C X.env) fp) tg (lG X.K H0 (own.map (·.2)) g)) (ht : ∀ (s : Shared) (H : Hp) (C : Addr) (cl : List (Str × Addr)) (fp : List Addr), PTs (X.blk s H scope (compEnvC scope cl C X.env) fp) ifs (lT X.K H0 tt))
    (he : ∀ (s : Shared) (H : Hp) (C : Addr) (cl : List (Str × Addr)) (fp : List Addr), PE (X.blk s H scope (compEnvC scope cl C X.env) fp) elt (lE X.K H0 te)) (hs : ∀ x, foldedSetIterable iter X.env x = pure x := by intro _; rfl) :
    PE X (.ListComp elt [⟨tg, iter, ifs, 0⟩] scope pos) (lE X.K H0 (dLc wi g tt te (own.map (·.2)))) := peL (pe_lc hc hN hi ok hg ht he hs) fun _ _ _ => l_lc
theorem qs_setLc {i : Nat} {y : Str} {py : Pos} {elt tg iter : Expr} {ifs : List Expr} {scope : Scope} {own : List (Str × Nat)} {pos spos : Pos} {wi : TDI} {g : TDG} {tt : TDT} {te : TDE} (hc : X.calm = true) (hN : X.N.Nodup) (hy : X.N[i]? = some y) (hyl : X.env.scope.names.lookup y = some .local)
    (hsw : swapsWith (.ListComp elt [⟨tg, iter, ifs, 0⟩] scope pos) (some (.Name y py)) spos.line X.env = pure true) (hi : PI X tg iter (lI X.K H0 wi)) (ok : BlkOk X.N X.env.scope scope own)
    (hg : ∀ (s : Shared) (H : Hp) (C : Addr) (cl : List (Str × Addr)) (fp : List Addr), PG (X.blk s H scope (compEnvC scope cl C X.env) fp) tg (lG X.K H0 (own.map (·.2)) g)) (ht : ∀ (s : Shared) (H : Hp) (C : Addr) (cl : List (Str × Addr)) (fp : List Addr), PTs (X.blk s H scope (compEnvC scope cl C X.env) fp) ifs (lT X.K H0 tt))
    (he : ∀ (s : Shared) (H : Hp) (C : Addr) (cl : List (Str × Addr)) (fp : List Addr), PE (X.blk s H scope (compEnvC scope cl C X.env) fp) elt (lE X.K H0 te)) (hs : ∀ x, foldedSetIterable iter X.env x = pure x := by intro _; rfl) :
    PS X (.Assign [.Name y py] (.ListComp elt [⟨tg, iter, ifs, 0⟩] scope pos) spos) (lS X.K H0 (dAsg (dLc wi g tt te (own.map (·.2))) (dName i))) := psL (ps_setLc hc hN hy hyl hsw hi ok hg ht he hs) fun D σ H h => by
  obtain ⟨sd, m, DD, a, p, q⟩ := h
  refine l_lc (K := X.K) (H0 := H0) ⟨sd, m, _, a, p, fun d m' v H' k r rd p' => q.1 _ m' _ H' k ((a.s.mono k).set i rd) r p'⟩
end
end Q4

set_option Elab.async false
set_option linter.all false
set_option maxRecDepth 100000
namespace Q4
open PySem L2
section
variable {sd : DS} {m m1 : M} {P : DK} {D' : DEnds} {t u : TDS} {ta tb te : TDE} {tt : TDT} {d x y : D}
/-! ### steps: statements -/
theorem s_seq (h : t { D' with nx := u D' } sd m) : dSeq t u D' sd m := ⟨u D', h, fun _ _ h => ⟨_, Less.refl _, h⟩⟩
/-- ways that meet: what holds where they meet -/
theorem s_cut (J : DS → M → Prop) (h : t { D' with nx := Fg J } sd m) (hJ : ∀ sd' m', J sd' m' → u D' sd' m') : dSeq t u D' sd m := ⟨Fg J, h, fun sd' m' ⟨m2, hl, j⟩ => ⟨m2, hl, hJ sd' m2 j⟩⟩
theorem s_seqA {g : TDG} (h : ta sd m fun x m1 => g x sd m1 (u D')) : dSeq (dAsg ta g) u D' sd m := s_seq h
theorem s_seqD (h : ta sd m fun _ m1 => u D' sd m1) : dSeq (dDrop ta) u D' sd m := s_seq h
theorem s_seqIR (h : tt sd m fun b m1 => if b = true then dRet ta { D' with nx := u D' } sd m1 else u D' sd m1) : dSeq (dIf tt (dRet ta) dNext) u D' sd m := s_seq h
theorem s_seqIS {v : TDS} (h : tt sd m fun b m1 => if b = true then dSeq v (dRet ta) { D' with nx := u D' } sd m1 else u D' sd m1) : dSeq (dIf tt (dSeq v (dRet ta)) dNext) u D' sd m := s_seq h
theorem s_seqISS {v w : TDS} (h : tt sd m fun b m1 => if b = true then dSeq v (dSeq w (dRet ta)) { D' with nx := u D' } sd m1 else u D' sd m1) : dSeq (dIf tt (dSeq v (dSeq w (dRet ta))) dNext) u D' sd m := s_seq h
theorem s_seqIRC {k : List D} (h : tt sd m fun b m1 => if b = true then dRet ta { D' with nx := u D' } sd m1 else u D' sd m1) : dSeq (dIf tt (dRet ta) dNext) u D' sd m := s_seq h
theorem s_aug {i : Nat} {r : R2D} (h1 : sd[i]? = some (some x)) (h : ta sd m fun y m1 => r x y m1 fun z m2 => D'.nx (sd.set i (some z)) m2) : dAug i ta r D' sd m := ⟨x, h1, h⟩
theorem s_dNext (h : D'.nx sd m) : dNext D' sd m := h
theorem s_next (h : D'.nx sd m) : dNext D' sd m := h
theorem s_asg {g : TDG} (h : ta sd m fun x m1 => g x sd m1 D'.nx) : dAsg ta g D' sd m := h
theorem s_if (h : tt sd m fun b m1 => if b = true then t D' sd m1 else u D' sd m1) : dIf tt t u D' sd m := h
theorem s_ret (h : ta sd m D'.rt) : dRet ta D' sd m := h
theorem s_drop (h : ta sd m fun _ m1 => D'.nx sd m1) : dDrop ta D' sd m := h
theorem s_for {wi : TDI} {g : TDG} (h : wi sd m fun J m1 => ∃ (N : Nat) (W : Nat → DS → M → Prop), W 0 sd m1 ∧ ∀ i sd m, W i sd m → i ≤ N ∧ ∃ o, J i m o ∧ match o with
  | none => D'.nx sd m
  | some x => g x sd m fun sd2 m2 => t { D' with nx := Fg (W (i + 1)), ct := Fg (W (i + 1)), bk := D'.nx } sd2 m2) : dFor wi g t D' sd m := h
theorem s_name {i : Nat} {Q : DS → M → Prop} (h : Q (sd.set i (some d)) m) : dName i d sd m Q := h
/-! ### expressions -/
theorem s_var {i : Nat} (h : sd[i]? = some (some d)) (q : P d m) : dVar i sd m P := ⟨d, h, q⟩
theorem s_c (q : P d m) : dC d sd m P := q
theorem s_op {r : R2D} (h : ta sd m fun x m1 => tb sd m1 fun y m2 => r x y m2 P) : dOp r ta tb sd m P := h
theorem s_cb {r : RnD} {t : TDA} (h : t sd m fun xs m1 => r xs m1 P) : dCB r t sd m P := h
theorem s_call {r : DSp} {t : TDA} (h : t sd m fun xs m1 => r xs m1 P noX) : dCall r t sd m P := h
theorem s_nil {Q : List D → M → Prop} (h : Q [] m) : dNil sd m Q := h
theorem s_cons {t : TDA} {Q : List D → M → Prop} (h : ta sd m fun x m1 => t sd m1 fun xs m2 => Q (x :: xs) m2) : dCons ta t sd m Q := h
theorem s_tup {t : TDA} (h : t sd m fun xs m1 => xs.length ≤ sizeLine ∧ P (.tup xs) m1) : dTup t sd m P := h
theorem s_lst {t : TDA} (h : t sd m fun xs m1 => xs.length ≤ sizeLine ∧ ∀ p, m1 p = none → P (.ref p) (put m1 p (.lst xs))) : dLst t sd m P := h
theorem s_ifE (h : tt sd m fun c m1 => if c = true then ta sd m1 P else tb sd m1 P) : dIfE tt ta tb sd m P := h
theorem s_andV (h : ta sd m fun x m1 => match x with | .bl c => if c = true then tb sd m1 P else P (.bl false) m1 | _ => False) : dAndV ta tb sd m P := h
theorem s_orV (h : ta sd m fun x m1 => match x with | .bl c => if c = true then P (.bl true) m1 else tb sd m1 P | _ => False) : dOrV ta tb sd m P := h
theorem s_notV (h : ta sd m fun x m1 => match x with | .bl c => P (.bl (!c)) m1 | _ => False) : dNotV ta sd m P := h
theorem s_bm {ty : D → M → Prop} {r : RmD} {t : TDA} (h : ta sd m fun x m1 => ty x m1 ∧ t sd m1 fun xs m2 => r x xs m2 P) : dBM ty r ta t sd m P := h
theorem s_sl {tl th : TDO} (h : ta sd m fun x m1 => tl sd m1 fun l m2 => th sd m2 fun u m3 => rSlD x l u m3 P) : dSl ta tl th sd m P := h
theorem r_slT {xs : List D} {l u : Option Int} (q : P (.tup (cutL xs l u)) m) : rSlD (.tup xs) l u m P := q
theorem r_slS {z : Str} {l u : Option Int} (h : z.length ≤ sizeLine) (q : P (.str (cutS z l u)) m) : rSlD (.str z) l u m P := ⟨h, q⟩
theorem r_slL {a : Addr} {xs : List D} {l u : Option Int} (h : m a = some (.lst xs)) (q : ∀ p, m p = none → P (.ref p) (put m p (.lst (cutL xs l u)))) : rSlD (.ref a) l u m P := ⟨xs, h, q⟩
theorem r_slR {xs : List D} {l u : Option Int} (q : ∀ p, m p = none → P (.ref p) (put m p (.lst (cutL xs l u)))) : rSlD (.rol xs) l u m P := ⟨xs, rfl, q⟩
theorem s_opn {Q : Option Int → M → Prop} (h : Q none m) : dNoPart sd m Q := h
theorem s_ops {Q : Option Int → M → Prop} (h : ta sd m fun x m1 => match x with | .int i => Q (some i) m1 | _ => False) : dPart ta sd m Q := h
/-! ### tests -/
section
variable {Q : Bool → M → Prop} {t1 t2 : TDT}
theorem s_B (h : ta sd m fun x m1 => match x with | .bl b => Q b m1 | _ => False) : dB ta sd m Q := h
theorem s_and (h : t1 sd m fun c m1 => if c = true then t2 sd m1 Q else Q false m1) : dAnd t1 t2 sd m Q := h
theorem s_or (h : t1 sd m fun c m1 => if c = true then Q true m1 else t2 sd m1 Q) : dOr t1 t2 sd m Q := h
theorem s_not (h : t1 sd m fun c m1 => Q (!c) m1) : dNot t1 sd m Q := h
theorem s_tru (h : ta sd m fun x m1 => truD x m1 Q) : dTru ta sd m Q := h
theorem s_yes (h : Q true m) : dYes sd m Q := h
theorem s_truB {b : Bool} (h : Q b m) : truD (.bl b) m Q := h
theorem s_truT {xs : List D} (h : Q (!xs.isEmpty) m) : truD (.tup xs) m Q := h
end
theorem s_chain {r r' : R2D} {tc : TDE} (h : ta sd m fun x m1 => tb sd m1 fun y m2 => r x y m2 fun z m3 => match z with
  | .bl k => if k = true then tc sd m3 fun w m4 => r' y w m4 P else P (.bl false) m3
  | _ => False) : dChain r r' ta tb tc sd m P := h
/-! ### operators on known values -/
section
variable {i j : Int} {a b : Addr} {xs ys : List D} {z w : Str}
theorem r_I {C : Int → Int → Prop} {g : Int → Int → D} (c : C i j) (q : P (g i j) m) : rI2 C g (.int i) (.int j) m P := ⟨c, q⟩
theorem r_addI (q : P (.int (i + j)) m) : rAdd (.int i) (.int j) m P := q
theorem r_addS (h : z.length + w.length ≤ sizeLine) (q : P (.str (z ++ w)) m) : rAdd (.str z) (.str w) m P := ⟨h, q⟩
theorem r_addT (h : xs.length + ys.length ≤ sizeLine) (q : P (.tup (xs ++ ys)) m) : rAdd (.tup xs) (.tup ys) m P := ⟨h, q⟩
theorem r_addL (h1 : m a = some (.lst xs)) (h2 : m b = some (.lst ys)) (h : xs.length + ys.length ≤ sizeLine) (q : ∀ p, m p = none → P (.ref p) (put m p (.lst (xs ++ ys)))) : rAdd (.ref a) (.ref b) m P := ⟨xs, ys, h1, h2, h, q⟩
theorem r_sub (q : P (.int (i - j)) m) : rSub (.int i) (.int j) m P := ⟨trivial, q⟩
theorem r_mul (c : CMul i j) (q : P (.int (i * j)) m) : rMul (.int i) (.int j) m P := ⟨c, q⟩
theorem r_mod (c : 0 < j) (q : P (.int (i % j)) m) : rMod (.int i) (.int j) m P := ⟨c, q⟩
theorem r_fdiv (c : CDivW i j) (q : P (.int (i / j)) m) : rFdiv (.int i) (.int j) m P := ⟨c, q⟩
theorem r_pow (c : CPow i j) (q : P (.int (i ^ j.toNat)) m) : rPow (.int i) (.int j) m P := ⟨c, q⟩
theorem r_lt (q : P (.bl (decide (i < j))) m) : rLtD (.int i) (.int j) m P := ⟨trivial, q⟩
theorem r_le (q : P (.bl (decide (i ≤ j))) m) : rLeD (.int i) (.int j) m P := ⟨trivial, q⟩
theorem r_gt (q : P (.bl (decide (j < i))) m) : rGtD (.int i) (.int j) m P := ⟨trivial, q⟩
theorem r_ge (q : P (.bl (decide (j ≤ i))) m) : rGeD (.int i) (.int j) m P := ⟨trivial, q⟩
theorem r_eqI (q : P (.bl (decide (i = j))) m) : rEqD (.int i) (.int j) m P := q
theorem r_eqS (q : P (.bl (decide (z = w))) m) : rEqD (.str z) (.str w) m P := q
theorem r_eqIS (q : P (.bl false) m) : rEqD (.int i) (.str w) m P := q
theorem r_eqSI (q : P (.bl false) m) : rEqD (.str w) (.int i) m P := q
theorem r_neI (q : P (.bl (!decide (i = j))) m) : rNeD (.int i) (.int j) m P := q
theorem r_neS (q : P (.bl (!decide (z = w))) m) : rNeD (.str z) (.str w) m P := q
theorem r_ixT (e : atI xs i = some d) (q : P d m) : rIxD (.tup xs) (.int i) m P := ⟨d, e, q⟩
theorem r_ixL (h : m a = some (.lst xs)) (e : atI xs i = some d) (q : P d m) : rIxD (.ref a) (.int i) m P := ⟨xs, d, h, e, q⟩
theorem r_ixR (e : atI xs i = some d) (q : P d m) : rIxD (.rol xs) (.int i) m P := ⟨d, e, q⟩
theorem r_ixS {c : Nat} (h : z.length ≤ sizeLine) (e : atI z.cps.toList i = some c) (q : P (.str ⟨#[c]⟩) m) : rIxD (.str z) (.int i) m P := ⟨h, c, e, q⟩
theorem r_lenT (q : P (.int xs.length) m) : rLen [.tup xs] m P := q
theorem r_lenL (h : m a = some (.lst xs)) (q : P (.int xs.length) m) : rLen [.ref a] m P := ⟨xs, h, q⟩
theorem r_lenR (q : P (.int xs.length) m) : rLen [.rol xs] m P := ⟨xs, rfl, q⟩
theorem r_lenS (h : z.length ≤ sizeLine) (q : P (.int z.length) m) : rLen [.str z] m P := ⟨h, q⟩
theorem r_int (q : P (.int i) m) : rInt [.int i] m P := q
theorem r_abs (q : P (.int (if i < 0 then -i else i)) m) : rAbs [.int i] m P := q
theorem r_str (h : i.natAbs.log2 < 1920) (q : P (.str (toString i)) m) : rStr [.int i] m P := ⟨h, q⟩
theorem r_tupL (h : m a = some (.lst xs)) (q : P (.tup xs) m) : rTuple [.ref a] m P := ⟨xs, h, q⟩
theorem r_tupR (q : P (.tup xs) m) : rTuple [.rol xs] m P := ⟨xs, rfl, q⟩
theorem r_tupT (q : P (.tup xs) m) : rTuple [.tup xs] m P := q
theorem r_is {n T : String} {bb : Bool} (h : tyN m x = some n) (h2 : kitB n T = some bb) (q : P (.bl bb) m) : rIsD [x, .ty T] m P := ⟨n, bb, h, h2, q⟩
theorem r_app (h : m a = some (.lst xs)) (z : xs.length < sizeLine) (q : P .non (put m a (.lst (xs ++ [y])))) : rApp (.ref a) [y] m P := ⟨xs, h, z, q⟩
theorem s_gsub {to ti : TDE} {v : D} {Q : DS → M → Prop} (h : to sd m fun o m1 => ti sd m1 fun i m2 => match o, i with
  | .ref a, .int k => ∃ xs j, m2 a = some (.lst xs) ∧ ixN xs.length k = some j ∧ Q sd (put m2 a (.lst (xs.set j v)))
  | _, _ => False) : dGSub to ti v sd m Q := h
theorem r_set {k : Int} {j : Nat} {v : D} {Q : M → Prop} (h : m a = some (.lst xs)) (e : ixN xs.length k = some j) (q : Q (put m a (.lst (xs.set j v)))) : ∃ xs j, m a = some (.lst xs) ∧ ixN xs.length k = some j ∧ Q (put m a (.lst (xs.set j v))) := ⟨xs, j, h, e, q⟩
theorem r_isl (h : m a = some (.lst xs)) : isLst (.ref a) m := ⟨xs, h⟩
end
/-! ### loops -/
section
variable {g : TDG} {n : Nat} {lo : Int} {xs : List D} {a : Addr}
theorem f_rng (W : Nat → DS → M → Prop) (h0 : W 0 sd m) (hs : ∀ i sd m, i < n → W i sd m → g (.int (lo + i)) sd m fun sd2 m2 => t { D' with nx := Fg (W (i + 1)), ct := Fg (W (i + 1)), bk := D'.nx } sd2 m2) (hd : ∀ sd m, W n sd m → D'.nx sd m) :
    ∃ (N : Nat) (W : Nat → DS → M → Prop), W 0 sd m ∧ ∀ i sd m, W i sd m → i ≤ N ∧ ∃ o, jRng lo n i m o ∧ match o with
      | none => D'.nx sd m
      | some x => g x sd m fun sd2 m2 => t { D' with nx := Fg (W (i + 1)), ct := Fg (W (i + 1)), bk := D'.nx } sd2 m2 := by
  -- beyond n nothing holds: W is cut there
  refine ⟨n, fun i sd m => i ≤ n ∧ (i ≤ n → W i sd m), ⟨Nat.zero_le _, fun _ => h0⟩, ?_⟩
  rintro i sd m ⟨hi, w⟩
  refine ⟨hi, ?_⟩
  by_cases e : i < n
  · refine ⟨some (.int (lo + i)), (if_pos e).symm, ?_⟩
    have q := hs i sd m e (w hi)
    have eq : (fun (sd : DS) (m : M) => i + 1 ≤ n ∧ (i + 1 ≤ n → W (i + 1) sd m)) = W (i + 1) := by
      funext sd m
      exact propext ⟨fun z => z.2 z.1, fun z => ⟨e, fun _ => z⟩⟩
    show g (.int (lo + i)) sd m fun sd2 m2 => t { D' with nx := Fg fun (sd : DS) (m : M) => i + 1 ≤ n ∧ (i + 1 ≤ n → W (i + 1) sd m), ct := Fg fun (sd : DS) (m : M) => i + 1 ≤ n ∧ (i + 1 ≤ n → W (i + 1) sd m), bk := D'.nx } sd2 m2
    rw [eq]
    exact q
  · have : i = n := by omega
    subst this
    exact ⟨none, (if_neg e).symm, hd sd m (w hi)⟩
theorem f_tup (W : Nat → DS → M → Prop) (h0 : W 0 sd m) (hs : ∀ i x sd m, xs[i]? = some x → W i sd m → g x sd m fun sd2 m2 => t { D' with nx := Fg (W (i + 1)), ct := Fg (W (i + 1)), bk := D'.nx } sd2 m2) (hd : ∀ sd m, W xs.length sd m → D'.nx sd m) :
    ∃ (N : Nat) (W : Nat → DS → M → Prop), W 0 sd m ∧ ∀ i sd m, W i sd m → i ≤ N ∧ ∃ o, jTup xs i m o ∧ match o with
      | none => D'.nx sd m
      | some x => g x sd m fun sd2 m2 => t { D' with nx := Fg (W (i + 1)), ct := Fg (W (i + 1)), bk := D'.nx } sd2 m2 := by
  refine ⟨xs.length, fun i sd m => i ≤ xs.length ∧ (i ≤ xs.length → W i sd m), ⟨Nat.zero_le _, fun _ => h0⟩, ?_⟩
  rintro i sd m ⟨hi, w⟩
  refine ⟨hi, ?_⟩
  by_cases e : i < xs.length
  · refine ⟨some xs[i], (List.getElem?_eq_getElem e).symm, ?_⟩
    have q := hs i xs[i] sd m (List.getElem?_eq_getElem e) (w hi)
    have eq : (fun (sd : DS) (m : M) => i + 1 ≤ xs.length ∧ (i + 1 ≤ xs.length → W (i + 1) sd m)) = W (i + 1) := by
      funext sd m
      exact propext ⟨fun z => z.2 z.1, fun z => ⟨e, fun _ => z⟩⟩
    show g xs[i] sd m fun sd2 m2 => t { D' with nx := Fg fun (sd : DS) (m : M) => i + 1 ≤ xs.length ∧ (i + 1 ≤ xs.length → W (i + 1) sd m), ct := Fg fun (sd : DS) (m : M) => i + 1 ≤ xs.length ∧ (i + 1 ≤ xs.length → W (i + 1) sd m), bk := D'.nx } sd2 m2
    rw [eq]
    exact q
  · have : i = xs.length := by omega
    subst this
    exact ⟨none, (List.getElem?_eq_none (Nat.le_refl _)).symm, hd sd m (w hi)⟩
theorem f_lst (W : Nat → DS → M → Prop) (h0 : W 0 sd m) (hl : ∀ i sd m, i ≤ xs.length → W i sd m → m a = some (.lst xs)) (hs : ∀ i x sd m, xs[i]? = some x → W i sd m → g x sd m fun sd2 m2 => t { D' with nx := Fg (W (i + 1)), ct := Fg (W (i + 1)), bk := D'.nx } sd2 m2) (hd : ∀ sd m, W xs.length sd m → D'.nx sd m) :
    ∃ (N : Nat) (W : Nat → DS → M → Prop), W 0 sd m ∧ ∀ i sd m, W i sd m → i ≤ N ∧ ∃ o, jLst a i m o ∧ match o with
      | none => D'.nx sd m
      | some x => g x sd m fun sd2 m2 => t { D' with nx := Fg (W (i + 1)), ct := Fg (W (i + 1)), bk := D'.nx } sd2 m2 := by
  refine ⟨xs.length, fun i sd m => i ≤ xs.length ∧ (i ≤ xs.length → W i sd m), ⟨Nat.zero_le _, fun _ => h0⟩, ?_⟩
  rintro i sd m ⟨hi, w⟩
  refine ⟨hi, ?_⟩
  by_cases e : i < xs.length
  · refine ⟨some xs[i], ⟨xs, hl i sd m hi (w hi), (List.getElem?_eq_getElem e).symm⟩, ?_⟩
    have q := hs i xs[i] sd m (List.getElem?_eq_getElem e) (w hi)
    have eq : (fun (sd : DS) (m : M) => i + 1 ≤ xs.length ∧ (i + 1 ≤ xs.length → W (i + 1) sd m)) = W (i + 1) := by
      funext sd m
      exact propext ⟨fun z => z.2 z.1, fun z => ⟨e, fun _ => z⟩⟩
    show g xs[i] sd m fun sd2 m2 => t { D' with nx := Fg fun (sd : DS) (m : M) => i + 1 ≤ xs.length ∧ (i + 1 ≤ xs.length → W (i + 1) sd m), ct := Fg fun (sd : DS) (m : M) => i + 1 ≤ xs.length ∧ (i + 1 ≤ xs.length → W (i + 1) sd m), bk := D'.nx } sd2 m2
    rw [eq]
    exact q
  · have : i = xs.length := by omega
    subst this
    exact ⟨none, ⟨xs, hl _ sd m hi (w hi), (List.getElem?_eq_none (Nat.le_refl _)).symm⟩, hd sd m (w hi)⟩
end
/-- a range's end: what is asked of it -/
theorem s_r1 {j : Int} {Q : DIt → M → Prop} (h : -(2 ^ 62) ≤ j ∧ j < 2 ^ 62) (q : Q (jRng 0 j.toNat) m) : (match [D.int j] with | [.int j] => -(2 ^ 62) ≤ j ∧ j < 2 ^ 62 ∧ Q (jRng 0 j.toNat) m | _ => False) := ⟨h.1, h.2, q⟩
theorem i_r1 {t : TDA} {Q : DIt → M → Prop} (h : t sd m fun xs m1 => match xs with | [.int j] => -(2 ^ 62) ≤ j ∧ j < 2 ^ 62 ∧ Q (jRng 0 j.toNat) m1 | _ => False) : iR1 t sd m Q := h
theorem i_t {Q : DIt → M → Prop} (h : ta sd m fun x m1 => match x with | .tup xs => Q (jTup xs) m1 | _ => False) : iT ta sd m Q := h
theorem i_l {Q : DIt → M → Prop} (h : ta sd m fun x m1 => match x with | .rol xs => Q (jTup xs) m1 | .ref a => (∃ xs, m1 a = some (.lst xs)) ∧ Q (jLst a) m1 | _ => False) : iL ta sd m Q := h
theorem iteD {c A B : Prop} [Decidable c] (h1 : c → A) (h2 : ¬ c → B) : if decide c = true then A else B := by
  by_cases h : c
  · rw [if_pos (decide_eq_true h)]; exact h1 h
  · rw [if_neg (by rw [decide_eq_true_eq]; exact h)]; exact h2 h
theorem iteN {c A B : Prop} [Decidable c] (h1 : ¬ c → A) (h2 : c → B) : if (!decide c) = true then A else B := by
  by_cases h : c
  · rw [decide_eq_true h]; exact h2 h
  · rw [decide_eq_false h]; exact h1 h
theorem ite_t {A B : Prop} (h : A) : if true = true then A else B := h
theorem ite_f {A B : Prop} (h : B) : if false = true then A else B := h
theorem iteB {b : Bool} {A B : Prop} (h1 : b = true → A) (h2 : b = false → B) : if b = true then A else B := by
  cases b with
  | true => exact h1 rfl
  | false => exact h2 rfl
end
end Q4

set_option Elab.async false
set_option linter.all false
set_option maxRecDepth 100000
namespace Q4
open PySem L2
/-! ### loops, comprehensions: said without iterators -/
/-- over the items xs -/
def FT (xs : List D) (g : TDG) (tb : TDS) : TDS := fun D sd m => ∃ W : Nat → DS → M → Prop, W 0 sd m ∧
  (∀ i x sd m, xs[i]? = some x → W i sd m → g x sd m fun sd2 m2 => tb { D with nx := Fg (W (i + 1)), ct := Fg (W (i + 1)), bk := D.nx } sd2 m2) ∧ ∀ sd m, W xs.length sd m → D.nx sd m
/-- over the list at a, which stays -/
def FL (a : Addr) (xs : List D) (g : TDG) (tb : TDS) : TDS := fun D sd m => ∃ W : Nat → DS → M → Prop, W 0 sd m ∧ (∀ i sd m, i ≤ xs.length → W i sd m → m a = some (.lst xs)) ∧
  (∀ i x sd m, xs[i]? = some x → W i sd m → g x sd m fun sd2 m2 => tb { D with nx := Fg (W (i + 1)), ct := Fg (W (i + 1)), bk := D.nx } sd2 m2) ∧ ∀ sd m, W xs.length sd m → D.nx sd m
def FR (lo : Int) (n : Nat) (g : TDG) (tb : TDS) : TDS := fun D sd m => ∃ W : Nat → DS → M → Prop, W 0 sd m ∧
  (∀ (i : Nat) sd m, i < n → W i sd m → g (.int (lo + i)) sd m fun sd2 m2 => tb { D with nx := Fg (W (i + 1)), ct := Fg (W (i + 1)), bk := D.nx } sd2 m2) ∧ ∀ sd m, W n sd m → D.nx sd m
/-- range(n) -/
def FR0 (n : Nat) (g : TDG) (tb : TDS) : TDS := fun D sd m => ∃ W : Nat → DS → M → Prop, W 0 sd m ∧
  (∀ (i : Nat) sd m, i < n → W i sd m → g (.int i) sd m fun sd2 m2 => tb { D with nx := Fg (W (i + 1)), ct := Fg (W (i + 1)), bk := D.nx } sd2 m2) ∧ ∀ sd m, W n sd m → D.nx sd m
def dForR1 (t : TDA) (g : TDG) (tb : TDS) : TDS := fun D sd m => t sd m fun xs m1 => match xs with | [.int j] => (-(2 ^ 62) ≤ j ∧ j < 2 ^ 62) ∧ FR0 j.toNat g tb D sd m1 | _ => False
def dForR2 (t : TDA) (g : TDG) (tb : TDS) : TDS := fun D sd m => t sd m fun xs m1 => match xs with | [.int i, .int j] => (-(2 ^ 62) ≤ i ∧ i < 2 ^ 62 ∧ -(2 ^ 62) ≤ j ∧ j < 2 ^ 62) ∧ FR i (j - i).toNat g tb D sd m1 | _ => False
def dForT (t : TDE) (g : TDG) (tb : TDS) : TDS := fun D sd m => t sd m fun x m1 => match x with | .tup xs => FT xs g tb D sd m1 | _ => False
def dForL (t : TDE) (g : TDG) (tb : TDS) : TDS := fun D sd m => t sd m fun x m1 => match x with | .rol xs => FT xs g tb D sd m1 | .ref a => ∃ xs, m1 a = some (.lst xs) ∧ FL a xs g tb D sd m1 | _ => False
section
variable {X : Cx} {H0 : Hp} {tg : Expr} {body : List Stmt} {g : TDG} {tb : TDS} {pos : Pos} {vs : List Nat}
theorem qs_forR1 {a : Expr} {t : TDA} {p p2 : Pos} (hp : PassesOwn (model X.prog X.w) X.A X.env X.xe) (hc : X.calm = true) (hgl : Gl X "range") (hm : X.mg "range" = none) (ha : PA X [a] (lA X.K H0 t)) (hg : PG X tg (lG X.K H0 vs g)) (hb : PSs X body (lS X.K H0 tb))
    (hs : starEach [a] X.env = [(false, eval a X.env)] := by rfl) (hf : ∀ x, foldedSetIterable (.Call (.Name "range" p) [a] [] p2) X.env x = pure x := by intro _; rfl) : PS X (.For tg (.Call (.Name "range" p) [a] [] p2) body [] pos) (lS X.K H0 (dForR1 t g tb)) :=
  psL (ps_for hp hc (pi_range1 hgl hm ha hs) hg hb hf) fun D σ H h => by
    obtain ⟨sd, m, DD, a, p, q1, q2, q3, q4⟩ := h
    refine ⟨sd, m, _, a, p, fun d m' v H' k r rd p' => ?_⟩
    split at p'
    · obtain ⟨u, rfl, r1⟩ := rd.one_
      cases r1.int_
      obtain ⟨⟨h1, h2⟩, W, w0, ws, wd⟩ := p'
      exact ⟨_, rfl, h1, h2, for_core a.k k (a.s.mono k) r lift_rng q1 q2 (f_rng W w0 (fun i sd m hi w => by rw [Int.zero_add]; exact ws i sd m hi w) wd)⟩
    · exact p'.elim
theorem qs_forR2 {a b : Expr} {t : TDA} {p p2 : Pos} (hp : PassesOwn (model X.prog X.w) X.A X.env X.xe) (hc : X.calm = true) (hgl : Gl X "range") (hm : X.mg "range" = none) (ha : PA X [a, b] (lA X.K H0 t)) (hg : PG X tg (lG X.K H0 vs g)) (hb : PSs X body (lS X.K H0 tb))
    (hs : starEach [a, b] X.env = [(false, eval a X.env), (false, eval b X.env)] := by rfl) (hs2 : starEach [b] X.env = [(false, eval b X.env)] := by rfl) (hf : ∀ x, foldedSetIterable (.Call (.Name "range" p) [a, b] [] p2) X.env x = pure x := by intro _; rfl) : PS X (.For tg (.Call (.Name "range" p) [a, b] [] p2) body [] pos) (lS X.K H0 (dForR2 t g tb)) :=
  psL (ps_for hp hc (pi_range2 hgl hm ha hs hs2) hg hb hf) fun D σ H h => by
    obtain ⟨sd, m, DD, a, p, q1, q2, q3, q4⟩ := h
    refine ⟨sd, m, _, a, p, fun d m' v H' k r rd p' => ?_⟩
    split at p'
    · obtain ⟨u, w, rfl, r1, r2⟩ := rd.two_
      cases r1.int_
      cases r2.int_
      obtain ⟨h1, W, w0, ws, wd⟩ := p'
      exact ⟨_, _, rfl, h1, for_core a.k k (a.s.mono k) r lift_rng q1 q2 (f_rng W w0 ws wd)⟩
    · exact p'.elim
theorem qs_forT {l : Expr} {t : TDE} (hp : PassesOwn (model X.prog X.w) X.A X.env X.xe) (hc : X.calm = true) (hl : PE X l (lE X.K H0 t)) (hg : PG X tg (lG X.K H0 vs g)) (hb : PSs X body (lS X.K H0 tb)) (hf : ∀ x, foldedSetIterable l X.env x = pure x := by intro _; rfl) : PS X (.For tg l body [] pos) (lS X.K H0 (dForT t g tb)) :=
  psL (ps_for hp hc (pi_tup hl) hg hb hf) fun D σ H h => by
    obtain ⟨sd, m, DD, a, p, q1, q2, q3, q4⟩ := h
    refine ⟨sd, m, _, a, p, fun d m' v H' k r rd p' => ?_⟩
    cases d with
    | tup xs =>
      obtain ⟨b, ws, rfl, h1, h2⟩ := rd.tup_
      obtain ⟨W, w0, wst, wd⟩ := p'
      exact ⟨b, rfl, ⟨ws, h1⟩, for_core a.k k (a.s.mono k) r (lift_tup h1 h2) q1 q2 (f_tup W w0 wst wd)⟩
    | _ => exact p'.elim
theorem qs_forL {l : Expr} {t : TDE} (hp : PassesOwn (model X.prog X.w) X.A X.env X.xe) (hc : X.calm = true) (hl : PE X l (lE X.K H0 t)) (hg : PG X tg (lG X.K H0 vs g)) (hb : PSs X body (lS X.K H0 tb)) (hf : ∀ x, foldedSetIterable l X.env x = pure x := by intro _; rfl) : PS X (.For tg l body [] pos) (lS X.K H0 (dForL t g tb)) :=
  psL (ps_for hp hc (pi_list hl) hg hb hf) fun D σ H h => by
    obtain ⟨sd, m, DD, a, p, q1, q2, q3, q4⟩ := h
    refine ⟨sd, m, _, a, p, fun d m' v H' k r rd p' => ?_⟩
    cases d with
    | rol xs =>
      obtain ⟨b, ws, rfl, h1, h2⟩ := rd.rol_
      obtain ⟨W, w0, wst, wd⟩ := p'
      exact ⟨b, rfl, ⟨ws, h1.sq⟩, for_core a.k k (a.s.mono k) r (lift_rol h1 h2) q1 q2 (f_tup W w0 wst wd)⟩
    | ref b =>
      cases rd.ref_
      obtain ⟨xs, h, W, w0, wl, wst, wd⟩ := p'
      obtain ⟨ws, e1, r1⟩ := r _ _ h
      exact ⟨b, rfl, ⟨ws, .inl (.inl e1)⟩, for_core a.k k (a.s.mono k) r lift_lst q1 q2 (f_lst W w0 wl wst wd)⟩
    | _ => exact p'.elim
end
/-! ### comprehensions -/
/-- one turn: the item x, the list so far acc at p -/
def CTurn (g : TDG) (tt : TDT) (te : TDE) (vs : List Nat) (sd : DS) (p : Addr) (W' : List D → M → Prop) (x : D) (acc : List D) (m2 : M) : Prop :=
  g x (wipeD sd vs) (put m2 p (.lst acc)) fun sd2 m3 => tt sd2 m3 fun b m4 =>
    if b = true then te sd2 m4 fun y m5 => ∃ m6, Less (put m6 p (.lst acc)) m5 ∧ acc.length < sizeLine ∧ W' (acc ++ [y]) m6 else ∃ m6, Less (put m6 p (.lst acc)) m4 ∧ W' acc m6
def CT (xs : List D) (g : TDG) (tt : TDT) (te : TDE) (vs : List Nat) (sd : DS) (m1 : M) (P : DK) : Prop := ∀ p, m1 p = none → ∃ W : Nat → List D → M → Prop, W 0 [] m1 ∧
  (∀ i x acc m2, xs[i]? = some x → W i acc m2 → CTurn g tt te vs sd p (W (i + 1)) x acc m2) ∧ ∀ acc m2, W xs.length acc m2 → P (.ref p) (put m2 p (.lst acc))
def CL (a : Addr) (xs : List D) (g : TDG) (tt : TDT) (te : TDE) (vs : List Nat) (sd : DS) (m1 : M) (P : DK) : Prop := ∀ p, m1 p = none → ∃ W : Nat → List D → M → Prop, W 0 [] m1 ∧ (∀ i acc m2, i ≤ xs.length → W i acc m2 → m2 a = some (.lst xs)) ∧
  (∀ i x acc m2, xs[i]? = some x → W i acc m2 → CTurn g tt te vs sd p (W (i + 1)) x acc m2) ∧ ∀ acc m2, W xs.length acc m2 → P (.ref p) (put m2 p (.lst acc))
def CR0 (n : Nat) (g : TDG) (tt : TDT) (te : TDE) (vs : List Nat) (sd : DS) (m1 : M) (P : DK) : Prop := ∀ p, m1 p = none → ∃ W : Nat → List D → M → Prop, W 0 [] m1 ∧
  (∀ (i : Nat) acc m2, i < n → W i acc m2 → CTurn g tt te vs sd p (W (i + 1)) (.int i) acc m2) ∧ ∀ acc m2, W n acc m2 → P (.ref p) (put m2 p (.lst acc))
def CR (lo : Int) (n : Nat) (g : TDG) (tt : TDT) (te : TDE) (vs : List Nat) (sd : DS) (m1 : M) (P : DK) : Prop := ∀ p, m1 p = none → ∃ W : Nat → List D → M → Prop, W 0 [] m1 ∧
  (∀ (i : Nat) acc m2, i < n → W i acc m2 → CTurn g tt te vs sd p (W (i + 1)) (.int (lo + i)) acc m2) ∧ ∀ acc m2, W n acc m2 → P (.ref p) (put m2 p (.lst acc))
section
variable {g : TDG} {tt : TDT} {te : TDE} {vs : List Nat} {sd : DS} {m1 : M} {P : DK} {p : Addr}
theorem c_cut {n : Nat} {W : Nat → List D → M → Prop} {i : Nat} {x : D} {acc : List D} {m2 : M} (e : i + 1 ≤ n) (h : CTurn g tt te vs sd p (W (i + 1)) x acc m2) : CTurn g tt te vs sd p (fun acc m => i + 1 ≤ n ∧ (i + 1 ≤ n → W (i + 1) acc m)) x acc m2 := by
  have eq : (fun (acc : List D) (m : M) => i + 1 ≤ n ∧ (i + 1 ≤ n → W (i + 1) acc m)) = W (i + 1) := by
    funext acc m
    exact propext ⟨fun z => z.2 z.1, fun z => ⟨e, fun _ => z⟩⟩
  rw [eq]
  exact h
theorem c_tup {xs : List D} (h : ∃ W : Nat → List D → M → Prop, W 0 [] m1 ∧ (∀ i x acc m2, xs[i]? = some x → W i acc m2 → CTurn g tt te vs sd p (W (i + 1)) x acc m2) ∧ ∀ acc m2, W xs.length acc m2 → P (.ref p) (put m2 p (.lst acc))) :
    ∃ (N : Nat) (W : Nat → List D → M → Prop), W 0 [] m1 ∧ ∀ i acc m2, W i acc m2 → i ≤ N ∧ ∃ o, jTup xs i (put m2 p (.lst acc)) o ∧ match o with
      | none => P (.ref p) (put m2 p (.lst acc))
      | some x => CTurn g tt te vs sd p (W (i + 1)) x acc m2 := by
  obtain ⟨W, w0, ws, wd⟩ := h
  refine ⟨xs.length, fun i acc m => i ≤ xs.length ∧ (i ≤ xs.length → W i acc m), ⟨Nat.zero_le _, fun _ => w0⟩, ?_⟩
  rintro i acc m2 ⟨hi, w⟩
  refine ⟨hi, ?_⟩
  by_cases e : i < xs.length
  · exact ⟨some xs[i], (List.getElem?_eq_getElem e).symm, c_cut e (ws i xs[i] acc m2 (List.getElem?_eq_getElem e) (w hi))⟩
  · have : i = xs.length := by omega
    subst this
    exact ⟨none, (List.getElem?_eq_none (Nat.le_refl _)).symm, wd acc m2 (w hi)⟩
theorem c_lst {a : Addr} {xs : List D} (hap : a ≠ p) (h : ∃ W : Nat → List D → M → Prop, W 0 [] m1 ∧ (∀ i acc m2, i ≤ xs.length → W i acc m2 → m2 a = some (.lst xs)) ∧ (∀ i x acc m2, xs[i]? = some x → W i acc m2 → CTurn g tt te vs sd p (W (i + 1)) x acc m2) ∧ ∀ acc m2, W xs.length acc m2 → P (.ref p) (put m2 p (.lst acc))) :
    ∃ (N : Nat) (W : Nat → List D → M → Prop), W 0 [] m1 ∧ ∀ i acc m2, W i acc m2 → i ≤ N ∧ ∃ o, jLst a i (put m2 p (.lst acc)) o ∧ match o with
      | none => P (.ref p) (put m2 p (.lst acc))
      | some x => CTurn g tt te vs sd p (W (i + 1)) x acc m2 := by
  obtain ⟨W, w0, wl, ws, wd⟩ := h
  refine ⟨xs.length, fun i acc m => i ≤ xs.length ∧ (i ≤ xs.length → W i acc m), ⟨Nat.zero_le _, fun _ => w0⟩, ?_⟩
  rintro i acc m2 ⟨hi, w⟩
  refine ⟨hi, ?_⟩
  have hl : put m2 p (.lst acc) a = some (.lst xs) := (put_ne hap).trans (wl i acc m2 hi (w hi))
  by_cases e : i < xs.length
  · exact ⟨some xs[i], ⟨xs, hl, (List.getElem?_eq_getElem e).symm⟩, c_cut e (ws i xs[i] acc m2 (List.getElem?_eq_getElem e) (w hi))⟩
  · have : i = xs.length := by omega
    subst this
    exact ⟨none, ⟨xs, hl, (List.getElem?_eq_none (Nat.le_refl _)).symm⟩, wd acc m2 (w hi)⟩
theorem c_rng {lo : Int} {n : Nat} (h : ∃ W : Nat → List D → M → Prop, W 0 [] m1 ∧ (∀ (i : Nat) acc m2, i < n → W i acc m2 → CTurn g tt te vs sd p (W (i + 1)) (.int (lo + i)) acc m2) ∧ ∀ acc m2, W n acc m2 → P (.ref p) (put m2 p (.lst acc))) :
    ∃ (N : Nat) (W : Nat → List D → M → Prop), W 0 [] m1 ∧ ∀ i acc m2, W i acc m2 → i ≤ N ∧ ∃ o, jRng lo n i (put m2 p (.lst acc)) o ∧ match o with
      | none => P (.ref p) (put m2 p (.lst acc))
      | some x => CTurn g tt te vs sd p (W (i + 1)) x acc m2 := by
  obtain ⟨W, w0, ws, wd⟩ := h
  refine ⟨n, fun i acc m => i ≤ n ∧ (i ≤ n → W i acc m), ⟨Nat.zero_le _, fun _ => w0⟩, ?_⟩
  rintro i acc m2 ⟨hi, w⟩
  refine ⟨hi, ?_⟩
  by_cases e : i < n
  · exact ⟨some (.int (lo + i)), (if_pos e).symm, c_cut e (ws i acc m2 e (w hi))⟩
  · have : i = n := by omega
    subst this
    exact ⟨none, (if_neg e).symm, wd acc m2 (w hi)⟩
end
def dLcT (t : TDE) (g : TDG) (tt : TDT) (te : TDE) (vs : List Nat) : TDE := fun sd m P => t sd m fun x m1 => match x with | .tup xs => CT xs g tt te vs sd m1 P | _ => False
def dLcL (t : TDE) (g : TDG) (tt : TDT) (te : TDE) (vs : List Nat) : TDE := fun sd m P => t sd m fun x m1 => match x with | .rol xs => CT xs g tt te vs sd m1 P | .ref a => ∃ xs, m1 a = some (.lst xs) ∧ CL a xs g tt te vs sd m1 P | _ => False
def dLcR1 (t : TDA) (g : TDG) (tt : TDT) (te : TDE) (vs : List Nat) : TDE := fun sd m P => t sd m fun xs m1 => match xs with | [.int j] => (-(2 ^ 62) ≤ j ∧ j < 2 ^ 62) ∧ CR0 j.toNat g tt te vs sd m1 P | _ => False
section
variable {X : Cx} {H0 : Hp} {K : PySem.W.Frag} {g : TDG} {tt : TDT} {te : TDE} {vs : List Nat} {σ : St} {H : Hp} {Q : VK}
theorem l_lcT {t : TDE} (h : lE K H0 (dLcT t g tt te vs) σ H Q) : tLc (iTup K (lE K H0 t)) (lG K H0 vs g) (lT K H0 tt) (lE K H0 te) vs σ H Q := by
  obtain ⟨sd, m, P, a, p, q⟩ := h
  refine ⟨sd, m, _, a, p, fun d m' v H' k r rd p' => ?_⟩
  cases d with
  | tup xs =>
    obtain ⟨b, ws, rfl, h1, h2⟩ := rd.tup_
    exact ⟨b, rfl, ⟨ws, h1⟩, fun D hD => lc_core a.k k a.s r (lift_tup h1 h2) q hD (c_tup (p' D (r.free hD)))⟩
  | _ => exact p'.elim
theorem l_lcL {t : TDE} (h : lE K H0 (dLcL t g tt te vs) σ H Q) : tLc (iList K (lE K H0 t)) (lG K H0 vs g) (lT K H0 tt) (lE K H0 te) vs σ H Q := by
  obtain ⟨sd, m, P, a, p, q⟩ := h
  refine ⟨sd, m, _, a, p, fun d m' v H' k r rd p' => ?_⟩
  cases d with
  | rol xs =>
    obtain ⟨b, ws, rfl, h1, h2⟩ := rd.rol_
    exact ⟨b, rfl, ⟨ws, h1.sq⟩, fun D hD => lc_core a.k k a.s r (lift_rol h1 h2) q hD (c_tup (p' D (r.free hD)))⟩
  | ref b =>
    cases rd.ref_
    obtain ⟨xs, h, p'⟩ := p'
    obtain ⟨ws, e1, r1⟩ := r _ _ h
    refine ⟨b, rfl, ⟨ws, .inl (.inl e1)⟩, fun D hD => lc_core a.k k a.s r lift_lst q hD (c_lst ?_ (p' D (r.free hD)))⟩
    intro e
    subst e
    rw [r.free hD] at h
    cases h
  | _ => exact p'.elim
theorem l_lcR1 {t : TDA} (h : lE K H0 (dLcR1 t g tt te vs) σ H Q) : tLc (iRng1 (lA K H0 t)) (lG K H0 vs g) (lT K H0 tt) (lE K H0 te) vs σ H Q := by
  obtain ⟨sd, m, P, a, p, q⟩ := h
  refine ⟨sd, m, _, a, p, fun d m' v H' k r rd p' => ?_⟩
  split at p'
  · obtain ⟨u, rfl, r1⟩ := rd.one_
    cases r1.int_
    obtain ⟨⟨h1, h2⟩, p'⟩ := p'
    exact ⟨_, rfl, h1, h2, fun D hD => lc_core a.k k a.s r lift_rng q hD (c_rng (by
      obtain ⟨W, w0, ws, wd⟩ := p' D (r.free hD)
      exact ⟨W, w0, fun i acc m2 hi w => by rw [Int.zero_add]; exact ws i acc m2 hi w, wd⟩))⟩
  · exact p'.elim
/-- a comprehension as a value: its source's rule hi, its reading l -/
theorem qe_lcX {elt tg iter : Expr} {ifs : List Expr} {scope : Scope} {own : List (Str × Nat)} {pos : Pos} {wi : TI} {t' : TDE} (hc : X.calm = true) (hN : X.N.Nodup) (hi : PI X tg iter wi) (ok : BlkOk X.N X.env.scope scope own)
    (hg : ∀ (s : Shared) (H : Hp) (C : Addr) (cl : List (Str × Addr)) (fp : List Addr), PG (X.blk s H scope (compEnvC scope cl C X.env) fp) tg (lG X.K H0 (own.map (·.2)) g)) (ht : ∀ (s : Shared) (H : Hp) (C : Addr) (cl : List (Str × Addr)) (fp : List Addr), PTs (X.blk s H scope (compEnvC scope cl C X.env) fp) ifs (lT X.K H0 tt))
    (he : ∀ (s : Shared) (H : Hp) (C : Addr) (cl : List (Str × Addr)) (fp : List Addr), PE (X.blk s H scope (compEnvC scope cl C X.env) fp) elt (lE X.K H0 te)) (l : ∀ σ H Q, lE X.K H0 t' σ H Q → tLc wi (lG X.K H0 (own.map (·.2)) g) (lT X.K H0 tt) (lE X.K H0 te) (own.map (·.2)) σ H Q) (hs : ∀ x, foldedSetIterable iter X.env x = pure x := by intro _; rfl) :
    PE X (.ListComp elt [⟨tg, iter, ifs, 0⟩] scope pos) (lE X.K H0 t') := peL (pe_lc hc hN hi ok hg ht he hs) l
theorem qs_lcX {i : Nat} {y : Str} {py : Pos} {elt tg iter : Expr} {ifs : List Expr} {scope : Scope} {own : List (Str × Nat)} {pos spos : Pos} {wi : TI} {t' : TDE} (hc : X.calm = true) (hN : X.N.Nodup) (hy : X.N[i]? = some y) (hyl : X.env.scope.names.lookup y = some .local)
    (hsw : swapsWith (.ListComp elt [⟨tg, iter, ifs, 0⟩] scope pos) (some (.Name y py)) spos.line X.env = pure true) (hi : PI X tg iter wi) (ok : BlkOk X.N X.env.scope scope own)
    (hg : ∀ (s : Shared) (H : Hp) (C : Addr) (cl : List (Str × Addr)) (fp : List Addr), PG (X.blk s H scope (compEnvC scope cl C X.env) fp) tg (lG X.K H0 (own.map (·.2)) g)) (ht : ∀ (s : Shared) (H : Hp) (C : Addr) (cl : List (Str × Addr)) (fp : List Addr), PTs (X.blk s H scope (compEnvC scope cl C X.env) fp) ifs (lT X.K H0 tt))
    (he : ∀ (s : Shared) (H : Hp) (C : Addr) (cl : List (Str × Addr)) (fp : List Addr), PE (X.blk s H scope (compEnvC scope cl C X.env) fp) elt (lE X.K H0 te)) (l : ∀ σ H Q, lE X.K H0 t' σ H Q → tLc wi (lG X.K H0 (own.map (·.2)) g) (lT X.K H0 tt) (lE X.K H0 te) (own.map (·.2)) σ H Q) (hs : ∀ x, foldedSetIterable iter X.env x = pure x := by intro _; rfl) :
    PS X (.Assign [.Name y py] (.ListComp elt [⟨tg, iter, ifs, 0⟩] scope pos) spos) (lS X.K H0 (dAsg t' (dName i))) := psL (ps_setLc hc hN hy hyl hsw hi ok hg ht he hs) fun D σ H h => by
  obtain ⟨sd, m, DD, a, p, q⟩ := h
  exact l σ H _ ⟨sd, m, _, a, p, fun d m' v H' k r rd p' => q.1 _ m' _ H' k ((a.s.mono k).set i rd) r p'⟩
end
/-! ### steps -/
section
variable {sd : DS} {m : M} {D' : DEnds} {t u : TDS} {g : TDG} {ta : TDE} {tl : TDA} {P : DK} {tt : TDT} {te : TDE} {vs : List Nat}
theorem s_forR1 (h : tl sd m fun xs m1 => match xs with | [.int j] => (-(2 ^ 62) ≤ j ∧ j < 2 ^ 62) ∧ FR0 j.toNat g t D' sd m1 | _ => False) : dForR1 tl g t D' sd m := h
theorem s_forR2 (h : tl sd m fun xs m1 => match xs with | [.int i, .int j] => (-(2 ^ 62) ≤ i ∧ i < 2 ^ 62 ∧ -(2 ^ 62) ≤ j ∧ j < 2 ^ 62) ∧ FR i (j - i).toNat g t D' sd m1 | _ => False) : dForR2 tl g t D' sd m := h
theorem s_forT (h : ta sd m fun x m1 => match x with | .tup xs => FT xs g t D' sd m1 | _ => False) : dForT ta g t D' sd m := h
theorem s_forL (h : ta sd m fun x m1 => match x with | .rol xs => FT xs g t D' sd m1 | .ref a => ∃ xs, m1 a = some (.lst xs) ∧ FL a xs g t D' sd m1 | _ => False) : dForL ta g t D' sd m := h
theorem r_FL {a : Addr} {xs : List D} (h : m a = some (.lst xs)) (q : FL a xs g t D' sd m) : ∃ xs, m a = some (.lst xs) ∧ FL a xs g t D' sd m := ⟨xs, h, q⟩
theorem s_lcT (h : ta sd m fun x m1 => match x with | .tup xs => CT xs g tt te vs sd m1 P | _ => False) : dLcT ta g tt te vs sd m P := h
theorem s_lcL (h : ta sd m fun x m1 => match x with | .rol xs => CT xs g tt te vs sd m1 P | .ref a => ∃ xs, m1 a = some (.lst xs) ∧ CL a xs g tt te vs sd m1 P | _ => False) : dLcL ta g tt te vs sd m P := h
theorem s_lcR1 (h : tl sd m fun xs m1 => match xs with | [.int j] => (-(2 ^ 62) ≤ j ∧ j < 2 ^ 62) ∧ CR0 j.toNat g tt te vs sd m1 P | _ => False) : dLcR1 tl g tt te vs sd m P := h
theorem r_CL {a : Addr} {xs : List D} (h : m a = some (.lst xs)) (q : CL a xs g tt te vs sd m P) : ∃ xs, m a = some (.lst xs) ∧ CL a xs g tt te vs sd m P := ⟨xs, h, q⟩
end
end Q4

set_option Elab.async false
set_option linter.all false
set_option maxRecDepth 100000
namespace Q4
open PySem L2
/-! ### what is walked may be a list or a tuple -/
def iSq (K : PySem.W.Frag) (te : TE) : TI := fun σ H R => te σ H fun x G => ∃ b, x = .ref b ∧ (((∃ ys, SqL K G b ys) ∧ R (Itl K b) G) ∨ ((∃ ys, SqT K G b ys) ∧ R (Itt K b) G))
theorem pi_sq {X : Cx} {tg src : Expr} {te : TE} (hsrc : PE X src te) : PI X tg src (iSq X.K te) := by
  constructor
  intro pins st σ H R I hw
  refine thn (hsrc.run pins st σ H _ I hw) ?_
  rintro u st1 ⟨x, G, J, rv, b, ex, hq⟩
  subst ex
  cases rv
  have fresh : ∀ c ∈ [st1.heap.objs.size], FpOk X pins G c := by
    intro c hc
    rw [List.mem_singleton] at hc
    rw [hc]
    exact J.fpOk (Nat.le_refl _) (J.hok.fresh (Nat.le_refl _))
  rcases hq with ⟨⟨ys, h1⟩, q⟩ | ⟨⟨ys, h1⟩, q⟩
  · obtain ⟨its, _, pl, _⟩ := J.list h1
    refine wpAny_pyIter_list pl.isList ?_
    exact ⟨_, [_], _, _, G, rfl, J.kept (t' := st1.toks) (fun _ _ e => Heap.get?_push_of_some _ e), turn_list b _,
      ⟨_, Heap.get?_push_size _ rfl, rfl, rfl⟩, fresh, q⟩
  · obtain ⟨its, _, pl, _⟩ := J.tuple h1
    refine wpAny_pyIter_tuple (show st1.heap.IsTuple b its.toArray from pl) ?_
    exact ⟨_, [_], _, _, G, rfl, J.kept (t' := st1.toks) (fun _ _ e => Heap.get?_push_of_some _ e), turn_tuple b _,
      ⟨_, Heap.get?_push_size _ rfl, rfl, rfl⟩, fresh, q⟩
def FS (x : D) (g : TDG) (tb : TDS) : TDS := fun D sd m => match x with
  | .tup xs => FT xs g tb D sd m
  | .rol xs => FT xs g tb D sd m
  | .ref a => ∃ xs, m a = some (.lst xs) ∧ FL a xs g tb D sd m
  | _ => False
def dForS (t : TDE) (g : TDG) (tb : TDS) : TDS := fun D sd m => t sd m fun x m1 => FS x g tb D sd m1
def CS (x : D) (g : TDG) (tt : TDT) (te : TDE) (vs : List Nat) (sd : DS) (m1 : M) (P : DK) : Prop := match x with
  | .tup xs => CT xs g tt te vs sd m1 P
  | .rol xs => CT xs g tt te vs sd m1 P
  | .ref a => ∃ xs, m1 a = some (.lst xs) ∧ CL a xs g tt te vs sd m1 P
  | _ => False
def dLcS (t : TDE) (g : TDG) (tt : TDT) (te : TDE) (vs : List Nat) : TDE := fun sd m P => t sd m fun x m1 => CS x g tt te vs sd m1 P
section
variable {X : Cx} {H0 : Hp} {tg : Expr} {body : List Stmt} {g : TDG} {tb : TDS} {pos : Pos} {vs : List Nat} {K : PySem.W.Frag} {tt : TDT} {te : TDE} {σ : St} {H : Hp} {Q : VK}
theorem qs_forS {l : Expr} {t : TDE} (hp : PassesOwn (model X.prog X.w) X.A X.env X.xe) (hc : X.calm = true) (hl : PE X l (lE X.K H0 t)) (hg : PG X tg (lG X.K H0 vs g)) (hb : PSs X body (lS X.K H0 tb)) (hf : ∀ x, foldedSetIterable l X.env x = pure x := by intro _; rfl) : PS X (.For tg l body [] pos) (lS X.K H0 (dForS t g tb)) :=
  psL (ps_for hp hc (pi_sq hl) hg hb hf) fun D σ H h => by
    obtain ⟨sd, m, DD, a, p, q1, q2, q3, q4⟩ := h
    refine ⟨sd, m, _, a, p, fun d m' v H' k r rd p' => ?_⟩
    cases d with
    | tup xs =>
      obtain ⟨b, ws, rfl, h1, h2⟩ := rd.tup_
      obtain ⟨W, w0, wst, wd⟩ := p'
      exact ⟨b, rfl, .inr ⟨⟨ws, h1⟩, for_core a.k k (a.s.mono k) r (lift_tup h1 h2) q1 q2 (f_tup W w0 wst wd)⟩⟩
    | rol xs =>
      obtain ⟨b, ws, rfl, h1, h2⟩ := rd.rol_
      obtain ⟨W, w0, wst, wd⟩ := p'
      exact ⟨b, rfl, .inl ⟨⟨ws, h1.sq⟩, for_core a.k k (a.s.mono k) r (lift_rol h1 h2) q1 q2 (f_tup W w0 wst wd)⟩⟩
    | ref b =>
      cases rd.ref_
      obtain ⟨xs, h, W, w0, wl, wst, wd⟩ := p'
      obtain ⟨ws, e1, r1⟩ := r _ _ h
      exact ⟨b, rfl, .inl ⟨⟨ws, .inl (.inl e1)⟩, for_core a.k k (a.s.mono k) r lift_lst q1 q2 (f_lst W w0 wl wst wd)⟩⟩
    | _ => exact p'.elim
theorem l_lcS {t : TDE} (h : lE K H0 (dLcS t g tt te vs) σ H Q) : tLc (iSq K (lE K H0 t)) (lG K H0 vs g) (lT K H0 tt) (lE K H0 te) vs σ H Q := by
  obtain ⟨sd, m, P, a, p, q⟩ := h
  refine ⟨sd, m, _, a, p, fun d m' v H' k r rd p' => ?_⟩
  cases d with
  | tup xs =>
    obtain ⟨b, ws, rfl, h1, h2⟩ := rd.tup_
    exact ⟨b, rfl, .inr ⟨⟨ws, h1⟩, fun D hD => lc_core a.k k a.s r (lift_tup h1 h2) q hD (c_tup (p' D (r.free hD)))⟩⟩
  | rol xs =>
    obtain ⟨b, ws, rfl, h1, h2⟩ := rd.rol_
    exact ⟨b, rfl, .inl ⟨⟨ws, h1.sq⟩, fun D hD => lc_core a.k k a.s r (lift_rol h1 h2) q hD (c_tup (p' D (r.free hD)))⟩⟩
  | ref b =>
    cases rd.ref_
    obtain ⟨xs, h, p'⟩ := p'
    obtain ⟨ws, e1, r1⟩ := r _ _ h
    refine ⟨b, rfl, .inl ⟨⟨ws, .inl (.inl e1)⟩, fun D hD => lc_core a.k k a.s r lift_lst q hD (c_lst ?_ (p' D (r.free hD)))⟩⟩
    intro e
    subst e
    rw [r.free hD] at h
    cases h
  | _ => exact p'.elim
end
section
variable {sd : DS} {m : M} {D' : DEnds} {t u : TDS} {g : TDG} {ta : TDE} {tl : TDA} {P : DK} {tt : TDT} {te : TDE} {vs : List Nat} {xs : List D} {a : Addr}
theorem s_forS (h : ta sd m fun x m1 => FS x g t D' sd m1) : dForS ta g t D' sd m := h
theorem r_FST (q : FT xs g t D' sd m) : FS (.tup xs) g t D' sd m := q
theorem r_FSR (q : FT xs g t D' sd m) : FS (.rol xs) g t D' sd m := q
theorem r_FSL (h : m a = some (.lst xs)) (q : FL a xs g t D' sd m) : FS (.ref a) g t D' sd m := ⟨xs, h, q⟩
theorem s_lcS (h : ta sd m fun x m1 => CS x g tt te vs sd m1 P) : dLcS ta g tt te vs sd m P := h
theorem r_CST (q : CT xs g tt te vs sd m P) : CS (.tup xs) g tt te vs sd m P := q
theorem r_CSR (q : CT xs g tt te vs sd m P) : CS (.rol xs) g tt te vs sd m P := q
theorem r_CSL (h : m a = some (.lst xs)) (q : CL a xs g tt te vs sd m P) : CS (.ref a) g tt te vs sd m P := ⟨xs, h, q⟩
end
end Q4

set_option Elab.async false
set_option linter.all false
set_option maxRecDepth 100000
namespace Q4
open PySem L2
open PyProof.Rows (envOfC)
theorem neA {m : M} {a p : Addr} {o : DO} (h : m a = some o) (h' : m p = none) : a ≠ p := fun e => by subst e; rw [h] at h'; cases h'
theorem put_none {m : M} {a p : Addr} {o : DO} : put m a o p = none ↔ p ≠ a ∧ m p = none := by
  constructor
  · intro h
    by_cases e : p = a
    · subst e; rw [put_same] at h; cases h
    · rw [put_ne e] at h; exact ⟨e, h⟩
  · rintro ⟨e, h⟩
    rw [put_ne e]; exact h
/-! ### defs by name -/
structure FunAt (K : PySem.W.Frag) (mg : Str → Option Value) (x : Str) (st : Stmt) (ps : List Str) : Prop where
  ex : ∃ f fd, Fun K x x st f fd ∧ mg x = some (.ref f) ∧ ∀ us : List Value, us.length = ps.length → bindArgs fd ⟨us, []⟩ = pure (ps.zip us)
structure Callee (P : Program) (w : World) (K : PySem.W.Frag) (mg : Str → Option Value) (k : Nat) (x : Str) (ps : List Str) (d : DSp) : Prop where
  ex : ∃ f fd, mg x = some (.ref f) ∧ PySem.W.keepIn K (.ref f) = true ∧ (∀ us : List Value, us.length = ps.length → bindArgs fd ⟨us, []⟩ = pure (ps.zip us)) ∧ ∀ base, FnOk P w K mg base CX0 k f fd ps (lSp K d)
section
variable {P : Program} {w : World} {K : PySem.W.Frag} {mg : Str → Option Value} {x : Str} {st : Stmt} {ps N : List Str} {d d' : DSp} {k j : Nat}
theorem Callee.mono (C : Callee P w K mg j x ps d) (h : j ≤ k) : Callee P w K mg k x ps d := by
  obtain ⟨f, fd, a, b, c, e⟩ := C.ex
  exact ⟨f, fd, a, b, c, fun base => (e base).mono h⟩
theorem Callee.imp (C : Callee P w K mg k x ps d) (h : ∀ ds m P EX, d' ds m P EX → d ds m P EX) : Callee P w K mg k x ps d' := by
  obtain ⟨f, fd, a, b, c, e⟩ := C.ex
  refine ⟨f, fd, a, b, c, fun base => (e base).imp fun vs H Q E q => ?_⟩
  obtain ⟨ds, m, P, EX, r, rm, q, q2⟩ := q
  exact ⟨ds, m, P, EX, r, rm, h _ _ _ _ q, q2⟩
/-- what nobody can ask is kept by every def -/
theorem FunAt.none (F : FunAt K mg x st ps) (h : ∀ ds m P EX, ¬ d ds m P EX) : Callee P w K mg k x ps d := by
  obtain ⟨f, fd, F1, a, c⟩ := F.ex
  have no : ∀ vs H Q E, ¬ lSp K d vs H Q E := fun vs H Q E q => by
    obtain ⟨ds, m, P, EX, _, _, q, _⟩ := q
    exact h _ _ _ _ q
  exact ⟨f, fd, a, F1.kp, c, fun base => ⟨fun vs H Q E q => absurd q (no vs H Q E), fun A outer s H args us vs Q E _ _ _ _ q => absurd q (no vs H Q E)⟩⟩
theorem FunAt.callee (F : FunAt K mg x st ps) (S : FnScope N ps (defScope st)) (len : ∀ ds m P EX, d ds m P EX → ds.length = ps.length)
    (t : TDS) (hread : ∀ ds m P EX, d ds m P EX → t { nx := fun _ m' => Ret P .non m', rt := Ret P } (dstart N ds) m)
    (hbody : ∀ (base : Heap) (f : Addr) (cdv : Value) (A : Around) (outer : List Env) (s : Shared) (H : Hp) (E : XK), Room k (A.deeper (envOfC x (defScope st) s.heap.objs.size f cdv)) → PSs (cxOf CX0 P w K mg base N x (defScope st) f cdv A outer s H E).nox (defBody st) (lS K H t)) :
    Callee P w K mg (k + 1) x ps d := by
  obtain ⟨f, fd, F1, a, c⟩ := F.ex
  exact ⟨f, fd, a, F1.kp, c, fun base => Fun.okD F1 S len t hread (hbody base f)⟩
end
section
variable {X : Cx} {H0 : Hp}
theorem qe_fn {k : Nat} {ps : List Str} {d : DSp} {x : Str} {p pos : Pos} {e : Expr} {es : List Expr} {t : TDA} (C : Callee X.prog X.w X.K X.mg k x ps d) (hr : Room k X.A) (hg : Gl X x)
    (ha : PA X (e :: es) (lA X.K H0 t)) (hdb : (x == ("__debug__" : Str)) = false := by decide) (he : starEach (e :: es) X.env = (false, eval e X.env) :: starEach es X.env := by rfl) (hpl : (backTo pos (starEach es X.env)).any (·.1) = false := by rfl) :
    PE X (.Call (.Name x p) (e :: es) [] pos) (lE X.K H0 (dCall d t)) := by
  obtain ⟨f, fd, a, b, c, F⟩ := C.ex
  exact qe_call (F X.base) hr hg a b (.all c) (E := E0) pass0 ha hdb he hpl
theorem qe_fn0 {k : Nat} {ps : List Str} {d : DSp} {x : Str} {p pos : Pos} (C : Callee X.prog X.w X.K X.mg k x ps d) (hr : Room k X.A) (hg : Gl X x)
    (hdb : (x == ("__debug__" : Str)) = false := by decide) : PE X (.Call (.Name x p) [] [] pos) (lE X.K H0 (dCall d dNil)) := by
  obtain ⟨f, fd, a, b, c, F⟩ := C.ex
  exact qe_call0 (F X.base) hr hg a b (.all c) (E := E0) pass0 hdb
structure ConstAt (K : PySem.W.Frag) (mg : Str → Option Value) (x : Str) (d : D) : Prop where
  ex : ∃ v u, mg x = some u ∧ RelV v u ∧ ∀ H, RD K H d v
theorem qe_const {x : Str} {d : D} {pos : Pos} (C : ConstAt X.K X.mg x d) (hg : Gl X x) (hd : (x == ("__debug__" : Str)) = false := by decide) : PE X (.Name x pos) (lE X.K H0 (dC d)) := by
  obtain ⟨v, u, h1, h2, h3⟩ := C.ex
  exact qe_glob hg h1 h2 h3 hd
/-- a built-in class as a value -/
theorem qe_type {x : Str} {T : String} {pos : Pos} (hg : Gl X x) (hm : X.mg x = none) (hv : bootBuiltins x = some (.type T)) (hn : x ≠ "__name__" := by decide) (hd : (x == ("__debug__" : Str)) = false := by decide) : PE X (.Name x pos) (lE X.K H0 (dC (.ty T))) :=
  qe_bltn (v := .ty T) hg hm hv rfl (fun _ => .ty T) hn hd
theorem od_in : OpD X (compareOp .In) (fun x y m P => (∃ xs, (y = .tup xs ∨ isL m y xs) ∧ (∃ z : Str, x = .str z ∧ ∃ ys : List Str, xs = ys.map D.str ∧ P (.bl (decide (z ∈ ys))) m)) ∨ ∃ c z, x = .str ⟨#[c]⟩ ∧ y = .str z ∧ P (.bl (decide (c ∈ z.cps.toList))) m) := by
  have h1 : OpD X (compareOp .In) (fun x y m P => ∃ xs, (y = .tup xs ∨ isL m y xs) ∧ (∃ z : Str, x = .str z ∧ ∃ ys : List Str, xs = ys.map D.str ∧ P (.bl (decide (z ∈ ys))) m)) := by
    refine ⟨_, op_in_seq, fun H m x y u v P Q rm rx ry p q => ?_⟩
    obtain ⟨xs, hy, z, rfl, ys, rfl, p⟩ := p
    cases rx.str_
    have fin : ∀ ys : List Str, (ys.map V.str).all flatV = true := by
      intro ys
      induction ys with
      | nil => rfl
      | cons a r ih => rw [List.map_cons, List.all_cons, ih]; rfl
    have eqq : ∀ ys : List Str, inV (.str z) (ys.map V.str) = decide (z ∈ ys) := by
      intro ys
      unfold inV
      induction ys with
      | nil => simp
      | cons a r ih =>
        rw [List.map_cons, List.any_cons, ih]
        show (a == z || decide (z ∈ r)) = _
        by_cases e : a = z
        · subst e; simp
        · have : (a == z) = false := by simpa using e
          rw [this]
          simp [Ne.symm e]
    have : ∃ p', v = .ref p' ∧ (SqL X.K H p' (ys.map V.str) ∨ SqT X.K H p' (ys.map V.str)) := by
      rcases hy with rfl | hy
      · obtain ⟨a, vs, rfl, h1, h2⟩ := ry.tup_
        cases rds_strs h2
        exact ⟨a, rfl, .inr h1⟩
      · obtain ⟨a, vs, rfl, h1, h2⟩ := rm.list ry hy
        cases rds_strs h2
        exact ⟨a, rfl, .inl h1⟩
    obtain ⟨p', rfl, h⟩ := this
    refine ⟨p', _, rfl, h, rfl, fin ys, ?_⟩
    show Q (.bl (if false = true then !inV (.str z) (ys.map V.str) else inV (.str z) (ys.map V.str))) H
    rw [if_neg Bool.false_ne_true, eqq]
    exact q _ m _ H (Keep.refl _) rm (.bl _) p
  have h2 : OpD X (compareOp .In) (fun x y m P => ∃ c z, x = .str ⟨#[c]⟩ ∧ y = .str z ∧ P (.bl (decide (c ∈ z.cps.toList))) m) := by
    refine ⟨_, op_in_sign, fun H m x y u v P Q rm rx ry p q => ?_⟩
    obtain ⟨c, z, rfl, rfl, p⟩ := p
    cases rx.str_
    cases ry.str_
    exact ⟨c, z, rfl, rfl, q _ m _ H (Keep.refl _) rm (.bl _) p⟩
  exact (h1.or h2)
def rInD : R2D := fun x y m P => (∃ xs, (y = .tup xs ∨ isL m y xs) ∧ (∃ z : Str, x = .str z ∧ ∃ ys : List Str, xs = ys.map D.str ∧ P (.bl (decide (z ∈ ys))) m)) ∨ ∃ c z, x = .str ⟨#[c]⟩ ∧ y = .str z ∧ P (.bl (decide (c ∈ z.cps.toList))) m
theorem od_inD : OpD X (compareOp .In) rInD := od_in
end
def sp_law : DSp := fun ds m P _ => ∃ ns : List Int, ds = [.rol (ns.map D.int)] ∧ ns.length ≤ 63 ∧ m = (fun _ => none) ∧ ∀ m', P (.bl true) m'
theorem law_end {P : Program} {w : World} {K : PySem.W.Frag} {mg : Str → Option Value} {k : Nat} {fa : Addr} (C : Callee P w K mg k "law" ["script"] sp_law) (hm : mg "law" = some (.ref fa)) :
    ∃ fd : FuncData, (∀ (s : Shared) (v : Value), BindsTo s fd ⟨[v], []⟩ [("script", v)]) ∧ ∀ base : Heap, K.In base → base.Ns mainGlobals mg → FnOk P w K mg base CX0 k fa fd ["script"] (lSp K sp_law) := by
  obtain ⟨f, fd, a, b, c, F⟩ := C.ex
  rw [hm] at a
  cases a
  exact ⟨fd, fun s v => .of_eq (c [v] rfl), fun base _ _ => F base⟩
theorem law_ask {K : PySem.W.Frag} {H : Hp} {a : Addr} {ns : List Int} (hl : ns.length ≤ 63) (ho : Only H) (hS : SqL K H a (ns.map V.int)) : lSp K sp_law [.ref a] H (fun v _ => v = .bl true) fun _ _ _ => False := by
  have hf : FrzL K H a (ns.map V.int) := by
    rcases hS with (h | ⟨o, h⟩) | h
    · rcases ho a with q | ⟨o, xs, q⟩
      · rw [h] at q; cases q
      · rw [h] at q; cases q
    · exact .inl ⟨o, h⟩
    · exact .inr h
  have rd : ∀ ns : List Int, RDs K H (ns.map D.int) (ns.map V.int) := by
    intro ns
    induction ns with
    | nil => exact .nil
    | cons n r ih => exact .cons (.int n) ih
  refine ⟨[.rol (ns.map D.int)], fun _ => none, fun d _ => d = .bl true, noX, .cons (.rol hf (rd ns)) .nil, (fun a o e => by cases e), ⟨ns, rfl, hl, rfl, fun _ => rfl⟩, ?_, wantsX0⟩
  rintro d m' v H' k r rd' rfl
  exact rd'.bl_
theorem FunAt.of {K : PySem.W.Frag} {h : Heap} {mg : Str → Option Value} {x : Str} {st : Stmt} {ps : List Str} {f : Addr} {oc kV doc pm cdv ct : Value} {od an : Option Addr} {osl : Array (Option Value)} (X : K.In h) (G : h.Ns mainGlobals mg)
    (a1 : PySem.W.nsIn K mainGlobals x = some (some (.ref f))) (l1 : K.lookup f = some ⟨oc, od, .func (PySem.W.fnOf x x (defArgs st) (defBody st) (defScope st) .none kV doc pm an cdv ct), osl⟩) (c1 : PySem.W.codeIn K cdv x = true) (k1 : PySem.W.keepIn K (.ref f) = true)
    (hb : ∀ (kV doc pm : Value) (an : Option Addr) (cdv ct : Value) (us : List Value), us.length = ps.length → bindArgs (PySem.W.fnOf x x (defArgs st) (defBody st) (defScope st) .none kV doc pm an cdv ct) ⟨us, []⟩ = pure (ps.zip us)) : FunAt K mg x st ps :=
  ⟨f, _, fun_mk l1 c1 k1, PySem.W.mg_of X G a1, hb kV doc pm an cdv ct⟩
theorem ConstAt.tup {K : PySem.W.Frag} {h : Heap} {mg : Str → Option Value} {x : Str} {a : Addr} {o : Obj} {its : Array Value} {n : Nat} {ds : List D} {vs : List V} (X : K.In h) (G : h.Ns mainGlobals mg)
    (a1 : PySem.W.nsIn K mainGlobals x = some (some (.ref a))) (l1 : K.lookup a = some o) (c : o.cls = .type "tuple") (hd : o.data = .seq its n) (hz : its.size ≤ sizeLine) (hv : Vals vs its.toList) (hr : ∀ H, RDs K H ds vs) : ConstAt K mg x (.tup ds) :=
  ⟨.ref a, .ref a, PySem.W.mg_of X G a1, rfl, fun H => .tup (.inr ⟨o, its, n, l1, c, hd, hz, hv⟩) (hr H)⟩
end Q4

set_option Elab.async false
set_option linter.all false
set_option maxRecDepth 100000
namespace Q4
open PySem L2
abbrev Go (P : DK) (t : TDS) (sd : DS) (m : M) : Prop := t { nx := fun _ m' => Ret P .non m', rt := Ret P } sd m
section
variable {X : Cx} {H0 : Hp}
def rNegD : R1D := fun x m P => match x with | .int i => P (.int (-i)) m | _ => False
theorem qe_neg {a : Expr} {pos : Pos} {t : TDE} (ha : PE X a (lE X.K H0 t)) : PE X (.UnaryOp .USub a pos) (lE X.K H0 (dUn rNegD t)) := peL (pe_un un_neg ha) fun _ _ _ => l_un fun H m x u P Q rm rx p q => by
  unfold rNegD at p
  split at p
  · cases rx.int_
    exact ⟨_, rfl, q _ m _ H (Keep.refl _) rm (.int _) p⟩
  · exact p.elim
def rNotInD : R2D := fun x y m P => (∃ xs, (y = .tup xs ∨ isL m y xs) ∧ (∃ z : Str, x = .str z ∧ ∃ ys : List Str, xs = ys.map D.str ∧ P (.bl (!decide (z ∈ ys))) m)) ∨ ∃ c z, x = .str ⟨#[c]⟩ ∧ y = .str z ∧ P (.bl (!decide (c ∈ z.cps.toList))) m
theorem flat_strs : ∀ ys : List Str, (ys.map V.str).all flatV = true
  | [] => rfl
  | a :: r => by rw [List.map_cons, List.all_cons, flat_strs r]; rfl
theorem inV_strs {z : Str} : ∀ ys : List Str, inV (.str z) (ys.map V.str) = decide (z ∈ ys)
  | [] => by simp [inV]
  | a :: r => by
    have ih := inV_strs (z := z) r
    unfold inV at ih ⊢
    rw [List.map_cons, List.any_cons, ih]
    show (a == z || decide (z ∈ r)) = _
    by_cases e : a = z
    · subst e; simp
    · have : (a == z) = false := by simpa using e
      rw [this]
      simp [Ne.symm e]
theorem od_notInD : OpD X (compareOp .NotIn) rNotInD := by
  have h1 : OpD X (compareOp .NotIn) (fun x y m P => ∃ xs, (y = .tup xs ∨ isL m y xs) ∧ (∃ z : Str, x = .str z ∧ ∃ ys : List Str, xs = ys.map D.str ∧ P (.bl (!decide (z ∈ ys))) m)) := by
    refine ⟨_, op_notIn_seq, fun H m x y u v P Q rm rx ry p q => ?_⟩
    obtain ⟨xs, hy, z, rfl, ys, rfl, p⟩ := p
    cases rx.str_
    have : ∃ p', v = .ref p' ∧ (SqL X.K H p' (ys.map V.str) ∨ SqT X.K H p' (ys.map V.str)) := by
      rcases hy with rfl | hy
      · obtain ⟨a, vs, rfl, h1, h2⟩ := ry.tup_
        cases rds_strs h2
        exact ⟨a, rfl, .inr h1⟩
      · obtain ⟨a, vs, rfl, h1, h2⟩ := rm.list ry hy
        cases rds_strs h2
        exact ⟨a, rfl, .inl h1⟩
    obtain ⟨p', rfl, h⟩ := this
    refine ⟨p', _, rfl, h, rfl, flat_strs ys, ?_⟩
    show Q (.bl (if true = true then !inV (.str z) (ys.map V.str) else inV (.str z) (ys.map V.str))) H
    rw [if_pos rfl, inV_strs]
    exact q _ m _ H (Keep.refl _) rm (.bl _) p
  have h2 : OpD X (compareOp .NotIn) (fun x y m P => ∃ c z, x = .str ⟨#[c]⟩ ∧ y = .str z ∧ P (.bl (!decide (c ∈ z.cps.toList))) m) := by
    refine ⟨_, op_notIn_sign, fun H m x y u v P Q rm rx ry p q => ?_⟩
    obtain ⟨c, z, rfl, rfl, p⟩ := p
    cases rx.str_
    cases ry.str_
    exact ⟨c, z, rfl, rfl, q _ m _ H (Keep.refl _) rm (.bl _) p⟩
  exact (h1.or h2)
end
end Q4

set_option Elab.async false
set_option linter.all false
set_option maxRecDepth 100000
namespace Q4
open PySem L2
theorem atI_int {ns : List Int} {i : Int} (h0 : 0 ≤ i) (h : i < (ns.map D.int).length) : atI (ns.map D.int) i = some (.int (ns.getD i.toNat 0)) := by
  rw [List.length_map] at h
  have e : i = ((i.toNat : Nat) : Int) := by omega
  have hl : i.toNat < ns.length := by omega
  rw [e]
  refine atI_nat ?_
  rw [List.getElem?_map, List.getElem?_eq_getElem hl, List.getD_eq_getElem?_getD, Int.toNat_natCast, List.getElem?_eq_getElem hl]
  rfl
/-! ### the law's state: four ints -/
structure S4 where
  a : Int
  b : Int
  c : Int
  d : Int
abbrev S4.D (s : S4) : DO := .lst [.int s.a, .int s.b, .int s.c, .int s.d]
structure S4.Ok (s : S4) : Prop where
  a : 0 ≤ s.a
  c : 0 ≤ s.c
  c1 : s.c < 2147483647
def sp_law_pick : DSp := fun ds m P _ => ∃ st ns many s, ds = [.ref st, .rol (List.map D.int ns), .int many] ∧ m st = some (S4.D s) ∧ s.Ok ∧ 0 < many ∧ many < 2 ^ 62 ∧
  ∀ r s', 0 ≤ r → r < many → S4.Ok s' → s'.d = s.d → P (.int r) (put m st s'.D)
theorem use_pick {st : Addr} {ns : List Int} {many : Int} {s : S4} {m : M} {P : DK} (h : m st = some (S4.D s)) (o : s.Ok) (h0 : 0 < many) (h1 : many < 2 ^ 62) (q : ∀ r s', 0 ≤ r → r < many → S4.Ok s' → s'.d = s.d → P (.int r) (put m st s'.D)) :
    sp_law_pick [.ref st, .rol (List.map D.int ns), .int many] m P noX := ⟨st, ns, many, s, rfl, h, o, h0, h1, q⟩
theorem S4.Ok.d {s : S4} (o : s.Ok) (d : Int) : S4.Ok ⟨s.a, s.b, s.c, d⟩ := ⟨o.a, o.c, o.c1⟩
theorem use_pick2 {st : Addr} {ns : List Int} {many a b c d : Int} {m : M} {P : DK} (h : m st = some (.lst [.int a, .int b, .int c, .int d])) (o : S4.Ok ⟨a, b, c, d⟩) (h0 : 0 < many) (h1 : many < 2 ^ 62) (q : ∀ r s', 0 ≤ r → r < many → S4.Ok s' → s'.d = d → P (.int r) (put m st s'.D)) :
    sp_law_pick [.ref st, .rol (List.map D.int ns), .int many] m P noX := ⟨st, ns, many, ⟨a, b, c, d⟩, rfl, h, o, h0, h1, q⟩
theorem s_new {m : M} {Q : Addr → Prop} (h : ∀ p, m p = none → Q p) : ∀ p, m p = none → Q p := h
theorem r_inL {a : Addr} {m : M} {z : Str} {ys : List Str} {P : DK} (h : m a = some (.lst (ys.map D.str))) (q : P (.bl (decide (z ∈ ys))) m) : rInD (.str z) (.ref a) m P := .inl ⟨_, .inr h, z, rfl, ys, rfl, q⟩
theorem r_inT {m : M} {z : Str} {ys : List Str} {P : DK} (q : P (.bl (decide (z ∈ ys))) m) : rInD (.str z) (.tup (ys.map D.str)) m P := .inl ⟨_, .inl rfl, z, rfl, ys, rfl, q⟩
theorem r_ninL {a : Addr} {m : M} {z : Str} {ys : List Str} {P : DK} (h : m a = some (.lst (ys.map D.str))) (q : P (.bl (!decide (z ∈ ys))) m) : rNotInD (.str z) (.ref a) m P := .inl ⟨_, .inr h, z, rfl, ys, rfl, q⟩
/-- a plain text -/
structure Pl (z : Str) (n : Nat) : Prop where
  l : z.length ≤ n
  c : ∀ c ∈ z.cps.toList, c < 128
theorem Pl.one {c : Nat} (h : c < 128) : Pl ⟨#[c]⟩ 1 := ⟨Nat.le_refl _, fun d hd => by simp at hd; omega⟩
theorem Pl.app {z w : Str} {n k : Nat} (h : Pl z n) (h' : Pl w k) : Pl (z ++ w) (n + k) := by
  have e : (z ++ w).cps = z.cps ++ w.cps := rfl
  refine ⟨?_, fun c hc => ?_⟩
  · show (z ++ w).cps.size ≤ _
    rw [e, Array.size_append]
    exact Nat.add_le_add h.l h'.l
  · rw [e, Array.toList_append] at hc
    rcases List.mem_append.mp hc with q | q
    · exact h.c c q
    · exact h'.c c q
theorem Pl.mono {z : Str} {n k : Nat} (h : Pl z n) (e : n ≤ k) : Pl z k := ⟨Nat.le_trans h.l e, h.c⟩
theorem strAt {z : Str} {n : Nat} {r : Int} (hn : z.cps.toList.length = n) (h : z.cps.toList.all (fun c => decide (c < 128)) = true) (h0 : 0 ≤ r) (h1 : r < n) : ∃ c, atI z.cps.toList r = some c ∧ c < 128 := by
  obtain ⟨j, rfl⟩ : ∃ j : Nat, r = j := ⟨r.toNat, by omega⟩
  have hl : j < z.cps.toList.length := by omega
  refine ⟨z.cps.toList[j], atI_nat (List.getElem?_eq_getElem hl), ?_⟩
  have := List.all_eq_true.mp h _ (List.getElem_mem hl)
  simpa using this
theorem szA {z w : Str} {n k : Nat} (h : Pl z n) (h' : Pl w k) (e : n + k ≤ 100000) : z.length + w.length ≤ sizeLine := by
  have h1 := h.l
  have h2 := h'.l
  have : sizeLine = 16777216 := sizeLine_eq
  omega
theorem plLit {z : Str} {n : Nat} (h : z.cps.toList.all (fun c => decide (c < 128)) = true) (hl : z.length ≤ n) : Pl z n := ⟨hl, fun c hc => by simpa using List.all_eq_true.mp h c hc⟩
theorem put_self {m : M} {a : Addr} {o : DO} (h : m a = some o) : put m a o = m := by
  funext b
  by_cases e : b = a
  · subst e; rw [put_same, h]
  · rw [put_ne e]
theorem put_swap {m : M} {a b : Addr} {o u o' : DO} (h : b ≠ a) : put (put (put m a o) b u) a o' = put (put m a o') b u := by
  rw [put_comm h, put_put]
theorem kt_NoneType_bool : kitB "NoneType" "bool" = some false := by decide +kernel
theorem kt_NoneType_int : kitB "NoneType" "int" = some false := by decide +kernel
theorem kt_NoneType_str : kitB "NoneType" "str" = some false := by decide +kernel
theorem kt_NoneType_tuple : kitB "NoneType" "tuple" = some false := by decide +kernel
theorem kt_NoneType_list : kitB "NoneType" "list" = some false := by decide +kernel
theorem kt_bool_bool : kitB "bool" "bool" = some true := by decide +kernel
theorem kt_bool_int : kitB "bool" "int" = some true := by decide +kernel
theorem kt_bool_str : kitB "bool" "str" = some false := by decide +kernel
theorem kt_bool_tuple : kitB "bool" "tuple" = some false := by decide +kernel
theorem kt_bool_list : kitB "bool" "list" = some false := by decide +kernel
theorem kt_int_bool : kitB "int" "bool" = some false := by decide +kernel
theorem kt_int_int : kitB "int" "int" = some true := by decide +kernel
theorem kt_int_str : kitB "int" "str" = some false := by decide +kernel
theorem kt_int_tuple : kitB "int" "tuple" = some false := by decide +kernel
theorem kt_int_list : kitB "int" "list" = some false := by decide +kernel
theorem kt_str_bool : kitB "str" "bool" = some false := by decide +kernel
theorem kt_str_int : kitB "str" "int" = some false := by decide +kernel
theorem kt_str_str : kitB "str" "str" = some true := by decide +kernel
theorem kt_str_tuple : kitB "str" "tuple" = some false := by decide +kernel
theorem kt_str_list : kitB "str" "list" = some false := by decide +kernel
theorem kt_tuple_bool : kitB "tuple" "bool" = some false := by decide +kernel
theorem kt_tuple_int : kitB "tuple" "int" = some false := by decide +kernel
theorem kt_tuple_str : kitB "tuple" "str" = some false := by decide +kernel
theorem kt_tuple_tuple : kitB "tuple" "tuple" = some true := by decide +kernel
theorem kt_tuple_list : kitB "tuple" "list" = some false := by decide +kernel
theorem kt_list_bool : kitB "list" "bool" = some false := by decide +kernel
theorem kt_list_int : kitB "list" "int" = some false := by decide +kernel
theorem kt_list_str : kitB "list" "str" = some false := by decide +kernel
theorem kt_list_tuple : kitB "list" "tuple" = some false := by decide +kernel
theorem kt_list_list : kitB "list" "list" = some true := by decide +kernel
theorem r_eqB {a b : Bool} {m : M} {P : DK} (q : P (.bl (decide (a = b))) m) : rEqD (.bl a) (.bl b) m P := q
def plB (z : Str) (n : Nat) : Bool := decide (z.length ≤ n) && z.cps.toList.all fun c => decide (c < 128)
theorem pl_of {z : Str} {n : Nat} (h : plB z n = true) : Pl z n := by
  unfold plB at h
  rw [Bool.and_eq_true] at h
  exact plLit h.2 (of_decide_eq_true h.1)
theorem str_small : ∀ n : Nat, n < 128 → plB (Str.ofString (toString (n : Int))) 3 = true := by decide +kernel
theorem str_int {i : Int} (h0 : 0 ≤ i) (h : i < 128) : Pl (Str.ofString (toString i)) 3 := by
  obtain ⟨n, rfl⟩ : ∃ n : Nat, i = n := ⟨i.toNat, by omega⟩
  exact pl_of (str_small n (by omega))
theorem log2_small {i : Int} (h0 : 0 ≤ i) (h : i < 2 ^ 62) : i.natAbs.log2 < 1920 := by
  have : i.natAbs < 2 ^ 62 := by omega
  by_cases e : i.natAbs = 0
  · rw [e]; decide
  · have := (Nat.log2_lt e).mpr this
    omega
theorem cut_to {α : Type} (ys : List α) (k : Nat) : cutL ys none (some (k : Int)) = ys.take k := by
  unfold cutL
  rw [HT.sIx_nat, HT.sIx_none, List.drop_zero, Nat.sub_zero]
  by_cases h : k ≤ ys.length
  · rw [Nat.min_eq_left h]
  · rw [Nat.min_eq_right (by omega), List.take_of_length_le (Nat.le_refl _), List.take_of_length_le (by omega)]
theorem ite_nt {A B : Prop} (h : B) : if (!true) = true then A else B := h
theorem ite_nf {A B : Prop} (h : A) : if (!false) = true then A else B := h
theorem iteDT {c A B : Prop} [Decidable c] (h : c) (q : A) : if decide c = true then A else B := by rw [if_pos (decide_eq_true h)]; exact q
theorem iteDF {c A B : Prop} [Decidable c] (h : ¬ c) (q : B) : if decide c = true then A else B := by rw [if_neg (by rw [decide_eq_true_eq]; exact h)]; exact q
theorem iteNT {c A B : Prop} [Decidable c] (h : ¬ c) (q : A) : if (!decide c) = true then A else B := by rw [decide_eq_false h]; exact q
theorem iteNF {c A B : Prop} [Decidable c] (h : c) (q : B) : if (!decide c) = true then A else B := by rw [decide_eq_true h]; exact q
/-- a row of texts as data -/
def strsOf : List D → Option (List Str)
  | [] => some []
  | .str z :: r => (strsOf r).map (z :: ·)
  | _ => none
theorem strsOf_eq : ∀ {xs : List D} {ys : List Str}, strsOf xs = some ys → xs = ys.map D.str
  | [], _, h => by cases h; rfl
  | .str z :: r, _, h => by
    unfold strsOf at h
    cases e : strsOf r with
    | none => rw [e] at h; cases h
    | some w => rw [e] at h; cases h; rw [strsOf_eq e]; rfl
  | .non :: _, _, h => by cases h
  | .bl _ :: _, _, h => by cases h
  | .int _ :: _, _, h => by cases h
  | .tup _ :: _, _, h => by cases h
  | .rol _ :: _, _, h => by cases h
  | .ref _ :: _, _, h => by cases h
  | .ty _ :: _, _, h => by cases h
section
variable {m : M} {z : Str} {xs : List D} {ys : List Str} {P : DK} {a : Addr}
theorem r_inT' (h : strsOf xs = some ys) (q : P (.bl (decide (z ∈ ys))) m) : rInD (.str z) (.tup xs) m P := by rw [strsOf_eq h]; exact r_inT q
theorem r_inL' (h : m a = some (.lst xs)) (e : strsOf xs = some ys) (q : P (.bl (decide (z ∈ ys))) m) : rInD (.str z) (.ref a) m P := by rw [strsOf_eq e] at h; exact r_inL h q
theorem r_ninT' (h : strsOf xs = some ys) (q : P (.bl (!decide (z ∈ ys))) m) : rNotInD (.str z) (.tup xs) m P := .inl ⟨_, .inl rfl, z, rfl, ys, strsOf_eq h, q⟩
theorem r_ninL' (h : m a = some (.lst xs)) (e : strsOf xs = some ys) (q : P (.bl (!decide (z ∈ ys))) m) : rNotInD (.str z) (.ref a) m P := by rw [strsOf_eq e] at h; exact r_ninL h q
/-- a comprehension that maps -/
theorem CT_map {α : Type} {ks : List α} {e f : α → D} {g : TDG} {te : TDE} {vs : List Nat} {sd : DS} (hl : ks.length ≤ 100000) (hf : ∀ k ∈ ks, ∀ (m : M) (Q : DK), Q (f k) m → g (e k) (wipeD sd vs) m fun sd2 m3 => te sd2 m3 Q)
    (q : ∀ p, m p = none → P (.ref p) (put m p (.lst (ks.map f)))) : CT (ks.map e) g dYes te vs sd m P := by
  intro p hp
  refine ⟨fun i acc m2 => m2 = m ∧ acc = (ks.take i).map f, ⟨rfl, rfl⟩, ?_, ?_⟩
  · rintro i x acc m2 hx ⟨rfl, rfl⟩
    rw [List.getElem?_map] at hx
    cases hk : ks[i]? with
    | none => rw [hk] at hx; cases hx
    | some k =>
      rw [hk] at hx
      have hx : e k = x := by simpa using hx
      subst hx
      have hlt := (List.getElem?_eq_some_iff.mp hk).1
      refine hf k (List.mem_of_getElem? hk) _ _ ⟨m2, Less.refl _, ?_, rfl, ?_⟩
      · rw [List.length_map, List.length_take, PySem.sizeLine_eq]; omega
      · rw [List.take_add_one, hk, List.map_append]; rfl
  · rintro acc m2 ⟨rfl, rfl⟩
    rw [List.length_map, List.take_length]
    exact q p hp
theorem r_allM {α : Type} {ks : List α} {b : α → Bool} (h : m a = some (.lst (ks.map fun k => .bl (b k)))) (q : P (.bl (ks.all b)) m) : rAllD [.ref a] m P := by
  refine ⟨ks.map b, ?_, ?_⟩
  · show m a = _
    rw [h, List.map_map]; rfl
  · rw [List.all_map]; exact q
theorem r_anyM {α : Type} {ks : List α} {b : α → Bool} (h : m a = some (.lst (ks.map fun k => .bl (b k)))) (q : P (.bl (ks.any b)) m) : rAnyD [.ref a] m P := by
  refine ⟨ks.map b, ?_, ?_⟩
  · show m a = _
    rw [h, List.map_map]; rfl
  · rw [List.any_map]; exact q
end
theorem getMap {α β : Type} {ks : List α} {f : α → β} {i : Nat} {x : β} (h : (ks.map f)[i]? = some x) : ∃ k, ks[i]? = some k ∧ k ∈ ks ∧ x = f k := by
  rw [List.getElem?_map] at h
  cases e : ks[i]? with
  | none => rw [e] at h; cases h
  | some k => rw [e] at h; cases h; exact ⟨k, rfl, List.mem_of_getElem? e, rfl⟩
theorem allTake {α : Type} {ks : List α} {b : α → Bool} {i : Nat} {k : α} (h : ∀ k ∈ ks.take i, b k = true) (hk : ks[i]? = some k) (hb : b k = true) : ∀ k ∈ ks.take (i + 1), b k = true := by
  intro x hx
  rw [List.take_add_one, hk] at hx
  rcases List.mem_append.mp hx with q | q
  · exact h x q
  · simp at q; subst q; exact hb
theorem all_no {α : Type} {ks : List α} {b : α → Bool} {k : α} (h : k ∈ ks) (hb : b k = false) : ks.all b = false := by
  rw [Bool.eq_false_iff]
  intro e
  have := List.all_eq_true.mp e k h
  rw [hb] at this
  cases this
theorem all_yes {α : Type} {ks : List α} {b : α → Bool} {n : Nat} (h : ∀ k ∈ ks.take n, b k = true) (e : n = ks.length) : ks.all b = true := by
  subst e
  rw [List.take_length] at h
  exact List.all_eq_true.mpr h
end Q4

set_option Elab.async false
set_option linter.all false
set_option maxRecDepth 100000
namespace Q4
open PySem L2 PyProof.Rows
def maxInt (d : Int) : List Int → Int
  | [] => d
  | n :: r => r.foldl max n
theorem cmpInts (xs : List Int) : PySem.W.AlikeAll (xs.map PyData.int) := by
  refine ⟨fun x hx y hy => ?_, fun x hx => ?_⟩
  · obtain ⟨a, _, rfl⟩ := List.mem_map.mp hx
    obtain ⟨b, _, rfl⟩ := List.mem_map.mp hy
    rfl
  · obtain ⟨a, _, rfl⟩ := List.mem_map.mp hx
    intro h; cases h
theorem depthInts : ∀ xs : List Int, PyData.depthAll (xs.map PyData.int) ≤ 1
  | [] => by unfold PyData.depthAll; decide
  | x :: xs => by
    rw [List.map_cons]
    unfold PyData.depthAll
    have := depthInts xs
    have e : (PyData.int x).depth ≤ 1 := by unfold PyData.depth; decide
    omega
section
variable {X : Cx} {H0 : Hp}
def rMaxKw (K : PySem.W.Frag) : List V → List V → Hp → VK → Prop := fun vs zs H Q => ∃ (a : Addr) (ns : List Int) (d : Int), vs = [V.ref a] ∧ zs = [.int d] ∧ SqL K H a (ns.map V.int) ∧ Q (.int (maxInt d ns)) H
theorem cr_maxKw (hc : X.calm = true) (hu : X.A.units + 64 < cLine) : CallRK X (.builtin "max") [Str.ofString "default"] (rMaxKw X.K) := by
  intro pins s σ H vs zs us ws Q I r rz h
  obtain ⟨a, ns, d, rfl, rfl, hs, q⟩ := h
  obtain ⟨its, rv, hl, _⟩ := I.list hs
  obtain rfl := Vals.ref1 r
  obtain ⟨w1, rfl, e1⟩ := vals1 rz
  obtain ⟨td, rfl⟩ : ∃ t, w1 = Value.int d t := e1
  have hd := depthInts ns
  refine PySem.W.max_list_default (I.ok.hd hc) hl.isList (IntsAre.reads _ rv.ints) (cmpInts ns) (by omega) (fun e h' tk hk => ?_) fun y ys i v h' tk bs e hv rd hk => ?_
  · cases ns with
    | nil => exact ⟨.int _, H, I.kept hk, ⟨td, rfl⟩, q⟩
    | cons n r => cases e
  · cases ns with
    | nil => cases e
    | cons n r =>
      cases e
      rw [PySem.W.maxD_ints] at rd
      obtain ⟨t, rfl, _⟩ := reads_int_inv rd
      exact ⟨.int _, H, I.kept hk, ⟨t, rfl⟩, q⟩
def dMaxD (t : TDA) (td : TDE) : TDE := fun sd m P => t sd m fun xs m1 => td sd m1 fun y m2 => ∃ (x : D) (ns : List Int) (d : Int), xs = [x] ∧ isL m2 x (ns.map D.int) ∧ y = .int d ∧ P (.int (maxInt d ns)) m2
theorem qe_maxD {e d : Expr} {es : List Expr} {x : Str} {p pos kpos : Pos} {t : TDA} {td : TDE} (hc : X.calm = true) (hu : X.A.units + 64 < cLine) (hg : Gl X x) (hm : X.mg x = none) (ha : PA X (e :: es) (lA X.K H0 t)) (hd : PE X d (lE X.K H0 td))
    (hv : bootBuiltins x = some (.builtin "max")) (hn : x ≠ "__name__" := by decide) (hdb : (x == ("__debug__" : Str)) = false := by decide)
    (he : backTo pos (starEach (e :: es) X.env) = (false, eval e X.env) :: backTo pos (starEach es X.env) := by rfl) (hpl : (backTo pos (starEach (e :: es) X.env)).any (·.1) = false := by rfl)
    (hall : (backToKw pos (keywordEach [⟨some "default", d, kpos⟩] X.env)).all (·.1.isSome) = true := by rfl) (hnone : (backToKw pos (keywordEach [⟨some "default", d, kpos⟩] X.env)).any (·.1.isNone) = false := by rfl) (hks : (backToKw pos (keywordEach [⟨some "default", d, kpos⟩] X.env)).filterMap (·.1) = [Str.ofString "default"] := by rfl) :
    PE X (.Call (.Name x p) (e :: es) [⟨some "default", d, kpos⟩] pos) (lE X.K H0 (dMaxD t td)) :=
  peL (pe_callBK (cr_maxKw hc hu) hg hm hv ha (pk_cons hd pk_nil) hn hdb he hpl hall hnone hks) fun σ H Q h => by
    obtain ⟨sd, m, P, a, p, q⟩ := h
    refine ⟨sd, m, _, a, p, fun xs m1 us H1 k1 r1 d1 p1 => ?_⟩
    refine ⟨sd, m1, _, a.to k1 r1, p1, fun y m2 u H2 k2 r2 d2 p2 => ?_⟩
    obtain ⟨x, ns, d, rfl, h, rfl, p3⟩ := p2
    cases d2.int_
    obtain ⟨u1, rfl, r⟩ := (d1.mono k2).one_
    obtain ⟨_, vs, rfl, h1, h2⟩ := r2.list r h
    cases rds_ints h2
    exact ⟨_, ns, d, rfl, rfl, h1, q _ m2 _ H2 (k1.trans k2) r2 (.int _) p3⟩
end
end Q4

set_option Elab.async false
set_option linter.all false
set_option maxRecDepth 100000
namespace Q4
open PySem L2 PyProof.Rows PySem.Spec
/-! ### a tuple with its places: pairs (number, item) -/
set_option maxHeartbeats 1000000 in
theorem enum_one {x : Value} {it : Obj} {St : Heap → Prop} (B : Begins x it St) :
    Meets (Builtin.«enumerate.__new__» ⟨[.type "enumerate", x], []⟩) (fun _ R z => St z.heap ∧ R (.ok (.ret (.ref (z.heap.push it).objs.size)))
      { z with heap := (z.heap.push it).push { cls := .type "enumerate", data := .fields #[.none, .bool false, .ref z.heap.objs.size, rawInt 0, .none, .none] } }) :=
  .of_wp fun pr w A R z hz => by
    obtain ⟨hp, ge, dr, tok, osy⟩ := z
    obtain ⟨st, hz⟩ := hz
    have k1 := sub_enumerate
    have begin_ : ∀ {A' : Around} {G : Value → Shared → Prop} {Q : Value → Shared → Prop}, Q (.ref hp.objs.size) ⟨hp.push it, ge, dr, tok, osy⟩ → wpAny (model pr w) A' (pyIter x) Q G ⟨hp, ge, dr, tok, osy⟩ := fun q => B.iter pr w _ _ ⟨hp, ge, dr, tok, osy⟩ _ st q
    wp_walk using begin_
    refine wpAny_stack_any fun _ => wpAny_pure ?_
    split
    · rename_i cl _ _ _ _ _
      cases (cl == Value.type "enumerate") <;> (wp_walk using begin_; exact ⟨_, rfl, hz⟩)
    · wp_walk using begin_
      exact ⟨_, rfl, hz⟩
theorem enum_call {pr : Program} {w : World} {A : Around} {G : Value → Shared → Prop} {z : Shared} {x : Value} {it : Obj} {St : Heap → Prop} {Q : Value → Shared → Prop} (B : Begins x it St) (st : St z.heap)
    (q : ∀ h2, IsEnum h2 (z.heap.objs.size + 1) z.heap.objs.size 0 .none → h2.get? z.heap.objs.size = some it → h2.objs.size = z.heap.objs.size + 2 → (∀ b o, z.heap.get? b = some o → h2.get? b = some o) → Q (.ref (z.heap.objs.size + 1)) { z with heap := h2 }) :
    wpAny (model pr w) A (call (.type "enumerate") [x]) Q G z := by
  have sz : (z.heap.push it).objs.size = z.heap.objs.size + 1 := Heap.size_push ..
  refine callType_new F.called_enumerate (by decide) (F.typeCall_enumerate_1 _) (F.newCall_enumerate_1 _) (fun ob => F.args_object_init_2 ob _) F.entry_enumerate_new (enum_one B) ⟨st, ?_⟩
  show _ ∧ _
  rw [sz]
  have e0 := Heap.get?_push_size (z.heap.push it) (o := { cls := .type "enumerate", data := .fields #[.none, .bool false, .ref z.heap.objs.size, rawInt 0, .none, .none] }) rfl
  rw [sz] at e0
  exact ⟨⟨_, e0, rfl⟩, q _ e0 (Heap.get?_push_of_some _ (Heap.get?_push_size _ B.free)) (by rw [Heap.size_push, sz]) fun b o e => Heap.get?_push_of_some _ (Heap.get?_push_of_some _ e)⟩
/-- the tuple at a -/
def IteT (K : PySem.W.Frag) (a : Addr) : It :=
  ⟨fun i H => ∃ (ys : List V) (y : V), SqT K H a ys ∧ ys[i]? = some y, fun i H v H' => ∃ T y, v = .ref T ∧ H T = none ∧ H' = upd H T (.tup [.int (i : Nat), y]) ∧ ∀ ys, SqT K H a ys → ys[i]? = some y, fun i H => ∃ ys : List V, SqT K H a ys ∧ ys.length ≤ i⟩
theorem turn_enumT {P : Program} {w : World} {K : PySem.W.Frag} {els : List Expr} {k : Nat} {ps : Pos} (a e it : Addr) (hae : a ≠ e) (hai : a ≠ it) :
    Turn P w K (.Tuple els k ps) (IteT K a) [e, it] e (fun i h => (∃ old, IsEnum h e it ((i : Nat) : Int) old) ∧ h.IsTupleIter it a i ∧ e ≠ it) where
  mem := List.mem_cons_self
  obj := fun i h ⟨⟨old, he⟩, ⟨o, ho, hc, hd⟩, _⟩ b hb => by
    rcases List.mem_cons.mp hb with rfl | hb
    · exact ⟨_, he, fun v q => nomatch q⟩
    · rw [List.mem_singleton.mp hb]; exact ⟨o, ho, fun v q => by rw [hd] at q; cases q⟩
  keep := fun i h h' ⟨⟨old, he⟩, hi, hne⟩ kk => ⟨⟨old, kk e List.mem_cons_self _ he⟩, hi.at fun o q => kk it (List.mem_cons_of_mem _ List.mem_cons_self) o q, hne⟩
  item := by
    intro X hP hw hK hc i pins s σ H G I hf st hg
    subst hP hw hK
    obtain ⟨⟨old, he⟩, hit, hne⟩ := st
    obtain ⟨ys, y, hq, hy⟩ := hg
    obtain ⟨its, rv, p, hz⟩ := I.tuple hq
    obtain ⟨u, hu, ru⟩ := rv.get hy
    have lt1 : e < s.heap.objs.size := Heap.lt_size he
    have lt2 : it < s.heap.objs.size := by obtain ⟨_, q, _⟩ := hit; exact Heap.lt_size q
    have hlen : i < its.toArray.size := by
      have := (List.getElem?_eq_some_iff.mp hu).1
      simpa using this
    refine wpAny_pyNext_enum_itemC (Draws.tuple (A := X.A.in1) (I.ok.hd hc) it a hai its.toArray) he ⟨hit, (show s.heap.IsTuple a its.toArray from p)⟩ hlen hne (by simp [hne, Ne.symm hae]) fun x h' tk hx ho hst hT hsz hk => ?_
    obtain rfl : x = u := by
      have : its[i]? = some x := by simpa using hx
      rw [hu] at this
      exact (Option.some.inj this).symm
    refine ⟨_, rfl, wpAny_letOwnedTupleGo_enum (s := { s with heap := h', toks := tk + 1 }) ho fun h2 he2 sb => ?_⟩
    have hT2 := (sb.2 _ (Nat.ne_of_gt lt1)).trans hT
    have new : ObjOk X.prog X.w (upd H s.heap.objs.size (.tup [.int (i : Nat), y])) h2 s.heap.objs.size (.tup [.int (i : Nat), y]) :=
      ⟨by show 2 ≤ sizeLine; decide, [.int i tk, x], .cons ⟨_, rfl⟩ (.cons ru .nil), ⟨_, hT2, rfl, _, rfl⟩⟩
    have I1 : Inv X pins σ (upd H s.heap.objs.size (.tup [.int (i : Nat), y])) { s with heap := h2, toks := tk + 1 } :=
      I.turnedNew (ch := [e, it]) (fun b ob hb q => (sb.2 b (fun w => hb (by simp [w]))).trans (hk b ob (fun w => hb (by simp [w])) (fun w => hb (by simp [w])) q)) hf (Nat.le_refl _) new
    refine ⟨.ref s.heap.objs.size, _, I1, rfl, ⟨_, y, rfl, I.hok.fresh (Nat.le_refl _), rfl, fun zs hzs => by rw [I.tuple_inj hzs hq]; exact hy⟩, ⟨⟨x, ?_⟩, hst.1.at fun o q => (sb.2 it (Ne.symm hne)).trans q, hne⟩, fun b hb => ?_⟩
    · have e1 : ((i + 1 : Nat) : Int) = (i : Int) + 1 := by omega
      rw [e1]
      exact he2
    · have hb' : b < s.heap.objs.size := by
        rcases List.mem_cons.mp hb with rfl | hb
        · exact lt1
        · rw [List.mem_singleton.mp hb]; exact lt2
      rw [upd_ne (Nat.ne_of_lt hb')]
      exact (hf b hb).1
  done := by
    intro X hP hw hK hc i pins s σ H G I hf st hg
    subst hP hw hK
    obtain ⟨⟨old, he⟩, hit, hne⟩ := st
    obtain ⟨ys, hq, hy⟩ := hg
    obtain ⟨its, rv, p, hz⟩ := I.tuple hq
    obtain ⟨f0, f1, f2, f3, f4, f5⟩ := hf it (List.mem_cons_of_mem _ List.mem_cons_self)
    have hl := rv.length
    have Dz : Draws X.prog X.w X.A.in1 it [it, a] i (fun _ _ => False) (fun j h => j = i ∧ h.IsTupleIter it a i ∧ h.IsTuple a its.toArray) :=
      { live := fun _ _ z => let ⟨o, ho, _⟩ := z.2.1; ⟨o, ho⟩
        frame := fun _ _ _ z kk => ⟨z.1, z.2.1.at fun o q => kk it List.mem_cons_self o q, z.2.2.at fun o q => kk a (List.mem_cons_of_mem _ List.mem_cons_self) o q⟩
        item := fun j _ _ _ hj z _ => absurd z.1 (Nat.ne_of_lt hj)
        done := fun z Q G' st' q' => wpAny_nextOf_tuple_end (A := X.A.in1) (I.ok.hd hc) st'.2.1 st'.2.2 (by simp; omega) q' }
    exact wpAny_pyNext_enum_endD Dz he ⟨rfl, hit, (show s.heap.IsTuple a its.toArray from p)⟩ fun h' eb => ⟨rfl, I.turned (t' := s.toks) (fun b o hb q => eb b o hb q) f0 f1 f3 f4 f5⟩
  self := fun A i s Q G st h => let ⟨⟨_, he⟩, _⟩ := st; wpAny_pyIter_enum he h
def iEnumT (K : PySem.W.Frag) (ta : TA) : TI := fun σ H R => ta σ H fun vs H1 => ∃ a ys, vs = [.ref a] ∧ SqT K H1 a ys ∧ R (IteT K a) H1
theorem pi_enumT {X : Cx} {e : Expr} {ta : TA} {p pos tps : Pos} {els : List Expr} {k : Nat} (hg : Gl X "enumerate") (hm : X.mg "enumerate" = none) (ha : PA X [e] ta) (hs : starEach [e] X.env = [(false, eval e X.env)] := by rfl) :
    PI X (.Tuple els k tps) (.Call (.Name "enumerate" p) [e] [] pos) (iEnumT X.K ta) := by
  refine ⟨fun pins s σ H R I h => ?_⟩
  refine Call_ (ld_blt I hg hm boot_enumerate (PyProof.Rows.callWith_type1 (thn (ha.run pos pins s σ H _ I h) fun us z ⟨vs, H1, I1, r1, q1⟩ => ?_) hs rfl))
  obtain ⟨a, ys, rfl, hq, q⟩ := q1
  obtain rfl := Vals.ref1 r1
  obtain ⟨its, rv, pt, hz⟩ := I1.tuple hq
  have pt' : z.heap.IsTuple a its.toArray := pt
  have lta : a < z.heap.objs.size := by obtain ⟨o, ho, _⟩ := pt'; exact Heap.lt_size ho
  refine enum_call (begins_tuple a its.toArray) pt' fun h' he ho hsz kk => wpAny_pyIter_enum he ?_
  have I2 : Inv X pins σ H1 { z with heap := h' } := I1.kept (t' := z.toks) kk
  refine ⟨z.heap.objs.size + 1, [z.heap.objs.size + 1, z.heap.objs.size], _, _, H1, rfl, I2, turn_enumT a (z.heap.objs.size + 1) z.heap.objs.size (Nat.ne_of_lt (Nat.lt_succ_of_lt lta)) (Nat.ne_of_lt lta), ⟨⟨.none, he⟩, ⟨_, ho, rfl, rfl⟩, Nat.succ_ne_self _⟩, fun b hb => ?_, q⟩
  have le : z.heap.objs.size ≤ b := by
    rcases List.mem_cons.mp hb with rfl | hb
    · exact Nat.le_add_right _ _
    · rw [List.mem_singleton.mp hb]; exact Nat.le_refl _
  exact I1.fpOk le (I1.hok.fresh le)
end Q4

set_option Elab.async false
set_option linter.all false
set_option maxRecDepth 100000
namespace Q4
open PySem L2
/-! ### numbered items -/
def numd (xs : List D) : List D := xs.mapIdx fun i x => .tup [.int (i : Nat), x]
theorem numd_get {xs : List D} {i : Nat} : (numd xs)[i]? = (xs[i]?).map fun x => .tup [.int (i : Nat), x] := by
  unfold numd
  rw [List.getElem?_mapIdx]
theorem numd_len {xs : List D} : (numd xs).length = xs.length := by unfold numd; rw [List.length_mapIdx]
theorem lift_enumT {K : PySem.W.Frag} {H : Hp} {b : Addr} {xs : List D} {vs : List V} (h1 : SqT K H b vs) (h2 : RDs K H xs vs) : LiftIt K H (jTup (numd xs)) (IteT K b) := fun H2 k2 i m2 r2 o e => by
  have e : o = (numd xs)[i]? := e
  rw [numd_get] at e
  cases e2 : xs[i]? with
  | none =>
    rw [e2] at e
    subst e
    exact ⟨vs, k2.t _ _ h1, by rw [← h2.length]; exact List.getElem?_eq_none_iff.mp e2⟩
  | some x =>
    rw [e2] at e
    subst e
    obtain ⟨u, e3, r3⟩ := h2.get e2
    refine ⟨⟨vs, u, k2.t _ _ h1, e3⟩, fun v H3 y => ?_⟩
    obtain ⟨T, z, rfl, hn, rfl, hz⟩ := y
    have e5 := hz vs (k2.t _ _ h1)
    rw [e3] at e5
    cases e5
    have kk : Keep K H2 (upd H2 T (.tup [.int (i : Nat), u])) := Keep.new hn
    exact ⟨kk, r2.new hn, .tup (.inl (.inl upd_same)) ((RDs.cons (.int _) (.cons (r3.mono k2) .nil)).mono kk)⟩
/-! ### two clauses -/
/-- the inner items zs; where all are done, the outer turn is W' -/
def C2in (zs : List D) (g1 : TDG) (tt1 : TDT) (te : TDE) (vs1 : List Nat) (sd : DS) (p : Addr) (W' : List D → M → Prop) (m : M) : Prop :=
  ∃ W1 : Nat → List D → M → Prop, (∃ acc m6, Less (put m6 p (.lst acc)) m ∧ W1 0 acc m6) ∧
    (∀ j y acc m7, zs[j]? = some y → W1 j acc m7 → CTurn g1 tt1 te vs1 sd p (W1 (j + 1)) y acc m7) ∧ ∀ acc m7, W1 zs.length acc m7 → W' acc m7
def C2turn (g : TDG) (tt : TDT) (ti : TDE) (g1 : TDG) (tt1 : TDT) (te : TDE) (vs vs1 : List Nat) (sd : DS) (p : Addr) (W' : List D → M → Prop) (x : D) (acc : List D) (m2 : M) : Prop :=
  g x (wipeD sd vs) (put m2 p (.lst acc)) fun sd2 m3 => tt sd2 m3 fun b m4 =>
    if b = true then ti sd2 m4 fun z m5 => (match z with | .tup zs => C2in zs g1 tt1 te vs1 sd2 p W' m5 | _ => False) else ∃ m6, Less (put m6 p (.lst acc)) m4 ∧ W' acc m6
def C2 (xs : List D) (g : TDG) (tt : TDT) (ti : TDE) (g1 : TDG) (tt1 : TDT) (te : TDE) (vs vs1 : List Nat) (sd : DS) (m1 : M) (P : DK) : Prop := ∀ p, m1 p = none → ∃ W : Nat → List D → M → Prop, W 0 [] m1 ∧
  (∀ i x acc m2, xs[i]? = some x → W i acc m2 → C2turn g tt ti g1 tt1 te vs vs1 sd p (W (i + 1)) x acc m2) ∧ ∀ acc m2, W xs.length acc m2 → P (.ref p) (put m2 p (.lst acc))
/-- [te for g in enumerate(ta) if tt for g1 in ti if tt1], tuples -/
def dLcE2 (ta : TDA) (g : TDG) (tt : TDT) (ti : TDE) (g1 : TDG) (tt1 : TDT) (te : TDE) (vs vs1 : List Nat) : TDE := fun sd m P => ta sd m fun xs m1 => match xs with
  | [.tup ys] => C2 (numd ys) g tt ti g1 tt1 te vs vs1 sd m1 P
  | _ => False
section
variable {K : PySem.W.Frag} {H0 : Hp} {g g1 : TDG} {tt tt1 : TDT} {ti te : TDE} {vs vs1 : List Nat}
theorem in_core {H1 H3 : Hp} {sd2 : DS} {σ2 : St} {D : Addr} {W' : List Q4.D → M → Prop} {zs : List Q4.D} {m5 : M} {J1 : It} (k01 : Keep K H0 H1) (k1 : Keep K H1 H3) (s2 : RS K H3 sd2 σ2) (r3 : RM K H3 m5) (l1 : LiftIt K H3 (jTup zs) J1)
    (p : C2in zs g1 tt1 te vs1 sd2 D W' m5) :
    ∃ W1 : Nat → Nat → Hp → Prop, (∃ m, W1 0 m H3) ∧ ∀ j k H, W1 j k H →
      (J1.stop j H ∧ ∃ acc m', Keep K H1 H ∧ RM K H (put m' D (.lst acc)) ∧ W' acc m') ∨ (J1.go j H ∧ ∃ Nx1 : Hp → Prop, (∀ H', Nx1 H' → ∃ k', k' < k ∧ W1 (j + 1) k' H') ∧ ∀ x H', J1.yld j H x H' → lG K H0 vs1 g1 x (L2.wipe σ2 vs1) H' fun σ3 H5 => L2.wipe σ3 vs1 = L2.wipe σ2 vs1 ∧ lT K H0 tt1 σ3 H5 fun b H6 =>
        if b = true then lE K H0 te σ3 H6 fun y H7 => ∃ acc, H7 D = some (.lst acc) ∧ acc.length < sizeLine ∧ Nx1 (upd H7 D (.lst (acc ++ [y]))) else Nx1 H6) := by
  obtain ⟨W1, ⟨acc0, m6, hl0, w0⟩, ws, wd⟩ := p
  refine ⟨fun j n H' => n = zs.length - j ∧ j ≤ zs.length ∧ ∃ acc m', Keep K H3 H' ∧ RM K H' (put m' D (.lst acc)) ∧ W1 j acc m', ⟨_, rfl, Nat.zero_le _, acc0, m6, Keep.refl _, r3.less hl0, w0⟩, ?_⟩
  rintro j n H4 ⟨rfl, hj, acc, m7, k4, r4, w⟩
  have L := l1 H4 k4 j _ r4 (zs[j]?) rfl
  cases e : zs[j]? with
  | none =>
    rw [e] at L
    have : j = zs.length := Nat.le_antisymm hj (List.getElem?_eq_none_iff.mp e)
    subst this
    exact .inl ⟨L, acc, m7, k1.trans k4, r4, wd acc m7 w⟩
  | some y =>
    rw [e] at L
    have lt : j < zs.length := (List.getElem?_eq_some_iff.mp e).1
    refine .inr ⟨L.1, fun H' => ∃ acc m', Keep K H3 H' ∧ RM K H' (put m' D (.lst acc)) ∧ W1 (j + 1) acc m', ?_, fun v H5 yl => ?_⟩
    · rintro H' ⟨a2, m2, k2, r2, w2⟩
      exact ⟨zs.length - (j + 1), by omega, rfl, lt, a2, m2, k2, r2, w2⟩
    · obtain ⟨k5, r5, d5⟩ := L.2 v H5 yl
      have K5 : Keep K H3 H5 := k4.trans k5
      have rest := ws j y acc m7 e w
      refine ⟨y, wipeD sd2 vs1, _, _, ⟨(s2.mono K5).wipe vs1, r5, k01.trans (k1.trans K5)⟩, d5, rest, fun sd4 m4 σ4 H6 k6 s6 r6 hw p6 => ⟨hw.trans wipe_wipe, ?_⟩⟩
      have K6 : Keep K H3 H6 := K5.trans k6
      refine ⟨sd4, m4, _, ⟨s6, r6, k01.trans (k1.trans K6)⟩, p6, fun b m8 H7 k7 r7 p7 => ?_⟩
      cases b with
      | true =>
        refine ⟨sd4, m8, _, ⟨s6.mono k7, r7, k01.trans (k1.trans (K6.trans k7))⟩, p7, fun z m9 w9 H8 k8 r8 d8 p8 => ?_⟩
        obtain ⟨m10, hl, hz, w10⟩ := p8
        have r8 := r8.less hl
        obtain ⟨us, e1, rr⟩ := r8 D _ put_same
        refine ⟨us, e1, by rw [← rr.length]; exact hz, acc ++ [z], m10, ((K6.trans k7).trans k8).trans (Keep.lst e1), ?_, w10⟩
        have := r8.setPut e1 (rr.append (.cons d8 .nil))
        rw [put_put] at this
        exact this
      | false =>
        obtain ⟨m10, hl, w10⟩ := p7
        exact ⟨acc, m10, K6.trans k7, r7.less hl, w10⟩
theorem c2_core {J' : It} {H H1 : Hp} {sd : DS} {m1 : M} {σ : St} {P : DK} {Q : VK} {xs : List Q4.D} (k0 : Keep K H0 H) (k1 : Keep K H H1) (s0 : RS K H sd σ) (r1 : RM K H1 m1) (l1 : LiftIt K H1 (jTup xs) J')
    (q : ∀ d m' v H', Keep K H H' → RM K H' m' → RD K H' d v → P d m' → Q v H') {D : Addr} (hD : H1 D = none) (p : C2 xs g tt ti g1 tt1 te vs vs1 sd m1 P) :
    ∃ W : Nat → Nat → Hp → Prop, (∃ m, W 0 m (upd H1 D (.lst []))) ∧ ∀ i m H, W i m H →
      (J'.stop i H ∧ Q (.ref D) H) ∨ (J'.go i H ∧ ∃ Nx : Hp → Prop, (∀ H', Nx H' → ∃ m', m' < m ∧ W (i + 1) m' H') ∧ ∀ x H', J'.yld i H x H' → lG K H0 vs g x (L2.wipe σ vs) H' fun σ2 H2 => L2.wipe σ2 vs = L2.wipe σ vs ∧ lT K H0 tt σ2 H2 fun b H3 =>
        if b = true then iSq K (lE K H0 ti) σ2 H3 fun J1 H4 => ∃ W1 : Nat → Nat → Hp → Prop, (∃ m, W1 0 m H4) ∧ ∀ j k H, W1 j k H →
          (J1.stop j H ∧ Nx H) ∨ (J1.go j H ∧ ∃ Nx1 : Hp → Prop, (∀ H', Nx1 H' → ∃ k', k' < k ∧ W1 (j + 1) k' H') ∧ ∀ x H', J1.yld j H x H' → lG K H0 vs1 g1 x (L2.wipe σ2 vs1) H' fun σ3 H5 => L2.wipe σ3 vs1 = L2.wipe σ2 vs1 ∧ lT K H0 tt1 σ3 H5 fun b H6 =>
            if b = true then lE K H0 te σ3 H6 fun y H7 => ∃ acc, H7 D = some (.lst acc) ∧ acc.length < sizeLine ∧ Nx1 (upd H7 D (.lst (acc ++ [y]))) else Nx1 H6)
        else Nx H3) := by
  obtain ⟨W, w0, ws, wd⟩ := p D (r1.free hD)
  refine ⟨fun i n H' => n = xs.length - i ∧ i ≤ xs.length ∧ ∃ acc m', Keep K H1 H' ∧ RM K H' (put m' D (.lst acc)) ∧ W i acc m', ⟨_, rfl, Nat.zero_le _, [], m1, Keep.new hD, r1.newPut hD .nil, w0⟩, ?_⟩
  rintro i n H2 ⟨rfl, hi, acc, m2, k2, r2, w⟩
  have L := l1 H2 k2 i _ r2 (xs[i]?) rfl
  cases e : xs[i]? with
  | none =>
    rw [e] at L
    have : i = xs.length := Nat.le_antisymm hi (List.getElem?_eq_none_iff.mp e)
    subst this
    exact .inl ⟨L, q _ _ _ H2 (k1.trans k2) r2 (.ref D) (wd acc m2 w)⟩
  | some x =>
    rw [e] at L
    have lt : i < xs.length := (List.getElem?_eq_some_iff.mp e).1
    refine .inr ⟨L.1, fun H' => ∃ acc m', Keep K H1 H' ∧ RM K H' (put m' D (.lst acc)) ∧ W (i + 1) acc m', ?_, fun v H3 yl => ?_⟩
    · rintro H' ⟨a2, m2, k2, r2, w2⟩
      exact ⟨xs.length - (i + 1), by omega, rfl, lt, a2, m2, k2, r2, w2⟩
    · obtain ⟨k3, r3, d3⟩ := L.2 v H3 yl
      have K3 : Keep K H1 H3 := k2.trans k3
      have K03 : Keep K H H3 := k1.trans K3
      have rest := ws i x acc m2 e w
      refine ⟨x, wipeD sd vs, _, _, ⟨(s0.mono K03).wipe vs, r3, k0.trans K03⟩, d3, rest, fun sd4 m4 σ4 H4 k4 s4 r4 hw p4 => ⟨hw.trans wipe_wipe, ?_⟩⟩
      have K4 : Keep K H1 H4 := K3.trans k4
      refine ⟨sd4, m4, _, ⟨s4, r4, k0.trans (k1.trans K4)⟩, p4, fun b m5 H5 k5 r5 p5 => ?_⟩
      have K5 : Keep K H1 H5 := K4.trans k5
      cases b with
      | true =>
        refine ⟨sd4, m5, _, ⟨s4.mono k5, r5, k0.trans (k1.trans K5)⟩, p5, fun z m6 u H6 k6 r6 d6 p6 => ?_⟩
        cases z with
        | tup zs =>
          obtain ⟨b, us, rfl, h1, h2⟩ := d6.tup_
          exact ⟨b, rfl, .inr ⟨⟨us, h1⟩, in_core (k0.trans k1) (K5.trans k6) ((s4.mono k5).mono k6) r6 (lift_tup h1 h2) p6⟩⟩
        | _ => exact p6.elim
      | false =>
        obtain ⟨m7, hl, w7⟩ := p5
        exact ⟨acc, m7, K5, r5.less hl, w7⟩
theorem l_lcE2 {ta : TDA} {σ : St} {H : Hp} {Q : VK} (h : lE K H0 (dLcE2 ta g tt ti g1 tt1 te vs vs1) σ H Q) : tLc2 (iEnumT K (lA K H0 ta)) (lG K H0 vs g) (lT K H0 tt) (iSq K (lE K H0 ti)) (lG K H0 vs1 g1) (lT K H0 tt1) (lE K H0 te) vs vs1 σ H Q := by
  obtain ⟨sd, m, P, a, p, q⟩ := h
  refine ⟨sd, m, _, a, p, fun d m' v H' k r rd p' => ?_⟩
  split at p'
  · obtain ⟨u, rfl, r1⟩ := rd.one_
    obtain ⟨b, us, rfl, h1, h2⟩ := r1.tup_
    exact ⟨b, us, rfl, h1, fun D hD => c2_core a.k k a.s r (lift_enumT h1 h2) q hD p'⟩
  · exact p'.elim
end
theorem qe_lc2X {X : Cx} {H0 : Hp} {g g1 : TDG} {tt tt1 : TDT} {te : TDE} {elt tg iter tg1 iter1 : Expr} {ifs ifs1 : List Expr} {scope : Scope} {own : List (Str × Nat)} {vs1 : List Nat} {pos : Pos} {wi wi1 : TI} {t' : TDE} (hc : X.calm = true) (hN : X.N.Nodup) (hi : PI X tg iter wi) (ok : BlkOk X.N X.env.scope scope own) (hv : ∀ i ∈ vs1, i ∈ own.map (·.2))
    (hg : ∀ (s : Shared) (H : Hp) (C : Addr) (cl : List (Str × Addr)) (fp : List Addr), PG (X.blk s H scope (compEnvC scope cl C X.env) fp) tg (lG X.K H0 (own.map (·.2)) g)) (ht : ∀ (s : Shared) (H : Hp) (C : Addr) (cl : List (Str × Addr)) (fp : List Addr), PTs (X.blk s H scope (compEnvC scope cl C X.env) fp) ifs (lT X.K H0 tt))
    (hi1 : ∀ (s : Shared) (H : Hp) (C : Addr) (cl : List (Str × Addr)) (fp : List Addr), PI (X.blk s H scope (compEnvC scope cl C X.env) fp) tg1 iter1 wi1)
    (hg1 : ∀ (s : Shared) (H : Hp) (C : Addr) (cl : List (Str × Addr)) (fp : List Addr), PG (X.blk s H scope (compEnvC scope cl C X.env) fp) tg1 (lG X.K H0 vs1 g1)) (ht1 : ∀ (s : Shared) (H : Hp) (C : Addr) (cl : List (Str × Addr)) (fp : List Addr), PTs (X.blk s H scope (compEnvC scope cl C X.env) fp) ifs1 (lT X.K H0 tt1))
    (he : ∀ (s : Shared) (H : Hp) (C : Addr) (cl : List (Str × Addr)) (fp : List Addr), PE (X.blk s H scope (compEnvC scope cl C X.env) fp) elt (lE X.K H0 te))
    (l : ∀ σ H Q, lE X.K H0 t' σ H Q → tLc2 wi (lG X.K H0 (own.map (·.2)) g) (lT X.K H0 tt) wi1 (lG X.K H0 vs1 g1) (lT X.K H0 tt1) (lE X.K H0 te) (own.map (·.2)) vs1 σ H Q)
    (hs : ∀ x, foldedSetIterable iter X.env x = pure x := by intro _; rfl) (hs1 : ∀ env x, foldedSetIterable iter1 env x = pure x := by intro _ _; rfl) :
    PE X (.ListComp elt [⟨tg, iter, ifs, 0⟩, ⟨tg1, iter1, ifs1, 0⟩] scope pos) (lE X.K H0 t') := peL (pe_lc2 hc hN hi ok hv hg ht hi1 hg1 ht1 he hs hs1) l
end Q4

set_option Elab.async false
set_option linter.all false
set_option maxRecDepth 100000
namespace Q4
open PySem L2
/-! ### dicts whose keys are ints and texts -/
def kD : Key → D
  | .inl i => .int i
  | .inr z => .str z
theorem RD.key_ {K : PySem.W.Frag} {H : Hp} {k : Key} {v : V} (r : RD K H (kD k) v) : v = kV k := by
  cases k with
  | inl i => exact r.int_
  | inr z => exact r.str_
def valD (kvs : List (Key × D)) (k : Key) : Option D := (kvs.find? fun p => decide (p.1 = k)).map (·.2)
def putD (kvs : List (Key × D)) (k : Key) (d : D) : List (Key × D) :=
  if kvs.any fun p => decide (p.1 = k) then kvs.map fun p => if p.1 = k then (p.1, d) else p else kvs ++ [(k, d)]
/-- two dicts that stand for each other -/
structure RK (K : PySem.W.Frag) (H : Hp) (kvs : List (Key × D)) (gs : List (Key × V)) : Prop where
  v : RDs K H (kvs.map (·.2)) (gs.map (·.2))
  k : kvs.map (·.1) = gs.map (·.1)
section
variable {K : PySem.W.Frag} {H H' : Hp}
theorem RK.nil : RK K H [] [] := ⟨.nil, rfl⟩
theorem RK.cons {p : Key × D} {q : Key × V} {kvs : List (Key × D)} {gs : List (Key × V)} (r : RK K H (p :: kvs) (q :: gs)) : p.1 = q.1 ∧ RD K H p.2 q.2 ∧ RK K H kvs gs := by
  have e := r.k
  rw [List.map_cons, List.map_cons] at e
  have v := r.v
  rw [List.map_cons, List.map_cons] at v
  cases v with
  | cons a b => exact ⟨(List.cons.inj e).1, a, b, (List.cons.inj e).2⟩
theorem RK.mk_cons {p : Key × D} {q : Key × V} {kvs : List (Key × D)} {gs : List (Key × V)} (e : p.1 = q.1) (h : RD K H p.2 q.2) (r : RK K H kvs gs) : RK K H (p :: kvs) (q :: gs) :=
  ⟨.cons h r.v, by rw [List.map_cons, List.map_cons, e, r.k]⟩
theorem RK.mono {kvs : List (Key × D)} {gs : List (Key × V)} (r : RK K H kvs gs) (k : Keep K H H') : RK K H' kvs gs := ⟨r.v.mono k, r.k⟩
theorem RK.length {kvs : List (Key × D)} {gs : List (Key × V)} (r : RK K H kvs gs) : kvs.length = gs.length := by
  have := r.v.length
  rwa [List.length_map, List.length_map] at this
theorem RK.val (k : Key) : ∀ {kvs : List (Key × D)} {gs : List (Key × V)}, RK K H kvs gs → match valD kvs k with
    | some d => ∃ v, valV gs k = some v ∧ RD K H d v
    | none => valV gs k = none
  | [], [], _ => rfl
  | [], _ :: _, r => by have := r.length; cases this
  | _ :: _, [], r => by have := r.length; cases this
  | p :: kvs, q :: gs, r => by
    obtain ⟨e, h, r'⟩ := r.cons
    by_cases hk : p.1 = k
    · have e1 : valD (p :: kvs) k = some p.2 := by simp [valD, hk]
      rw [e1]
      exact ⟨q.2, valV_pos (e.symm.trans hk), h⟩
    · have e1 : valD (p :: kvs) k = valD kvs k := by simp [valD, hk]
      rw [e1, valV_neg (fun z => hk (e.trans z))]
      exact RK.val k r'
theorem RK.any (k : Key) : ∀ {kvs : List (Key × D)} {gs : List (Key × V)}, RK K H kvs gs → (kvs.any fun p => decide (p.1 = k)) = gs.any fun p => decide (p.1 = k)
  | [], [], _ => rfl
  | [], _ :: _, r => by have := r.length; cases this
  | _ :: _, [], r => by have := r.length; cases this
  | p :: kvs, q :: gs, r => by
    obtain ⟨e, h, r'⟩ := r.cons
    rw [List.any_cons, List.any_cons, e, RK.any k r']
theorem RK.app {d : D} {v : V} (k : Key) (h : RD K H d v) : ∀ {kvs : List (Key × D)} {gs : List (Key × V)}, RK K H kvs gs → RK K H (kvs ++ [(k, d)]) (gs ++ [(k, v)])
  | [], [], _ => .mk_cons rfl h .nil
  | [], _ :: _, r => by have := r.length; cases this
  | _ :: _, [], r => by have := r.length; cases this
  | p :: kvs, q :: gs, r => let ⟨e, h', r'⟩ := r.cons; .mk_cons e h' (RK.app k h r')
theorem RK.repl {d : D} {v : V} (k : Key) (h : RD K H d v) : ∀ {kvs : List (Key × D)} {gs : List (Key × V)}, RK K H kvs gs → RK K H (kvs.map fun p => if p.1 = k then (p.1, d) else p) (gs.map fun p => if p.1 = k then (p.1, v) else p)
  | [], [], _ => .nil
  | [], _ :: _, r => by have := r.length; cases this
  | _ :: _, [], r => by have := r.length; cases this
  | p :: kvs, q :: gs, r => by
    obtain ⟨e, h', r'⟩ := r.cons
    rw [List.map_cons, List.map_cons]
    by_cases hk : p.1 = k
    · rw [if_pos hk, if_pos (e.symm.trans hk)]
      exact .mk_cons e h (RK.repl k h r')
    · rw [if_neg hk, if_neg fun z => hk (e.trans z)]
      exact .mk_cons e h' (RK.repl k h r')
theorem RK.put {d : D} {v : V} {kvs : List (Key × D)} {gs : List (Key × V)} (k : Key) (h : RD K H d v) (r : RK K H kvs gs) : RK K H (putD kvs k d) (putK gs k v) := by
  unfold putD putK
  rw [← r.any k]
  split
  · exact r.repl k h
  · exact r.app k h
theorem Keep.dk {p : Addr} {gs : List (Key × V)} {o : HO} (h : H p = some (.dK gs)) : Keep K H (upd H p o) := by
  refine ⟨fun a xs q => ?_, fun a xs q => ?_⟩
  · rcases q with (q | ⟨o', q⟩) | q
    · exact .inl (.inl ((upd_ne (ne_of q h (by simp))).trans q))
    · exact .inl (.inr ⟨o', (upd_ne (ne_of q h (by simp))).trans q⟩)
    · exact .inr q
  · rcases q with ⟨o', q⟩ | q
    · exact .inl ⟨o', (upd_ne (ne_of q h (by simp))).trans q⟩
    · exact .inr q
theorem RM.dict {m : M} {a : Addr} {kvs : List (Key × D)} (r : RM K H m) (h : m a = some (.dct kvs)) : ∃ gs, H a = some (.dK gs) ∧ RK K H kvs gs := by
  obtain ⟨gs, e, v, k⟩ := r a _ h
  exact ⟨gs, e, v, k⟩
theorem RM.newDct {m : M} (r : RM K H m) {p : Addr} {gs : List (Key × V)} {kvs : List (Key × D)} (h : H p = none) (q : RK K H kvs gs) : RM K (upd H p (.dK gs)) (put m p (.dct kvs)) := fun a u e => by
  by_cases n : a = p
  · subst n
    rw [put_same] at e
    cases e
    exact ⟨gs, upd_same, (q.mono (Keep.new h)).v, q.k⟩
  · rw [put_ne n] at e
    exact (r a u e).stay (Keep.new h) (upd_ne n)
theorem RM.setDct {m : M} (r : RM K H m) {p : Addr} {gs gs' : List (Key × V)} {kvs : List (Key × D)} (h : H p = some (.dK gs)) (q : RK K H kvs gs') : RM K (upd H p (.dK gs')) (put m p (.dct kvs)) := fun a u e => by
  by_cases n : a = p
  · subst n
    rw [put_same] at e
    cases e
    exact ⟨gs', upd_same, (q.mono (Keep.dk h)).v, q.k⟩
  · rw [put_ne n] at e
    exact (r a u e).stay (Keep.dk h) (upd_ne n)
end
/-- t[u] of a dict -/
def dDGet (t u : TDE) : TDE := fun sd m P => t sd m fun x m1 => u sd m1 fun y m2 => ∃ a kvs k d, x = .ref a ∧ y = kD k ∧ m2 a = some (.dct kvs) ∧ valD kvs k = some d ∧ P d m2
/-- t in u, t not in u -/
def dDIn (t u : TDE) : TDE := fun sd m P => t sd m fun y m1 => u sd m1 fun x m2 => ∃ a kvs k, x = .ref a ∧ y = kD k ∧ m2 a = some (.dct kvs) ∧ P (.bl (valD kvs k).isSome) m2
def dDNotIn (t u : TDE) : TDE := fun sd m P => t sd m fun y m1 => u sd m1 fun x m2 => ∃ a kvs k, x = .ref a ∧ y = kD k ∧ m2 a = some (.dct kvs) ∧ P (.bl (!(valD kvs k).isSome)) m2
/-- t[u] = v -/
def dDPut (t u v : TDE) : TDS := fun D sd m => v sd m fun z m1 => t sd m1 fun x m2 => u sd m2 fun y m3 => ∃ a kvs k, x = .ref a ∧ y = kD k ∧ m3 a = some (.dct kvs) ∧ kvs.length < sizeLine ∧ D.nx sd (put m3 a (.dct (putD kvs k z)))
/-- {} -/
def dDNew : TDE := fun _ m P => ∀ p, m p = none → P (.ref p) (put m p (.dct []))
section
variable {X : Cx} {H0 : Hp} {a b c : Expr} {pos pos' : Pos} {t u v : TDE}
theorem qe_dget (hu : X.A.units + 64 < cLine) (ha : PE X a (lE X.K H0 t)) (hb : PE X b (lE X.K H0 u)) (hs : NoSl b) : PE X (.Subscript a b pos) (lE X.K H0 (dDGet t u)) := peL (pe_dget (by omega) ha hb hs) fun σ H Q h => by
  obtain ⟨sd, m, P, aa, p, q⟩ := h
  refine ⟨sd, m, _, aa, p, fun x m1 w1 H1 k1 r1 d1 p1 => ⟨sd, m1, _, aa.to k1 r1, p1, fun y m2 w2 H2 k2 r2 d2 p2 => ?_⟩⟩
  obtain ⟨ad, kvs, k, d, rfl, rfl, hm, hv, p3⟩ := p2
  obtain rfl := d1.ref_
  obtain rfl := d2.key_
  obtain ⟨gs, e, rk⟩ := r2.dict hm
  have z := rk.val k
  rw [hv] at z
  obtain ⟨w, e1, rd⟩ := z
  exact ⟨ad, w, rfl, by have g := DGet.k (k := k) e; rw [e1] at g; exact g, q _ m2 _ H2 (k1.trans k2) r2 rd p3⟩
theorem isSome_eq {K : PySem.W.Frag} {H : Hp} {kvs : List (Key × D)} {gs : List (Key × V)} (r : RK K H kvs gs) (k : Key) : (valV gs k).isSome = (valD kvs k).isSome := by
  have z := r.val k
  cases e : valD kvs k with
  | none => rw [e] at z; rw [z]; rfl
  | some d => rw [e] at z; obtain ⟨v, e1, _⟩ := z; rw [e1]; rfl
theorem qt_din (hu : X.A.units + 64 < cLine) (ha : PE X a (lE X.K H0 t)) (hb : PE X b (lE X.K H0 u)) (hm : behindInMarks .In b = false) : PE X (.Compare a [.In] [b] pos) (lE X.K H0 (dDIn t u)) := peL (pe_cmp (pc_din (by omega) ha hb) hm) fun σ H Q h => by
  obtain ⟨sd, m, P, aa, p, q⟩ := h
  refine ⟨sd, m, _, aa, p, fun y m1 w1 H1 k1 r1 d1 p1 => ⟨sd, m1, _, aa.to k1 r1, p1, fun x m2 w2 H2 k2 r2 d2 p2 => ?_⟩⟩
  obtain ⟨ad, kvs, k, rfl, rfl, hmm, p3⟩ := p2
  obtain rfl := d2.ref_
  obtain rfl := d1.key_
  obtain ⟨gs, e, rk⟩ := r2.dict hmm
  exact ⟨ad, _, rfl, DGet.k e, by rw [isSome_eq rk k]; exact q _ m2 _ H2 (k1.trans k2) r2 (.bl _) p3⟩
theorem qt_dnotin (hu : X.A.units + 64 < cLine) (ha : PE X a (lE X.K H0 t)) (hb : PE X b (lE X.K H0 u)) (hm : behindInMarks .NotIn b = false) : PE X (.Compare a [.NotIn] [b] pos) (lE X.K H0 (dDNotIn t u)) := peL (pe_cmp (pc_dnotin (by omega) ha hb) hm) fun σ H Q h => by
  obtain ⟨sd, m, P, aa, p, q⟩ := h
  refine ⟨sd, m, _, aa, p, fun y m1 w1 H1 k1 r1 d1 p1 => ⟨sd, m1, _, aa.to k1 r1, p1, fun x m2 w2 H2 k2 r2 d2 p2 => ?_⟩⟩
  obtain ⟨ad, kvs, k, rfl, rfl, hmm, p3⟩ := p2
  obtain rfl := d2.ref_
  obtain rfl := d1.key_
  obtain ⟨gs, e, rk⟩ := r2.dict hmm
  exact ⟨ad, _, rfl, DGet.k e, by rw [isSome_eq rk k]; exact q _ m2 _ H2 (k1.trans k2) r2 (.bl _) p3⟩
theorem qe_dnew : PE X (.Dict [] [] pos) (lE X.K H0 dDNew) := peL pe_dnewK fun σ H Q h => by
  obtain ⟨sd, m, P, aa, p, q⟩ := h
  exact fun z hz => q _ _ _ _ (Keep.new hz) (aa.m.newDct hz .nil) (.ref z) (p z (aa.m.free hz))
theorem qs_dput (hu : X.A.units + 64 < cLine) (ha : PE X a (lE X.K H0 t)) (hb : PE X b (lE X.K H0 u)) (hc : PE X c (lE X.K H0 v)) (hs : swapsWith c (some (.Subscript a b pos')) pos.line X.env = pure false) :
    PS X (.Assign [.Subscript a b pos'] c pos) (lS X.K H0 (dDPut t u v)) := psL (ps_dput (by omega) ha hb hc hs) fun D σ H h => by
  obtain ⟨sd, m, DD, aa, p, q⟩ := h
  refine ⟨sd, m, _, aa, p, fun z m1 w1 H1 k1 r1 d1 p1 => ⟨sd, m1, _, aa.to k1 r1, p1, fun x m2 w2 H2 k2 r2 d2 p2 => ⟨sd, m2, _, (aa.to k1 r1).to k2 r2, p2, fun y m3 w3 H3 k3 r3 d3 p3 => ?_⟩⟩⟩
  obtain ⟨ad, kvs, k, rfl, rfl, hm, hl, p4⟩ := p3
  obtain rfl := d2.ref_
  obtain rfl := d3.key_
  obtain ⟨gs, e, rk⟩ := r3.dict hm
  have K3 := (k1.trans k2).trans k3
  have rz := d1.mono (k2.trans k3)
  refine ⟨ad, _, rfl, DPut.k e (by rw [← rk.length]; exact hl), ?_⟩
  have KK : Keep X.K H (upd H3 ad (.dK (putK gs k w1))) := K3.trans (Keep.dk e)
  exact q.1 _ _ _ _ KK (aa.s.mono KK) (r3.setDct e (rk.put k rz)) p4
end
end Q4

set_option Elab.async false
set_option linter.all false
set_option maxRecDepth 100000
namespace Q4
open PySem L2
open PyProof.Rows (envOfC)
/-! ### statements that are never reached -/
def dDead : TDS := fun _ _ _ => False
theorem qs_dead {X : Cx} {H0 : Hp} {st : Stmt} : PS X st (lS X.K H0 dDead) := ⟨fun pins s σ H D I h => by
  obtain ⟨sd, m, DD, a, p, _⟩ := h
  exact p.elim⟩
/-! ### defs whose last parameters are given by name -/
structure FunAtK (K : PySem.W.Frag) (mg : Str → Option Value) (x : Str) (st : Stmt) (ps ks : List Str) : Prop where
  ex : ∃ f fd, Fun K x x st f fd ∧ mg x = some (.ref f) ∧ ∀ us ws : List Value, us.length = ps.length → ws.length = ks.length → bindArgs fd ⟨us, ks.zip ws⟩ = pure ((ps ++ ks).zip (us ++ ws))
structure CalleeK (P : Program) (w : World) (K : PySem.W.Frag) (mg : Str → Option Value) (k : Nat) (x : Str) (ps ks : List Str) (d : DSp) : Prop where
  ex : ∃ f fd, mg x = some (.ref f) ∧ PySem.W.keepIn K (.ref f) = true ∧ (∀ us ws : List Value, us.length = ps.length → ws.length = ks.length → bindArgs fd ⟨us, ks.zip ws⟩ = pure ((ps ++ ks).zip (us ++ ws))) ∧ ∀ base, FnOk P w K mg base CX0 k f fd (ps ++ ks) (lSp K d)
section
variable {P : Program} {w : World} {K : PySem.W.Frag} {mg : Str → Option Value} {x : Str} {st : Stmt} {ps ks N : List Str} {d d' : DSp} {k j : Nat}
theorem CalleeK.mono (C : CalleeK P w K mg j x ps ks d) (h : j ≤ k) : CalleeK P w K mg k x ps ks d := by
  obtain ⟨f, fd, a, b, c, e⟩ := C.ex
  exact ⟨f, fd, a, b, c, fun base => (e base).mono h⟩
theorem FunAtK.callee (F : FunAtK K mg x st ps ks) (S : FnScope N (ps ++ ks) (defScope st)) (len : ∀ ds m P EX, d ds m P EX → ds.length = (ps ++ ks).length)
    (t : TDS) (hread : ∀ ds m P EX, d ds m P EX → t { nx := fun _ m' => Ret P .non m', rt := Ret P } (dstart N ds) m)
    (hbody : ∀ (base : Heap) (f : Addr) (cdv : Value) (A : Around) (outer : List Env) (s : Shared) (H : Hp) (E : XK), Room k (A.deeper (envOfC x (defScope st) s.heap.objs.size f cdv)) → PSs (cxOf CX0 P w K mg base N x (defScope st) f cdv A outer s H E).nox (defBody st) (lS K H t)) :
    CalleeK P w K mg (k + 1) x ps ks d := by
  obtain ⟨f, fd, F1, a, c⟩ := F.ex
  exact ⟨f, fd, a, F1.kp, c, fun base => Fun.okD F1 S len t hread (hbody base f)⟩
theorem FunAtK.of {h : Heap} {f : Addr} {oc kV doc pm cdv ct : Value} {od an : Option Addr} {osl : Array (Option Value)} (X : K.In h) (G : h.Ns mainGlobals mg)
    (a1 : PySem.W.nsIn K mainGlobals x = some (some (.ref f))) (l1 : K.lookup f = some ⟨oc, od, .func (PySem.W.fnOf x x (defArgs st) (defBody st) (defScope st) .none kV doc pm an cdv ct), osl⟩) (c1 : PySem.W.codeIn K cdv x = true) (k1 : PySem.W.keepIn K (.ref f) = true)
    (hb : ∀ (kV doc pm : Value) (an : Option Addr) (cdv ct : Value) (us ws : List Value), us.length = ps.length → ws.length = ks.length → bindArgs (PySem.W.fnOf x x (defArgs st) (defBody st) (defScope st) .none kV doc pm an cdv ct) ⟨us, ks.zip ws⟩ = pure ((ps ++ ks).zip (us ++ ws))) : FunAtK K mg x st ps ks :=
  ⟨f, _, fun_mk l1 c1 k1, PySem.W.mg_of X G a1, hb kV doc pm an cdv ct⟩
end
section
variable {X : Cx} {H0 : Hp}
theorem pkL {kws : List Keyword} {t t' : TA} (h : PK X kws t) (l : ∀ σ H Q, t' σ H Q → t σ H Q) : PK X kws t' := ⟨fun pos pins s σ H Q I q => h.run pos pins s σ H Q I (l σ H Q q)⟩
theorem qk_nil : PK X [] (lA X.K H0 dNil) := pkL pk_nil fun σ H Q h => by
  obtain ⟨sd, m, P, a, p, q⟩ := h
  exact q [] m [] H (Keep.refl _) a.m .nil p
theorem qk_cons {nm : Option Str} {e : Expr} {kpos : Pos} {kws : List Keyword} {te : TDE} {t : TDA} (ha : PE X e (lE X.K H0 te)) (hr : PK X kws (lA X.K H0 t)) : PK X (⟨nm, e, kpos⟩ :: kws) (lA X.K H0 (dCons te t)) :=
  pkL (pk_cons ha hr) fun _ _ _ => l_cons
def dCallK (d : DSp) (a b : Nat) (t tk : TDA) : TDE := fun sd m P => t sd m fun xs m1 => tk sd m1 fun ys m2 => xs.length = a ∧ ys.length = b ∧ d (xs ++ ys) m2 P noX
def both {α : Type} (a b : Nat) (us ws : List α) : List α := if us.length = a ∧ ws.length = b then us ++ ws else []
theorem qe_fnK {k : Nat} {ps ks : List Str} {d : DSp} {x : Str} {p pos : Pos} {e : Expr} {es : List Expr} {kws : List Keyword} {t tk : TDA} (C : CalleeK X.prog X.w X.K X.mg k x ps ks d) (hr : Room k X.A) (hg : Gl X x)
    (ha : PA X (e :: es) (lA X.K H0 t)) (hkw : PK X kws (lA X.K H0 tk)) (hne : 0 < (ps ++ ks).length) {na nb : Nat} (hna : ps.length = na) (hnb : ks.length = nb) (hall : (backToKw pos (keywordEach kws X.env)).all (·.1.isSome) = true := by rfl) (hks : (backToKw pos (keywordEach kws X.env)).filterMap (·.1) = ks := by rfl)
    (hdb : (x == ("__debug__" : Str)) = false := by decide) (he : starEach (e :: es) X.env = (false, eval e X.env) :: starEach es X.env := by rfl)
    (hpl : ((backTo pos (starEach (e :: es) X.env)).any (·.1) || (backToKw pos (keywordEach kws X.env)).any (·.1.isNone)) = false := by rfl) :
    PE X (.Call (.Name x p) (e :: es) kws pos) (lE X.K H0 (dCallK d na nb t tk)) := by
  subst hna hnb
  obtain ⟨f, fd, a, b, c, F⟩ := C.ex
  have kb : KBinds X.K fd (ps ++ ks) ks (both ps.length ks.length) (both ps.length ks.length) := by
    refine ⟨fun s us ws _ hl => ?_, fun {vs us zs ws} r rz => ?_⟩
    · unfold both at hl ⊢
      split at hl
      · rename_i z
        rw [if_pos z]
        exact .of_eq (c us ws z.1 z.2)
      · rw [List.length_nil] at hl
        omega
    · unfold both
      rw [← r.length, ← rz.length]
      split
      · exact r.append rz
      · exact .nil
  refine peL (pe_callK (E := E0) (F X.base) hr hg a b kb pass0 ha hkw hall hks hdb he hpl) fun σ H Q h => ?_
  obtain ⟨sd, m, P, aa, p, q⟩ := h
  refine ⟨sd, m, _, aa, p, fun xs m1 us H1 k1 r1 d1 p1 => ⟨sd, m1, _, aa.to k1 r1, p1, fun ys m2 ws H2 k2 r2 d2 p2 => ?_⟩⟩
  obtain ⟨l1, l2, p3⟩ := p2
  unfold both
  rw [if_pos ⟨by rw [← d1.length]; exact l1, by rw [← d2.length]; exact l2⟩]
  exact ⟨xs ++ ys, m2, P, noX, (d1.mono k2).append d2, r2, p3, fun d m' w H' k => q d m' w H' ((k1.trans k2).trans k), wantsX0⟩
end
end Q4

set_option Elab.async false
set_option linter.all false
set_option maxRecDepth 100000
namespace Q4
open PySem L2
/-! ### in, not in for dicts; is None -/
def rInK : R2D := fun y x m P => ∃ a kvs k, x = .ref a ∧ y = kD k ∧ m a = some (.dct kvs) ∧ P (.bl (valD kvs k).isSome) m
def rNotInK : R2D := fun y x m P => ∃ a kvs k, x = .ref a ∧ y = kD k ∧ m a = some (.dct kvs) ∧ P (.bl (!(valD kvs k).isSome)) m
section
variable {X : Cx} {H0 : Hp}
theorem od_inK (hu : X.A.units + 64 < cLine) : OpD X (compareOp .In) rInK := by
  refine ⟨fun y x H Q => ∃ a o, x = .ref a ∧ DGet H a y o ∧ Q (.bl o.isSome) H, ?_, fun H m x y u v P Q rm rx ry p q => ?_⟩
  · intro pins s σ H y x v u Q I r1 r2 h
    obtain ⟨a, o, rfl, g, q⟩ := h
    obtain rfl : u = Value.ref a := r2
    exact d_in (by omega) I g r1 fun s' I' => ⟨.bl o.isSome, H, I', rfl, q⟩
  · obtain ⟨a, kvs, k, rfl, rfl, hm, p⟩ := p
    obtain rfl := ry.ref_
    obtain rfl := rx.key_
    obtain ⟨gs, e, rk⟩ := rm.dict hm
    exact ⟨a, _, rfl, DGet.k e, by rw [isSome_eq rk k]; exact q _ m _ H (Keep.refl _) rm (.bl _) p⟩
theorem od_notInK (hu : X.A.units + 64 < cLine) : OpD X (compareOp .NotIn) rNotInK := by
  refine ⟨fun y x H Q => ∃ a o, x = .ref a ∧ DGet H a y o ∧ Q (.bl (!o.isSome)) H, ?_, fun H m x y u v P Q rm rx ry p q => ?_⟩
  · intro pins s σ H y x v u Q I r1 r2 h
    obtain ⟨a, o, rfl, g, q⟩ := h
    obtain rfl : u = Value.ref a := r2
    exact d_notIn (by omega) I g r1 fun s' I' => ⟨.bl (!o.isSome), H, I', rfl, q⟩
  · obtain ⟨a, kvs, k, rfl, rfl, hm, p⟩ := p
    obtain rfl := ry.ref_
    obtain rfl := rx.key_
    obtain ⟨gs, e, rk⟩ := rm.dict hm
    exact ⟨a, _, rfl, DGet.k e, by rw [isSome_eq rk k]; exact q _ m _ H (Keep.refl _) rm (.bl _) p⟩
def nonB : D → Bool
  | .non => true
  | _ => false
theorem RD.nonB {K : PySem.W.Frag} {H : Hp} {d : D} {v : V} (r : RD K H d v) : decide (v = .non) = Q4.nonB d := by
  cases r <;> simp [Q4.nonB]
def dIsN (t : TDE) : TDE := fun sd m P => t sd m fun x m1 => P (.bl (nonB x)) m1
def dNotN (t : TDE) : TDE := fun sd m P => t sd m fun x m1 => P (.bl (!nonB x)) m1
theorem l_isN {K : PySem.W.Frag} {t : TDE} {σ : St} {H : Hp} {Q : VK} (h : lE K H0 (dIsN t) σ H Q) : tIsN (lE K H0 t) σ H Q := by
  obtain ⟨sd, m, P, a, p, q⟩ := h
  exact ⟨sd, m, _, a, p, fun d m' v H' k r rd p' => by show Q (.bl (decide (v = .non))) H'; rw [rd.nonB]; exact q _ m' _ H' k r (.bl _) p'⟩
theorem l_notN {K : PySem.W.Frag} {t : TDE} {σ : St} {H : Hp} {Q : VK} (h : lE K H0 (dNotN t) σ H Q) : tNotN (lE K H0 t) σ H Q := by
  obtain ⟨sd, m, P, a, p, q⟩ := h
  exact ⟨sd, m, _, a, p, fun d m' v H' k r rd p' => by show Q (.bl (!decide (v = .non))) H'; rw [rd.nonB]; exact q _ m' _ H' k r (.bl _) p'⟩
theorem l_BN {K : PySem.W.Frag} {t : TDE} {u : TE} {σ : St} {H : Hp} {Q : Bool → Hp → Prop} (l : ∀ σ H Q, lE K H0 t σ H Q → u σ H Q) (h : lT K H0 (dB t) σ H Q) : tB u σ H Q := by
  obtain ⟨sd, m, P, a, p, q⟩ := h
  refine l _ _ _ ⟨sd, m, _, a, p, fun d m' v H' k r rd p' => ?_⟩
  cases d with
  | bl b => cases rd.bl_; exact ⟨b, rfl, q b m' H' k r p'⟩
  | _ => exact p'.elim
theorem qe_isN {a : Expr} {j} {pos pos' : Pos} {t : TDE} (ha : PE X a (lE X.K H0 t)) : PE X (.Compare a [.Is] [.Constant .none j pos'] pos) (lE X.K H0 (dIsN t)) := peL (pe_cmp (pc_isN ha)) fun _ _ _ => l_isN
theorem qe_notN {a : Expr} {j} {pos pos' : Pos} {t : TDE} (ha : PE X a (lE X.K H0 t)) : PE X (.Compare a [.IsNot] [.Constant .none j pos'] pos) (lE X.K H0 (dNotN t)) := peL (pe_cmp (pc_notN ha)) fun _ _ _ => l_notN
theorem qt_isN {a : Expr} {j} {pos pos' : Pos} {t : TDE} (ha : PE X a (lE X.K H0 t)) : PT X (.Compare a [.Is] [.Constant .none j pos'] pos) (lT X.K H0 (dB (dIsN t))) := ptL (pt_cmp (pc_isN ha)) fun _ _ _ => l_BN fun _ _ _ => l_isN
theorem qt_notN {a : Expr} {j} {pos pos' : Pos} {t : TDE} (ha : PE X a (lE X.K H0 t)) : PT X (.Compare a [.IsNot] [.Constant .none j pos'] pos) (lT X.K H0 (dB (dNotN t))) := ptL (pt_cmp (pc_notN ha)) fun _ _ _ => l_BN fun _ _ _ => l_notN
end
end Q4

set_option Elab.async false
set_option linter.all false
set_option maxRecDepth 100000
namespace Q4
open PySem L2 LiI
/-! ### a dict display with one pair -/
def dDisp1 (t u : TDE) : TDE := fun sd m P => ∀ p, m p = none → t sd (put m p (.dct [])) fun y m1 => u sd m1 fun z m2 => ∃ k, y = kD k ∧ m2 p = some (.dct []) ∧ P (.ref p) (put m2 p (.dct [(k, z)]))
section
variable {X : Cx} {H0 : Hp}
theorem l_disp1 {K : PySem.W.Frag} {t u : TDE} {σ : St} {H : Hp} {Q : VK} (h : lE K H0 (dDisp1 t u) σ H Q) : tDisp [(lE K H0 t, lE K H0 u)] σ H Q := by
  obtain ⟨sd, m, P, a, p, q⟩ := h
  intro z hz
  have kz : Keep K H (upd H z (.dK [])) := Keep.new hz
  refine ⟨sd, put m z (.dct []), _, ⟨a.s.mono kz, a.m.newDct hz .nil, a.k.trans kz⟩, p z (a.m.free hz), fun y m1 w1 H1 k1 r1 d1 p1 => ?_⟩
  refine ⟨sd, m1, _, ⟨(a.s.mono kz).mono k1, r1, (a.k.trans kz).trans k1⟩, p1, fun x m2 w2 H2 k2 r2 d2 p2 => ?_⟩
  obtain ⟨k, rfl, hm, p3⟩ := p2
  obtain rfl := d1.key_
  obtain ⟨gs, e, rk⟩ := r2.dict hm
  have : gs = [] := List.eq_nil_of_length_eq_zero rk.length.symm
  subst this
  refine ⟨e, [(k, w2)], rfl, by show 1 ≤ 15; decide, ?_⟩
  have e1 : mergeK [] [(k, w2)] = [(k, w2)] := rfl
  rw [e1]
  have KK := (kz.trans k1).trans k2
  exact q _ _ _ _ (KK.trans (Keep.dk e)) (r2.setDct e (.mk_cons rfl d2 .nil)) (.ref z) p3
theorem qe_disp1 {a b : Expr} {pos : Pos} {t u : TDE} (ha : PE X a (lE X.K H0 t)) (hb : PE X b (lE X.K H0 u)) : PE X (.Dict [some a] [b] pos) (lE X.K H0 (dDisp1 t u)) :=
  peL (pe_disp (pps_cons ha hb pps_nil) rfl rfl (by simp) (by show 1 ≤ 15; decide)) fun _ _ _ => l_disp1
/-- list(t.items()) -/
def dItems (t : TDE) : TDE := fun sd m P => t sd m fun x m1 => ∃ a kvs, x = .ref a ∧ m1 a = some (.dct kvs) ∧ ∀ p, m1 p = none → P (.ref p) (put m1 p (.lst (kvs.map fun q => .tup [kD q.1, q.2])))
theorem Keep.grow {K : PySem.W.Frag} {H H' : Hp} (h : ∀ b o, H b = some o → H' b = some o) : Keep K H H' := by
  refine ⟨fun a xs q => ?_, fun a xs q => ?_⟩
  · rcases q with (q | ⟨o', q⟩) | q
    · exact .inl (.inl (h _ _ q))
    · exact .inl (.inr ⟨o', h _ _ q⟩)
    · exact .inr q
  · rcases q with ⟨o', q⟩ | q
    · exact .inl ⟨o', h _ _ q⟩
    · exact .inr q
theorem RM.grow {K : PySem.W.Frag} {H H' : Hp} {m : M} (r : RM K H m) (h : ∀ b o, H b = some o → H' b = some o) : RM K H' m := fun a o e => by
  have q := r a o e
  have k : Keep K H H' := Keep.grow h
  cases o with
  | lst xs => obtain ⟨vs, e1, d⟩ := q; exact ⟨vs, h _ _ e1, d.mono k⟩
  | ins C dx fs => obtain ⟨vs, e1, d⟩ := q; exact ⟨vs, h _ _ e1, d.1.mono k, d.2⟩
  | dct kvs => obtain ⟨vs, e1, d⟩ := q; exact ⟨vs, h _ _ e1, d.1.mono k, d.2⟩
theorem items_rds {K : PySem.W.Frag} {H H' : Hp} (k : Keep K H H') : ∀ {kvs : List (Key × D)} {gs : List (Key × V)} {ts : List Addr}, RK K H kvs gs → Paired (fun (t : Addr) (q : Key × V) => H' t = some (.tup [kV q.1, q.2])) ts gs →
    RDs K H' (kvs.map fun q => .tup [kD q.1, q.2]) (ts.map V.ref)
  | [], [], _, _, .nil => .nil
  | [], _ :: _, _, r, _ => by have := r.length; cases this
  | _ :: _, [], _, r, _ => by have := r.length; cases this
  | p :: kvs, q :: gs, _, r, .cons h t => by
    obtain ⟨e, d, r'⟩ := r.cons
    refine .cons (.tup (.inl (.inl h)) (.cons ?_ (.cons (d.mono k) .nil))) (items_rds k r' t)
    rw [← e]
    cases p.1 with
    | inl i => exact .int i
    | inr z => exact .str z
theorem l_items {K : PySem.W.Frag} {t : TDE} {σ : St} {H : Hp} {Q : VK} (h : lE K H0 (dItems t) σ H Q) : tListItems (lE K H0 t) σ H Q := by
  obtain ⟨sd, m, P, a, p, q⟩ := h
  refine ⟨sd, m, _, a, p, fun x m1 u H1 k1 r1 d1 p1 => ?_⟩
  obtain ⟨ad, kvs, rfl, hm, p2⟩ := p1
  obtain rfl := d1.ref_
  obtain ⟨gs, e, rk⟩ := r1.dict hm
  refine ⟨ad, gs, rfl, e, fun H2 b ts hk hb _ _ hl hp => ?_⟩
  have k2 : Keep K H1 H2 := Keep.grow hk
  refine q _ _ _ _ (k1.trans k2) ?_ (.ref b) (p2 b (r1.free hb))
  intro c o eo
  by_cases n : c = b
  · subst n
    rw [put_same] at eo
    cases eo
    exact ⟨_, hl, items_rds k2 rk hp⟩
  · rw [put_ne n] at eo
    exact r1.grow hk c o eo
theorem qe_items {a : Expr} {p apos cpos pos : Pos} {t : TDE} (hc : X.calm = true) (ha : PE X a (lE X.K H0 t)) (hg : Gl X "list") (hm : X.mg "list" = none) (hv : bootBuiltins "list" = some (.type "list")) (hbase : attributeBase a "items" X.env (eval a X.env) = eval a X.env := by rfl) (hline : (apos.endLine == cpos.line) = true := by rfl)
    (hs : starEach [.Call (.Attribute a "items" apos) [] [] cpos] X.env = (false, eval (.Call (.Attribute a "items" apos) [] [] cpos) X.env) :: starEach [] X.env := by rfl) :
    PE X (.Call (.Name "list" p) [.Call (.Attribute a "items" apos) [] [] cpos] [] pos) (lE X.K H0 (dItems t)) := peL (pe_listItems hc ha hg hm hv hbase hline hs) fun _ _ _ => l_items
/-- list(t) of a dict: its keys -/
def rListK : RnD := fun xs m P => ∃ a kvs, xs = [.ref a] ∧ m a = some (.dct kvs) ∧ ∀ p, m p = none → P (.ref p) (put m p (.lst (kvs.map fun q => kD q.1)))
theorem keys_rds {K : PySem.W.Frag} {H : Hp} : ∀ {kvs : List (Key × D)} {gs : List (Key × V)}, RK K H kvs gs → RDs K H (kvs.map fun q => kD q.1) (gs.map fun q => kV q.1)
  | [], [], _ => .nil
  | [], _ :: _, r => by have := r.length; cases this
  | _ :: _, [], r => by have := r.length; cases this
  | p :: kvs, q :: gs, r => by
    obtain ⟨e, d, r'⟩ := r.cons
    refine .cons ?_ (keys_rds r')
    show RD K H (kD p.1) (kV q.1)
    rw [← e]
    cases p.1 with
    | inl i => exact .int i
    | inr z => exact .str z
theorem cd_listK (hc : X.calm = true) : CallD X (.type "list") rListK := by
  refine ⟨_, call_listD hc, fun H m xs us P Q rm rx p q => ?_⟩
  obtain ⟨a, kvs, rfl, hm, p⟩ := p
  obtain ⟨u, rfl, r⟩ := rx.one_
  obtain rfl := r.ref_
  obtain ⟨gs, e, rk⟩ := rm.dict hm
  exact ⟨a, gs, rfl, .inl e, fun z hz => q _ _ _ _ (Keep.new hz) (rm.newPut hz (keys_rds rk)) (.ref z) (p z (rm.free hz))⟩
end
end Q4

set_option Elab.async false
set_option linter.all false
set_option maxRecDepth 100000
namespace Q4
open PySem L2 PySem.Spec PyProof.Rows
/-! ### == of lists -/
def okL (xs : List D) : Prop := SeqAt.shaped (.list (D.pys xs)) = true
def eqL (xs ys : List D) : Bool := PyData.eqv (.list (D.pys xs)) (.list (D.pys ys))
def rEqL : R2D := fun x y m P => ∃ xs ys, isL m x xs ∧ isL m y ys ∧ okL xs ∧ okL ys ∧ P (.bl (eqL xs ys)) m
section
variable {X : Cx}
theorem od_eqL (hu : X.A.units + 64 < cLine) : OpD X (compareOp .Eq) rEqL := by
  refine ⟨_, op_eqD hu, fun H m x y u v P Q rm rx ry p q => ?_⟩
  obtain ⟨xs, ys, h1, h2, o1, o2, p⟩ := p
  obtain ⟨a, vs, rfl, s1, d1⟩ := rm.list rx h1
  obtain ⟨b, ws, rfl, s2, d2⟩ := rm.list ry h2
  have c1 := SeqAt.canLay_of_shaped o1
  have c2 := SeqAt.canLay_of_shaped o2
  exact ⟨_, _, .lst s1 (dps_of d1 (by simpa [PyData.canLay0] using c1)), .lst s2 (dps_of d2 (by simpa [PyData.canLay0] using c2)), o1, o2, q _ m _ H (Keep.refl _) rm (.bl _) p⟩
end
def rNeL : R2D := fun x y m P => ∃ xs ys, isL m x xs ∧ isL m y ys ∧ okL xs ∧ okL ys ∧ P (.bl (!eqL xs ys)) m
section
variable {X : Cx}
theorem od_neL (hu : X.A.units + 64 < cLine) : OpD X (compareOp .NotEq) rNeL := by
  refine ⟨_, op_neD hu, fun H m x y u v P Q rm rx ry p q => ?_⟩
  obtain ⟨xs, ys, h1, h2, o1, o2, p⟩ := p
  obtain ⟨a, vs, rfl, s1, d1⟩ := rm.list rx h1
  obtain ⟨b, ws, rfl, s2, d2⟩ := rm.list ry h2
  have c1 := SeqAt.canLay_of_shaped o1
  have c2 := SeqAt.canLay_of_shaped o2
  exact ⟨_, _, .lst s1 (dps_of d1 (by simpa [PyData.canLay0] using c1)), .lst s2 (dps_of d2 (by simpa [PyData.canLay0] using c2)), o1, o2, q _ m _ H (Keep.refl _) rm (.bl _) p⟩
end
/-- data that can be laid, at most n deep -/
structure ShD (n : Nat) (d : D) : Prop where
  l : d.py.canLay0 = true
  d : d.py.depth ≤ n
theorem ShD.mono {n k : Nat} {d : D} (h : ShD n d) (e : n ≤ k) : ShD k d := ⟨h.l, Nat.le_trans h.d e⟩
theorem ShD.all {n : Nat} : ∀ {xs : List D}, (∀ x ∈ xs, ShD n x) → PyData.canLayAll0 (D.pys xs) = true ∧ PyData.depthAll (D.pys xs) ≤ n
  | [], _ => ⟨rfl, Nat.zero_le _⟩
  | x :: xs, h => by
    have h1 := h x List.mem_cons_self
    have h2 := ShD.all (xs := xs) fun y hy => h y (List.mem_cons_of_mem _ hy)
    have d1 := h1.d
    refine ⟨?_, ?_⟩
    · show (x.py.canLay0 && PyData.canLayAll0 (D.pys xs)) = true
      rw [h1.l, h2.1]; rfl
    · show PyData.depthAll (x.py :: D.pys xs) ≤ n
      rw [PyData.depthAll]
      omega
theorem ShD.tup {n : Nat} {xs : List D} (h : ∀ x ∈ xs, ShD n x) : ShD (n + 1) (.tup xs) := by
  have h2 := ShD.all h
  refine ⟨?_, ?_⟩
  · show PyData.canLay0 (.tuple (D.pys xs)) = true
    rw [PyData.canLay0]; exact h2.1
  · show PyData.depth (.tuple (D.pys xs)) ≤ n + 1
    rw [PyData.depth]; omega
theorem okL_of {n : Nat} {xs : List D} (h : ∀ x ∈ xs, ShD n x) (e : n + 1 ≤ 64) : okL xs := by
  have h2 := ShD.all h
  unfold okL SeqAt.shaped
  rw [Bool.and_eq_true]
  refine ⟨?_, decide_eq_true ?_⟩
  · show PyData.canLay0 (.list (D.pys xs)) = true
    rw [PyData.canLay0]; exact h2.1
  · show PyData.depth (.list (D.pys xs)) ≤ 64
    rw [PyData.depth]; omega
theorem okD_of {n : Nat} {d : D} (h : ShD n d) (e : n ≤ 64) : okD d := by
  unfold okD SeqAt.shaped
  rw [Bool.and_eq_true]
  exact ⟨h.l, decide_eq_true (Nat.le_trans h.d e)⟩
theorem eqL_refl {xs : List D} (h : okL xs) : eqL xs xs = true := SeqAt.eqv_refl _ (SeqAt.canLay_of_shaped h)
/-! ### x in a tuple of data -/
theorem units65 {k : Nat} {A : Around} (r : Room k A) : A.units + 65 < cLine := by have := r.un; omega
def rInT : R2D := fun x y m P => ∃ ys, y = .tup ys ∧ okD x ∧ okD (.tup ys) ∧ P (.bl (ys.any fun z => eqD z x)) m
theorem any_pys (d : PyData) : ∀ ys : List D, ((D.pys ys).any fun z => PyData.eqv z d) = ys.any fun z => PyData.eqv z.py d
  | [] => rfl
  | y :: ys => by
    show ((y.py :: D.pys ys).any fun z => PyData.eqv z d) = _
    rw [List.any_cons, List.any_cons, any_pys d ys]
section
variable {X : Cx}
theorem od_inT (hu : X.A.units + 65 < cLine) : OpD X (compareOp .In) rInT := by
  refine ⟨fun x y H Q => ∃ d ds, Dp X.K H x d ∧ Dp X.K H y (.tuple ds) ∧ SeqAt.shaped d = true ∧ SeqAt.shaped (.tuple ds) = true ∧ Q (.bl (ds.any fun z => PyData.eqv z d)) H, ?_, fun H m x y u v P Q rm rx ry p q => ?_⟩
  · intro pins s σ H x y v u Q I rx ry h
    obtain ⟨d, ds, hd, he, sd, se, q⟩ := h
    obtain ⟨as, r1⟩ := Dp.reads I d x v hd rx
    obtain ⟨bs, r2⟩ := Dp.reads I (.tuple ds) y u he ry
    exact SeqAt.in_tuple_reads r2 r1 (SeqAt.canLay_of_shaped se) (SeqAt.canLay_of_shaped sd) (room_in_shaped sd hu) ⟨.bl _, H, I, rfl, q⟩
  · obtain ⟨ys, rfl, o1, o2, p⟩ := p
    have c2 := SeqAt.canLay_of_shaped o2
    refine ⟨_, D.pys ys, dp_of rx (SeqAt.canLay_of_shaped o1), dp_of ry c2, o1, o2, ?_⟩
    rw [any_pys]
    exact q _ m _ H (Keep.refl _) rm (.bl _) p
end
end Q4

set_option Elab.async false
set_option linter.all false
set_option maxRecDepth 100000
namespace Q4
open PySem L2
open PyProof.Rows (envOfC)
/-! ### defs that raise: the wish of exceptions, by the slots -/
abbrev DX := DS → DXK
def WW (K : PySem.W.Frag) (H0 : Hp) (ex : DX) (W : WX) : Prop := ∀ sd σ c fo m' od H', Keep K H0 H' → RS K H' sd σ → RM K H' m' → XRel K H' fo od → ex sd c fo m' → W c od σ H'
/-- the wish of a def, whatever its slots are -/
abbrev outX (EX : DXK) : DX := fun _ => EX
theorem WW.out {K : PySem.W.Frag} {H : Hp} {EX : DXK} {E : XK} (h : WantsX K H EX E) : WW K H (outX EX) (fun c d _ H' => E c d H') := fun _ _ c fo m' od H' k _ r x e => h c fo m' od H' k r x e
def dCallX (ex : DX) (d : DSp) (t : TDA) : TDE := fun sd m P => t sd m fun xs m1 => d xs m1 P (ex sd)
theorem l_callX {K : PySem.W.Frag} {H0 : Hp} {ex : DX} {W : WX} {d : DSp} {t : TDA} {σ : St} {H : Hp} {Q : VK} (ww : WW K H0 ex W) (h : lE K H0 (dCallX ex d t) σ H Q) : tCallS (lSp K d) (WE W) (lA K H0 t) σ H Q := by
  obtain ⟨sd, m, P, a, p, q⟩ := h
  refine ⟨sd, m, _, a, p, fun xs m1 us H1 k1 r1 d1 p1 => ?_⟩
  exact ⟨xs, m1, P, ex sd, d1, r1, p1, fun d m' w H' k => q d m' w H' (k1.trans k), fun c fo m' od H' k r x e => ww sd σ c fo m' od H' ((a.k.trans k1).trans k) (a.s.mono (k1.trans k)) r x e⟩
structure CalleeX (P : Program) (w : World) (K : PySem.W.Frag) (mg : Str → Option Value) (k : Nat) (x : Str) (ps : List Str) (d : DSp) : Prop where
  ex : ∃ f fd, mg x = some (.ref f) ∧ PySem.W.keepIn K (.ref f) = true ∧ (∀ us : List Value, us.length = ps.length → bindArgs fd ⟨us, []⟩ = pure (ps.zip us)) ∧ ∀ base, FnOk P w K mg base (L2.CX P w) k f fd ps (lSp K d)
section
variable {P : Program} {w : World} {K : PySem.W.Frag} {mg : Str → Option Value} {x : Str} {st : Stmt} {ps N : List Str} {d d' : DSp} {k j : Nat}
theorem CalleeX.mono (C : CalleeX P w K mg j x ps d) (h : j ≤ k) : CalleeX P w K mg k x ps d := by
  obtain ⟨f, fd, a, b, c, e⟩ := C.ex
  exact ⟨f, fd, a, b, c, fun base => (e base).mono h⟩
theorem Fun.okXD {base : Heap} {qual : Str} {f : Addr} {fd : FuncData} (F : Fun K x qual st f fd) (S : FnScope N ps (defScope st)) (len : ∀ ds m P EX, d ds m P EX → ds.length = ps.length)
    (t : DX → TDS) (hread : ∀ ds m P EX, d ds m P EX → t (outX EX) { nx := fun _ m' => Ret P .non m', rt := Ret P } (dstart N ds) m)
    (hbody : ∀ (cdv : Value) (A : Around) (outer : List Env) (s : Shared) (H : Hp) (E : XK) (ex : DX), Room k (A.deeper (envOfC qual (defScope st) s.heap.objs.size f cdv)) → WW K H ex (fun c d _ H' => E c d H') →
      PSs (cxOf (L2.CX P w) P w K mg base N qual (defScope st) f cdv A outer s H E) (defBody st) (lS K H (t ex))) :
    FnOk P w K mg base (L2.CX P w) (k + 1) f fd ps (lSp K d) := by
  refine L2.Fun.okX F S (fun vs H Q E h => ?_) (fun cdv A outer s H vs Q E hr h => ?_)
  · obtain ⟨ds, m, P, EX, r, _, h, _⟩ := h
    rw [← r.length]
    exact len _ _ _ _ h
  · obtain ⟨ds, m, P', EX, r, rm, h, q, qx⟩ := h
    refine ⟨_, hbody cdv A outer s H E (outX EX) hr (WW.out qx), dstart N ds, m, _, ⟨RS.start r, rm, Keep.refl _⟩, hread ds m P' EX h, ?_, ?_, ?_, ?_⟩
    · rintro sd' m' σ' H' k s r ⟨m2, l, p⟩
      exact q _ m2 _ H' k (r.less l) .non p
    · rintro d m' v H' k r rd ⟨m2, l, p⟩
      exact q _ m2 _ H' k (r.less l) rd p
    · exact fun _ _ _ _ _ _ _ h => h
    · exact fun _ _ _ _ _ _ _ h => h
theorem FunAt.calleeX (F : FunAt K mg x st ps) (S : FnScope N ps (defScope st)) (len : ∀ ds m P EX, d ds m P EX → ds.length = ps.length)
    (t : DX → TDS) (hread : ∀ ds m P EX, d ds m P EX → t (outX EX) { nx := fun _ m' => Ret P .non m', rt := Ret P } (dstart N ds) m)
    (hbody : ∀ (base : Heap) (f : Addr) (cdv : Value) (A : Around) (outer : List Env) (s : Shared) (H : Hp) (E : XK) (ex : DX), Room k (A.deeper (envOfC x (defScope st) s.heap.objs.size f cdv)) → WW K H ex (fun c d _ H' => E c d H') →
      PSs (cxOf (L2.CX P w) P w K mg base N x (defScope st) f cdv A outer s H E) (defBody st) (lS K H (t ex))) : CalleeX P w K mg (k + 1) x ps d := by
  obtain ⟨f, fd, F1, a, c⟩ := F.ex
  exact ⟨f, fd, a, F1.kp, c, fun base => Fun.okXD F1 S len t hread (hbody base f)⟩
end
section
variable {X : Cx} {H0 : Hp} {ex : DX} {W : WX}
theorem qe_fnX {k : Nat} {ps : List Str} {d : DSp} {x : Str} {p pos : Pos} {e : Expr} {es : List Expr} {t : TDA} (C : CalleeX X.prog X.w X.K X.mg k x ps d) (hr : Room k X.A) (tk : Takes X W) (ww : WW X.K H0 ex W) (hg : Gl X x)
    (ha : PA X (e :: es) (lA X.K H0 t)) (hdb : (x == ("__debug__" : Str)) = false := by decide) (he : starEach (e :: es) X.env = (false, eval e X.env) :: starEach es X.env := by rfl) (hpl : (backTo pos (starEach es X.env)).any (·.1) = false := by rfl) :
    PE X (.Call (.Name x p) (e :: es) [] pos) (lE X.K H0 (dCallX ex d t)) := by
  obtain ⟨f, fd, a, b, c, F⟩ := C.ex
  exact peL (pe_callS (F X.base) hr hg a b (.all c) (fun σ => passAt tk σ) ha hdb he hpl) fun _ _ _ => l_callX ww
/-! ### f-texts -/
def dFmt (t : TDE) : TDE := fun sd m P => t sd m fun x m1 => (∃ y : Str, x = .str y ∧ y.length ≤ sizeLine ∧ P (.str y) m1) ∨ ∃ i : Int, x = .int i ∧ i.natAbs.log2 < 1920 ∧ P (.str (toString i)) m1
def dFmtR (t : TDE) : TDE := fun sd m P => t sd m fun x m1 => (∃ y : Str, x = .str y ∧ (reprText y).length ≤ sizeLine ∧ P (.str (reprText y)) m1) ∨ ∃ i : Int, x = .int i ∧ i.natAbs.log2 < 1920 ∧ P (.str (toString i)) m1
theorem qe_fmt {e : Expr} {t : TDE} {pos : Pos} (he : PE X e (lE X.K H0 t)) : PE X (.FormattedValue e (-1) none pos) (lE X.K H0 (dFmt t)) := peL (pe_fmt he) fun σ H Q h => by
  obtain ⟨sd, m, P, a, p, q⟩ := h
  refine ⟨sd, m, _, a, p, fun d m1 v H1 k r rd p1 => ?_⟩
  rcases p1 with ⟨y, rfl, h1, p1⟩ | ⟨i, rfl, h1, p1⟩
  · obtain rfl := rd.str_
    exact .inl ⟨y, rfl, h1, q _ m1 _ H1 k r (.str _) p1⟩
  · obtain rfl := rd.int_
    exact .inr ⟨i, rfl, h1, q _ m1 _ H1 k r (.str _) p1⟩
theorem qe_fmtR {e : Expr} {t : TDE} {pos : Pos} (he : PE X e (lE X.K H0 t)) : PE X (.FormattedValue e 114 none pos) (lE X.K H0 (dFmtR t)) := peL (pe_fmtR he) fun σ H Q h => by
  obtain ⟨sd, m, P, a, p, q⟩ := h
  refine ⟨sd, m, _, a, p, fun d m1 v H1 k r rd p1 => ?_⟩
  rcases p1 with ⟨y, rfl, h1, p1⟩ | ⟨i, rfl, h1, p1⟩
  · obtain rfl := rd.str_
    exact .inl ⟨y, rfl, h1, q _ m1 _ H1 k r (.str _) p1⟩
  · obtain rfl := rd.int_
    exact .inr ⟨i, rfl, h1, q _ m1 _ H1 k r (.str _) p1⟩
def dJs : List TDE → Str → DS → M → (Str → M → Prop) → Prop
  | [], acc, _, m, Q => Q acc m
  | t :: ts, acc, sd, m, Q => t sd m fun x m1 => ∃ y : Str, x = .str y ∧ (acc ++ y).length ≤ sizeLine ∧ dJs ts (acc ++ y) sd m1 Q
def dJoin (ts : List TDE) : TDE := fun sd m P => dJs ts Str.empty sd m fun out m1 => P (.str out) m1
theorem l_js {K : PySem.W.Frag} {H0 : Hp} {sd : DS} {σ : St} : ∀ {ts : List TDE} {acc : Str} {m : M} {H : Hp} {P : Str → M → Prop} {Q : Str → Hp → Prop}, At K H0 sd m σ H → dJs ts acc sd m P → (∀ z m' H', Keep K H H' → RM K H' m' → P z m' → Q z H') → tJs (ts.map (lE K H0)) acc σ H Q
  | [], acc, m, H, P, Q, a, p, q => q acc m H (Keep.refl _) a.m p
  | t :: ts, acc, m, H, P, Q, a, p, q => ⟨sd, m, _, a, p, fun d m1 v H1 k r rd ⟨y, e, hl, p2⟩ => by
    subst e
    obtain rfl := rd.str_
    exact ⟨y, rfl, hl, l_js (a.to k r) p2 fun z m' H' k' r' => q z m' H' (k.trans k') r'⟩⟩
inductive QJ (X : Cx) (H0 : Hp) : List Expr → List TDE → Prop where
  | nil : QJ X H0 [] []
  | cons {e : Expr} {t : TDE} {es : List Expr} {ts : List TDE} (h : PE X e (lE X.K H0 t)) (r : QJ X H0 es ts) : QJ X H0 (e :: es) (t :: ts)
theorem QJ.pj : ∀ {es : List Expr} {ts : List TDE}, QJ X H0 es ts → PJ X es (ts.map (lE X.K H0))
  | _, _, .nil => .nil
  | _, _, .cons h r => .cons h r.pj
theorem qe_joined {v1 v2 : Expr} {rest : List Expr} {ts : List TDE} {pos : Pos} (h : QJ X H0 (v1 :: v2 :: rest) ts) : PE X (.JoinedStr (v1 :: v2 :: rest) pos) (lE X.K H0 (dJoin ts)) := peL (pe_joined h.pj) fun σ H Q h => by
  obtain ⟨sd, m, P, a, p, q⟩ := h
  exact l_js a p fun z m' H' k r p => q (.str z) m' _ H' k r (.str _) p
/-! ### raise -/
structure ExcAt (K : PySem.W.Frag) (mg : Str → Option Value) (x : Str) (C : Addr) : Prop where
  g : mg x = some (.ref C)
  k : PySem.W.keepIn K (.ref C) = true
  q : PySem.W.excIn K C [.type "ValueError", .type "Exception", .type "BaseException", .type "object"] "ValueError.__new__" = true
  s : PySem.W.subIn K (.ref C) (.type "BaseException") = some true
  t : PySem.W.typeIn K (.ref C) = some (.type "type")
def dRaise (ex : DX) (C : Addr) (t : TDA) : TDS := fun _ sd m => t sd m fun xs m1 => xs.length ≤ sizeLine ∧ ex sd (.ref C) none m1
theorem qs_raise {x : Str} {C : Addr} {e : Expr} {es : List Expr} {t : TDA} {p pos pos' : Pos} (hc : X.calm = true) (F : ExcAt X.K X.mg x C) (tk : Takes X W) (ww : WW X.K H0 ex W) (hg : Gl X x) (ha : PA X (e :: es) (lA X.K H0 t)) (hdb : (x == ("__debug__" : Str)) = false := by decide)
    (he : starEach (e :: es) X.env = (false, eval e X.env) :: starEach es X.env := by rfl) (hpl : (backTo pos (starEach es X.env)).any (·.1) = false := by rfl) :
    PS X (.Raise (some (.Call (.Name x p) (e :: es) [] pos)) none pos') (lS X.K H0 (dRaise ex C t)) :=
  psL (ps_raise hc tk (pmk_ownA PySem.F.excBase_ValueError F.q F.g F.k (raises_own F.s F.t) hg ha hdb he hpl)) fun D σ H h => by
    obtain ⟨sd, m, DD, a, p, _⟩ := h
    refine ⟨sd, m, _, a, p, fun xs m1 us H1 k r rd p1 => ?_⟩
    obtain ⟨hl, p2⟩ := p1
    exact ⟨by rw [← rd.length]; exact hl, ww sd σ _ none m1 none H1 (a.k.trans k) (a.s.mono k) r trivial p2⟩
end
end Q4

set_option Elab.async false
set_option linter.all false
set_option maxRecDepth 100000
namespace Q4
open PySem L2 PySem.Spec PyProof.Rows
/-! ### isinstance of a caught error -/
inductive ClsD : D → V → Value → Prop where
  | ty (n : String) : ClsD (.ty n) (.ty n) (.type n)
  | own (C : Addr) : ClsD (.ref C) (.ref C) (.ref C)
theorem ClsD.rd {K : PySem.W.Frag} {H : Hp} {c : D} {v v' : V} {u : Value} (h : ClsD c v u) (r : RD K H c v') : v' = v := by
  cases h with
  | ty n => exact r.ty_
  | own C => exact r.ref_
theorem ClsD.cv {c : D} {v : V} {u : Value} (h : ClsD c v u) : ClsV v u := by
  cases h with
  | ty n => exact .ty n
  | own C => exact .own C
/-- what isinstance answers for an error of the class E -/
structure Isa (K : PySem.W.Frag) (E : Addr) (isa : D → Option Bool) : Prop where
  one : ∀ c b, isa c = some b → ∃ v u, ClsD c v u ∧ PySem.W.kitOne K (.ref E) u = some b
def isaAny (isa : D → Option Bool) : List D → Option Bool
  | [] => some false
  | c :: cs => match isa c, isaAny isa cs with
    | some b, some r => some (b || r)
    | _, _ => none
theorem Isa.any {K : PySem.W.Frag} {H : Hp} {E : Addr} {isa : D → Option Bool} (Z : Isa K E isa) : ∀ {cs : List D} {r : Bool}, isaAny isa cs = some r → ∀ {vs : List V}, RDs K H cs vs → ∃ us, Paired ClsV vs us ∧ PySem.W.kitAny K (.ref E) us = some r
  | [], r, e, _, .nil => by
    cases e
    exact ⟨[], .nil, kitAny_nil⟩
  | c :: cs, r, e, _, .cons h t => by
    unfold isaAny at e
    split at e
    · rename_i b r' e1 e2
      obtain ⟨v, u, k, e3⟩ := Z.one c b e1
      obtain ⟨us, p, e4⟩ := Z.any e2 t
      obtain rfl := k.rd h
      refine ⟨u :: us, .cons k.cv p, ?_⟩
      cases e
      refine kitAny_cons e3 (fun hb => ?_) (fun hb => ?_)
      · subst hb; simpa using e4
      · subst hb; rfl
    · cases e
def rIsX (a : Addr) (isa : D → Option Bool) : RnD := fun xs m P => (∃ c b, xs = [.ref a, c] ∧ isa c = some b ∧ P (.bl b) m) ∨ ∃ cs b, xs = [.ref a, .tup cs] ∧ isaAny isa cs = some b ∧ P (.bl b) m
theorem cd_isX {X : Cx} {a E : Addr} {oe : Obj} {pn : List (Addr × Obj)} {isa : D → Option Bool} (C : ExcC X.K E) (hz : Zc (.ref E) none oe) (hf : ∃ vs, oe.data = .fields vs) (Z : Isa X.K E isa) : CallD (X.suite a ((a, oe) :: pn)) (.builtin "isinstance") (rIsX a isa) := by
  refine ⟨fun xs H Q => (∃ (c : V) (cv : Value) (b : Bool), xs = [.ref a, c] ∧ (∀ u, RelV c u → u = cv) ∧ PySem.W.kitOne X.K (.ref E) cv = some b ∧ Q (.bl b) H) ∨
    ∃ (tp : Addr) (cs : List V) (us : List Value) (b : Bool), xs = [.ref a, .ref tp] ∧ SqT X.K H tp cs ∧ Paired ClsV cs us ∧ PySem.W.kitAny X.K (.ref E) us = some b ∧ Q (.bl b) H, ?_, fun H m xs us P Q rm rx p q => ?_⟩
  · intro pins s σ H xs us Q I r h
    rcases h with h | ⟨tp, cs, ws, b, rfl, hT, k, e, q⟩
    · exact call_isE C hz hf pins s σ H xs us Q I r h
    · cases r with
      | cons rx rr =>
        cases rr with
        | cons rt rr =>
          cases rr
          cases rx
          cases rt
          obtain ⟨hget, _⟩ := I.pin (a, oe) (List.mem_append.mpr (.inl List.mem_cons_self))
          obtain ⟨vs, hv⟩ := hf
          have J : PySem.W.InstAt s.heap a oe E none := by
            obtain ⟨oc, od, oda, osl⟩ := oe
            obtain ⟨h1, h2⟩ := hz
            dsimp only at h1 h2 hv
            subst h1 h2 hv
            exact ⟨hget, rfl, rfl, trivial⟩
          obtain ⟨its, rv, ⟨o, ho, hc, n, hd⟩, _⟩ := I.tuple hT
          have e3 := ClsV.all k rv
          subst e3
          obtain ⟨oc, od, dt, sl⟩ := o
          simp only at hc hd
          subst hc hd
          exact PySem.W.kia_tup (PySem.W.handS_kitx_exc C.hg C.hk C.hs C.hd C.ha C.hn C.ht C.hm) I.kIn J ho e (fun z => nomatch z) fun tk => ⟨.bl b, H, I.kept (t' := tk) fun _ _ z => z, rfl, q⟩
  · rcases p with ⟨c, b, rfl, e, p⟩ | ⟨cs, b, rfl, e, p⟩
    · obtain ⟨u, v, rfl, r1, r2⟩ := rx.two_
      cases r1.ref_
      obtain ⟨v', cv, k, e2⟩ := Z.one c b e
      obtain rfl := k.rd r2
      exact .inl ⟨_, cv, b, rfl, fun u hu => k.cv.eq hu, e2, q _ m _ H (Keep.refl _) rm (.bl _) p⟩
    · obtain ⟨u, v, rfl, r1, r2⟩ := rx.two_
      cases r1.ref_
      obtain ⟨tp, vs, rfl, h1, h2⟩ := r2.tup_
      obtain ⟨us, k, e2⟩ := Z.any e h2
      exact .inr ⟨tp, vs, us, b, rfl, h1, k, e2, q _ m _ H (Keep.refl _) rm (.bl _) p⟩
end Q4

set_option Elab.async false
set_option linter.all false
set_option maxRecDepth 100000
namespace Q4
open PySem L2 PySem.Spec PyProof.Rows
theorem RS.setNone {K : PySem.W.Frag} {H : Hp} {sd : DS} {σ : L2.St} (r : RS K H sd σ) (i : Nat) : RS K H (sd.set i none) (σ.set i none) :=
  ⟨by rw [List.length_set, List.length_set, r.len], fun j d e => by
    rw [List.getElem?_set] at e
    by_cases hj : i = j
    · rw [if_pos hj] at e
      split at e <;> cases e
    · rw [if_neg hj] at e
      obtain ⟨v, e1, q⟩ := r.get j d e
      exact ⟨v, by rw [List.getElem?_set, if_neg hj]; exact e1, q⟩⟩
/-! ### try: body, except x as n: suite -/
/-- the ends of a suite: the name is gone behind it -/
def DEnds.off (DD : DEnds) (i : Nat) : DEnds := { nx := fun sd m => DD.nx (sd.set i none) m, rt := DD.rt, bk := fun sd m => DD.bk (sd.set i none) m, ct := fun sd m => DD.ct (sd.set i none) m }
def dTryAs (hit : Value → Option Bool) (i : Nat) (b : DX → TDS) (suite : Addr → TDS) (ex : DX) : TDS := fun DD sd m =>
  b (fun sd' cls fo m' => ∃ bb, hit cls = some bb ∧ (bb = true → fo = none ∧ ∀ a, m' a = none → suite a (DD.off i) (sd'.set i (some (.ref a))) m') ∧ (bb = false → ex sd' cls fo m')) DD sd m
section
variable {X : Cx} {H0 : Hp} {ex : DX} {Wout : WX} {x n : Str} {c : Value} {E : Addr} {hit : Value → Option Bool} {i : Nat} {body rest : List Stmt} {b₀ : Stmt} {np pos pos' : Pos} {b : DX → TDS} {suite : Addr → TDS}
theorem qs_tryAs (hs : X.stack = X.env :: X.outer) (hf : X.env.frame = some X.env.locals) (hN : X.N.Nodup) (hi : X.N[i]? = some n) (hln : X.env.kindOf n = some .local) (hc : Names X x c) (tk : Takes X Wout) (ww : WW X.K H0 ex Wout)
    (hh : ∀ cls bb, hit cls = some bb → PySem.W.exmOne X.K cls c = some bb ∧ (bb = true → cls = .ref E))
    (hb : ∀ (H1 : Hp) (exx : DX) (W : WX) (pn : List (Addr × Obj)) (xe : Value → Shared → Prop), Takes (X.tr pn xe) W → PassesOwn (model X.prog X.w) X.A X.env xe → WW X.K H1 exx W → PSs (X.tr pn xe) body (lS X.K H1 (b exx)))
    (hsu : ∀ (a : Addr) (oe : Obj) (pn : List (Addr × Obj)), Zc (.ref E) none oe → (∃ vs, oe.data = .fields vs) → PSs (X.suite a ((a, oe) :: pn)) (b₀ :: rest) (lS X.K H0 (suite a))) :
    PS X (.Try body [.ExceptHandler (some (.Name x np)) (some n) (b₀ :: rest) pos'] [] [] pos) (lS X.K H0 (dTryAs hit i b suite ex)) :=
  psL (ps_try_as (tb := fun W D σ H => ∃ exx, WW X.K H exx W ∧ lS X.K H (b exx) D σ H) (ts := fun a cls d D σ H => cls = .ref E ∧ d = none ∧ lS X.K H0 (suite a) D σ H) hs hf hN hi hln hc tk
    (fun W pn xe tkk po => ⟨fun pins s σ H D I h => by
      obtain ⟨exx, w1, h⟩ := h
      exact (hb H exx W pn xe tkk po w1).run pins s σ H D I h⟩)
    (fun a oe cls d pn hz hd => ⟨fun pins s σ H D I h => by
      obtain ⟨e1, e2, h⟩ := h
      subst e1 e2
      exact (hsu a oe pn hz hd).run pins s σ H D I h⟩)) fun D σ H h => by
    obtain ⟨sd, m, DD, a0, p, q1, q2, q3, q4⟩ := h
    refine ⟨_, fun sd' σ' cls fo m' od H' k rs rm xr he => ?_, sd, m, DD, ⟨a0.s, a0.m, Keep.refl _⟩, p, q1, q2, q3, q4⟩
    obtain ⟨bb, e, h1, h2⟩ := he
    refine ⟨bb, (hh cls bb e).1, fun hb a ha => ?_, fun hb => ww sd' σ' cls fo m' od H' (a0.k.trans k) rs rm xr (h2 hb)⟩
    obtain ⟨hfo, h3⟩ := h1 hb
    subst hfo
    have hod : od = none := by
      cases od with
      | none => rfl
      | some d => exact xr.elim
    refine ⟨(hh cls bb e).2 hb, hod, _, m', DD.off i, ⟨rs.set i (.ref a), rm, a0.k.trans k⟩, h3 a (rm.free ha), ?_, ?_, ?_, ?_⟩
    · exact fun sd2 m2 σ2 H2 k2 r2 rm2 p2 => q1 _ m2 _ H2 (k.trans k2) (r2.setNone i) rm2 p2
    · exact fun d m2 v H2 k2 rm2 rd p2 => q2 d m2 v H2 (k.trans k2) rm2 rd p2
    · exact fun sd2 m2 σ2 H2 k2 r2 rm2 p2 => q3 _ m2 _ H2 (k.trans k2) (r2.setNone i) rm2 p2
    · exact fun sd2 m2 σ2 H2 k2 r2 rm2 p2 => q4 _ m2 _ H2 (k.trans k2) (r2.setNone i) rm2 p2
end
/-! ### calls by name that may raise -/
def dCallKX (ex : DX) (d : DSp) (a b : Nat) (t tk : TDA) : TDE := fun sd m P => t sd m fun xs m1 => tk sd m1 fun ys m2 => xs.length = a ∧ ys.length = b ∧ d (xs ++ ys) m2 P (ex sd)
structure CalleeKX (P : Program) (w : World) (K : PySem.W.Frag) (mg : Str → Option Value) (k : Nat) (x : Str) (ps ks : List Str) (d : DSp) : Prop where
  ex : ∃ f fd, mg x = some (.ref f) ∧ PySem.W.keepIn K (.ref f) = true ∧ (∀ us ws : List Value, us.length = ps.length → ws.length = ks.length → bindArgs fd ⟨us, ks.zip ws⟩ = pure ((ps ++ ks).zip (us ++ ws))) ∧ ∀ base, FnOk P w K mg base (L2.CX P w) k f fd (ps ++ ks) (lSp K d)
section
variable {P : Program} {w : World} {K : PySem.W.Frag} {mg : Str → Option Value} {x : Str} {st : Stmt} {ps ks N : List Str} {d d' : DSp} {k j : Nat}
theorem CalleeKX.mono (C : CalleeKX P w K mg j x ps ks d) (h : j ≤ k) : CalleeKX P w K mg k x ps ks d := by
  obtain ⟨f, fd, a, b, c, e⟩ := C.ex
  exact ⟨f, fd, a, b, c, fun base => (e base).mono h⟩
theorem FunAtK.calleeX (F : FunAtK K mg x st ps ks) (S : FnScope N (ps ++ ks) (defScope st)) (len : ∀ ds m P EX, d ds m P EX → ds.length = (ps ++ ks).length)
    (t : DX → TDS) (hread : ∀ ds m P EX, d ds m P EX → t (outX EX) { nx := fun _ m' => Ret P .non m', rt := Ret P } (dstart N ds) m)
    (hbody : ∀ (base : Heap) (f : Addr) (cdv : Value) (A : Around) (outer : List Env) (s : Shared) (H : Hp) (E : XK) (ex : DX), Room k (A.deeper (envOfC x (defScope st) s.heap.objs.size f cdv)) → WW K H ex (fun c d _ H' => E c d H') →
      PSs (cxOf (L2.CX P w) P w K mg base N x (defScope st) f cdv A outer s H E) (defBody st) (lS K H (t ex))) : CalleeKX P w K mg (k + 1) x ps ks d := by
  obtain ⟨f, fd, F1, a, c⟩ := F.ex
  exact ⟨f, fd, a, F1.kp, c, fun base => Fun.okXD F1 S len t hread (hbody base f)⟩
end
section
variable {X : Cx} {H0 : Hp} {ex : DX} {W : WX} {CX : CXT} {k : Nat} {f : Addr} {fd : FuncData} {ps ks : List Str} {sp : Sp} {E : L2.St → XK} {x : Str} {p pos : Pos} {e : Expr} {es : List Expr} {kws : List Keyword} {t tk : TA} {g : List Value → List Value → List Value} {gV : List V → List V → List V}
theorem run_fnkS {pins : List (Addr × Obj)} {σ : L2.St} {H : Hp} {s : Shared} {Q : VK} {us ws : List Value} {vs zs : List V} (F : FnOk X.prog X.w X.K X.mg X.base CX k f fd ps sp) (hr : Room k X.A) (hb : KBinds X.K fd ps ks g gV) (hx : PassesAt CX X σ (E σ))
    (I : Inv X pins σ H s) (r : Vals vs us) (rz : Vals zs ws) (h : sp (gV vs zs) H Q (E σ)) : wpAny (model X.prog X.w) X.A (call (.ref f) us (ks.zip ws)) (EP X pins σ Q) X.xe s := by
  have r2 := hb.rel r rz
  have hl : (g us ws).length = ps.length := by rw [← r2.length]; exact F.len _ _ _ _ h
  refine wpAny_call (codeAny_mono (F.run X.A X.stack s H ⟨us, ks.zip ws⟩ (g us ws) (gV vs zs) Q (E σ) hr I.env0 (hb.to s us ws I.kIn hl) r2 h) fun r s' hq => ?_)
  cases r with
  | error e => exact hx pins H s e s' I hq
  | ok fl =>
    cases fl with
    | ret u => exact I.after hq
    | next => exact False.elim hq
    | brk => exact False.elim hq
    | cont => exact False.elim hq
def tCallKS (sp : Sp) (gV : List V → List V → List V) (E : L2.St → XK) (t tk : TA) : TE := fun σ H Q => t σ H fun vs H1 => tk σ H1 fun zs H2 => sp (gV vs zs) H2 Q (E σ)
theorem pe_callKS (F : FnOk X.prog X.w X.K X.mg X.base CX k f fd ps sp) (hr : Room k X.A) (hg : Gl X x) (hm : X.mg x = some (.ref f)) (hk : PySem.W.keepIn X.K (.ref f) = true) (hb : KBinds X.K fd ps ks g gV) (hx : ∀ σ, PassesAt CX X σ (E σ))
    (ha : PA X (e :: es) t) (hkw : PK X kws tk) (hall : (backToKw pos (keywordEach kws X.env)).all (·.1.isSome) = true := by rfl) (hks : (backToKw pos (keywordEach kws X.env)).filterMap (·.1) = ks := by rfl)
    (hdb : (x == ("__debug__" : Str)) = false := by decide) (he : starEach (e :: es) X.env = (false, eval e X.env) :: starEach es X.env := by rfl)
    (hpl : ((backTo pos (starEach (e :: es) X.env)).any (·.1) || (backToKw pos (keywordEach kws X.env)).any (·.1.isNone)) = false := by rfl) :
    PE X (.Call (.Name x p) (e :: es) kws pos) (tCallKS sp gV E t tk) := by
  refine ⟨fun pins s σ H Q I h => ?_⟩
  refine wpAny_Call_Name_kw (ld_glob I hg hm ?_ hdb)
  refine PySem.W.callWith_KW (h₀ := X.base) I.ok.mod.kin hk hall (thn (ha.run pos pins s σ H _ I h) fun us s1 ⟨vs, H1, I1, r, q⟩ => ?_) hpl he
  refine thn (hkw.run pos pins s1 σ H1 _ I1 q) fun ws s2 ⟨zs, H2, I2, rz, q2⟩ => ⟨I2.kIn, ?_⟩
  rw [hks]
  exact run_fnkS F hr hb (hx σ) I2 r rz q2
end
section
variable {X : Cx} {H0 : Hp} {ex : DX} {W : WX}
theorem qe_fnKX {k : Nat} {ps ks : List Str} {d : DSp} {x : Str} {p pos : Pos} {e : Expr} {es : List Expr} {kws : List Keyword} {t tk : TDA} (C : CalleeKX X.prog X.w X.K X.mg k x ps ks d) (hr : Room k X.A) (tkk : Takes X W) (ww : WW X.K H0 ex W) (hg : Gl X x)
    (ha : PA X (e :: es) (lA X.K H0 t)) (hkw : PK X kws (lA X.K H0 tk)) (hne : 0 < (ps ++ ks).length) {na nb : Nat} (hna : ps.length = na) (hnb : ks.length = nb) (hall : (backToKw pos (keywordEach kws X.env)).all (·.1.isSome) = true := by rfl) (hks : (backToKw pos (keywordEach kws X.env)).filterMap (·.1) = ks := by rfl)
    (hdb : (x == ("__debug__" : Str)) = false := by decide) (he : starEach (e :: es) X.env = (false, eval e X.env) :: starEach es X.env := by rfl)
    (hpl : ((backTo pos (starEach (e :: es) X.env)).any (·.1) || (backToKw pos (keywordEach kws X.env)).any (·.1.isNone)) = false := by rfl) :
    PE X (.Call (.Name x p) (e :: es) kws pos) (lE X.K H0 (dCallKX ex d na nb t tk)) := by
  subst hna hnb
  obtain ⟨f, fd, a, b, c, F⟩ := C.ex
  have kb : KBinds X.K fd (ps ++ ks) ks (both ps.length ks.length) (both ps.length ks.length) := by
    refine ⟨fun s us ws _ hl => ?_, fun {vs us zs ws} r rz => ?_⟩
    · unfold both at hl ⊢
      split at hl
      · rename_i z
        rw [if_pos z]
        exact .of_eq (c us ws z.1 z.2)
      · rw [List.length_nil] at hl
        omega
    · unfold both
      rw [← r.length, ← rz.length]
      split
      · exact r.append rz
      · exact .nil
  refine peL (pe_callKS (E := WE W) (F X.base) hr hg a b kb (fun σ => passAt tkk σ) ha hkw hall hks hdb he hpl) fun σ H Q h => ?_
  obtain ⟨sd, m, P, aa, p, q⟩ := h
  refine ⟨sd, m, _, aa, p, fun xs m1 us H1 k1 r1 d1 p1 => ⟨sd, m1, _, aa.to k1 r1, p1, fun ys m2 ws H2 k2 r2 d2 p2 => ?_⟩⟩
  obtain ⟨l1, l2, p3⟩ := p2
  unfold both
  rw [if_pos ⟨by rw [← d1.length]; exact l1, by rw [← d2.length]; exact l2⟩]
  exact ⟨xs ++ ys, m2, P, ex sd, (d1.mono k2).append d2, r2, p3, fun d m' w H' k => q d m' w H' ((k1.trans k2).trans k), fun c fo m' od H' k r x e => ww sd σ c fo m' od H' (((aa.k.trans k1).trans k2).trans k) (aa.s.mono ((k1.trans k2).trans k)) r x e⟩
end
end Q4
namespace Q4
open PySem L2 PySem.Spec PyProof.Rows
def hitOf (E : Addr) : Value → Option Bool
  | .ref a => if a = E then some true else none
  | _ => none
theorem hitOf_ok {K : PySem.W.Frag} {E : Addr} (h : PySem.W.exmOne K (.ref E) (.ref E) = some true) : ∀ cls bb, hitOf E cls = some bb → PySem.W.exmOne K cls (.ref E) = some bb ∧ (bb = true → cls = .ref E) := fun cls bb e => by
  unfold hitOf at e
  split at e
  · split at e
    · rename_i a ha
      cases e
      subst ha
      exact ⟨h, fun _ => rfl⟩
    · cases e
  · cases e
theorem wwNo {K : PySem.W.Frag} {H0 : Hp} : WW K H0 (fun _ => noX) (fun _ _ _ _ => False) := fun _ _ _ _ _ _ _ _ _ _ _ h => h
/-- what isinstance answers by the program's own tables -/
def isaK (K : PySem.W.Frag) (E : Addr) : D → Option Bool
  | .ref C => PySem.W.kitOne K (.ref E) (.ref C)
  | .ty T => PySem.W.kitOne K (.ref E) (.type T)
  | _ => none
theorem isaK_ok {K : PySem.W.Frag} {E : Addr} : Isa K E (isaK K E) := ⟨fun c b h => by
  unfold isaK at h
  split at h
  · exact ⟨_, _, .own _, h⟩
  · exact ⟨_, _, .ty _, h⟩
  · cases h⟩
section
variable {X : Cx} {H0 : Hp}
/-- a call of a def that may raise, where it does not -/
theorem qe_fnX0 {k : Nat} {ps : List Str} {d : DSp} {x : Str} {p pos : Pos} {e : Expr} {es : List Expr} {t : TDA} (C : CalleeX X.prog X.w X.K X.mg k x ps d) (hr : Room k X.A) (hg : Gl X x)
    (ha : PA X (e :: es) (lA X.K H0 t)) (hdb : (x == ("__debug__" : Str)) = false := by decide) (he : starEach (e :: es) X.env = (false, eval e X.env) :: starEach es X.env := by rfl) (hpl : (backTo pos (starEach es X.env)).any (·.1) = false := by rfl) :
    PE X (.Call (.Name x p) (e :: es) [] pos) (lE X.K H0 (dCall d t)) := by
  obtain ⟨f, fd, a, b, c, F⟩ := C.ex
  exact qe_call (F X.base) hr hg a b (.all c) (E := E0) passL ha hdb he hpl
/-- an own class as a value -/
theorem ExcAt.const {K : PySem.W.Frag} {mg : Str → Option Value} {x : Str} {C : Addr} (h : mg x = some (.ref C)) : ConstAt K mg x (.ref C) := ⟨.ref C, .ref C, h, rfl, fun _ => .ref C⟩
end
end Q4
namespace Q4
open PySem L2 PySem.Spec PyProof.Rows
section
variable {X : Cx} {H0 : Hp}
/-- a call by name of a def that may raise, where it does not -/
theorem qe_fnKX0 {k : Nat} {ps ks : List Str} {d : DSp} {x : Str} {p pos : Pos} {e : Expr} {es : List Expr} {kws : List Keyword} {t tk : TDA} (C : CalleeKX X.prog X.w X.K X.mg k x ps ks d) (hr : Room k X.A) (hg : Gl X x)
    (ha : PA X (e :: es) (lA X.K H0 t)) (hkw : PK X kws (lA X.K H0 tk)) (hne : 0 < (ps ++ ks).length) {na nb : Nat} (hna : ps.length = na) (hnb : ks.length = nb) (hall : (backToKw pos (keywordEach kws X.env)).all (·.1.isSome) = true := by rfl) (hks : (backToKw pos (keywordEach kws X.env)).filterMap (·.1) = ks := by rfl)
    (hdb : (x == ("__debug__" : Str)) = false := by decide) (he : starEach (e :: es) X.env = (false, eval e X.env) :: starEach es X.env := by rfl)
    (hpl : ((backTo pos (starEach (e :: es) X.env)).any (·.1) || (backToKw pos (keywordEach kws X.env)).any (·.1.isNone)) = false := by rfl) :
    PE X (.Call (.Name x p) (e :: es) kws pos) (lE X.K H0 (dCallK d na nb t tk)) := by
  subst hna hnb
  obtain ⟨f, fd, a, b, c, F⟩ := C.ex
  have kb : KBinds X.K fd (ps ++ ks) ks (both ps.length ks.length) (both ps.length ks.length) := by
    refine ⟨fun s us ws _ hl => ?_, fun {vs us zs ws} r rz => ?_⟩
    · unfold both at hl ⊢
      split at hl
      · rename_i z
        rw [if_pos z]
        exact .of_eq (c us ws z.1 z.2)
      · rw [List.length_nil] at hl
        omega
    · unfold both
      rw [← r.length, ← rz.length]
      split
      · exact r.append rz
      · exact .nil
  refine peL (pe_callK (E := E0) (F X.base) hr hg a b kb passL ha hkw hall hks hdb he hpl) fun σ H Q h => ?_
  obtain ⟨sd, m, P, aa, p, q⟩ := h
  refine ⟨sd, m, _, aa, p, fun xs m1 us H1 k1 r1 d1 p1 => ⟨sd, m1, _, aa.to k1 r1, p1, fun ys m2 ws H2 k2 r2 d2 p2 => ?_⟩⟩
  obtain ⟨l1, l2, p3⟩ := p2
  unfold both
  rw [if_pos ⟨by rw [← d1.length]; exact l1, by rw [← d2.length]; exact l2⟩]
  exact ⟨xs ++ ys, m2, P, noX, (d1.mono k2).append d2, r2, p3, fun d m' w H' k => q d m' w H' ((k1.trans k2).trans k), wantsX0⟩
end
end Q4

set_option Elab.async false
set_option linter.all false
set_option maxRecDepth 100000
namespace Q4
open PySem L2 PySem.Spec PyProof.Rows
/-! ### l.index(x), len of a dict, a clause that names a base class -/
def rIdx : RmD := fun x ys m P => match x, ys with
  | .ref a, [y] => ∃ (xs : List D) (j : Nat) (z : D), m a = some (.lst xs) ∧ okL xs ∧ okD y ∧ xs[j]? = some z ∧ eqD z y = true ∧ (∀ (i : Nat) (z' : D), i < j → xs[i]? = some z' → eqD z' y = false) ∧ P (.int (j : Nat)) m
  | _, _ => False
theorem D.pys_at : ∀ {xs : List D} {j : Nat}, (D.pys xs)[j]? = (xs[j]?).map D.py
  | [], _ => by simp [D.pys]
  | x :: xs, 0 => by simp [D.pys]
  | x :: xs, j + 1 => by rw [D.pys, List.getElem?_cons_succ, List.getElem?_cons_succ]; exact D.pys_at
section
variable {X : Cx}
theorem md_index (hu : X.A.units + 65 < cLine) : MethD X "list" "list.index" isLst rIdx := by
  refine ⟨_, mt_indexD hu, fun H m x u rm rx h => ?_, fun H m x u xs us P Q rm rx rs p q => ?_⟩
  · unfold isLst at h
    split at h
    · cases rx.ref_
      obtain ⟨xs, h⟩ := h
      obtain ⟨vs, e, _⟩ := rm _ _ h
      exact .inl ⟨rfl, _, .inl (.inl e)⟩
    · exact h.elim
  · unfold rIdx at p
    split at p
    · rename_i a y
      cases rx.ref_
      obtain ⟨w, rfl, r⟩ := rs.one_
      obtain ⟨xs, j, z, hm, ol, od, hz, e, hno, p⟩ := p
      obtain ⟨vs, ev, rr⟩ := rm _ _ hm
      have c1 := SeqAt.canLay_of_shaped ol
      have c2 := SeqAt.canLay_of_shaped od
      refine ⟨a, w, y.py, D.pys xs, j, z.py, rfl, rfl, .lst (.inl (.inl ev)) (dps_of rr (by simpa [PyData.canLay0] using c1)), dp_of r c2, ol, od, by rw [D.pys_at, hz]; rfl, e, fun i z' hi hz' => ?_, q _ m _ H (Keep.refl _) rm (.int _) p⟩
      rw [D.pys_at] at hz'
      cases e2 : xs[i]? with
      | none => rw [e2] at hz'; cases hz'
      | some x2 =>
        rw [e2] at hz'
        cases hz'
        exact hno i x2 hi e2
    · exact p.elim
def rLenK : RnD := fun xs m P => ∃ a kvs, xs = [.ref a] ∧ m a = some (.dct kvs) ∧ P (.int kvs.length) m
theorem call_lenK : CallR X (.builtin "len") (fun xs H Q => ∃ (a : Addr) (gs : List (Key × V)), xs = [.ref a] ∧ H a = some (.dK gs) ∧ Q (.int gs.length) H) := by
  intro pins s σ H xs us Q I r h
  obtain ⟨a, gs, rfl, e, q⟩ := h
  obtain ⟨u, rfl, rx⟩ := vals1 r
  cases rx
  exact d_len I (.of e) fun t s' I' => ⟨.int _, H, I', ⟨_, rfl⟩, q⟩
theorem cd_lenK : CallD X (.builtin "len") rLenK := by
  refine ⟨_, call_lenK, fun H m xs us P Q rm rx p q => ?_⟩
  obtain ⟨a, kvs, rfl, hm, p⟩ := p
  obtain ⟨u, rfl, r⟩ := rx.one_
  obtain rfl := r.ref_
  obtain ⟨gs, e, rk⟩ := rm.dict hm
  exact ⟨a, gs, rfl, e, q _ m _ H (Keep.refl _) rm (by rw [← rk.length]; exact .int _) p⟩
end
theorem hitOf_ok2 {K : PySem.W.Frag} {E C : Addr} (h : PySem.W.exmOne K (.ref E) (.ref C) = some true) : ∀ cls bb, hitOf E cls = some bb → PySem.W.exmOne K cls (.ref C) = some bb ∧ (bb = true → cls = .ref E) := fun cls bb e => by
  unfold hitOf at e
  split at e
  · split at e
    · rename_i a ha
      cases e
      subst ha
      exact ⟨h, fun _ => rfl⟩
    · cases e
  · cases e
end Q4

set_option Elab.async false
set_option linter.all false
set_option maxRecDepth 100000
set_option maxHeartbeats 0
namespace Q4
open PySem L2 PySem.Spec PyProof.Rows
/-! ### try with two clauses that give the error a name; each error of the body fits one of them -/
def offE (D : Ends) (i : Nat) : Ends := { nx := fun σ H => D.nx (σ.set i none) H, rt := D.rt, bk := fun σ H => D.bk (σ.set i none) H, ct := fun σ H => D.ct (σ.set i none) H }
abbrev TSu := Addr → Value → Option Addr → TS
def wTwo (K : PySem.W.Frag) (c1 c2 : Value) (i : Nat) (u1 u2 : TSu) (D : Ends) : WX := fun cls d σ H => ∃ b, PySem.W.exmOne K cls c1 = some b ∧
  (b = true → ∀ a, H a = none → u1 a cls d (offE D i) (σ.set i (some (.ref a))) H) ∧ (b = false → PySem.W.exmOne K cls c2 = some true ∧ ∀ a, H a = none → u2 a cls d (offE D i) (σ.set i (some (.ref a))) H)
section
variable {X : Cx} {x1 x2 n : Str} {c1 c2 : Value} {i : Nat} {body r1 r2 : List Stmt} {f1 f2 : Stmt} {np1 np2 pos p1 p2 : Pos} {tb : WX → TS} {u1 u2 : TSu}
theorem ps_two (eS : X.stack = X.env :: X.outer) (eF : X.env.frame = some X.env.locals) (nd : X.N.Nodup) (at_ : X.N[i]? = some n) (loc : X.env.kindOf n = some .local) (C1 : Names X x1 c1) (C2 : Names X x2 c2)
    (B : ∀ (W : WX) (pn : List (Addr × Obj)) (xe : Value → Shared → Prop), Takes (X.tr pn xe) W → PassesOwn (model X.prog X.w) X.A X.env xe → PSs (X.tr pn xe) body (tb W))
    (U1 : ∀ (a : Addr) (oe : Obj) (cls : Value) (d : Option Addr) (pn : List (Addr × Obj)), Zc cls d oe → (∃ vs, oe.data = .fields vs) → PSs (X.suite a ((a, oe) :: pn)) (f1 :: r1) (u1 a cls d))
    (U2 : ∀ (a : Addr) (oe : Obj) (cls : Value) (d : Option Addr) (pn : List (Addr × Obj)), Zc cls d oe → (∃ vs, oe.data = .fields vs) → PSs (X.suite a ((a, oe) :: pn)) (f2 :: r2) (u2 a cls d)) :
    PS X (.Try body [.ExceptHandler (some (.Name x1 np1)) (some n) (f1 :: r1) p1, .ExceptHandler (some (.Name x2 np2)) (some n) (f2 :: r2) p2] [] [] pos) (fun D σ H => tb (wTwo X.K c1 c2 i u1 u2 D) D σ H) := by
  refine ⟨fun pins s σ H D I start => ?_⟩
  have ok := I.ok
  have eFr : X.A.frames = some (X.env :: X.outer) := ok.frames.trans (congrArg some eS)
  refine wpAny_Try_except ?_
  refine wpAny_mono ((B (wTwo X.K c1 c2 i u1 u2 D) (X.pn ++ pins)
    (fun e t1 => wpAny (model X.prog X.w) X.A (noteFrame e X.env)
      (fun _ t2 => wpAny (model X.prog X.w) X.A (setFlight e none)
        (fun _ t3 => wpAny (model X.prog X.w) X.A
          (handleBy e X.env [.ExceptHandler (some (.Name x1 np1)) (some n) (f1 :: r1) p1, .ExceptHandler (some (.Name x2 np2)) (some n) (f2 :: r2) p2]) (SP X pins D) X.xe t3) X.xe t2) X.xe t1)
    (fun u sE caught => ?_) PassesOwn.looking).run [] s σ H D (I.toTry _) start)
    (fun f t hsp => ?_) (fun _ _ he => he)
  · -- an error is caught
    obtain ⟨a, Bd, sB, pB, σ', H', cls, d, rfl, JT, nb, grown, sky, free, os, ag, b, hb1, yes, no⟩ := caught
    have J0 : Inv X pins σ' H' sB := JT.ofTry ok
    rw [eS] at sky
    change wpAny (model X.prog X.w) X.A (noteFrame (Value.ref a) X.env) _ _ _
    refine Sky.land Zc.steady eFr eF sky fun h3 flies up3 => ?_
    have JL : Inv X pins σ' H' { sE with heap := h3 } := J0.landed nb flies.1 (grown.trans up3) os ag
    obtain ⟨ob, fv, obAt, obZ, obD⟩ := flies.there
    have apart : a ∉ frs (X.env :: X.outer) := fun hm => by
      obtain ⟨_, o2, at2, isnt⟩ := flies.2.2.1.mem hm
      cases obAt.symm.trans at2
      exact isnt _ obD
    have apart1 : a ≠ X.env.locals := fun z => apart (List.mem_filterMap.mpr ⟨X.env, List.mem_cons_self, eF.trans (congrArg some z.symm)⟩)
    have apart2 : a ∉ X.fs := fun hm => by
      obtain ⟨en, mem, q⟩ := List.mem_filterMap.mp hm
      exact apart (List.mem_filterMap.mpr ⟨en, List.mem_cons_of_mem _ mem, q⟩)
    have SL := JL.suite obAt obD free apart1 apart2
    have clause : ∀ {x : Str} {c : Value} {np p : Pos} {f : Stmt} {r : List Stmt} {u : TSu} {more : List ExceptHandler} {bb : Bool}, Names X x c →
        (∀ (a : Addr) (oe : Obj) (cls : Value) (d : Option Addr) (pn : List (Addr × Obj)), Zc cls d oe → (∃ vs, oe.data = .fields vs) → PSs (X.suite a ((a, oe) :: pn)) (f :: r) (u a cls d)) →
        PySem.W.exmOne X.K cls c = some bb → (bb = true → u a cls d (offE D i) (σ'.set i (some (.ref a))) H') →
        (bb = false → wpAny (model X.prog X.w) X.A (handleBy (.ref a) X.env more) (SP X pins D) X.xe { sE with heap := h3 }) →
        wpAny (model X.prog X.w) X.A (handleBy (.ref a) X.env (.ExceptHandler (some (.Name x np)) (some n) (f :: r) p :: more)) (SP X pins D) X.xe { sE with heap := h3 } := by
      intro x c np p f r u more bb hc hu hbb hyes hno
      refine wpAny_handleBy_cons (codeAny_handlers_test ?_) (fun q => by cases q)
      have kind_ : PySem.W.Looks (model X.prog X.w) h3 (typeOf (.ref a)) cls := fun _ _ _ _ kp q =>
        wpAny_typeOf_ref (kp _ _ obAt) (by rw [obZ.1]; exact q)
      have fits := PySem.W.exm_one (M := model X.prog X.w) JL.kIn kind_ hbb
      have named : ∀ {Q E : Value → Shared → Prop}, Q c { sE with heap := h3 } →
          wpAny (model X.prog X.w) (X.A.mark (some (.ref a))) (eval (.Name x np) X.env) Q E { sE with heap := h3 } := fun {Q E} q => by
        obtain ⟨hg, hd, own | ⟨none_, blt, nn⟩⟩ := hc
        · exact ld_glob (X := X.suite a ((a, ob) :: (X.pn ++ pins))) SL hg own q hd
        · exact ld_blt (X := X.suite a ((a, ob) :: (X.pn ++ pins))) SL hg none_ blt q nn hd
      refine named (fits.here ?_)
      cases bb with
      | false =>
        show wpAny _ X.A (handleBy (.ref a) X.env more) _ _ _
        exact hno rfl
      | true =>
        refine codeAny_handlers_suite_as (HandSPX.lands_againZ flies fun h4 flies4 up4 => ?_)
        have J4 : Inv X pins σ' H' { sE with heap := h4 } := J0.landed nb flies4.1 ((grown.trans up3).trans up4) os ag
        obtain ⟨ob4, fv4, at4, z4, d4⟩ := flies4.there
        have sl4 := J4.suite at4 d4 free apart1 apart2
        refine store_ok (X := X.suite a ((a, ob4) :: (X.pn ++ pins))) (v := .ref a) sl4 nd at_ (.inl loc) rfl (fun s5 S5 => ?_) (.inr loc)
        have done_ : ∀ {σz : L2.St} {Hz : Hp} {sz : Shared} {Q : Shared → Prop}, Inv (X.suite a ((a, ob4) :: (X.pn ++ pins))) [] σz Hz sz → (∀ t, Inv X pins (σz.set i none) Hz t → Q t) →
            wpAny (model X.prog X.w) X.A (do bindName X.env n .none; unbindBehindTheSuite X.env n p) (fun _ t => Q t) X.xe sz := fun Sz hq => gone_ok (Sz.unsuite ok) nd at_ loc hq
        refine wpAny_mono ((hu a ob4 cls d (X.pn ++ pins) z4 ⟨_, d4⟩).run [] s5 _ H' _ S5 (hyes rfl)) (fun f6 s6 end6 => ?_) (fun _ _ z => z.elim)
        cases f6 with
        | ret u6 =>
          obtain ⟨v6, σ6, H6, S6, r6, q6⟩ := end6
          exact done_ S6 fun t Jt => ⟨_, _, _, Jt, r6, q6⟩
        | _ =>
          obtain ⟨σ6, H6, S6, q6⟩ := end6
          exact done_ S6 fun t Jt => ⟨_, _, Jt, q6⟩
    exact clause C1 U1 hb1 (fun e => yes e a free) fun e => clause C2 U2 (no e).1 (fun _ => (no e).2 a free) fun e2 => by cases e2
  · cases f with
    | ret u =>
      obtain ⟨v, σr, Hr, JT, rr, q⟩ := hsp
      exact ⟨v, σr, Hr, JT.ofTry ok, rr, q⟩
    | next =>
      obtain ⟨σr, Hr, JT, q⟩ := hsp
      exact wpAny_execs_nil ⟨σr, Hr, JT.ofTry ok, q⟩
    | _ =>
      obtain ⟨σr, Hr, JT, q⟩ := hsp
      exact ⟨σr, Hr, JT.ofTry ok, q⟩
end
def dTry2 (E1 E2 : Addr) (i : Nat) (b : DX → TDS) (s1 s2 : Addr → TDS) : TDS := fun DD sd m =>
  b (fun sd' cls fo m' => fo = none ∧ ((cls = .ref E1 ∧ ∀ a, m' a = none → s1 a (DD.off i) (sd'.set i (some (.ref a))) m') ∨ (cls = .ref E2 ∧ ∀ a, m' a = none → s2 a (DD.off i) (sd'.set i (some (.ref a))) m'))) DD sd m
section
variable {X : Cx} {H0 : Hp} {x1 x2 n : Str} {c1 c2 : Value} {E1 E2 : Addr} {i : Nat} {body r1 r2 : List Stmt} {f1 f2 : Stmt} {np1 np2 pos p1 p2 : Pos} {b : DX → TDS} {s1 s2 : Addr → TDS}
theorem qs_try2 (hs : X.stack = X.env :: X.outer) (hf : X.env.frame = some X.env.locals) (hN : X.N.Nodup) (hi : X.N[i]? = some n) (hln : X.env.kindOf n = some .local) (hc1 : Names X x1 c1) (hc2 : Names X x2 c2)
    (h11 : PySem.W.exmOne X.K (.ref E1) c1 = some true) (h21 : PySem.W.exmOne X.K (.ref E2) c1 = some false) (h22 : PySem.W.exmOne X.K (.ref E2) c2 = some true)
    (hb : ∀ (H1 : Hp) (exx : DX) (W : WX) (pn : List (Addr × Obj)) (xe : Value → Shared → Prop), Takes (X.tr pn xe) W → PassesOwn (model X.prog X.w) X.A X.env xe → WW X.K H1 exx W → PSs (X.tr pn xe) body (lS X.K H1 (b exx)))
    (hs1 : ∀ (a : Addr) (oe : Obj) (pn : List (Addr × Obj)), Zc (.ref E1) none oe → (∃ vs, oe.data = .fields vs) → PSs (X.suite a ((a, oe) :: pn)) (f1 :: r1) (lS X.K H0 (s1 a)))
    (hs2 : ∀ (a : Addr) (oe : Obj) (pn : List (Addr × Obj)), Zc (.ref E2) none oe → (∃ vs, oe.data = .fields vs) → PSs (X.suite a ((a, oe) :: pn)) (f2 :: r2) (lS X.K H0 (s2 a))) :
    PS X (.Try body [.ExceptHandler (some (.Name x1 np1)) (some n) (f1 :: r1) p1, .ExceptHandler (some (.Name x2 np2)) (some n) (f2 :: r2) p2] [] [] pos) (lS X.K H0 (dTry2 E1 E2 i b s1 s2)) :=
  psL (ps_two (tb := fun W D σ H => ∃ exx, WW X.K H exx W ∧ lS X.K H (b exx) D σ H) (u1 := fun a cls d D σ H => cls = .ref E1 ∧ d = none ∧ lS X.K H0 (s1 a) D σ H) (u2 := fun a cls d D σ H => cls = .ref E2 ∧ d = none ∧ lS X.K H0 (s2 a) D σ H) hs hf hN hi hln hc1 hc2
    (fun W pn xe tkk po => ⟨fun pins s σ H D I h => by
      obtain ⟨exx, w1, h⟩ := h
      exact (hb H exx W pn xe tkk po w1).run pins s σ H D I h⟩)
    (fun a oe cls d pn hz hd => ⟨fun pins s σ H D I h => by
      obtain ⟨e1, e2, h⟩ := h
      subst e1 e2
      exact (hs1 a oe pn hz hd).run pins s σ H D I h⟩)
    (fun a oe cls d pn hz hd => ⟨fun pins s σ H D I h => by
      obtain ⟨e1, e2, h⟩ := h
      subst e1 e2
      exact (hs2 a oe pn hz hd).run pins s σ H D I h⟩)) fun D σ H h => by
    obtain ⟨sd, m, DD, a0, p, q1, q2, q3, q4⟩ := h
    refine ⟨_, fun sd' σ' cls fo m' od H' k rs rm xr he => ?_, sd, m, DD, ⟨a0.s, a0.m, Keep.refl _⟩, p, q1, q2, q3, q4⟩
    obtain ⟨hfo, he⟩ := he
    subst hfo
    have hod : od = none := by
      cases od with
      | none => rfl
      | some d => exact xr.elim
    have ends : ∀ (st : Addr → TDS) (a : Addr), H' a = none → st a (DD.off i) (sd'.set i (some (.ref a))) m' → lS X.K H0 (st a) (offE D i) (σ'.set i (some (.ref a))) H' := fun st a ha h3 => by
      refine ⟨_, m', DD.off i, ⟨rs.set i (.ref a), rm, a0.k.trans k⟩, h3, ?_, ?_, ?_, ?_⟩
      · exact fun sd2 m2 σ2 H2 k2 r2 rm2 p2 => q1 _ m2 _ H2 (k.trans k2) (r2.setNone i) rm2 p2
      · exact fun d m2 v H2 k2 rm2 rd p2 => q2 d m2 v H2 (k.trans k2) rm2 rd p2
      · exact fun sd2 m2 σ2 H2 k2 r2 rm2 p2 => q3 _ m2 _ H2 (k.trans k2) (r2.setNone i) rm2 p2
      · exact fun sd2 m2 σ2 H2 k2 r2 rm2 p2 => q4 _ m2 _ H2 (k.trans k2) (r2.setNone i) rm2 p2
    rcases he with ⟨rfl, h3⟩ | ⟨rfl, h3⟩
    · exact ⟨true, h11, fun _ a ha => ⟨rfl, hod, ends s1 a ha (h3 a (rm.free ha))⟩, (fun e => by cases e)⟩
    · exact ⟨false, h21, (fun e => by cases e), fun _ => ⟨h22, fun a ha => ⟨rfl, hod, ends s2 a ha (h3 a (rm.free ha))⟩⟩⟩
end
end Q4

set_option maxHeartbeats 0
namespace Q4
open PySem L2
def topS (i : Nat) : Stmt := PySem.Challenge.pw_lendback_k06_kinds_of_places.main.body.getD i (.Pass ⟨0, 0, 0, 0⟩)
abbrev c_BORROWS : D := .tup [.str "shared", .str "exclusive"]
abbrev s_fields_of : Stmt := topS 11
theorem sc_fields_of : FnScope ["records", "name", "record", "fields"] ["records", "name"] (defScope s_fields_of) := ⟨rfl, rfl, rfl, by decide +kernel, rfl, by decide +kernel, by decide +kernel⟩
def b_fields_of : TDS := (dSeq (dForS (dVar 0) (dGTup 2 (dGCons (dName 2) (dGCons (dName 3) dGNil)))
    (dIf (dB (dOp rEqD (dVar 2) (dVar 1)))
    (dRet (dVar 3))
    dNext))
    (dRet (dTup dNil)))
theorem ok_fields_of {P : Program} {w : World} {K : PySem.W.Frag} {mg : Str → Option Value} {k : Nat} {d : DSp} (F : FunAt K mg "fields_of" s_fields_of ["records", "name"])
    (len : ∀ ds m P EX, d ds m P EX → ds.length = 2) (rd : ∀ ds m P EX, d ds m P EX → Go P (b_fields_of) (dstart ["records", "name", "record", "fields"] ds) m) : Callee P w K mg (k + 1) "fields_of" ["records", "name"] d :=
  F.callee sc_fields_of len (b_fields_of) rd fun base f cdv A outer s H E hr =>
    ((qss_cons (qs_forS (vs := [2, 3]) PassesOwn.never rfl (qv 0) (qg_tup rfl (qgs_cons (qg_name (i := 2) sc_fields_of.nd rfl (by first | exact Or.inl rfl | exact Or.inr rfl) (by decide)) (qgs_cons (qg_name (i := 3) sc_fields_of.nd rfl (by first | exact Or.inl rfl | exact Or.inr rfl) (by decide)) qgs_nil)))
    (qss_one (qs_if (qt_cmp (od_eq hr.units) (qv 2) (qv 1) (nomark _))
    (qss_one (qs_ret (qv 3)))
    qss_nil)))
    (qss_one (qs_ret (qe_tup qa_nil)))))
abbrev s_kind_after : Stmt := topS 12
theorem sc_kind_after : FnScope ["records", "kind", "step", "field", "part"] ["records", "kind", "step"] (defScope s_kind_after) := ⟨rfl, rfl, rfl, by decide +kernel, rfl, by decide +kernel, by decide +kernel⟩
def b_kind_after (x_NoSuchStep : Addr) (ex : DX) (d_fields_of : DSp) : TDS := (dSeq (dIf (dAnd (dB (dOp rEqD (dOp rIxD (dVar 1) (dC (.int 0))) (dC (.str "tuple")))) (dAnd (dTru (dCB rIsD (dCons (dVar 2) (dCons (dC (.ty "int")) dNil)))) (dB (dChain rLeD rLtD (dC (.int 0)) (dVar 2) (dCB rLen (dCons (dOp rIxD (dVar 1) (dC (.int 1))) dNil))))))
    (dRet (dOp rIxD (dOp rIxD (dVar 1) (dC (.int 1))) (dVar 2)))
    dNext)
    (dSeq (dIf (dB (dOp rEqD (dOp rIxD (dVar 1) (dC (.int 0))) (dC (.str "record"))))
    (dForS (dCall d_fields_of (dCons (dVar 0) (dCons (dOp rIxD (dVar 1) (dC (.int 1))) dNil))) (dGTup 2 (dGCons (dName 3) (dGCons (dName 4) dGNil)))
    (dIf (dB (dOp rEqD (dVar 3) (dVar 2)))
    (dRet (dVar 4))
    dNext))
    dNext)
    (dSeq (dIf (dAnd (dB (dOp rEqD (dOp rIxD (dVar 1) (dC (.int 0))) (dC (.str "maybe")))) (dB (dOp rEqD (dVar 2) (dC (.str "?")))))
    (dRet (dOp rIxD (dVar 1) (dC (.int 1))))
    dNext)
    (dSeq (dIf (dAnd (dOr (dB (dOp rEqD (dOp rIxD (dVar 1) (dC (.int 0))) (dC (.str "box")))) (dB (dOp rInD (dOp rIxD (dVar 1) (dC (.int 0))) (dC c_BORROWS)))) (dB (dOp rEqD (dVar 2) (dC (.str "^")))))
    (dRet (dOp rIxD (dVar 1) (dC (.int 1))))
    dNext)
    (dRaise ex x_NoSuchStep (dCons (dJoin [(dC (.str "the step ")), (dFmtR (dVar 2)), (dC (.str " does not fit a kind that begins with ")), (dFmt (dOp rIxD (dVar 1) (dC (.int 0))))]) dNil))))))
theorem ok_kind_after {P : Program} {w : World} {K : PySem.W.Frag} {mg : Str → Option Value} {k : Nat} {d d_fields_of : DSp} {x_NoSuchStep : Addr} (F : FunAt K mg "kind_after" s_kind_after ["records", "kind", "step"]) (C_fields_of : Callee P w K mg k "fields_of" ["records", "name"] d_fields_of) (k_BORROWS : ConstAt K mg "BORROWS" c_BORROWS) (z_int : mg "int" = none) (z_isinstance : mg "isinstance" = none) (z_len : mg "len" = none) (g_NoSuchStep : mg "NoSuchStep" = some (.ref x_NoSuchStep)) (e_NoSuchStep : ExcAt K mg "NoSuchStep" x_NoSuchStep)
    (len : ∀ ds m P EX, d ds m P EX → ds.length = 3) (rd : ∀ ds m P EX, d ds m P EX → Go P (b_kind_after x_NoSuchStep (outX EX) d_fields_of) (dstart ["records", "kind", "step", "field", "part"] ds) m) : CalleeX P w K mg (k + 1) "kind_after" ["records", "kind", "step"] d :=
  F.calleeX sc_kind_after len (fun ex => b_kind_after x_NoSuchStep ex d_fields_of) rd fun base f cdv A outer s H E ex hr ww =>
    ((qss_cons (qs_if (PW.pt (qw_and (qt_cmp (od_eq hr.units) (qe_ix (qv 1) qe_int (fun _ _ => rfl)) qe_str (nomark _)) (qw_and (qt_tru (qe_callB (cd_isi) (by rfl) z_isinstance PyProof.Rows.boot_isinstance (qa_cons (qv 2) (qa_cons (qe_type (by rfl) z_int PyProof.Rows.boot_int) qa_nil)))) (qw_and1 (qt_chain od_le od_lt qe_int (qv 2) (qe_callB (cd_len) (by rfl) z_len PySem.boot_len (qa_cons (qe_ix (qv 1) qe_int (fun _ _ => rfl)) qa_nil)))))))
    (qss_one (qs_ret (qe_ix (qe_ix (qv 1) qe_int (fun _ _ => rfl)) (qv 2) (fun _ _ => rfl))))
    qss_nil)
    (qss_cons (qs_if (qt_cmp (od_eq hr.units) (qe_ix (qv 1) qe_int (fun _ _ => rfl)) qe_str (nomark _))
    (qss_one (qs_forS (vs := [3, 4]) (passes_of rfl) rfl (qe_fn C_fields_of hr (by rfl) (qa_cons (qv 0) (qa_cons (qe_ix (qv 1) qe_int (fun _ _ => rfl)) qa_nil))) (qg_tup rfl (qgs_cons (qg_name (i := 3) sc_kind_after.nd rfl (by first | exact Or.inl rfl | exact Or.inr rfl) (by decide)) (qgs_cons (qg_name (i := 4) sc_kind_after.nd rfl (by first | exact Or.inl rfl | exact Or.inr rfl) (by decide)) qgs_nil)))
    (qss_one (qs_if (qt_cmp (od_eq hr.units) (qv 3) (qv 2) (nomark _))
    (qss_one (qs_ret (qv 4)))
    qss_nil))))
    qss_nil)
    (qss_cons (qs_if (PW.pt (qw_and (qt_cmp (od_eq hr.units) (qe_ix (qv 1) qe_int (fun _ _ => rfl)) qe_str (nomark _)) (qw_and1 (qt_cmp (od_eq hr.units) (qv 2) qe_str (nomark _)))))
    (qss_one (qs_ret (qe_ix (qv 1) qe_int (fun _ _ => rfl))))
    qss_nil)
    (qss_cons (qs_if (PW.pt (qw_and (PW.pt (qw_or (qt_cmp (od_eq hr.units) (qe_ix (qv 1) qe_int (fun _ _ => rfl)) qe_str (nomark _)) (qw_or1 (qt_cmp od_inD (qe_ix (qv 1) qe_int (fun _ _ => rfl)) (qe_const k_BORROWS (by rfl)) (by rfl))))) (qw_and1 (qt_cmp (od_eq hr.units) (qv 2) qe_str (nomark _)))))
    (qss_one (qs_ret (qe_ix (qv 1) qe_int (fun _ _ => rfl))))
    qss_nil)
    (qss_one (qs_raise rfl e_NoSuchStep (takes_of rfl rfl rfl rfl) ww (by rfl) (qa_cons (qe_joined (.cons qe_str (.cons (qe_fmtR (qv 2)) (.cons qe_str (.cons (qe_fmt (qe_ix (qv 1) qe_int (fun _ _ => rfl))) .nil))))) qa_nil))))))))
abbrev s_kinds_along : Stmt := topS 14
theorem sc_kinds_along : FnScope ["place", "records", "kinds", "passed", "step", "variable", "steps"] ["place", "records", "kinds"] (defScope s_kinds_along) := ⟨rfl, rfl, rfl, by decide +kernel, rfl, by decide +kernel, by decide +kernel⟩
def b_kinds_along (x_NoSuchVariable : Addr) (ex : DX) (d_kind_after : DSp) : TDS := (dSeq (dAsg (dVar 0) (dGTup 2 (dGCons (dName 5) (dGCons (dName 6) dGNil))))
    (dSeq (dIf (dB (dOp rNotInK (dVar 5) (dVar 2)))
    (dRaise ex x_NoSuchVariable (dCons (dJoin [(dC (.str "there is no variable ")), (dFmt (dVar 5))]) dNil))
    dNext)
    (dSeq (dAsg (dLst (dCons (dDGet (dVar 2) (dVar 5)) dNil)) (dName 3))
    (dSeq (dForS (dVar 6) (dName 4)
    (dDrop (dBM isLst rApp (dVar 3) (dCons (dCallX ex d_kind_after (dCons (dVar 1) (dCons (dOp rIxD (dVar 3) (dUn rNegD (dC (.int 1)))) (dCons (dVar 4) dNil)))) dNil))))
    (dRet (dVar 3))))))
theorem ok_kinds_along {P : Program} {w : World} {K : PySem.W.Frag} {mg : Str → Option Value} {k : Nat} {d d_kind_after : DSp} {x_NoSuchVariable : Addr} (F : FunAt K mg "kinds_along" s_kinds_along ["place", "records", "kinds"]) (C_kind_after : CalleeX P w K mg k "kind_after" ["records", "kind", "step"] d_kind_after) (g_NoSuchVariable : mg "NoSuchVariable" = some (.ref x_NoSuchVariable)) (e_NoSuchVariable : ExcAt K mg "NoSuchVariable" x_NoSuchVariable)
    (len : ∀ ds m P EX, d ds m P EX → ds.length = 3) (rd : ∀ ds m P EX, d ds m P EX → Go P (b_kinds_along x_NoSuchVariable (outX EX) d_kind_after) (dstart ["place", "records", "kinds", "passed", "step", "variable", "steps"] ds) m) : CalleeX P w K mg (k + 1) "kinds_along" ["place", "records", "kinds"] d :=
  F.calleeX sc_kinds_along len (fun ex => b_kinds_along x_NoSuchVariable ex d_kind_after) rd fun base f cdv A outer s H E ex hr ww =>
    ((qss_cons (qs_asg (vs := [5, 6]) (qv 0) (qg_tup rfl (qgs_cons (qg_name (i := 5) sc_kinds_along.nd rfl (by first | exact Or.inl rfl | exact Or.inr rfl) (by decide)) (qgs_cons (qg_name (i := 6) sc_kinds_along.nd rfl (by first | exact Or.inl rfl | exact Or.inr rfl) (by decide)) qgs_nil))))
    (qss_cons (qs_if (qt_cmp (od_notInK hr.units) (qv 5) (qv 2) (by rfl))
    (qss_one (qs_raise rfl e_NoSuchVariable (takes_of rfl rfl rfl rfl) ww (by rfl) (qa_cons (qe_joined (.cons qe_str (.cons (qe_fmt (qv 5)) .nil))) qa_nil)))
    qss_nil)
    (qss_cons (qs_set (i := 3) sc_kinds_along.nd rfl (by first | exact Or.inl rfl | exact Or.inr rfl) (qe_lst (qa_cons (qe_dget hr.units (qv 2) (qv 5) (fun _ _ => rfl)) qa_nil)))
    (qss_cons (qs_forS (vs := [4]) (passes_of rfl) rfl (qv 6) (qg_name (i := 4) sc_kinds_along.nd rfl (by first | exact Or.inl rfl | exact Or.inr rfl) (by decide))
    (qss_one (qs_expr (qe_bm md_append PySem.F.plainAttrs_list PySem.F.slot_list_append PySem.F.type_list_append (qv 3) (qa_cons (qe_fnX C_kind_after hr (takes_of rfl rfl rfl rfl) ww (by rfl) (qa_cons (qv 1) (qa_cons (qe_ix (qv 3) (qe_neg qe_int) (fun _ _ => rfl)) (qa_cons (qv 4) qa_nil)))) qa_nil)))))
    (qss_one (qs_ret (qv 3))))))))
abbrev s_kind_at : Stmt := topS 15
theorem sc_kind_at : FnScope ["place", "records", "kinds"] ["place", "records", "kinds"] (defScope s_kind_at) := ⟨rfl, rfl, rfl, by decide +kernel, rfl, by decide +kernel, by decide +kernel⟩
def b_kind_at (ex : DX) (d_kinds_along : DSp) : TDS := (dRet (dOp rIxD (dCallX ex d_kinds_along (dCons (dVar 0) (dCons (dVar 1) (dCons (dVar 2) dNil)))) (dUn rNegD (dC (.int 1)))))
theorem ok_kind_at {P : Program} {w : World} {K : PySem.W.Frag} {mg : Str → Option Value} {k : Nat} {d d_kinds_along : DSp} (F : FunAtK K mg "kind_at" s_kind_at ["place"] ["records", "kinds"]) (C_kinds_along : CalleeX P w K mg k "kinds_along" ["place", "records", "kinds"] d_kinds_along)
    (len : ∀ ds m P EX, d ds m P EX → ds.length = 3) (rd : ∀ ds m P EX, d ds m P EX → Go P (b_kind_at (outX EX) d_kinds_along) (dstart ["place", "records", "kinds"] ds) m) : CalleeKX P w K mg (k + 1) "kind_at" ["place"] ["records", "kinds"] d :=
  F.calleeX sc_kind_at len (fun ex => b_kind_at ex d_kinds_along) rd fun base f cdv A outer s H E ex hr ww =>
    ((qss_one (qs_ret (qe_ix (qe_fnX C_kinds_along hr (takes_of rfl rfl rfl rfl) ww (by rfl) (qa_cons (qv 0) (qa_cons (qv 1) (qa_cons (qv 2) qa_nil)))) (qe_neg qe_int) (fun _ _ => rfl)))))
abbrev s_law_pick : Stmt := topS 17
theorem sc_law_pick : FnScope ["state", "script", "many", "place", "number", "cell"] ["state", "script", "many"] (defScope s_law_pick) := ⟨rfl, rfl, rfl, by decide +kernel, rfl, by decide +kernel, by decide +kernel⟩
def b_law_pick : TDS := (dSeq (dIf (dB (dOp rGtD (dOp rIxD (dVar 0) (dC (.int 1))) (dC (.int 0))))
    (dSeq (dAsg (dOp rMod (dCB rInt (dCons (dOp rIxD (dVar 0) (dC (.int 1))) dNil)) (dVar 2)) (dName 4))
    (dSeq (dAsg (dOp rFdiv (dOp rIxD (dVar 0) (dC (.int 1))) (dVar 2)) (dGSub (dVar 0) (dC (.int 1))))
    (dRet (dVar 4))))
    dNext)
    (dSeq (dAsg (dOp rIxD (dVar 0) (dC (.int 0))) (dName 3))
    (dSeq (dAsg (dOp rAdd (dVar 3) (dC (.int 1))) (dGSub (dVar 0) (dC (.int 0))))
    (dSeq (dIf (dB (dOp rLtD (dVar 3) (dCB rLen (dCons (dVar 1) dNil))))
    (dSeq (dAsg (dCB rAbs (dCons (dCB rInt (dCons (dOp rIxD (dVar 1) (dVar 3)) dNil)) dNil)) (dName 5))
    (dSeq (dIf (dB (dOp rGeD (dVar 5) (dOp rPow (dC (.int 10)) (dC (.int 18)))))
    (dSeq (dAsg (dOp rFdiv (dVar 5) (dVar 2)) (dGSub (dVar 0) (dC (.int 1))))
    (dRet (dOp rMod (dCB rInt (dCons (dVar 5) dNil)) (dVar 2))))
    dNext)
    (dAsg (dOp rMod (dCB rInt (dCons (dOp rAdd (dOp rAdd (dOp rMul (dOp rIxD (dVar 0) (dC (.int 2))) (dC (.int 40014))) (dOp rMul (dVar 5) (dC (.int 69621)))) (dC (.int 17))) dNil)) (dC (.int 2147483563))) (dGSub (dVar 0) (dC (.int 2))))))
    dNext)
    (dSeq (dAsg (dOp rMod (dCB rInt (dCons (dOp rAdd (dOp rAdd (dOp rMul (dOp rIxD (dVar 0) (dC (.int 2))) (dC (.int 48271))) (dOp rMul (dC (.int 11)) (dVar 3))) (dC (.int 5))) dNil)) (dC (.int 2147483647))) (dGSub (dVar 0) (dC (.int 2))))
    (dRet (dOp rMod (dCB rInt (dCons (dOp rFdiv (dOp rMul (dOp rIxD (dVar 0) (dC (.int 2))) (dOp rIxD (dVar 0) (dC (.int 2)))) (dC (.int 8191))) dNil)) (dVar 2))))))))
theorem ok_law_pick {P : Program} {w : World} {K : PySem.W.Frag} {mg : Str → Option Value} {k : Nat} {d : DSp} (F : FunAt K mg "_law_pick" s_law_pick ["state", "script", "many"]) (z_int : mg "int" = none) (z_len : mg "len" = none) (z_abs : mg "abs" = none)
    (len : ∀ ds m P EX, d ds m P EX → ds.length = 3) (rd : ∀ ds m P EX, d ds m P EX → Go P (b_law_pick) (dstart ["state", "script", "many", "place", "number", "cell"] ds) m) : Callee P w K mg (k + 1) "_law_pick" ["state", "script", "many"] d :=
  F.callee sc_law_pick len (b_law_pick) rd fun base f cdv A outer s H E hr =>
    ((qss_cons (qs_if (qt_cmp od_gt (qe_ix (qv 0) qe_int (fun _ _ => rfl)) qe_int (nomark _))
    (qss_cons (qs_set (i := 4) sc_law_pick.nd rfl (by first | exact Or.inl rfl | exact Or.inr rfl) (qe_op od_mod (qe_callTy cd_int (by rfl) z_int PyProof.Rows.boot_int (qa_cons (qe_ix (qv 0) qe_int (fun _ _ => rfl)) qa_nil)) (qv 2)))
    (qss_cons (qs_asg (vs := []) (qe_op od_fdiv (qe_ix (qv 0) qe_int (fun _ _ => rfl)) (qv 2)) (qg_sub (qv 0) qe_int))
    (qss_one (qs_ret (qv 4)))))
    qss_nil)
    (qss_cons (qs_set (i := 3) sc_law_pick.nd rfl (by first | exact Or.inl rfl | exact Or.inr rfl) (qe_ix (qv 0) qe_int (fun _ _ => rfl)))
    (qss_cons (qs_asg (vs := []) (qe_op od_add (qv 3) qe_int) (qg_sub (qv 0) qe_int))
    (qss_cons (qs_if (qt_cmp od_lt (qv 3) (qe_callB (cd_len) (by rfl) z_len PySem.boot_len (qa_cons (qv 1) qa_nil)) (nomark _))
    (qss_cons (qs_set (i := 5) sc_law_pick.nd rfl (by first | exact Or.inl rfl | exact Or.inr rfl) (qe_callB (cd_abs) (by rfl) z_abs PyProof.Rows.boot_abs (qa_cons (qe_callTy cd_int (by rfl) z_int PyProof.Rows.boot_int (qa_cons (qe_ix (qv 1) (qv 3) (fun _ _ => rfl)) qa_nil)) qa_nil)))
    (qss_cons (qs_if (qt_cmp od_ge (qv 5) (qe_op od_pow qe_int qe_int) (nomark _))
    (qss_cons (qs_asg (vs := []) (qe_op od_fdiv (qv 5) (qv 2)) (qg_sub (qv 0) qe_int))
    (qss_one (qs_ret (qe_op od_mod (qe_callTy cd_int (by rfl) z_int PyProof.Rows.boot_int (qa_cons (qv 5) qa_nil)) (qv 2)))))
    qss_nil)
    (qss_one (qs_asg (vs := []) (qe_op od_mod (qe_callTy cd_int (by rfl) z_int PyProof.Rows.boot_int (qa_cons (qe_op od_add (qe_op od_add (qe_op od_mul (qe_ix (qv 0) qe_int (fun _ _ => rfl)) qe_int) (qe_op od_mul (qv 5) qe_int)) qe_int) qa_nil)) qe_int) (qg_sub (qv 0) qe_int)))))
    qss_nil)
    (qss_cons (qs_asg (vs := []) (qe_op od_mod (qe_callTy cd_int (by rfl) z_int PyProof.Rows.boot_int (qa_cons (qe_op od_add (qe_op od_add (qe_op od_mul (qe_ix (qv 0) qe_int (fun _ _ => rfl)) qe_int) (qe_op od_mul qe_int (qv 3))) qe_int) qa_nil)) qe_int) (qg_sub (qv 0) qe_int))
    (qss_one (qs_ret (qe_op od_mod (qe_callTy cd_int (by rfl) z_int PyProof.Rows.boot_int (qa_cons (qe_op od_fdiv (qe_op od_mul (qe_ix (qv 0) qe_int (fun _ _ => rfl)) (qe_ix (qv 0) qe_int (fun _ _ => rfl))) qe_int) qa_nil)) (qv 2))))))))))
abbrev s_law_words : Stmt := topS 18
theorem sc_law_words : FnScope ["words"] [] (defScope s_law_words) := ⟨rfl, rfl, rfl, by decide +kernel, rfl, by decide +kernel, by decide +kernel⟩
def b_law_words : TDS := (dSeq (dAsg (dLst (dCons (dC (.str "and")) (dCons (dC (.str "bool")) (dCons (dC (.str "box")) (dCons (dC (.str "do")) (dCons (dC (.str "else")) (dCons (dC (.str "false")) (dCons (dC (.str "fn")) (dCons (dC (.str "from")) (dCons (dC (.str "if")) (dCons (dC (.str "int")) (dCons (dC (.str "is")) (dCons (dC (.str "let")) (dCons (dC (.str "maybe")) (dCons (dC (.str "mut")) dNil))))))))))))))) (dName 0))
    (dSeq (dAsg (dOp rAdd (dVar 0) (dLst (dCons (dC (.str "none")) (dCons (dC (.str "not")) (dCons (dC (.str "or")) (dCons (dC (.str "print")) (dCons (dC (.str "record")) (dCons (dC (.str "return")) (dCons (dC (.str "some")) (dCons (dC (.str "swap")) (dCons (dC (.str "true")) (dCons (dC (.str "unbox")) dNil)))))))))))) (dName 0))
    (dRet (dOp rAdd (dVar 0) (dLst (dCons (dC (.str "unit")) (dCons (dC (.str "while")) (dCons (dC (.str "with")) dNil))))))))
theorem ok_law_words {P : Program} {w : World} {K : PySem.W.Frag} {mg : Str → Option Value} {k : Nat} {d : DSp} (F : FunAt K mg "_law_words" s_law_words [])
    (len : ∀ ds m P EX, d ds m P EX → ds.length = 0) (rd : ∀ ds m P EX, d ds m P EX → Go P (b_law_words) (dstart ["words"] ds) m) : Callee P w K mg (k + 1) "_law_words" [] d :=
  F.callee sc_law_words len (b_law_words) rd fun base f cdv A outer s H E hr =>
    ((qss_cons (qs_set (i := 0) sc_law_words.nd rfl (by first | exact Or.inl rfl | exact Or.inr rfl) (qe_lst (qa_cons qe_str (qa_cons qe_str (qa_cons qe_str (qa_cons qe_str (qa_cons qe_str (qa_cons qe_str (qa_cons qe_str (qa_cons qe_str (qa_cons qe_str (qa_cons qe_str (qa_cons qe_str (qa_cons qe_str (qa_cons qe_str (qa_cons qe_str qa_nil))))))))))))))))
    (qss_cons (qs_set (i := 0) sc_law_words.nd rfl (by first | exact Or.inl rfl | exact Or.inr rfl) (qe_op od_add (qv 0) (qe_lst (qa_cons qe_str (qa_cons qe_str (qa_cons qe_str (qa_cons qe_str (qa_cons qe_str (qa_cons qe_str (qa_cons qe_str (qa_cons qe_str (qa_cons qe_str (qa_cons qe_str qa_nil)))))))))))))
    (qss_one (qs_ret (qe_op od_add (qv 0) (qe_lst (qa_cons qe_str (qa_cons qe_str (qa_cons qe_str qa_nil))))))))))
abbrev s_law_name : Stmt := topS 19
theorem sc_law_name : FnScope ["state", "script", "letters", "chars", "size", "word", "k"] ["state", "script"] (defScope s_law_name) := ⟨rfl, rfl, rfl, by decide +kernel, rfl, by decide +kernel, by decide +kernel⟩
def b_law_name (d_law_pick d_law_words : DSp) : TDS := (dSeq (dAsg (dC (.str "abcdefghijklmnopqrstuvwxyz")) (dName 2))
    (dSeq (dAsg (dOp rAdd (dVar 2) (dC (.str "0123456789_"))) (dName 3))
    (dSeq (dAsg (dOp rAdd (dC (.int 1)) (dCall d_law_pick (dCons (dVar 0) (dCons (dVar 1) (dCons (dC (.int 4)) dNil))))) (dName 4))
    (dSeq (dIf (dB (dOp rEqD (dVar 4) (dC (.int 4))))
    (dAsg (dOp rAdd (dC (.int 1)) (dCall d_law_pick (dCons (dVar 0) (dCons (dVar 1) (dCons (dC (.int 20)) dNil))))) (dName 4))
    dNext)
    (dSeq (dAsg (dOp rIxD (dVar 2) (dCall d_law_pick (dCons (dVar 0) (dCons (dVar 1) (dCons (dC (.int 26)) dNil))))) (dName 5))
    (dSeq (dForR1 (dCons (dOp rSub (dVar 4) (dC (.int 1))) dNil) (dName 6)
    (dAsg (dOp rAdd (dVar 5) (dOp rIxD (dVar 3) (dCall d_law_pick (dCons (dVar 0) (dCons (dVar 1) (dCons (dC (.int 37)) dNil)))))) (dName 5)))
    (dSeq (dIf (dB (dOp rInD (dVar 5) (dCall d_law_words dNil)))
    (dRet (dOp rAdd (dVar 5) (dC (.str "_"))))
    dNext)
    (dRet (dVar 5)))))))))
theorem ok_law_name {P : Program} {w : World} {K : PySem.W.Frag} {mg : Str → Option Value} {k : Nat} {d d_law_pick d_law_words : DSp} (F : FunAt K mg "_law_name" s_law_name ["state", "script"]) (C_law_pick : Callee P w K mg k "_law_pick" ["state", "script", "many"] d_law_pick) (C_law_words : Callee P w K mg k "_law_words" [] d_law_words) (z_range : mg "range" = none)
    (len : ∀ ds m P EX, d ds m P EX → ds.length = 2) (rd : ∀ ds m P EX, d ds m P EX → Go P (b_law_name d_law_pick d_law_words) (dstart ["state", "script", "letters", "chars", "size", "word", "k"] ds) m) : Callee P w K mg (k + 1) "_law_name" ["state", "script"] d :=
  F.callee sc_law_name len (b_law_name d_law_pick d_law_words) rd fun base f cdv A outer s H E hr =>
    ((qss_cons (qs_set (i := 2) sc_law_name.nd rfl (by first | exact Or.inl rfl | exact Or.inr rfl) qe_str)
    (qss_cons (qs_set (i := 3) sc_law_name.nd rfl (by first | exact Or.inl rfl | exact Or.inr rfl) (qe_op od_add (qv 2) qe_str))
    (qss_cons (qs_set (i := 4) sc_law_name.nd rfl (by first | exact Or.inl rfl | exact Or.inr rfl) (qe_op od_add qe_int (qe_fn C_law_pick hr (by rfl) (qa_cons (qv 0) (qa_cons (qv 1) (qa_cons qe_int qa_nil))))))
    (qss_cons (qs_if (qt_cmp (od_eq hr.units) (qv 4) qe_int (nomark _))
    (qss_one (qs_set (i := 4) sc_law_name.nd rfl (by first | exact Or.inl rfl | exact Or.inr rfl) (qe_op od_add qe_int (qe_fn C_law_pick hr (by rfl) (qa_cons (qv 0) (qa_cons (qv 1) (qa_cons qe_int qa_nil)))))))
    qss_nil)
    (qss_cons (qs_set (i := 5) sc_law_name.nd rfl (by first | exact Or.inl rfl | exact Or.inr rfl) (qe_ix (qv 2) (qe_fn C_law_pick hr (by rfl) (qa_cons (qv 0) (qa_cons (qv 1) (qa_cons qe_int qa_nil)))) (fun _ _ => rfl)))
    (qss_cons (qs_forR1 (vs := [6]) PassesOwn.never rfl (by rfl) z_range (qa_cons (qe_op od_sub (qv 4) qe_int) qa_nil) (qg_name (i := 6) sc_law_name.nd rfl (by first | exact Or.inl rfl | exact Or.inr rfl) (by decide))
    (qss_one (qs_set (i := 5) sc_law_name.nd rfl (by first | exact Or.inl rfl | exact Or.inr rfl) (qe_op od_add (qv 5) (qe_ix (qv 3) (qe_fn C_law_pick hr (by rfl) (qa_cons (qv 0) (qa_cons (qv 1) (qa_cons qe_int qa_nil)))) (fun _ _ => rfl))))))
    (qss_cons (qs_if (qt_cmp od_inD (qv 5) (qe_fn0 C_law_words hr (by rfl)) (by rfl))
    (qss_one (qs_ret (qe_op od_add (qv 5) qe_str)))
    qss_nil)
    (qss_one (qs_ret (qv 5)))))))))))
abbrev s_law_big : Stmt := topS 20
theorem sc_law_big : FnScope ["state", "script", "letters", "chars", "size", "word", "k"] ["state", "script"] (defScope s_law_big) := ⟨rfl, rfl, rfl, by decide +kernel, rfl, by decide +kernel, by decide +kernel⟩
def b_law_big (d_law_pick : DSp) : TDS := (dSeq (dAsg (dC (.str "ABCDEFGHIJKLMNOPQRSTUVWXYZ")) (dName 2))
    (dSeq (dAsg (dOp rAdd (dVar 2) (dC (.str "abcdefghijklmnopqrstuvwxyz0123456789"))) (dName 3))
    (dSeq (dAsg (dOp rAdd (dC (.int 1)) (dCall d_law_pick (dCons (dVar 0) (dCons (dVar 1) (dCons (dC (.int 4)) dNil))))) (dName 4))
    (dSeq (dIf (dB (dOp rEqD (dVar 4) (dC (.int 4))))
    (dAsg (dOp rAdd (dC (.int 1)) (dCall d_law_pick (dCons (dVar 0) (dCons (dVar 1) (dCons (dC (.int 20)) dNil))))) (dName 4))
    dNext)
    (dSeq (dAsg (dOp rIxD (dVar 2) (dCall d_law_pick (dCons (dVar 0) (dCons (dVar 1) (dCons (dC (.int 26)) dNil))))) (dName 5))
    (dSeq (dForR1 (dCons (dOp rSub (dVar 4) (dC (.int 1))) dNil) (dName 6)
    (dAsg (dOp rAdd (dVar 5) (dOp rIxD (dVar 3) (dCall d_law_pick (dCons (dVar 0) (dCons (dVar 1) (dCons (dC (.int 62)) dNil)))))) (dName 5)))
    (dRet (dVar 5))))))))
theorem ok_law_big {P : Program} {w : World} {K : PySem.W.Frag} {mg : Str → Option Value} {k : Nat} {d d_law_pick : DSp} (F : FunAt K mg "_law_big" s_law_big ["state", "script"]) (C_law_pick : Callee P w K mg k "_law_pick" ["state", "script", "many"] d_law_pick) (z_range : mg "range" = none)
    (len : ∀ ds m P EX, d ds m P EX → ds.length = 2) (rd : ∀ ds m P EX, d ds m P EX → Go P (b_law_big d_law_pick) (dstart ["state", "script", "letters", "chars", "size", "word", "k"] ds) m) : Callee P w K mg (k + 1) "_law_big" ["state", "script"] d :=
  F.callee sc_law_big len (b_law_big d_law_pick) rd fun base f cdv A outer s H E hr =>
    ((qss_cons (qs_set (i := 2) sc_law_big.nd rfl (by first | exact Or.inl rfl | exact Or.inr rfl) qe_str)
    (qss_cons (qs_set (i := 3) sc_law_big.nd rfl (by first | exact Or.inl rfl | exact Or.inr rfl) (qe_op od_add (qv 2) qe_str))
    (qss_cons (qs_set (i := 4) sc_law_big.nd rfl (by first | exact Or.inl rfl | exact Or.inr rfl) (qe_op od_add qe_int (qe_fn C_law_pick hr (by rfl) (qa_cons (qv 0) (qa_cons (qv 1) (qa_cons qe_int qa_nil))))))
    (qss_cons (qs_if (qt_cmp (od_eq hr.units) (qv 4) qe_int (nomark _))
    (qss_one (qs_set (i := 4) sc_law_big.nd rfl (by first | exact Or.inl rfl | exact Or.inr rfl) (qe_op od_add qe_int (qe_fn C_law_pick hr (by rfl) (qa_cons (qv 0) (qa_cons (qv 1) (qa_cons qe_int qa_nil)))))))
    qss_nil)
    (qss_cons (qs_set (i := 5) sc_law_big.nd rfl (by first | exact Or.inl rfl | exact Or.inr rfl) (qe_ix (qv 2) (qe_fn C_law_pick hr (by rfl) (qa_cons (qv 0) (qa_cons (qv 1) (qa_cons qe_int qa_nil)))) (fun _ _ => rfl)))
    (qss_cons (qs_forR1 (vs := [6]) PassesOwn.never rfl (by rfl) z_range (qa_cons (qe_op od_sub (qv 4) qe_int) qa_nil) (qg_name (i := 6) sc_law_big.nd rfl (by first | exact Or.inl rfl | exact Or.inr rfl) (by decide))
    (qss_one (qs_set (i := 5) sc_law_big.nd rfl (by first | exact Or.inl rfl | exact Or.inr rfl) (qe_op od_add (qv 5) (qe_ix (qv 3) (qe_fn C_law_pick hr (by rfl) (qa_cons (qv 0) (qa_cons (qv 1) (qa_cons qe_int qa_nil)))) (fun _ _ => rfl))))))
    (qss_one (qs_ret (qv 5))))))))))
abbrev s_law_new : Stmt := topS 21
theorem sc_law_new : FnScope ["taken", "word", "k", "other"] ["taken", "word"] (defScope s_law_new) := ⟨rfl, rfl, rfl, by decide +kernel, rfl, by decide +kernel, by decide +kernel⟩
def b_law_new : TDS := (dSeq (dIf (dB (dOp rNotInD (dVar 1) (dVar 0)))
    (dRet (dVar 1))
    dNext)
    (dSeq (dForR1 (dCons (dC (.int 100)) dNil) (dName 2)
    (dSeq (dAsg (dOp rAdd (dSl (dVar 1) dNoPart (dPart (dC (.int 18)))) (dCB rStr (dCons (dVar 2) dNil))) (dName 3))
    (dIf (dB (dOp rNotInD (dVar 3) (dVar 0)))
    (dRet (dVar 3))
    dNext)))
    (dRet (dVar 1))))
theorem ok_law_new {P : Program} {w : World} {K : PySem.W.Frag} {mg : Str → Option Value} {k : Nat} {d : DSp} (F : FunAt K mg "_law_new" s_law_new ["taken", "word"]) (z_str : mg "str" = none) (z_range : mg "range" = none)
    (len : ∀ ds m P EX, d ds m P EX → ds.length = 2) (rd : ∀ ds m P EX, d ds m P EX → Go P (b_law_new) (dstart ["taken", "word", "k", "other"] ds) m) : Callee P w K mg (k + 1) "_law_new" ["taken", "word"] d :=
  F.callee sc_law_new len (b_law_new) rd fun base f cdv A outer s H E hr =>
    ((qss_cons (qs_if (qt_cmp od_notInD (qv 1) (qv 0) (by rfl))
    (qss_one (qs_ret (qv 1)))
    qss_nil)
    (qss_cons (qs_forR1 (vs := [2]) PassesOwn.never rfl (by rfl) z_range (qa_cons qe_int qa_nil) (qg_name (i := 2) sc_law_new.nd rfl (by first | exact Or.inl rfl | exact Or.inr rfl) (by decide))
    (qss_cons (qs_set (i := 3) sc_law_new.nd rfl (by first | exact Or.inl rfl | exact Or.inr rfl) (qe_op od_add (qe_slice (qv 1) qo_none (qo_some qe_int)) (qe_callTy cd_str (by rfl) z_str PyProof.Rows.boot_str (qa_cons (qv 2) qa_nil))))
    (qss_one (qs_if (qt_cmp od_notInD (qv 3) (qv 0) (by rfl))
    (qss_one (qs_ret (qv 3)))
    qss_nil))))
    (qss_one (qs_ret (qv 1))))))
abbrev s_law_kind : Stmt := topS 22
theorem sc_law_kind : FnScope ["state", "script", "room", "plain", "names", "choice", "items", "k"] ["state", "script", "room", "plain", "names"] (defScope s_law_kind) := ⟨rfl, rfl, rfl, by decide +kernel, rfl, by decide +kernel, by decide +kernel⟩
def b_law_kind (d_law_pick d_law_kind : DSp) : TDS := (dSeq (dAsg (dCall d_law_pick (dCons (dVar 0) (dCons (dVar 1) (dCons (dC (.int 10)) dNil)))) (dName 5))
    (dSeq (dIf (dAnd (dB (dOp rGtD (dVar 2) (dC (.int 1)))) (dAnd (dB (dOp rGtD (dOp rIxD (dVar 0) (dC (.int 3))) (dC (.int 0)))) (dB (dOp rGtD (dVar 5) (dC (.int 3))))))
    (dSeq (dAsg (dOp rSub (dOp rIxD (dVar 0) (dC (.int 3))) (dC (.int 1))) (dGSub (dVar 0) (dC (.int 3))))
    (dSeq (dIf (dB (dOp rEqD (dVar 5) (dC (.int 4))))
    (dRet (dTup (dCons (dC (.str "box")) (dCons (dCall d_law_kind (dCons (dVar 0) (dCons (dVar 1) (dCons (dOp rSub (dVar 2) (dC (.int 1))) (dCons (dC (.bl true)) (dCons (dVar 4) dNil)))))) dNil))))
    dNext)
    (dSeq (dIf (dB (dOp rEqD (dVar 5) (dC (.int 7))))
    (dSeq (dAsg (dLst dNil) (dName 6))
    (dSeq (dForR1 (dCons (dOp rAdd (dC (.int 2)) (dCall d_law_pick (dCons (dVar 0) (dCons (dVar 1) (dCons (dC (.int 5)) dNil))))) dNil) (dName 7)
    (dDrop (dBM isLst rApp (dVar 6) (dCons (dCall d_law_kind (dCons (dVar 0) (dCons (dVar 1) (dCons (dOp rSub (dVar 2) (dC (.int 1))) (dCons (dVar 3) (dCons (dVar 4) dNil)))))) dNil))))
    (dRet (dTup (dCons (dC (.str "tuple")) (dCons (dCB rTuple (dCons (dVar 6) dNil)) dNil))))))
    dNext)
    (dSeq (dIf (dOr (dB (dOp rLtD (dVar 5) (dC (.int 7)))) (dTru (dVar 3)))
    (dRet (dTup (dCons (dC (.str "maybe")) (dCons (dCall d_law_kind (dCons (dVar 0) (dCons (dVar 1) (dCons (dOp rSub (dVar 2) (dC (.int 1))) (dCons (dVar 3) (dCons (dVar 4) dNil)))))) dNil))))
    dNext)
    (dRet (dTup (dCons (dOp rIxD (dLst (dCons (dC (.str "shared")) (dCons (dC (.str "exclusive")) dNil))) (dOp rSub (dVar 5) (dC (.int 8)))) (dCons (dCall d_law_kind (dCons (dVar 0) (dCons (dVar 1) (dCons (dOp rSub (dVar 2) (dC (.int 1))) (dCons (dC (.bl true)) (dCons (dVar 4) dNil)))))) dNil))))))))
    dNext)
    (dSeq (dIf (dAnd (dB (dOp rEqD (dVar 5) (dC (.int 3)))) (dB (dOp rGtD (dCB rLen (dCons (dVar 4) dNil)) (dC (.int 0)))))
    (dRet (dTup (dCons (dC (.str "record")) (dCons (dOp rIxD (dVar 4) (dCall d_law_pick (dCons (dVar 0) (dCons (dVar 1) (dCons (dCB rLen (dCons (dVar 4) dNil)) dNil))))) dNil))))
    dNext)
    (dRet (dTup (dCons (dOp rIxD (dLst (dCons (dC (.str "int")) (dCons (dC (.str "bool")) (dCons (dC (.str "unit")) dNil)))) (dOp rMod (dCB rInt (dCons (dVar 5) dNil)) (dC (.int 3)))) dNil))))))
theorem ok_law_kind {P : Program} {w : World} {K : PySem.W.Frag} {mg : Str → Option Value} {k : Nat} {d d_law_pick d_law_kind : DSp} (F : FunAt K mg "_law_kind" s_law_kind ["state", "script", "room", "plain", "names"]) (C_law_pick : Callee P w K mg k "_law_pick" ["state", "script", "many"] d_law_pick) (C_law_kind : Callee P w K mg k "_law_kind" ["state", "script", "room", "plain", "names"] d_law_kind) (z_range : mg "range" = none) (z_tuple : mg "tuple" = none) (z_len : mg "len" = none) (z_int : mg "int" = none)
    (len : ∀ ds m P EX, d ds m P EX → ds.length = 5) (rd : ∀ ds m P EX, d ds m P EX → Go P (b_law_kind d_law_pick d_law_kind) (dstart ["state", "script", "room", "plain", "names", "choice", "items", "k"] ds) m) : Callee P w K mg (k + 1) "_law_kind" ["state", "script", "room", "plain", "names"] d :=
  F.callee sc_law_kind len (b_law_kind d_law_pick d_law_kind) rd fun base f cdv A outer s H E hr =>
    ((qss_cons (qs_set (i := 5) sc_law_kind.nd rfl (by first | exact Or.inl rfl | exact Or.inr rfl) (qe_fn C_law_pick hr (by rfl) (qa_cons (qv 0) (qa_cons (qv 1) (qa_cons qe_int qa_nil)))))
    (qss_cons (qs_if (PW.pt (qw_and (qt_cmp od_gt (qv 2) qe_int (nomark _)) (qw_and (qt_cmp od_gt (qe_ix (qv 0) qe_int (fun _ _ => rfl)) qe_int (nomark _)) (qw_and1 (qt_cmp od_gt (qv 5) qe_int (nomark _))))))
    (qss_cons (qs_asg (vs := []) (qe_op od_sub (qe_ix (qv 0) qe_int (fun _ _ => rfl)) qe_int) (qg_sub (qv 0) qe_int))
    (qss_cons (qs_if (qt_cmp (od_eq hr.units) (qv 5) qe_int (nomark _))
    (qss_one (qs_ret (qe_tup (qa_cons qe_str (qa_cons (qe_fn C_law_kind hr (by rfl) (qa_cons (qv 0) (qa_cons (qv 1) (qa_cons (qe_op od_sub (qv 2) qe_int) (qa_cons qe_bl (qa_cons (qv 4) qa_nil)))))) qa_nil)))))
    qss_nil)
    (qss_cons (qs_if (qt_cmp (od_eq hr.units) (qv 5) qe_int (nomark _))
    (qss_cons (qs_set (i := 6) sc_law_kind.nd rfl (by first | exact Or.inl rfl | exact Or.inr rfl) (qe_lst qa_nil))
    (qss_cons (qs_forR1 (vs := [7]) PassesOwn.never rfl (by rfl) z_range (qa_cons (qe_op od_add qe_int (qe_fn C_law_pick hr (by rfl) (qa_cons (qv 0) (qa_cons (qv 1) (qa_cons qe_int qa_nil))))) qa_nil) (qg_name (i := 7) sc_law_kind.nd rfl (by first | exact Or.inl rfl | exact Or.inr rfl) (by decide))
    (qss_one (qs_expr (qe_bm md_append PySem.F.plainAttrs_list PySem.F.slot_list_append PySem.F.type_list_append (qv 6) (qa_cons (qe_fn C_law_kind hr (by rfl) (qa_cons (qv 0) (qa_cons (qv 1) (qa_cons (qe_op od_sub (qv 2) qe_int) (qa_cons (qv 3) (qa_cons (qv 4) qa_nil)))))) qa_nil)))))
    (qss_one (qs_ret (qe_tup (qa_cons qe_str (qa_cons (qe_callTy cd_tuple (by rfl) z_tuple PyProof.Rows.boot_tuple (qa_cons (qv 6) qa_nil)) qa_nil)))))))
    qss_nil)
    (qss_cons (qs_if (PW.pt (qw_or (qt_cmp od_lt (qv 5) qe_int (nomark _)) (qw_or1 (qt_tru (qv 3)))))
    (qss_one (qs_ret (qe_tup (qa_cons qe_str (qa_cons (qe_fn C_law_kind hr (by rfl) (qa_cons (qv 0) (qa_cons (qv 1) (qa_cons (qe_op od_sub (qv 2) qe_int) (qa_cons (qv 3) (qa_cons (qv 4) qa_nil)))))) qa_nil)))))
    qss_nil)
    (qss_one (qs_ret (qe_tup (qa_cons (qe_ix (qe_lst (qa_cons qe_str (qa_cons qe_str qa_nil))) (qe_op od_sub (qv 5) qe_int) (fun _ _ => rfl)) (qa_cons (qe_fn C_law_kind hr (by rfl) (qa_cons (qv 0) (qa_cons (qv 1) (qa_cons (qe_op od_sub (qv 2) qe_int) (qa_cons qe_bl (qa_cons (qv 4) qa_nil)))))) qa_nil)))))))))
    qss_nil)
    (qss_cons (qs_if (PW.pt (qw_and (qt_cmp (od_eq hr.units) (qv 5) qe_int (nomark _)) (qw_and1 (qt_cmp od_gt (qe_callB (cd_len) (by rfl) z_len PySem.boot_len (qa_cons (qv 4) qa_nil)) qe_int (nomark _)))))
    (qss_one (qs_ret (qe_tup (qa_cons qe_str (qa_cons (qe_ix (qv 4) (qe_fn C_law_pick hr (by rfl) (qa_cons (qv 0) (qa_cons (qv 1) (qa_cons (qe_callB (cd_len) (by rfl) z_len PySem.boot_len (qa_cons (qv 4) qa_nil)) qa_nil)))) (fun _ _ => rfl)) qa_nil)))))
    qss_nil)
    (qss_one (qs_ret (qe_tup (qa_cons (qe_ix (qe_lst (qa_cons qe_str (qa_cons qe_str (qa_cons qe_str qa_nil)))) (qe_op od_mod (qe_callTy cd_int (by rfl) z_int PyProof.Rows.boot_int (qa_cons (qv 5) qa_nil)) qe_int) (fun _ _ => rfl)) qa_nil))))))))
abbrev s_law_is_plain : Stmt := topS 23
theorem sc_law_is_plain : FnScope ["kind", "item"] ["kind"] (defScope s_law_is_plain) := ⟨rfl, rfl, rfl, by decide +kernel, rfl, by decide +kernel, by decide +kernel⟩
def b_law_is_plain (d_law_is_plain : DSp) : TDS := (dSeq (dIf (dOr (dB (dOp rEqD (dOp rIxD (dVar 0) (dC (.int 0))) (dC (.str "shared")))) (dB (dOp rEqD (dOp rIxD (dVar 0) (dC (.int 0))) (dC (.str "exclusive")))))
    (dRet (dC (.bl false)))
    dNext)
    (dSeq (dIf (dB (dOp rEqD (dOp rIxD (dVar 0) (dC (.int 0))) (dC (.str "tuple"))))
    (dForS (dOp rIxD (dVar 0) (dC (.int 1))) (dName 1)
    (dIf (dNot (dTru (dCall d_law_is_plain (dCons (dVar 1) dNil))))
    (dRet (dC (.bl false)))
    dNext))
    dNext)
    (dSeq (dIf (dOr (dB (dOp rEqD (dOp rIxD (dVar 0) (dC (.int 0))) (dC (.str "maybe")))) (dB (dOp rEqD (dOp rIxD (dVar 0) (dC (.int 0))) (dC (.str "box")))))
    (dRet (dCall d_law_is_plain (dCons (dOp rIxD (dVar 0) (dC (.int 1))) dNil)))
    dNext)
    (dRet (dC (.bl true))))))
theorem ok_law_is_plain {P : Program} {w : World} {K : PySem.W.Frag} {mg : Str → Option Value} {k : Nat} {d d_law_is_plain : DSp} (F : FunAt K mg "_law_is_plain" s_law_is_plain ["kind"]) (C_law_is_plain : Callee P w K mg k "_law_is_plain" ["kind"] d_law_is_plain)
    (len : ∀ ds m P EX, d ds m P EX → ds.length = 1) (rd : ∀ ds m P EX, d ds m P EX → Go P (b_law_is_plain d_law_is_plain) (dstart ["kind", "item"] ds) m) : Callee P w K mg (k + 1) "_law_is_plain" ["kind"] d :=
  F.callee sc_law_is_plain len (b_law_is_plain d_law_is_plain) rd fun base f cdv A outer s H E hr =>
    ((qss_cons (qs_if (PW.pt (qw_or (qt_cmp (od_eq hr.units) (qe_ix (qv 0) qe_int (fun _ _ => rfl)) qe_str (nomark _)) (qw_or1 (qt_cmp (od_eq hr.units) (qe_ix (qv 0) qe_int (fun _ _ => rfl)) qe_str (nomark _)))))
    (qss_one (qs_ret qe_bl))
    qss_nil)
    (qss_cons (qs_if (qt_cmp (od_eq hr.units) (qe_ix (qv 0) qe_int (fun _ _ => rfl)) qe_str (nomark _))
    (qss_one (qs_forS (vs := [1]) PassesOwn.never rfl (qe_ix (qv 0) qe_int (fun _ _ => rfl)) (qg_name (i := 1) sc_law_is_plain.nd rfl (by first | exact Or.inl rfl | exact Or.inr rfl) (by decide))
    (qss_one (qs_if (qt_not (qt_tru (qe_fn C_law_is_plain hr (by rfl) (qa_cons (qv 1) qa_nil))))
    (qss_one (qs_ret qe_bl))
    qss_nil))))
    qss_nil)
    (qss_cons (qs_if (PW.pt (qw_or (qt_cmp (od_eq hr.units) (qe_ix (qv 0) qe_int (fun _ _ => rfl)) qe_str (nomark _)) (qw_or1 (qt_cmp (od_eq hr.units) (qe_ix (qv 0) qe_int (fun _ _ => rfl)) qe_str (nomark _)))))
    (qss_one (qs_ret (qe_fn C_law_is_plain hr (by rfl) (qa_cons (qe_ix (qv 0) qe_int (fun _ _ => rfl)) qa_nil))))
    qss_nil)
    (qss_one (qs_ret qe_bl))))))
abbrev s_law_wide : Stmt := topS 24
theorem sc_law_wide : FnScope ["state", "script", "forms", "rows", "k", "items", "j"] ["state", "script"] (defScope s_law_wide) := ⟨rfl, rfl, rfl, by decide +kernel, rfl, by decide +kernel, by decide +kernel⟩
def b_law_wide (d_law_pick : DSp) : TDS := (dSeq (dAsg (dLst (dCons (dTup (dCons (dC (.str "shared")) (dCons (dTup (dCons (dC (.str "int")) dNil)) dNil))) (dCons (dTup (dCons (dC (.str "exclusive")) (dCons (dTup (dCons (dC (.str "bool")) dNil)) dNil))) (dCons (dTup (dCons (dC (.str "shared")) (dCons (dTup (dCons (dC (.str "box")) (dCons (dTup (dCons (dC (.str "int")) dNil)) dNil))) dNil))) (dCons (dTup (dCons (dC (.str "box")) (dCons (dTup (dCons (dC (.str "unit")) dNil)) dNil))) dNil))))) (dName 2))
    (dSeq (dAsg (dLst dNil) (dName 3))
    (dSeq (dForR1 (dCons (dOp rAdd (dC (.int 2)) (dCall d_law_pick (dCons (dVar 0) (dCons (dVar 1) (dCons (dC (.int 5)) dNil))))) dNil) (dName 4)
    (dSeq (dAsg (dLst dNil) (dName 5))
    (dSeq (dForR1 (dCons (dOp rAdd (dC (.int 2)) (dCall d_law_pick (dCons (dVar 0) (dCons (dVar 1) (dCons (dC (.int 5)) dNil))))) dNil) (dName 6)
    (dDrop (dBM isLst rApp (dVar 5) (dCons (dOp rIxD (dOp rAdd (dVar 2) (dLst (dCons (dTup (dCons (dC (.str "unit")) dNil)) dNil))) (dCall d_law_pick (dCons (dVar 0) (dCons (dVar 1) (dCons (dC (.int 5)) dNil))))) dNil))))
    (dDrop (dBM isLst rApp (dVar 3) (dCons (dTup (dCons (dC (.str "tuple")) (dCons (dCB rTuple (dCons (dVar 5) dNil)) dNil))) dNil))))))
    (dRet (dTup (dCons (dC (.str "tuple")) (dCons (dCB rTuple (dCons (dVar 3) dNil)) dNil)))))))
theorem ok_law_wide {P : Program} {w : World} {K : PySem.W.Frag} {mg : Str → Option Value} {k : Nat} {d d_law_pick : DSp} (F : FunAt K mg "_law_wide" s_law_wide ["state", "script"]) (C_law_pick : Callee P w K mg k "_law_pick" ["state", "script", "many"] d_law_pick) (z_range : mg "range" = none) (z_tuple : mg "tuple" = none)
    (len : ∀ ds m P EX, d ds m P EX → ds.length = 2) (rd : ∀ ds m P EX, d ds m P EX → Go P (b_law_wide d_law_pick) (dstart ["state", "script", "forms", "rows", "k", "items", "j"] ds) m) : Callee P w K mg (k + 1) "_law_wide" ["state", "script"] d :=
  F.callee sc_law_wide len (b_law_wide d_law_pick) rd fun base f cdv A outer s H E hr =>
    ((qss_cons (qs_set (i := 2) sc_law_wide.nd rfl (by first | exact Or.inl rfl | exact Or.inr rfl) (qe_lst (qa_cons (qe_tup (qa_cons qe_str (qa_cons (qe_tup (qa_cons qe_str qa_nil)) qa_nil))) (qa_cons (qe_tup (qa_cons qe_str (qa_cons (qe_tup (qa_cons qe_str qa_nil)) qa_nil))) (qa_cons (qe_tup (qa_cons qe_str (qa_cons (qe_tup (qa_cons qe_str (qa_cons (qe_tup (qa_cons qe_str qa_nil)) qa_nil))) qa_nil))) (qa_cons (qe_tup (qa_cons qe_str (qa_cons (qe_tup (qa_cons qe_str qa_nil)) qa_nil))) qa_nil))))))
    (qss_cons (qs_set (i := 3) sc_law_wide.nd rfl (by first | exact Or.inl rfl | exact Or.inr rfl) (qe_lst qa_nil))
    (qss_cons (qs_forR1 (vs := [4]) PassesOwn.never rfl (by rfl) z_range (qa_cons (qe_op od_add qe_int (qe_fn C_law_pick hr (by rfl) (qa_cons (qv 0) (qa_cons (qv 1) (qa_cons qe_int qa_nil))))) qa_nil) (qg_name (i := 4) sc_law_wide.nd rfl (by first | exact Or.inl rfl | exact Or.inr rfl) (by decide))
    (qss_cons (qs_set (i := 5) sc_law_wide.nd rfl (by first | exact Or.inl rfl | exact Or.inr rfl) (qe_lst qa_nil))
    (qss_cons (qs_forR1 (vs := [6]) PassesOwn.never rfl (by rfl) z_range (qa_cons (qe_op od_add qe_int (qe_fn C_law_pick hr (by rfl) (qa_cons (qv 0) (qa_cons (qv 1) (qa_cons qe_int qa_nil))))) qa_nil) (qg_name (i := 6) sc_law_wide.nd rfl (by first | exact Or.inl rfl | exact Or.inr rfl) (by decide))
    (qss_one (qs_expr (qe_bm md_append PySem.F.plainAttrs_list PySem.F.slot_list_append PySem.F.type_list_append (qv 5) (qa_cons (qe_ix (qe_op od_add (qv 2) (qe_lst (qa_cons (qe_tup (qa_cons qe_str qa_nil)) qa_nil))) (qe_fn C_law_pick hr (by rfl) (qa_cons (qv 0) (qa_cons (qv 1) (qa_cons qe_int qa_nil)))) (fun _ _ => rfl)) qa_nil)))))
    (qss_one (qs_expr (qe_bm md_append PySem.F.plainAttrs_list PySem.F.slot_list_append PySem.F.type_list_append (qv 3) (qa_cons (qe_tup (qa_cons qe_str (qa_cons (qe_callTy cd_tuple (by rfl) z_tuple PyProof.Rows.boot_tuple (qa_cons (qv 5) qa_nil)) qa_nil))) qa_nil)))))))
    (qss_one (qs_ret (qe_tup (qa_cons qe_str (qa_cons (qe_callTy cd_tuple (by rfl) z_tuple PyProof.Rows.boot_tuple (qa_cons (qv 3) qa_nil)) qa_nil)))))))))
abbrev s_law_any_kind : Stmt := topS 25
theorem sc_law_any_kind : FnScope ["state", "script", "names", "kind", "k", "choice"] ["state", "script", "names"] (defScope s_law_any_kind) := ⟨rfl, rfl, rfl, by decide +kernel, rfl, by decide +kernel, by decide +kernel⟩
def b_law_any_kind (d_law_pick d_law_wide d_law_kind d_law_is_plain : DSp) : TDS := (dSeq (dIf (dB (dOp rEqD (dCall d_law_pick (dCons (dVar 0) (dCons (dVar 1) (dCons (dC (.int 8)) dNil)))) (dC (.int 0))))
    (dRet (dCall d_law_wide (dCons (dVar 0) (dCons (dVar 1) dNil))))
    dNext)
    (dSeq (dAsg (dC (.int 9)) (dGSub (dVar 0) (dC (.int 3))))
    (dSeq (dIf (dB (dOp rGtD (dCall d_law_pick (dCons (dVar 0) (dCons (dVar 1) (dCons (dC (.int 3)) dNil)))) (dC (.int 0))))
    (dRet (dCall d_law_kind (dCons (dVar 0) (dCons (dVar 1) (dCons (dC (.int 6)) (dCons (dC (.bl false)) (dCons (dVar 2) dNil)))))))
    dNext)
    (dSeq (dAsg (dCall d_law_kind (dCons (dVar 0) (dCons (dVar 1) (dCons (dC (.int 2)) (dCons (dC (.bl false)) (dCons (dVar 2) dNil)))))) (dName 3))
    (dSeq (dForR1 (dCons (dCall d_law_pick (dCons (dVar 0) (dCons (dVar 1) (dCons (dC (.int 5)) dNil)))) dNil) (dName 4)
    (dSeq (dAsg (dCall d_law_pick (dCons (dVar 0) (dCons (dVar 1) (dCons (dC (.int 5)) dNil)))) (dName 5))
    (dIf (dAnd (dB (dOp rLtD (dVar 5) (dC (.int 3)))) (dTru (dCall d_law_is_plain (dCons (dVar 3) dNil))))
    (dAsg (dTup (dCons (dOp rIxD (dLst (dCons (dC (.str "box")) (dCons (dC (.str "shared")) (dCons (dC (.str "exclusive")) dNil)))) (dVar 5)) (dCons (dVar 3) dNil))) (dName 3))
    (dIf (dB (dOp rEqD (dVar 5) (dC (.int 3))))
    (dAsg (dTup (dCons (dC (.str "tuple")) (dCons (dTup (dCons (dTup (dCons (dC (.str "unit")) dNil)) (dCons (dVar 3) dNil))) dNil))) (dName 3))
    (dAsg (dTup (dCons (dC (.str "maybe")) (dCons (dVar 3) dNil))) (dName 3))))))
    (dRet (dVar 3)))))))
theorem ok_law_any_kind {P : Program} {w : World} {K : PySem.W.Frag} {mg : Str → Option Value} {k : Nat} {d d_law_pick d_law_wide d_law_kind d_law_is_plain : DSp} (F : FunAt K mg "_law_any_kind" s_law_any_kind ["state", "script", "names"]) (C_law_pick : Callee P w K mg k "_law_pick" ["state", "script", "many"] d_law_pick) (C_law_wide : Callee P w K mg k "_law_wide" ["state", "script"] d_law_wide) (C_law_kind : Callee P w K mg k "_law_kind" ["state", "script", "room", "plain", "names"] d_law_kind) (C_law_is_plain : Callee P w K mg k "_law_is_plain" ["kind"] d_law_is_plain) (z_range : mg "range" = none)
    (len : ∀ ds m P EX, d ds m P EX → ds.length = 3) (rd : ∀ ds m P EX, d ds m P EX → Go P (b_law_any_kind d_law_pick d_law_wide d_law_kind d_law_is_plain) (dstart ["state", "script", "names", "kind", "k", "choice"] ds) m) : Callee P w K mg (k + 1) "_law_any_kind" ["state", "script", "names"] d :=
  F.callee sc_law_any_kind len (b_law_any_kind d_law_pick d_law_wide d_law_kind d_law_is_plain) rd fun base f cdv A outer s H E hr =>
    ((qss_cons (qs_if (qt_cmp (od_eq hr.units) (qe_fn C_law_pick hr (by rfl) (qa_cons (qv 0) (qa_cons (qv 1) (qa_cons qe_int qa_nil)))) qe_int (nomark _))
    (qss_one (qs_ret (qe_fn C_law_wide hr (by rfl) (qa_cons (qv 0) (qa_cons (qv 1) qa_nil)))))
    qss_nil)
    (qss_cons (qs_asg (vs := []) qe_int (qg_sub (qv 0) qe_int))
    (qss_cons (qs_if (qt_cmp od_gt (qe_fn C_law_pick hr (by rfl) (qa_cons (qv 0) (qa_cons (qv 1) (qa_cons qe_int qa_nil)))) qe_int (nomark _))
    (qss_one (qs_ret (qe_fn C_law_kind hr (by rfl) (qa_cons (qv 0) (qa_cons (qv 1) (qa_cons qe_int (qa_cons qe_bl (qa_cons (qv 2) qa_nil))))))))
    qss_nil)
    (qss_cons (qs_set (i := 3) sc_law_any_kind.nd rfl (by first | exact Or.inl rfl | exact Or.inr rfl) (qe_fn C_law_kind hr (by rfl) (qa_cons (qv 0) (qa_cons (qv 1) (qa_cons qe_int (qa_cons qe_bl (qa_cons (qv 2) qa_nil)))))))
    (qss_cons (qs_forR1 (vs := [4]) PassesOwn.never rfl (by rfl) z_range (qa_cons (qe_fn C_law_pick hr (by rfl) (qa_cons (qv 0) (qa_cons (qv 1) (qa_cons qe_int qa_nil)))) qa_nil) (qg_name (i := 4) sc_law_any_kind.nd rfl (by first | exact Or.inl rfl | exact Or.inr rfl) (by decide))
    (qss_cons (qs_set (i := 5) sc_law_any_kind.nd rfl (by first | exact Or.inl rfl | exact Or.inr rfl) (qe_fn C_law_pick hr (by rfl) (qa_cons (qv 0) (qa_cons (qv 1) (qa_cons qe_int qa_nil)))))
    (qss_one (qs_if (PW.pt (qw_and (qt_cmp od_lt (qv 5) qe_int (nomark _)) (qw_and1 (qt_tru (qe_fn C_law_is_plain hr (by rfl) (qa_cons (qv 3) qa_nil))))))
    (qss_one (qs_set (i := 3) sc_law_any_kind.nd rfl (by first | exact Or.inl rfl | exact Or.inr rfl) (qe_tup (qa_cons (qe_ix (qe_lst (qa_cons qe_str (qa_cons qe_str (qa_cons qe_str qa_nil)))) (qv 5) (fun _ _ => rfl)) (qa_cons (qv 3) qa_nil)))))
    (qss_one (qs_if (qt_cmp (od_eq hr.units) (qv 5) qe_int (nomark _))
    (qss_one (qs_set (i := 3) sc_law_any_kind.nd rfl (by first | exact Or.inl rfl | exact Or.inr rfl) (qe_tup (qa_cons qe_str (qa_cons (qe_tup (qa_cons (qe_tup (qa_cons qe_str qa_nil)) (qa_cons (qv 3) qa_nil))) qa_nil)))))
    (qss_one (qs_set (i := 3) sc_law_any_kind.nd rfl (by first | exact Or.inl rfl | exact Or.inr rfl) (qe_tup (qa_cons qe_str (qa_cons (qv 3) qa_nil)))))))))))
    (qss_one (qs_ret (qv 3)))))))))
abbrev s_law_same : Stmt := topS 26
theorem sc_law_same : FnScope ["actual", "due", "k"] ["actual", "due"] (defScope s_law_same) := ⟨rfl, rfl, rfl, by decide +kernel, rfl, by decide +kernel, by decide +kernel⟩
def b_law_same (d_law_same : DSp) : TDS := (dSeq (dIf (dTru (dCB rIsD (dCons (dVar 1) (dCons (dC (.ty "tuple")) dNil))))
    (dSeq (dIf (dOr (dNot (dTru (dCB rIsD (dCons (dVar 0) (dCons (dC (.ty "tuple")) dNil))))) (dB (dOp rNeD (dCB rLen (dCons (dVar 0) dNil)) (dCB rLen (dCons (dVar 1) dNil)))))
    (dRet (dC (.bl false)))
    dNext)
    (dSeq (dForR1 (dCons (dCB rLen (dCons (dVar 1) dNil)) dNil) (dName 2)
    (dIf (dNot (dTru (dCall d_law_same (dCons (dOp rIxD (dVar 0) (dVar 2)) (dCons (dOp rIxD (dVar 1) (dVar 2)) dNil)))))
    (dRet (dC (.bl false)))
    dNext))
    (dRet (dC (.bl true)))))
    dNext)
    (dSeq (dIf (dTru (dCB rIsD (dCons (dVar 1) (dCons (dC (.ty "bool")) dNil))))
    (dRet (dAndV (dCB rIsD (dCons (dVar 0) (dCons (dC (.ty "bool")) dNil))) (dOp rEqD (dVar 0) (dVar 1))))
    dNext)
    (dSeq (dIf (dTru (dCB rIsD (dCons (dVar 1) (dCons (dC (.ty "int")) dNil))))
    (dRet (dAndV (dCB rIsD (dCons (dVar 0) (dCons (dC (.ty "int")) dNil))) (dAndV (dNotV (dCB rIsD (dCons (dVar 0) (dCons (dC (.ty "bool")) dNil)))) (dOp rEqD (dVar 0) (dVar 1)))))
    dNext)
    (dRet (dAndV (dCB rIsD (dCons (dVar 0) (dCons (dC (.ty "str")) dNil))) (dOp rEqD (dVar 0) (dVar 1)))))))
theorem ok_law_same {P : Program} {w : World} {K : PySem.W.Frag} {mg : Str → Option Value} {k : Nat} {d d_law_same : DSp} (F : FunAt K mg "_law_same" s_law_same ["actual", "due"]) (C_law_same : Callee P w K mg k "_law_same" ["actual", "due"] d_law_same) (z_tuple : mg "tuple" = none) (z_isinstance : mg "isinstance" = none) (z_len : mg "len" = none) (z_range : mg "range" = none) (z_bool : mg "bool" = none) (z_int : mg "int" = none) (z_str : mg "str" = none)
    (len : ∀ ds m P EX, d ds m P EX → ds.length = 2) (rd : ∀ ds m P EX, d ds m P EX → Go P (b_law_same d_law_same) (dstart ["actual", "due", "k"] ds) m) : Callee P w K mg (k + 1) "_law_same" ["actual", "due"] d :=
  F.callee sc_law_same len (b_law_same d_law_same) rd fun base f cdv A outer s H E hr =>
    ((qss_cons (qs_if (qt_tru (qe_callB (cd_isi) (by rfl) z_isinstance PyProof.Rows.boot_isinstance (qa_cons (qv 1) (qa_cons (qe_type (by rfl) z_tuple PyProof.Rows.boot_tuple) qa_nil))))
    (qss_cons (qs_if (PW.pt (qw_or (qt_not (qt_tru (qe_callB (cd_isi) (by rfl) z_isinstance PyProof.Rows.boot_isinstance (qa_cons (qv 0) (qa_cons (qe_type (by rfl) z_tuple PyProof.Rows.boot_tuple) qa_nil))))) (qw_or1 (qt_cmp (od_ne hr.units) (qe_callB (cd_len) (by rfl) z_len PySem.boot_len (qa_cons (qv 0) qa_nil)) (qe_callB (cd_len) (by rfl) z_len PySem.boot_len (qa_cons (qv 1) qa_nil)) (nomark _)))))
    (qss_one (qs_ret qe_bl))
    qss_nil)
    (qss_cons (qs_forR1 (vs := [2]) PassesOwn.never rfl (by rfl) z_range (qa_cons (qe_callB (cd_len) (by rfl) z_len PySem.boot_len (qa_cons (qv 1) qa_nil)) qa_nil) (qg_name (i := 2) sc_law_same.nd rfl (by first | exact Or.inl rfl | exact Or.inr rfl) (by decide))
    (qss_one (qs_if (qt_not (qt_tru (qe_fn C_law_same hr (by rfl) (qa_cons (qe_ix (qv 0) (qv 2) (fun _ _ => rfl)) (qa_cons (qe_ix (qv 1) (qv 2) (fun _ _ => rfl)) qa_nil)))))
    (qss_one (qs_ret qe_bl))
    qss_nil)))
    (qss_one (qs_ret qe_bl))))
    qss_nil)
    (qss_cons (qs_if (qt_tru (qe_callB (cd_isi) (by rfl) z_isinstance PyProof.Rows.boot_isinstance (qa_cons (qv 1) (qa_cons (qe_type (by rfl) z_bool PyProof.Rows.boot_bool) qa_nil))))
    (qss_one (qs_ret (qe_and (qe_callB (cd_isi) (by rfl) z_isinstance PyProof.Rows.boot_isinstance (qa_cons (qv 0) (qa_cons (qe_type (by rfl) z_bool PyProof.Rows.boot_bool) qa_nil))) (qe_one (qe_cmp (od_eq hr.units) (qv 0) (qv 1) (nomark _))))))
    qss_nil)
    (qss_cons (qs_if (qt_tru (qe_callB (cd_isi) (by rfl) z_isinstance PyProof.Rows.boot_isinstance (qa_cons (qv 1) (qa_cons (qe_type (by rfl) z_int PyProof.Rows.boot_int) qa_nil))))
    (qss_one (qs_ret (qe_and (qe_callB (cd_isi) (by rfl) z_isinstance PyProof.Rows.boot_isinstance (qa_cons (qv 0) (qa_cons (qe_type (by rfl) z_int PyProof.Rows.boot_int) qa_nil))) (qe_and (qe_not (qe_callB (cd_isi) (by rfl) z_isinstance PyProof.Rows.boot_isinstance (qa_cons (qv 0) (qa_cons (qe_type (by rfl) z_bool PyProof.Rows.boot_bool) qa_nil)))) (qe_one (qe_cmp (od_eq hr.units) (qv 0) (qv 1) (nomark _)))))))
    qss_nil)
    (qss_one (qs_ret (qe_and (qe_callB (cd_isi) (by rfl) z_isinstance PyProof.Rows.boot_isinstance (qa_cons (qv 0) (qa_cons (qe_type (by rfl) z_str PyProof.Rows.boot_str) qa_nil))) (qe_one (qe_cmp (od_eq hr.units) (qv 0) (qv 1) (nomark _))))))))))
abbrev s_law_size : Stmt := topS 27
theorem sc_law_size : FnScope ["rows", "kind", "row", "item", "field"] ["rows", "kind"] (defScope s_law_size) := ⟨rfl, rfl, rfl, by decide +kernel, rfl, by decide +kernel, by decide +kernel⟩
def b_law_size (d_law_size : DSp) : TDS := (dSeq (dIf (dB (dOp rEqD (dOp rIxD (dVar 1) (dC (.int 0))) (dC (.str "maybe"))))
    (dRet (dOp rAdd (dC (.int 1)) (dCall d_law_size (dCons (dVar 0) (dCons (dOp rIxD (dVar 1) (dC (.int 1))) dNil)))))
    dNext)
    (dSeq (dIf (dB (dOp rEqD (dOp rIxD (dVar 1) (dC (.int 0))) (dC (.str "tuple"))))
    (dRet (dCB rSumD (dCons (dLcS (dOp rIxD (dVar 1) (dC (.int 1))) (dName 3) dYes (dCall d_law_size (dCons (dVar 0) (dCons (dVar 3) dNil))) [3]) dNil)))
    dNext)
    (dSeq (dIf (dB (dOp rEqD (dOp rIxD (dVar 1) (dC (.int 0))) (dC (.str "record"))))
    (dForS (dVar 0) (dName 2)
    (dIf (dB (dOp rEqD (dOp rIxD (dVar 2) (dC (.int 0))) (dOp rIxD (dVar 1) (dC (.int 1)))))
    (dRet (dCB rSumD (dCons (dLcS (dOp rIxD (dVar 2) (dC (.int 1))) (dName 4) dYes (dCall d_law_size (dCons (dVar 0) (dCons (dOp rIxD (dVar 4) (dC (.int 1))) dNil))) [4]) dNil)))
    dNext))
    dNext)
    (dRet (dC (.int 1))))))
theorem ok_law_size {P : Program} {w : World} {K : PySem.W.Frag} {mg : Str → Option Value} {k : Nat} {d d_law_size : DSp} (F : FunAt K mg "_law_size" s_law_size ["rows", "kind"]) (C_law_size : Callee P w K mg k "_law_size" ["rows", "kind"] d_law_size) (z_sum : mg "sum" = none)
    (len : ∀ ds m P EX, d ds m P EX → ds.length = 2) (rd : ∀ ds m P EX, d ds m P EX → Go P (b_law_size d_law_size) (dstart ["rows", "kind", "row", "item", "field"] ds) m) : Callee P w K mg (k + 1) "_law_size" ["rows", "kind"] d :=
  F.callee sc_law_size len (b_law_size d_law_size) rd fun base f cdv A outer s H E hr =>
    ((qss_cons (qs_if (qt_cmp (od_eq hr.units) (qe_ix (qv 1) qe_int (fun _ _ => rfl)) qe_str (nomark _))
    (qss_one (qs_ret (qe_op od_add qe_int (qe_fn C_law_size hr (by rfl) (qa_cons (qv 0) (qa_cons (qe_ix (qv 1) qe_int (fun _ _ => rfl)) qa_nil))))))
    qss_nil)
    (qss_cons (qs_if (qt_cmp (od_eq hr.units) (qe_ix (qv 1) qe_int (fun _ _ => rfl)) qe_str (nomark _))
    (qss_one (qs_ret (qe_callB (cd_sum rfl) (by rfl) z_sum (by decide +kernel) (qa_cons (qe_lcX (own := [("item", 3)]) rfl sc_law_size.nd (pi_sq (qe_ix (qv 1) qe_int (fun _ _ => rfl))) (blkOk_by (N := ["rows", "kind", "row", "item", "field"]) (sc := defScope s_law_size) (by decide +kernel)) (fun _ _ _ _ _ => (qg_name (i := 3) sc_law_size.nd rfl (by first | exact Or.inl rfl | exact Or.inr rfl) (by decide))) (fun _ _ _ _ _ => qts_nil) (fun _ _ _ _ _ => (qe_fn C_law_size hr (by rfl) (qa_cons (qv 0) (qa_cons (qv 3) qa_nil)))) (fun _ _ _ => l_lcS)) qa_nil))))
    qss_nil)
    (qss_cons (qs_if (qt_cmp (od_eq hr.units) (qe_ix (qv 1) qe_int (fun _ _ => rfl)) qe_str (nomark _))
    (qss_one (qs_forS (vs := [2]) PassesOwn.never rfl (qv 0) (qg_name (i := 2) sc_law_size.nd rfl (by first | exact Or.inl rfl | exact Or.inr rfl) (by decide))
    (qss_one (qs_if (qt_cmp (od_eq hr.units) (qe_ix (qv 2) qe_int (fun _ _ => rfl)) (qe_ix (qv 1) qe_int (fun _ _ => rfl)) (nomark _))
    (qss_one (qs_ret (qe_callB (cd_sum rfl) (by rfl) z_sum (by decide +kernel) (qa_cons (qe_lcX (own := [("field", 4)]) rfl sc_law_size.nd (pi_sq (qe_ix (qv 2) qe_int (fun _ _ => rfl))) (blkOk_by (N := ["rows", "kind", "row", "item", "field"]) (sc := defScope s_law_size) (by decide +kernel)) (fun _ _ _ _ _ => (qg_name (i := 4) sc_law_size.nd rfl (by first | exact Or.inl rfl | exact Or.inr rfl) (by decide))) (fun _ _ _ _ _ => qts_nil) (fun _ _ _ _ _ => (qe_fn C_law_size hr (by rfl) (qa_cons (qv 0) (qa_cons (qe_ix (qv 4) qe_int (fun _ _ => rfl)) qa_nil)))) (fun _ _ _ => l_lcS)) qa_nil))))
    qss_nil))))
    qss_nil)
    (qss_one (qs_ret qe_int))))))
abbrev s_law_is_small : Stmt := topS 28
theorem sc_law_is_small : FnScope ["rows", "kind", "item"] ["rows", "kind"] (defScope s_law_is_small) := ⟨rfl, rfl, rfl, by decide +kernel, rfl, by decide +kernel, by decide +kernel⟩
def b_law_is_small (d_law_size d_law_is_small : DSp) : TDS := (dSeq (dIf (dB (dOp rGtD (dCall d_law_size (dCons (dVar 0) (dCons (dVar 1) dNil))) (dC (.int 60))))
    (dRet (dC (.bl false)))
    dNext)
    (dSeq (dIf (dB (dOp rEqD (dOp rIxD (dVar 1) (dC (.int 0))) (dC (.str "tuple"))))
    (dForS (dOp rIxD (dVar 1) (dC (.int 1))) (dName 2)
    (dIf (dNot (dTru (dCall d_law_is_small (dCons (dVar 0) (dCons (dVar 2) dNil)))))
    (dRet (dC (.bl false)))
    dNext))
    dNext)
    (dSeq (dIf (dB (dOp rInD (dOp rIxD (dVar 1) (dC (.int 0))) (dLst (dCons (dC (.str "box")) (dCons (dC (.str "maybe")) (dCons (dC (.str "shared")) (dCons (dC (.str "exclusive")) dNil)))))))
    (dRet (dCall d_law_is_small (dCons (dVar 0) (dCons (dOp rIxD (dVar 1) (dC (.int 1))) dNil))))
    dNext)
    (dRet (dC (.bl true))))))
theorem ok_law_is_small {P : Program} {w : World} {K : PySem.W.Frag} {mg : Str → Option Value} {k : Nat} {d d_law_size d_law_is_small : DSp} (F : FunAt K mg "_law_is_small" s_law_is_small ["rows", "kind"]) (C_law_size : Callee P w K mg k "_law_size" ["rows", "kind"] d_law_size) (C_law_is_small : Callee P w K mg k "_law_is_small" ["rows", "kind"] d_law_is_small)
    (len : ∀ ds m P EX, d ds m P EX → ds.length = 2) (rd : ∀ ds m P EX, d ds m P EX → Go P (b_law_is_small d_law_size d_law_is_small) (dstart ["rows", "kind", "item"] ds) m) : Callee P w K mg (k + 1) "_law_is_small" ["rows", "kind"] d :=
  F.callee sc_law_is_small len (b_law_is_small d_law_size d_law_is_small) rd fun base f cdv A outer s H E hr =>
    ((qss_cons (qs_if (qt_cmp od_gt (qe_fn C_law_size hr (by rfl) (qa_cons (qv 0) (qa_cons (qv 1) qa_nil))) qe_int (nomark _))
    (qss_one (qs_ret qe_bl))
    qss_nil)
    (qss_cons (qs_if (qt_cmp (od_eq hr.units) (qe_ix (qv 1) qe_int (fun _ _ => rfl)) qe_str (nomark _))
    (qss_one (qs_forS (vs := [2]) PassesOwn.never rfl (qe_ix (qv 1) qe_int (fun _ _ => rfl)) (qg_name (i := 2) sc_law_is_small.nd rfl (by first | exact Or.inl rfl | exact Or.inr rfl) (by decide))
    (qss_one (qs_if (qt_not (qt_tru (qe_fn C_law_is_small hr (by rfl) (qa_cons (qv 0) (qa_cons (qv 2) qa_nil)))))
    (qss_one (qs_ret qe_bl))
    qss_nil))))
    qss_nil)
    (qss_cons (qs_if (qt_cmp od_inD (qe_ix (qv 1) qe_int (fun _ _ => rfl)) (qe_lst (qa_cons qe_str (qa_cons qe_str (qa_cons qe_str (qa_cons qe_str qa_nil))))) (by rfl))
    (qss_one (qs_ret (qe_fn C_law_is_small hr (by rfl) (qa_cons (qv 0) (qa_cons (qe_ix (qv 1) qe_int (fun _ _ => rfl)) qa_nil)))))
    qss_nil)
    (qss_one (qs_ret qe_bl))))))
abbrev s_law_records : Stmt := topS 29
theorem sc_law_records : FnScope ["state", "script", "names", "k", "rows", "turn", "fields", "taken", "j", "kind"] ["state", "script"] (defScope s_law_records) := ⟨rfl, rfl, rfl, by decide +kernel, rfl, by decide +kernel, by decide +kernel⟩
def b_law_records (d_law_new d_law_big d_law_pick d_law_name d_law_kind d_law_size d_law_is_small : DSp) : TDS := (dSeq (dAsg (dLst dNil) (dName 2))
    (dSeq (dForR1 (dCons (dOp rAdd (dC (.int 1)) (dCall d_law_pick (dCons (dVar 0) (dCons (dVar 1) (dCons (dC (.int 4)) dNil))))) dNil) (dName 3)
    (dDrop (dBM isLst rApp (dVar 2) (dCons (dCall d_law_new (dCons (dVar 2) (dCons (dCall d_law_big (dCons (dVar 0) (dCons (dVar 1) dNil))) dNil))) dNil))))
    (dSeq (dAsg (dLst dNil) (dName 4))
    (dSeq (dForR1 (dCons (dCB rLen (dCons (dVar 2) dNil)) dNil) (dName 3)
    (dSeq (dAsg (dLst dNil) (dName 6))
    (dSeq (dAsg (dLst dNil) (dName 7))
    (dSeq (dForR1 (dCons (dOp rAdd (dC (.int 1)) (dCall d_law_pick (dCons (dVar 0) (dCons (dVar 1) (dCons (dC (.int 6)) dNil))))) dNil) (dName 8)
    (dSeq (dDrop (dBM isLst rApp (dVar 7) (dCons (dCall d_law_new (dCons (dVar 7) (dCons (dCall d_law_name (dCons (dVar 0) (dCons (dVar 1) dNil))) dNil))) dNil)))
    (dSeq (dAsg (dC (.int 3)) (dGSub (dVar 0) (dC (.int 3))))
    (dSeq (dAsg (dCall d_law_kind (dCons (dVar 0) (dCons (dVar 1) (dCons (dC (.int 3)) (dCons (dC (.bl true)) (dCons (dSl (dVar 2) dNoPart (dPart (dVar 3))) dNil)))))) (dName 9))
    (dSeq (dIf (dB (dOp rEqD (dCall d_law_pick (dCons (dVar 0) (dCons (dVar 1) (dCons (dC (.int 4)) dNil)))) (dC (.int 0))))
    (dAsg (dTup (dCons (dC (.str "box")) (dCons (dTup (dCons (dC (.str "record")) (dCons (dOp rIxD (dVar 2) (dCall d_law_pick (dCons (dVar 0) (dCons (dVar 1) (dCons (dCB rLen (dCons (dVar 2) dNil)) dNil))))) dNil))) dNil))) (dName 9))
    dNext)
    (dSeq (dIf (dOr (dB (dOp rGtD (dCall d_law_size (dCons (dVar 4) (dCons (dVar 9) dNil))) (dC (.int 8)))) (dNot (dTru (dCall d_law_is_small (dCons (dVar 4) (dCons (dVar 9) dNil))))))
    (dAsg (dTup (dCons (dC (.str "bool")) dNil)) (dName 9))
    dNext)
    (dDrop (dBM isLst rApp (dVar 6) (dCons (dTup (dCons (dOp rIxD (dVar 7) (dVar 8)) (dCons (dVar 9) dNil))) dNil)))))))))
    (dDrop (dBM isLst rApp (dVar 4) (dCons (dTup (dCons (dOp rIxD (dVar 2) (dVar 3)) (dCons (dCB rTuple (dCons (dVar 6) dNil)) dNil))) dNil)))))))
    (dSeq (dAsg (dCall d_law_pick (dCons (dVar 0) (dCons (dVar 1) (dCons (dCB rLen (dCons (dVar 4) dNil)) dNil)))) (dName 5))
    (dRet (dCB rTuple (dCons (dOp rAdd (dSl (dVar 4) (dPart (dVar 5)) dNoPart) (dSl (dVar 4) dNoPart (dPart (dVar 5)))) dNil))))))))
theorem ok_law_records {P : Program} {w : World} {K : PySem.W.Frag} {mg : Str → Option Value} {k : Nat} {d d_law_new d_law_big d_law_pick d_law_name d_law_kind d_law_size d_law_is_small : DSp} (F : FunAt K mg "_law_records" s_law_records ["state", "script"]) (C_law_new : Callee P w K mg k "_law_new" ["taken", "word"] d_law_new) (C_law_big : Callee P w K mg k "_law_big" ["state", "script"] d_law_big) (C_law_pick : Callee P w K mg k "_law_pick" ["state", "script", "many"] d_law_pick) (C_law_name : Callee P w K mg k "_law_name" ["state", "script"] d_law_name) (C_law_kind : Callee P w K mg k "_law_kind" ["state", "script", "room", "plain", "names"] d_law_kind) (C_law_size : Callee P w K mg k "_law_size" ["rows", "kind"] d_law_size) (C_law_is_small : Callee P w K mg k "_law_is_small" ["rows", "kind"] d_law_is_small) (z_range : mg "range" = none) (z_len : mg "len" = none) (z_tuple : mg "tuple" = none)
    (len : ∀ ds m P EX, d ds m P EX → ds.length = 2) (rd : ∀ ds m P EX, d ds m P EX → Go P (b_law_records d_law_new d_law_big d_law_pick d_law_name d_law_kind d_law_size d_law_is_small) (dstart ["state", "script", "names", "k", "rows", "turn", "fields", "taken", "j", "kind"] ds) m) : Callee P w K mg (k + 1) "_law_records" ["state", "script"] d :=
  F.callee sc_law_records len (b_law_records d_law_new d_law_big d_law_pick d_law_name d_law_kind d_law_size d_law_is_small) rd fun base f cdv A outer s H E hr =>
    ((qss_cons (qs_set (i := 2) sc_law_records.nd rfl (by first | exact Or.inl rfl | exact Or.inr rfl) (qe_lst qa_nil))
    (qss_cons (qs_forR1 (vs := [3]) PassesOwn.never rfl (by rfl) z_range (qa_cons (qe_op od_add qe_int (qe_fn C_law_pick hr (by rfl) (qa_cons (qv 0) (qa_cons (qv 1) (qa_cons qe_int qa_nil))))) qa_nil) (qg_name (i := 3) sc_law_records.nd rfl (by first | exact Or.inl rfl | exact Or.inr rfl) (by decide))
    (qss_one (qs_expr (qe_bm md_append PySem.F.plainAttrs_list PySem.F.slot_list_append PySem.F.type_list_append (qv 2) (qa_cons (qe_fn C_law_new hr (by rfl) (qa_cons (qv 2) (qa_cons (qe_fn C_law_big hr (by rfl) (qa_cons (qv 0) (qa_cons (qv 1) qa_nil))) qa_nil))) qa_nil)))))
    (qss_cons (qs_set (i := 4) sc_law_records.nd rfl (by first | exact Or.inl rfl | exact Or.inr rfl) (qe_lst qa_nil))
    (qss_cons (qs_forR1 (vs := [3]) PassesOwn.never rfl (by rfl) z_range (qa_cons (qe_callB (cd_len) (by rfl) z_len PySem.boot_len (qa_cons (qv 2) qa_nil)) qa_nil) (qg_name (i := 3) sc_law_records.nd rfl (by first | exact Or.inl rfl | exact Or.inr rfl) (by decide))
    (qss_cons (qs_set (i := 6) sc_law_records.nd rfl (by first | exact Or.inl rfl | exact Or.inr rfl) (qe_lst qa_nil))
    (qss_cons (qs_set (i := 7) sc_law_records.nd rfl (by first | exact Or.inl rfl | exact Or.inr rfl) (qe_lst qa_nil))
    (qss_cons (qs_forR1 (vs := [8]) PassesOwn.never rfl (by rfl) z_range (qa_cons (qe_op od_add qe_int (qe_fn C_law_pick hr (by rfl) (qa_cons (qv 0) (qa_cons (qv 1) (qa_cons qe_int qa_nil))))) qa_nil) (qg_name (i := 8) sc_law_records.nd rfl (by first | exact Or.inl rfl | exact Or.inr rfl) (by decide))
    (qss_cons (qs_expr (qe_bm md_append PySem.F.plainAttrs_list PySem.F.slot_list_append PySem.F.type_list_append (qv 7) (qa_cons (qe_fn C_law_new hr (by rfl) (qa_cons (qv 7) (qa_cons (qe_fn C_law_name hr (by rfl) (qa_cons (qv 0) (qa_cons (qv 1) qa_nil))) qa_nil))) qa_nil)))
    (qss_cons (qs_asg (vs := []) qe_int (qg_sub (qv 0) qe_int))
    (qss_cons (qs_set (i := 9) sc_law_records.nd rfl (by first | exact Or.inl rfl | exact Or.inr rfl) (qe_fn C_law_kind hr (by rfl) (qa_cons (qv 0) (qa_cons (qv 1) (qa_cons qe_int (qa_cons qe_bl (qa_cons (qe_slice (qv 2) qo_none (qo_some (qv 3))) qa_nil)))))))
    (qss_cons (qs_if (qt_cmp (od_eq hr.units) (qe_fn C_law_pick hr (by rfl) (qa_cons (qv 0) (qa_cons (qv 1) (qa_cons qe_int qa_nil)))) qe_int (nomark _))
    (qss_one (qs_set (i := 9) sc_law_records.nd rfl (by first | exact Or.inl rfl | exact Or.inr rfl) (qe_tup (qa_cons qe_str (qa_cons (qe_tup (qa_cons qe_str (qa_cons (qe_ix (qv 2) (qe_fn C_law_pick hr (by rfl) (qa_cons (qv 0) (qa_cons (qv 1) (qa_cons (qe_callB (cd_len) (by rfl) z_len PySem.boot_len (qa_cons (qv 2) qa_nil)) qa_nil)))) (fun _ _ => rfl)) qa_nil))) qa_nil)))))
    qss_nil)
    (qss_cons (qs_if (PW.pt (qw_or (qt_cmp od_gt (qe_fn C_law_size hr (by rfl) (qa_cons (qv 4) (qa_cons (qv 9) qa_nil))) qe_int (nomark _)) (qw_or1 (qt_not (qt_tru (qe_fn C_law_is_small hr (by rfl) (qa_cons (qv 4) (qa_cons (qv 9) qa_nil))))))))
    (qss_one (qs_set (i := 9) sc_law_records.nd rfl (by first | exact Or.inl rfl | exact Or.inr rfl) (qe_tup (qa_cons qe_str qa_nil))))
    qss_nil)
    (qss_one (qs_expr (qe_bm md_append PySem.F.plainAttrs_list PySem.F.slot_list_append PySem.F.type_list_append (qv 6) (qa_cons (qe_tup (qa_cons (qe_ix (qv 7) (qv 8) (fun _ _ => rfl)) (qa_cons (qv 9) qa_nil))) qa_nil))))))))))
    (qss_one (qs_expr (qe_bm md_append PySem.F.plainAttrs_list PySem.F.slot_list_append PySem.F.type_list_append (qv 4) (qa_cons (qe_tup (qa_cons (qe_ix (qv 2) (qv 3) (fun _ _ => rfl)) (qa_cons (qe_callTy cd_tuple (by rfl) z_tuple PyProof.Rows.boot_tuple (qa_cons (qv 6) qa_nil)) qa_nil))) qa_nil))))))))
    (qss_cons (qs_set (i := 5) sc_law_records.nd rfl (by first | exact Or.inl rfl | exact Or.inr rfl) (qe_fn C_law_pick hr (by rfl) (qa_cons (qv 0) (qa_cons (qv 1) (qa_cons (qe_callB (cd_len) (by rfl) z_len PySem.boot_len (qa_cons (qv 4) qa_nil)) qa_nil)))))
    (qss_one (qs_ret (qe_callTy cd_tuple (by rfl) z_tuple PyProof.Rows.boot_tuple (qa_cons (qe_op od_add (qe_slice (qv 4) (qo_some (qv 5)) qo_none) (qe_slice (qv 4) qo_none (qo_some (qv 5)))) qa_nil))))))))))
abbrev s_law_options : Stmt := topS 30
theorem sc_law_options : FnScope ["rows", "kind", "row", "k"] ["rows", "kind"] (defScope s_law_options) := ⟨rfl, rfl, rfl, by decide +kernel, rfl, by decide +kernel, by decide +kernel⟩
def b_law_options : TDS := (dSeq (dIf (dB (dOp rEqD (dOp rIxD (dVar 1) (dC (.int 0))) (dC (.str "maybe"))))
    (dRet (dLst (dCons (dTup (dCons (dC (.str "?")) (dCons (dOp rIxD (dVar 1) (dC (.int 1))) dNil))) dNil)))
    dNext)
    (dSeq (dIf (dB (dOp rInD (dOp rIxD (dVar 1) (dC (.int 0))) (dLst (dCons (dC (.str "box")) (dCons (dC (.str "shared")) (dCons (dC (.str "exclusive")) dNil))))))
    (dRet (dLst (dCons (dTup (dCons (dC (.str "^")) (dCons (dOp rIxD (dVar 1) (dC (.int 1))) dNil))) dNil)))
    dNext)
    (dSeq (dIf (dB (dOp rEqD (dOp rIxD (dVar 1) (dC (.int 0))) (dC (.str "tuple"))))
    (dRet (dLcR1 (dCons (dCB rLen (dCons (dOp rIxD (dVar 1) (dC (.int 1))) dNil)) dNil) (dName 3) dYes (dTup (dCons (dVar 3) (dCons (dOp rIxD (dOp rIxD (dVar 1) (dC (.int 1))) (dVar 3)) dNil))) [3]))
    dNext)
    (dSeq (dIf (dB (dOp rEqD (dOp rIxD (dVar 1) (dC (.int 0))) (dC (.str "record"))))
    (dForS (dVar 0) (dName 2)
    (dIf (dB (dOp rEqD (dOp rIxD (dVar 2) (dC (.int 0))) (dOp rIxD (dVar 1) (dC (.int 1)))))
    (dRet (dCB rList (dCons (dOp rIxD (dVar 2) (dC (.int 1))) dNil)))
    dNext))
    dNext)
    (dRet (dLst dNil))))))
theorem ok_law_options {P : Program} {w : World} {K : PySem.W.Frag} {mg : Str → Option Value} {k : Nat} {d : DSp} (F : FunAt K mg "_law_options" s_law_options ["rows", "kind"]) (z_len : mg "len" = none) (z_range : mg "range" = none) (z_list : mg "list" = none)
    (len : ∀ ds m P EX, d ds m P EX → ds.length = 2) (rd : ∀ ds m P EX, d ds m P EX → Go P (b_law_options) (dstart ["rows", "kind", "row", "k"] ds) m) : Callee P w K mg (k + 1) "_law_options" ["rows", "kind"] d :=
  F.callee sc_law_options len (b_law_options) rd fun base f cdv A outer s H E hr =>
    ((qss_cons (qs_if (qt_cmp (od_eq hr.units) (qe_ix (qv 1) qe_int (fun _ _ => rfl)) qe_str (nomark _))
    (qss_one (qs_ret (qe_lst (qa_cons (qe_tup (qa_cons qe_str (qa_cons (qe_ix (qv 1) qe_int (fun _ _ => rfl)) qa_nil))) qa_nil))))
    qss_nil)
    (qss_cons (qs_if (qt_cmp od_inD (qe_ix (qv 1) qe_int (fun _ _ => rfl)) (qe_lst (qa_cons qe_str (qa_cons qe_str (qa_cons qe_str qa_nil)))) (by rfl))
    (qss_one (qs_ret (qe_lst (qa_cons (qe_tup (qa_cons qe_str (qa_cons (qe_ix (qv 1) qe_int (fun _ _ => rfl)) qa_nil))) qa_nil))))
    qss_nil)
    (qss_cons (qs_if (qt_cmp (od_eq hr.units) (qe_ix (qv 1) qe_int (fun _ _ => rfl)) qe_str (nomark _))
    (qss_one (qs_ret (qe_lcX (own := [("k", 3)]) rfl sc_law_options.nd (pi_range1 (by rfl) z_range (qa_cons (qe_callB (cd_len) (by rfl) z_len PySem.boot_len (qa_cons (qe_ix (qv 1) qe_int (fun _ _ => rfl)) qa_nil)) qa_nil)) (blkOk_by (N := ["rows", "kind", "row", "k"]) (sc := defScope s_law_options) (by decide +kernel)) (fun _ _ _ _ _ => (qg_name (i := 3) sc_law_options.nd rfl (by first | exact Or.inl rfl | exact Or.inr rfl) (by decide))) (fun _ _ _ _ _ => qts_nil) (fun _ _ _ _ _ => (qe_tup (qa_cons (qv 3) (qa_cons (qe_ix (qe_ix (qv 1) qe_int (fun _ _ => rfl)) (qv 3) (fun _ _ => rfl)) qa_nil)))) (fun _ _ _ => l_lcR1))))
    qss_nil)
    (qss_cons (qs_if (qt_cmp (od_eq hr.units) (qe_ix (qv 1) qe_int (fun _ _ => rfl)) qe_str (nomark _))
    (qss_one (qs_forS (vs := [2]) PassesOwn.never rfl (qv 0) (qg_name (i := 2) sc_law_options.nd rfl (by first | exact Or.inl rfl | exact Or.inr rfl) (by decide))
    (qss_one (qs_if (qt_cmp (od_eq hr.units) (qe_ix (qv 2) qe_int (fun _ _ => rfl)) (qe_ix (qv 1) qe_int (fun _ _ => rfl)) (nomark _))
    (qss_one (qs_ret (qe_callTy cd_list (by rfl) z_list PyProof.Rows.boot_list (qa_cons (qe_ix (qv 2) qe_int (fun _ _ => rfl)) qa_nil))))
    qss_nil))))
    qss_nil)
    (qss_one (qs_ret (qe_lst qa_nil))))))))
abbrev s_law_small_kind : Stmt := topS 31
theorem sc_law_small_kind : FnScope ["state", "script", "rows", "kind", "row"] ["state", "script", "rows"] (defScope s_law_small_kind) := ⟨rfl, rfl, rfl, by decide +kernel, rfl, by decide +kernel, by decide +kernel⟩
def b_law_small_kind (d_law_any_kind d_law_is_small : DSp) : TDS := (dSeq (dAsg (dCall d_law_any_kind (dCons (dVar 0) (dCons (dVar 1) (dCons (dLcS (dVar 2) (dName 4) dYes (dOp rIxD (dVar 4) (dC (.int 0))) [4]) dNil)))) (dName 3))
    (dSeq (dIf (dNot (dTru (dCall d_law_is_small (dCons (dVar 2) (dCons (dVar 3) dNil)))))
    (dRet (dTup (dCons (dC (.str "record")) (dCons (dOp rIxD (dOp rIxD (dVar 2) (dC (.int 0))) (dC (.int 0))) dNil))))
    dNext)
    (dRet (dVar 3))))
theorem ok_law_small_kind {P : Program} {w : World} {K : PySem.W.Frag} {mg : Str → Option Value} {k : Nat} {d d_law_any_kind d_law_is_small : DSp} (F : FunAt K mg "_law_small_kind" s_law_small_kind ["state", "script", "rows"]) (C_law_any_kind : Callee P w K mg k "_law_any_kind" ["state", "script", "names"] d_law_any_kind) (C_law_is_small : Callee P w K mg k "_law_is_small" ["rows", "kind"] d_law_is_small)
    (len : ∀ ds m P EX, d ds m P EX → ds.length = 3) (rd : ∀ ds m P EX, d ds m P EX → Go P (b_law_small_kind d_law_any_kind d_law_is_small) (dstart ["state", "script", "rows", "kind", "row"] ds) m) : Callee P w K mg (k + 1) "_law_small_kind" ["state", "script", "rows"] d :=
  F.callee sc_law_small_kind len (b_law_small_kind d_law_any_kind d_law_is_small) rd fun base f cdv A outer s H E hr =>
    ((qss_cons (qs_set (i := 3) sc_law_small_kind.nd rfl (by first | exact Or.inl rfl | exact Or.inr rfl) (qe_fn C_law_any_kind hr (by rfl) (qa_cons (qv 0) (qa_cons (qv 1) (qa_cons (qe_lcX (own := [("row", 4)]) rfl sc_law_small_kind.nd (pi_sq (qv 2)) (blkOk_by (N := ["state", "script", "rows", "kind", "row"]) (sc := defScope s_law_small_kind) (by decide +kernel)) (fun _ _ _ _ _ => (qg_name (i := 4) sc_law_small_kind.nd rfl (by first | exact Or.inl rfl | exact Or.inr rfl) (by decide))) (fun _ _ _ _ _ => qts_nil) (fun _ _ _ _ _ => (qe_ix (qv 4) qe_int (fun _ _ => rfl))) (fun _ _ _ => l_lcS)) qa_nil)))))
    (qss_cons (qs_if (qt_not (qt_tru (qe_fn C_law_is_small hr (by rfl) (qa_cons (qv 2) (qa_cons (qv 3) qa_nil)))))
    (qss_one (qs_ret (qe_tup (qa_cons qe_str (qa_cons (qe_ix (qe_ix (qv 2) qe_int (fun _ _ => rfl)) qe_int (fun _ _ => rfl)) qa_nil)))))
    qss_nil)
    (qss_one (qs_ret (qv 3))))))
abbrev s_law_table : Stmt := topS 32
theorem sc_law_table : FnScope ["state", "script", "rows", "table", "k", "name"] ["state", "script", "rows"] (defScope s_law_table) := ⟨rfl, rfl, rfl, by decide +kernel, rfl, by decide +kernel, by decide +kernel⟩
def b_law_table (d_law_new d_law_name d_law_small_kind d_law_pick : DSp) : TDS := (dSeq (dAsg dDNew (dName 3))
    (dSeq (dForR1 (dCons (dOp rAdd (dC (.int 1)) (dCall d_law_pick (dCons (dVar 0) (dCons (dVar 1) (dCons (dC (.int 4)) dNil))))) dNil) (dName 4)
    (dSeq (dAsg (dCall d_law_new (dCons (dCB rListK (dCons (dVar 3) dNil)) (dCons (dCall d_law_name (dCons (dVar 0) (dCons (dVar 1) dNil))) dNil))) (dName 5))
    (dDPut (dVar 3) (dVar 5) (dCall d_law_small_kind (dCons (dVar 0) (dCons (dVar 1) (dCons (dVar 2) dNil)))))))
    (dRet (dVar 3))))
theorem ok_law_table {P : Program} {w : World} {K : PySem.W.Frag} {mg : Str → Option Value} {k : Nat} {d d_law_new d_law_name d_law_small_kind d_law_pick : DSp} (F : FunAt K mg "_law_table" s_law_table ["state", "script", "rows"]) (C_law_new : Callee P w K mg k "_law_new" ["taken", "word"] d_law_new) (C_law_name : Callee P w K mg k "_law_name" ["state", "script"] d_law_name) (C_law_small_kind : Callee P w K mg k "_law_small_kind" ["state", "script", "rows"] d_law_small_kind) (C_law_pick : Callee P w K mg k "_law_pick" ["state", "script", "many"] d_law_pick) (z_list : mg "list" = none) (z_range : mg "range" = none)
    (len : ∀ ds m P EX, d ds m P EX → ds.length = 3) (rd : ∀ ds m P EX, d ds m P EX → Go P (b_law_table d_law_new d_law_name d_law_small_kind d_law_pick) (dstart ["state", "script", "rows", "table", "k", "name"] ds) m) : Callee P w K mg (k + 1) "_law_table" ["state", "script", "rows"] d :=
  F.callee sc_law_table len (b_law_table d_law_new d_law_name d_law_small_kind d_law_pick) rd fun base f cdv A outer s H E hr =>
    ((qss_cons (qs_set (i := 3) sc_law_table.nd rfl (by first | exact Or.inl rfl | exact Or.inr rfl) qe_dnew)
    (qss_cons (qs_forR1 (vs := [4]) PassesOwn.never rfl (by rfl) z_range (qa_cons (qe_op od_add qe_int (qe_fn C_law_pick hr (by rfl) (qa_cons (qv 0) (qa_cons (qv 1) (qa_cons qe_int qa_nil))))) qa_nil) (qg_name (i := 4) sc_law_table.nd rfl (by first | exact Or.inl rfl | exact Or.inr rfl) (by decide))
    (qss_cons (qs_set (i := 5) sc_law_table.nd rfl (by first | exact Or.inl rfl | exact Or.inr rfl) (qe_fn C_law_new hr (by rfl) (qa_cons (qe_callTy (cd_listK rfl) (by rfl) z_list PyProof.Rows.boot_list (qa_cons (qv 3) qa_nil)) (qa_cons (qe_fn C_law_name hr (by rfl) (qa_cons (qv 0) (qa_cons (qv 1) qa_nil))) qa_nil))))
    (qss_one (qs_dput hr.units (qv 3) (qv 5) (qe_fn C_law_small_kind hr (by rfl) (qa_cons (qv 0) (qa_cons (qv 1) (qa_cons (qv 2) qa_nil)))) (by rfl)))))
    (qss_one (qs_ret (qv 3))))))
abbrev s_law_walk : Stmt := topS 33
theorem sc_law_walk : FnScope ["state", "script", "rows", "name", "kind", "steps", "k", "options", "chosen"] ["state", "script", "rows", "name", "kind"] (defScope s_law_walk) := ⟨rfl, rfl, rfl, by decide +kernel, rfl, by decide +kernel, by decide +kernel⟩
def b_law_walk (d_law_options d_law_pick : DSp) : TDS := (dSeq (dAsg (dLst dNil) (dName 5))
    (dSeq (dForR1 (dCons (dCall d_law_pick (dCons (dVar 0) (dCons (dVar 1) (dCons (dC (.int 13)) dNil)))) dNil) (dName 6)
    (dSeq (dAsg (dCall d_law_options (dCons (dVar 2) (dCons (dVar 4) dNil))) (dName 7))
    (dSeq (dIf (dB (dOp rEqD (dCB rLen (dCons (dVar 7) dNil)) (dC (.int 0))))
    dBreak
    dNext)
    (dSeq (dAsg (dOp rIxD (dVar 7) (dCall d_law_pick (dCons (dVar 0) (dCons (dVar 1) (dCons (dCB rLen (dCons (dVar 7) dNil)) dNil))))) (dName 8))
    (dSeq (dDrop (dBM isLst rApp (dVar 5) (dCons (dOp rIxD (dVar 8) (dC (.int 0))) dNil)))
    (dAsg (dOp rIxD (dVar 8) (dC (.int 1))) (dName 4)))))))
    (dRet (dTup (dCons (dTup (dCons (dVar 3) (dCons (dCB rTuple (dCons (dVar 5) dNil)) dNil))) (dCons (dVar 4) dNil))))))
theorem ok_law_walk {P : Program} {w : World} {K : PySem.W.Frag} {mg : Str → Option Value} {k : Nat} {d d_law_options d_law_pick : DSp} (F : FunAt K mg "_law_walk" s_law_walk ["state", "script", "rows", "name", "kind"]) (C_law_options : Callee P w K mg k "_law_options" ["rows", "kind"] d_law_options) (C_law_pick : Callee P w K mg k "_law_pick" ["state", "script", "many"] d_law_pick) (z_len : mg "len" = none) (z_range : mg "range" = none) (z_tuple : mg "tuple" = none)
    (len : ∀ ds m P EX, d ds m P EX → ds.length = 5) (rd : ∀ ds m P EX, d ds m P EX → Go P (b_law_walk d_law_options d_law_pick) (dstart ["state", "script", "rows", "name", "kind", "steps", "k", "options", "chosen"] ds) m) : Callee P w K mg (k + 1) "_law_walk" ["state", "script", "rows", "name", "kind"] d :=
  F.callee sc_law_walk len (b_law_walk d_law_options d_law_pick) rd fun base f cdv A outer s H E hr =>
    ((qss_cons (qs_set (i := 5) sc_law_walk.nd rfl (by first | exact Or.inl rfl | exact Or.inr rfl) (qe_lst qa_nil))
    (qss_cons (qs_forR1 (vs := [6]) PassesOwn.never rfl (by rfl) z_range (qa_cons (qe_fn C_law_pick hr (by rfl) (qa_cons (qv 0) (qa_cons (qv 1) (qa_cons qe_int qa_nil)))) qa_nil) (qg_name (i := 6) sc_law_walk.nd rfl (by first | exact Or.inl rfl | exact Or.inr rfl) (by decide))
    (qss_cons (qs_set (i := 7) sc_law_walk.nd rfl (by first | exact Or.inl rfl | exact Or.inr rfl) (qe_fn C_law_options hr (by rfl) (qa_cons (qv 2) (qa_cons (qv 4) qa_nil))))
    (qss_cons (qs_if (qt_cmp (od_eq hr.units) (qe_callB (cd_len) (by rfl) z_len PySem.boot_len (qa_cons (qv 7) qa_nil)) qe_int (nomark _))
    (qss_one qs_break)
    qss_nil)
    (qss_cons (qs_set (i := 8) sc_law_walk.nd rfl (by first | exact Or.inl rfl | exact Or.inr rfl) (qe_ix (qv 7) (qe_fn C_law_pick hr (by rfl) (qa_cons (qv 0) (qa_cons (qv 1) (qa_cons (qe_callB (cd_len) (by rfl) z_len PySem.boot_len (qa_cons (qv 7) qa_nil)) qa_nil)))) (fun _ _ => rfl)))
    (qss_cons (qs_expr (qe_bm md_append PySem.F.plainAttrs_list PySem.F.slot_list_append PySem.F.type_list_append (qv 5) (qa_cons (qe_ix (qv 8) qe_int (fun _ _ => rfl)) qa_nil)))
    (qss_one (qs_set (i := 4) sc_law_walk.nd rfl (by first | exact Or.inl rfl | exact Or.inr rfl) (qe_ix (qv 8) qe_int (fun _ _ => rfl)))))))))
    (qss_one (qs_ret (qe_tup (qa_cons (qe_tup (qa_cons (qv 3) (qa_cons (qe_callTy cd_tuple (by rfl) z_tuple PyProof.Rows.boot_tuple (qa_cons (qv 5) qa_nil)) qa_nil))) (qa_cons (qv 4) qa_nil))))))))
abbrev s_law_step : Stmt := topS 34
theorem sc_law_step : FnScope ["state", "script", "rows", "choice", "fields", "great"] ["state", "script", "rows"] (defScope s_law_step) := ⟨rfl, rfl, rfl, by decide +kernel, rfl, by decide +kernel, by decide +kernel⟩
def b_law_step (d_law_pick d_law_name : DSp) : TDS := (dSeq (dAsg (dCall d_law_pick (dCons (dVar 0) (dCons (dVar 1) (dCons (dC (.int 5)) dNil)))) (dName 3))
    (dSeq (dIf (dB (dOp rEqD (dVar 3) (dC (.int 0))))
    (dRet (dC (.str "?")))
    dNext)
    (dSeq (dIf (dB (dOp rEqD (dVar 3) (dC (.int 1))))
    (dRet (dC (.str "^")))
    dNext)
    (dSeq (dIf (dB (dOp rEqD (dVar 3) (dC (.int 2))))
    (dSeq (dAsg (dLst (dCons (dC (.int 8)) (dCons (dC (.int 100)) (dCons (dC (.int 2147483647)) (dCons (dUn rNegD (dC (.int 2147483648))) dNil))))) (dName 5))
    (dRet (dOp rIxD (dOp rAdd (dVar 5) (dOp rMul (dLst (dCons (dOp rSub (dCall d_law_pick (dCons (dVar 0) (dCons (dVar 1) (dCons (dC (.int 16)) dNil)))) (dC (.int 8))) dNil)) (dC (.int 4)))) (dCall d_law_pick (dCons (dVar 0) (dCons (dVar 1) (dCons (dC (.int 8)) dNil)))))))
    dNext)
    (dSeq (dIf (dB (dOp rEqD (dVar 3) (dC (.int 3))))
    (dRet (dCall d_law_name (dCons (dVar 0) (dCons (dVar 1) dNil))))
    dNext)
    (dSeq (dAsg (dOp rIxD (dOp rIxD (dVar 2) (dCall d_law_pick (dCons (dVar 0) (dCons (dVar 1) (dCons (dCB rLen (dCons (dVar 2) dNil)) dNil))))) (dC (.int 1))) (dName 4))
    (dRet (dOp rIxD (dOp rIxD (dVar 4) (dCall d_law_pick (dCons (dVar 0) (dCons (dVar 1) (dCons (dCB rLen (dCons (dVar 4) dNil)) dNil))))) (dC (.int 0))))))))))
theorem ok_law_step {P : Program} {w : World} {K : PySem.W.Frag} {mg : Str → Option Value} {k : Nat} {d d_law_pick d_law_name : DSp} (F : FunAt K mg "_law_step" s_law_step ["state", "script", "rows"]) (C_law_pick : Callee P w K mg k "_law_pick" ["state", "script", "many"] d_law_pick) (C_law_name : Callee P w K mg k "_law_name" ["state", "script"] d_law_name) (z_len : mg "len" = none)
    (len : ∀ ds m P EX, d ds m P EX → ds.length = 3) (rd : ∀ ds m P EX, d ds m P EX → Go P (b_law_step d_law_pick d_law_name) (dstart ["state", "script", "rows", "choice", "fields", "great"] ds) m) : Callee P w K mg (k + 1) "_law_step" ["state", "script", "rows"] d :=
  F.callee sc_law_step len (b_law_step d_law_pick d_law_name) rd fun base f cdv A outer s H E hr =>
    ((qss_cons (qs_set (i := 3) sc_law_step.nd rfl (by first | exact Or.inl rfl | exact Or.inr rfl) (qe_fn C_law_pick hr (by rfl) (qa_cons (qv 0) (qa_cons (qv 1) (qa_cons qe_int qa_nil)))))
    (qss_cons (qs_if (qt_cmp (od_eq hr.units) (qv 3) qe_int (nomark _))
    (qss_one (qs_ret qe_str))
    qss_nil)
    (qss_cons (qs_if (qt_cmp (od_eq hr.units) (qv 3) qe_int (nomark _))
    (qss_one (qs_ret qe_str))
    qss_nil)
    (qss_cons (qs_if (qt_cmp (od_eq hr.units) (qv 3) qe_int (nomark _))
    (qss_cons (qs_set (i := 5) sc_law_step.nd rfl (by first | exact Or.inl rfl | exact Or.inr rfl) (qe_lst (qa_cons qe_int (qa_cons qe_int (qa_cons qe_int (qa_cons (qe_neg qe_int) qa_nil))))))
    (qss_one (qs_ret (qe_ix (qe_op od_add (qv 5) (qe_op od_mul (qe_lst (qa_cons (qe_op od_sub (qe_fn C_law_pick hr (by rfl) (qa_cons (qv 0) (qa_cons (qv 1) (qa_cons qe_int qa_nil)))) qe_int) qa_nil)) qe_int)) (qe_fn C_law_pick hr (by rfl) (qa_cons (qv 0) (qa_cons (qv 1) (qa_cons qe_int qa_nil)))) (fun _ _ => rfl)))))
    qss_nil)
    (qss_cons (qs_if (qt_cmp (od_eq hr.units) (qv 3) qe_int (nomark _))
    (qss_one (qs_ret (qe_fn C_law_name hr (by rfl) (qa_cons (qv 0) (qa_cons (qv 1) qa_nil)))))
    qss_nil)
    (qss_cons (qs_set (i := 4) sc_law_step.nd rfl (by first | exact Or.inl rfl | exact Or.inr rfl) (qe_ix (qe_ix (qv 2) (qe_fn C_law_pick hr (by rfl) (qa_cons (qv 0) (qa_cons (qv 1) (qa_cons (qe_callB (cd_len) (by rfl) z_len PySem.boot_len (qa_cons (qv 2) qa_nil)) qa_nil)))) (fun _ _ => rfl)) qe_int (fun _ _ => rfl)))
    (qss_one (qs_ret (qe_ix (qe_ix (qv 4) (qe_fn C_law_pick hr (by rfl) (qa_cons (qv 0) (qa_cons (qv 1) (qa_cons (qe_callB (cd_len) (by rfl) z_len PySem.boot_len (qa_cons (qv 4) qa_nil)) qa_nil)))) (fun _ _ => rfl)) qe_int (fun _ _ => rfl)))))))))))
abbrev s_law_told : Stmt := topS 35
theorem sc_law_told : FnScope ["place", "rows", "table", "others", "e"] ["place", "rows", "table"] (defScope s_law_told) := ⟨rfl, rfl, rfl, by decide +kernel, rfl, by decide +kernel, by decide +kernel⟩
def b_law_told (x_NoSuchVariable x_NoSuchStep x_SyntaxProblem x_Refused x_NotAllocated x_NoSuchFunction x_KindProblem x_LendError : Addr) (isa_NoSuchVariable isa_NoSuchStep : D → Option Bool) (d_kind_at : DSp) : TDS := (dTry2 x_NoSuchVariable x_NoSuchStep 4 (fun ex2 => (dRet (dCallKX ex2 d_kind_at 1 2 (dCons (dVar 0) dNil) (dCons (dVar 1) (dCons (dVar 2) dNil))))) (fun a => (dSeq (dAsg (dCB (rIsX a isa_NoSuchVariable) (dCons (dVar 4) (dCons (dTup (dCons (dC (.ref x_KindProblem)) (dCons (dC (.ref x_NoSuchFunction)) (dCons (dC (.ref x_NoSuchStep)) (dCons (dC (.ref x_NotAllocated)) (dCons (dC (.ref x_Refused)) (dCons (dC (.ref x_SyntaxProblem)) dNil))))))) dNil))) (dName 3))
    (dRet (dLst (dCons (dC (.str "variable")) (dCons (dAndV (dCB (rIsX a isa_NoSuchVariable) (dCons (dVar 4) (dCons (dC (.ref x_LendError)) dNil))) (dAndV (dCB (rIsX a isa_NoSuchVariable) (dCons (dVar 4) (dCons (dC (.ty "ValueError")) dNil))) (dNotV (dVar 3)))) dNil)))))) (fun a => (dSeq (dAsg (dCB (rIsX a isa_NoSuchStep) (dCons (dVar 4) (dCons (dTup (dCons (dC (.ref x_KindProblem)) (dCons (dC (.ref x_NoSuchFunction)) (dCons (dC (.ref x_NoSuchVariable)) (dCons (dC (.ref x_NotAllocated)) (dCons (dC (.ref x_Refused)) (dCons (dC (.ref x_SyntaxProblem)) dNil))))))) dNil))) (dName 3))
    (dRet (dLst (dCons (dC (.str "step")) (dCons (dAndV (dCB (rIsX a isa_NoSuchStep) (dCons (dVar 4) (dCons (dC (.ref x_LendError)) dNil))) (dAndV (dCB (rIsX a isa_NoSuchStep) (dCons (dVar 4) (dCons (dC (.ty "ValueError")) dNil))) (dNotV (dVar 3)))) dNil)))))))
theorem ok_law_told {P : Program} {w : World} {K : PySem.W.Frag} {mg : Str → Option Value} {k : Nat} {d d_kind_at : DSp} {x_NoSuchVariable x_NoSuchStep x_SyntaxProblem x_Refused x_NotAllocated x_NoSuchFunction x_KindProblem x_LendError : Addr} {isa_NoSuchVariable isa_NoSuchStep : D → Option Bool} (F : FunAt K mg "_law_told" s_law_told ["place", "rows", "table"]) (C_kind_at : CalleeKX P w K mg k "kind_at" ["place"] ["records", "kinds"] d_kind_at) (z_isinstance : mg "isinstance" = none) (z_ValueError : mg "ValueError" = none) (g_NoSuchVariable : mg "NoSuchVariable" = some (.ref x_NoSuchVariable)) (g_NoSuchStep : mg "NoSuchStep" = some (.ref x_NoSuchStep)) (g_SyntaxProblem : mg "SyntaxProblem" = some (.ref x_SyntaxProblem)) (g_Refused : mg "Refused" = some (.ref x_Refused)) (g_NotAllocated : mg "NotAllocated" = some (.ref x_NotAllocated)) (g_NoSuchFunction : mg "NoSuchFunction" = some (.ref x_NoSuchFunction)) (g_KindProblem : mg "KindProblem" = some (.ref x_KindProblem)) (g_LendError : mg "LendError" = some (.ref x_LendError)) (xm_NoSuchVariable : PySem.W.exmOne K (.ref x_NoSuchVariable) (.ref x_NoSuchVariable) = some true) (xc_NoSuchVariable : ExcC K x_NoSuchVariable) (isa_ok_NoSuchVariable : Isa K x_NoSuchVariable isa_NoSuchVariable) (xm_NoSuchStep : PySem.W.exmOne K (.ref x_NoSuchStep) (.ref x_NoSuchStep) = some true) (xc_NoSuchStep : ExcC K x_NoSuchStep) (isa_ok_NoSuchStep : Isa K x_NoSuchStep isa_NoSuchStep) (xn_NoSuchStep_NoSuchVariable : PySem.W.exmOne K (.ref x_NoSuchStep) (.ref x_NoSuchVariable) = some false)
    (len : ∀ ds m P EX, d ds m P EX → ds.length = 3) (rd : ∀ ds m P EX, d ds m P EX → Go P (b_law_told x_NoSuchVariable x_NoSuchStep x_SyntaxProblem x_Refused x_NotAllocated x_NoSuchFunction x_KindProblem x_LendError isa_NoSuchVariable isa_NoSuchStep d_kind_at) (dstart ["place", "rows", "table", "others", "e"] ds) m) : Callee P w K mg (k + 1) "_law_told" ["place", "rows", "table"] d :=
  F.callee sc_law_told len (b_law_told x_NoSuchVariable x_NoSuchStep x_SyntaxProblem x_Refused x_NotAllocated x_NoSuchFunction x_KindProblem x_LendError isa_NoSuchVariable isa_NoSuchStep d_kind_at) rd fun base f cdv A outer s H E hr =>
    ((qss_one (qs_try2 (i := 4) rfl rfl sc_law_told.nd rfl rfl ⟨by rfl, by decide, .inl g_NoSuchVariable⟩ ⟨by rfl, by decide, .inl g_NoSuchStep⟩ xm_NoSuchVariable xn_NoSuchStep_NoSuchVariable xm_NoSuchStep (fun H1 ex2 W pn xe tkk po ww2 => (qss_one (qs_ret (qe_fnKX C_kind_at hr tkk ww2 (by rfl) (qa_cons (qv 0) qa_nil) (qk_cons (qv 1) (qk_cons (qv 2) qk_nil)) (by decide) rfl rfl)))) (fun a oe pn hz hf => (qss_cons (qs_set (i := 3) sc_law_told.nd rfl (by first | exact Or.inl rfl | exact Or.inr rfl) (qe_callB (cd_isX xc_NoSuchVariable hz hf isa_ok_NoSuchVariable) (by rfl) z_isinstance PyProof.Rows.boot_isinstance (qa_cons (qv 4) (qa_cons (qe_tup (qa_cons (qe_const (ExcAt.const g_KindProblem) (by rfl)) (qa_cons (qe_const (ExcAt.const g_NoSuchFunction) (by rfl)) (qa_cons (qe_const (ExcAt.const g_NoSuchStep) (by rfl)) (qa_cons (qe_const (ExcAt.const g_NotAllocated) (by rfl)) (qa_cons (qe_const (ExcAt.const g_Refused) (by rfl)) (qa_cons (qe_const (ExcAt.const g_SyntaxProblem) (by rfl)) qa_nil))))))) qa_nil))))
    (qss_one (qs_ret (qe_lst (qa_cons qe_str (qa_cons (qe_and (qe_callB (cd_isX xc_NoSuchVariable hz hf isa_ok_NoSuchVariable) (by rfl) z_isinstance PyProof.Rows.boot_isinstance (qa_cons (qv 4) (qa_cons (qe_const (ExcAt.const g_LendError) (by rfl)) qa_nil))) (qe_and (qe_callB (cd_isX xc_NoSuchVariable hz hf isa_ok_NoSuchVariable) (by rfl) z_isinstance PyProof.Rows.boot_isinstance (qa_cons (qv 4) (qa_cons (qe_type (by rfl) z_ValueError (by decide +kernel)) qa_nil))) (qe_one (qe_not (qv 3))))) qa_nil))))))) (fun a oe pn hz hf => (qss_cons (qs_set (i := 3) sc_law_told.nd rfl (by first | exact Or.inl rfl | exact Or.inr rfl) (qe_callB (cd_isX xc_NoSuchStep hz hf isa_ok_NoSuchStep) (by rfl) z_isinstance PyProof.Rows.boot_isinstance (qa_cons (qv 4) (qa_cons (qe_tup (qa_cons (qe_const (ExcAt.const g_KindProblem) (by rfl)) (qa_cons (qe_const (ExcAt.const g_NoSuchFunction) (by rfl)) (qa_cons (qe_const (ExcAt.const g_NoSuchVariable) (by rfl)) (qa_cons (qe_const (ExcAt.const g_NotAllocated) (by rfl)) (qa_cons (qe_const (ExcAt.const g_Refused) (by rfl)) (qa_cons (qe_const (ExcAt.const g_SyntaxProblem) (by rfl)) qa_nil))))))) qa_nil))))
    (qss_one (qs_ret (qe_lst (qa_cons qe_str (qa_cons (qe_and (qe_callB (cd_isX xc_NoSuchStep hz hf isa_ok_NoSuchStep) (by rfl) z_isinstance PyProof.Rows.boot_isinstance (qa_cons (qv 4) (qa_cons (qe_const (ExcAt.const g_LendError) (by rfl)) qa_nil))) (qe_and (qe_callB (cd_isX xc_NoSuchStep hz hf isa_ok_NoSuchStep) (by rfl) z_isinstance PyProof.Rows.boot_isinstance (qa_cons (qv 4) (qa_cons (qe_type (by rfl) z_ValueError (by decide +kernel)) qa_nil))) (qe_one (qe_not (qv 3))))) qa_nil))))))))))
abbrev s_law_followed : Stmt := topS 36
theorem sc_law_followed : FnScope ["rows", "kind", "steps", "step", "found", "option"] ["rows", "kind", "steps"] (defScope s_law_followed) := ⟨rfl, rfl, rfl, by decide +kernel, rfl, by decide +kernel, by decide +kernel⟩
def b_law_followed (d_law_options : DSp) : TDS := (dSeq (dForS (dVar 2) (dName 3)
    (dSeq (dAsg (dLcS (dCall d_law_options (dCons (dVar 0) (dCons (dVar 1) dNil))) (dName 5) (dB (dOp rEqD (dOp rIxD (dVar 5) (dC (.int 0))) (dVar 3))) (dOp rIxD (dVar 5) (dC (.int 1))) [5]) (dName 4))
    (dSeq (dIf (dB (dOp rEqD (dCB rLen (dCons (dVar 4) dNil)) (dC (.int 0))))
    (dRet (dLst (dCons (dC (.str "step")) (dCons (dC (.bl true)) dNil))))
    dNext)
    (dAsg (dOp rIxD (dVar 4) (dC (.int 0))) (dName 1)))))
    (dRet (dVar 1)))
theorem ok_law_followed {P : Program} {w : World} {K : PySem.W.Frag} {mg : Str → Option Value} {k : Nat} {d d_law_options : DSp} (F : FunAt K mg "_law_followed" s_law_followed ["rows", "kind", "steps"]) (C_law_options : Callee P w K mg k "_law_options" ["rows", "kind"] d_law_options) (z_len : mg "len" = none)
    (len : ∀ ds m P EX, d ds m P EX → ds.length = 3) (rd : ∀ ds m P EX, d ds m P EX → Go P (b_law_followed d_law_options) (dstart ["rows", "kind", "steps", "step", "found", "option"] ds) m) : Callee P w K mg (k + 1) "_law_followed" ["rows", "kind", "steps"] d :=
  F.callee sc_law_followed len (b_law_followed d_law_options) rd fun base f cdv A outer s H E hr =>
    ((qss_cons (qs_forS (vs := [3]) PassesOwn.never rfl (qv 2) (qg_name (i := 3) sc_law_followed.nd rfl (by first | exact Or.inl rfl | exact Or.inr rfl) (by decide))
    (qss_cons (qs_lcX (i := 4) (own := [("option", 5)]) rfl sc_law_followed.nd rfl rfl (sw_true rfl rfl rfl (by decide +kernel)) (pi_sq (qe_fn C_law_options hr (by rfl) (qa_cons (qv 0) (qa_cons (qv 1) qa_nil)))) (blkOk_by (N := ["rows", "kind", "steps", "step", "found", "option"]) (sc := defScope s_law_followed) (by decide +kernel)) (fun _ _ _ _ _ => (qg_name (i := 5) sc_law_followed.nd rfl (by first | exact Or.inl rfl | exact Or.inr rfl) (by decide))) (fun _ _ _ _ _ => (qts_one (qt_cmp (od_eq hr.units) (qe_ix (qv 5) qe_int (fun _ _ => rfl)) (qv 3) (nomark _)))) (fun _ _ _ _ _ => (qe_ix (qv 5) qe_int (fun _ _ => rfl))) (fun _ _ _ => l_lcS))
    (qss_cons (qs_if (qt_cmp (od_eq hr.units) (qe_callB (cd_len) (by rfl) z_len PySem.boot_len (qa_cons (qv 4) qa_nil)) qe_int (nomark _))
    (qss_one (qs_ret (qe_lst (qa_cons qe_str (qa_cons qe_bl qa_nil)))))
    qss_nil)
    (qss_one (qs_set (i := 1) sc_law_followed.nd rfl (by first | exact Or.inl rfl | exact Or.inr rfl) (qe_ix (qv 4) qe_int (fun _ _ => rfl)))))))
    (qss_one (qs_ret (qv 1)))))
abbrev s_law : Stmt := topS 37
theorem sc_law : FnScope ["script", "state", "rows", "table", "copy", "names", "name", "due", "choice", "step", "k", "place", "kind", "at", "behind", "actual"] ["script"] (defScope s_law) := ⟨rfl, rfl, rfl, by decide +kernel, rfl, by decide +kernel, by decide +kernel⟩
def b_law (d_law_records d_law_table d_law_pick d_law_walk d_law_step d_law_followed d_law_new d_law_told d_law_same : DSp) : TDS := (dSeq (dAsg (dLst (dCons (dC (.int 0)) (dCons (dC (.int 0)) (dCons (dC (.int 1)) (dCons (dC (.int 9)) dNil))))) (dName 1))
    (dSeq (dAsg (dCall d_law_records (dCons (dVar 1) (dCons (dVar 0) dNil))) (dName 2))
    (dSeq (dAsg (dCall d_law_table (dCons (dVar 1) (dCons (dVar 0) (dCons (dVar 2) dNil)))) (dName 3))
    (dSeq (dAsg (dItems (dVar 3)) (dName 4))
    (dSeq (dAsg (dCB rListK (dCons (dVar 3) dNil)) (dName 5))
    (dSeq (dAsg (dOp rIxD (dVar 5) (dCall d_law_pick (dCons (dVar 1) (dCons (dVar 0) (dCons (dCB rLen (dCons (dVar 5) dNil)) dNil))))) (dName 6))
    (dSeq (dAsg (dCall d_law_walk (dCons (dVar 1) (dCons (dVar 0) (dCons (dVar 2) (dCons (dVar 6) (dCons (dDGet (dVar 3) (dVar 6)) dNil)))))) (dGTup 2 (dGCons (dName 11) (dGCons (dName 12) dGNil))))
    (dSeq (dAsg (dVar 12) (dName 7))
    (dSeq (dAsg (dCall d_law_pick (dCons (dVar 1) (dCons (dVar 0) (dCons (dC (.int 4)) dNil)))) (dName 8))
    (dSeq (dAsg (dCall d_law_step (dCons (dVar 1) (dCons (dVar 0) (dCons (dVar 2) dNil)))) (dName 9))
    (dSeq (dIf (dAnd (dB (dOp rEqD (dVar 8) (dC (.int 1)))) (dB (dOp rLtD (dCB rLen (dCons (dOp rIxD (dVar 11) (dC (.int 1))) dNil)) (dC (.int 12)))))
    (dSeq (dAsg (dCall d_law_pick (dCons (dVar 1) (dCons (dVar 0) (dCons (dOp rAdd (dCB rLen (dCons (dOp rIxD (dVar 11) (dC (.int 1))) dNil)) (dC (.int 1))) dNil)))) (dName 13))
    (dSeq (dAsg (dSl (dOp rIxD (dVar 11) (dC (.int 1))) (dPart (dOp rAdd (dVar 13) (dCall d_law_pick (dCons (dVar 1) (dCons (dVar 0) (dCons (dC (.int 2)) dNil)))))) dNoPart) (dName 14))
    (dSeq (dAsg (dTup (dCons (dVar 6) (dCons (dOp rAdd (dOp rAdd (dSl (dOp rIxD (dVar 11) (dC (.int 1))) dNoPart (dPart (dVar 13))) (dTup (dCons (dVar 9) dNil))) (dVar 14)) dNil))) (dName 11))
    (dAsg (dCall d_law_followed (dCons (dVar 2) (dCons (dDGet (dVar 3) (dVar 6)) (dCons (dOp rIxD (dVar 11) (dC (.int 1))) dNil)))) (dName 7)))))
    dNext)
    (dSeq (dIf (dB (dOp rEqD (dVar 8) (dC (.int 2))))
    (dSeq (dIf (dB (dOp rEqD (dCall d_law_pick (dCons (dVar 1) (dCons (dVar 0) (dCons (dC (.int 2)) dNil)))) (dC (.int 0))))
    (dAsg (dTup (dCons (dVar 6) (dCons (dTup (dCons (dVar 9) dNil)) dNil))) (dName 11))
    dNext)
    (dSeq (dAsg (dTup (dCons (dCall d_law_new (dCons (dVar 5) (dCons (dVar 6) dNil))) (dCons (dOp rIxD (dVar 11) (dC (.int 1))) dNil))) (dName 11))
    (dAsg (dLst (dCons (dC (.str "variable")) (dCons (dC (.bl true)) dNil))) (dName 7))))
    dNext)
    (dSeq (dForR1 (dCons (dC (.int 2)) dNil) (dName 10)
    (dSeq (dAsg (dCall d_law_told (dCons (dVar 11) (dCons (dVar 2) (dCons (dVar 3) dNil)))) (dName 15))
    (dIf (dTru (dCB rIsD (dCons (dVar 7) (dCons (dC (.ty "list")) dNil))))
    (dIf (dB (dOp rNeL (dVar 15) (dVar 7)))
    (dRet (dC (.bl false)))
    dNext)
    (dIf (dNot (dTru (dCall d_law_same (dCons (dVar 15) (dCons (dVar 7) dNil)))))
    (dRet (dC (.bl false)))
    dNext))))
    (dRet (dOp rEqL (dItems (dVar 3)) (dVar 4))))))))))))))))
theorem ok_law {P : Program} {w : World} {K : PySem.W.Frag} {mg : Str → Option Value} {k : Nat} {d d_law_records d_law_table d_law_pick d_law_walk d_law_step d_law_followed d_law_new d_law_told d_law_same : DSp} (F : FunAt K mg "law" s_law ["script"]) (C_law_records : Callee P w K mg k "_law_records" ["state", "script"] d_law_records) (C_law_table : Callee P w K mg k "_law_table" ["state", "script", "rows"] d_law_table) (C_law_pick : Callee P w K mg k "_law_pick" ["state", "script", "many"] d_law_pick) (C_law_walk : Callee P w K mg k "_law_walk" ["state", "script", "rows", "name", "kind"] d_law_walk) (C_law_step : Callee P w K mg k "_law_step" ["state", "script", "rows"] d_law_step) (C_law_followed : Callee P w K mg k "_law_followed" ["rows", "kind", "steps"] d_law_followed) (C_law_new : Callee P w K mg k "_law_new" ["taken", "word"] d_law_new) (C_law_told : Callee P w K mg k "_law_told" ["place", "rows", "table"] d_law_told) (C_law_same : Callee P w K mg k "_law_same" ["actual", "due"] d_law_same) (z_list : mg "list" = none) (z_len : mg "len" = none) (z_isinstance : mg "isinstance" = none) (z_range : mg "range" = none)
    (len : ∀ ds m P EX, d ds m P EX → ds.length = 1) (rd : ∀ ds m P EX, d ds m P EX → Go P (b_law d_law_records d_law_table d_law_pick d_law_walk d_law_step d_law_followed d_law_new d_law_told d_law_same) (dstart ["script", "state", "rows", "table", "copy", "names", "name", "due", "choice", "step", "k", "place", "kind", "at", "behind", "actual"] ds) m) : Callee P w K mg (k + 1) "law" ["script"] d :=
  F.callee sc_law len (b_law d_law_records d_law_table d_law_pick d_law_walk d_law_step d_law_followed d_law_new d_law_told d_law_same) rd fun base f cdv A outer s H E hr =>
    ((qss_cons (qs_set (i := 1) sc_law.nd rfl (by first | exact Or.inl rfl | exact Or.inr rfl) (qe_lst (qa_cons qe_int (qa_cons qe_int (qa_cons qe_int (qa_cons qe_int qa_nil))))))
    (qss_cons (qs_set (i := 2) sc_law.nd rfl (by first | exact Or.inl rfl | exact Or.inr rfl) (qe_fn C_law_records hr (by rfl) (qa_cons (qv 1) (qa_cons (qv 0) qa_nil))))
    (qss_cons (qs_set (i := 3) sc_law.nd rfl (by first | exact Or.inl rfl | exact Or.inr rfl) (qe_fn C_law_table hr (by rfl) (qa_cons (qv 1) (qa_cons (qv 0) (qa_cons (qv 2) qa_nil)))))
    (qss_cons (qs_set (i := 4) sc_law.nd rfl (by first | exact Or.inl rfl | exact Or.inr rfl) (qe_items (by rfl) (qv 3) (by rfl) z_list PyProof.Rows.boot_list))
    (qss_cons (qs_set (i := 5) sc_law.nd rfl (by first | exact Or.inl rfl | exact Or.inr rfl) (qe_callTy (cd_listK rfl) (by rfl) z_list PyProof.Rows.boot_list (qa_cons (qv 3) qa_nil)))
    (qss_cons (qs_set (i := 6) sc_law.nd rfl (by first | exact Or.inl rfl | exact Or.inr rfl) (qe_ix (qv 5) (qe_fn C_law_pick hr (by rfl) (qa_cons (qv 1) (qa_cons (qv 0) (qa_cons (qe_callB (cd_len) (by rfl) z_len PySem.boot_len (qa_cons (qv 5) qa_nil)) qa_nil)))) (fun _ _ => rfl)))
    (qss_cons (qs_asg (vs := [11, 12]) (qe_fn C_law_walk hr (by rfl) (qa_cons (qv 1) (qa_cons (qv 0) (qa_cons (qv 2) (qa_cons (qv 6) (qa_cons (qe_dget hr.units (qv 3) (qv 6) (fun _ _ => rfl)) qa_nil)))))) (qg_tup rfl (qgs_cons (qg_name (i := 11) sc_law.nd rfl (by first | exact Or.inl rfl | exact Or.inr rfl) (by decide)) (qgs_cons (qg_name (i := 12) sc_law.nd rfl (by first | exact Or.inl rfl | exact Or.inr rfl) (by decide)) qgs_nil))))
    (qss_cons (qs_set (i := 7) sc_law.nd rfl (by first | exact Or.inl rfl | exact Or.inr rfl) (qv 12))
    (qss_cons (qs_set (i := 8) sc_law.nd rfl (by first | exact Or.inl rfl | exact Or.inr rfl) (qe_fn C_law_pick hr (by rfl) (qa_cons (qv 1) (qa_cons (qv 0) (qa_cons qe_int qa_nil)))))
    (qss_cons (qs_set (i := 9) sc_law.nd rfl (by first | exact Or.inl rfl | exact Or.inr rfl) (qe_fn C_law_step hr (by rfl) (qa_cons (qv 1) (qa_cons (qv 0) (qa_cons (qv 2) qa_nil)))))
    (qss_cons (qs_if (PW.pt (qw_and (qt_cmp (od_eq hr.units) (qv 8) qe_int (nomark _)) (qw_and1 (qt_cmp od_lt (qe_callB (cd_len) (by rfl) z_len PySem.boot_len (qa_cons (qe_ix (qv 11) qe_int (fun _ _ => rfl)) qa_nil)) qe_int (nomark _)))))
    (qss_cons (qs_set (i := 13) sc_law.nd rfl (by first | exact Or.inl rfl | exact Or.inr rfl) (qe_fn C_law_pick hr (by rfl) (qa_cons (qv 1) (qa_cons (qv 0) (qa_cons (qe_op od_add (qe_callB (cd_len) (by rfl) z_len PySem.boot_len (qa_cons (qe_ix (qv 11) qe_int (fun _ _ => rfl)) qa_nil)) qe_int) qa_nil)))))
    (qss_cons (qs_set (i := 14) sc_law.nd rfl (by first | exact Or.inl rfl | exact Or.inr rfl) (qe_slice (qe_ix (qv 11) qe_int (fun _ _ => rfl)) (qo_some (qe_op od_add (qv 13) (qe_fn C_law_pick hr (by rfl) (qa_cons (qv 1) (qa_cons (qv 0) (qa_cons qe_int qa_nil)))))) qo_none))
    (qss_cons (qs_set (i := 11) sc_law.nd rfl (by first | exact Or.inl rfl | exact Or.inr rfl) (qe_tup (qa_cons (qv 6) (qa_cons (qe_op od_add (qe_op od_add (qe_slice (qe_ix (qv 11) qe_int (fun _ _ => rfl)) qo_none (qo_some (qv 13))) (qe_tup (qa_cons (qv 9) qa_nil))) (qv 14)) qa_nil))))
    (qss_one (qs_set (i := 7) sc_law.nd rfl (by first | exact Or.inl rfl | exact Or.inr rfl) (qe_fn C_law_followed hr (by rfl) (qa_cons (qv 2) (qa_cons (qe_dget hr.units (qv 3) (qv 6) (fun _ _ => rfl)) (qa_cons (qe_ix (qv 11) qe_int (fun _ _ => rfl)) qa_nil)))))))))
    qss_nil)
    (qss_cons (qs_if (qt_cmp (od_eq hr.units) (qv 8) qe_int (nomark _))
    (qss_cons (qs_if (qt_cmp (od_eq hr.units) (qe_fn C_law_pick hr (by rfl) (qa_cons (qv 1) (qa_cons (qv 0) (qa_cons qe_int qa_nil)))) qe_int (nomark _))
    (qss_one (qs_set (i := 11) sc_law.nd rfl (by first | exact Or.inl rfl | exact Or.inr rfl) (qe_tup (qa_cons (qv 6) (qa_cons (qe_tup (qa_cons (qv 9) qa_nil)) qa_nil)))))
    qss_nil)
    (qss_cons (qs_set (i := 11) sc_law.nd rfl (by first | exact Or.inl rfl | exact Or.inr rfl) (qe_tup (qa_cons (qe_fn C_law_new hr (by rfl) (qa_cons (qv 5) (qa_cons (qv 6) qa_nil))) (qa_cons (qe_ix (qv 11) qe_int (fun _ _ => rfl)) qa_nil))))
    (qss_one (qs_set (i := 7) sc_law.nd rfl (by first | exact Or.inl rfl | exact Or.inr rfl) (qe_lst (qa_cons qe_str (qa_cons qe_bl qa_nil)))))))
    qss_nil)
    (qss_cons (qs_forR1 (vs := [10]) PassesOwn.never rfl (by rfl) z_range (qa_cons qe_int qa_nil) (qg_name (i := 10) sc_law.nd rfl (by first | exact Or.inl rfl | exact Or.inr rfl) (by decide))
    (qss_cons (qs_set (i := 15) sc_law.nd rfl (by first | exact Or.inl rfl | exact Or.inr rfl) (qe_fn C_law_told hr (by rfl) (qa_cons (qv 11) (qa_cons (qv 2) (qa_cons (qv 3) qa_nil)))))
    (qss_one (qs_if (qt_tru (qe_callB (cd_isi) (by rfl) z_isinstance PyProof.Rows.boot_isinstance (qa_cons (qv 7) (qa_cons (qe_type (by rfl) z_list PyProof.Rows.boot_list) qa_nil))))
    (qss_one (qs_if (qt_cmp (od_neL hr.units) (qv 15) (qv 7) (nomark _))
    (qss_one (qs_ret qe_bl))
    qss_nil))
    (qss_one (qs_if (qt_not (qt_tru (qe_fn C_law_same hr (by rfl) (qa_cons (qv 15) (qa_cons (qv 7) qa_nil)))))
    (qss_one (qs_ret qe_bl))
    qss_nil))))))
    (qss_one (qs_ret (qe_cmp (od_eqL hr.units) (qe_items (by rfl) (qv 3) (by rfl) z_list PyProof.Rows.boot_list) (qv 4) (nomark _))))))))))))))))))
local macro_rules | `(tactic| one_place) => `(tactic| first
  | assumption | (apply Ne.symm; assumption) | exact neA (by assumption) (by assumption) | exact (neA (by assumption) (by assumption)).symm | fail)
local macro_rules | `(tactic| lcg_src) => `(tactic| first
  | assumption | exact put_same | (refine Eq.trans (put_ne ?_) ?_; one_place; lcg_src) | fail)
local macro_rules | `(tactic| one_sign) => `(tactic| first
  | omega | (simp only [List.length_cons, List.length_nil, List.length_append, List.length_map, List.length_take]; omega) | (simp only [PySem.sizeLine_eq, List.length_cons, List.length_nil, List.length_append, List.length_map, List.length_take]; omega)
  | exact szA (by first | assumption | exact Pl.one (by assumption) | exact plLit (n := 100) (by decide +kernel) (by decide +kernel)) (by first | assumption | exact Pl.one (by assumption) | exact plLit (n := 100) (by decide +kernel) (by decide +kernel)) (by omega)
  | exact Or.inr ⟨by omega, by omega⟩ | exact Or.inl ⟨by omega, by omega⟩
  | exact ⟨by decide, by decide, by decide⟩
  | exact wide_div (b := 64) (by omega) (by omega) (by decide) (by decide) | decide)
local macro_rules | `(tactic| got_up) => `(tactic| first
  | rfl | assumption | exact atI_nat (by assumption) | exact atI_int (by first | assumption | omega) (by first | assumption | (simp only [List.length_map] at *; omega)))
local macro_rules | `(tactic| lcg_sub) => `(tactic| first
  | with_reducible refine s_seqA ?_ | with_reducible refine s_seqD ?_ | with_reducible refine s_seqIR ?_ | with_reducible refine s_seqIS ?_ | with_reducible refine s_seqISS ?_ | with_reducible refine s_forR1 ?_ | with_reducible refine s_forR2 ?_ | with_reducible refine s_forS ?_ | with_reducible refine r_FST ?_ | with_reducible refine r_FSR ?_ | ((with_reducible refine' r_FSL ?h1 ?h2); (case h1 => lcg_src)) | with_reducible refine s_lcS ?_ | with_reducible refine r_CST ?_ | with_reducible refine r_CSR ?_ | ((with_reducible refine' r_CSL ?h1 ?h2); (case h1 => lcg_src)) | with_reducible refine s_lcR1 ?_ | with_reducible refine s_bm ?_ | with_reducible refine s_asg ?_ | with_reducible refine s_if ?_ | with_reducible refine s_ret ?_ | with_reducible refine s_drop ?_ | with_reducible refine s_next ?_
  | with_reducible refine s_name ?_ | (refine' s_var ?h1 ?h2; (case h1 => rfl)) | with_reducible refine s_c ?_ | with_reducible refine s_op ?_ | with_reducible refine s_cb ?_ | with_reducible refine s_call ?_
  | with_reducible refine s_nil ?_ | with_reducible refine s_cons ?_ | with_reducible refine s_ifE ?_ | with_reducible refine s_andV ?_ | with_reducible refine s_orV ?_ | with_reducible refine s_notV ?_
  | with_reducible refine s_B ?_ | with_reducible refine s_and ?_ | with_reducible refine s_or ?_ | with_reducible refine s_not ?_ | with_reducible refine s_tru ?_ | with_reducible refine s_yes ?_ | with_reducible refine s_truB ?_ | with_reducible refine s_truT ?_
  | with_reducible refine s_chain ?_ | with_reducible refine s_gsub ?_ | with_reducible refine s_sl ?_ | with_reducible refine s_opn ?_ | with_reducible refine s_ops ?_
  | with_reducible refine s_tup ?_ | with_reducible refine s_lst ?_
  | (refine ⟨(by first | exact Nat.zero_le _ | (show _ ≤ sizeLine; (try simp only [List.length_cons, List.length_nil]); decide)), ?_⟩)
  | with_reducible refine' r_addI ?_ | with_reducible refine' r_sub ?_ | with_reducible refine' r_lt ?_ | with_reducible refine' r_le ?_ | with_reducible refine' r_gt ?_ | with_reducible refine' r_ge ?_
  | with_reducible refine' r_eqI ?_ | with_reducible refine' r_eqS ?_ | with_reducible refine' r_neI ?_ | with_reducible refine' r_neS ?_ | with_reducible refine' r_eqIS ?_ | with_reducible refine' r_eqSI ?_
  | ((with_reducible refine' r_mul ?h1 ?h2); (case h1 => one_sign)) | ((with_reducible refine' r_mod ?h1 ?h2); (case h1 => one_sign)) | ((with_reducible refine' r_fdiv ?h1 ?h2); (case h1 => one_sign)) | ((with_reducible refine' r_pow ?h1 ?h2); (case h1 => one_sign))
  | ((with_reducible refine' r_addT ?h1 ?h2); (case h1 => one_sign)) | ((with_reducible refine' r_addS ?h1 ?h2); (case h1 => one_sign)) | ((with_reducible refine' r_addL ?h1 ?h2 ?h3 ?h4); (case h1 => lcg_src); (case h2 => lcg_src); (case h3 => one_sign))
  | ((with_reducible refine' r_ixT ?h1 ?h2); (case h1 => got_up)) | ((with_reducible refine' r_ixL ?h1 ?h2 ?h3); (case h1 => lcg_src); (case h2 => got_up)) | ((with_reducible refine' r_ixR ?h1 ?h2); (case h1 => got_up))
  | with_reducible refine' r_lenT ?_ | ((with_reducible refine' r_lenL ?h1 ?h2); (case h1 => lcg_src)) | with_reducible refine' r_lenR ?_ | ((with_reducible refine' r_lenS ?h1 ?h2); (case h1 => one_sign))
  | with_reducible refine' r_int ?_ | with_reducible refine' r_abs ?_ | ((with_reducible refine' r_tupL ?h1 ?h2); (case h1 => lcg_src)) | with_reducible refine' r_tupR ?_ | with_reducible refine' r_tupT ?_
  | ((with_reducible refine' r_app ?h1 ?h2 ?h3); (case h1 => lcg_src); (case h2 => one_sign); (try simp only [put_put]); try rw [put_swap (by one_place)])
  | ((refine' ⟨r_isl ?h1, ?h2⟩); (case h1 => lcg_src))
  | ((with_reducible refine' r_inL ?h1 ?h2); (case h1 => lcg_src)) | with_reducible refine' r_inT ?_ | ((with_reducible refine' r_ninL ?h1 ?h2); (case h1 => lcg_src))
  | ((with_reducible refine' r_set ?h1 ?h2 ?h3); (case h1 => lcg_src); (case h2 => first | rfl | decide); try simp only [put_put, List.set_cons_zero, List.set_cons_succ, Int.reduceToNat])
  | with_reducible refine ite_nt ?_ | with_reducible refine ite_nf ?_ | with_reducible refine ite_t ?_ | with_reducible refine ite_f ?_
  | with_reducible refine iteD (fun _ => ?_) (fun _ => ?_) | with_reducible refine iteN (fun _ => ?_) (fun _ => ?_))
local macro_rules | `(tactic| lcg_sub) => `(tactic| (with_reducible refine s_new (fun p hp => ?_); (try simp only [put_none] at hp); (repeat' (rename _ ∧ _ => hA; obtain ⟨_, _⟩ := hA))))
local macro_rules | `(tactic| lcg_sub) => `(tactic| ((with_reducible refine' use_pick2 ?h1 ?h2 ?h3 ?h4 ?h5); (case h1 => lcg_src); (case h2 => first | assumption | exact S4.Ok.d (by assumption) _); (case h3 => one_sign); (case h4 => one_sign); intro _ _ _ _ _ _; try simp only [put_put]))
local macro_rules | `(tactic| one_item) => `(tactic| (intro x o h; simp only [put] at h ⊢; grind))
local macro_rules | `(tactic| lcg_off) => `(tactic| repeat' (lcg_sub; try dsimp only [List.set_cons_zero, List.set_cons_succ]))
local macro_rules | `(tactic| lcg_sub) => `(tactic| ((with_reducible refine' r_is ?h1 ?h2 ?h3); (case h1 => rfl); (case h2 => first | exact kt_NoneType_bool | exact kt_NoneType_int | exact kt_NoneType_str | exact kt_NoneType_tuple | exact kt_NoneType_list | exact kt_bool_bool | exact kt_bool_int | exact kt_bool_str | exact kt_bool_tuple | exact kt_bool_list | exact kt_int_bool | exact kt_int_int | exact kt_int_str | exact kt_int_tuple | exact kt_int_list | exact kt_str_bool | exact kt_str_int | exact kt_str_str | exact kt_str_tuple | exact kt_str_list | exact kt_tuple_bool | exact kt_tuple_int | exact kt_tuple_str | exact kt_tuple_tuple | exact kt_tuple_list | exact kt_list_bool | exact kt_list_int | exact kt_list_str | exact kt_list_tuple | exact kt_list_list)))
local macro_rules | `(tactic| lcg_sub) => `(tactic| with_reducible refine r_eqB ?_)
local macro_rules | `(tactic| lcg_sub) => `(tactic| first | ((with_reducible refine r_slT ?_); try simp only [cut_to]) | ((with_reducible refine' r_slS ?h1 ?h2); (case h1 => one_sign)) | ((with_reducible refine' r_slL ?h1 ?h2); (case h1 => lcg_src); try simp only [cut_to]) | (with_reducible refine r_slR ?_; try simp only [cut_to]))
local macro_rules | `(tactic| lcg_sub) => `(tactic| first
  | ((with_reducible refine' r_inT' ?h1 ?h2); (case h1 => rfl)) | ((with_reducible refine' r_inL' ?h1 ?h2 ?h3); (case h1 => lcg_src); (case h2 => rfl)) | ((with_reducible refine' r_ninT' ?h1 ?h2); (case h1 => rfl)) | ((with_reducible refine' r_ninL' ?h1 ?h2 ?h3); (case h1 => lcg_src); (case h2 => rfl))
  | ((with_reducible refine' iteDT ?h1 ?h2); (case h1 => decide +kernel)) | ((with_reducible refine' iteDF ?h1 ?h2); (case h1 => decide +kernel)) | ((with_reducible refine' iteNT ?h1 ?h2); (case h1 => decide +kernel)) | ((with_reducible refine' iteNF ?h1 ?h2); (case h1 => decide +kernel)) | fail)
local macro_rules | `(tactic| top_strB) => `(tactic| repeat' ((first | lcg_sub | with_reducible refine s_seq ?_); try dsimp only [List.set_cons_zero, List.set_cons_succ]))

section
variable {t u v : TDE} {sd : DS} {m : M} {P : DK} {D' : DEnds} {tl tk : TDA} {d : DSp} {na nb : Nat}
def rDGetP (x y : D) (m2 : M) (P : DK) : Prop := ∃ a kvs k d, x = .ref a ∧ y = kD k ∧ m2 a = some (.dct kvs) ∧ valD kvs k = some d ∧ P d m2
theorem s_dget (h : t sd m fun x m1 => u sd m1 fun y m2 => rDGetP x y m2 P) : dDGet t u sd m P := h
theorem r_dget {a : Addr} {kvs : List (Key × D)} {z : Str} {e : D} (h : m a = some (.dct kvs)) (hv : valD kvs (.inr z) = some e) (q : P e m) : rDGetP (.ref a) (.str z) m P := ⟨a, kvs, .inr z, e, rfl, rfl, h, hv, q⟩
theorem s_un {r : R1D} (h : t sd m fun x m1 => r x m1 P) : dUn r t sd m P := h
theorem r_neg {i : Int} (q : P (.int (-i)) m) : rNegD (.int i) m P := q
theorem r_inK {a : Addr} {kvs : List (Key × D)} {z : Str} (h : m a = some (.dct kvs)) (q : P (.bl (valD kvs (.inr z)).isSome) m) : rInK (.str z) (.ref a) m P := ⟨a, kvs, .inr z, rfl, rfl, h, q⟩
theorem r_ninK {a : Addr} {kvs : List (Key × D)} {z : Str} (h : m a = some (.dct kvs)) (q : P (.bl (!(valD kvs (.inr z)).isSome)) m) : rNotInK (.str z) (.ref a) m P := ⟨a, kvs, .inr z, rfl, rfl, h, q⟩
theorem s_callK (h : tl sd m fun xs m1 => tk sd m1 fun ys m2 => xs.length = na ∧ ys.length = nb ∧ d (xs ++ ys) m2 P noX) : dCallK d na nb tl tk sd m P := h
theorem s_isN (h : t sd m fun x m1 => P (.bl (nonB x)) m1) : dIsN t sd m P := h
theorem s_notN (h : t sd m fun x m1 => P (.bl (!nonB x)) m1) : dNotN t sd m P := h
theorem r_and3 {A B C : Prop} (a : A) (b : B) (c : C) : A ∧ B ∧ C := ⟨a, b, c⟩
theorem s_gtup {ys : List D} {gs : TDGs} {n : Nat} {Q : DS → M → Prop} (hl : ys.length = n) (h : gs ys sd m Q) : dGTup n gs (.tup ys) sd m Q := ⟨ys, rfl, hl, h⟩
theorem s_gcons {t : TDG} {u : TDGs} {d : D} {r : List D} {Q : DS → M → Prop} (h : t d sd m fun sd' m' => u r sd' m' Q) : dGCons t u (d :: r) sd m Q := ⟨d, r, rfl, h⟩
theorem s_gnil {Q : DS → M → Prop} (h : Q sd m) : dGNil [] sd m Q := ⟨rfl, h⟩
end
local macro_rules | `(tactic| lcg_sub) => `(tactic| first
  | with_reducible refine s_dget ?_ | with_reducible refine s_un ?_ | with_reducible refine r_neg ?_ | ((with_reducible refine' r_dget ?h1 ?h2 ?h3); (case h1 => lcg_src); (case h2 => assumption)) | with_reducible refine s_callK ?_ | with_reducible refine s_isN ?_ | with_reducible refine s_notN ?_
  | ((with_reducible refine' r_inK ?h1 ?h2); (case h1 => lcg_src)) | ((with_reducible refine' r_ninK ?h1 ?h2); (case h1 => lcg_src))
  | ((with_reducible refine' s_gtup ?h1 ?h2); (case h1 => rfl)) | with_reducible refine s_gcons ?_ | with_reducible refine s_gnil ?_)
theorem r_listT {xs : List D} {m : M} {P : DK} (q : ∀ l, m l = none → P (.ref l) (put m l (.lst xs))) : rList [.tup xs] m P := q
theorem r_listR {xs : List D} {m : M} {P : DK} (q : ∀ l, m l = none → P (.ref l) (put m l (.lst xs))) : rList [.rol xs] m P := ⟨xs, rfl, q⟩
theorem r_listL {xs : List D} {a : Addr} {m : M} {P : DK} (h : m a = some (.lst xs)) (q : ∀ l, m l = none → P (.ref l) (put m l (.lst xs))) : rList [.ref a] m P := ⟨xs, h, q⟩
local macro_rules | `(tactic| lcg_sub) => `(tactic| first | with_reducible refine r_listT ?_ | with_reducible refine r_listR ?_ | ((with_reducible refine' r_listL ?h1 ?h2); (case h1 => lcg_src)))
def crD : Option Nat → D
  | none => .non
  | some k => .int k
theorem iteNonT {x : D} {A B : Prop} (h : nonB x = true) (q : A) : if nonB x = true then A else B := by rw [if_pos h]; exact q
theorem iteNonF {x : D} {A B : Prop} (h : nonB x = false) (q : B) : if nonB x = true then A else B := by rw [if_neg (by rw [h]; decide)]; exact q
theorem iteNNonT {x : D} {A B : Prop} (h : nonB x = true) (q : B) : if (!nonB x) = true then A else B := by rw [if_neg (by rw [h]; decide)]; exact q
theorem iteNNonF {x : D} {A B : Prop} (h : nonB x = false) (q : A) : if (!nonB x) = true then A else B := by rw [if_pos (by rw [h]; decide)]; exact q
local macro_rules | `(tactic| lcg_sub) => `(tactic| first | ((with_reducible refine' iteNonT ?h1 ?h2); (case h1 => rfl)) | ((with_reducible refine' iteNonF ?h1 ?h2); (case h1 => rfl)) | ((with_reducible refine' iteNNonT ?h1 ?h2); (case h1 => rfl)) | ((with_reducible refine' iteNNonF ?h1 ?h2); (case h1 => rfl)) | fail)
theorem r_neB {a b : Bool} {m : M} {P : DK} (q : P (.bl (!decide (a = b))) m) : rNeD (.bl a) (.bl b) m P := q
theorem r_neBs {a : Bool} {m : M} {P : DK} (q : P (.bl false) m) : rNeD (.bl a) (.bl a) m P := by
  show P (.bl (!decide (a = a))) m
  rw [decide_eq_true rfl]; exact q
local macro_rules | `(tactic| lcg_sub) => `(tactic| first | with_reducible refine r_neBs ?_ | with_reducible refine r_neB ?_)

theorem len_pick : ∀ ds m P EX, sp_law_pick ds m P EX → ds.length = 3 := by
  rintro ds m P EX ⟨st, ns, many, s, rfl, _⟩; rfl
theorem rd_pick : ∀ ds m P EX, sp_law_pick ds m P EX → Go P b_law_pick (dstart ["state", "script", "many", "number", "place", "cell"] ds) m := by
  rintro ds m P EX ⟨st, ns, many, ⟨a, b, c, d⟩, rfl, hs, ⟨ha, hc, hc1⟩, h0, h1, q⟩
  show b_law_pick { nx := fun _ m' => Ret P .non m', rt := Ret P } [some (.ref st), some (.rol (ns.map D.int)), some (.int many), none, none, none] m
  dsimp only at ha hc hc1
  unfold b_law_pick
  have big : ∀ x : Int, 0 ≤ x % many ∧ x % many < many := fun x => ⟨Int.emod_nonneg _ (by omega), Int.emod_lt_of_pos _ h0⟩
  top_strB
  all_goals refine ⟨_, Less.refl _, q _ ⟨_, _, _, _⟩ (big _).1 (big _).2 ⟨?_, ?_, ?_⟩ rfl⟩
  all_goals dsimp only
  all_goals omega

/-! ### kinds -/
inductive Kd where
  | int | bool | unit | box (k : Kd) | maybe (k : Kd) | tup (ks : List Kd) | rcd (n : Str) | shared (k : Kd) | excl (k : Kd)
mutual
def Kd.D : Kd → D
  | .int => .tup [.str "int"]
  | .bool => .tup [.str "bool"]
  | .unit => .tup [.str "unit"]
  | .box k => .tup [.str "box", k.D]
  | .maybe k => .tup [.str "maybe", k.D]
  | .tup ks => .tup [.str "tuple", .tup (Kd.Ds ks)]
  | .rcd n => .tup [.str "record", .str n]
  | .shared k => .tup [.str "shared", k.D]
  | .excl k => .tup [.str "exclusive", k.D]
def Kd.Ds : List Kd → List D
  | [] => []
  | k :: ks => k.D :: Kd.Ds ks
end
theorem Kd.Ds_map : ∀ ks : List Kd, Kd.Ds ks = ks.map Kd.D
  | [] => rfl
  | k :: ks => by rw [Kd.Ds, Kd.Ds_map ks]; rfl
/-- at most n levels, tuples with 1 to 6 items, plain names -/
inductive WK : Nat → Kd → Prop where
  | int (n) : WK (n + 1) .int
  | bool (n) : WK (n + 1) .bool
  | unit (n) : WK (n + 1) .unit
  | box {n k} : WK n k → WK (n + 1) (.box k)
  | maybe {n k} : WK n k → WK (n + 1) (.maybe k)
  | tup {n ks} : ks ≠ [] → ks.length ≤ 6 → (∀ k ∈ ks, WK n k) → WK (n + 1) (.tup ks)
  | rcd (n) {z} : Pl z 20 → WK (n + 1) (.rcd z)
  | shared {n k} : WK n k → WK (n + 1) (.shared k)
  | excl {n k} : WK n k → WK (n + 1) (.excl k)
theorem WK.mono : ∀ {n m : Nat} {k : Kd}, WK n k → n ≤ m → WK m k
  | _, m + 1, _, .int n, _ => .int m
  | _, m + 1, _, .bool n, _ => .bool m
  | _, m + 1, _, .unit n, _ => .unit m
  | _, m + 1, _, .box h, e => .box (h.mono (Nat.le_of_succ_le_succ e))
  | _, m + 1, _, .maybe h, e => .maybe (h.mono (Nat.le_of_succ_le_succ e))
  | _, m + 1, _, .tup h1 h2 h, e => .tup h1 h2 fun k hk => (h k hk).mono (Nat.le_of_succ_le_succ e)
  | _, m + 1, _, .rcd n h, _ => .rcd m h
  | _, m + 1, _, .shared h, e => .shared (h.mono (Nat.le_of_succ_le_succ e))
  | _, m + 1, _, .excl h, e => .excl (h.mono (Nat.le_of_succ_le_succ e))
  | _ + 1, 0, _, _, e => absurd e (by omega)
mutual
def Kd.plainB : Kd → Bool
  | .int => true | .bool => true | .unit => true
  | .box k => k.plainB
  | .maybe k => k.plainB
  | .tup ks => Kd.plainBs ks
  | .rcd _ => true
  | .shared _ => false
  | .excl _ => false
def Kd.plainBs : List Kd → Bool
  | [] => true
  | k :: ks => k.plainB && Kd.plainBs ks
end
mutual
def Kd.copyB : Kd → Bool
  | .int => true | .bool => true | .unit => true
  | .box _ => false
  | .maybe k => k.copyB
  | .tup ks => Kd.copyBs ks
  | .rcd _ => false
  | .shared _ => true
  | .excl _ => false
def Kd.copyBs : List Kd → Bool
  | [] => true
  | k :: ks => k.copyB && Kd.copyBs ks
end
theorem Kd.plainBs_all : ∀ ks : List Kd, Kd.plainBs ks = ks.all Kd.plainB
  | [] => rfl
  | k :: ks => by rw [Kd.plainBs, Kd.plainBs_all ks]; rfl
theorem Kd.copyBs_all : ∀ ks : List Kd, Kd.copyBs ks = ks.all Kd.copyB
  | [] => rfl
  | k :: ks => by rw [Kd.copyBs, Kd.copyBs_all ks]; rfl
def Kd.parts : Kd → List Kd
  | .tup ks => ks
  | .box k => [k]
  | .maybe k => [k]
  | .shared k => [k]
  | .excl k => [k]
  | _ => []
theorem Kd.D_tup (ks : List Kd) : (Kd.tup ks).D = .tup [.str "tuple", .tup (ks.map Kd.D)] := by rw [Kd.D, Kd.Ds_map]
theorem WK.parts {n : Nat} {k : Kd} (h : WK (n + 1) k) : k.parts.length ≤ 6 ∧ ∀ j ∈ k.parts, WK n j := by
  cases h with
  | tup h1 h2 h => exact ⟨h2, h⟩
  | box h => exact ⟨Nat.le_of_ble_eq_true rfl, fun j hj => by rw [Kd.parts, List.mem_singleton] at hj; subst hj; exact h⟩
  | maybe h => exact ⟨Nat.le_of_ble_eq_true rfl, fun j hj => by rw [Kd.parts, List.mem_singleton] at hj; subst hj; exact h⟩
  | shared h => exact ⟨Nat.le_of_ble_eq_true rfl, fun j hj => by rw [Kd.parts, List.mem_singleton] at hj; subst hj; exact h⟩
  | excl h => exact ⟨Nat.le_of_ble_eq_true rfl, fun j hj => by rw [Kd.parts, List.mem_singleton] at hj; subst hj; exact h⟩
  | _ => exact ⟨Nat.le_of_ble_eq_true rfl, fun j hj => by simp [Kd.parts] at hj⟩
def sp_parts_of : DSp := fun ds m P _ => ∃ k : Kd, ds = [k.D] ∧ P (.tup (k.parts.map Kd.D)) m
theorem use_parts {k : Kd} {m : M} {P : DK} (q : P (.tup (k.parts.map Kd.D)) m) : sp_parts_of [k.D] m P noX := ⟨k, rfl, q⟩

/-- at most n levels; with the flag plain; box and borrow hold plain kinds; record names of Z -/
inductive GK (Z : Str → Prop) : Nat → Bool → Kd → Prop where
  | int (n b) : GK Z (n + 1) b .int
  | bool (n b) : GK Z (n + 1) b .bool
  | unit (n b) : GK Z (n + 1) b .unit
  | box {n k} (b) : GK Z n true k → GK Z (n + 1) b (.box k)
  | maybe {n b k} : GK Z n b k → GK Z (n + 1) b (.maybe k)
  | tup {n b ks} : ks ≠ [] → ks.length ≤ 6 → (∀ k ∈ ks, GK Z n b k) → GK Z (n + 1) b (.tup ks)
  | rcd (n b) {z} : Pl z 20 → Z z → GK Z (n + 1) b (.rcd z)
  | shared {n k} : GK Z n true k → GK Z (n + 1) false (.shared k)
  | excl {n k} : GK Z n true k → GK Z (n + 1) false (.excl k)
section
variable {Z : Str → Prop}
theorem GK.mono : ∀ {n m : Nat} {b : Bool} {k : Kd}, GK Z n b k → n ≤ m → GK Z m b k
  | _, m + 1, _, _, .int n b, _ => .int m b
  | _, m + 1, _, _, .bool n b, _ => .bool m b
  | _, m + 1, _, _, .unit n b, _ => .unit m b
  | _, m + 1, _, _, .box b h, e => .box b (h.mono (Nat.le_of_succ_le_succ e))
  | _, m + 1, _, _, .maybe h, e => .maybe (h.mono (Nat.le_of_succ_le_succ e))
  | _, m + 1, _, _, .tup h1 h2 h, e => .tup h1 h2 fun k hk => (h k hk).mono (Nat.le_of_succ_le_succ e)
  | _, m + 1, _, _, .rcd n b h z, _ => .rcd m b h z
  | _, m + 1, _, _, .shared h, e => .shared (h.mono (Nat.le_of_succ_le_succ e))
  | _, m + 1, _, _, .excl h, e => .excl (h.mono (Nat.le_of_succ_le_succ e))
  | _ + 1, 0, _, _, _, e => absurd e (by omega)
theorem GK.wk : ∀ {n : Nat} {b : Bool} {k : Kd}, GK Z n b k → WK n k
  | _, _, _, .int n b => .int n
  | _, _, _, .bool n b => .bool n
  | _, _, _, .unit n b => .unit n
  | _, _, _, .box b h => .box h.wk
  | _, _, _, .maybe h => .maybe h.wk
  | _, _, _, .tup h1 h2 h => .tup h1 h2 fun k hk => (h k hk).wk
  | _, _, _, .rcd n b h z => .rcd n h
  | _, _, _, .shared h => .shared h.wk
  | _, _, _, .excl h => .excl h.wk
theorem GK.imp {Z' : Str → Prop} (i : ∀ z, Z z → Z' z) : ∀ {n : Nat} {b : Bool} {k : Kd}, GK Z n b k → GK Z' n b k
  | _, _, _, .int n b => .int n b
  | _, _, _, .bool n b => .bool n b
  | _, _, _, .unit n b => .unit n b
  | _, _, _, .box b h => .box b (h.imp i)
  | _, _, _, .maybe h => .maybe (h.imp i)
  | _, _, _, .tup h1 h2 h => .tup h1 h2 fun k hk => (h k hk).imp i
  | _, _, _, .rcd n b h z => .rcd n b h (i _ z)
  | _, _, _, .shared h => .shared (h.imp i)
  | _, _, _, .excl h => .excl (h.imp i)
theorem GK.weak : ∀ {n : Nat} {b : Bool} {k : Kd}, GK Z n true k → GK Z n b k
  | _, _, _, .int n _ => .int n _
  | _, _, _, .bool n _ => .bool n _
  | _, _, _, .unit n _ => .unit n _
  | _, _, _, .box _ h => .box _ h
  | _, _, _, .maybe h => .maybe h.weak
  | _, _, _, .tup h1 h2 h => .tup h1 h2 fun k hk => (h k hk).weak
  | _, _, _, .rcd n _ h z => .rcd n _ h z
theorem GK.plain : ∀ {n : Nat} {k : Kd}, GK Z n true k → k.plainB = true
  | _, _, .int _ _ => rfl
  | _, _, .bool _ _ => rfl
  | _, _, .unit _ _ => rfl
  | _, _, .box _ h => by rw [Kd.plainB]; exact h.plain
  | _, _, .maybe h => by rw [Kd.plainB]; exact h.plain
  | _, _, .tup (ks := ks) h1 h2 h => by
    rw [Kd.plainB, Kd.plainBs_all, List.all_eq_true]
    exact fun k hk => (h k hk).plain
  | _, _, .rcd _ _ _ _ => rfl
theorem GK.strong : ∀ {n : Nat} {b : Bool} {k : Kd}, GK Z n b k → k.plainB = true → GK Z n true k
  | _, _, _, .int n _, _ => .int n _
  | _, _, _, .bool n _, _ => .bool n _
  | _, _, _, .unit n _, _ => .unit n _
  | _, _, _, .box _ h, _ => .box _ h
  | _, _, _, .maybe h, e => .maybe (h.strong (by rw [Kd.plainB] at e; exact e))
  | _, _, _, .tup h1 h2 h, e => .tup h1 h2 fun k hk => (h k hk).strong (by rw [Kd.plainB, Kd.plainBs_all, List.all_eq_true] at e; exact e k hk)
  | _, _, _, .rcd n _ h z, _ => .rcd n _ h z
  | _, _, _, .shared h, e => by rw [Kd.plainB] at e; cases e
  | _, _, _, .excl h, e => by rw [Kd.plainB] at e; cases e
end

/-! ### records -/
abbrev Recs := List (Str × List (Str × Kd))
def fldD (f : Str × Kd) : D := .tup [.str f.1, f.2.D]
def recD (r : Str × List (Str × Kd)) : D := .tup [.str r.1, .tup (r.2.map fldD)]
def flds (rs : Recs) (n : Str) : List (Str × Kd) := match rs.find? fun r => decide (r.1 = n) with
  | some r => r.2
  | none => []
theorem flds_at {rs : Recs} {n : Str} {i : Nat} {r : Str × List (Str × Kd)} (hi : rs[i]? = some r) (h : ∀ q ∈ rs.take i, q.1 ≠ n) (e : r.1 = n) : flds rs n = r.2 := by
  have lt := (List.getElem?_eq_some_iff.mp hi).1
  have sp : rs = rs.take i ++ r :: rs.drop (i + 1) := by
    have := (List.getElem?_eq_some_iff.mp hi).2
    rw [← this, List.getElem_cons_drop, List.take_append_drop]
  unfold flds
  rw [sp, List.find?_append]
  have n1 : (rs.take i).find? (fun q => decide (q.1 = n)) = none := by
    rw [List.find?_eq_none]
    intro q hq
    simpa using h q hq
  rw [n1]
  simp [e]
theorem flds_no {rs : Recs} {n : Str} (h : ∀ q ∈ rs, q.1 ≠ n) : flds rs n = [] := by
  unfold flds
  have n1 : rs.find? (fun q => decide (q.1 = n)) = none := by
    rw [List.find?_eq_none]
    intro q hq
    simpa using h q hq
  rw [n1]
def sp_fields_of : DSp := fun ds m P _ => ∃ (rs : Recs) (n : Str), ds = [.tup (rs.map recD), .str n] ∧ P (.tup ((flds rs n).map fldD)) m
theorem rd_fields_of : ∀ ds m P EX, sp_fields_of ds m P EX → Go P b_fields_of (dstart ["records", "name", "record", "fields"] ds) m := by
  rintro ds m P EX ⟨rs, n, rfl, q⟩
  show b_fields_of { nx := fun _ m' => Ret P .non m', rt := Ret P } [some (.tup (rs.map recD)), some (.str n), none, none] m
  unfold b_fields_of
  top_strB
  refine ⟨fun i sd m' => m' = m ∧ (∃ x y, sd = [some (.tup (rs.map recD)), some (.str n), x, y]) ∧ ∀ q ∈ rs.take i, q.1 ≠ n, ⟨rfl, ⟨_, _, rfl⟩, by simp⟩, ?_, ?_⟩
  · rintro i x _ m2 hx ⟨hm2, ⟨x1, y1, rfl⟩, hno⟩
    subst hm2
    obtain ⟨r, hi, hm, rfl⟩ := getMap hx
    unfold recD
    lcg_off
    · rename_i e
      rw [flds_at hi hno e] at q
      exact ⟨_, Less.refl _, q⟩
    · rename_i e
      refine ⟨_, Less.refl _, rfl, ⟨_, _, rfl⟩, fun q hq => ?_⟩
      rw [List.take_add_one, hi] at hq
      rcases List.mem_append.mp hq with h | h
      · exact hno q h
      · simp at h; subst h; exact e
  · rintro _ m2 ⟨hm2, ⟨x1, y1, rfl⟩, hno⟩
    subst hm2
    rw [List.length_map, List.take_length] at hno
    rw [flds_no hno] at q
    lcg_off
    exact ⟨_, Less.refl _, q⟩

def sp_law_big : DSp := fun ds m P _ => ∃ st ns s, ds = [.ref st, .rol (List.map D.int ns)] ∧ m st = some (S4.D s) ∧ s.Ok ∧
  ∀ z s', Pl z 20 → S4.Ok s' → s'.d = s.d → P (.str z) (put m st s'.D)
theorem rd_big : ∀ ds m P EX, sp_law_big ds m P EX → Go P (b_law_big sp_law_pick) (dstart ["state", "script", "letters", "chars", "size", "word", "k"] ds) m := by
  rintro ds m P EX ⟨st, ns, s, rfl, hs, ho, q⟩
  show b_law_big sp_law_pick { nx := fun _ m' => Ret P .non m', rt := Ret P } [some (.ref st), some (.rol (List.map D.int ns)), none, none, none, none, none] m
  unfold b_law_big
  lcg_off
  refine s_cut (fun sd m' => ∃ (k : Int) (s' : S4), sd = [some (.ref st), some (.rol (List.map D.int ns)), some (.str "ABCDEFGHIJKLMNOPQRSTUVWXYZ"), some (.str (Str.ofString "ABCDEFGHIJKLMNOPQRSTUVWXYZ" ++ Str.ofString "abcdefghijklmnopqrstuvwxyz0123456789")), some (.int k), none, none] ∧ m' = put m st s'.D ∧ s'.Ok ∧ s'.d = s.d ∧ 1 ≤ k ∧ k ≤ 20) ?_ ?_
  · lcg_off
    · exact ⟨_, Less.refl _, _, _, rfl, rfl, ‹_›, by simp only [*], by omega, by omega⟩
    · exact ⟨_, Less.refl _, _, _, rfl, rfl, ‹_›, by simp only [*], by omega, by omega⟩
  · rintro _ _ ⟨k, s1, rfl, rfl, o1, d1, hk1, hk2⟩
    lcg_off
    rename_i r s2 h1 h2 o2 d2
    obtain ⟨c, hc, hc2⟩ := strAt (z := "ABCDEFGHIJKLMNOPQRSTUVWXYZ") (n := 26) (by decide +kernel) (by decide +kernel) h1 h2
    refine ⟨c, hc, ?_⟩
    lcg_off
    refine s_seq ?_
    lcg_off
    refine ⟨⟨by omega, by omega⟩, fun i sd m' => ∃ (z : Str) (kk : Option D) (s' : S4), sd = [some (.ref st), some (.rol (List.map D.int ns)), some (.str "ABCDEFGHIJKLMNOPQRSTUVWXYZ"), some (.str (Str.ofString "ABCDEFGHIJKLMNOPQRSTUVWXYZ" ++ Str.ofString "abcdefghijklmnopqrstuvwxyz0123456789")), some (.int k), some (.str z), kk] ∧ m' = put m st s'.D ∧ s'.Ok ∧ s'.d = s.d ∧ Pl z (i + 1), ⟨_, _, s2, rfl, rfl, o2, by simp only [*], Pl.one hc2⟩, ?_, ?_⟩
    · rintro i _ _ hi ⟨z, kk, s3, rfl, rfl, o3, d3, pz⟩
      lcg_off
      rename_i r s4 h3 h4 o4 d4
      obtain ⟨c2, hd, hd2⟩ := strAt (z := Str.ofString "ABCDEFGHIJKLMNOPQRSTUVWXYZ" ++ Str.ofString "abcdefghijklmnopqrstuvwxyz0123456789") (n := 62) (by decide +kernel) (by decide +kernel) h3 h4
      refine ⟨c2, hd, ?_⟩
      lcg_off
      exact ⟨_, Less.refl _, _, _, s4, rfl, rfl, o4, by simp only [*], pz.app (Pl.one hd2)⟩
    · rintro _ _ ⟨z, kk, s3, rfl, rfl, o3, d3, pz⟩
      lcg_off
      exact ⟨_, Less.refl _, q _ s3 (pz.mono (by omega)) o3 d3⟩
theorem use_big {st : Addr} {ns : List Int} {a b c d : Int} {m : M} {P : DK} (h : m st = some (.lst [.int a, .int b, .int c, .int d])) (o : S4.Ok ⟨a, b, c, d⟩) (q : ∀ z s', Pl z 20 → S4.Ok s' → s'.d = d → P (.str z) (put m st s'.D)) :
    sp_law_big [.ref st, .rol (List.map D.int ns)] m P noX := ⟨st, ns, ⟨a, b, c, d⟩, rfl, h, o, q⟩
local macro_rules | `(tactic| lcg_sub) => `(tactic| ((with_reducible refine' use_big ?h1 ?h2 ?h3); (case h1 => lcg_src); (case h2 => first | assumption | exact S4.Ok.d (by assumption) _ | exact ⟨by decide, by decide, by decide⟩); intro _ _ _ _ _; try simp only [put_put]))

def lawWords : List Str := ["and", "bool", "box", "do", "else", "false", "fn", "from", "if", "int", "is", "let", "maybe", "mut", "none", "not", "or", "print", "record", "return", "some", "swap", "true", "unbox", "unit", "while", "with"]
def sp_law_words : DSp := fun ds m P _ => ds = [] ∧ ∀ p, m p = none → P (.ref p) (put m p (.lst (lawWords.map D.str)))
theorem rd_words : ∀ ds m P EX, sp_law_words ds m P EX → Go P b_law_words (dstart ["words"] ds) m := by
  rintro ds m P EX ⟨rfl, q⟩
  show b_law_words { nx := fun _ m' => Ret P .non m', rt := Ret P } [none] m
  unfold b_law_words
  lcg_off
  simp only [lawWords, List.map_cons, List.map_nil] at q
  simp only [List.cons_append, List.nil_append]
  refine ⟨_, ?_, q _ (by assumption)⟩
  one_item
theorem use_words {m : M} {P : DK} (q : ∀ p, m p = none → P (.ref p) (put m p (.lst (lawWords.map D.str)))) : sp_law_words [] m P noX := ⟨rfl, q⟩
local macro_rules | `(tactic| lcg_sub) => `(tactic| with_reducible refine use_words ?_)

def sp_law_name : DSp := fun ds m P _ => ∃ st ns s, ds = [.ref st, .rol (List.map D.int ns)] ∧ m st = some (S4.D s) ∧ s.Ok ∧
  ∀ z s', Pl z 30 → S4.Ok s' → s'.d = s.d → P (.str z) (put m st s'.D)
theorem len_name : ∀ ds m P EX, sp_law_name ds m P EX → ds.length = 2 := by
  rintro ds m P EX ⟨st, ns, s, rfl, _⟩; rfl
theorem rd_name : ∀ ds m P EX, sp_law_name ds m P EX → Go P (b_law_name sp_law_pick sp_law_words) (dstart ["state", "script", "letters", "chars", "size", "word", "k"] ds) m := by
  rintro ds m P EX ⟨st, ns, s, rfl, hs, ho, q⟩
  show b_law_name sp_law_pick sp_law_words { nx := fun _ m' => Ret P .non m', rt := Ret P } [some (.ref st), some (.rol (List.map D.int ns)), none, none, none, none, none] m
  unfold b_law_name
  lcg_off
  refine s_cut (fun sd m' => ∃ (k : Int) (s' : S4), sd = [some (.ref st), some (.rol (List.map D.int ns)), some (.str "abcdefghijklmnopqrstuvwxyz"), some (.str (Str.ofString "abcdefghijklmnopqrstuvwxyz" ++ Str.ofString "0123456789_")), some (.int k), none, none] ∧ m' = put m st s'.D ∧ s'.Ok ∧ s'.d = s.d ∧ 1 ≤ k ∧ k ≤ 20) ?_ ?_
  · lcg_off
    · exact ⟨_, Less.refl _, _, _, rfl, rfl, ‹_›, by simp only [*], by omega, by omega⟩
    · exact ⟨_, Less.refl _, _, _, rfl, rfl, ‹_›, by simp only [*], by omega, by omega⟩
  · rintro _ _ ⟨k, s1, rfl, rfl, o1, d1, hk1, hk2⟩
    lcg_off
    rename_i r s2 h1 h2 o2 d2
    obtain ⟨c, hc, hc2⟩ := strAt (z := "abcdefghijklmnopqrstuvwxyz") (n := 26) (by decide +kernel) (by decide +kernel) h1 h2
    refine ⟨c, hc, ?_⟩
    lcg_off
    refine s_seq ?_
    lcg_off
    refine ⟨⟨by omega, by omega⟩, fun i sd m' => ∃ (z : Str) (kk : Option D) (s' : S4), sd = [some (.ref st), some (.rol (List.map D.int ns)), some (.str "abcdefghijklmnopqrstuvwxyz"), some (.str (Str.ofString "abcdefghijklmnopqrstuvwxyz" ++ Str.ofString "0123456789_")), some (.int k), some (.str z), kk] ∧ m' = put m st s'.D ∧ s'.Ok ∧ s'.d = s.d ∧ Pl z (i + 1), ⟨_, _, s2, rfl, rfl, o2, by simp only [*], Pl.one hc2⟩, ?_, ?_⟩
    · rintro i _ _ hi ⟨z, kk, s3, rfl, rfl, o3, d3, pz⟩
      lcg_off
      rename_i r s4 h3 h4 o4 d4
      obtain ⟨c2, hd, hd2⟩ := strAt (z := Str.ofString "abcdefghijklmnopqrstuvwxyz" ++ Str.ofString "0123456789_") (n := 37) (by decide +kernel) (by decide +kernel) h3 h4
      refine ⟨c2, hd, ?_⟩
      lcg_off
      exact ⟨_, Less.refl _, _, _, s4, rfl, rfl, o4, by simp only [*], pz.app (Pl.one hd2)⟩
    · rintro _ _ ⟨z, kk, s3, rfl, rfl, o3, d3, pz⟩
      lcg_off
      · refine ⟨_, ?_, q _ s3 ((pz.app (plLit (n := 1) (by decide +kernel) (by decide +kernel))).mono (by omega)) o3 d3⟩
        one_item
      · refine ⟨_, ?_, q _ s3 (pz.mono (by omega)) o3 d3⟩
        one_item
theorem use_name {st : Addr} {ns : List Int} {s : S4} {m : M} {P : DK} (h : m st = some (S4.D s)) (o : s.Ok) (q : ∀ z s', Pl z 30 → S4.Ok s' → s'.d = s.d → P (.str z) (put m st s'.D)) :
    sp_law_name [.ref st, .rol (List.map D.int ns)] m P noX := ⟨st, ns, s, rfl, h, o, q⟩
local macro_rules | `(tactic| lcg_sub) => `(tactic| ((with_reducible refine' use_name ?h1 ?h2 ?h3); (case h1 => lcg_src); (case h2 => assumption); intro _ _ _ _ _; try simp only [put_put]))

def sp_law_kind (n : Nat) : DSp := fun ds m P _ => ∃ st ns s nm b zs, ∃ r : Int, ds = [.ref st, .rol (List.map D.int ns), .int r, .bl b, .ref nm] ∧ m st = some (S4.D s) ∧ s.Ok ∧ nm ≠ st ∧ m nm = some (.lst (List.map D.str zs)) ∧ zs.length ≤ 1000 ∧ (∀ z ∈ zs, Pl z 20) ∧ 1 ≤ r ∧ r ≤ n ∧ n ≤ 1000 ∧
  ∀ k s', GK (· ∈ zs) r.toNat b k → S4.Ok s' → P (Kd.D k) (put m st s'.D)
theorem use_kind {n : Nat} {st nm : Addr} {ns : List Int} {a bb c d : Int} {m : M} {P : DK} {b : Bool} {zs : List Str} {r : Int} (h : m st = some (.lst [.int a, .int bb, .int c, .int d])) (o : S4.Ok ⟨a, bb, c, d⟩) (hne : nm ≠ st) (hn : m nm = some (.lst (List.map D.str zs))) (p1 : zs.length ≤ 1000) (p2 : ∀ z ∈ zs, Pl z 20) (h1 : 1 ≤ r) (h2 : r ≤ n) (h3 : n ≤ 1000)
    (q : ∀ k s', GK (· ∈ zs) r.toNat b k → S4.Ok s' → P (Kd.D k) (put m st s'.D)) : sp_law_kind n [.ref st, .rol (List.map D.int ns), .int r, .bl b, .ref nm] m P noX := ⟨st, ns, ⟨a, bb, c, d⟩, nm, b, zs, r, rfl, h, o, hne, hn, p1, p2, h1, h2, h3, q⟩
local macro_rules | `(tactic| lcg_sub) => `(tactic| ((with_reducible refine' use_kind ?h1 ?h2 ?h3 ?h4 ?h5 ?h6 ?h7 ?h8 ?h9 ?h10); (case h1 => lcg_src); (case h2 => first | assumption | exact S4.Ok.d (by assumption) _); (case h3 => one_place); (case h4 => lcg_src); (case h5 => first | assumption | omega); (case h6 => assumption); (case h7 => omega); (case h8 => omega); (case h9 => omega); intro _ _ _ _; try simp only [put_put]))
theorem rd_kind (n : Nat) : ∀ ds m P EX, sp_law_kind (n + 1) ds m P EX → Go P (b_law_kind sp_law_pick (sp_law_kind n)) (dstart ["state", "script", "room", "plain", "names", "choice", "items", "k"] ds) m := by
  rintro ds m P EX ⟨st, ns, s, nm, b, zs, r, rfl, hs, ho, hne, hn, p1, p2, h1, h2, h3, q⟩
  show b_law_kind sp_law_pick (sp_law_kind n) { nx := fun _ m' => Ret P .non m', rt := Ret P } [some (.ref st), some (.rol (List.map D.int ns)), some (.int r), some (.bl b), some (.ref nm), none, none, none] m
  unfold b_law_kind
  obtain ⟨j, rfl⟩ : ∃ j : Nat, r = j := ⟨r.toNat, by omega⟩
  lcg_off
  rename_i c s1 g0 g1 o1 d1
  refine s_cut (fun sd m' => sd = [some (.ref st), some (.rol (List.map D.int ns)), some (.int j), some (.bl b), some (.ref nm), some (.int c), none, none] ∧ m' = put m st s1.D) ?_ ?_
  · lcg_off
    all_goals (first | exact ⟨_, Less.refl _, rfl, rfl⟩ | skip)
    all_goals have ej : (j : Int).toNat = ((j : Int) - 1).toNat + 1 := by omega
    all_goals rw [ej] at q
    · rename_i k s2 hk o2
      exact ⟨_, Less.refl _, q (.box k) s2 (.box _ hk) o2⟩
    · rename_i p _ _
      refine s_seq ?_
      lcg_off
      rename_i t s2 t0 t1 o2 d2
      refine ⟨⟨by omega, by omega⟩, fun i sd m' => ∃ (ks : List Kd) (kk : Option D) (s' : S4), sd = [some (.ref st), some (.rol (List.map D.int ns)), some (.int j), some (.bl b), some (.ref nm), some (.int c), some (.ref p), kk] ∧ m' = put (put m p (.lst (ks.map Kd.D))) st s'.D ∧ s'.Ok ∧ ks.length = i ∧ ∀ k ∈ ks, GK (· ∈ zs) ((j : Int) - 1).toNat b k,
        ⟨[], _, s2, rfl, by rw [put_comm ‹p ≠ st›, put_put, put_comm (Ne.symm ‹p ≠ st›)]; rfl, o2, rfl, fun _ h => by simp at h⟩, ?_, ?_⟩
      · rintro i _ _ hi ⟨ks, kk, s3, rfl, rfl, o3, hl, hk⟩
        lcg_off
        rename_i k s4 hk4 o4
        refine ⟨_, Less.refl _, ks ++ [k], _, s4, rfl, ?_, o4, by simp [hl], ?_⟩
        · simp only [List.map_append, List.map_cons, List.map_nil]
        · intro x hx
          rcases List.mem_append.mp hx with h | h
          · exact hk x h
          · rw [List.mem_singleton] at h; subst h; exact hk4
      · rintro _ _ ⟨ks, kk, s3, rfl, rfl, o3, hl, hk⟩
        lcg_off
        refine ⟨put m st s3.D, ?_, ?_⟩
        · one_item
        · have := q (.tup ks) s3 (.tup (by intro e; subst e; simp at hl; omega) (by omega) hk) o3
          rw [Kd.D_tup] at this
          exact this
    · rename_i k s2 hk o2
      exact ⟨_, Less.refl _, q (.maybe k) s2 (.maybe hk) o2⟩
    · have : c = 8 ∨ c = 9 := by omega
      cases b
      all_goals lcg_off
      · rcases this with rfl | rfl
        all_goals lcg_off
        all_goals rename_i k s2 hk o2
        · refine ⟨_, ?_, q (.shared k) s2 (.shared hk) o2⟩
          one_item
        · refine ⟨_, ?_, q (.excl k) s2 (.excl hk) o2⟩
          one_item
      · rename_i k s2 hk o2
        exact ⟨_, Less.refl _, q (.maybe k) s2 (.maybe hk) o2⟩
  · rintro _ _ ⟨rfl, rfl⟩
    have ej : (j : Int).toNat = ((j : Int) - 1).toNat + 1 := by omega
    rw [ej] at q
    lcg_off
    · rename_i hz t s2 t0 t1 o2 d2
      rw [List.length_map] at t1
      obtain ⟨tn, rfl⟩ : ∃ n : Nat, t = n := ⟨t.toNat, by omega⟩
      have lt : tn < zs.length := by omega
      refine r_ixL (d := .str zs[tn]) (by lcg_src) (atI_nat (by rw [List.getElem?_map, List.getElem?_eq_getElem lt]; rfl)) ?_
      lcg_off
      exact ⟨_, Less.refl _, q (.rcd zs[tn]) s2 (.rcd _ _ (p2 _ (List.getElem_mem lt)) (List.getElem_mem lt)) o2⟩
    all_goals have hc : c % 3 = 0 ∨ c % 3 = 1 ∨ c % 3 = 2 := by omega
    all_goals rcases hc with hc | hc | hc
    all_goals rw [hc]
    all_goals lcg_off
    all_goals (first | exact ⟨put m st s1.D, by one_item, q .int s1 (.int _ _) o1⟩ | exact ⟨put m st s1.D, by one_item, q .bool s1 (.bool _ _) o1⟩ | exact ⟨put m st s1.D, by one_item, q .unit s1 (.unit _ _) o1⟩ | skip)
theorem rec_kind {P : Program} {w : World} {K : PySem.W.Frag} {mg : Str → Option Value} (F : FunAt K mg "_law_kind" s_law_kind ["state", "script", "room", "plain", "names"]) (C : Callee P w K mg 1 "_law_pick" ["state", "script", "many"] sp_law_pick) (zl : mg "len" = none) (zr : mg "range" = none) (zi : mg "int" = none) (zt : mg "tuple" = none) :
    ∀ n : Nat, Callee P w K mg (n + 1) "_law_kind" ["state", "script", "room", "plain", "names"] (sp_law_kind n)
  | 0 => F.none fun ds m P EX h => by obtain ⟨_, _, _, _, _, _, _, _, _, _, _, _, _, _, h1, h2, _⟩ := h; omega
  | n + 1 => ok_law_kind F (C.mono (by omega)) (rec_kind F C zl zr zi zt n) (by assumption) (by assumption) (by assumption) (by assumption) (by rintro ds m P EX ⟨_, _, _, _, _, _, _, rfl, _⟩; rfl) (rd_kind n)

def sp_plain (n : Nat) : DSp := fun ds m P _ => ∃ k : Kd, WK n k ∧ ds = [k.D] ∧ P (.bl k.plainB) m
def sp_copy (n : Nat) : DSp := fun ds m P _ => ∃ k : Kd, WK n k ∧ ds = [k.D] ∧ P (.bl k.copyB) m
theorem use_plain {n : Nat} {k : Kd} {m : M} {P : DK} (h : WK n k) (q : P (.bl k.plainB) m) : sp_plain n [k.D] m P noX := ⟨k, h, rfl, q⟩
theorem use_copy {n : Nat} {k : Kd} {m : M} {P : DK} (h : WK n k) (q : P (.bl k.copyB) m) : sp_copy n [k.D] m P noX := ⟨k, h, rfl, q⟩
theorem Kd.plain_parts : ∀ {k : Kd}, k.plainB = (match k with | .shared _ => false | .excl _ => false | k => k.parts.all Kd.plainB) := by
  intro k
  cases k <;> simp [Kd.plainB, Kd.parts, Kd.plainBs_all]
theorem Kd.copy_parts : ∀ {k : Kd}, k.copyB = (match k with | .shared _ => true | .excl _ => false | .box _ => false | .rcd _ => false | k => k.parts.all Kd.copyB) := by
  intro k
  cases k <;> simp [Kd.copyB, Kd.parts, Kd.copyBs_all]
theorem use_partsE {k : Kd} {d : D} {m : M} {P : DK} (e : d = k.D) (q : P (.tup (k.parts.map Kd.D)) m) : sp_parts_of [d] m P noX := by subst e; exact ⟨k, rfl, q⟩
theorem use_plainE {n : Nat} {k : Kd} {d : D} {m : M} {P : DK} (e : d = k.D) (h : WK n k) (q : P (.bl k.plainB) m) : sp_plain n [d] m P noX := by subst e; exact ⟨k, h, rfl, q⟩
local macro_rules | `(tactic| lcg_sub) => `(tactic| first
  | with_reducible refine' use_partsE rfl ?_ | (refine' use_partsE (k := .int) rfl ?_) | (refine' use_partsE (k := .bool) rfl ?_) | (refine' use_partsE (k := .unit) rfl ?_) | (refine' use_partsE (k := .box _) rfl ?_) | (refine' use_partsE (k := .maybe _) rfl ?_) | (refine' use_partsE (k := .rcd _) rfl ?_) | (refine' use_partsE (k := .shared _) rfl ?_) | (refine' use_partsE (k := .excl _) rfl ?_) | (refine' use_partsE (Kd.D_tup _).symm ?_))

theorem rd_law_is_plain (n : Nat) : ∀ ds m P EX, sp_plain (n + 1) ds m P EX → Go P (b_law_is_plain (sp_plain n)) (dstart ["kind", "item"] ds) m := by
  rintro ds m P EX ⟨k, hk, rfl, q⟩
  show b_law_is_plain (sp_plain n) { nx := fun _ m' => Ret P .non m', rt := Ret P } [some k.D, none] m
  unfold b_law_is_plain
  have hp := hk.parts
  have e := @Kd.plain_parts k
  cases k
  all_goals (first | rw [Kd.D_tup] | unfold Kd.D)
  all_goals top_strB
  all_goals (first | exact ⟨_, Less.refl _, q⟩ | exact use_plain (hp.2 _ (List.mem_singleton.mpr rfl)) ⟨_, Less.refl _, q⟩ | skip)
  all_goals (rename_i ks; rw [e] at q)
  all_goals (refine ⟨fun i sd m' => m' = m ∧ ∃ kk, sd = [some (.tup [.str "tuple", .tup (ks.map Kd.D)]), kk] ∧ ∀ k ∈ ks.take i, k.plainB = true, ⟨rfl, _, rfl, by simp⟩, ?_, ?_⟩)
  · rintro i x _ _ hx ⟨rfl, kk, rfl, ht⟩
    obtain ⟨k, hi, hm, rfl⟩ := getMap hx
    lcg_off
    refine use_plain (hp.2 _ hm) ?_
    cases hb : k.plainB
    all_goals lcg_off
    · dsimp only [Kd.parts] at q
      rw [all_no hm hb] at q
      exact ⟨_, Less.refl _, q⟩
    · exact ⟨_, Less.refl _, rfl, _, rfl, allTake ht hi hb⟩
  · rintro _ _ ⟨rfl, kk, rfl, ht⟩
    dsimp only [Kd.parts] at q
    rw [all_yes ht (by rw [List.length_map])] at q
    top_strB
    exact ⟨_, Less.refl _, q⟩
theorem rec_law_is_plain {P : Program} {w : World} {K : PySem.W.Frag} {mg : Str → Option Value} (F : FunAt K mg "_law_is_plain" s_law_is_plain ["kind"]) :
    ∀ n : Nat, Callee P w K mg n "_law_is_plain" ["kind"] (sp_plain n)
  | 0 => F.none fun ds m P EX h => by obtain ⟨k, h, _⟩ := h; cases h
  | n + 1 => ok_law_is_plain F (rec_law_is_plain F n) (by rintro ds m P EX ⟨_, _, rfl, _⟩; rfl) (rd_law_is_plain n)


def sp_law_wide (Z : Str → Prop) : DSp := fun ds m P _ => ∃ st ns s, ds = [.ref st, .rol (List.map D.int ns)] ∧ m st = some (S4.D s) ∧ s.Ok ∧
  ∀ k s', GK Z 5 false k → S4.Ok s' → P (Kd.D k) (put m st s'.D)
theorem use_wide {Z : Str → Prop} {st : Addr} {ns : List Int} {a b c d : Int} {m : M} {P : DK} (h : m st = some (.lst [.int a, .int b, .int c, .int d])) (o : S4.Ok ⟨a, b, c, d⟩) (q : ∀ k s', GK Z 5 false k → S4.Ok s' → P (Kd.D k) (put m st s'.D)) :
    sp_law_wide Z [.ref st, .rol (List.map D.int ns)] m P noX := ⟨st, ns, ⟨a, b, c, d⟩, rfl, h, o, q⟩
local macro_rules | `(tactic| lcg_sub) => `(tactic| ((with_reducible refine' use_wide ?h1 ?h2 ?h3); (case h1 => lcg_src); (case h2 => first | assumption | exact S4.Ok.d (by assumption) _); intro _ _ _ _; try simp only [put_put]))
def wideForms : List Kd := [.shared .int, .excl .bool, .shared (.box .int), .box .unit, .unit]
def wideF : DO := .lst [.tup [.str "shared", .tup [.str "int"]], .tup [.str "exclusive", .tup [.str "bool"]], .tup [.str "shared", .tup [.str "box", .tup [.str "int"]]], .tup [.str "box", .tup [.str "unit"]]]
theorem wideForm {Z : Str → Prop} {r : Int} (h0 : 0 ≤ r) (h1 : r < 5) : ∃ k : Kd, atI ([.tup [.str "shared", .tup [.str "int"]], .tup [.str "exclusive", .tup [.str "bool"]], .tup [.str "shared", .tup [.str "box", .tup [.str "int"]]], .tup [.str "box", .tup [.str "unit"]], .tup [.str "unit"]] : List D) r = some (Kd.D k) ∧ GK Z 3 false k := by
  have : r = 0 ∨ r = 1 ∨ r = 2 ∨ r = 3 ∨ r = 4 := by omega
  rcases this with rfl | rfl | rfl | rfl | rfl
  · exact ⟨.shared .int, rfl, .shared (.int _ _)⟩
  · exact ⟨.excl .bool, rfl, .excl (.bool _ _)⟩
  · exact ⟨.shared (.box .int), rfl, .shared (.box _ (.int _ _))⟩
  · exact ⟨.box .unit, rfl, .box _ (.unit _ _)⟩
  · exact ⟨.unit, rfl, .unit _ _⟩
theorem rd_wide {Z : Str → Prop} : ∀ ds m P EX, sp_law_wide Z ds m P EX → Go P (b_law_wide sp_law_pick) (dstart ["state", "script", "forms", "rows", "k", "items", "j"] ds) m := by
  rintro ds m P EX ⟨st, ns, s, rfl, hs, ho, q⟩
  show b_law_wide sp_law_pick { nx := fun _ m' => Ret P .non m', rt := Ret P } [some (.ref st), some (.rol (List.map D.int ns)), none, none, none, none, none] m
  unfold b_law_wide
  lcg_off
  refine s_seq ?_
  lcg_off
  rename_i pf hf pr hne hr t s2 t0 t1 o2 d2
  refine ⟨⟨by omega, by omega⟩, fun i sd m' => ∃ (ks : List Kd) (kk it jj : Option D) (s' : S4), sd = [some (.ref st), some (.rol (List.map D.int ns)), some (.ref pf), some (.ref pr), kk, it, jj] ∧ m' = put (put (put m pf wideF) pr (.lst (ks.map Kd.D))) st s'.D ∧ s'.Ok ∧ ks.length = i ∧ ∀ k ∈ ks, GK Z 4 false k,
    ⟨[], _, _, _, s2, rfl, rfl, o2, rfl, fun _ h => by simp at h⟩, ?_, ?_⟩
  · rintro i _ _ hi ⟨ks, kk, it, jj, s3, rfl, rfl, o3, hl, hk⟩
    lcg_off
    refine s_seq ?_
    lcg_off
    rename_i pi hi1 hi2 hi3 hi4 u s4 u0 u1 o4 d4
    refine ⟨⟨by omega, by omega⟩, fun e sd m' => ∃ (js : List Kd) (ee : Option D) (s' : S4), sd = [some (.ref st), some (.rol (List.map D.int ns)), some (.ref pf), some (.ref pr), some (.int i), some (.ref pi), ee] ∧ m' = put (put (put (put m pf wideF) pr (.lst (ks.map Kd.D))) pi (.lst (js.map Kd.D))) st s'.D ∧ s'.Ok ∧ js.length = e ∧ ∀ k ∈ js, GK Z 3 false k,
      ⟨[], _, s4, rfl, ?_, o4, rfl, fun _ h => by simp at h⟩, ?_, ?_⟩
    · funext x
      simp only [put]
      grind
    · rintro e _ _ he ⟨js, ee, s5, rfl, rfl, o5, hl2, hk2⟩
      lcg_off
      rename_i v s6 v0 v1 o6 d6
      obtain ⟨k, ke, kw⟩ := wideForm (Z := Z) v0 v1
      refine r_ixL (by lcg_src) ke ?_
      lcg_off
      refine ⟨_, ?_, js ++ [k], _, s6, rfl, rfl, o6, by simp [hl2], ?_⟩
      · simp only [List.map_append, List.map_cons, List.map_nil]
        one_item
      · intro x hx
        rcases List.mem_append.mp hx with h | h
        · exact hk2 x h
        · rw [List.mem_singleton] at h; subst h; exact kw
    · rintro _ _ ⟨js, ee, s5, rfl, rfl, o5, hl2, hk2⟩
      lcg_off
      refine ⟨_, ?_, ks ++ [.tup js], _, _, _, s5, rfl, rfl, o5, by simp [hl], ?_⟩
      · rw [List.map_append, List.map_cons, List.map_nil, Kd.D_tup]
        one_item
      · intro x hx
        rcases List.mem_append.mp hx with h | h
        · exact hk x h
        · rw [List.mem_singleton] at h; subst h; exact .tup (by intro e; subst e; simp at hl2; omega) (by omega) hk2
  · rintro _ _ ⟨ks, kk, it, jj, s3, rfl, rfl, o3, hl, hk⟩
    lcg_off
    refine ⟨put m st s3.D, ?_, ?_⟩
    · one_item
    · have := q (.tup ks) s3 (.tup (by intro e; subst e; simp at hl; omega) (by omega) hk) o3
      rw [Kd.D_tup] at this
      exact this

def sp_law_any_kind : DSp := fun ds m P _ => ∃ st ns s nm zs, ds = [.ref st, .rol (List.map D.int ns), .ref nm] ∧ m st = some (S4.D s) ∧ s.Ok ∧ nm ≠ st ∧ m nm = some (.lst (List.map D.str zs)) ∧ zs.length ≤ 1000 ∧ (∀ z ∈ zs, Pl z 20) ∧
  ∀ k s', GK (· ∈ zs) 6 false k → S4.Ok s' → P (Kd.D k) (put m st s'.D)
theorem use_any_kind {st nm : Addr} {ns : List Int} {a bb c d : Int} {m : M} {P : DK} {zs : List Str} (h : m st = some (.lst [.int a, .int bb, .int c, .int d])) (o : S4.Ok ⟨a, bb, c, d⟩) (hne : nm ≠ st) (hn : m nm = some (.lst (List.map D.str zs))) (p1 : zs.length ≤ 1000) (p2 : ∀ z ∈ zs, Pl z 20)
    (q : ∀ k s', GK (· ∈ zs) 6 false k → S4.Ok s' → P (Kd.D k) (put m st s'.D)) : sp_law_any_kind [.ref st, .rol (List.map D.int ns), .ref nm] m P noX := ⟨st, ns, ⟨a, bb, c, d⟩, nm, zs, rfl, h, o, hne, hn, p1, p2, q⟩
local macro_rules | `(tactic| lcg_sub) => `(tactic| ((with_reducible refine' use_any_kind ?h1 ?h2 ?h3 ?h4 ?h5 ?h6 ?h7); (case h1 => lcg_src); (case h2 => first | assumption | exact S4.Ok.d (by assumption) _); (case h3 => one_place); (case h4 => lcg_src); (case h5 => first | assumption | omega); (case h6 => assumption); intro _ _ _ _; try simp only [put_put]))
local macro_rules | `(tactic| lcg_sub) => `(tactic| ((with_reducible refine' use_plain ?h1 ?h2); (case h1 => first | assumption | exact GK.wk (by assumption) | exact GK.wk (GK.mono (by assumption) (by omega)))))
theorem GK.pair {Z : Str → Prop} {n : Nat} {b : Bool} {k : Kd} (h : GK Z n b k) (h1 : 1 ≤ n) : GK Z (n + 1) b (.tup [.unit, k]) := by
  refine .tup (fun e => by cases e) (Nat.le_of_ble_eq_true rfl) fun x hx => ?_
  rcases List.mem_cons.mp hx with rfl | hx
  · exact (GK.unit 0 b).mono h1
  · rw [List.mem_singleton] at hx; subst hx; exact h
theorem boxForm {r : Int} (h0 : 0 ≤ r) (h1 : r < 3) {Z : Str → Prop} {k : Kd} {n : Nat} (h : GK Z n false k) (hp : k.plainB = true) : ∃ z, ∃ k' : Kd, atI ([.str "box", .str "shared", .str "exclusive"] : List D) r = some (.str z) ∧ Kd.D k' = .tup [.str z, k.D] ∧ GK Z (n + 1) false k' := by
  have : r = 0 ∨ r = 1 ∨ r = 2 := by omega
  rcases this with rfl | rfl | rfl
  · exact ⟨_, .box k, rfl, rfl, .box _ (h.strong hp)⟩
  · exact ⟨_, .shared k, rfl, rfl, .shared (h.strong hp)⟩
  · exact ⟨_, .excl k, rfl, rfl, .excl (h.strong hp)⟩
theorem rd_any_kind : ∀ ds m P EX, sp_law_any_kind ds m P EX → Go P (b_law_any_kind sp_law_pick (sp_law_wide (fun _ => False)) (sp_law_kind 6) (sp_plain 6)) (dstart ["state", "script", "names", "kind", "k", "choice"] ds) m := by
  rintro ds m P EX ⟨st, ns, s, nm, zs, rfl, hs, ho, hne, hn, p1, p2, q⟩
  show b_law_any_kind sp_law_pick (sp_law_wide (fun _ => False)) (sp_law_kind 6) (sp_plain 6) { nx := fun _ m' => Ret P .non m', rt := Ret P } [some (.ref st), some (.rol (List.map D.int ns)), some (.ref nm), none, none, none] m
  unfold b_law_any_kind
  lcg_off
  · rename_i k s2 hk o2
    exact ⟨_, Less.refl _, q k s2 ((hk.imp fun _ h => h.elim).mono (by omega)) o2⟩
  · rename_i k s2 hk o2
    exact ⟨_, Less.refl _, q k s2 hk o2⟩
  · top_strB
    rename_i k s3 hk o3 r s4 r0 r1 o4 d4
    refine ⟨⟨by omega, by omega⟩, fun i sd m' => ∃ (k : Kd) (kk cc : Option D) (s' : S4), sd = [some (.ref st), some (.rol (List.map D.int ns)), some (.ref nm), some k.D, kk, cc] ∧ m' = put m st s'.D ∧ s'.Ok ∧ GK (· ∈ zs) (2 + i) false k,
      ⟨k, _, _, s4, rfl, rfl, o4, hk⟩, ?_, ?_⟩
    · rintro i _ _ hi ⟨k, kk, cc, s5, rfl, rfl, o5, hk⟩
      have hk6 : WK 6 k := (hk.mono (m := 6) (by omega)).wk
      top_strB
      · rename_i c s6 c0 c1 o6 d6 c2
        cases hb : k.plainB
        all_goals lcg_off
        · exact ⟨_, Less.refl _, .tup [.unit, k], _, _, s6, rfl, rfl, o6, GK.pair (n := 2 + i) hk (by show 1 ≤ 2 + i; omega)⟩
        · exact ⟨_, Less.refl _, .maybe k, _, _, s6, rfl, rfl, o6, .maybe hk⟩
        · obtain ⟨z, k', e1, e2, e3⟩ := boxForm c0 c2 hk hb
          refine r_ixL (by lcg_src) e1 ?_
          lcg_off
          refine ⟨_, ?_, k', _, _, s6, by rw [e2], rfl, o6, e3⟩
          one_item
      · rename_i c s6 c0 c1 o6 d6 c2 c3
        exact ⟨_, Less.refl _, .tup [.unit, k], _, _, s6, rfl, rfl, o6, GK.pair (n := 2 + i) hk (by show 1 ≤ 2 + i; omega)⟩
      · rename_i c s6 c0 c1 o6 d6 c2 c3
        exact ⟨_, Less.refl _, .maybe k, _, _, s6, rfl, rfl, o6, .maybe hk⟩
    · rintro _ _ ⟨k, kk, cc, s5, rfl, rfl, o5, hk⟩
      lcg_off
      exact ⟨_, Less.refl _, q k s5 (hk.mono (by omega)) o5⟩

/-- rows, as a tuple or as a list -/
def RowsAt (m : M) (x : D) (rs : Recs) : Prop := x = .tup (rs.map recD) ∨ ∃ a, x = .ref a ∧ m a = some (.lst (rs.map recD))
theorem fs_same {x : D} {ys : List D} {g : TDG} {t : TDS} {D' : DEnds} {sd : DS} {m : M} (h : x = .tup ys ∨ ∃ a, x = .ref a ∧ m a = some (.lst ys)) (W : Nat → DS → Prop) (w0 : W 0 sd)
    (turn : ∀ i y sd, ys[i]? = some y → W i sd → g y sd m fun sd2 m2 => t { D' with nx := Fg (fun sd m' => m' = m ∧ W (i + 1) sd), ct := Fg (fun sd m' => m' = m ∧ W (i + 1) sd), bk := D'.nx } sd2 m2) (fin : ∀ sd, W ys.length sd → D'.nx sd m) : FS x g t D' sd m := by
  rcases h with rfl | ⟨a, rfl, ha⟩
  · refine ⟨fun i sd m' => m' = m ∧ W i sd, ⟨rfl, w0⟩, ?_, ?_⟩
    · rintro i y sd _ hi ⟨rfl, w⟩
      exact turn i y sd hi w
    · rintro sd _ ⟨rfl, w⟩
      exact fin sd w
  · refine ⟨ys, ha, fun i sd m' => m' = m ∧ W i sd, ⟨rfl, w0⟩, ?_, ?_, ?_⟩
    · rintro i sd _ _ ⟨rfl, w⟩
      exact ha
    · rintro i y sd _ hi ⟨rfl, w⟩
      exact turn i y sd hi w
    · rintro sd _ ⟨rfl, w⟩
      exact fin sd w
/-- a comprehension whose element calls give ints -/
theorem ct_ints {xs : List D} {i : Nat} {te : TDE} {vs : List Nat} {sd : DS} {m : M} {P : DK} (hl : xs.length ≤ 1000) (ht : ∀ x ∈ xs, ∀ m' Q, Less m m' → (∀ j : Int, Q (.int j) m') → te ((wipeD sd vs).set i (some x)) m' Q)
    (q : ∀ (ns : List Int) p, m p = none → P (.ref p) (put m p (.lst (ns.map D.int)))) : CT xs (dName i) dYes te vs sd m P := fun p hp => by
  refine ⟨fun i acc m2 => m2 = m ∧ ∃ ns : List Int, acc = ns.map D.int ∧ ns.length = i, ⟨rfl, [], rfl, rfl⟩, ?_, ?_⟩
  · rintro i x _ _ hx ⟨rfl, ns, rfl, hn⟩
    have hlt := (List.getElem?_eq_some_iff.mp hx).1
    show te _ _ _
    refine ht x (List.mem_of_getElem? hx) _ _ (Less.new hp) fun j => ?_
    refine ⟨_, Less.refl _, ?_, rfl, ns ++ [j], by rw [List.map_append]; rfl, by rw [List.length_append, hn]; rfl⟩
    have := PySem.sizeLine_eq; rw [List.length_map]; omega
  · rintro _ _ ⟨rfl, ns, rfl, hn⟩
    exact q ns p hp
/-- the size is reckoned within n levels -/
inductive SZ (rs : Recs) : Nat → Kd → Prop where
  | int (n) : SZ rs (n + 1) .int
  | bool (n) : SZ rs (n + 1) .bool
  | unit (n) : SZ rs (n + 1) .unit
  | box (n k) : SZ rs (n + 1) (.box k)
  | shared (n k) : SZ rs (n + 1) (.shared k)
  | excl (n k) : SZ rs (n + 1) (.excl k)
  | maybe {n k} : SZ rs n k → SZ rs (n + 1) (.maybe k)
  | tup {n ks} : ks.length ≤ 6 → (∀ k ∈ ks, SZ rs n k) → SZ rs (n + 1) (.tup ks)
  | rcd {n z} : (flds rs z).length ≤ 1000 → (∀ f ∈ flds rs z, SZ rs n f.2) → SZ rs (n + 1) (.rcd z)
theorem SZ.mono {rs : Recs} : ∀ {n m : Nat} {k : Kd}, SZ rs n k → n ≤ m → SZ rs m k
  | _, m + 1, _, .int n, _ => .int m
  | _, m + 1, _, .bool n, _ => .bool m
  | _, m + 1, _, .unit n, _ => .unit m
  | _, m + 1, _, .box n _, _ => .box m _
  | _, m + 1, _, .shared n _, _ => .shared m _
  | _, m + 1, _, .excl n _, _ => .excl m _
  | _, m + 1, _, .maybe h, e => .maybe (h.mono (Nat.le_of_succ_le_succ e))
  | _, m + 1, _, .tup h1 h, e => .tup h1 fun k hk => (h k hk).mono (Nat.le_of_succ_le_succ e)
  | _, m + 1, _, .rcd h1 h, e => .rcd h1 fun k hk => (h k hk).mono (Nat.le_of_succ_le_succ e)
  | _ + 1, 0, _, _, e => absurd e (by omega)
def sp_law_size (n : Nat) : DSp := fun ds m P _ => ∃ x rs k, ds = [x, Kd.D k] ∧ RowsAt m x rs ∧ SZ rs n k ∧ ∀ i : Int, P (.int i) m
theorem use_size {n : Nat} {x : D} {rs : Recs} {k : Kd} {m : M} {P : DK} (h : RowsAt m x rs) (s : SZ rs n k) (q : ∀ i : Int, P (.int i) m) : sp_law_size n [x, Kd.D k] m P noX := ⟨x, rs, k, rfl, h, s, q⟩
theorem RowsAt.less {m m' : M} {x : D} {rs : Recs} (h : RowsAt m x rs) (l : Less m m') : RowsAt m' x rs := by
  rcases h with rfl | ⟨a, rfl, ha⟩
  · exact .inl rfl
  · exact .inr ⟨a, rfl, l _ _ ha⟩
theorem rd_size (n : Nat) : ∀ ds m P EX, sp_law_size (n + 1) ds m P EX → Go P (b_law_size (sp_law_size n)) (dstart ["rows", "kind", "row", "item", "field"] ds) m := by
  rintro ds m P EX ⟨x, rs, k, rfl, hr, hs, q⟩
  show b_law_size (sp_law_size n) { nx := fun _ m' => Ret P .non m', rt := Ret P } [some x, some k.D, none, none, none] m
  unfold b_law_size
  cases hs
  case tup ks h1 h =>
    rw [Kd.D_tup]
    top_strB
    refine ct_ints (by rw [List.length_map]; omega) ?_ ?_
    · intro y hy m' Q hl hq
      obtain ⟨k, hk, rfl⟩ := List.mem_map.mp hy
      lcg_off
      exact use_size (hr.less hl) (h k hk) hq
    · intro ns p hp
      lcg_off
      refine ⟨ns, put_same, ?_⟩
      exact ⟨m, Less.new hp, q _⟩
  case maybe k h =>
    unfold Kd.D
    top_strB
    refine use_size hr h fun i => ?_
    lcg_off
    exact ⟨_, Less.refl _, q _⟩
  case rcd z h1 h =>
    unfold Kd.D
    top_strB
    refine fs_same hr (fun i sd => (∃ a b c, sd = [some x, some (.tup [.str "record", .str z]), a, b, c]) ∧ ∀ r ∈ rs.take i, r.1 ≠ z) ⟨⟨_, _, _, rfl⟩, by simp⟩ ?_ ?_
    · rintro i y _ hy ⟨⟨a, b, c, rfl⟩, hno⟩
      obtain ⟨r, hi, hm, rfl⟩ := getMap hy
      unfold recD
      lcg_off
      · rename_i e
        have ef := flds_at hi hno e
        refine ct_ints (by rw [List.length_map, ← ef]; exact h1) ?_ ?_
        · intro y hy m' Q hl hq
          obtain ⟨f, hf, rfl⟩ := List.mem_map.mp hy
          unfold fldD
          lcg_off
          exact use_size (hr.less hl) (h f (by rw [ef]; exact hf)) hq
        · intro ns p hp
          lcg_off
          refine ⟨ns, put_same, ?_⟩
          exact ⟨m, Less.new hp, q _⟩
      · rename_i e
        refine ⟨_, Less.refl _, rfl, ⟨_, _, _, rfl⟩, fun r hq => ?_⟩
        rw [List.take_add_one, hi] at hq
        rcases List.mem_append.mp hq with h | h
        · exact hno r h
        · simp at h; subst h; exact e
    · rintro _ ⟨⟨a, b, c, rfl⟩, hno⟩
      lcg_off
      exact ⟨_, Less.refl _, q _⟩
  all_goals unfold Kd.D
  all_goals top_strB
  all_goals exact ⟨_, Less.refl _, q _⟩
theorem rec_size {P : Program} {w : World} {K : PySem.W.Frag} {mg : Str → Option Value} (F : FunAt K mg "_law_size" s_law_size ["rows", "kind"]) (zs : mg "sum" = none) :
    ∀ n : Nat, Callee P w K mg n "_law_size" ["rows", "kind"] (sp_law_size n)
  | 0 => F.none fun ds m P EX h => by obtain ⟨x, rs, k, _, _, h, _⟩ := h; cases h
  | n + 1 => ok_law_size F (rec_size F zs n) zs (by rintro ds m P EX ⟨_, _, _, rfl, _⟩; rfl) (rd_size n)

/-- smallness can be asked within n levels -/
inductive SM (rs : Recs) (N : Nat) : Nat → Kd → Prop where
  | mk {n k} : SZ rs N k → (∀ j ∈ k.parts, SM rs N n j) → SM rs N (n + 1) k
def sp_law_is_small (N n : Nat) : DSp := fun ds m P _ => ∃ x rs k, ds = [x, Kd.D k] ∧ RowsAt m x rs ∧ SM rs N n k ∧ ∀ b : Bool, P (.bl b) m
theorem use_small {N n : Nat} {x : D} {rs : Recs} {k : Kd} {m : M} {P : DK} (h : RowsAt m x rs) (s : SM rs N n k) (q : ∀ b : Bool, P (.bl b) m) : sp_law_is_small N n [x, Kd.D k] m P noX := ⟨x, rs, k, rfl, h, s, q⟩
theorem use_sizeE {n : Nat} {x : D} {rs : Recs} {k : Kd} {d : D} {m : M} {P : DK} (e : d = k.D) (h : RowsAt m x rs) (s : SZ rs n k) (q : ∀ i : Int, P (.int i) m) : sp_law_size n [x, d] m P noX := ⟨x, rs, k, by rw [e], h, s, q⟩
theorem rd_small (N n : Nat) : ∀ ds m P EX, sp_law_is_small N (n + 1) ds m P EX → Go P (b_law_is_small (sp_law_size N) (sp_law_is_small N n)) (dstart ["rows", "kind", "item"] ds) m := by
  rintro ds m P EX ⟨x, rs, k, rfl, hr, ⟨hz, hp⟩, q⟩
  show b_law_is_small (sp_law_size N) (sp_law_is_small N n) { nx := fun _ m' => Ret P .non m', rt := Ret P } [some x, some k.D, none] m
  unfold b_law_is_small
  lcg_off
  refine use_size hr hz fun i => ?_
  cases k
  case tup ks =>
    rw [Kd.D_tup]
    lcg_off
    · exact ⟨_, Less.refl _, q _⟩
    top_strB
    refine fs_same (.inl rfl) (fun i sd => ∃ c, sd = [some x, some (.tup [.str "tuple", .tup (ks.map Kd.D)]), c]) ⟨_, rfl⟩ ?_ ?_
    · rintro i y _ hy ⟨c, rfl⟩
      obtain ⟨k, hi, hm, rfl⟩ := getMap hy
      lcg_off
      refine use_small hr (hp k hm) fun b => ?_
      cases b
      · lcg_off
        exact ⟨_, Less.refl _, q _⟩
      · lcg_off
        exact ⟨_, Less.refl _, rfl, _, rfl⟩
    · rintro _ ⟨c, rfl⟩
      top_strB
      exact ⟨_, Less.new ‹_›, q _⟩
  all_goals unfold Kd.D
  all_goals top_strB
  all_goals (first | exact ⟨_, Less.refl _, q _⟩ | exact ⟨_, Less.new ‹_›, q _⟩ | skip)
  all_goals (refine use_small (hr.less (Less.new ‹_›)) (hp _ (List.mem_singleton.mpr rfl)) fun b => ?_; exact ⟨_, Less.new ‹_›, q _⟩)
theorem rec_small {P : Program} {w : World} {K : PySem.W.Frag} {mg : Str → Option Value} {N : Nat} (F : FunAt K mg "_law_is_small" s_law_is_small ["rows", "kind"]) (C : Callee P w K mg N "_law_size" ["rows", "kind"] (sp_law_size N)) :
    ∀ n : Nat, Callee P w K mg (N + n) "_law_is_small" ["rows", "kind"] (sp_law_is_small N n)
  | 0 => F.none fun ds m P EX h => by obtain ⟨x, rs, k, _, _, h, _⟩ := h; cases h
  | n + 1 => ok_law_is_small F (C.mono (Nat.le_add_right _ _)) (rec_small F C n) (by rintro ds m P EX ⟨_, _, _, rfl, _⟩; rfl) (rd_small N n)

theorem str_100 : ∀ n : Nat, n < 100 → plB (Str.ofString (toString (n : Int))) 2 = true := by decide +kernel
theorem nodup_le {α : Type} : ∀ {l t : List α}, l.Nodup → (∀ x ∈ l, x ∈ t) → l.length ≤ t.length
  | [], t, _, _ => Nat.zero_le _
  | x :: l, t, hn, h => by
    classical
    obtain ⟨s, u, rfl⟩ := List.append_of_mem (h x List.mem_cons_self)
    rw [List.nodup_cons] at hn
    have := nodup_le (l := l) (t := s ++ u) hn.2 fun y hy => by
      have hm := h y (List.mem_cons_of_mem _ hy)
      rcases List.mem_append.mp hm with h1 | h1
      · exact List.mem_append_left _ h1
      · rcases List.mem_cons.mp h1 with h2 | h2
        · subst h2; exact absurd hy hn.1
        · exact List.mem_append_right _ h2
    rw [List.length_append] at this ⊢
    rw [List.length_cons, List.length_cons]
    omega
def cand (z : Str) (j : Nat) : Str := cutS z none (some 18) ++ Str.ofString (toString (j : Int))
theorem cut18 {z : Str} {n : Nat} (h : Pl z n) : Pl (cutS z none (some 18)) 18 := by
  refine ⟨?_, fun c hc => ?_⟩
  · show ((z.cps.toList.drop (HT.sIx z.length 0 none)).take (HT.sIx z.length z.length (some ((18 : Nat) : Int)) - HT.sIx z.length 0 none)).toArray.size ≤ 18
    rw [HT.sIx_nat, HT.sIx_none, List.size_toArray, List.length_take]
    omega
  · refine h.c c ?_
    have : (cutS z none (some 18)).cps.toList = (z.cps.toList.drop (HT.sIx z.length 0 none)).take (HT.sIx z.length z.length (some 18) - HT.sIx z.length 0 none) := rfl
    rw [this] at hc
    exact List.mem_of_mem_drop (List.mem_of_mem_take hc)
theorem cand_pl {z : Str} {n j : Nat} (h : Pl z n) (hj : j < 100) : Pl (cand z j) 20 := (cut18 h).app (pl_of (str_100 j hj))
theorem str_inj : ∀ i < 100, ∀ j < 100, Str.ofString (toString ((i : Nat) : Int)) = Str.ofString (toString ((j : Nat) : Int)) → i = j := by decide +kernel
theorem app_inj {a b c : Str} (h : a ++ b = a ++ c) : b = c := by
  have : (a ++ b).cps = (a ++ c).cps := by rw [h]
  have : a.cps ++ b.cps = a.cps ++ c.cps := this
  have h2 : b.cps = c.cps := by
    have := congrArg Array.toList this
    rw [Array.toList_append, Array.toList_append, List.append_cancel_left_eq] at this
    exact Array.toList_inj.mp this
  cases b; cases c; cases h2; rfl
theorem cand_nodup {z : Str} : ((List.range 100).map (cand z)).Nodup := by
  rw [List.Nodup, List.pairwise_map]
  refine (List.nodup_range (n := 100)).imp_of_mem fun hx hy hne h => hne ?_
  exact str_inj _ (List.mem_range.mp hx) _ (List.mem_range.mp hy) (app_inj h)
def sp_law_new : DSp := fun ds m P _ => ∃ a ts z n, ds = [.ref a, .str z] ∧ m a = some (.lst (List.map D.str ts)) ∧ ts.length ≤ 99 ∧ Pl z n ∧ 20 ≤ n ∧ n ≤ 1000 ∧ ∀ z', Pl z' n → z' ∉ ts → P (.str z') m
theorem rd_new : ∀ ds m P EX, sp_law_new ds m P EX → Go P b_law_new (dstart ["taken", "word", "k", "other"] ds) m := by
  rintro ds m P EX ⟨a, ts, z, n, rfl, ha, hts, hz, hn, hn2, q⟩
  show b_law_new { nx := fun _ m' => Ret P .non m', rt := Ret P } [some (.ref a), some (.str z), none, none] m
  unfold b_law_new
  lcg_off
  · exact ⟨_, Less.refl _, q z hz ‹_›⟩
  · refine s_seq ?_
    lcg_off
    refine ⟨⟨by omega, by omega⟩, fun i sd m' => (∃ x y, sd = [some (.ref a), some (.str z), x, y]) ∧ m' = m ∧ ∀ j < i, cand z j ∈ ts, ⟨⟨_, _, rfl⟩, rfl, by simp⟩, ?_, ?_⟩
    · rintro i _ _ hi ⟨⟨x, y, rfl⟩, rfl, hj⟩
      have hs := hz.l
      have hi : i < 100 := hi
      have hp : Pl (cand z i) 20 := cand_pl hz hi
      lcg_off
      refine ⟨log2_small (by omega) (by omega), ?_⟩
      refine r_addS (szA (cut18 hz) (pl_of (str_100 i hi)) (by omega)) ?_
      lcg_off
      · exact ⟨_, Less.refl _, q _ (hp.mono hn) ‹_›⟩
      · refine ⟨_, Less.refl _, ⟨_, _, rfl⟩, rfl, fun j hj2 => ?_⟩
        rcases Nat.lt_succ_iff_lt_or_eq.mp hj2 with h | h
        · exact hj j h
        · subst h; assumption
    · rintro _ _ ⟨⟨x, y, rfl⟩, rfl, hj⟩
      exfalso
      have h1 := nodup_le (l := (List.range 100).map (cand z)) (t := ts) cand_nodup fun x hx => by
        obtain ⟨j, h1, rfl⟩ := List.mem_map.mp hx
        exact hj j (List.mem_range.mp h1)
      rw [List.length_map, List.length_range] at h1
      omega
theorem use_new {a : Addr} {ts : List Str} {z : Str} {n : Nat} {m : M} {P : DK} (h : m a = some (.lst (List.map D.str ts))) (hl : ts.length ≤ 99) (hz : Pl z n) (h1 : 20 ≤ n) (h2 : n ≤ 1000) (q : ∀ z', Pl z' n → z' ∉ ts → P (.str z') m) : sp_law_new [.ref a, .str z] m P noX := ⟨a, ts, z, n, rfl, h, hl, hz, h1, h2, q⟩
local macro_rules | `(tactic| lcg_sub) => `(tactic| ((with_reducible refine' use_new ?h1 ?h2 ?h3 ?h4 ?h5 ?h6); (case h1 => lcg_src); (case h2 => omega); (case h3 => assumption); (case h4 => decide); (case h5 => decide); intro _ _ _))

theorem cut_from {ys : List D} {k : Nat} : cutL ys (some (k : Int)) none = ys.drop k := by
  show (ys.drop (HT.sIx ys.length 0 (some (k : Int)))).take (HT.sIx ys.length ys.length none - HT.sIx ys.length 0 (some (k : Int))) = ys.drop k
  rw [HT.sIx_nat, HT.sIx_none]
  by_cases h : k ≤ ys.length
  · rw [Nat.min_eq_left h, List.take_of_length_le (by rw [List.length_drop]; omega)]
  · rw [Nat.min_eq_right (by omega), List.drop_length, List.take_nil, List.drop_eq_nil_of_le (by omega)]
/-- the memory is as it was but at one place, and grows -/
def Frame (m : M) (st : Addr) (m' : M) : Prop := ∀ a o, m a = some o → a ≠ st → m' a = some o
theorem Frame.self {m : M} {st : Addr} : Frame m st m := fun _ _ h _ => h
theorem Frame.st {m m' : M} {st : Addr} {o : DO} (h : Frame m st m') : Frame m st (put m' st o) := fun a o h1 h2 => (put_ne h2).trans (h a o h1 h2)
theorem Frame.new {m m' : M} {st p : Addr} {o : DO} (h : Frame m st m') (n : m p = none) : Frame m st (put m' p o) := fun a o h1 h2 => (put_ne (by rintro rfl; rw [n] at h1; cases h1)).trans (h a o h1 h2)
theorem Frame.less {m m' : M} {st : Addr} {o : DO} (h : Frame m st m') : Less (put m st o) (put m' st o) := fun a x h1 => by
  by_cases e : a = st
  · subst e; rw [put_same] at h1 ⊢; exact h1
  · rw [put_ne e] at h1 ⊢; exact h _ _ h1 e
/-- record names that stand outside of boxes are of Z -/
inductive NK (Z : Str → Prop) : Nat → Kd → Prop where
  | int (n) : NK Z (n + 1) .int
  | bool (n) : NK Z (n + 1) .bool
  | unit (n) : NK Z (n + 1) .unit
  | box (n k) : NK Z (n + 1) (.box k)
  | shared (n k) : NK Z (n + 1) (.shared k)
  | excl (n k) : NK Z (n + 1) (.excl k)
  | maybe {n k} : NK Z n k → NK Z (n + 1) (.maybe k)
  | tup {n ks} : ks.length ≤ 6 → (∀ k ∈ ks, NK Z n k) → NK Z (n + 1) (.tup ks)
  | rcd (n) {z} : Z z → NK Z (n + 1) (.rcd z)
theorem GK.nk {Z : Str → Prop} : ∀ {n : Nat} {b : Bool} {k : Kd}, GK Z n b k → NK Z n k
  | _, _, _, .int n _ => .int n
  | _, _, _, .bool n _ => .bool n
  | _, _, _, .unit n _ => .unit n
  | _, _, _, .box _ _ => .box _ _
  | _, _, _, .maybe h => .maybe h.nk
  | _, _, _, .tup _ h2 h => .tup h2 fun k hk => (h k hk).nk
  | _, _, _, .rcd n _ _ z => .rcd n z
  | _, _, _, .shared _ => .shared _ _
  | _, _, _, .excl _ => .excl _ _
theorem NK.mono {Z : Str → Prop} : ∀ {n m : Nat} {k : Kd}, NK Z n k → n ≤ m → NK Z m k
  | _, m + 1, _, .int n, _ => .int m
  | _, m + 1, _, .bool n, _ => .bool m
  | _, m + 1, _, .unit n, _ => .unit m
  | _, m + 1, _, .box n _, _ => .box m _
  | _, m + 1, _, .shared n _, _ => .shared m _
  | _, m + 1, _, .excl n _, _ => .excl m _
  | _, m + 1, _, .maybe h, e => .maybe (h.mono (Nat.le_of_succ_le_succ e))
  | _, m + 1, _, .tup h1 h, e => .tup h1 fun k hk => (h k hk).mono (Nat.le_of_succ_le_succ e)
  | _, m + 1, _, .rcd n h, _ => .rcd m h
  | _ + 1, 0, _, _, e => absurd e (by omega)
theorem NK.sz {Z : Str → Prop} {rs : Recs} {N : Nat} (h0 : ∀ z, Z z → SZ rs N (.rcd z)) : ∀ {n : Nat} {k : Kd}, NK Z n k → SZ rs (N + n) k
  | _, _, .int n => .int _
  | _, _, .bool n => .bool _
  | _, _, .unit n => .unit _
  | _, _, .box n _ => .box _ _
  | _, _, .shared n _ => .shared _ _
  | _, _, .excl n _ => .excl _ _
  | _, _, .maybe h => .maybe (h.sz h0)
  | _, _, .tup h1 h => .tup h1 fun k hk => (h k hk).sz h0
  | _, _, .rcd n h => (h0 _ h).mono (by omega)
theorem GK.sm {Z : Str → Prop} {rs : Recs} {N : Nat} (h0 : ∀ z, Z z → SZ rs N (.rcd z)) : ∀ {n : Nat} {b : Bool} {k : Kd}, GK Z n b k → n ≤ 10 → SM rs (N + 10) n k
  | _, _, _, .int n _, h => .mk (.int _) fun _ hj => by simp [Kd.parts] at hj
  | _, _, _, .bool n _, h => .mk (.bool _) fun _ hj => by simp [Kd.parts] at hj
  | _, _, _, .unit n _, h => .mk (.unit _) fun _ hj => by simp [Kd.parts] at hj
  | _, _, _, .box _ g, h => .mk (.box _ _) fun j hj => by rw [List.mem_singleton.mp hj]; exact g.sm h0 (by omega)
  | _, _, _, .maybe g, h => .mk (((GK.maybe g).nk.sz h0).mono (by omega)) fun j hj => by rw [List.mem_singleton.mp hj]; exact g.sm h0 (by omega)
  | _, _, _, .tup h1 h2 g, h => .mk (((GK.tup h1 h2 g).nk.sz h0).mono (by omega)) fun j hj => (g j hj).sm h0 (by omega)
  | _, _, _, .rcd n _ hp hz, h => .mk ((h0 _ hz).mono (by omega)) fun _ hj => by simp [Kd.parts] at hj
  | _, _, _, .shared g, h => .mk (.shared _ _) fun j hj => by rw [List.mem_singleton.mp hj]; exact g.sm h0 (by omega)
  | _, _, _, .excl g, h => .mk (.excl _ _) fun j hj => by rw [List.mem_singleton.mp hj]; exact g.sm h0 (by omega)
theorem nodup_inj {α : Type} {l : List α} (h : l.Nodup) {i j : Nat} {a : α} (h1 : l[i]? = some a) (h2 : l[j]? = some a) : i = j := by
  obtain ⟨l1, e1⟩ := List.getElem?_eq_some_iff.mp h1
  obtain ⟨l2, e2⟩ := List.getElem?_eq_some_iff.mp h2
  have hp := List.pairwise_iff_getElem.mp h
  rcases Nat.lt_trichotomy i j with c | c | c
  · exact absurd (e1.trans e2.symm) (hp i j l1 l2 c)
  · exact c
  · exact absurd (e2.trans e1.symm) (hp j i l2 l1 c)
/-- row i of records that are made in the order zs -/
structure RowOk (zs : List Str) (i : Nat) (r : Str × List (Str × Kd)) : Prop where
  name : zs[i]? = some r.1
  ne : 1 ≤ r.2.length
  le : r.2.length ≤ 6
  nd : (r.2.map (·.1)).Nodup
  fs : ∀ f ∈ r.2, Pl f.1 30 ∧ GK (· ∈ zs) 5 true f.2 ∧ NK (· ∈ zs.take i) 5 f.2
def RowsOk (zs : List Str) (rs : Recs) : Prop := ∀ i r, rs[i]? = some r → RowOk zs i r
theorem flds_of {rs : Recs} {i : Nat} {r : Str × List (Str × Kd)} (hn : (rs.map (·.1)).Nodup) (h : rs[i]? = some r) : flds rs r.1 = r.2 := by
  refine flds_at h (fun q hq e => ?_) rfl
  obtain ⟨j, hj, e2⟩ := List.mem_iff_getElem.mp hq
  rw [List.length_take] at hj
  rw [List.getElem_take] at e2
  have a1 : (rs.map (·.1))[j]? = some r.1 := by rw [List.getElem?_map, List.getElem?_eq_getElem (by omega), e2, ← e]; rfl
  have a2 : (rs.map (·.1))[i]? = some r.1 := by rw [List.getElem?_map, h]; rfl
  have := nodup_inj hn a1 a2
  omega
theorem RowsOk.names {zs : List Str} {rs : Recs} (h : RowsOk zs rs) : rs.map (·.1) = zs.take rs.length := by
  apply List.ext_getElem?
  intro i
  rw [List.getElem?_map, List.getElem?_take]
  by_cases c : i < rs.length
  · rw [if_pos c, List.getElem?_eq_getElem c, (h i _ (List.getElem?_eq_getElem c)).name]; rfl
  · rw [if_neg c, List.getElem?_eq_none (by omega)]; rfl
theorem flds_none {zs : List Str} {rs : Recs} {z : Str} (hn : zs.Nodup) (h : RowsOk zs rs) {i : Nat} (hz : zs[i]? = some z) (c : rs.length ≤ i) : flds rs z = [] := by
  refine flds_no fun q hq e => ?_
  obtain ⟨j, hj, e2⟩ := List.mem_iff_getElem.mp hq
  have := (h j q (by rw [List.getElem?_eq_getElem hj, e2])).name
  rw [e] at this
  have := nodup_inj hn this hz
  omega
theorem RowsOk.sz {zs : List Str} {rs : Recs} (hn : zs.Nodup) (h : RowsOk zs rs) : ∀ i, ∀ z ∈ zs.take i, SZ rs (6 * i) (.rcd z)
  | 0, z, hz => by simp at hz
  | i + 1, z, hz => by
    rw [List.take_add_one] at hz
    rcases List.mem_append.mp hz with a | a
    · exact (h.sz hn i z a).mono (by omega)
    · have hi : zs[i]? = some z := by
        cases e : zs[i]? with
        | none => rw [e] at a; simp at a
        | some y => rw [e] at a; simp at a; rw [a]
      refine SZ.rcd (n := 6 * i + 5) ?_ ?_
      · by_cases c : i < rs.length
        · have hr := h i _ (List.getElem?_eq_getElem c)
          have e : rs[i].1 = z := Option.some.inj (hr.name.symm.trans hi)
          rw [← e, flds_of (by rw [h.names]; exact hn.sublist (List.take_sublist _ _)) (List.getElem?_eq_getElem c)]
          have := hr.le; omega
        · rw [flds_none hn h hi (by omega)]; simp
      · by_cases c : i < rs.length
        · have hr := h i _ (List.getElem?_eq_getElem c)
          have e : rs[i].1 = z := Option.some.inj (hr.name.symm.trans hi)
          rw [← e, flds_of (by rw [h.names]; exact hn.sublist (List.take_sublist _ _)) (List.getElem?_eq_getElem c)]
          exact fun f hf => ((hr.fs f hf).2.2).sz (h.sz hn i)
        · rw [flds_none hn h hi (by omega)]; simp
theorem RowsOk.szAll {zs : List Str} {rs : Recs} (hn : zs.Nodup) (h : RowsOk zs rs) (l : zs.length ≤ 4) : ∀ z, z ∈ zs → SZ rs 24 (.rcd z) := fun z hz => (h.sz hn 4 z (by rw [List.take_of_length_le l]; exact hz)).mono (by omega)
/-- the records of a law, in any order -/
structure RecsOk (rs : Recs) : Prop where
  le : rs.length ≤ 4
  ne : 1 ≤ rs.length
  nd : (rs.map (·.1)).Nodup
  pl : ∀ r ∈ rs, Pl r.1 20
  sz : ∀ r ∈ rs, SZ rs 24 (.rcd r.1)
  flen : ∀ r ∈ rs, 1 ≤ r.2.length ∧ r.2.length ≤ 6
  fnd : ∀ r ∈ rs, (r.2.map (·.1)).Nodup
  fpl : ∀ r ∈ rs, ∀ f ∈ r.2, Pl f.1 30
  fgk : ∀ r ∈ rs, ∀ f ∈ r.2, GK (∃ r ∈ rs, r.1 = ·) 5 true f.2
theorem SZ.congr {rs qs : Recs} (e : ∀ z, flds rs z = flds qs z) : ∀ {n : Nat} {k : Kd}, SZ rs n k → SZ qs n k
  | _, _, .int n => .int _
  | _, _, .bool n => .bool _
  | _, _, .unit n => .unit _
  | _, _, .box n _ => .box _ _
  | _, _, .shared n _ => .shared _ _
  | _, _, .excl n _ => .excl _ _
  | _, _, .maybe h => .maybe (h.congr e)
  | _, _, .tup h1 h => .tup h1 fun k hk => (h k hk).congr e
  | _, _, .rcd h1 h => .rcd (by rw [← e]; exact h1) fun f hf => (h f (by rw [e]; exact hf)).congr e
theorem flds_mem {rs : Recs} (hn : (rs.map (·.1)).Nodup) {r : Str × List (Str × Kd)} (h : r ∈ rs) : flds rs r.1 = r.2 := by
  obtain ⟨i, hi, e⟩ := List.mem_iff_getElem.mp h
  exact flds_of hn (by rw [List.getElem?_eq_getElem hi, e])
theorem flds_perm {rs qs : Recs} (hn : (rs.map (·.1)).Nodup) (hn2 : (qs.map (·.1)).Nodup) (h : ∀ r, r ∈ rs ↔ r ∈ qs) (z : Str) : flds rs z = flds qs z := by
  by_cases c : ∃ r ∈ rs, r.1 = z
  · obtain ⟨r, hr, rfl⟩ := c
    rw [flds_mem hn hr, flds_mem hn2 ((h r).mp hr)]
  · rw [flds_no fun q hq e => c ⟨q, hq, e⟩, flds_no fun q hq e => c ⟨q, (h q).mpr hq, e⟩]
theorem RowsOk.fin {zs : List Str} {rs : Recs} (hn : zs.Nodup) (h : RowsOk zs rs) (l : zs.length ≤ 4) (l1 : 1 ≤ zs.length) (e : rs.length = zs.length) (hp : ∀ z ∈ zs, Pl z 20) (t : Nat) : RecsOk (rs.drop t ++ rs.take t) := by
  have nm : rs.map (·.1) = zs := by rw [h.names, e, List.take_length]
  have perm : (rs.drop t ++ rs.take t).Perm rs := by
    have := List.perm_append_comm (l₁ := rs.drop t) (l₂ := rs.take t)
    rw [List.take_append_drop] at this
    exact this
  have nd : ((rs.drop t ++ rs.take t).map (·.1)).Nodup := by rw [List.Perm.nodup_iff (perm.map (·.1)), nm]; exact hn
  have row : ∀ r ∈ rs.drop t ++ rs.take t, ∃ i, RowOk zs i r := fun r hr => by
    obtain ⟨i, hi, e⟩ := List.mem_iff_getElem.mp (perm.mem_iff.mp hr)
    exact ⟨i, h i r (by rw [List.getElem?_eq_getElem hi, e])⟩
  refine ⟨by rw [perm.length_eq]; omega, by rw [perm.length_eq]; omega, nd, ?_, ?_, ?_, ?_, ?_, ?_⟩
  · intro r hr
    obtain ⟨i, o⟩ := row r hr
    exact hp _ (List.mem_of_getElem? o.name)
  · intro r hr
    obtain ⟨i, o⟩ := row r hr
    refine (h.szAll hn l r.1 (List.mem_of_getElem? o.name)).congr fun z => ?_
    exact flds_perm (by rw [nm]; exact hn) nd (fun r => perm.mem_iff.symm) z
  · intro r hr
    obtain ⟨i, o⟩ := row r hr
    exact ⟨o.ne, o.le⟩
  · intro r hr
    obtain ⟨i, o⟩ := row r hr
    exact o.nd
  · intro r hr f hf
    obtain ⟨i, o⟩ := row r hr
    exact (o.fs f hf).1
  · intro r hr f hf
    obtain ⟨i, o⟩ := row r hr
    refine (o.fs f hf).2.1.imp fun z hz => ?_
    rw [← nm] at hz
    obtain ⟨q, hq, e⟩ := List.mem_map.mp hz
    exact ⟨q, perm.mem_iff.mpr hq, e⟩

theorem gen_mem {G : M → Prop} {m5 : M} (Q : M → Prop) (h : Q m5) (k : ∀ m, Q m → G m) : G m5 := k m5 h
local macro_rules | `(tactic| lcg_sub) => `(tactic| ((with_reducible refine' r_slL ?h1 ?h2); (case h1 => lcg_src); try simp only [cut_to, ← List.map_take]))
def sp_law_records : DSp := fun ds m P _ => ∃ st ns s, ds = [.ref st, .rol (List.map D.int ns)] ∧ m st = some (S4.D s) ∧ s.Ok ∧
  ∀ rs s', RecsOk rs → S4.Ok s' → P (.tup (rs.map recD)) (put m st s'.D)
theorem rd_records : ∀ ds m P EX, sp_law_records ds m P EX → Go P (b_law_records sp_law_new sp_law_big sp_law_pick sp_law_name (sp_law_kind 6) (sp_law_size 34) (sp_law_is_small 34 10)) (dstart ["state", "script", "names", "k", "rows", "turn", "fields", "taken", "j", "kind"] ds) m := by
  rintro ds m P EX ⟨st, ns, s, rfl, hs, ho, q⟩
  show b_law_records sp_law_new sp_law_big sp_law_pick sp_law_name (sp_law_kind 6) (sp_law_size 34) (sp_law_is_small 34 10) { nx := fun _ m' => Ret P .non m', rt := Ret P } [some (.ref st), some (.rol (List.map D.int ns)), none, none, none, none, none, none, none, none] m
  unfold b_law_records
  lcg_off
  rename_i pn hpn
  have nps : pn ≠ st := fun e => by subst e; rw [hpn] at hs; cases hs
  refine s_seq ?_
  lcg_off
  rename_i t s1 t0 t1 o1 d1
  refine ⟨⟨by omega, by omega⟩, fun i sd m' => ∃ (zs : List Str) (s' : S4) (kk : Option D), sd = [some (.ref st), some (.rol (List.map D.int ns)), some (.ref pn), kk, none, none, none, none, none, none] ∧ m' st = some (S4.D s') ∧ m' pn = some (.lst (zs.map D.str)) ∧ Frame m st m' ∧ s'.Ok ∧ zs.length = i ∧ zs.Nodup ∧ ∀ z ∈ zs, Pl z 20,
    ⟨[], s1, _, rfl, put_same, by lcg_src, (Frame.self.new hpn).st, o1, rfl, .nil, by simp⟩, ?_, ?_⟩
  · rintro i _ m2 hi ⟨zs, s2, kk, rfl, h1, h2, fr, o2, hl, hnd, hpl⟩
    lcg_off
    rename_i z0 s3 hz0 o3 d3 z hz hni
    refine ⟨_, Less.refl _, zs ++ [z], s3, _, rfl, by lcg_src, ?_, ?_, o3, by simp [hl], ?_, ?_⟩
    · rw [put_same, List.map_append]; rfl
    · exact fun a o e1 e2 => by
        have e3 : a ≠ pn := by rintro rfl; rw [hpn] at e1; cases e1
        exact (put_ne e3).trans ((put_ne e2).trans (fr a o e1 e2))
    · rw [List.nodup_append]
      exact ⟨hnd, by simp, fun a ha b hb => by rw [List.mem_singleton.mp hb]; rintro rfl; exact hni ha⟩
    · intro x hx
      rcases List.mem_append.mp hx with h | h
      · exact hpl x h
      · rw [List.mem_singleton.mp h]; exact hz
  · rintro _ m2 ⟨zs, s2, kk, rfl, h1, h2, fr, o2, hl, hnd, hpl⟩
    lcg_off
    rename_i pr hpr
    have nrs : pr ≠ st := fun e => by subst e; rw [h1] at hpr; cases hpr
    have nrn : pr ≠ pn := fun e => by subst e; rw [h2] at hpr; cases hpr
    refine s_seq ?_
    lcg_off
    refine ⟨⟨by omega, by rw [List.length_map]; omega⟩, fun i sd m' => ∃ (rs : Recs) (s' : S4) (kk a b c d : Option D), sd = [some (.ref st), some (.rol (List.map D.int ns)), some (.ref pn), kk, some (.ref pr), none, a, b, c, d] ∧ m' st = some (S4.D s') ∧ m' pn = some (.lst (zs.map D.str)) ∧ m' pr = some (.lst (rs.map recD)) ∧ Frame m st m' ∧ s'.Ok ∧ rs.length = i ∧ RowsOk zs rs,
      ⟨[], s2, _, _, _, _, _, rfl, by lcg_src, by lcg_src, put_same, ?_, o2, rfl, by intro i r h; simp at h⟩, ?_, ?_⟩
    · exact fun a o e1 e2 => by
        have e3 := fr a o e1 e2
        have e4 : a ≠ pr := by rintro rfl; rw [hpr] at e3; cases e3
        exact (put_ne e4).trans e3
    · rintro i _ m3 hi ⟨rs, s3, kk, a, b, c, d, rfl, g1, g2, g3, fr3, o3, hrl, hro⟩
      have hi2 : i < zs.length := by rw [List.length_map] at hi; omega
      lcg_off
      rename_i pf hpf pt nft hpt
      have nfs : pf ≠ st := fun e => by subst e; rw [g1] at hpf; cases hpf
      have nfn : pf ≠ pn := fun e => by subst e; rw [g2] at hpf; cases hpf
      have nfr : pf ≠ pr := fun e => by subst e; rw [g3] at hpf; cases hpf
      have nts : pt ≠ st := fun e => by subst e; rw [g1] at hpt; cases hpt
      have ntn : pt ≠ pn := fun e => by subst e; rw [g2] at hpt; cases hpt
      have ntr : pt ≠ pr := fun e => by subst e; rw [g3] at hpt; cases hpt
      have hpt0 : ∀ a o, m a = some o → a ≠ st → m3 a = some o := fr3
      refine s_seq ?_
      lcg_off
      rename_i t2 s4 u0 u1 o4 d4
      refine ⟨⟨by omega, by omega⟩, fun j sd m' => ∃ (fs : List (Str × Kd)) (s' : S4) (a b : Option D), sd = [some (.ref st), some (.rol (List.map D.int ns)), some (.ref pn), some (.int i), some (.ref pr), none, some (.ref pf), some (.ref pt), a, b] ∧ m' st = some (S4.D s') ∧ m' pn = some (.lst (zs.map D.str)) ∧ m' pr = some (.lst (rs.map recD)) ∧ m' pf = some (.lst (fs.map fldD)) ∧ m' pt = some (.lst ((fs.map (·.1)).map D.str)) ∧ Frame m st m' ∧ s'.Ok ∧ fs.length = j ∧ (fs.map (·.1)).Nodup ∧ ∀ f ∈ fs, Pl f.1 30 ∧ GK (· ∈ zs) 5 true f.2 ∧ NK (· ∈ zs.take i) 5 f.2,
        ⟨[], s4, _, _, rfl, by lcg_src, by lcg_src, by lcg_src, by lcg_src, by lcg_src, ?_, o4, rfl, .nil, by simp⟩, ?_, ?_⟩
      · exact fun a o e1 e2 => by
          have e3 := fr3 a o e1 e2
          have e4 : a ≠ pf := by rintro rfl; rw [hpf] at e3; cases e3
          have e5 : a ≠ pt := by rintro rfl; rw [hpt] at e3; cases e3
          exact (put_ne e2).trans ((put_ne e5).trans ((put_ne e4).trans e3))
      · rintro j _ m4 hj ⟨fs, s5, a, b, rfl, k1, k2, k3, k4, k5, fr4, o5, hfl, hfn, hfs⟩
        have hL : (fs.map (·.1)).length = fs.length := List.length_map ..
        have hL2 : (zs.take i).length = i := by rw [List.length_take]; omega
        have hpl2 : ∀ z ∈ zs.take i, Pl z 20 := fun z hz => hpl z (List.mem_of_mem_take hz)
        lcg_off
        rename_i z0 s6 hz0 o6 d6 z hz hzn p np1 np2 np3 np4 kd s7 hk o7
        refine gen_mem (fun mm => mm st = some (S4.D s7) ∧ mm pn = some (.lst (zs.map D.str)) ∧ mm pr = some (.lst (rs.map recD)) ∧ mm pf = some (.lst (fs.map fldD)) ∧ mm pt = some (.lst ((fs.map (·.1) ++ [z]).map D.str)) ∧ Frame m st mm)
          ⟨put_same, by lcg_src, by lcg_src, by lcg_src, ?_, ?_⟩ ?_
        · rw [List.map_append]; lcg_src
        · exact fun a o e1 e2 => by
            have e3 := fr4 a o e1 e2
            have e4 : a ≠ p := by rintro rfl; rw [np4] at e3; cases e3
            have e5 : a ≠ pt := by rintro rfl; rw [hpt0 a o e1 e2] at hpt; cases hpt
            exact (put_ne e2).trans ((put_ne e4).trans ((put_ne e2).trans ((put_ne e5).trans ((put_ne e2).trans e3))))
        rintro m5 ⟨l1, l2, l3, l4, l5, fr5⟩
        refine s_cut (fun sd m' => ∃ kd s8, sd = [some (.ref st), some (.rol (List.map D.int ns)), some (.ref pn), some (.int i), some (.ref pr), none, some (.ref pf), some (.ref pt), some (.int j), some kd.D] ∧ m' st = some (S4.D s8) ∧ m' pn = some (.lst (zs.map D.str)) ∧ m' pr = some (.lst (rs.map recD)) ∧ m' pf = some (.lst (fs.map fldD)) ∧ m' pt = some (.lst ((fs.map (·.1) ++ [z]).map D.str)) ∧ Frame m st m' ∧ s8.Ok ∧ GK (· ∈ zs) 5 true kd ∧ NK (· ∈ zs.take i) 5 kd) ?_ ?_
        · have hgk : GK (· ∈ zs) 5 true kd := (GK.imp (fun z hz => List.mem_of_mem_take hz) hk).mono (by decide)
          have hnk : NK (· ∈ zs.take i) 5 kd := hk.nk.mono (by decide)
          lcg_off
          · rename_i r2 s8 e0 e1 o8 d8
            obtain ⟨rn, rfl⟩ : ∃ n : Nat, r2 = n := ⟨r2.toNat, by omega⟩
            have lt : rn < zs.length := by rw [List.length_map] at e1; omega
            refine r_ixL (d := .str zs[rn]) (by lcg_src) (atI_nat (by rw [List.getElem?_map, List.getElem?_eq_getElem lt]; rfl)) ?_
            lcg_off
            exact ⟨_, Less.refl _, .box (.rcd zs[rn]), s8, rfl, put_same, by lcg_src, by lcg_src, by lcg_src, by lcg_src, fr5.st, o8, .box true (.rcd 3 true (hpl _ (List.getElem_mem lt)) (List.getElem_mem lt)), .box _ _⟩
          · rename_i r1 s8 _ _ o8 d8 _
            exact ⟨_, Less.refl _, kd, s8, rfl, put_same, by lcg_src, by lcg_src, by lcg_src, by lcg_src, fr5.st, o8, hgk, hnk⟩
        rintro _ m6 ⟨kd, s8, rfl, l1, l2, l3, l4, l5, fr5, o8, hgk, hnk⟩
        refine s_cut (fun sd m' => m' = m6 ∧ ∃ kd, sd = [some (.ref st), some (.rol (List.map D.int ns)), some (.ref pn), some (.int i), some (.ref pr), none, some (.ref pf), some (.ref pt), some (.int j), some kd.D] ∧ GK (· ∈ zs) 5 true kd ∧ NK (· ∈ zs.take i) 5 kd) ?_ ?_
        · lcg_off
          refine use_size (.inr ⟨_, rfl, l3⟩) ((hnk.sz (hro.sz hnd i)).mono (by omega)) fun n => ?_
          lcg_off
          · exact ⟨_, Less.refl _, rfl, .bool, rfl, .bool _ _, .bool _⟩
          · refine use_small (.inr ⟨_, rfl, l3⟩) ((hgk.mono (by decide)).sm (hro.szAll hnd (by omega)) (by decide)) fun b => ?_
            cases b
            · lcg_off
              exact ⟨_, Less.refl _, rfl, .bool, rfl, .bool _ _, .bool _⟩
            · lcg_off
              exact ⟨_, Less.refl _, rfl, kd, rfl, hgk, hnk⟩
        rintro _ _ ⟨rfl, kd, rfl, hgk, hnk⟩
        lcg_off
        refine r_ixL (d := .str z) l5 (atI_nat (by rw [List.getElem?_map, List.getElem?_append_right (by omega), hL, hfl, Nat.sub_self]; rfl)) ?_
        lcg_off
        refine ⟨_, Less.refl _, fs ++ [(z, kd)], s8, _, _, rfl, by lcg_src, by lcg_src, by lcg_src, ?_, ?_, ?_, o8, by simp [hfl], ?_, ?_⟩
        · rw [put_same, List.map_append]; rfl
        · rw [put_ne (by one_place), l5]; simp only [List.map_append, List.map_cons, List.map_nil]
        · exact fun a o e1 e2 => by
            have e3 : a ≠ pf := by rintro rfl; rw [fr3 a o e1 e2] at hpf; cases hpf
            exact (put_ne e3).trans (fr5 a o e1 e2)
        · rw [List.map_append, List.nodup_append]
          exact ⟨hfn, by simp, fun a ha b hb => by
            have hb : b = z := by simpa using hb
            rw [hb]; rintro rfl; exact hzn ha⟩
        · intro f hf
          rcases List.mem_append.mp hf with h | h
          · exact hfs f h
          · rw [List.mem_singleton.mp h]; exact ⟨hz, hgk, hnk⟩
      · rintro _ m4 ⟨fs, s5, a, b, rfl, k1, k2, k3, k4, k5, fr4, o5, hfl, hfn, hfs⟩
        lcg_off
        refine r_ixL (d := .str zs[i]) k2 (atI_nat (by rw [List.getElem?_map, List.getElem?_eq_getElem hi2]; rfl)) ?_
        lcg_off
        refine ⟨_, Less.refl _, rs ++ [(zs[i], fs)], s5, _, _, _, _, _, rfl, by lcg_src, by lcg_src, ?_, ?_, o5, ?_, ?_⟩
        · rw [put_same, List.map_append]; rfl
        · exact fun a o e1 e2 => by
            have e3 : a ≠ pr := by rintro rfl; rw [fr a o e1 e2] at hpr; cases hpr
            exact (put_ne e3).trans (fr4 a o e1 e2)
        · rw [List.length_append, hrl]; rfl
        · intro y r hr
          by_cases c : y < rs.length
          · rw [List.getElem?_append_left c] at hr; exact hro y r hr
          · rw [List.getElem?_append_right (by omega)] at hr
            obtain ⟨hy, rfl⟩ : y = i ∧ r = (zs[i], fs) := by
              cases e : y - rs.length with
              | zero => rw [e] at hr; simp at hr; exact ⟨by omega, hr.symm⟩
              | succ n => rw [e] at hr; simp at hr
            subst hy
            exact ⟨List.getElem?_eq_getElem hi2, by simp only; omega, by simp only; omega, hfn, hfs⟩
    · rintro _ m3 ⟨rs, s3, kk, a, b, c, d, rfl, g1, g2, g3, fr3, o3, hrl, hro⟩
      rw [List.length_map] at hrl
      have hrl2 : (rs.map recD).length = zs.length := by rw [List.length_map]; omega
      lcg_off
      rename_i r s6 r0 r1 o6 d6 pa na1 na2 pb nb1 nb2 nb3
      obtain ⟨rn, rfl⟩ : ∃ n : Nat, r = n := ⟨r.toNat, by omega⟩
      rw [cut_from, cut_to]
      refine r_addL (by lcg_src) (by lcg_src) ?_ ?_
      · rw [List.length_drop, List.length_take, hrl2]
        have := PySem.sizeLine_eq; omega
      · lcg_off
        rename_i p np1 np2 np3 np4
        refine ⟨put m st s6.D, ?_, ?_⟩
        · have f1 : Frame m st (put m3 st s6.D) := fr3.st
          have l1 := fr3.less (o := s6.D)
          exact fun a o e => by
            have e2 := l1 a o e
            have e3 : a ≠ pa := by rintro rfl; rw [put_ne na1, na2] at e2; cases e2
            have e4 : a ≠ pb := by rintro rfl; rw [put_ne nb2, nb3] at e2; cases e2
            have e5 : a ≠ p := by rintro rfl; rw [put_ne np3, np4] at e2; cases e2
            rw [put_ne e5, put_ne e4, put_ne e3]; exact e2
        · rw [← List.map_drop, ← List.map_take, ← List.map_append]
          exact q _ s6 (hro.fin hnd (by omega) (by omega) (by omega) hpl rn) o6
theorem use_records {st : Addr} {ns : List Int} {a b c d : Int} {m : M} {P : DK} (h : m st = some (.lst [.int a, .int b, .int c, .int d])) (o : S4.Ok ⟨a, b, c, d⟩) (q : ∀ rs s', RecsOk rs → S4.Ok s' → P (.tup (rs.map recD)) (put m st s'.D)) :
    sp_law_records [.ref st, .rol (List.map D.int ns)] m P noX := ⟨st, ns, ⟨a, b, c, d⟩, rfl, h, o, q⟩
local macro_rules | `(tactic| lcg_sub) => `(tactic| ((with_reducible refine' use_records ?h1 ?h2 ?h3); (case h1 => lcg_src); (case h2 => first | assumption | exact S4.Ok.d (by assumption) _ | exact ⟨by decide, by decide, by decide⟩); intro _ _ _ _; try simp only [put_put]))

theorem use_fields_of {rs : Recs} {n : Str} {m : M} {P : DK} (q : P (.tup ((flds rs n).map fldD)) m) : sp_fields_of [.tup (rs.map recD), .str n] m P noX := ⟨rs, n, rfl, q⟩
theorem find_at {α : Type} {fs : List (Str × α)} {z : Str} {i : Nat} {r : Str × α} (hi : fs[i]? = some r) (h : ∀ q ∈ fs.take i, q.1 ≠ z) (e : r.1 = z) : fs.find? (fun f => decide (f.1 = z)) = some r := by
  have sp : fs = fs.take i ++ r :: fs.drop (i + 1) := by
    have := (List.getElem?_eq_some_iff.mp hi).2
    rw [← this, List.getElem_cons_drop, List.take_append_drop]
  rw [sp, List.find?_append]
  have n1 : (fs.take i).find? (fun q => decide (q.1 = z)) = none := by
    rw [List.find?_eq_none]
    intro q hq
    simpa using h q hq
  rw [n1]
  simp [e]
/-- a step that fits -/
inductive Stp (rs : Recs) : Kd → D → Kd → Prop where
  | tup {ks : List Kd} {i : Nat} {k : Kd} : ks[i]? = some k → Stp rs (.tup ks) (.int i) k
  | fld {n z : Str} {f : Str × Kd} : (flds rs n).find? (fun f => decide (f.1 = z)) = some f → Stp rs (.rcd n) (.str z) f.2
  | maybe (k) : Stp rs (.maybe k) (.str "?") k
  | box (k) : Stp rs (.box k) (.str "^") k
  | shared (k) : Stp rs (.shared k) (.str "^") k
  | excl (k) : Stp rs (.excl k) (.str "^") k

/-- the kinds on the way -/
inductive Way (rs : Recs) : Kd → List D → List Kd → Prop where
  | nil (k) : Way rs k [] [k]
  | cons {k k' : Kd} {st : D} {sts : List D} {ks : List Kd} : Stp rs k st k' → Way rs k' sts ks → Way rs k (st :: sts) (k :: ks)
theorem Way.len {rs : Recs} : ∀ {k : Kd} {sts : List D} {ks : List Kd}, Way rs k sts ks → ks.length = sts.length + 1
  | _, _, _, .nil _ => rfl
  | _, _, _, .cons _ w => by rw [List.length_cons, List.length_cons, w.len]
theorem Way.first {rs : Recs} : ∀ {k : Kd} {sts : List D} {ks : List Kd}, Way rs k sts ks → ks[0]? = some k
  | _, _, _, .nil _ => rfl
  | _, _, _, .cons _ _ => rfl
theorem Way.at {rs : Recs} : ∀ {k : Kd} {sts : List D} {ks : List Kd}, Way rs k sts ks → ∀ {i : Nat} {st : D}, sts[i]? = some st → ∃ a b, ks[i]? = some a ∧ ks[i + 1]? = some b ∧ Stp rs a st b
  | _, _, _, .nil _, i, st, h => by simp at h
  | _, _, _, .cons s w, 0, st, h => by
    simp at h
    subst h
    exact ⟨_, _, rfl, by rw [List.getElem?_cons_succ]; exact w.first, s⟩
  | _, _, _, .cons s w, i + 1, st, h => by
    rw [List.getElem?_cons_succ] at h
    obtain ⟨a, b, h1, h2, h3⟩ := w.at h
    exact ⟨a, b, by rw [List.getElem?_cons_succ]; exact h1, by rw [List.getElem?_cons_succ]; exact h2, h3⟩

theorem hexLen : ∀ c < 128, ((Nat.toDigits 16 c).map Char.toNat).length ≤ 2 := by decide +kernel
theorem reprChar_le {q c : Nat} (h : c < 128) : (PySem.Builtin.Str.reprChar q c).length ≤ 4 := by
  unfold PySem.Builtin.Str.reprChar
  have := hexLen c h
  simp only
  repeat' split
  all_goals (try (simp; done))
  all_goals (try (rw [List.length_append, List.length_append, List.length_replicate]; simp only [List.length_cons, List.length_nil]; omega))
  all_goals omega
theorem foldl_le {q : Nat} : ∀ (l : List Nat) (n : Nat), (∀ c ∈ l, c < 128) → l.foldl (fun n c => n + (PySem.Builtin.Str.reprChar q c).length) n ≤ n + 4 * l.length
  | [], n, _ => by simp
  | c :: l, n, h => by
    rw [List.foldl_cons, List.length_cons]
    have h1 := reprChar_le (q := q) (h c List.mem_cons_self)
    have := foldl_le (q := q) l (n + (PySem.Builtin.Str.reprChar q c).length) fun x hx => h x (List.mem_cons_of_mem _ hx)
    omega
theorem repr_le {z : Str} {n : Nat} (h : Pl z n) : (reprText z).length ≤ 2 + 4 * n := by
  rw [← reprLen_eq, ← Array.foldl_toList]
  have := foldl_le (q := reprQuote z) z.cps.toList 2 h.c
  have hl : z.cps.toList.length ≤ n := h.l
  omega
theorem intText_le {i : Int} (h : i.natAbs < 10 ^ 12) : (Str.ofString (toString i)).length ≤ 13 := by
  have := int_text_length_le10 (k := 12) (by decide) h
  rw [ofString_length]; omega
theorem intLog {i : Int} (h : i.natAbs < 10 ^ 12) : i.natAbs.log2 < 1920 := by
  by_cases c : i.natAbs = 0
  · rw [c]; decide
  · rw [Nat.log2_lt c]
    exact Nat.lt_of_lt_of_le h (by decide +kernel)
def StepS (st : D) : Prop := (∃ i : Int, st = .int i ∧ i.natAbs < 10 ^ 12) ∨ ∃ z, st = .str z ∧ Pl z 30
theorem len_app {a b : Str} : (a ++ b).length = a.length + b.length := by
  show (a.cps ++ b.cps).size = _
  rw [Array.size_append]; rfl
theorem msg_len {a b c d : Str} (h1 : a.length ≤ 100) (h2 : b.length ≤ 200) (h3 : c.length ≤ 100) (h4 : d.length ≤ 100) : (Str.empty ++ a).length ≤ sizeLine ∧ (Str.empty ++ a ++ b).length ≤ sizeLine ∧ (Str.empty ++ a ++ b ++ c).length ≤ sizeLine ∧ (Str.empty ++ a ++ b ++ c ++ d).length ≤ sizeLine := by
  have h0 : Str.empty.length = 0 := rfl
  have := PySem.sizeLine_eq
  simp only [len_app, h0]
  omega
theorem raise_msg {ex : DX} {C : Addr} {a b t : Str} {r : List D} {st : D} {DD : DEnds} {sd : DS} {m : M} (ha : a.length ≤ 100) (hb : b.length ≤ 100) (ht : t.length ≤ 100) (h2 : sd[2]? = some (some st)) (h1 : sd[1]? = some (some (.tup (.str t :: r)))) (hs : StepS st) (q : ex sd (.ref C) none m) :
    dRaise ex C (dCons (dJoin [dC (.str a), dFmtR (dVar 2), dC (.str b), dFmt (dOp rIxD (dVar 1) (dC (.int 0)))]) dNil) DD sd m := by
  have hix : ∀ P : DK, P (.str t) m → rIxD (.tup (.str t :: r)) (.int 0) m P := fun P p => ⟨_, by unfold atI ixN; rw [if_pos (by decide), if_pos (by rw [List.length_cons]; omega)]; rfl, p⟩
  have hts : t.length ≤ sizeLine := by have := PySem.sizeLine_eq; omega
  have one1 : ∀ {x : D}, [x].length ≤ sizeLine := fun {x} => by have := PySem.sizeLine_eq; rw [List.length_singleton]; omega
  rcases hs with ⟨i, rfl, hi⟩ | ⟨z, rfl, hz⟩
  · have l := msg_len ha (Nat.le_trans (intText_le hi) (by decide)) hb ht
    refine ⟨a, rfl, l.1, .int i, h2, .inr ⟨i, rfl, intLog hi, _, rfl, l.2.1, b, rfl, l.2.2.1, .tup (.str t :: r), h1, ?_⟩⟩
    dsimp only [dC]
    refine hix _ ?_
    exact Or.inl ⟨t, rfl, hts, t, rfl, l.2.2.2, one1, q⟩
  · have l := msg_len ha (Nat.le_trans (repr_le hz) (by decide)) hb ht
    have hz2 : (reprText z).length ≤ sizeLine := by have := repr_le hz; have := PySem.sizeLine_eq; omega
    refine ⟨a, rfl, l.1, .str z, h2, .inl ⟨z, rfl, hz2, _, rfl, l.2.1, b, rfl, l.2.2.1, .tup (.str t :: r), h1, ?_⟩⟩
    dsimp only [dC]
    refine hix _ ?_
    exact Or.inl ⟨t, rfl, hts, t, rfl, l.2.2.2, one1, q⟩

local macro_rules | `(tactic| got_up) => `(tactic| first | rfl | assumption | exact atI_nat (by assumption) | fail)
def sp_kafter (x : Addr) : DSp := fun ds m P EX => ∃ rs k st, ds = [.tup (rs.map recD), Kd.D k, st] ∧ StepS st ∧ (∀ k', Stp rs k st k' → P (Kd.D k') m) ∧ ((∀ k', ¬ Stp rs k st k') → EX (.ref x) none m)
theorem s_chain2 {a b : Prop} : a ∧ b → a ∧ b := id
theorem rd_kafter (x : Addr) : ∀ ds m P EX, sp_kafter x ds m P EX → Go P (b_kind_after x (outX EX) sp_fields_of) (dstart ["records", "kind", "step", "field", "part"] ds) m := by
  rintro ds m P EX ⟨rs, k, st, rfl, hst, hy, hn⟩
  show b_kind_after x (outX EX) sp_fields_of { nx := fun _ m' => Ret P .non m', rt := Ret P } [some (.tup (rs.map recD)), some k.D, some st, none, none] m
  unfold b_kind_after
  cases k
  case tup ks =>
    rw [Kd.D_tup]
    rcases id hst with ⟨i, rfl, hi⟩ | ⟨z, rfl, hz⟩
    · top_strB
      · rename_i h0 h1
        rw [List.length_map] at h1
        obtain ⟨n, rfl⟩ : ∃ n : Nat, i = n := ⟨i.toNat, by omega⟩
        have hn2 : ks[n]? = some (ks[n]'(by omega)) := List.getElem?_eq_getElem _
        refine r_ixT (d := (ks[n]'(by omega)).D) (atI_nat (by rw [List.getElem?_map, hn2]; rfl)) ?_
        exact ⟨_, Less.refl _, hy _ (.tup hn2)⟩
      · rename_i h0 h1
        refine raise_msg (by decide +kernel) (by decide +kernel) (t := "tuple") (by decide +kernel) rfl rfl hst (hn fun k' h => ?_)
        cases h with | tup e => rw [List.length_map] at h1; have := (List.getElem?_eq_some_iff.mp e).1; omega
      · rename_i h0
        refine raise_msg (by decide +kernel) (by decide +kernel) (t := "tuple") (by decide +kernel) rfl rfl hst (hn fun k' h => ?_)
        cases h with | tup e => omega
    · top_strB
      refine raise_msg (by decide +kernel) (by decide +kernel) (t := "tuple") (by decide +kernel) rfl rfl hst (hn fun k' h => ?_)
      cases h
  case rcd n =>
    unfold Kd.D
    rcases id hst with ⟨i, rfl, hi⟩ | ⟨z, rfl, hz⟩
    · top_strB
      refine use_fields_of ?_
      lcg_off
      refine ⟨fun i' sd m' => m' = m ∧ (∃ x y, sd = [some (.tup (rs.map recD)), some (.tup [.str "record", .str n]), some (.int i), x, y]), ⟨rfl, ⟨_, _, rfl⟩⟩, ?_, ?_⟩
      · rintro j x _ m2 hx ⟨hm2, x1, y1, rfl⟩
        subst hm2
        obtain ⟨r, hi, hm, rfl⟩ := getMap hx
        unfold fldD
        lcg_off
        exact ⟨_, Less.refl _, rfl, _, _, rfl⟩
      · rintro _ m2 ⟨hm2, x1, y1, rfl⟩
        subst hm2
        top_strB
        refine raise_msg (by decide +kernel) (by decide +kernel) (t := "record") (by decide +kernel) rfl rfl hst (hn fun k' h => ?_)
        cases h
    · top_strB
      refine use_fields_of ?_
      lcg_off
      refine ⟨fun i sd m' => m' = m ∧ (∃ x y, sd = [some (.tup (rs.map recD)), some (.tup [.str "record", .str n]), some (.str z), x, y]) ∧ ∀ q ∈ (flds rs n).take i, q.1 ≠ z, ⟨rfl, ⟨_, _, rfl⟩, by simp⟩, ?_, ?_⟩
      · rintro i x _ m2 hx ⟨hm2, ⟨x1, y1, rfl⟩, hno⟩
        subst hm2
        obtain ⟨r, hi, hm, rfl⟩ := getMap hx
        unfold fldD
        lcg_off
        · rename_i e
          exact ⟨_, Less.refl _, hy _ (.fld (find_at hi hno e))⟩
        · rename_i e
          refine ⟨_, Less.refl _, rfl, ⟨_, _, rfl⟩, fun q hq => ?_⟩
          rw [List.take_add_one, hi] at hq
          rcases List.mem_append.mp hq with h | h
          · exact hno q h
          · simp at h; subst h; exact e
      · rintro _ m2 ⟨hm2, ⟨x1, y1, rfl⟩, hno⟩
        subst hm2
        rw [List.length_map, List.take_length] at hno
        top_strB
        refine raise_msg (by decide +kernel) (by decide +kernel) (t := "record") (by decide +kernel) rfl rfl hst (hn fun k' h => ?_)
        cases h with
        | fld e =>
          have h1 := List.find?_some e
          exact hno _ (List.mem_of_find?_eq_some e) (by simpa using h1)
  all_goals unfold Kd.D
  all_goals rcases id hst with ⟨i, rfl, hi⟩ | ⟨z, rfl, hz⟩
  all_goals top_strB
  all_goals (try (refine raise_msg (by decide +kernel) (by decide +kernel) (by decide +kernel) rfl rfl hst (hn fun k' h => ?_); cases h; done))
  all_goals (try (rename_i e; subst e; exact ⟨_, Less.refl _, hy _ (.maybe _)⟩))
  all_goals (try (rename_i e; subst e; exact ⟨_, Less.refl _, hy _ (.box _)⟩))
  all_goals (try (rename_i e; subst e; exact ⟨_, Less.refl _, hy _ (.shared _)⟩))
  all_goals (try (rename_i e; subst e; exact ⟨_, Less.refl _, hy _ (.excl _)⟩))
  all_goals (try (rename_i e; refine raise_msg (by decide +kernel) (by decide +kernel) (by decide +kernel) rfl rfl hst (hn fun k' h => ?_); cases h; exact e rfl))

/-- the parts of a kind, each with its step -/
def opts (rs : Recs) : Kd → List (D × Kd)
  | .maybe k => [(.str "?", k)]
  | .box k => [(.str "^", k)]
  | .shared k => [(.str "^", k)]
  | .excl k => [(.str "^", k)]
  | .tup ks => ks.mapIdx fun i k => (.int i, k)
  | .rcd z => (flds rs z).map fun f => (.str f.1, f.2)
  | _ => []
def optD (o : D × Kd) : D := .tup [o.1, o.2.D]
theorem list_recs {rs : Recs} {fs : List (Str × Kd)} : fs.map fldD = (fs.map fun f => ((.str f.1, f.2) : D × Kd)).map optD := by
  rw [List.map_map]; rfl
def sp_law_options : DSp := fun ds m P _ => ∃ x rs k, ds = [x, Kd.D k] ∧ RowsAt m x rs ∧ (opts rs k).length ≤ 1000 ∧ ∀ p, m p = none → P (.ref p) (put m p (.lst ((opts rs k).map optD)))
theorem use_options {x : D} {rs : Recs} {k : Kd} {m : M} {P : DK} (h : RowsAt m x rs) (hl : (opts rs k).length ≤ 1000) (q : ∀ p, m p = none → P (.ref p) (put m p (.lst ((opts rs k).map optD)))) : sp_law_options [x, Kd.D k] m P noX := ⟨x, rs, k, rfl, h, hl, q⟩
theorem rd_options : ∀ ds m P EX, sp_law_options ds m P EX → Go P b_law_options (dstart ["rows", "kind", "row", "k"] ds) m := by
  rintro ds m P EX ⟨x, rs, k, rfl, hr, hl, q⟩
  show b_law_options { nx := fun _ m' => Ret P .non m', rt := Ret P } [some x, some k.D, none, none] m
  unfold b_law_options
  cases k
  case tup ks =>
    simp only [opts] at hl q
    rw [List.length_mapIdx] at hl
    rw [Kd.D_tup]
    top_strB
    rename_i p0 hp0
    refine ⟨⟨by omega, by rw [List.length_map]; omega⟩, fun p hp => ?_⟩
    simp only [put_none] at hp
    obtain ⟨hpp, hp⟩ := hp
    have en : ((ks.map Kd.D).length : Int).toNat = ks.length := by rw [List.length_map]; omega
    rw [en]
    refine ⟨fun i acc m2 => m2 = put m p0 (.lst [.str "box", .str "shared", .str "exclusive"]) ∧ acc = (((ks.mapIdx fun i k => ((.int i, k) : D × Kd)).map optD).take i), ⟨rfl, rfl⟩, ?_, ?_⟩
    · rintro i _ _ hi ⟨rfl, rfl⟩
      show _
      have hd : (ks.map Kd.D)[i]? = some ks[i].D := by rw [List.getElem?_map, List.getElem?_eq_getElem hi]; rfl
      unfold CTurn
      lcg_off
      refine ⟨_, Less.refl _, ?_, rfl, ?_⟩
      · have := PySem.sizeLine_eq; rw [List.length_take, List.length_map, List.length_mapIdx]; omega
      · rw [List.take_add_one, List.getElem?_map, List.getElem?_mapIdx, List.getElem?_eq_getElem hi]; rfl
    · rintro _ _ ⟨rfl, rfl⟩
      rw [List.take_of_length_le (by rw [List.length_map, List.length_mapIdx]; omega)]
      exact ⟨put m p (.lst _), by one_item, q p hp⟩
  case rcd z =>
    simp only [opts] at hl q
    unfold Kd.D
    top_strB
    rename_i p0 hp0
    refine fs_same (ys := rs.map recD) (hr.less (Less.new hp0)) (fun i sd => (∃ a b, sd = [some x, some (.tup [.str "record", .str z]), a, b]) ∧ ∀ r ∈ rs.take i, r.1 ≠ z) ⟨⟨_, _, rfl⟩, by simp⟩ ?_ ?_
    · rintro i y _ hy ⟨⟨a, b, rfl⟩, hno⟩
      obtain ⟨r, hi, hm, rfl⟩ := getMap hy
      unfold recD
      lcg_off
      · rename_i e p hpp hp
        have ef := flds_at hi hno e
        rw [ef] at q
        rw [list_recs (rs := rs)]
        exact ⟨put m p (.lst _), by one_item, q p hp⟩
      · rename_i e
        refine ⟨_, Less.refl _, rfl, ⟨_, _, rfl⟩, fun r hq => ?_⟩
        rw [List.take_add_one, hi] at hq
        rcases List.mem_append.mp hq with h | h
        · exact hno r h
        · simp at h; subst h; exact e
    · rintro _ ⟨⟨a, b, rfl⟩, hno⟩
      rw [flds_no (by rw [List.length_map, List.take_length] at hno; exact hno)] at q
      lcg_off
      rename_i p hpp hp
      exact ⟨put m p (.lst _), by one_item, q p hp⟩
  all_goals unfold Kd.D
  all_goals simp only [opts] at q
  all_goals top_strB
  all_goals (first
    | (rename_i p0 hp0 p hpp hp
       refine ⟨put m p (.lst _), ?_, q p hp⟩
       simp only [List.map_cons, List.map_nil, optD]
       one_item)
    | (rename_i p hp
       exact ⟨_, Less.refl _, q p hp⟩)
    | fail)
theorem mapIdx_at {α β : Type} {f : Nat → α → β} {l : List α} {i : Nat} {b : β} (h : (l.mapIdx f)[i]? = some b) : ∃ a, l[i]? = some a ∧ b = f i a := by
  rw [List.getElem?_mapIdx] at h
  cases e : l[i]? with
  | none => rw [e] at h; cases h
  | some a => rw [e] at h; exact ⟨a, rfl, (Option.some.inj h).symm⟩
theorem single_at {α : Type} {a b : α} {i : Nat} (h : [a][i]? = some b) : i = 0 ∧ b = a := by
  cases i with
  | zero => simp at h; exact ⟨rfl, h.symm⟩
  | succ n => simp at h
theorem find_of {α : Type} {fs : List (Str × α)} (hn : (fs.map (·.1)).Nodup) {i : Nat} {r : Str × α} (h : fs[i]? = some r) : fs.find? (fun f => decide (f.1 = r.1)) = some r := by
  refine find_at h (fun q hq e => ?_) rfl
  obtain ⟨j, hj, e2⟩ := List.mem_iff_getElem.mp hq
  rw [List.length_take] at hj
  rw [List.getElem_take] at e2
  have a1 : (fs.map (·.1))[j]? = some r.1 := by rw [List.getElem?_map, List.getElem?_eq_getElem (by omega), e2, ← e]; rfl
  have a2 : (fs.map (·.1))[i]? = some r.1 := by rw [List.getElem?_map, h]; rfl
  have := nodup_inj hn a1 a2
  omega
theorem flds_cases {rs : Recs} (z : Str) : flds rs z = [] ∨ ∃ r ∈ rs, r.1 = z ∧ flds rs z = r.2 := by
  unfold flds
  cases e : rs.find? (fun r => decide (r.1 = z)) with
  | none => exact .inl rfl
  | some r => exact .inr ⟨r, List.mem_of_find?_eq_some e, by simpa using List.find?_some e, rfl⟩
theorem RecsOk.nodup {rs : Recs} (h : RecsOk rs) (z : Str) : ((flds rs z).map (·.1)).Nodup := by
  rcases flds_cases (rs := rs) z with e | ⟨r, hr, _, e⟩
  · rw [e]; exact .nil
  · rw [e]; exact h.fnd r hr
theorem RecsOk.flen6 {rs : Recs} (h : RecsOk rs) (z : Str) : (flds rs z).length ≤ 6 := by
  rcases flds_cases (rs := rs) z with e | ⟨r, hr, _, e⟩
  · rw [e]; simp
  · rw [e]; exact (h.flen r hr).2
/-- a kind over the records -/
abbrev KOk (rs : Recs) (k : Kd) : Prop := GK (∃ r ∈ rs, r.1 = ·) 7 false k
theorem KOk.opts {rs : Recs} {k : Kd} (h : KOk rs k) (hr : RecsOk rs) : (opts rs k).length ≤ 6 := by
  cases h with
  | tup h1 h2 h3 => simp only [Q4.opts, List.length_mapIdx]; exact h2
  | rcd _ _ _ _ => simp only [Q4.opts, List.length_map]; exact hr.flen6 _
  | _ => simp [Q4.opts]
theorem opts_stp {rs : Recs} {k : Kd} {i : Nat} {o : D × Kd} (hr : RecsOk rs) (h : (opts rs k)[i]? = some o) : Stp rs k o.1 o.2 := by
  cases k
  all_goals simp only [opts] at h
  case tup ks =>
    obtain ⟨a, h1, rfl⟩ := mapIdx_at h
    exact .tup h1
  case rcd z =>
    rw [List.getElem?_map] at h
    cases e : (flds rs z)[i]? with
    | none => rw [e] at h; cases h
    | some f =>
      rw [e] at h
      obtain rfl := (Option.some.inj h).symm
      exact .fld (find_of (hr.nodup z) e)
  case int => simp at h
  case bool => simp at h
  case unit => simp at h
  all_goals obtain ⟨rfl, rfl⟩ := single_at h
  · exact .box _
  · exact .maybe _
  · exact .shared _
  · exact .excl _
theorem KOk.step {rs : Recs} {k k' : Kd} {st : D} (hr : RecsOk rs) (h : KOk rs k) (s : Stp rs k st k') : KOk rs k' := by
  cases s with
  | tup e => cases h with | tup h1 h2 h3 => exact (h3 _ (List.mem_of_getElem? e)).mono (by decide)
  | fld e =>
    rename_i n z f
    have hf := List.mem_of_find?_eq_some e
    rcases flds_cases (rs := rs) n with e2 | ⟨r, hr2, _, e2⟩
    · rw [e2] at hf; cases hf
    · rw [e2] at hf; exact ((hr.fgk r hr2 f hf).mono (by decide)).weak
  | maybe => cases h with | maybe h => exact h.mono (by decide)
  | box => cases h with | box _ h => exact (h.mono (by decide)).weak
  | shared => cases h with | shared h => exact (h.mono (by decide)).weak
  | excl => cases h with | excl h => exact (h.mono (by decide)).weak
theorem KOk.way {rs : Recs} (hr : RecsOk rs) : ∀ {k : Kd} {sts : List D} {ks : List Kd}, KOk rs k → Way rs k sts ks → ∀ x ∈ ks, KOk rs x
  | _, _, _, h, .nil _, x, hx => by rw [List.mem_singleton.mp hx]; exact h
  | _, _, _, h, .cons s w, x, hx => by
    rcases List.mem_cons.mp hx with rfl | hx
    · exact h
    · exact (h.step hr s).way hr w x hx
theorem Way.snoc {rs : Recs} : ∀ {k : Kd} {sts : List D} {ks : List Kd}, Way rs k sts ks → ∀ {a b : Kd} {st : D}, ks[sts.length]? = some a → Stp rs a st b → Way rs k (sts ++ [st]) (ks ++ [b])
  | _, _, _, .nil _, a, b, st, h, s => by simp at h; subst h; exact .cons s (.nil _)
  | _, _, _, .cons s w, a, b, st, h, s2 => by
    rw [List.length_cons, List.getElem?_cons_succ] at h
    exact .cons s (w.snoc h s2)
/-- two steps can be compared: both numbers or both texts -/
def Cmp (x y : D) : Prop := (∃ i j, x = .int i ∧ y = .int j) ∨ ∃ a b, x = .str a ∧ y = .str b
theorem stp_at {rs : Recs} {k k' : Kd} {st : D} (s : Stp rs k st k') : ∃ i : Nat, ∃ o, (opts rs k)[i]? = some o ∧ o = (st, k') ∧ (∀ o ∈ opts rs k, Cmp o.1 st) ∧ ∀ q ∈ (opts rs k).take i, q.1 ≠ st := by
  cases s with
  | tup e =>
    rename_i ks i
    refine ⟨i, (.int i, k'), ?_, rfl, ?_, ?_⟩
    · simp only [opts]; rw [List.getElem?_mapIdx, e]; rfl
    · intro o ho
      simp only [opts] at ho
      obtain ⟨j, hj⟩ := List.getElem?_of_mem ho
      obtain ⟨a, _, rfl⟩ := mapIdx_at hj
      exact .inl ⟨_, _, rfl, rfl⟩
    · intro q hq e2
      simp only [opts] at hq
      obtain ⟨j, hj, e3⟩ := List.mem_iff_getElem.mp hq
      rw [List.length_take] at hj
      rw [List.getElem_take, List.getElem_mapIdx] at e3
      rw [← e3] at e2
      simp at e2
      omega
  | fld e =>
    rename_i n z f
    obtain ⟨hz, i, hi, e2, h3⟩ := List.find?_eq_some_iff_getElem.mp e
    refine ⟨i, (.str z, f.2), ?_, rfl, ?_, ?_⟩
    · simp only [opts]
      rw [List.getElem?_map, List.getElem?_eq_getElem hi, e2]
      have : f.1 = z := by simpa using hz
      show some (D.str f.1, f.2) = _
      rw [this]
    · intro o ho
      simp only [opts] at ho
      obtain ⟨g, _, rfl⟩ := List.mem_map.mp ho
      exact .inr ⟨_, _, rfl, rfl⟩
    · intro q hq e4
      simp only [opts] at hq
      obtain ⟨j, hj, e3⟩ := List.mem_iff_getElem.mp hq
      rw [List.length_take] at hj
      rw [List.getElem_take, List.getElem_map] at e3
      rw [← e3] at e4
      have h5 := h3 j (by omega)
      simp only [D.str.injEq] at e4
      rw [e4] at h5
      simp at h5
  | maybe =>
    exact ⟨0, _, rfl, rfl, fun o ho => by simp only [opts, List.mem_singleton] at ho; subst ho; exact .inr ⟨_, _, rfl, rfl⟩, by simp⟩
  | box =>
    exact ⟨0, _, rfl, rfl, fun o ho => by simp only [opts, List.mem_singleton] at ho; subst ho; exact .inr ⟨_, _, rfl, rfl⟩, by simp⟩
  | shared =>
    exact ⟨0, _, rfl, rfl, fun o ho => by simp only [opts, List.mem_singleton] at ho; subst ho; exact .inr ⟨_, _, rfl, rfl⟩, by simp⟩
  | excl =>
    exact ⟨0, _, rfl, rfl, fun o ho => by simp only [opts, List.mem_singleton] at ho; subst ho; exact .inr ⟨_, _, rfl, rfl⟩, by simp⟩

section
variable {t u v : TDE} {sd : DS} {m : M} {P : DK} {D' : DEnds}
theorem s_dnew (h : ∀ p, m p = none → P (.ref p) (put m p (.dct []))) : dDNew sd m P := h
def rDPut (z x y : D) (m3 : M) (Q : M → Prop) : Prop := ∃ a kvs k, x = .ref a ∧ y = kD k ∧ m3 a = some (.dct kvs) ∧ kvs.length < sizeLine ∧ Q (put m3 a (.dct (putD kvs k z)))
theorem s_dput (h : v sd m fun z m1 => t sd m1 fun x m2 => u sd m2 fun y m3 => rDPut z x y m3 (D'.nx sd)) : dDPut t u v D' sd m := h
theorem r_dput {a : Addr} {kvs : List (Key × D)} {z : Str} {d : D} {Q : M → Prop} (h : m a = some (.dct kvs)) (hl : kvs.length < sizeLine) (q : Q (put m a (.dct (putD kvs (.inr z) d)))) : rDPut d (.ref a) (.str z) m Q := ⟨a, kvs, .inr z, rfl, rfl, h, hl, q⟩
theorem r_listK {a : Addr} {kvs : List (Key × D)} (h : m a = some (.dct kvs)) (q : ∀ p, m p = none → P (.ref p) (put m p (.lst (kvs.map fun q => kD q.1)))) : rListK [.ref a] m P := ⟨a, kvs, rfl, h, q⟩
theorem s_disp1 (h : ∀ p, m p = none → t sd (put m p (.dct [])) fun y m1 => u sd m1 fun z m2 => ∃ k, y = kD k ∧ m2 p = some (.dct []) ∧ P (.ref p) (put m2 p (.dct [(k, z)]))) : dDisp1 t u sd m P := h
theorem s_items (h : t sd m fun x m1 => ∃ a kvs, x = .ref a ∧ m1 a = some (.dct kvs) ∧ ∀ p, m1 p = none → P (.ref p) (put m1 p (.lst (kvs.map fun q => .tup [kD q.1, q.2])))) : dItems t sd m P := h
end
local macro_rules | `(tactic| lcg_sub) => `(tactic| first
  | (with_reducible refine s_dnew (fun p hp => ?_); (try simp only [put_none] at hp); (repeat' (rename _ ∧ _ => hA; obtain ⟨_, _⟩ := hA)))
  | with_reducible refine s_dput ?_
  | with_reducible refine s_items ?_
  | fail)
def sp_law_small_kind : DSp := fun ds m P _ => ∃ st ns s rs, ds = [.ref st, .rol (List.map D.int ns), .tup (rs.map recD)] ∧ m st = some (S4.D s) ∧ s.Ok ∧ RecsOk rs ∧ ∀ k s', GK (∃ r ∈ rs, r.1 = ·) 6 false k → S4.Ok s' → P (Kd.D k) (put m st s'.D)
theorem RecsOk.kz {rs : Recs} (h : RecsOk rs) : ∀ z, (∃ r ∈ rs, r.1 = z) → SZ rs 24 (.rcd z) := by
  rintro _ ⟨r, hr, rfl⟩
  exact h.sz r hr
theorem recNames {rs : Recs} : ∀ z, z ∈ rs.map (·.1) → ∃ r ∈ rs, r.1 = z := fun z hz => List.mem_map.mp hz
theorem RecsOk.npl {rs : Recs} (h : RecsOk rs) : ∀ z ∈ rs.map (·.1), Pl z 20 := fun z hz => by
  obtain ⟨r, hr, rfl⟩ := List.mem_map.mp hz
  exact h.pl r hr
/-- [row[0] for row in rows] -/
theorem ct_names {rs : Recs} {i : Nat} {vs : List Nat} {sd : DS} {m : M} {P : DK} (hr : RecsOk rs)
    (q : ∀ p, m p = none → P (.ref p) (put m p (.lst ((rs.map (·.1)).map D.str))))
    (te : TDE) (h : ∀ r m' Q, Q (.str r.1) m' → te ((wipeD sd vs).set i (some (recD r))) m' Q) : CT (rs.map recD) (dName i) dYes te vs sd m P := fun p hp => by
  refine ⟨fun j acc m2 => m2 = m ∧ acc = ((rs.map (·.1)).map D.str).take j, ⟨rfl, rfl⟩, ?_, ?_⟩
  · rintro j x _ _ hx ⟨rfl, rfl⟩
    obtain ⟨r, hi, hm, rfl⟩ := getMap hx
    show te _ _ _
    refine h r _ _ ⟨_, Less.refl _, ?_, rfl, ?_⟩
    · have := PySem.sizeLine_eq; have := hr.le; rw [List.length_take, List.length_map, List.length_map]; omega
    · rw [List.take_add_one, List.getElem?_map, List.getElem?_map, hi]; rfl
  · rintro _ _ ⟨rfl, rfl⟩
    rw [List.take_of_length_le (by rw [List.length_map, List.length_map, List.length_map]; exact Nat.le_refl _)]
    exact q p hp
theorem rd_small_kind : ∀ ds m P EX, sp_law_small_kind ds m P EX → Go P (b_law_small_kind sp_law_any_kind (sp_law_is_small 34 10)) (dstart ["state", "script", "rows", "kind", "row"] ds) m := by
  rintro ds m P EX ⟨st, ns, s, rs, rfl, hs, ho, hr, q⟩
  show b_law_small_kind sp_law_any_kind (sp_law_is_small 34 10) { nx := fun _ m' => Ret P .non m', rt := Ret P } [some (.ref st), some (.rol (List.map D.int ns)), some (.tup (rs.map recD)), none, none] m
  unfold b_law_small_kind
  lcg_off
  refine ct_names (rs := rs) hr ?_ (te := dOp rIxD (dVar 4) (dC (.int 0))) (h := fun r m' Q hq => by unfold recD; lcg_off; exact hq)
  intro nm hnm
  have := hr.le
  have l1 : (rs.map (·.1)).length ≤ 1000 := by rw [List.length_map]; omega
  have l2 := hr.npl
  have l3 : nm ≠ st := (neA hs hnm).symm
  lcg_off
  rename_i k s2 hk o2
  have hk2 : GK (∃ r ∈ rs, r.1 = ·) 6 false k := GK.imp recNames hk
  refine use_small (.inl rfl) ((GK.mono hk2 (by decide)).sm hr.kz (by decide)) fun b => ?_
  have h0 := hr.ne
  have e0 : rs[0]? = some (rs[0]'(by omega)) := List.getElem?_eq_getElem _
  generalize rs[0]'(by omega) = r0 at e0
  cases b
  · lcg_off
    refine r_ixT (d := recD r0) (atI_nat (j := 0) (by rw [List.getElem?_map, e0]; rfl)) ?_
    unfold recD
    lcg_off
    exact ⟨put m st s2.D, by one_item, q (.rcd r0.1) s2 (.rcd _ _ (hr.pl _ (List.mem_of_getElem? e0)) ⟨r0, List.mem_of_getElem? e0, rfl⟩) o2⟩
  · lcg_off
    exact ⟨put m st s2.D, by one_item, q k s2 hk2 o2⟩
theorem use_small_kind {st : Addr} {ns : List Int} {a b c d : Int} {m : M} {P : DK} {rs : Recs} (h : m st = some (.lst [.int a, .int b, .int c, .int d])) (o : S4.Ok ⟨a, b, c, d⟩) (hr : RecsOk rs) (q : ∀ k s', GK (∃ r ∈ rs, r.1 = ·) 6 false k → S4.Ok s' → P (Kd.D k) (put m st s'.D)) :
    sp_law_small_kind [.ref st, .rol (List.map D.int ns), .tup (rs.map recD)] m P noX := ⟨st, ns, ⟨a, b, c, d⟩, rs, rfl, h, o, hr, q⟩
local macro_rules | `(tactic| lcg_sub) => `(tactic| ((with_reducible refine' use_small_kind ?h1 ?h2 ?h3 ?h4); (case h1 => lcg_src); (case h2 => first | assumption | exact S4.Ok.d (by assumption) _); (case h3 => assumption); intro _ _ _ _; try simp only [put_put]))

abbrev Tab := List (Str × Kd)
abbrev tabK (T : Tab) : List (Key × D) := T.map fun t => (.inr t.1, t.2.D)
structure TabOk (rs : Recs) (T : Tab) : Prop where
  nd : (T.map (·.1)).Nodup
  pl : ∀ t ∈ T, Pl t.1 30
  ok : ∀ t ∈ T, KOk rs t.2
theorem tab_keys {T : Tab} : (tabK T).map (fun q => kD q.1) = (T.map (·.1)).map D.str := by
  rw [List.map_map, List.map_map]; rfl
theorem tab_put {T : Tab} {z : Str} {k : Kd} (h : z ∉ T.map (·.1)) : putD (tabK T) (.inr z) k.D = tabK (T ++ [(z, k)]) := by
  unfold putD
  rw [if_neg]
  · simp only [tabK, List.map_append, List.map_cons, List.map_nil]
  · rw [List.any_eq_true]
    rintro ⟨p, hp, e⟩
    obtain ⟨t, ht, rfl⟩ := List.mem_map.mp hp
    have : (Sum.inr t.1 : Key) = .inr z := of_decide_eq_true e
    cases this
    exact h (List.mem_map.mpr ⟨t, ht, rfl⟩)
theorem tab_val {T : Tab} (hn : (T.map (·.1)).Nodup) {t : Str × Kd} (h : t ∈ T) : valD (tabK T) (.inr t.1) = some t.2.D := by
  obtain ⟨i, hi, e⟩ := List.mem_iff_getElem.mp h
  have h1 : T[i]? = some t := by rw [List.getElem?_eq_getElem hi, e]
  have hf := find_of hn h1
  unfold valD
  have e2 : (tabK T).find? (fun p => decide (p.1 = .inr t.1)) = (T.find? fun f => decide (f.1 = t.1)).map fun t => (.inr t.1, t.2.D) := by
    rw [List.find?_map]
    congr 1
    refine congrFun (congrArg _ (funext fun x => ?_)) _
    simp only [Function.comp]
    exact decide_eq_decide.mpr ⟨fun e => Sum.inr.inj e, fun e => by rw [e]⟩
  rw [e2, hf]
  rfl
def sp_law_table : DSp := fun ds m P _ => ∃ st ns s rs, ds = [.ref st, .rol (List.map D.int ns), .tup (rs.map recD)] ∧ m st = some (S4.D s) ∧ s.Ok ∧ RecsOk rs ∧
  ∀ T s' p, TabOk rs T → 1 ≤ T.length → T.length ≤ 4 → S4.Ok s' → p ≠ st → m p = none → P (.ref p) (put (put m st s'.D) p (.dct (tabK T)))
theorem rd_table : ∀ ds m P EX, sp_law_table ds m P EX → Go P (b_law_table sp_law_new sp_law_name sp_law_small_kind sp_law_pick) (dstart ["state", "script", "rows", "table", "k", "name"] ds) m := by
  rintro ds m P EX ⟨st, ns, s, rs, rfl, hs, ho, hr, q⟩
  show b_law_table sp_law_new sp_law_name sp_law_small_kind sp_law_pick { nx := fun _ m' => Ret P .non m', rt := Ret P } [some (.ref st), some (.rol (List.map D.int ns)), some (.tup (rs.map recD)), none, none, none] m
  unfold b_law_table
  lcg_off
  rename_i p hp
  have hps : p ≠ st := (neA hs hp).symm
  refine s_seq ?_
  lcg_off
  rename_i t s1 t0 t1 o1 d1
  refine ⟨⟨by omega, by omega⟩, fun i sd m' => ∃ (T : Tab) (s' : S4) (a b : Option D), sd = [some (.ref st), some (.rol (List.map D.int ns)), some (.tup (rs.map recD)), some (.ref p), a, b] ∧ m' = put (put m st s'.D) p (.dct (tabK T)) ∧ s'.Ok ∧ T.length = i ∧ TabOk rs T,
    ⟨[], s1, _, _, rfl, by rw [put_comm hps]; rfl, o1, rfl, ⟨.nil, by simp, by simp⟩⟩, ?_, ?_⟩
  · rintro i _ _ hi ⟨T, s2, a, b, rfl, rfl, o2, hl, ht⟩
    lcg_off
    refine r_listK (by lcg_src) fun l hl0 => ?_
    rw [tab_keys]
    simp only [put_none] at hl0
    obtain ⟨n1, n2, n3⟩ := hl0
    have hT : (T.map (·.1)).length ≤ 99 := by rw [List.length_map]; omega
    lcg_off
    rename_i z0 s3 hz0 o3 d3 z hz hzn k s4 hk6 o4
    have hk : KOk rs k := hk6.mono (by decide)
    have hlen : (tabK T).length < sizeLine := by have := PySem.sizeLine_eq; rw [List.length_map]; omega
    refine r_dput (by lcg_src) hlen ?_
    rw [tab_put hzn]
    refine ⟨put (put m st s4.D) p (.dct (tabK (T ++ [(z, k)]))), ?_, T ++ [(z, k)], s4, _, _, rfl, rfl, o4, by simp [hl], ?_⟩
    · one_item
    · refine ⟨?_, ?_, ?_⟩
      · rw [List.map_append, List.nodup_append]
        exact ⟨ht.nd, by simp, fun a ha b hb => by
          have hb : b = z := by simpa using hb
          rw [hb]; rintro rfl; exact hzn ha⟩
      · intro t h
        rcases List.mem_append.mp h with h | h
        · exact ht.pl t h
        · rw [List.mem_singleton.mp h]; exact hz
      · intro t h
        rcases List.mem_append.mp h with h | h
        · exact ht.ok t h
        · rw [List.mem_singleton.mp h]; exact hk
  · rintro _ _ ⟨T, s2, a, b, rfl, rfl, o2, hl, ht⟩
    lcg_off
    exact ⟨_, Less.refl _, q T s2 p ht (by omega) (by omega) o2 hps hp⟩
theorem use_table {st : Addr} {ns : List Int} {a b c d : Int} {m : M} {P : DK} {rs : Recs} (h : m st = some (.lst [.int a, .int b, .int c, .int d])) (o : S4.Ok ⟨a, b, c, d⟩) (hr : RecsOk rs) (q : ∀ T s' p, TabOk rs T → 1 ≤ T.length → T.length ≤ 4 → S4.Ok s' → p ≠ st → m p = none → P (.ref p) (put (put m st s'.D) p (.dct (tabK T)))) :
    sp_law_table [.ref st, .rol (List.map D.int ns), .tup (rs.map recD)] m P noX := ⟨st, ns, ⟨a, b, c, d⟩, rs, rfl, h, o, hr, q⟩
local macro_rules | `(tactic| lcg_sub) => `(tactic| ((with_reducible refine' use_table ?h1 ?h2 ?h3 ?h4); (case h1 => lcg_src); (case h2 => first | assumption | exact S4.Ok.d (by assumption) _); (case h3 => assumption); intro _ _ _ _ _ _ _ _ _; try simp only [put_put]))
/-- a drawn walk -/
def sp_law_walk : DSp := fun ds m P _ => ∃ st ns s rs v k, ds = [.ref st, .rol (List.map D.int ns), .tup (rs.map recD), v, Kd.D k] ∧ m st = some (S4.D s) ∧ s.Ok ∧ RecsOk rs ∧ KOk rs k ∧
  ∀ sts ks k' s', Way rs k sts ks → ks[sts.length]? = some k' → sts.length ≤ 12 → S4.Ok s' → P (.tup [.tup [v, .tup sts], Kd.D k']) (put m st s'.D)
theorem rd_walk : ∀ ds m P EX, sp_law_walk ds m P EX → Go P (b_law_walk sp_law_options sp_law_pick) (dstart ["state", "script", "rows", "name", "kind", "steps", "k", "options", "chosen"] ds) m := by
  rintro ds m P EX ⟨st, ns, s, rs, v, k, rfl, hs, ho, hr, hk, q⟩
  show b_law_walk sp_law_options sp_law_pick { nx := fun _ m' => Ret P .non m', rt := Ret P } [some (.ref st), some (.rol (List.map D.int ns)), some (.tup (rs.map recD)), some v, some k.D, none, none, none, none] m
  unfold b_law_walk
  lcg_off
  rename_i p hp
  have hps : p ≠ st := (neA hs hp).symm
  refine s_cut (fun sd m' => ∃ sts ks k' s' a b c, sd = [some (.ref st), some (.rol (List.map D.int ns)), some (.tup (rs.map recD)), some v, some k'.D, some (.ref p), a, b, c] ∧ m' = put (put m st (S4.D s')) p (.lst sts) ∧ S4.Ok s' ∧ Way rs k sts ks ∧ ks[sts.length]? = some k' ∧ sts.length ≤ 12) ?_ ?_
  · lcg_off
    rename_i t s1 t0 t1 o1 d1
    refine ⟨⟨by omega, by omega⟩, fun i sd m' => ∃ sts ks k' s' a b c, sd = [some (.ref st), some (.rol (List.map D.int ns)), some (.tup (rs.map recD)), some v, some (Kd.D k'), some (.ref p), a, b, c] ∧ m' = put (put m st (S4.D s')) p (.lst sts) ∧ S4.Ok s' ∧ Way rs k sts ks ∧ ks[sts.length]? = some k' ∧ sts.length = i,
      ⟨[], [k], k, s1, _, _, _, rfl, by rw [put_comm hps], o1, .nil k, rfl, rfl⟩, ?_, ?_⟩
    · rintro i _ _ hi ⟨sts, ks, k', s2, a, b, c, rfl, rfl, o2, w, hk', hl⟩
      have hkk : KOk rs k' := hk.way hr w k' (List.mem_of_getElem? hk')
      have hol := hkk.opts hr
      lcg_off
      refine use_options (.inl rfl) (by omega) fun l hl0 => ?_
      simp only [put_none] at hl0
      obtain ⟨n1, n2, n3⟩ := hl0
      have hL : ((opts rs k').map optD).length = (opts rs k').length := List.length_map ..
      top_strB
      · refine ⟨put (put m st s2.D) p (.lst sts), by one_item, sts, ks, k', s2, _, _, _, rfl, rfl, o2, w, hk', by omega⟩
      · rename_i r s3 r0 r1 o3 d3
        obtain ⟨rn, rfl⟩ : ∃ n : Nat, r = n := ⟨r.toNat, by omega⟩
        have e0 : (opts rs k')[rn]? = some ((opts rs k')[rn]'(by omega)) := List.getElem?_eq_getElem _
        generalize (opts rs k')[rn]'(by omega) = o at e0
        refine r_ixL (d := optD o) (by lcg_src) (atI_nat (by rw [List.getElem?_map, e0]; rfl)) ?_
        unfold optD
        lcg_off
        have hs2 := opts_stp hr e0
        refine ⟨put (put m st s3.D) p (.lst (sts ++ [o.1])), by one_item, sts ++ [o.1], ks ++ [o.2], o.2, s3, _, _, _, rfl, rfl, o3, w.snoc hk' hs2, ?_, by simp [hl]⟩
        have := w.len
        rw [List.length_append, List.getElem?_append_right (by simp; omega), List.length_singleton, this, Nat.sub_self]
        rfl
    · rintro _ _ ⟨sts, ks, k', s2, a, b, c, rfl, rfl, o2, w, hk', hl⟩
      exact ⟨_, Less.refl _, sts, ks, k', s2, a, b, c, rfl, rfl, o2, w, hk', by omega⟩
  · rintro _ _ ⟨sts, ks, k', s2, a, b, c, rfl, rfl, o2, w, hk', hl⟩
    lcg_off
    exact ⟨put m st s2.D, by one_item, q sts ks k' s2 w hk' hl o2⟩
theorem use_walk {st : Addr} {ns : List Int} {a b c d : Int} {m : M} {P : DK} {rs : Recs} {v : D} {k : Kd} (h : m st = some (.lst [.int a, .int b, .int c, .int d])) (o : S4.Ok ⟨a, b, c, d⟩) (hr : RecsOk rs) (hk : KOk rs k)
    (q : ∀ sts ks k' s', Way rs k sts ks → ks[sts.length]? = some k' → sts.length ≤ 12 → S4.Ok s' → P (.tup [.tup [v, .tup sts], Kd.D k']) (put m st s'.D)) :
    sp_law_walk [.ref st, .rol (List.map D.int ns), .tup (rs.map recD), v, Kd.D k] m P noX := ⟨st, ns, ⟨a, b, c, d⟩, rs, v, k, rfl, h, o, hr, hk, q⟩
local macro_rules | `(tactic| lcg_sub) => `(tactic| ((with_reducible refine' use_walk ?h1 ?h2 ?h3 ?h4 ?h5); (case h1 => lcg_src); (case h2 => first | assumption | exact S4.Ok.d (by assumption) _); (case h3 => assumption); (case h4 => assumption); intro _ _ _ _ _ _ _ _; try simp only [put_put]))

/-- data without addresses: ints, texts, tuples, at most n levels -/
inductive PD : Nat → D → Prop where
  | int (n i) : PD (n + 1) (.int i)
  | str (n z) : PD (n + 1) (.str z)
  | tup {n xs} : xs.length ≤ 100000 → (∀ x ∈ xs, PD n x) → PD (n + 1) (.tup xs)
def sp_same (n : Nat) : DSp := fun ds m P _ => ∃ d, PD n d ∧ ds = [d, d] ∧ P (.bl true) m
theorem use_same {n : Nat} {d : D} {m : M} {P : DK} (h : PD n d) (q : P (.bl true) m) : sp_same n [d, d] m P noX := ⟨d, h, rfl, q⟩
theorem rd_law_same (n : Nat) : ∀ ds m P EX, sp_same (n + 1) ds m P EX → Go P (b_law_same (sp_same n)) (dstart ["actual", "due", "k"] ds) m := by
  rintro ds m P EX ⟨d, hd, rfl, q⟩
  show b_law_same (sp_same n) { nx := fun _ m' => Ret P .non m', rt := Ret P } [some d, some d, none] m
  unfold b_law_same
  cases hd with
  | int _ i =>
    top_strB
    rw [decide_eq_true rfl]
    exact ⟨_, Less.refl _, q⟩
  | str _ z =>
    top_strB
    rw [decide_eq_true rfl]
    exact ⟨_, Less.refl _, q⟩
  | tup hl hx =>
    rename_i xs
    top_strB
    · exact absurd rfl ‹_›
    · have en : (xs.length : Int).toNat = xs.length := by omega
      rw [en]
      refine ⟨⟨by omega, by omega⟩, fun i sd m' => m' = m ∧ ∃ kk, sd = [some (.tup xs), some (.tup xs), kk], ⟨rfl, _, rfl⟩, ?_, ?_⟩
      · rintro i _ m2 hi ⟨hm2, kk, rfl⟩
        subst hm2
        have hxi : xs[i]? = some xs[i] := List.getElem?_eq_getElem hi
        have hm : xs[i] ∈ xs := List.getElem_mem hi
        generalize xs[i] = x at hxi hm
        lcg_off
        refine use_same (hx x hm) ?_
        lcg_off
        exact ⟨_, Less.refl _, rfl, _, rfl⟩
      · rintro _ m2 ⟨hm2, kk, rfl⟩
        subst hm2
        lcg_off
        exact ⟨_, Less.refl _, q⟩
theorem rec_law_same {P : Program} {w : World} {K : PySem.W.Frag} {mg : Str → Option Value} (F : FunAt K mg "_law_same" s_law_same ["actual", "due"]) (z1 : mg "isinstance" = none) (z2 : mg "tuple" = none) (z3 : mg "len" = none) (z4 : mg "range" = none) (z5 : mg "bool" = none) (z6 : mg "int" = none) (z7 : mg "str" = none) :
    ∀ n : Nat, Callee P w K mg n "_law_same" ["actual", "due"] (sp_same n)
  | 0 => F.none fun ds m P EX h => by obtain ⟨k, h, _⟩ := h; cases h
  | n + 1 => ok_law_same F (rec_law_same F z1 z2 z3 z4 z5 z6 z7 n) (by assumption) (by assumption) (by assumption) (by assumption) (by assumption) (by assumption) (by assumption) (by rintro ds m P EX ⟨_, _, rfl, _⟩; rfl) (rd_law_same n)

theorem PD.mono : ∀ {n k : Nat} {d : D}, PD n d → n ≤ k → PD k d
  | _, k + 1, _, .int n i, _ => .int k i
  | _, k + 1, _, .str n z, _ => .str k z
  | _, k + 1, _, .tup h h2, e => .tup h fun x hx => (h2 x hx).mono (Nat.le_of_succ_le_succ e)
  | _ + 1, 0, _, _, e => absurd e (by omega)
theorem pdTwo {n : Nat} {x y : D} (h : PD n x) (h2 : PD n y) : PD (n + 1) (.tup [x, y]) := .tup (Nat.le_of_ble_eq_true rfl) fun z hz => by
  rcases List.mem_cons.mp hz with rfl | hz
  · exact h
  · rw [List.mem_singleton] at hz; subst hz; exact h2
theorem pdOne {n : Nat} {x : D} (h : PD n x) : PD (n + 1) (.tup [x]) := .tup (Nat.le_of_ble_eq_true rfl) fun z hz => by
  rw [List.mem_singleton] at hz; subst hz; exact h
theorem WK.pdk : ∀ {n : Nat} {k : Kd}, WK n k → PD (2 * n) k.D
  | _, _, .int n => by unfold Kd.D; exact (pdOne (.str 0 _)).mono (by omega)
  | _, _, .bool n => by unfold Kd.D; exact (pdOne (.str 0 _)).mono (by omega)
  | _, _, .unit n => by unfold Kd.D; exact (pdOne (.str 0 _)).mono (by omega)
  | n + 1, _, .box h => by unfold Kd.D; exact (pdTwo ((PD.str (2 * n) _)) (h.pdk.mono (by omega))).mono (by omega)
  | n + 1, _, .maybe h => by unfold Kd.D; exact (pdTwo ((PD.str (2 * n) _)) (h.pdk.mono (by omega))).mono (by omega)
  | n + 1, _, .shared h => by unfold Kd.D; exact (pdTwo ((PD.str (2 * n) _)) (h.pdk.mono (by omega))).mono (by omega)
  | n + 1, _, .excl h => by unfold Kd.D; exact (pdTwo ((PD.str (2 * n) _)) (h.pdk.mono (by omega))).mono (by omega)
  | _, _, .rcd n h => by unfold Kd.D; exact (pdTwo (.str 0 _) (.str 0 _)).mono (by omega)
  | n + 1, _, .tup (ks := ks) h1 h2 h => by
    rw [Kd.D_tup]
    refine (pdTwo (n := 2 * n + 1) (.str _ _) (.tup (by rw [List.length_map]; omega) fun x hx => ?_)).mono (by omega)
    obtain ⟨k, hk, rfl⟩ := List.mem_map.mp hx
    exact (h k hk).pdk

theorem shStr {z : Str} {n : Nat} (h : Pl z n) : ShD 0 (.str z) := ⟨by
  show PyData.strOk z = true
  unfold PyData.strOk
  rw [Array.all_eq_true_iff_forall_mem]
  intro c hc
  have := h.c c (Array.mem_toList_iff.mpr hc)
  exact decide_eq_true (by omega), Nat.zero_le _⟩
theorem shLit (z : Str) (h : plB z 100 = true) : ShD 0 (.str z) := shStr (pl_of h)
theorem shPair {n : Nat} {x y : D} (h : ShD n x) (h2 : ShD n y) : ShD (n + 1) (.tup [x, y]) := .tup fun z hz => by
  rcases List.mem_cons.mp hz with rfl | hz
  · exact h
  · rw [List.mem_singleton] at hz; subst hz; exact h2
theorem shOne {n : Nat} {x : D} (h : ShD n x) : ShD (n + 1) (.tup [x]) := .tup fun z hz => by
  rw [List.mem_singleton] at hz; subst hz; exact h
theorem WK.sh : ∀ {n : Nat} {k : Kd}, WK n k → ShD (2 * n) k.D
  | _, _, .int n => by unfold Kd.D; exact (shOne (shLit _ (by decide +kernel))).mono (by omega)
  | _, _, .bool n => by unfold Kd.D; exact (shOne (shLit _ (by decide +kernel))).mono (by omega)
  | _, _, .unit n => by unfold Kd.D; exact (shOne (shLit _ (by decide +kernel))).mono (by omega)
  | n + 1, _, .box h => by unfold Kd.D; exact (shPair ((shLit _ (by decide +kernel)).mono (Nat.zero_le (2 * n))) h.sh).mono (by omega)
  | n + 1, _, .maybe h => by unfold Kd.D; exact (shPair ((shLit _ (by decide +kernel)).mono (Nat.zero_le (2 * n))) h.sh).mono (by omega)
  | n + 1, _, .shared h => by unfold Kd.D; exact (shPair ((shLit _ (by decide +kernel)).mono (Nat.zero_le (2 * n))) h.sh).mono (by omega)
  | n + 1, _, .excl h => by unfold Kd.D; exact (shPair ((shLit _ (by decide +kernel)).mono (Nat.zero_le (2 * n))) h.sh).mono (by omega)
  | _, _, .rcd n h => by unfold Kd.D; exact (shPair (shLit _ (by decide +kernel)) (shStr h)).mono (by omega)
  | n + 1, _, .tup (ks := ks) h1 h2 h => by
    rw [Kd.D_tup]
    refine (shPair (n := 2 * n + 1) ((shLit _ (by decide +kernel)).mono (Nat.zero_le _)) (.tup fun x hx => ?_)).mono (by omega)
    obtain ⟨k, hk, rfl⟩ := List.mem_map.mp hx
    exact (h k hk).sh

theorem s_callX {ex : DX} {d : DSp} {t : TDA} {sd : DS} {m : M} {P : DK} (h : t sd m fun xs m1 => d xs m1 P (ex sd)) : dCallX ex d t sd m P := h
theorem s_callKX {ex : DX} {d : DSp} {na nb : Nat} {t tk : TDA} {sd : DS} {m : M} {P : DK} (h : t sd m fun xs m1 => tk sd m1 fun ys m2 => xs.length = na ∧ ys.length = nb ∧ d (xs ++ ys) m2 P (ex sd)) : dCallKX ex d na nb t tk sd m P := h
local macro_rules | `(tactic| lcg_sub) => `(tactic| first | with_reducible refine s_callX ?_ | with_reducible refine s_callKX ?_)
theorem Stp.det {rs : Recs} {k a b : Kd} {st : D} (h : Stp rs k st a) (h' : Stp rs k st b) : a = b := by
  cases h with
  | tup e => cases h' with | tup e' => exact Option.some.inj (e.symm.trans e')
  | fld e => cases h' with | fld e' => rw [Option.some.inj (e.symm.trans e')]
  | maybe => cases h'; rfl
  | box => cases h'; rfl
  | shared => cases h'; rfl
  | excl => cases h'; rfl
theorem Way.det {rs : Recs} : ∀ {k : Kd} {sts : List D} {ks ks' : List Kd}, Way rs k sts ks → Way rs k sts ks' → ks = ks'
  | _, _, _, _, .nil _, .nil _ => rfl
  | _, _, _, _, .cons s w, .cons s' w' => by
    have := s.det s'
    subst this
    rw [w.det w']
theorem Way.take {rs : Recs} : ∀ {k : Kd} {sts : List D} {ks : List Kd}, Way rs k sts ks → ∀ n, Way rs k (sts.take n) (ks.take (n + 1))
  | _, _, _, .nil _, n => by rw [List.take_nil, List.take_of_length_le (by simp)]; exact .nil _
  | _, _, _, .cons s w, 0 => by rw [List.take_zero, List.take_succ_cons, List.take_zero]; exact .nil _
  | _, _, _, .cons s w, n + 1 => by rw [List.take_succ_cons, List.take_succ_cons]; exact .cons s (w.take n)
/-- a way up to a step that does not fit is no way -/
theorem no_way {rs : Recs} {k k1 : Kd} {sts : List D} {ks ks' : List Kd} {i : Nat} {st : D} (w : Way rs k (sts.take i) ks) (h1 : ks[i]? = some k1) (hs : sts[i]? = some st) (hn : ∀ k', ¬ Stp rs k1 st k') : ¬ Way rs k sts ks' := fun w' => by
  obtain ⟨a, b, h2, _, h4⟩ := w'.at hs
  have e := w.det (w'.take i)
  rw [e, List.getElem?_take, if_pos (by omega), h2] at h1
  cases h1
  exact hn b h4
theorem lessBoth {m m' : M} {p : Addr} {o : DO} (h : Less m m') : Less (put m p o) (put m' p o) := fun b u hb => by
  by_cases n : b = p
  · subst n; rw [put_same] at hb ⊢; exact hb
  · rw [put_ne n] at hb ⊢; exact h _ _ hb
theorem lessNone {m m' : M} {p : Addr} (h : Less m m') (hp : m' p = none) : m p = none := by
  cases e : m p with
  | none => rfl
  | some o => rw [h _ _ e] at hp; cases hp
theorem raise_var {ex : DX} {C : Addr} {z : Str} {i : Nat} {DD : DEnds} {sd : DS} {m : M} (hz : z.length ≤ 1000) (h : sd[i]? = some (some (.str z))) (q : ex sd (.ref C) none m) : dRaise ex C (dCons (dJoin [dC (.str "there is no variable "), dFmt (dVar i)]) dNil) DD sd m := by
  have hs := PySem.sizeLine_eq
  have l0 : (Str.empty ++ ("there is no variable " : Str)).length ≤ 30 := by decide +kernel
  refine ⟨_, rfl, Nat.le_trans l0 (by omega), .str z, h, .inl ⟨z, rfl, by omega, _, rfl, ?_, ?_⟩⟩
  · rw [len_app]; omega
  · exact ⟨by rw [List.length_singleton]; omega, q⟩
/-! ### kinds_along, kind_at with their errors -/
def sp_along6 (xv xs : Addr) : DSp := fun ds m P EX => ∃ (rs : Recs) (v : Str) (sts : List D) (a : Addr) (kvs : List (Key × D)), ds = [.tup [.str v, .tup sts], .tup (rs.map recD), .ref a] ∧ m a = some (.dct kvs) ∧ v.length ≤ 1000 ∧ sts.length ≤ 1000 ∧ (∀ st ∈ sts, StepS st) ∧
  ((valD kvs (.inr v) = none ∧ ∀ m', Less m m' → EX (.ref xv) none m') ∨ ∃ k, valD kvs (.inr v) = some (Kd.D k) ∧ (∀ ks, Way rs k sts ks → ∀ p, m p = none → P (.ref p) (put m p (.lst (ks.map Kd.D)))) ∧ ((∀ ks, ¬ Way rs k sts ks) → ∀ m', Less m m' → EX (.ref xs) none m'))
theorem rd_along6 (xv xs : Addr) : ∀ ds m P EX, sp_along6 xv xs ds m P EX → Go P (b_kinds_along xv (outX EX) (sp_kafter xs)) (dstart ["place", "records", "kinds", "passed", "step", "variable", "steps"] ds) m := by
  rintro ds m P EX ⟨rs, v, sts, a, kvs, rfl, hm, hvl, hl, hst, hc⟩
  show b_kinds_along xv (outX EX) (sp_kafter xs) { nx := fun _ m' => Ret P .non m', rt := Ret P } [some (.tup [.str v, .tup sts]), some (.tup (rs.map recD)), some (.ref a), none, none, none, none] m
  unfold b_kinds_along
  lcg_off
  refine s_seq ?_
  lcg_off
  rcases hc with ⟨hv, h0⟩ | ⟨k, hv, hy, hx⟩
  · rw [hv, Option.isSome_none]
    rw [if_pos (show (!false) = true from rfl)]
    exact raise_var hvl rfl (h0 _ (Less.refl _))
  rw [hv, Option.isSome_some]
  top_strB
  rename_i p hp
  have hap : a ≠ p := neA hm hp
  refine ⟨fun i sd m' => (∃ x, sd = [some (.tup [.str v, .tup sts]), some (.tup (rs.map recD)), some (.ref a), some (.ref p), x, some (.str v), some (.tup sts)]) ∧ ∃ ks, Way rs k (sts.take i) ks ∧ m' = put m p (.lst (ks.map Kd.D)), ⟨⟨_, rfl⟩, [k], .nil k, rfl⟩, ?_, ?_⟩
  · rintro i st _ _ hi ⟨⟨x, rfl⟩, ks, w, rfl⟩
    have hil := (List.getElem?_eq_some_iff.mp hi).1
    have hkl : ks.length = i + 1 := by rw [w.len, List.length_take]; omega
    have hlen : (ks.map Kd.D).length = i + 1 := by rw [List.length_map]; exact hkl
    have hk1 : ks[i]? = some (ks[i]'(by omega)) := List.getElem?_eq_getElem _
    generalize ks[i]'(by omega) = k1 at hk1
    have hat : atI (ks.map Kd.D) (-1) = some k1.D := by
      unfold atI ixN
      rw [hlen, if_neg (by decide), if_pos (by omega)]
      have e : ((-1 : Int) + ((i + 1 : Nat) : Int)).toNat = i := by omega
      rw [e]
      show (ks.map Kd.D)[i]? = _
      rw [List.getElem?_map, hk1]
      rfl
    lcg_off
    refine ⟨rs, k1, st, rfl, hst st (List.mem_of_getElem? hi), fun k' hk' => ?_, fun hn => hx (fun ks' => no_way w hk1 hi hn) _ (Less.new hp)⟩
    lcg_off
    refine ⟨_, Less.refl _, ⟨_, rfl⟩, ks ++ [k'], ?_, ?_⟩
    · rw [List.take_add_one, hi]
      exact w.snoc (by rw [List.length_take, Nat.min_eq_left (by omega)]; exact hk1) hk'
    · rw [List.map_append]; rfl
  · rintro _ _ ⟨⟨x, rfl⟩, ks, w, rfl⟩
    rw [List.take_length] at w
    lcg_off
    exact ⟨_, Less.refl _, hy ks w p hp⟩
def sp_at6 (xv xs : Addr) : DSp := fun ds m P EX => ∃ (rs : Recs) (v : Str) (sts : List D) (a : Addr) (kvs : List (Key × D)), ds = [.tup [.str v, .tup sts], .tup (rs.map recD), .ref a] ∧ m a = some (.dct kvs) ∧ v.length ≤ 1000 ∧ sts.length ≤ 1000 ∧ (∀ st ∈ sts, StepS st) ∧
  ((valD kvs (.inr v) = none ∧ ∀ m', Less m m' → EX (.ref xv) none m') ∨ ∃ k, valD kvs (.inr v) = some (Kd.D k) ∧ (∀ ks k', Way rs k sts ks → ks[sts.length]? = some k' → P (Kd.D k') m) ∧ ((∀ ks, ¬ Way rs k sts ks) → ∀ m', Less m m' → EX (.ref xs) none m'))
theorem rd_at6 (xv xs : Addr) : ∀ ds m P EX, sp_at6 xv xs ds m P EX → Go P (b_kind_at (outX EX) (sp_along6 xv xs)) (dstart ["place", "records", "kinds"] ds) m := by
  rintro ds m P EX ⟨rs, v, sts, a, kvs, rfl, hm, hvl, hl, hst, hc⟩
  show b_kind_at (outX EX) (sp_along6 xv xs) { nx := fun _ m' => Ret P .non m', rt := Ret P } [some (.tup [.str v, .tup sts]), some (.tup (rs.map recD)), some (.ref a)] m
  unfold b_kind_at
  lcg_off
  refine ⟨rs, v, sts, a, kvs, rfl, hm, hvl, hl, hst, ?_⟩
  rcases hc with hc | ⟨k, hv, hy, hx⟩
  · exact .inl hc
  refine .inr ⟨k, hv, fun ks w p hp => ?_, hx⟩
  have hkl := w.len
  have hk1 : ks[sts.length]? = some (ks[sts.length]'(by omega)) := List.getElem?_eq_getElem _
  generalize ks[sts.length]'(by omega) = k1 at hk1
  have hat : atI (ks.map Kd.D) (-1) = some k1.D := by
    unfold atI ixN
    rw [List.length_map, if_neg (by decide), if_pos (by omega)]
    have e : ((-1 : Int) + (ks.length : Int)).toNat = sts.length := by omega
    rw [e]
    show (ks.map Kd.D)[sts.length]? = _
    rw [List.getElem?_map, hk1]
    rfl
  lcg_off
  exact ⟨_, Less.new hp, hy ks k1 w hk1⟩
/-! ### _law_told -/
def sp_told : DSp := fun ds m P _ => ∃ (rs : Recs) (v : Str) (sts : List D) (a : Addr) (kvs : List (Key × D)), ds = [.tup [.str v, .tup sts], .tup (rs.map recD), .ref a] ∧ m a = some (.dct kvs) ∧ v.length ≤ 1000 ∧ sts.length ≤ 1000 ∧ (∀ st ∈ sts, StepS st) ∧
  ((valD kvs (.inr v) = none ∧ ∀ p, m p = none → P (.ref p) (put m p (.lst [.str "variable", .bl true]))) ∨ ∃ k, valD kvs (.inr v) = some (Kd.D k) ∧ (∀ ks k', Way rs k sts ks → ks[sts.length]? = some k' → P (Kd.D k') m) ∧ ((∀ ks, ¬ Way rs k sts ks) → ∀ p, m p = none → P (.ref p) (put m p (.lst [.str "step", .bl true]))))
theorem s_try2 {E1 E2 : Addr} {i : Nat} {b : DX → TDS} {s1 s2 : Addr → TDS} {DD : DEnds} {sd : DS} {m : M} (h : b (fun sd' cls fo m' => fo = none ∧ ((cls = .ref E1 ∧ ∀ a, m' a = none → s1 a (DD.off i) (sd'.set i (some (.ref a))) m') ∨ (cls = .ref E2 ∧ ∀ a, m' a = none → s2 a (DD.off i) (sd'.set i (some (.ref a))) m'))) DD sd m) : dTry2 E1 E2 i b s1 s2 DD sd m := h
theorem r_isX1 {a : Addr} {isa : D → Option Bool} {c : D} {b : Bool} {m : M} {P : DK} (h : isa c = some b) (q : P (.bl b) m) : rIsX a isa [.ref a, c] m P := .inl ⟨c, b, rfl, h, q⟩
theorem r_isX6 {a : Addr} {isa : D → Option Bool} {c1 c2 c3 c4 c5 c6 : D} {m : M} {P : DK} (h1 : isa c1 = some false) (h2 : isa c2 = some false) (h3 : isa c3 = some false) (h4 : isa c4 = some false) (h5 : isa c5 = some false) (h6 : isa c6 = some false) (q : P (.bl false) m) : rIsX a isa [.ref a, .tup [c1, c2, c3, c4, c5, c6]] m P :=
  .inr ⟨_, false, rfl, by simp [isaAny, h1, h2, h3, h4, h5, h6], q⟩
theorem rd_told {xv xs x3 x4 x5 x6 x7 x8 : Addr} {i1 i2 : D → Option Bool} (a1 : i1 (.ref x7) = some false) (a2 : i1 (.ref x6) = some false) (a3 : i1 (.ref xs) = some false) (a4 : i1 (.ref x5) = some false) (a5 : i1 (.ref x4) = some false) (a6 : i1 (.ref x3) = some false) (a7 : i1 (.ref x8) = some true) (a8 : i1 (.ty "ValueError") = some true)
    (b1 : i2 (.ref x7) = some false) (b2 : i2 (.ref x6) = some false) (b3 : i2 (.ref xv) = some false) (b4 : i2 (.ref x5) = some false) (b5 : i2 (.ref x4) = some false) (b6 : i2 (.ref x3) = some false) (b7 : i2 (.ref x8) = some true) (b8 : i2 (.ty "ValueError") = some true) :
    ∀ ds m P EX, sp_told ds m P EX → Go P (b_law_told xv xs x3 x4 x5 x6 x7 x8 i1 i2 (sp_at6 xv xs)) (dstart ["place", "rows", "table", "others", "e"] ds) m := by
  rintro ds m P EX ⟨rs, v, sts, a, kvs, rfl, hm, hvl, hl, hst, hc⟩
  show b_law_told xv xs x3 x4 x5 x6 x7 x8 i1 i2 (sp_at6 xv xs) { nx := fun _ m' => Ret P .non m', rt := Ret P } [some (.tup [.str v, .tup sts]), some (.tup (rs.map recD)), some (.ref a), none, none] m
  unfold b_law_told
  refine s_try2 ?_
  lcg_off
  refine ⟨rfl, rfl, rs, v, sts, a, kvs, rfl, hm, hvl, hl, hst, ?_⟩
  rcases hc with ⟨hv, h0⟩ | ⟨k, hv, hy, hx⟩
  · refine .inl ⟨hv, fun m' hle => ⟨rfl, .inl ⟨rfl, fun e he => ?_⟩⟩⟩
    lcg_off
    refine r_isX6 a1 a2 a3 a4 a5 a6 ?_
    lcg_off
    refine r_isX1 a7 ?_
    lcg_off
    refine r_isX1 a8 ?_
    lcg_off
    rename_i p hp
    exact ⟨_, lessBoth hle, h0 p (lessNone hle hp)⟩
  · refine .inr ⟨k, hv, fun ks k' w hk' => ⟨_, Less.refl _, hy ks k' w hk'⟩, fun hn m' hle => ⟨rfl, .inr ⟨rfl, fun e he => ?_⟩⟩⟩
    lcg_off
    refine r_isX6 b1 b2 b3 b4 b5 b6 ?_
    lcg_off
    refine r_isX1 b7 ?_
    lcg_off
    refine r_isX1 b8 ?_
    lcg_off
    rename_i p hp
    exact ⟨_, lessBoth hle, hx hn p (lessNone hle hp)⟩

theorem atI_zero {x : D} {r : List D} : atI (x :: r) 0 = some x := by
  unfold atI ixN
  rw [if_pos (by decide), if_pos (by rw [List.length_cons]; omega)]
  rfl
theorem stepSLit {z : Str} (h : plB z 30 = true) : StepS (.str z) := .inr ⟨z, rfl, pl_of h⟩
theorem Stp.stepS {rs : Recs} (hr : RecsOk rs) {k k' : Kd} (hk : KOk rs k) {st : D} (h : Stp rs k st k') : StepS st := by
  cases h with
  | tup e =>
    have := (List.getElem?_eq_some_iff.mp e).1
    cases hk with | tup h1 h2 h3 => exact .inl ⟨_, rfl, by omega⟩
  | fld e =>
    rename_i n z f
    have h1 := List.find?_some e
    have h2 := List.mem_of_find?_eq_some e
    have e3 : f.1 = z := by simpa using h1
    rcases flds_cases (rs := rs) n with e2 | ⟨r, hr2, _, e2⟩
    · rw [e2] at h2; cases h2
    · rw [e2] at h2
      refine .inr ⟨z, rfl, ?_⟩
      rw [← e3]
      exact hr.fpl r hr2 f h2
  | maybe => exact stepSLit (by decide +kernel)
  | box => exact stepSLit (by decide +kernel)
  | shared => exact stepSLit (by decide +kernel)
  | excl => exact stepSLit (by decide +kernel)
theorem Stp.cls {rs : Recs} {k k' : Kd} {st : D} (h : Stp rs k st k') : (∃ i, st = .int i) ∨ ∃ z, st = .str z := by
  cases h
  case tup => exact .inl ⟨_, rfl⟩
  all_goals exact .inr ⟨_, rfl⟩
theorem Way.steps {rs : Recs} (hr : RecsOk rs) : ∀ {k : Kd} {sts : List D} {ks : List Kd}, KOk rs k → Way rs k sts ks → ∀ st ∈ sts, StepS st
  | _, _, _, _, .nil _, st, h => by cases h
  | _, _, _, hk, .cons s w, st, h => by
    rcases List.mem_cons.mp h with rfl | h
    · exact s.stepS hr hk
    · exact w.steps hr (hk.step hr s) st h
/-- [option[1] for option in options if option[0] == step], for any step -/
theorem cl_due {rs : Recs} {k : Kd} {x : D} {a : Addr} {i : Nat} {tt : TDT} {te : TDE} {vs : List Nat} {sd : DS} {m : M} {P : DK} (hr : RecsOk rs) (hl : (opts rs k).length ≤ 6) (ha : m a = some (.lst ((opts rs k).map optD)))
    (ht : ∀ o ∈ opts rs k, ∀ m' Q, (o.1 = x → Q true m') → (o.1 ≠ x → Q false m') → tt ((wipeD sd vs).set i (some (optD o))) m' Q)
    (hv : ∀ o m' Q, Q (Kd.D o.2) m' → te ((wipeD sd vs).set i (some (optD o))) m' Q)
    (q1 : (∀ k', ¬ Stp rs k x k') → ∀ p, m p = none → P (.ref p) (put m p (.lst [])))
    (q2 : ∀ k', Stp rs k x k' → ∀ qs p, m p = none → P (.ref p) (put m p (.lst (k'.D :: qs)))) : CL a ((opts rs k).map optD) (dName i) tt te vs sd m P := fun p hp => by
  have hap : a ≠ p := neA ha hp
  refine ⟨fun j acc m2 => m2 = m ∧ acc.length ≤ j ∧ ((acc = [] ∧ ∀ o ∈ (opts rs k).take j, o.1 ≠ x) ∨ ∃ k' qs, acc = Kd.D k' :: qs ∧ Stp rs k x k'), ⟨rfl, by simp, .inl ⟨rfl, by simp⟩⟩, ?_, ?_, ?_⟩
  · rintro j acc _ _ ⟨rfl, _⟩
    exact ha
  · rintro j y acc _ hy ⟨rfl, hal, h1⟩
    obtain ⟨o, hi, hm, rfl⟩ := getMap hy
    have hjl := (List.getElem?_eq_some_iff.mp hi).1
    show tt _ _ _
    refine ht o hm _ _ (fun e => ?_) fun e => ?_
    · rw [if_pos rfl]
      refine hv o _ _ ⟨_, Less.refl _, ?_, rfl, by simp; omega, ?_⟩
      · have := PySem.sizeLine_eq; omega
      · rcases h1 with ⟨rfl, _⟩ | ⟨k', qs, rfl, hs⟩
        · exact .inr ⟨o.2, [], rfl, by rw [← e]; exact opts_stp hr hi⟩
        · exact .inr ⟨k', _, rfl, hs⟩
    · rw [if_neg (by decide)]
      refine ⟨_, Less.refl _, rfl, by omega, ?_⟩
      rcases h1 with ⟨rfl, h⟩ | h
      · refine .inl ⟨rfl, fun o' ho => ?_⟩
        rw [List.take_add_one, hi] at ho
        rcases List.mem_append.mp ho with h2 | h2
        · exact h o' h2
        · simp at h2; subst h2; exact e
      · exact .inr h
  · rintro acc _ ⟨rfl, _, h⟩
    rw [List.length_map, List.take_length] at h
    rcases h with ⟨rfl, h⟩ | ⟨k', qs, rfl, hs⟩
    · refine q1 (fun k' hs => ?_) p hp
      obtain ⟨n, o, hn, rfl, _, _⟩ := stp_at hs
      exact h _ (List.mem_of_getElem? hn) rfl
    · exact q2 k' hs qs p hp

/-! ### _law_followed -/
def sp_followed : DSp := fun ds m P _ => ∃ rs k sts, ds = [.tup (rs.map recD), Kd.D k, .tup sts] ∧ RecsOk rs ∧ KOk rs k ∧ sts.length ≤ 1000 ∧ (∀ st ∈ sts, StepS st) ∧
  ((∀ ks, ¬ Way rs k sts ks) → ∀ p, m p = none → P (.ref p) (put m p (.lst [.str "step", .bl true]))) ∧ (∀ ks k', Way rs k sts ks → ks[sts.length]? = some k' → P (Kd.D k') m)
theorem rd_followed : ∀ ds m P EX, sp_followed ds m P EX → Go P (b_law_followed sp_law_options) (dstart ["rows", "kind", "steps", "step", "found", "option"] ds) m := by
  rintro ds m P EX ⟨rs, k, sts, rfl, hr, hk, hl, hst, hn, hy⟩
  show b_law_followed sp_law_options { nx := fun _ m' => Ret P .non m', rt := Ret P } [some (.tup (rs.map recD)), some k.D, some (.tup sts), none, none, none] m
  unfold b_law_followed
  refine s_seq ?_
  lcg_off
  refine ⟨fun i sd m' => (∃ k1 ks x y z, sd = [some (.tup (rs.map recD)), some (Kd.D k1), some (.tup sts), x, y, z] ∧ Way rs k (sts.take i) ks ∧ ks[i]? = some k1) ∧ Less m m', ⟨⟨k, [k], _, _, _, rfl, .nil k, rfl⟩, Less.refl _⟩, ?_, ?_⟩
  · rintro i st _ m2 hi ⟨⟨k1, ks, x, y, z, rfl, w, hk1⟩, hle⟩
    have hil := (List.getElem?_eq_some_iff.mp hi).1
    have hst1 := hst st (List.mem_of_getElem? hi)
    have hkk : KOk rs k1 := hk.way hr w k1 (List.mem_of_getElem? hk1)
    have hol := hkk.opts hr
    lcg_off
    refine use_options (.inl rfl) (by omega) fun l hl0 => ?_
    lcg_off
    refine cl_due (x := st) hr hol put_same ?_ ?_ ?_ ?_
    · intro o ho m' Q c1 c2
      obtain ⟨j, hj⟩ := List.getElem?_of_mem ho
      have hc := (opts_stp hr hj).cls
      unfold optD
      rcases hc with ⟨i, e⟩ | ⟨z, e⟩
      all_goals rcases id hst1 with ⟨i2, rfl, _⟩ | ⟨z2, rfl, _⟩
      all_goals rw [e] at c1 c2 ⊢
      · lcg_off
        by_cases e2 : i = i2
        · rw [decide_eq_true e2]; exact c1 (by rw [e2])
        · rw [decide_eq_false e2]; exact c2 (by intro e3; cases e3; exact e2 rfl)
      · lcg_off
        exact c2 (by intro e3; cases e3)
      · lcg_off
        exact c2 (by intro e3; cases e3)
      · lcg_off
        by_cases e2 : z = z2
        · rw [decide_eq_true e2]; exact c1 (by rw [e2])
        · rw [decide_eq_false e2]; exact c2 (by intro e3; cases e3; exact e2 rfl)
    · intro o m' Q hq
      unfold optD
      lcg_off
      exact hq
    · intro hno p hp
      lcg_off
      rename_i q1 n1 n2 n3
      refine ⟨put m q1 (.lst [.str "step", .bl true]), ?_, hn (fun ks' => no_way w hk1 hi hno) q1 (lessNone hle n3)⟩
      exact lessBoth ((hle.trans (Less.new hl0)).trans (Less.new hp))
    · intro k' hs qs p hp
      have hlen : ((k'.D :: qs).length : Int) ≠ 0 := by rw [List.length_cons]; omega
      lcg_off
      · exact absurd ‹_› hlen
      · refine r_ixL put_same atI_zero ?_
        lcg_off
        refine ⟨_, Less.refl _, ⟨k', ks ++ [k'], _, _, _, rfl, ?_, ?_⟩, (hle.trans (Less.new hl0)).trans (Less.new hp)⟩
        · rw [List.take_add_one, hi]
          exact w.snoc (by rw [List.length_take, Nat.min_eq_left (by omega)]; exact hk1) hs
        · have hkl : ks.length = i + 1 := by rw [w.len, List.length_take]; omega
          rw [List.getElem?_append_right (by omega), hkl, Nat.sub_self]; rfl
  · rintro _ m2 ⟨⟨k1, ks, x, y, z, rfl, w, hk1⟩, hle⟩
    rw [List.take_length] at w
    lcg_off
    exact ⟨_, hle, hy ks k1 w hk1⟩

theorem r_mulL {a : Addr} {k : Int} {xs : List D} {m : M} {P : DK} (h : m a = some (.lst xs)) (h1 : -(2 ^ 63) ≤ k) (h2 : k < 2 ^ 63) (hz : xs.length * k.toNat ≤ sizeLine) (q : ∀ p, m p = none → P (.ref p) (put m p (.lst (List.replicate k.toNat xs).flatten))) : rMul (.ref a) (.int k) m P := ⟨xs, h, h1, h2, hz, q⟩
theorem great_at {x r : Int} (h0 : 0 ≤ r) (h1 : r < 8) (hx : x.natAbs < 10 ^ 12) : ∃ i : Int, atI ([.int 8, .int 100, .int 2147483647, .int (-2147483648)] ++ (List.replicate (Int.toNat 4) [D.int x]).flatten) r = some (.int i) ∧ i.natAbs < 10 ^ 12 := by
  rcases (by omega : r = 0 ∨ r = 1 ∨ r = 2 ∨ r = 3 ∨ r = 4 ∨ r = 5 ∨ r = 6 ∨ r = 7) with rfl | rfl | rfl | rfl | rfl | rfl | rfl | rfl
  · exact ⟨8, rfl, by decide⟩
  · exact ⟨100, rfl, by decide⟩
  · exact ⟨2147483647, rfl, by decide⟩
  · exact ⟨-2147483648, rfl, by decide⟩
  all_goals exact ⟨x, rfl, hx⟩
def sp_step9 : DSp := fun ds m P _ => ∃ st ns s rs, ds = [.ref st, .rol (List.map D.int ns), .tup (rs.map recD)] ∧ m st = some (S4.D s) ∧ s.Ok ∧ RecsOk rs ∧ ∀ x s', StepS x → S4.Ok s' → P x (put m st s'.D)
theorem rd_step9 : ∀ ds m P EX, sp_step9 ds m P EX → Go P (b_law_step sp_law_pick sp_law_name) (dstart ["state", "script", "rows", "choice", "fields", "great"] ds) m := by
  rintro ds m P EX ⟨st, ns, s, rs, rfl, hs, ho, hr, q⟩
  show b_law_step sp_law_pick sp_law_name { nx := fun _ m' => Ret P .non m', rt := Ret P } [some (.ref st), some (.rol (List.map D.int ns)), some (.tup (rs.map recD)), none, none, none] m
  have hle := hr.le
  have hne := hr.ne
  have hL : (rs.map recD).length = rs.length := List.length_map ..
  unfold b_law_step
  lcg_off
  · exact ⟨_, Less.refl _, q _ _ (stepSLit (by decide +kernel)) ‹_›⟩
  · exact ⟨_, Less.refl _, q _ _ (stepSLit (by decide +kernel)) ‹_›⟩
  · rename_i l1 n1 hl1 r s2 r0 r1 o2 d2 l2 n2 n3 n4 hl2
    refine r_mulL put_same (by decide) (by decide) (by rw [PySem.sizeLine_eq]; exact Nat.le_of_ble_eq_true rfl) fun l3 hl3 => ?_
    simp only [put_none] at hl3
    obtain ⟨n5, n6, n7, n8, hl3⟩ := hl3
    refine r_addL (by lcg_src) put_same (by rw [PySem.sizeLine_eq]; exact Nat.le_of_ble_eq_true rfl) fun l4 hl4 => ?_
    simp only [put_none] at hl4
    obtain ⟨n9, n10, n11, n12, n13, hl4⟩ := hl4
    lcg_off
    rename_i r2 s3 r20 r21 o3 d3
    obtain ⟨i, hi, hi2⟩ := great_at (x := r - 8) r20 r21 (by omega)
    refine r_ixL (by lcg_src) hi ?_
    exact ⟨put m st s3.D, by one_item, q _ s3 (.inl ⟨i, rfl, hi2⟩) o3⟩
  · exact ⟨_, Less.refl _, q _ _ (.inr ⟨_, rfl, ‹_›⟩) ‹_›⟩
  · rename_i r s2 r0 r1 o2 d2
    obtain ⟨n, rfl⟩ : ∃ n : Nat, r = n := ⟨r.toNat, by omega⟩
    have e0 : rs[n]? = some (rs[n]'(by omega)) := List.getElem?_eq_getElem _
    generalize rs[n]'(by omega) = r3 at e0
    have hm3 := List.mem_of_getElem? e0
    have hf := hr.flen r3 hm3
    have hL2 : (r3.2.map fldD).length = r3.2.length := List.length_map ..
    refine r_ixT (d := recD r3) (atI_nat (by rw [List.getElem?_map, e0]; rfl)) ?_
    unfold recD
    lcg_off
    rename_i rr s3 rr0 rr1 o3 d3
    obtain ⟨n2, rfl⟩ : ∃ n : Nat, rr = n := ⟨rr.toNat, by omega⟩
    have e1 : r3.2[n2]? = some (r3.2[n2]'(by omega)) := List.getElem?_eq_getElem _
    generalize r3.2[n2]'(by omega) = f at e1
    refine r_ixT (d := fldD f) (atI_nat (by rw [List.getElem?_map, e1]; rfl)) ?_
    unfold fldD
    lcg_off
    exact ⟨_, Less.refl _, q _ s3 (.inr ⟨_, rfl, hr.fpl r3 hm3 f (List.mem_of_getElem? e1)⟩) o3⟩
theorem use_step9 {st : Addr} {ns : List Int} {a b c d : Int} {m : M} {P : DK} {rs : Recs} (h : m st = some (.lst [.int a, .int b, .int c, .int d])) (o : S4.Ok ⟨a, b, c, d⟩) (hr : RecsOk rs) (q : ∀ x s', StepS x → S4.Ok s' → P x (put m st s'.D)) :
    sp_step9 [.ref st, .rol (List.map D.int ns), .tup (rs.map recD)] m P noX := ⟨st, ns, ⟨a, b, c, d⟩, rs, rfl, h, o, hr, q⟩
local macro_rules | `(tactic| lcg_sub) => `(tactic| ((with_reducible refine' use_step9 ?h1 ?h2 ?h3 ?h4); (case h1 => lcg_src); (case h2 => first | assumption | exact S4.Ok.d (by assumption) _ | fail); (case h3 => assumption); intro _ _ _ _; try simp only [put_put]))
abbrev itemsD (T : Tab) : List D := (tabK T).map fun q => .tup [kD q.1, q.2]
theorem TabOk.okL {rs : Recs} {T : Tab} (h : TabOk rs T) : okL (itemsD T) := by
  refine okL_of (n := 15) (fun x hx => ?_) (by decide)
  obtain ⟨q, hq, rfl⟩ := List.mem_map.mp hx
  obtain ⟨t, ht, rfl⟩ := List.mem_map.mp hq
  exact shPair ((shStr (h.pl t ht)).mono (by decide)) ((h.ok t ht).wk.sh.mono (by decide))

/-- what is due of a place, as the law holds it -/
inductive DueS (rs : Recs) (T : Tab) (v : Str) (sts : List D) (m : M) : D → Prop where
  | kind {k k' : Kd} {ks : List Kd} : valD (tabK T) (.inr v) = some k.D → Way rs k sts ks → ks[sts.length]? = some k' → PD 14 k'.D → DueS rs T v sts m k'.D
  | step {k : Kd} {p : Addr} : valD (tabK T) (.inr v) = some k.D → (∀ ks, ¬ Way rs k sts ks) → m p = some (.lst [.str "step", .bl true]) → DueS rs T v sts m (.ref p)
  | var {p : Addr} : valD (tabK T) (.inr v) = none → m p = some (.lst [.str "variable", .bl true]) → DueS rs T v sts m (.ref p)
theorem DueS.less {rs : Recs} {T : Tab} {v : Str} {sts : List D} {m m' : M} {d : D} (h : DueS rs T v sts m d) (l : Less m m') : DueS rs T v sts m' d := by
  cases h with
  | kind a b c e => exact .kind a b c e
  | step a b c => exact .step a b (l _ _ c)
  | var a c => exact .var a (l _ _ c)
structure Fc (T : Tab) (st tb cp nl : Addr) (m : M) : Prop where
  atb : m tb = some (.dct (tabK T))
  acp : m cp = some (.lst (itemsD T))
  anl : m nl = some (.lst ((T.map (·.1)).map D.str))
  ast : ∃ s, S4.Ok s ∧ m st = some (S4.D s)
  n1 : tb ≠ st
  n2 : cp ≠ st
  n3 : nl ≠ st
theorem Fc.put {T : Tab} {st tb cp nl : Addr} {m : M} {s : S4} (h : Fc T st tb cp nl m) (o : S4.Ok s) : Fc T st tb cp nl (put m st s.D) :=
  ⟨(put_ne h.n1).trans h.atb, (put_ne h.n2).trans h.acp, (put_ne h.n3).trans h.anl, ⟨s, o, put_same⟩, h.n1, h.n2, h.n3⟩
theorem Fc.less {T : Tab} {st tb cp nl : Addr} {m m' : M} (h : Fc T st tb cp nl m) (l : Less m m') : Fc T st tb cp nl m' := by
  obtain ⟨s, o, e⟩ := h.ast
  exact ⟨l _ _ h.atb, l _ _ h.acp, l _ _ h.anl, ⟨s, o, l _ _ e⟩, h.n1, h.n2, h.n3⟩
theorem Kd.tupD (k : Kd) : ∃ xs, k.D = .tup xs := by
  cases k
  all_goals (first | exact ⟨_, Kd.D_tup _⟩ | exact ⟨_, by unfold Kd.D; rfl⟩)
theorem tab_no {T : Tab} {z : Str} (h : z ∉ T.map (·.1)) : valD (tabK T) (.inr z) = none := by
  unfold valD
  rw [Option.map_eq_none_iff, List.find?_eq_none]
  intro p hp e
  obtain ⟨t, ht, rfl⟩ := List.mem_map.mp hp
  have : (Sum.inr t.1 : Key) = .inr z := of_decide_eq_true e
  cases this
  exact h (List.mem_map.mpr ⟨t, ht, rfl⟩)
theorem r_neLL {a b : Addr} {xs ys : List D} {m : M} {P : DK} (h1 : m a = some (.lst xs)) (h2 : m b = some (.lst ys)) (o1 : okL xs) (o2 : okL ys) (q : P (.bl (!eqL xs ys)) m) : rNeL (.ref a) (.ref b) m P := ⟨xs, ys, h1, h2, o1, o2, q⟩
theorem r_isL {a : Addr} {xs : List D} {m : M} {P : DK} (h : m a = some (.lst xs)) (q : P (.bl true) m) : rIsD [.ref a, .ty "list"] m P := ⟨"list", true, by show (match m a with | some (.lst _) => some "list" | _ => none) = _; rw [h], kt_list_list, q⟩
local macro_rules | `(tactic| lcg_sub) => `(tactic| ((with_reducible refine' r_isL ?h1 ?h2); (case h1 => lcg_src)))
theorem stepsMix {sts : List D} {x : D} {n j : Nat} (h : ∀ st ∈ sts, StepS st) (hx : StepS x) : ∀ st ∈ sts.take n ++ [x] ++ sts.drop j, StepS st := fun st hs => by
  rcases List.mem_append.mp hs with hs | hs
  · rcases List.mem_append.mp hs with hs | hs
    · exact h st (List.mem_of_mem_take hs)
    · rw [List.mem_singleton] at hs; subst hs; exact hx
  · exact h st (List.mem_of_mem_drop hs)
theorem rd_law : ∀ ds m P EX, sp_law ds m P EX → Go P (b_law sp_law_records sp_law_table sp_law_pick sp_law_walk sp_step9 sp_followed sp_law_new sp_told (sp_same 14)) (dstart ["script", "state", "rows", "table", "copy", "names", "name", "due", "choice", "step", "k", "place", "kind", "at", "behind", "actual"] ds) m := by
  rintro ds m P EX ⟨ns, rfl, hl, rfl, q⟩
  show b_law sp_law_records sp_law_table sp_law_pick sp_law_walk sp_step9 sp_followed sp_law_new sp_told (sp_same 14) { nx := fun _ m' => Ret P .non m', rt := Ret P } [some (.rol (List.map D.int ns)), none, none, none, none, none, none, none, none, none, none, none, none, none, none, none] _
  unfold b_law
  lcg_off
  rename_i st _ rs s1 hr o1 T s2 tb hT T1 T4 o2 ntb htb
  refine ⟨_, _, rfl, put_same, fun cp hcp => ?_⟩
  simp only [put_none] at hcp
  obtain ⟨ncp1, ncp2, _⟩ := hcp
  lcg_off
  refine r_listK (by lcg_src) fun nl hnl => ?_
  rw [tab_keys]
  simp only [put_none] at hnl
  obtain ⟨nl1, nl2, nl3, _⟩ := hnl
  have hL : ((T.map (·.1)).map D.str).length = T.length := by rw [List.length_map, List.length_map]
  lcg_off
  rename_i r s3 r0 r1 o3 d3
  obtain ⟨rn, rfl⟩ : ∃ n : Nat, r = n := ⟨r.toNat, by omega⟩
  have e0 : T[rn]? = some (T[rn]'(by omega)) := List.getElem?_eq_getElem _
  generalize T[rn]'(by omega) = t1 at e0
  have m1 := List.mem_of_getElem? e0
  have v1 := tab_val hT.nd m1
  have g1 := hT.ok _ m1
  have pl1 := hT.pl _ m1
  have hpl1 : t1.1.length ≤ 1000 := Nat.le_trans pl1.l (by decide)
  refine r_ixL (d := .str t1.1) (by lcg_src) (atI_nat (by rw [List.getElem?_map, List.getElem?_map, e0]; rfl)) ?_
  lcg_off
  rename_i sts ks kk s4 w hk' hl o4 ch s5 c0 c1 o5 d5 x0 s6 hx0 o6
  have hw := w.steps hr g1
  have hpd0 : PD 14 kk.D := (g1.way hr w kk (List.mem_of_getElem? hk')).wk.pdk.mono (by decide)
  refine gen_mem (fun mm => Fc T st tb cp nl mm) ⟨by lcg_src, by lcg_src, by lcg_src, ⟨s6, o6, by lcg_src⟩, by assumption, by assumption, by assumption⟩ ?_
  intro m6 hF
  refine s_cut (fun sd m' => ∃ (sts : List D) (du : D) (x10 x12 x13 x14 x15 : Option D), sd = [some (.rol (List.map D.int ns)), some (.ref st), some (.tup (rs.map recD)), some (.ref tb), some (.ref cp), some (.ref nl), some (.str t1.1), some du, some (.int ch), some x0, x10, some (.tup [.str t1.1, .tup sts]), x12, x13, x14, x15] ∧ sts.length ≤ 1000 ∧ (∀ st ∈ sts, StepS st) ∧ DueS rs T t1.1 sts m' du ∧ Fc T st tb cp nl m') ?_ ?_
  · obtain ⟨s7, o7, e7⟩ := hF.ast
    have e8 := hF.atb
    lcg_off
    · rename_i hlt at_ s8 a0 a1 o8 d8 r s9 r0 r1 o9 d9
      obtain ⟨n, rfl⟩ : ∃ n : Nat, at_ = n := ⟨at_.toNat, by omega⟩
      obtain ⟨j, rfl⟩ : ∃ n : Nat, r = n := ⟨r.toNat, by omega⟩
      have ej : ((n : Int) + (j : Int)) = ((n + j : Nat) : Int) := by omega
      have hz := PySem.sizeLine_eq
      have t1l : (sts.take n).length ≤ 12 := by rw [List.length_take]; omega
      have t2l : (sts.drop (n + j)).length ≤ 12 := by rw [List.length_drop]; omega
      rw [ej, cut_to, cut_from]
      refine r_addT (xs := sts.take n) (ys := [x0]) (by rw [List.length_singleton]; omega) ?_
      lcg_off
      have hl9 : (sts.take n ++ [x0] ++ sts.drop (n + j)).length ≤ 1000 := by rw [List.length_append, List.length_append, List.length_singleton]; omega
      have hw9 := stepsMix (n := n) (j := n + j) hw hx0
      have hF9 : Fc T st tb cp nl (put m6 st s9.D) := hF.put o9
      refine ⟨rs, t1.2, sts.take n ++ [x0] ++ sts.drop (n + j), rfl, hr, g1, hl9, hw9, fun hn p hp => ?_, fun ks2 k2 w2 h2 => ?_⟩
      · lcg_off
        exact ⟨_, Less.refl _, _, _, _, _, _, _, _, rfl, hl9, hw9, .step v1 hn put_same, hF9.less (Less.new hp)⟩
      · lcg_off
        exact ⟨_, Less.refl _, _, _, _, _, _, _, _, rfl, hl9, hw9, .kind v1 w2 h2 ((g1.way hr w2 k2 (List.mem_of_getElem? h2)).wk.pdk.mono (by decide)), hF9⟩
    · exact ⟨_, Less.refl _, sts, kk.D, _, _, _, _, _, rfl, by omega, hw, .kind v1 w hk' hpd0, hF⟩
    · exact ⟨_, Less.refl _, sts, kk.D, _, _, _, _, _, rfl, by omega, hw, .kind v1 w hk' hpd0, hF⟩
  rintro _ m7 ⟨sts, du, x10, x12, x13, x14, x15, rfl, hl7, hw7, hD7, hF7⟩
  refine s_cut (fun sd m' => ∃ (v : Str) (sts : List D) (du : D) (x8 x10 x12 x13 x14 x15 : Option D), sd = [some (.rol (List.map D.int ns)), some (.ref st), some (.tup (rs.map recD)), some (.ref tb), some (.ref cp), some (.ref nl), some (.str t1.1), some du, x8, some x0, x10, some (.tup [.str v, .tup sts]), x12, x13, x14, x15] ∧ v.length ≤ 1000 ∧ sts.length ≤ 1000 ∧ (∀ st ∈ sts, StepS st) ∧ DueS rs T v sts m' du ∧ Fc T st tb cp nl m') ?_ ?_
  · obtain ⟨s7, o7, e7⟩ := hF7.ast
    have e8 := hF7.anl
    lcg_off
    · refine s_cut (fun sd m' => ∃ (sts : List D) (du : D) (x10 x12 x13 x14 x15 : Option D), sd = [some (.rol (List.map D.int ns)), some (.ref st), some (.tup (rs.map recD)), some (.ref tb), some (.ref cp), some (.ref nl), some (.str t1.1), some du, some (.int ch), some x0, x10, some (.tup [.str t1.1, .tup sts]), x12, x13, x14, x15] ∧ sts.length ≤ 1000 ∧ (∀ st ∈ sts, StepS st) ∧ Fc T st tb cp nl m') ?_ ?_
      · lcg_off
        · rename_i r s8 r0 r1 o8 d8 _
          have hF8 : Fc T st tb cp nl (put m7 st s8.D) := hF7.put o8
          exact ⟨_, Less.refl _, [x0], du, _, _, _, _, _, rfl, by simp, fun st hs => by rw [List.mem_singleton] at hs; subst hs; exact hx0, hF8⟩
        · rename_i r s8 r0 r1 o8 d8 _
          have hF8 : Fc T st tb cp nl (put m7 st s8.D) := hF7.put o8
          exact ⟨_, Less.refl _, sts, du, _, _, _, _, _, rfl, hl7, hw7, hF8⟩
      · rintro _ m8 ⟨sts, du, x10, x12, x13, x14, x15, rfl, hl8, hw8, hF8⟩
        have e9 := hF8.anl
        have hTl : (T.map (·.1)).length ≤ 99 := by rw [List.length_map]; omega
        lcg_off
        rename_i z hz hz2 p hp
        exact ⟨_, Less.refl _, z, sts, _, _, _, _, _, _, _, rfl, Nat.le_trans hz.l (by decide), hl8, hw8, .var (tab_no hz2) put_same, hF8.less (Less.new hp)⟩
    · exact ⟨_, Less.refl _, t1.1, sts, du, _, _, _, _, _, _, rfl, hpl1, hl7, hw7, hD7, hF7⟩
  rintro _ m8 ⟨v, sts, du, x8, x10, x12, x13, x14, x15, rfl, hv8, hl8, hw8, hD8, hF8⟩
  refine s_seq ?_
  lcg_off
  refine ⟨⟨by decide, by decide⟩, fun i sd m' => (∃ x10 x15, sd = [some (.rol (List.map D.int ns)), some (.ref st), some (.tup (rs.map recD)), some (.ref tb), some (.ref cp), some (.ref nl), some (.str t1.1), some du, x8, some x0, x10, some (.tup [.str v, .tup sts]), x12, x13, x14, x15]) ∧ DueS rs T v sts m' du ∧ Fc T st tb cp nl m', ⟨⟨_, _, rfl⟩, hD8, hF8⟩, ?_, ?_⟩
  · rintro i _ m9 hi ⟨⟨y10, y15, rfl⟩, hD9, hF9⟩
    cases hD9 with
    | kind a b c e =>
      rename_i k k2 ks2
      lcg_off
      refine ⟨rs, v, sts, tb, tabK T, rfl, hF9.atb, hv8, hl8, hw8, .inr ⟨k, a, fun ks3 k3 w3 h3 => ?_, fun hn => absurd b (hn _)⟩⟩
      obtain rfl := b.det w3
      obtain rfl : k2 = k3 := Option.some.inj (c.symm.trans h3)
      obtain ⟨xs, ex⟩ := Kd.tupD k2
      have hD9 : DueS rs T v sts m9 k2.D := .kind a b c e
      rw [ex] at e hD9 ⊢
      lcg_off
      refine use_same e ?_
      lcg_off
      exact ⟨_, Less.refl _, ⟨_, _, rfl⟩, hD9, hF9⟩
    | step a b c =>
      rename_i k p
      lcg_off
      refine ⟨rs, v, sts, tb, tabK T, rfl, hF9.atb, hv8, hl8, hw8, .inr ⟨k, a, fun ks3 k3 w3 h3 => absurd w3 (b _), fun hn p2 hp2 => ?_⟩⟩
      have hD9 : DueS rs T v sts m9 (.ref p) := .step a b c
      have np : p ≠ p2 := neA c hp2
      lcg_off
      refine r_neLL put_same ((put_ne np).trans c) (by unfold okL; decide +kernel) (by unfold okL; decide +kernel) ?_
      rw [show eqL [.str "step", .bl true] [.str "step", .bl true] = true by decide +kernel]
      lcg_off
      exact ⟨_, Less.refl _, ⟨_, _, rfl⟩, hD9.less (Less.new hp2), hF9.less (Less.new hp2)⟩
    | var a c =>
      rename_i p
      lcg_off
      refine ⟨rs, v, sts, tb, tabK T, rfl, hF9.atb, hv8, hl8, hw8, .inl ⟨a, fun p2 hp2 => ?_⟩⟩
      have hD9 : DueS rs T v sts m9 (.ref p) := .var a c
      have np : p ≠ p2 := neA c hp2
      lcg_off
      refine r_neLL put_same ((put_ne np).trans c) (by unfold okL; decide +kernel) (by unfold okL; decide +kernel) ?_
      rw [show eqL [.str "variable", .bl true] [.str "variable", .bl true] = true by decide +kernel]
      lcg_off
      exact ⟨_, Less.refl _, ⟨_, _, rfl⟩, hD9.less (Less.new hp2), hF9.less (Less.new hp2)⟩
  · rintro _ m9 ⟨⟨y10, y15, rfl⟩, hD9, hF9⟩
    lcg_off
    refine ⟨_, _, rfl, hF9.atb, fun ip hip => ?_⟩
    have n1 : cp ≠ ip := neA hF9.acp hip
    lcg_off
    refine ⟨_, _, put_same, (put_ne n1).trans hF9.acp, hT.okL, hT.okL, ?_⟩
    rw [eqL_refl hT.okL]
    lcg_off
    exact ⟨_, Less.refl _, q _⟩

theorem main {P : Program} {w : World} {K : PySem.W.Frag} {mg : Str → Option Value} {x_NoSuchStep x_NoSuchVariable x_SyntaxProblem x_Refused x_NotAllocated x_NoSuchFunction x_KindProblem x_LendError : Addr} (F_fields_of : FunAt K mg "fields_of" s_fields_of ["records", "name"]) (F_kind_after : FunAt K mg "kind_after" s_kind_after ["records", "kind", "step"]) (F_kinds_along : FunAt K mg "kinds_along" s_kinds_along ["place", "records", "kinds"]) (F_kind_at : FunAtK K mg "kind_at" s_kind_at ["place"] ["records", "kinds"]) (F_law_pick : FunAt K mg "_law_pick" s_law_pick ["state", "script", "many"]) (F_law_words : FunAt K mg "_law_words" s_law_words []) (F_law_name : FunAt K mg "_law_name" s_law_name ["state", "script"]) (F_law_big : FunAt K mg "_law_big" s_law_big ["state", "script"]) (F_law_new : FunAt K mg "_law_new" s_law_new ["taken", "word"]) (F_law_kind : FunAt K mg "_law_kind" s_law_kind ["state", "script", "room", "plain", "names"]) (F_law_is_plain : FunAt K mg "_law_is_plain" s_law_is_plain ["kind"]) (F_law_wide : FunAt K mg "_law_wide" s_law_wide ["state", "script"]) (F_law_any_kind : FunAt K mg "_law_any_kind" s_law_any_kind ["state", "script", "names"]) (F_law_same : FunAt K mg "_law_same" s_law_same ["actual", "due"]) (F_law_size : FunAt K mg "_law_size" s_law_size ["rows", "kind"]) (F_law_is_small : FunAt K mg "_law_is_small" s_law_is_small ["rows", "kind"]) (F_law_records : FunAt K mg "_law_records" s_law_records ["state", "script"]) (F_law_options : FunAt K mg "_law_options" s_law_options ["rows", "kind"]) (F_law_small_kind : FunAt K mg "_law_small_kind" s_law_small_kind ["state", "script", "rows"]) (F_law_table : FunAt K mg "_law_table" s_law_table ["state", "script", "rows"]) (F_law_walk : FunAt K mg "_law_walk" s_law_walk ["state", "script", "rows", "name", "kind"]) (F_law_step : FunAt K mg "_law_step" s_law_step ["state", "script", "rows"]) (F_law_told : FunAt K mg "_law_told" s_law_told ["place", "rows", "table"]) (F_law_followed : FunAt K mg "_law_followed" s_law_followed ["rows", "kind", "steps"]) (F_law : FunAt K mg "law" s_law ["script"]) (k_BORROWS : ConstAt K mg "BORROWS" c_BORROWS) (z_ValueError : mg "ValueError" = none) (z_abs : mg "abs" = none) (z_bool : mg "bool" = none) (z_int : mg "int" = none) (z_isinstance : mg "isinstance" = none) (z_len : mg "len" = none) (z_list : mg "list" = none) (z_range : mg "range" = none) (z_str : mg "str" = none) (z_sum : mg "sum" = none) (z_tuple : mg "tuple" = none) (g_NoSuchStep : mg "NoSuchStep" = some (.ref x_NoSuchStep)) (g_NoSuchVariable : mg "NoSuchVariable" = some (.ref x_NoSuchVariable)) (g_SyntaxProblem : mg "SyntaxProblem" = some (.ref x_SyntaxProblem)) (g_Refused : mg "Refused" = some (.ref x_Refused)) (g_NotAllocated : mg "NotAllocated" = some (.ref x_NotAllocated)) (g_NoSuchFunction : mg "NoSuchFunction" = some (.ref x_NoSuchFunction)) (g_KindProblem : mg "KindProblem" = some (.ref x_KindProblem)) (g_LendError : mg "LendError" = some (.ref x_LendError)) (e_NoSuchStep : ExcAt K mg "NoSuchStep" x_NoSuchStep) (e_NoSuchVariable : ExcAt K mg "NoSuchVariable" x_NoSuchVariable) (xm_NoSuchVariable : PySem.W.exmOne K (.ref x_NoSuchVariable) (.ref x_NoSuchVariable) = some true) (xc_NoSuchVariable : ExcC K x_NoSuchVariable) (i_NoSuchVariable_NoSuchStep : PySem.W.kitOne K (.ref x_NoSuchVariable) (.ref x_NoSuchStep) = some false) (i_NoSuchVariable_SyntaxProblem : PySem.W.kitOne K (.ref x_NoSuchVariable) (.ref x_SyntaxProblem) = some false) (i_NoSuchVariable_Refused : PySem.W.kitOne K (.ref x_NoSuchVariable) (.ref x_Refused) = some false) (i_NoSuchVariable_NotAllocated : PySem.W.kitOne K (.ref x_NoSuchVariable) (.ref x_NotAllocated) = some false) (i_NoSuchVariable_NoSuchFunction : PySem.W.kitOne K (.ref x_NoSuchVariable) (.ref x_NoSuchFunction) = some false) (i_NoSuchVariable_KindProblem : PySem.W.kitOne K (.ref x_NoSuchVariable) (.ref x_KindProblem) = some false) (i_NoSuchVariable_LendError : PySem.W.kitOne K (.ref x_NoSuchVariable) (.ref x_LendError) = some true) (i_NoSuchVariable_ValueError : PySem.W.kitOne K (.ref x_NoSuchVariable) (.type "ValueError") = some true) (xm_NoSuchStep : PySem.W.exmOne K (.ref x_NoSuchStep) (.ref x_NoSuchStep) = some true) (xc_NoSuchStep : ExcC K x_NoSuchStep) (i_NoSuchStep_NoSuchVariable : PySem.W.kitOne K (.ref x_NoSuchStep) (.ref x_NoSuchVariable) = some false) (i_NoSuchStep_SyntaxProblem : PySem.W.kitOne K (.ref x_NoSuchStep) (.ref x_SyntaxProblem) = some false) (i_NoSuchStep_Refused : PySem.W.kitOne K (.ref x_NoSuchStep) (.ref x_Refused) = some false) (i_NoSuchStep_NotAllocated : PySem.W.kitOne K (.ref x_NoSuchStep) (.ref x_NotAllocated) = some false) (i_NoSuchStep_NoSuchFunction : PySem.W.kitOne K (.ref x_NoSuchStep) (.ref x_NoSuchFunction) = some false) (i_NoSuchStep_KindProblem : PySem.W.kitOne K (.ref x_NoSuchStep) (.ref x_KindProblem) = some false) (i_NoSuchStep_LendError : PySem.W.kitOne K (.ref x_NoSuchStep) (.ref x_LendError) = some true) (i_NoSuchStep_ValueError : PySem.W.kitOne K (.ref x_NoSuchStep) (.type "ValueError") = some true) (xn_NoSuchStep_NoSuchVariable : PySem.W.exmOne K (.ref x_NoSuchStep) (.ref x_NoSuchVariable) = some false) : Callee P w K mg 47 "law" ["script"] sp_law := by
  have C_law_new : Callee P w K mg 1 "_law_new" ["taken", "word"] (sp_law_new) := ok_law_new (k := 0) F_law_new z_str z_range (by intro _ _ _ _ h; (try unfold sp_law_new at h); repeat (first | (obtain ⟨rfl, _⟩ := h; rfl) | obtain ⟨_, h⟩ := h)) rd_new
  have C_law_pick : Callee P w K mg 1 "_law_pick" ["state", "script", "many"] (sp_law_pick) := ok_law_pick (k := 0) F_law_pick z_int z_len z_abs (by intro _ _ _ _ h; (try unfold sp_law_pick at h); repeat (first | (obtain ⟨rfl, _⟩ := h; rfl) | obtain ⟨_, h⟩ := h)) rd_pick
  have C_law_big : Callee P w K mg 2 "_law_big" ["state", "script"] (sp_law_big) := ok_law_big (k := 1) F_law_big (C_law_pick.mono (by decide)) z_range (by intro _ _ _ _ h; (try unfold sp_law_big at h); repeat (first | (obtain ⟨rfl, _⟩ := h; rfl) | obtain ⟨_, h⟩ := h)) rd_big
  have C_law_words : Callee P w K mg 1 "_law_words" [] (sp_law_words) := ok_law_words (k := 0) F_law_words (by intro _ _ _ _ h; (try unfold sp_law_words at h); repeat (first | (obtain ⟨rfl, _⟩ := h; rfl) | obtain ⟨_, h⟩ := h)) rd_words
  have C_law_name : Callee P w K mg 2 "_law_name" ["state", "script"] (sp_law_name) := ok_law_name (k := 1) F_law_name (C_law_pick.mono (by decide)) (C_law_words.mono (by decide)) z_range (by intro _ _ _ _ h; (try unfold sp_law_name at h); repeat (first | (obtain ⟨rfl, _⟩ := h; rfl) | obtain ⟨_, h⟩ := h)) rd_name
  have C_law_kind := rec_kind F_law_kind C_law_pick z_len z_range z_int z_tuple 6
  have C_law_size := rec_size (P := P) (w := w) F_law_size z_sum 34
  have C_law_is_small := rec_small F_law_is_small C_law_size 10
  have C_law_records : Callee P w K mg 45 "_law_records" ["state", "script"] (sp_law_records) := ok_law_records (k := 44) F_law_records (C_law_new.mono (by decide)) (C_law_big.mono (by decide)) (C_law_pick.mono (by decide)) (C_law_name.mono (by decide)) (C_law_kind.mono (by decide)) (C_law_size.mono (by decide)) (C_law_is_small.mono (by decide)) z_range z_len z_tuple (by intro _ _ _ _ h; (try unfold sp_law_records at h); repeat (first | (obtain ⟨rfl, _⟩ := h; rfl) | obtain ⟨_, h⟩ := h)) rd_records
  have C_law_wide : Callee P w K mg 2 "_law_wide" ["state", "script"] ((sp_law_wide (fun _ => False))) := ok_law_wide (k := 1) F_law_wide (C_law_pick.mono (by decide)) z_range z_tuple (by intro _ _ _ _ h; (try unfold sp_law_wide at h); repeat (first | (obtain ⟨rfl, _⟩ := h; rfl) | obtain ⟨_, h⟩ := h)) rd_wide
  have C_law_is_plain := rec_law_is_plain (P := P) (w := w) F_law_is_plain 6
  have C_law_any_kind : Callee P w K mg 8 "_law_any_kind" ["state", "script", "names"] (sp_law_any_kind) := ok_law_any_kind (k := 7) F_law_any_kind (C_law_pick.mono (by decide)) (C_law_wide.mono (by decide)) (C_law_kind.mono (by decide)) (C_law_is_plain.mono (by decide)) z_range (by intro _ _ _ _ h; (try unfold sp_law_any_kind at h); repeat (first | (obtain ⟨rfl, _⟩ := h; rfl) | obtain ⟨_, h⟩ := h)) rd_any_kind
  have C_law_small_kind : Callee P w K mg 45 "_law_small_kind" ["state", "script", "rows"] (sp_law_small_kind) := ok_law_small_kind (k := 44) F_law_small_kind (C_law_any_kind.mono (by decide)) (C_law_is_small.mono (by decide)) (by intro _ _ _ _ h; (try unfold sp_law_small_kind at h); repeat (first | (obtain ⟨rfl, _⟩ := h; rfl) | obtain ⟨_, h⟩ := h)) rd_small_kind
  have C_law_table : Callee P w K mg 46 "_law_table" ["state", "script", "rows"] (sp_law_table) := ok_law_table (k := 45) F_law_table (C_law_new.mono (by decide)) (C_law_name.mono (by decide)) (C_law_small_kind.mono (by decide)) (C_law_pick.mono (by decide)) z_list z_range (by intro _ _ _ _ h; (try unfold sp_law_table at h); repeat (first | (obtain ⟨rfl, _⟩ := h; rfl) | obtain ⟨_, h⟩ := h)) rd_table
  have C_law_options : Callee P w K mg 1 "_law_options" ["rows", "kind"] (sp_law_options) := ok_law_options (k := 0) F_law_options z_len z_range z_list (by intro _ _ _ _ h; (try unfold sp_law_options at h); repeat (first | (obtain ⟨rfl, _⟩ := h; rfl) | obtain ⟨_, h⟩ := h)) rd_options
  have C_law_walk : Callee P w K mg 2 "_law_walk" ["state", "script", "rows", "name", "kind"] (sp_law_walk) := ok_law_walk (k := 1) F_law_walk (C_law_options.mono (by decide)) (C_law_pick.mono (by decide)) z_len z_range z_tuple (by intro _ _ _ _ h; (try unfold sp_law_walk at h); repeat (first | (obtain ⟨rfl, _⟩ := h; rfl) | obtain ⟨_, h⟩ := h)) rd_walk
  have C_law_step : Callee P w K mg 3 "_law_step" ["state", "script", "rows"] (sp_step9) := ok_law_step (k := 2) F_law_step (C_law_pick.mono (by decide)) (C_law_name.mono (by decide)) z_len (by intro _ _ _ _ h; (try unfold sp_step9 at h); repeat (first | (obtain ⟨rfl, _⟩ := h; rfl) | obtain ⟨_, h⟩ := h)) rd_step9
  have C_law_followed : Callee P w K mg 2 "_law_followed" ["rows", "kind", "steps"] (sp_followed) := ok_law_followed (k := 1) F_law_followed (C_law_options.mono (by decide)) z_len (by intro _ _ _ _ h; (try unfold sp_followed at h); repeat (first | (obtain ⟨rfl, _⟩ := h; rfl) | obtain ⟨_, h⟩ := h)) rd_followed
  have C_fields_of : Callee P w K mg 1 "fields_of" ["records", "name"] (sp_fields_of) := ok_fields_of (k := 0) F_fields_of (by intro _ _ _ _ h; (try unfold sp_fields_of at h); repeat (first | (obtain ⟨rfl, _⟩ := h; rfl) | obtain ⟨_, h⟩ := h)) rd_fields_of
  have C_kind_after : CalleeX P w K mg 2 "kind_after" ["records", "kind", "step"] ((sp_kafter x_NoSuchStep)) := ok_kind_after (k := 1) F_kind_after (C_fields_of.mono (by decide)) k_BORROWS z_int z_isinstance z_len g_NoSuchStep e_NoSuchStep (by intro _ _ _ _ h; (try unfold sp_kafter at h); repeat (first | (obtain ⟨rfl, _⟩ := h; rfl) | obtain ⟨_, h⟩ := h)) (rd_kafter x_NoSuchStep)
  have C_kinds_along : CalleeX P w K mg 3 "kinds_along" ["place", "records", "kinds"] ((sp_along6 x_NoSuchVariable x_NoSuchStep)) := ok_kinds_along (k := 2) F_kinds_along (C_kind_after.mono (by decide)) g_NoSuchVariable e_NoSuchVariable (by intro _ _ _ _ h; (try unfold sp_along6 at h); repeat (first | (obtain ⟨rfl, _⟩ := h; rfl) | obtain ⟨_, h⟩ := h)) (rd_along6 x_NoSuchVariable x_NoSuchStep)
  have C_kind_at : CalleeKX P w K mg 4 "kind_at" ["place"] ["records", "kinds"] ((sp_at6 x_NoSuchVariable x_NoSuchStep)) := ok_kind_at (k := 3) F_kind_at (C_kinds_along.mono (by decide)) (by intro _ _ _ _ h; (try unfold sp_at6 at h); repeat (first | (obtain ⟨rfl, _⟩ := h; rfl) | obtain ⟨_, h⟩ := h)) (rd_at6 x_NoSuchVariable x_NoSuchStep)
  have C_law_told : Callee P w K mg 5 "_law_told" ["place", "rows", "table"] (sp_told) := ok_law_told (k := 4) F_law_told (C_kind_at.mono (by decide)) z_isinstance z_ValueError g_NoSuchVariable g_NoSuchStep g_SyntaxProblem g_Refused g_NotAllocated g_NoSuchFunction g_KindProblem g_LendError xm_NoSuchVariable xc_NoSuchVariable (isaK_ok (K := K) (E := x_NoSuchVariable)) xm_NoSuchStep xc_NoSuchStep (isaK_ok (K := K) (E := x_NoSuchStep)) xn_NoSuchStep_NoSuchVariable (by intro _ _ _ _ h; (try unfold sp_told at h); repeat (first | (obtain ⟨rfl, _⟩ := h; rfl) | obtain ⟨_, h⟩ := h)) (rd_told (i1 := isaK K x_NoSuchVariable) (i2 := isaK K x_NoSuchStep) i_NoSuchVariable_KindProblem i_NoSuchVariable_NoSuchFunction i_NoSuchVariable_NoSuchStep i_NoSuchVariable_NotAllocated i_NoSuchVariable_Refused i_NoSuchVariable_SyntaxProblem i_NoSuchVariable_LendError i_NoSuchVariable_ValueError i_NoSuchStep_KindProblem i_NoSuchStep_NoSuchFunction i_NoSuchStep_NoSuchVariable i_NoSuchStep_NotAllocated i_NoSuchStep_Refused i_NoSuchStep_SyntaxProblem i_NoSuchStep_LendError i_NoSuchStep_ValueError)
  have C_law_same := rec_law_same (P := P) (w := w) F_law_same z_isinstance z_tuple z_len z_range z_bool z_int z_str 14
  have C_law : Callee P w K mg 47 "law" ["script"] (sp_law) := ok_law (k := 46) F_law (C_law_records.mono (by decide)) (C_law_table.mono (by decide)) (C_law_pick.mono (by decide)) (C_law_walk.mono (by decide)) (C_law_step.mono (by decide)) (C_law_followed.mono (by decide)) (C_law_new.mono (by decide)) (C_law_told.mono (by decide)) (C_law_same.mono (by decide)) z_list z_len z_isinstance z_range (by intro _ _ _ _ h; (try unfold sp_law at h); repeat (first | (obtain ⟨rfl, _⟩ := h; rfl) | obtain ⟨_, h⟩ := h)) rd_law
  exact C_law
theorem all_mk {P : Program} {w : World} {K : PySem.W.Frag} {h : Heap} {mg : Str → Option Value} {fa : Addr} (X : K.In h) (G : h.Ns mainGlobals mg) (hfa : mg "law" = some (.ref fa)) {f0 : Addr} {od0 an0 : Option Addr} {sl0 : Array (Option Value)} {oc0 kV0 dc0 pm0 cd0 ct0 : Value} {f1 : Addr} {od1 an1 : Option Addr} {sl1 : Array (Option Value)} {oc1 kV1 dc1 pm1 cd1 ct1 : Value} {f2 : Addr} {od2 an2 : Option Addr} {sl2 : Array (Option Value)} {oc2 kV2 dc2 pm2 cd2 ct2 : Value} {f3 : Addr} {od3 an3 : Option Addr} {sl3 : Array (Option Value)} {oc3 kV3 dc3 pm3 cd3 ct3 : Value} {f4 : Addr} {od4 an4 : Option Addr} {sl4 : Array (Option Value)} {oc4 kV4 dc4 pm4 cd4 ct4 : Value} {f5 : Addr} {od5 an5 : Option Addr} {sl5 : Array (Option Value)} {oc5 kV5 dc5 pm5 cd5 ct5 : Value} {f6 : Addr} {od6 an6 : Option Addr} {sl6 : Array (Option Value)} {oc6 kV6 dc6 pm6 cd6 ct6 : Value} {f7 : Addr} {od7 an7 : Option Addr} {sl7 : Array (Option Value)} {oc7 kV7 dc7 pm7 cd7 ct7 : Value} {f8 : Addr} {od8 an8 : Option Addr} {sl8 : Array (Option Value)} {oc8 kV8 dc8 pm8 cd8 ct8 : Value} {f9 : Addr} {od9 an9 : Option Addr} {sl9 : Array (Option Value)} {oc9 kV9 dc9 pm9 cd9 ct9 : Value} {f10 : Addr} {od10 an10 : Option Addr} {sl10 : Array (Option Value)} {oc10 kV10 dc10 pm10 cd10 ct10 : Value} {f11 : Addr} {od11 an11 : Option Addr} {sl11 : Array (Option Value)} {oc11 kV11 dc11 pm11 cd11 ct11 : Value} {f12 : Addr} {od12 an12 : Option Addr} {sl12 : Array (Option Value)} {oc12 kV12 dc12 pm12 cd12 ct12 : Value} {f13 : Addr} {od13 an13 : Option Addr} {sl13 : Array (Option Value)} {oc13 kV13 dc13 pm13 cd13 ct13 : Value} {f14 : Addr} {od14 an14 : Option Addr} {sl14 : Array (Option Value)} {oc14 kV14 dc14 pm14 cd14 ct14 : Value} {f15 : Addr} {od15 an15 : Option Addr} {sl15 : Array (Option Value)} {oc15 kV15 dc15 pm15 cd15 ct15 : Value} {f16 : Addr} {od16 an16 : Option Addr} {sl16 : Array (Option Value)} {oc16 kV16 dc16 pm16 cd16 ct16 : Value} {f17 : Addr} {od17 an17 : Option Addr} {sl17 : Array (Option Value)} {oc17 kV17 dc17 pm17 cd17 ct17 : Value} {f18 : Addr} {od18 an18 : Option Addr} {sl18 : Array (Option Value)} {oc18 kV18 dc18 pm18 cd18 ct18 : Value} {f19 : Addr} {od19 an19 : Option Addr} {sl19 : Array (Option Value)} {oc19 kV19 dc19 pm19 cd19 ct19 : Value} {f20 : Addr} {od20 an20 : Option Addr} {sl20 : Array (Option Value)} {oc20 kV20 dc20 pm20 cd20 ct20 : Value} {f21 : Addr} {od21 an21 : Option Addr} {sl21 : Array (Option Value)} {oc21 kV21 dc21 pm21 cd21 ct21 : Value} {f22 : Addr} {od22 an22 : Option Addr} {sl22 : Array (Option Value)} {oc22 kV22 dc22 pm22 cd22 ct22 : Value} {f23 : Addr} {od23 an23 : Option Addr} {sl23 : Array (Option Value)} {oc23 kV23 dc23 pm23 cd23 ct23 : Value} {f24 : Addr} {od24 an24 : Option Addr} {sl24 : Array (Option Value)} {oc24 kV24 dc24 pm24 cd24 ct24 : Value} {g0 : Addr} {gd0 : Option Addr} {gn0 : Nat} {gs0 : Array (Option Value)} {t0_0 t0_1 : Tok} {x_NoSuchStep : Addr} {x_NoSuchVariable : Addr} {x_SyntaxProblem : Addr} {x_Refused : Addr} {x_NotAllocated : Addr} {x_NoSuchFunction : Addr} {x_KindProblem : Addr} {x_LendError : Addr}
    (a0 : PySem.W.nsIn K mainGlobals "fields_of" = some (some (.ref f0)))
    (l0 : K.lookup f0 = some ⟨oc0, od0, .func (PySem.W.fnOf "fields_of" "fields_of" (defArgs s_fields_of) (defBody s_fields_of) (defScope s_fields_of) .none kV0 dc0 pm0 an0 cd0 ct0), sl0⟩)
    (c0 : PySem.W.codeIn K cd0 "fields_of" = true) (k0 : PySem.W.keepIn K (.ref f0) = true)
    (a1 : PySem.W.nsIn K mainGlobals "kind_after" = some (some (.ref f1)))
    (l1 : K.lookup f1 = some ⟨oc1, od1, .func (PySem.W.fnOf "kind_after" "kind_after" (defArgs s_kind_after) (defBody s_kind_after) (defScope s_kind_after) .none kV1 dc1 pm1 an1 cd1 ct1), sl1⟩)
    (c1 : PySem.W.codeIn K cd1 "kind_after" = true) (k1 : PySem.W.keepIn K (.ref f1) = true)
    (a2 : PySem.W.nsIn K mainGlobals "kinds_along" = some (some (.ref f2)))
    (l2 : K.lookup f2 = some ⟨oc2, od2, .func (PySem.W.fnOf "kinds_along" "kinds_along" (defArgs s_kinds_along) (defBody s_kinds_along) (defScope s_kinds_along) .none kV2 dc2 pm2 an2 cd2 ct2), sl2⟩)
    (c2 : PySem.W.codeIn K cd2 "kinds_along" = true) (k2 : PySem.W.keepIn K (.ref f2) = true)
    (a3 : PySem.W.nsIn K mainGlobals "kind_at" = some (some (.ref f3)))
    (l3 : K.lookup f3 = some ⟨oc3, od3, .func (PySem.W.fnOf "kind_at" "kind_at" (defArgs s_kind_at) (defBody s_kind_at) (defScope s_kind_at) .none kV3 dc3 pm3 an3 cd3 ct3), sl3⟩)
    (c3 : PySem.W.codeIn K cd3 "kind_at" = true) (k3 : PySem.W.keepIn K (.ref f3) = true)
    (a4 : PySem.W.nsIn K mainGlobals "_law_pick" = some (some (.ref f4)))
    (l4 : K.lookup f4 = some ⟨oc4, od4, .func (PySem.W.fnOf "_law_pick" "_law_pick" (defArgs s_law_pick) (defBody s_law_pick) (defScope s_law_pick) .none kV4 dc4 pm4 an4 cd4 ct4), sl4⟩)
    (c4 : PySem.W.codeIn K cd4 "_law_pick" = true) (k4 : PySem.W.keepIn K (.ref f4) = true)
    (a5 : PySem.W.nsIn K mainGlobals "_law_words" = some (some (.ref f5)))
    (l5 : K.lookup f5 = some ⟨oc5, od5, .func (PySem.W.fnOf "_law_words" "_law_words" (defArgs s_law_words) (defBody s_law_words) (defScope s_law_words) .none kV5 dc5 pm5 an5 cd5 ct5), sl5⟩)
    (c5 : PySem.W.codeIn K cd5 "_law_words" = true) (k5 : PySem.W.keepIn K (.ref f5) = true)
    (a6 : PySem.W.nsIn K mainGlobals "_law_name" = some (some (.ref f6)))
    (l6 : K.lookup f6 = some ⟨oc6, od6, .func (PySem.W.fnOf "_law_name" "_law_name" (defArgs s_law_name) (defBody s_law_name) (defScope s_law_name) .none kV6 dc6 pm6 an6 cd6 ct6), sl6⟩)
    (c6 : PySem.W.codeIn K cd6 "_law_name" = true) (k6 : PySem.W.keepIn K (.ref f6) = true)
    (a7 : PySem.W.nsIn K mainGlobals "_law_big" = some (some (.ref f7)))
    (l7 : K.lookup f7 = some ⟨oc7, od7, .func (PySem.W.fnOf "_law_big" "_law_big" (defArgs s_law_big) (defBody s_law_big) (defScope s_law_big) .none kV7 dc7 pm7 an7 cd7 ct7), sl7⟩)
    (c7 : PySem.W.codeIn K cd7 "_law_big" = true) (k7 : PySem.W.keepIn K (.ref f7) = true)
    (a8 : PySem.W.nsIn K mainGlobals "_law_new" = some (some (.ref f8)))
    (l8 : K.lookup f8 = some ⟨oc8, od8, .func (PySem.W.fnOf "_law_new" "_law_new" (defArgs s_law_new) (defBody s_law_new) (defScope s_law_new) .none kV8 dc8 pm8 an8 cd8 ct8), sl8⟩)
    (c8 : PySem.W.codeIn K cd8 "_law_new" = true) (k8 : PySem.W.keepIn K (.ref f8) = true)
    (a9 : PySem.W.nsIn K mainGlobals "_law_kind" = some (some (.ref f9)))
    (l9 : K.lookup f9 = some ⟨oc9, od9, .func (PySem.W.fnOf "_law_kind" "_law_kind" (defArgs s_law_kind) (defBody s_law_kind) (defScope s_law_kind) .none kV9 dc9 pm9 an9 cd9 ct9), sl9⟩)
    (c9 : PySem.W.codeIn K cd9 "_law_kind" = true) (k9 : PySem.W.keepIn K (.ref f9) = true)
    (a10 : PySem.W.nsIn K mainGlobals "_law_is_plain" = some (some (.ref f10)))
    (l10 : K.lookup f10 = some ⟨oc10, od10, .func (PySem.W.fnOf "_law_is_plain" "_law_is_plain" (defArgs s_law_is_plain) (defBody s_law_is_plain) (defScope s_law_is_plain) .none kV10 dc10 pm10 an10 cd10 ct10), sl10⟩)
    (c10 : PySem.W.codeIn K cd10 "_law_is_plain" = true) (k10 : PySem.W.keepIn K (.ref f10) = true)
    (a11 : PySem.W.nsIn K mainGlobals "_law_wide" = some (some (.ref f11)))
    (l11 : K.lookup f11 = some ⟨oc11, od11, .func (PySem.W.fnOf "_law_wide" "_law_wide" (defArgs s_law_wide) (defBody s_law_wide) (defScope s_law_wide) .none kV11 dc11 pm11 an11 cd11 ct11), sl11⟩)
    (c11 : PySem.W.codeIn K cd11 "_law_wide" = true) (k11 : PySem.W.keepIn K (.ref f11) = true)
    (a12 : PySem.W.nsIn K mainGlobals "_law_any_kind" = some (some (.ref f12)))
    (l12 : K.lookup f12 = some ⟨oc12, od12, .func (PySem.W.fnOf "_law_any_kind" "_law_any_kind" (defArgs s_law_any_kind) (defBody s_law_any_kind) (defScope s_law_any_kind) .none kV12 dc12 pm12 an12 cd12 ct12), sl12⟩)
    (c12 : PySem.W.codeIn K cd12 "_law_any_kind" = true) (k12 : PySem.W.keepIn K (.ref f12) = true)
    (a13 : PySem.W.nsIn K mainGlobals "_law_same" = some (some (.ref f13)))
    (l13 : K.lookup f13 = some ⟨oc13, od13, .func (PySem.W.fnOf "_law_same" "_law_same" (defArgs s_law_same) (defBody s_law_same) (defScope s_law_same) .none kV13 dc13 pm13 an13 cd13 ct13), sl13⟩)
    (c13 : PySem.W.codeIn K cd13 "_law_same" = true) (k13 : PySem.W.keepIn K (.ref f13) = true)
    (a14 : PySem.W.nsIn K mainGlobals "_law_size" = some (some (.ref f14)))
    (l14 : K.lookup f14 = some ⟨oc14, od14, .func (PySem.W.fnOf "_law_size" "_law_size" (defArgs s_law_size) (defBody s_law_size) (defScope s_law_size) .none kV14 dc14 pm14 an14 cd14 ct14), sl14⟩)
    (c14 : PySem.W.codeIn K cd14 "_law_size" = true) (k14 : PySem.W.keepIn K (.ref f14) = true)
    (a15 : PySem.W.nsIn K mainGlobals "_law_is_small" = some (some (.ref f15)))
    (l15 : K.lookup f15 = some ⟨oc15, od15, .func (PySem.W.fnOf "_law_is_small" "_law_is_small" (defArgs s_law_is_small) (defBody s_law_is_small) (defScope s_law_is_small) .none kV15 dc15 pm15 an15 cd15 ct15), sl15⟩)
    (c15 : PySem.W.codeIn K cd15 "_law_is_small" = true) (k15 : PySem.W.keepIn K (.ref f15) = true)
    (a16 : PySem.W.nsIn K mainGlobals "_law_records" = some (some (.ref f16)))
    (l16 : K.lookup f16 = some ⟨oc16, od16, .func (PySem.W.fnOf "_law_records" "_law_records" (defArgs s_law_records) (defBody s_law_records) (defScope s_law_records) .none kV16 dc16 pm16 an16 cd16 ct16), sl16⟩)
    (c16 : PySem.W.codeIn K cd16 "_law_records" = true) (k16 : PySem.W.keepIn K (.ref f16) = true)
    (a17 : PySem.W.nsIn K mainGlobals "_law_options" = some (some (.ref f17)))
    (l17 : K.lookup f17 = some ⟨oc17, od17, .func (PySem.W.fnOf "_law_options" "_law_options" (defArgs s_law_options) (defBody s_law_options) (defScope s_law_options) .none kV17 dc17 pm17 an17 cd17 ct17), sl17⟩)
    (c17 : PySem.W.codeIn K cd17 "_law_options" = true) (k17 : PySem.W.keepIn K (.ref f17) = true)
    (a18 : PySem.W.nsIn K mainGlobals "_law_small_kind" = some (some (.ref f18)))
    (l18 : K.lookup f18 = some ⟨oc18, od18, .func (PySem.W.fnOf "_law_small_kind" "_law_small_kind" (defArgs s_law_small_kind) (defBody s_law_small_kind) (defScope s_law_small_kind) .none kV18 dc18 pm18 an18 cd18 ct18), sl18⟩)
    (c18 : PySem.W.codeIn K cd18 "_law_small_kind" = true) (k18 : PySem.W.keepIn K (.ref f18) = true)
    (a19 : PySem.W.nsIn K mainGlobals "_law_table" = some (some (.ref f19)))
    (l19 : K.lookup f19 = some ⟨oc19, od19, .func (PySem.W.fnOf "_law_table" "_law_table" (defArgs s_law_table) (defBody s_law_table) (defScope s_law_table) .none kV19 dc19 pm19 an19 cd19 ct19), sl19⟩)
    (c19 : PySem.W.codeIn K cd19 "_law_table" = true) (k19 : PySem.W.keepIn K (.ref f19) = true)
    (a20 : PySem.W.nsIn K mainGlobals "_law_walk" = some (some (.ref f20)))
    (l20 : K.lookup f20 = some ⟨oc20, od20, .func (PySem.W.fnOf "_law_walk" "_law_walk" (defArgs s_law_walk) (defBody s_law_walk) (defScope s_law_walk) .none kV20 dc20 pm20 an20 cd20 ct20), sl20⟩)
    (c20 : PySem.W.codeIn K cd20 "_law_walk" = true) (k20 : PySem.W.keepIn K (.ref f20) = true)
    (a21 : PySem.W.nsIn K mainGlobals "_law_step" = some (some (.ref f21)))
    (l21 : K.lookup f21 = some ⟨oc21, od21, .func (PySem.W.fnOf "_law_step" "_law_step" (defArgs s_law_step) (defBody s_law_step) (defScope s_law_step) .none kV21 dc21 pm21 an21 cd21 ct21), sl21⟩)
    (c21 : PySem.W.codeIn K cd21 "_law_step" = true) (k21 : PySem.W.keepIn K (.ref f21) = true)
    (a22 : PySem.W.nsIn K mainGlobals "_law_told" = some (some (.ref f22)))
    (l22 : K.lookup f22 = some ⟨oc22, od22, .func (PySem.W.fnOf "_law_told" "_law_told" (defArgs s_law_told) (defBody s_law_told) (defScope s_law_told) .none kV22 dc22 pm22 an22 cd22 ct22), sl22⟩)
    (c22 : PySem.W.codeIn K cd22 "_law_told" = true) (k22 : PySem.W.keepIn K (.ref f22) = true)
    (a23 : PySem.W.nsIn K mainGlobals "_law_followed" = some (some (.ref f23)))
    (l23 : K.lookup f23 = some ⟨oc23, od23, .func (PySem.W.fnOf "_law_followed" "_law_followed" (defArgs s_law_followed) (defBody s_law_followed) (defScope s_law_followed) .none kV23 dc23 pm23 an23 cd23 ct23), sl23⟩)
    (c23 : PySem.W.codeIn K cd23 "_law_followed" = true) (k23 : PySem.W.keepIn K (.ref f23) = true)
    (a24 : PySem.W.nsIn K mainGlobals "law" = some (some (.ref f24)))
    (l24 : K.lookup f24 = some ⟨oc24, od24, .func (PySem.W.fnOf "law" "law" (defArgs s_law) (defBody s_law) (defScope s_law) .none kV24 dc24 pm24 an24 cd24 ct24), sl24⟩)
    (c24 : PySem.W.codeIn K cd24 "law" = true) (k24 : PySem.W.keepIn K (.ref f24) = true)
    (b0 : PySem.W.nsIn K mainGlobals "BORROWS" = some (some (.ref g0)))
    (e0 : K.lookup g0 = some ⟨.type "tuple", gd0, .seq #[.str "shared" t0_0, .str "exclusive" t0_1] gn0, gs0⟩)
    (z0 : PySem.W.nsIn K mainGlobals "ValueError" = some none)
    (z1 : PySem.W.nsIn K mainGlobals "abs" = some none)
    (z2 : PySem.W.nsIn K mainGlobals "bool" = some none)
    (z3 : PySem.W.nsIn K mainGlobals "int" = some none)
    (z4 : PySem.W.nsIn K mainGlobals "isinstance" = some none)
    (z5 : PySem.W.nsIn K mainGlobals "len" = some none)
    (z6 : PySem.W.nsIn K mainGlobals "list" = some none)
    (z7 : PySem.W.nsIn K mainGlobals "range" = some none)
    (z8 : PySem.W.nsIn K mainGlobals "str" = some none)
    (z9 : PySem.W.nsIn K mainGlobals "sum" = some none)
    (z10 : PySem.W.nsIn K mainGlobals "tuple" = some none)
    (gx_NoSuchStep : PySem.W.nsIn K mainGlobals "NoSuchStep" = some (some (.ref x_NoSuchStep)))
    (gx_NoSuchVariable : PySem.W.nsIn K mainGlobals "NoSuchVariable" = some (some (.ref x_NoSuchVariable)))
    (gx_SyntaxProblem : PySem.W.nsIn K mainGlobals "SyntaxProblem" = some (some (.ref x_SyntaxProblem)))
    (gx_Refused : PySem.W.nsIn K mainGlobals "Refused" = some (some (.ref x_Refused)))
    (gx_NotAllocated : PySem.W.nsIn K mainGlobals "NotAllocated" = some (some (.ref x_NotAllocated)))
    (gx_NoSuchFunction : PySem.W.nsIn K mainGlobals "NoSuchFunction" = some (some (.ref x_NoSuchFunction)))
    (gx_KindProblem : PySem.W.nsIn K mainGlobals "KindProblem" = some (some (.ref x_KindProblem)))
    (gx_LendError : PySem.W.nsIn K mainGlobals "LendError" = some (some (.ref x_LendError)))
    (sx_NoSuchStep : PySem.W.subIn K (.ref x_NoSuchStep) (.type "BaseException") = some true) (tx_NoSuchStep : PySem.W.typeIn K (.ref x_NoSuchStep) = some (.type "type"))
    (sx_NoSuchVariable : PySem.W.subIn K (.ref x_NoSuchVariable) (.type "BaseException") = some true) (tx_NoSuchVariable : PySem.W.typeIn K (.ref x_NoSuchVariable) = some (.type "type"))
    (kx_NoSuchStep : PySem.W.keepIn K (.ref x_NoSuchStep) = true) (qx_NoSuchStep : PySem.W.excIn K x_NoSuchStep [.type "ValueError", .type "Exception", .type "BaseException", .type "object"] "ValueError.__new__" = true)
    (kx_NoSuchVariable : PySem.W.keepIn K (.ref x_NoSuchVariable) = true) (qx_NoSuchVariable : PySem.W.excIn K x_NoSuchVariable [.type "ValueError", .type "Exception", .type "BaseException", .type "object"] "ValueError.__new__" = true)
    (hdx_NoSuchVariable : PySem.W.hasDictIn K x_NoSuchVariable = true) (ssx_NoSuchVariable : PySem.W.subIn K (.ref x_NoSuchVariable) (.ref x_NoSuchVariable) = some true)
    (f1x_NoSuchVariable : PySem.W.findIn K (.ref x_NoSuchVariable) "__getattribute__" = some (some (.builtin "BaseException.__getattribute__"))) (f2x_NoSuchVariable : PySem.W.findIn K (.ref x_NoSuchVariable) "__getattr__" = some none) (f5x_NoSuchVariable : PySem.W.findIn K (.ref x_NoSuchVariable) "__class__" = some (some (.builtin "object.__class__")))
    (f6x_NoSuchVariable : PySem.W.specialIn K (.builtin "object.__class__") "__get__" = some (some (.builtin "getset_descriptor.__get__"))) (f7x_NoSuchVariable : PySem.W.takesIn K (.builtin "object.__class__") = some true) (f8x_NoSuchVariable : PySem.W.mroIn K x_NoSuchVariable (.type "object") = some true)
    (ix_NoSuchVariable_NoSuchStep : PySem.W.kitOne K (.ref x_NoSuchVariable) (.ref x_NoSuchStep) = some false)
    (ix_NoSuchVariable_SyntaxProblem : PySem.W.kitOne K (.ref x_NoSuchVariable) (.ref x_SyntaxProblem) = some false)
    (ix_NoSuchVariable_Refused : PySem.W.kitOne K (.ref x_NoSuchVariable) (.ref x_Refused) = some false)
    (ix_NoSuchVariable_NotAllocated : PySem.W.kitOne K (.ref x_NoSuchVariable) (.ref x_NotAllocated) = some false)
    (ix_NoSuchVariable_NoSuchFunction : PySem.W.kitOne K (.ref x_NoSuchVariable) (.ref x_NoSuchFunction) = some false)
    (ix_NoSuchVariable_KindProblem : PySem.W.kitOne K (.ref x_NoSuchVariable) (.ref x_KindProblem) = some false)
    (ix_NoSuchVariable_LendError : PySem.W.kitOne K (.ref x_NoSuchVariable) (.ref x_LendError) = some true)
    (ix_NoSuchVariable_ValueError : PySem.W.kitOne K (.ref x_NoSuchVariable) (.type "ValueError") = some true)
    (hdx_NoSuchStep : PySem.W.hasDictIn K x_NoSuchStep = true) (ssx_NoSuchStep : PySem.W.subIn K (.ref x_NoSuchStep) (.ref x_NoSuchStep) = some true)
    (f1x_NoSuchStep : PySem.W.findIn K (.ref x_NoSuchStep) "__getattribute__" = some (some (.builtin "BaseException.__getattribute__"))) (f2x_NoSuchStep : PySem.W.findIn K (.ref x_NoSuchStep) "__getattr__" = some none) (f5x_NoSuchStep : PySem.W.findIn K (.ref x_NoSuchStep) "__class__" = some (some (.builtin "object.__class__")))
    (f6x_NoSuchStep : PySem.W.specialIn K (.builtin "object.__class__") "__get__" = some (some (.builtin "getset_descriptor.__get__"))) (f7x_NoSuchStep : PySem.W.takesIn K (.builtin "object.__class__") = some true) (f8x_NoSuchStep : PySem.W.mroIn K x_NoSuchStep (.type "object") = some true)
    (ix_NoSuchStep_NoSuchVariable : PySem.W.kitOne K (.ref x_NoSuchStep) (.ref x_NoSuchVariable) = some false)
    (ix_NoSuchStep_SyntaxProblem : PySem.W.kitOne K (.ref x_NoSuchStep) (.ref x_SyntaxProblem) = some false)
    (ix_NoSuchStep_Refused : PySem.W.kitOne K (.ref x_NoSuchStep) (.ref x_Refused) = some false)
    (ix_NoSuchStep_NotAllocated : PySem.W.kitOne K (.ref x_NoSuchStep) (.ref x_NotAllocated) = some false)
    (ix_NoSuchStep_NoSuchFunction : PySem.W.kitOne K (.ref x_NoSuchStep) (.ref x_NoSuchFunction) = some false)
    (ix_NoSuchStep_KindProblem : PySem.W.kitOne K (.ref x_NoSuchStep) (.ref x_KindProblem) = some false)
    (ix_NoSuchStep_LendError : PySem.W.kitOne K (.ref x_NoSuchStep) (.ref x_LendError) = some true)
    (ix_NoSuchStep_ValueError : PySem.W.kitOne K (.ref x_NoSuchStep) (.type "ValueError") = some true)
    (ssn : PySem.W.subIn K (.ref x_NoSuchStep) (.ref x_NoSuchVariable) = some false) :
    ∃ fd : FuncData, (∀ (s : Shared) (v : Value), BindsTo s fd ⟨[v], []⟩ [("script", v)]) ∧ ∀ base : Heap, K.In base → base.Ns mainGlobals mg → FnOk P w K mg base CX0 47 fa fd ["script"] (lSp K sp_law) :=
  law_end (main (FunAt.of X G a0 l0 c0 k0 fun _ _ _ _ _ _ us hl => match us, hl with | [_, _], _ => rfl)
    (FunAt.of X G a1 l1 c1 k1 fun _ _ _ _ _ _ us hl => match us, hl with | [_, _, _], _ => rfl)
    (FunAt.of X G a2 l2 c2 k2 fun _ _ _ _ _ _ us hl => match us, hl with | [_, _, _], _ => rfl)
    (FunAtK.of X G a3 l3 c3 k3 fun _ _ _ _ _ _ us ws hl hw => match us, ws, hl, hw with | [_], [_, _], _, _ => rfl)
    (FunAt.of X G a4 l4 c4 k4 fun _ _ _ _ _ _ us hl => match us, hl with | [_, _, _], _ => rfl)
    (FunAt.of X G a5 l5 c5 k5 fun _ _ _ _ _ _ us hl => match us, hl with | [], _ => rfl)
    (FunAt.of X G a6 l6 c6 k6 fun _ _ _ _ _ _ us hl => match us, hl with | [_, _], _ => rfl)
    (FunAt.of X G a7 l7 c7 k7 fun _ _ _ _ _ _ us hl => match us, hl with | [_, _], _ => rfl)
    (FunAt.of X G a8 l8 c8 k8 fun _ _ _ _ _ _ us hl => match us, hl with | [_, _], _ => rfl)
    (FunAt.of X G a9 l9 c9 k9 fun _ _ _ _ _ _ us hl => match us, hl with | [_, _, _, _, _], _ => rfl)
    (FunAt.of X G a10 l10 c10 k10 fun _ _ _ _ _ _ us hl => match us, hl with | [_], _ => rfl)
    (FunAt.of X G a11 l11 c11 k11 fun _ _ _ _ _ _ us hl => match us, hl with | [_, _], _ => rfl)
    (FunAt.of X G a12 l12 c12 k12 fun _ _ _ _ _ _ us hl => match us, hl with | [_, _, _], _ => rfl)
    (FunAt.of X G a13 l13 c13 k13 fun _ _ _ _ _ _ us hl => match us, hl with | [_, _], _ => rfl)
    (FunAt.of X G a14 l14 c14 k14 fun _ _ _ _ _ _ us hl => match us, hl with | [_, _], _ => rfl)
    (FunAt.of X G a15 l15 c15 k15 fun _ _ _ _ _ _ us hl => match us, hl with | [_, _], _ => rfl)
    (FunAt.of X G a16 l16 c16 k16 fun _ _ _ _ _ _ us hl => match us, hl with | [_, _], _ => rfl)
    (FunAt.of X G a17 l17 c17 k17 fun _ _ _ _ _ _ us hl => match us, hl with | [_, _], _ => rfl)
    (FunAt.of X G a18 l18 c18 k18 fun _ _ _ _ _ _ us hl => match us, hl with | [_, _, _], _ => rfl)
    (FunAt.of X G a19 l19 c19 k19 fun _ _ _ _ _ _ us hl => match us, hl with | [_, _, _], _ => rfl)
    (FunAt.of X G a20 l20 c20 k20 fun _ _ _ _ _ _ us hl => match us, hl with | [_, _, _, _, _], _ => rfl)
    (FunAt.of X G a21 l21 c21 k21 fun _ _ _ _ _ _ us hl => match us, hl with | [_, _, _], _ => rfl)
    (FunAt.of X G a22 l22 c22 k22 fun _ _ _ _ _ _ us hl => match us, hl with | [_, _, _], _ => rfl)
    (FunAt.of X G a23 l23 c23 k23 fun _ _ _ _ _ _ us hl => match us, hl with | [_, _, _], _ => rfl)
    (FunAt.of X G a24 l24 c24 k24 fun _ _ _ _ _ _ us hl => match us, hl with | [_], _ => rfl)
    (ConstAt.tup (vs := [.str "shared", .str "exclusive"]) X G b0 e0 rfl rfl (by rw [PySem.sizeLine_eq]; exact Nat.le_of_ble_eq_true rfl) (.cons ⟨_, rfl⟩ (.cons ⟨_, rfl⟩ (.nil))) fun _ => .cons (.str _) (.cons (.str _) (.nil)))
    (PySem.W.mg_none_of X G z0)
    (PySem.W.mg_none_of X G z1)
    (PySem.W.mg_none_of X G z2)
    (PySem.W.mg_none_of X G z3)
    (PySem.W.mg_none_of X G z4)
    (PySem.W.mg_none_of X G z5)
    (PySem.W.mg_none_of X G z6)
    (PySem.W.mg_none_of X G z7)
    (PySem.W.mg_none_of X G z8)
    (PySem.W.mg_none_of X G z9)
    (PySem.W.mg_none_of X G z10)
    (PySem.W.mg_of X G gx_NoSuchStep)
    (PySem.W.mg_of X G gx_NoSuchVariable)
    (PySem.W.mg_of X G gx_SyntaxProblem)
    (PySem.W.mg_of X G gx_Refused)
    (PySem.W.mg_of X G gx_NotAllocated)
    (PySem.W.mg_of X G gx_NoSuchFunction)
    (PySem.W.mg_of X G gx_KindProblem)
    (PySem.W.mg_of X G gx_LendError)
    ⟨PySem.W.mg_of X G gx_NoSuchStep, kx_NoSuchStep, qx_NoSuchStep, sx_NoSuchStep, tx_NoSuchStep⟩
    ⟨PySem.W.mg_of X G gx_NoSuchVariable, kx_NoSuchVariable, qx_NoSuchVariable, sx_NoSuchVariable, tx_NoSuchVariable⟩
    (PySem.W.exm_ref sx_NoSuchVariable hdx_NoSuchVariable tx_NoSuchVariable ssx_NoSuchVariable)
    ⟨f1x_NoSuchVariable, f2x_NoSuchVariable, sx_NoSuchVariable, hdx_NoSuchVariable, f5x_NoSuchVariable, f6x_NoSuchVariable, f7x_NoSuchVariable, f8x_NoSuchVariable⟩
    ix_NoSuchVariable_NoSuchStep
    ix_NoSuchVariable_SyntaxProblem
    ix_NoSuchVariable_Refused
    ix_NoSuchVariable_NotAllocated
    ix_NoSuchVariable_NoSuchFunction
    ix_NoSuchVariable_KindProblem
    ix_NoSuchVariable_LendError
    ix_NoSuchVariable_ValueError
    (PySem.W.exm_ref sx_NoSuchStep hdx_NoSuchStep tx_NoSuchStep ssx_NoSuchStep)
    ⟨f1x_NoSuchStep, f2x_NoSuchStep, sx_NoSuchStep, hdx_NoSuchStep, f5x_NoSuchStep, f6x_NoSuchStep, f7x_NoSuchStep, f8x_NoSuchStep⟩
    ix_NoSuchStep_NoSuchVariable
    ix_NoSuchStep_SyntaxProblem
    ix_NoSuchStep_Refused
    ix_NoSuchStep_NotAllocated
    ix_NoSuchStep_NoSuchFunction
    ix_NoSuchStep_KindProblem
    ix_NoSuchStep_LendError
    ix_NoSuchStep_ValueError
    (PySem.W.exm_ref sx_NoSuchVariable hdx_NoSuchVariable tx_NoSuchVariable ssn)) hfa
end Q4
open PySem PySem.W PyProof.Rows in
set_option maxRecDepth 100000 in
set_option maxHeartbeats 0 in
theorem PySem.Challenge.cw_lendback_k06_kinds_of_places_holds : PySem.Challenge.rw_lendback_k06_kinds_of_places.Holds := by
  w_on; o_law; k_head; (case hw => w_witness2)
  k_fill
  refine L2.walk_ofK (l := PySem.Challenge.rw_lendback_k06_kinds_of_places) (n := 63) (k := 47) (x := "script") (CX := L2.CX0) (sp := fun K => Q4.lSp K Q4.sp_law) rfl (by decide) rfl ⟨rfl, by decide, by decide⟩ (fun w h Y => PySem.W.kIn_of Y) ?F (fun _ _ _ _ hl ho hS => Q4.law_ask hl ho hS) (fun _ _ _ _ h => h)
  case F =>
    intro w mg fa h KX G hmg
    refine' Q4.all_mk KX G hmg ?a0 ?l0 ?c0 ?k0 ?a1 ?l1 ?c1 ?k1 ?a2 ?l2 ?c2 ?k2 ?a3 ?l3 ?c3 ?k3 ?a4 ?l4 ?c4 ?k4 ?a5 ?l5 ?c5 ?k5 ?a6 ?l6 ?c6 ?k6 ?a7 ?l7 ?c7 ?k7 ?a8 ?l8 ?c8 ?k8 ?a9 ?l9 ?c9 ?k9 ?a10 ?l10 ?c10 ?k10 ?a11 ?l11 ?c11 ?k11 ?a12 ?l12 ?c12 ?k12 ?a13 ?l13 ?c13 ?k13 ?a14 ?l14 ?c14 ?k14 ?a15 ?l15 ?c15 ?k15 ?a16 ?l16 ?c16 ?k16 ?a17 ?l17 ?c17 ?k17 ?a18 ?l18 ?c18 ?k18 ?a19 ?l19 ?c19 ?k19 ?a20 ?l20 ?c20 ?k20 ?a21 ?l21 ?c21 ?k21 ?a22 ?l22 ?c22 ?k22 ?a23 ?l23 ?c23 ?k23 ?a24 ?l24 ?c24 ?k24 ?b0 ?e0 ?z0 ?z1 ?z2 ?z3 ?z4 ?z5 ?z6 ?z7 ?z8 ?z9 ?z10 ?gx_NoSuchStep ?gx_NoSuchVariable ?gx_SyntaxProblem ?gx_Refused ?gx_NotAllocated ?gx_NoSuchFunction ?gx_KindProblem ?gx_LendError ?sx_NoSuchStep ?tx_NoSuchStep ?sx_NoSuchVariable ?tx_NoSuchVariable ?kx_NoSuchStep ?qx_NoSuchStep ?kx_NoSuchVariable ?qx_NoSuchVariable ?hdx_NoSuchVariable ?ssx_NoSuchVariable ?f1x_NoSuchVariable ?f2x_NoSuchVariable ?f5x_NoSuchVariable ?f6x_NoSuchVariable ?f7x_NoSuchVariable ?f8x_NoSuchVariable ?ix_NoSuchVariable_NoSuchStep ?ix_NoSuchVariable_SyntaxProblem ?ix_NoSuchVariable_Refused ?ix_NoSuchVariable_NotAllocated ?ix_NoSuchVariable_NoSuchFunction ?ix_NoSuchVariable_KindProblem ?ix_NoSuchVariable_LendError ?ix_NoSuchVariable_ValueError ?hdx_NoSuchStep ?ssx_NoSuchStep ?f1x_NoSuchStep ?f2x_NoSuchStep ?f5x_NoSuchStep ?f6x_NoSuchStep ?f7x_NoSuchStep ?f8x_NoSuchStep ?ix_NoSuchStep_NoSuchVariable ?ix_NoSuchStep_SyntaxProblem ?ix_NoSuchStep_Refused ?ix_NoSuchStep_NotAllocated ?ix_NoSuchStep_NoSuchFunction ?ix_NoSuchStep_KindProblem ?ix_NoSuchStep_LendError ?ix_NoSuchStep_ValueError ?ssn
    (case a0 => k_is)
    (case l0 => k_is)
    (case c0 => k_is)
    (case k0 => k_is)
    (case a1 => k_is)
    (case l1 => k_is)
    (case c1 => k_is)
    (case k1 => k_is)
    (case a2 => k_is)
    (case l2 => k_is)
    (case c2 => k_is)
    (case k2 => k_is)
    (case a3 => k_is)
    (case l3 => k_is)
    (case c3 => k_is)
    (case k3 => k_is)
    (case a4 => k_is)
    (case l4 => k_is)
    (case c4 => k_is)
    (case k4 => k_is)
    (case a5 => k_is)
    (case l5 => k_is)
    (case c5 => k_is)
    (case k5 => k_is)
    (case a6 => k_is)
    (case l6 => k_is)
    (case c6 => k_is)
    (case k6 => k_is)
    (case a7 => k_is)
    (case l7 => k_is)
    (case c7 => k_is)
    (case k7 => k_is)
    (case a8 => k_is)
    (case l8 => k_is)
    (case c8 => k_is)
    (case k8 => k_is)
    (case a9 => k_is)
    (case l9 => k_is)
    (case c9 => k_is)
    (case k9 => k_is)
    (case a10 => k_is)
    (case l10 => k_is)
    (case c10 => k_is)
    (case k10 => k_is)
    (case a11 => k_is)
    (case l11 => k_is)
    (case c11 => k_is)
    (case k11 => k_is)
    (case a12 => k_is)
    (case l12 => k_is)
    (case c12 => k_is)
    (case k12 => k_is)
    (case a13 => k_is)
    (case l13 => k_is)
    (case c13 => k_is)
    (case k13 => k_is)
    (case a14 => k_is)
    (case l14 => k_is)
    (case c14 => k_is)
    (case k14 => k_is)
    (case a15 => k_is)
    (case l15 => k_is)
    (case c15 => k_is)
    (case k15 => k_is)
    (case a16 => k_is)
    (case l16 => k_is)
    (case c16 => k_is)
    (case k16 => k_is)
    (case a17 => k_is)
    (case l17 => k_is)
    (case c17 => k_is)
    (case k17 => k_is)
    (case a18 => k_is)
    (case l18 => k_is)
    (case c18 => k_is)
    (case k18 => k_is)
    (case a19 => k_is)
    (case l19 => k_is)
    (case c19 => k_is)
    (case k19 => k_is)
    (case a20 => k_is)
    (case l20 => k_is)
    (case c20 => k_is)
    (case k20 => k_is)
    (case a21 => k_is)
    (case l21 => k_is)
    (case c21 => k_is)
    (case k21 => k_is)
    (case a22 => k_is)
    (case l22 => k_is)
    (case c22 => k_is)
    (case k22 => k_is)
    (case a23 => k_is)
    (case l23 => k_is)
    (case c23 => k_is)
    (case k23 => k_is)
    (case a24 => k_is)
    (case l24 => k_is)
    (case c24 => k_is)
    (case k24 => k_is)
    (case b0 => k_is)
    (case e0 => k_is)
    (case z0 => k_is)
    (case z1 => k_is)
    (case z2 => k_is)
    (case z3 => k_is)
    (case z4 => k_is)
    (case z5 => k_is)
    (case z6 => k_is)
    (case z7 => k_is)
    (case z8 => k_is)
    (case z9 => k_is)
    (case z10 => k_is)
    (case gx_NoSuchStep => k_is)
    (case gx_NoSuchVariable => k_is)
    (case gx_SyntaxProblem => k_is)
    (case gx_Refused => k_is)
    (case gx_NotAllocated => k_is)
    (case gx_NoSuchFunction => k_is)
    (case gx_KindProblem => k_is)
    (case gx_LendError => k_is)
    (case sx_NoSuchStep => k_is)
    (case tx_NoSuchStep => k_is)
    (case sx_NoSuchVariable => k_is)
    (case tx_NoSuchVariable => k_is)
    (case kx_NoSuchStep => k_is)
    (case qx_NoSuchStep => k_exc)
    (case kx_NoSuchVariable => k_is)
    (case qx_NoSuchVariable => k_exc)
    (case hdx_NoSuchVariable => k_is)
    (case ssx_NoSuchVariable => k_is)
    (case f1x_NoSuchVariable => k_is)
    (case f2x_NoSuchVariable => k_is)
    (case f5x_NoSuchVariable => k_is)
    (case f6x_NoSuchVariable => k_is)
    (case f7x_NoSuchVariable => k_is)
    (case f8x_NoSuchVariable => k_is)
    (case ix_NoSuchVariable_NoSuchStep => kit_is)
    (case ix_NoSuchVariable_SyntaxProblem => kit_is)
    (case ix_NoSuchVariable_Refused => kit_is)
    (case ix_NoSuchVariable_NotAllocated => kit_is)
    (case ix_NoSuchVariable_NoSuchFunction => kit_is)
    (case ix_NoSuchVariable_KindProblem => kit_is)
    (case ix_NoSuchVariable_LendError => kit_is)
    (case ix_NoSuchVariable_ValueError => kit_is)
    (case hdx_NoSuchStep => k_is)
    (case ssx_NoSuchStep => k_is)
    (case f1x_NoSuchStep => k_is)
    (case f2x_NoSuchStep => k_is)
    (case f5x_NoSuchStep => k_is)
    (case f6x_NoSuchStep => k_is)
    (case f7x_NoSuchStep => k_is)
    (case f8x_NoSuchStep => k_is)
    (case ix_NoSuchStep_NoSuchVariable => kit_is)
    (case ix_NoSuchStep_SyntaxProblem => kit_is)
    (case ix_NoSuchStep_Refused => kit_is)
    (case ix_NoSuchStep_NotAllocated => kit_is)
    (case ix_NoSuchStep_NoSuchFunction => kit_is)
    (case ix_NoSuchStep_KindProblem => kit_is)
    (case ix_NoSuchStep_LendError => kit_is)
    (case ix_NoSuchStep_ValueError => kit_is)
    (case ssn => k_is)
