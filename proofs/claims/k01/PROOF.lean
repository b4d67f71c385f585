import PyProof.Rows.All
import Wide.All
import OpenK.AllK
import Wide.FinOn
import HandS.ForMost
import HandS.ForExc
import HandS.IsInst
import HandS.Wide
import HandS.StrMore
import HandS.Conv
import HandS.FStr
import HandS.EndBits
import HandS.RaiseMore
import HandS.ReplaceLit
import HandS.ExcIs
import HandS.ReplaceList
import PySem.Challenge.RW_seamgraph_k01_types_and_names
set_option Elab.async false
set_option linter.all false
set_option maxRecDepth 100000
set_option maxHeartbeats 2000000
/-! A layer over the hand layer: values as trees, what is read as predicate transformers over them -/
namespace Dl
open PySem L2
/-- a value as a tree; drw: the one object that the draws change -/
inductive D where
  | non | bl (b : Bool) | int (i : Int) | str (s : Str)
  | lst (xs : List D) | tup (xs : List D) | dic (kvs : List (Key × D)) | ins (C : Str) (fs : List (Str × D)) | drw | scr (ns : List Int) | ty (n : String) | rf (a : Addr)
def D.I (d : D) (Q : Int → Prop) : Prop := match d with
  | .int i => Q i
  | _ => False
def D.B (d : D) (Q : Bool → Prop) : Prop := match d with
  | .bl i => Q i
  | _ => False
def D.S (d : D) (Q : Str → Prop) : Prop := match d with
  | .str i => Q i
  | _ => False
def D.L (d : D) (Q : List D → Prop) : Prop := match d with
  | .lst i => Q i
  | _ => False
def D.T (d : D) (Q : List D → Prop) : Prop := match d with
  | .tup i => Q i
  | _ => False
def D.K (d : D) (Q : List (Key × D) → Prop) : Prop := match d with
  | .dic i => Q i
  | _ => False
theorem D.I_ex {d : D} {Q : Int → Prop} (h : d.I Q) : ∃ i, d = .int i ∧ Q i := by
  cases d <;> first | exact ⟨_, rfl, h⟩ | exact h.elim
theorem D.B_ex {d : D} {Q : Bool → Prop} (h : d.B Q) : ∃ i, d = .bl i ∧ Q i := by
  cases d <;> first | exact ⟨_, rfl, h⟩ | exact h.elim
theorem D.S_ex {d : D} {Q : Str → Prop} (h : d.S Q) : ∃ i, d = .str i ∧ Q i := by
  cases d <;> first | exact ⟨_, rfl, h⟩ | exact h.elim
theorem D.L_ex {d : D} {Q : List D → Prop} (h : d.L Q) : ∃ i, d = .lst i ∧ Q i := by
  cases d <;> first | exact ⟨_, rfl, h⟩ | exact h.elim
theorem D.T_ex {d : D} {Q : List D → Prop} (h : d.T Q) : ∃ i, d = .tup i ∧ Q i := by
  cases d <;> first | exact ⟨_, rfl, h⟩ | exact h.elim
theorem D.K_ex {d : D} {Q : List (Key × D) → Prop} (h : d.K Q) : ∃ i, d = .dic i ∧ Q i := by
  cases d <;> first | exact ⟨_, rfl, h⟩ | exact h.elim
structure Wc where
  K : PySem.W.Frag
  mg : Str → Option Value
  s : Addr
mutual
inductive Rp (c : Wc) (Z : Hp) : V → D → Prop
  | non : Rp c Z .non .non
  | bl (b : Bool) : Rp c Z (.bl b) (.bl b)
  | int (i : Int) : Rp c Z (.int i) (.int i)
  | str (x : Str) : Rp c Z (.str x) (.str x)
  | lst {a : Addr} {xs : List V} {ds : List D} : Z a = some (.lst xs) → RpA c Z xs ds → Rp c Z (.ref a) (.lst ds)
  | tup {a : Addr} {xs : List V} {ds : List D} : SqT c.K Z a xs → RpA c Z xs ds → Rp c Z (.ref a) (.tup ds)
  | dic {a : Addr} {xs : List (Key × V)} {ds : List (Key × D)} : Z a = some (.dK xs) → RpK c Z xs ds → Rp c Z (.ref a) (.dic ds)
  | ins {a C dx : Addr} {n : Str} {fs : List (Str × V)} {ds : List (Str × D)} : c.mg n = some (.ref C) → Z a = some (.ins C dx fs) → RpF c Z fs ds → Rp c Z (.ref a) (.ins n ds)
  | drw : Rp c Z (.ref c.s) .drw
  | scr {a : Addr} {ns : List Int} : SqL c.K Z a (ns.map V.int) → Rp c Z (.ref a) (.scr ns)
  | ty (n : String) : Rp c Z (.ty n) (.ty n)
  | rf (a : Addr) : Rp c Z (.ref a) (.rf a)
inductive RpA (c : Wc) (Z : Hp) : List V → List D → Prop
  | nil : RpA c Z [] []
  | cons {v : V} {vs : List V} {d : D} {ds : List D} : Rp c Z v d → RpA c Z vs ds → RpA c Z (v :: vs) (d :: ds)
inductive RpK (c : Wc) (Z : Hp) : List (Key × V) → List (Key × D) → Prop
  | nil : RpK c Z [] []
  | cons {k : Key} {v : V} {vs : List (Key × V)} {d : D} {ds : List (Key × D)} : Rp c Z v d → RpK c Z vs ds → RpK c Z ((k, v) :: vs) ((k, d) :: ds)
inductive RpF (c : Wc) (Z : Hp) : List (Str × V) → List (Str × D) → Prop
  | nil : RpF c Z [] []
  | cons {k : Str} {v : V} {vs : List (Str × V)} {d : D} {ds : List (Str × D)} : Rp c Z v d → RpF c Z vs ds → RpF c Z ((k, v) :: vs) ((k, d) :: ds)
end
section
variable {c : Wc} {Z Z' : Hp}
theorem same_t {K : PySem.W.Frag} {H H' : Hp} {a : Addr} {xs : List V} (e : Same H H') (h : SqT K H a xs) : SqT K H' a xs := by
  rcases h with (h | ⟨o, h⟩) | h
  · exact .inl (.inl (e _ _ h))
  · exact .inl (.inr ⟨o, e _ _ h⟩)
  · exact .inr h
mutual
theorem Rp.mono (e : Same Z Z') : ∀ {v : V} {d : D}, Rp c Z v d → Rp c Z' v d
  | _, _, .non => .non
  | _, _, .bl b => .bl b
  | _, _, .int i => .int i
  | _, _, .str x => .str x
  | _, _, .lst h r => .lst (e _ _ h) (RpA.mono e r)
  | _, _, .tup h r => .tup (same_t e h) (RpA.mono e r)
  | _, _, .dic h r => .dic (e _ _ h) (RpK.mono e r)
  | _, _, .ins n h r => .ins n (e _ _ h) (RpF.mono e r)
  | _, _, .drw => .drw
  | _, _, .scr h => .scr (e.seq h)
  | _, _, .ty n => .ty n
  | _, _, .rf a => .rf a
theorem RpA.mono (e : Same Z Z') : ∀ {v : List V} {d : List D}, RpA c Z v d → RpA c Z' v d
  | _, _, .nil => .nil
  | _, _, .cons h r => .cons (Rp.mono e h) (RpA.mono e r)
theorem RpK.mono (e : Same Z Z') : ∀ {v : List (Key × V)} {d : List (Key × D)}, RpK c Z v d → RpK c Z' v d
  | _, _, .nil => .nil
  | _, _, .cons h r => .cons (Rp.mono e h) (RpK.mono e r)
theorem RpF.mono (e : Same Z Z') : ∀ {v : List (Str × V)} {d : List (Str × D)}, RpF c Z v d → RpF c Z' v d
  | _, _, .nil => .nil
  | _, _, .cons h r => .cons (Rp.mono e h) (RpF.mono e r)
end
theorem RpA.length : ∀ {vs : List V} {ds : List D}, RpA c Z vs ds → vs.length = ds.length
  | _, _, .nil => rfl
  | _, _, .cons _ r => by rw [List.length_cons, List.length_cons, RpA.length r]
theorem RpA.get : ∀ {vs : List V} {ds : List D} (i : Nat) {d : D}, RpA c Z vs ds → ds[i]? = some d → ∃ v, vs[i]? = some v ∧ Rp c Z v d
  | _, _, i, _, .nil, h => by simp at h
  | _, _, 0, _, .cons h _, e => by
    rw [List.getElem?_cons_zero] at e
    cases e
    exact ⟨_, rfl, h⟩
  | _, _, i + 1, _, .cons _ r, e => by
    rw [List.getElem?_cons_succ] at e
    obtain ⟨v, h1, h2⟩ := RpA.get i r e
    exact ⟨v, by rw [List.getElem?_cons_succ]; exact h1, h2⟩
theorem RpA.getV : ∀ {vs : List V} {ds : List D} (i : Nat) {v : V}, RpA c Z vs ds → vs[i]? = some v → ∃ d, ds[i]? = some d ∧ Rp c Z v d
  | _, _, i, _, .nil, h => by simp at h
  | _, _, 0, _, .cons h _, e => by
    rw [List.getElem?_cons_zero] at e
    cases e
    exact ⟨_, rfl, h⟩
  | _, _, i + 1, _, .cons _ r, e => by
    rw [List.getElem?_cons_succ] at e
    obtain ⟨v, h1, h2⟩ := RpA.getV i r e
    exact ⟨v, by rw [List.getElem?_cons_succ]; exact h1, h2⟩
theorem RpA.append : ∀ {vs ws : List V} {ds es : List D}, RpA c Z vs ds → RpA c Z ws es → RpA c Z (vs ++ ws) (ds ++ es)
  | _, _, _, _, .nil, h => h
  | _, _, _, _, .cons h r, h2 => .cons h (RpA.append r h2)
theorem RpA.drop : ∀ {vs : List V} {ds : List D} (n : Nat), RpA c Z vs ds → RpA c Z (vs.drop n) (ds.drop n)
  | _, _, 0, h => h
  | _, _, n + 1, .nil => .nil
  | _, _, n + 1, .cons _ r => RpA.drop n r
theorem RpA.take : ∀ {vs : List V} {ds : List D} (n : Nat), RpA c Z vs ds → RpA c Z (vs.take n) (ds.take n)
  | _, _, 0, _ => .nil
  | _, _, n + 1, .nil => .nil
  | _, _, n + 1, .cons h r => .cons h (RpA.take n r)
theorem RpA.set : ∀ {vs : List V} {ds : List D} (n : Nat) {v : V} {d : D}, RpA c Z vs ds → Rp c Z v d → RpA c Z (vs.set n v) (ds.set n d)
  | _, _, _, _, _, .nil, _ => .nil
  | _, _, 0, _, _, .cons h r, q => .cons q r
  | _, _, n + 1, _, _, .cons h r, q => .cons h (RpA.set n r q)
end
/-- the draws' object: two numbers, none below 0 -/
def StOk (s : Addr) (H : Hp) : Prop := ∃ i j : Int, H s = some (.lst [.int i, .int j]) ∧ 0 ≤ i ∧ 0 ≤ j
/-- the trees stand in the heap, apart from the draws' object -/
structure Bs (s : Addr) (Z H : Hp) : Prop where
  zh : Same Z H
  st : StOk s H
  zs : Z s = none
/-- from (Z, H) to (Z', H'): trees are added at new places, all else stands but the draws' object -/
structure Stp (s : Addr) (Z H Z' H' : Hp) : Prop where
  zz : Same Z Z'
  bs : Bs s Z' H'
  nw : ∀ a o, Z' a = some o → Z a = some o ∨ H a = none
  hh : ∀ a o, H a = some o → a ≠ s → H' a = some o
section
variable {s : Addr} {Z H Z' H' Z2 H2 : Hp}
theorem StOk.ne {p : Addr} (h : StOk s H) (e : H p = none) : s ≠ p := fun z => by
  obtain ⟨_, _, h, _⟩ := h
  rw [z, e] at h
  cases h
theorem Stp.refl (h : Bs s Z H) : Stp s Z H Z H := ⟨Same.refl _, h, fun _ _ e => .inl e, fun _ _ e _ => e⟩
theorem Stp.free {a : Addr} (h : Stp s Z H Z' H') (st : StOk s H) (e : H' a = none) : H a = none := by
  cases q : H a with
  | none => rfl
  | some o =>
    by_cases z : a = s
    · obtain ⟨i, j, h1, _⟩ := h.bs.st
      rw [z, h1] at e
      cases e
    · rw [h.hh a o q z] at e
      cases e
theorem Stp.trans (h : Stp s Z H Z' H') (h2 : Stp s Z' H' Z2 H2) (b : StOk s H) : Stp s Z H Z2 H2 :=
  ⟨h.zz.trans h2.zz, h2.bs, fun a o e => by
    rcases h2.nw a o e with e1 | e1
    · exact h.nw a o e1
    · exact .inr (h.free b e1), fun a o e n => h2.hh a o (h.hh a o e n) n⟩
/-- a new tree -/
theorem Stp.add {p : Addr} {o : HO} (h : Bs s Z H) (n : H p = none) : Stp s Z H (upd Z p o) (upd H p o) := by
  have zn : Z p = none := h.zh.free n
  have ne : s ≠ p := h.st.ne n
  refine ⟨fun a u e => by rw [upd_ne (ne_of_none e zn)]; exact e, ⟨fun a u e => ?_, ?_, by rw [upd_ne ne]; exact h.zs⟩, fun a u e => ?_, fun a u e _ => by rw [upd_ne (ne_of_none e n)]; exact e⟩
  · by_cases z : a = p
    · subst z
      rw [upd_same] at e ⊢
      exact e
    · rw [upd_ne z] at e ⊢
      exact h.zh a u e
  · obtain ⟨i, j, h1, h2, h3⟩ := h.st
    exact ⟨i, j, by rw [upd_ne ne]; exact h1, h2, h3⟩
  · by_cases z : a = p
    · subst z
      exact .inr n
    · rw [upd_ne z] at e
      exact .inl e
/-- a new object that is not yet a tree -/
theorem Stp.own {p : Addr} {o : HO} (h : Bs s Z H) (n : H p = none) : Stp s Z H Z (upd H p o) := by
  have ne : s ≠ p := h.st.ne n
  refine ⟨Same.refl _, ⟨fun a u e => by rw [upd_ne (ne_of_none (h.zh a u e) n)]; exact h.zh a u e, ?_, h.zs⟩, fun a u e => .inl e, fun a u e _ => by rw [upd_ne (ne_of_none e n)]; exact e⟩
  obtain ⟨i, j, h1, h2, h3⟩ := h.st
  exact ⟨i, j, by rw [upd_ne ne]; exact h1, h2, h3⟩
end
/-- what a name holds: nothing that is known, a tree, a list or a dict of this def's own that may still change -/
inductive Sl where
  | un | val (d : D) | ol (ds : List D) | od (kvs : List (Key × D))
abbrev En := List Sl
def SlOk (c : Wc) (Z H : Hp) : Sl → Option V → Prop
  | .un, _ => True
  | .val d, o => ∃ v, o = some v ∧ Rp c Z v d
  | .ol ds, o => ∃ a vs, o = some (.ref a) ∧ H a = some (.lst vs) ∧ RpA c Z vs ds
  | .od ds, o => ∃ a vs, o = some (.ref a) ∧ H a = some (.dK vs) ∧ RpK c Z vs ds
def Sl.own : Sl → Bool
  | .ol _ => true
  | .od _ => true
  | _ => false
/-- an error: its class by name, its fields where it has any -/
structure Exn where
  cls : Str
  fs : Option (List (Str × D))
def ExR (c : Wc) (Z H : Hp) (ex : Exn) (cls : Value) (od : Option Addr) : Prop :=
  ∃ C : Addr, c.mg ex.cls = some (.ref C) ∧ cls = .ref C ∧ match ex.fs with
    | none => od = none
    | some ds => ∃ d fs, od = some d ∧ H d = some (.xd fs) ∧ RpF c Z fs ds
/-- the wishes: where the draws' object stands, what is wished of errors (of trees, of the hand layer) -/
structure Cc where
  s : Addr
  xd : Exn → Prop
  xk : XK
abbrev wc (X : Cx) (s : Addr) : Wc := ⟨X.K, X.mg, s⟩
structure Rt where
  Z0 : Hp
  H0 : Hp
  Zl : Hp
structure Ok (c : Wc) (k : Cc) (r : Rt) (Z H : Hp) (σ : St) (ρ : En) : Prop where
  en : Stp c.s r.Z0 r.H0 Z H
  s0 : StOk c.s r.H0
  lb : Same r.Zl Z
  sl : ∀ (i : Nat) (t : Sl), ρ[i]? = some t → ∃ o, σ[i]? = some o ∧ SlOk c Z H t o
  ow : ∀ (i : Nat) (t : Sl) (a : Addr), ρ[i]? = some t → t.own = true → σ[i]? = some (some (.ref a)) → Z a = none ∧ r.H0 a = none ∧ a ≠ c.s
  ds : ∀ (i j : Nat) (t u : Sl) (a : Addr), i ≠ j → ρ[i]? = some t → ρ[j]? = some u → t.own = true → u.own = true → σ[i]? = some (some (.ref a)) → σ[j]? ≠ some (some (.ref a))
  lk : ∀ (Z H : Hp) (ex : Exn) (cls : Value) (od : Option Addr), Stp c.s r.Z0 r.H0 Z H → ExR c Z H ex cls od → k.xd ex → k.xk cls od H
section
variable {c : Wc} {k : Cc} {r : Rt} {Z H Z' H' : Hp} {σ : St} {ρ : En}
theorem SlOk.own {t : Sl} {o : Option V} (h : SlOk c Z H t o) (ho : t.own = true) : ∃ a u, o = some (.ref a) ∧ H a = some u := by
  cases t with
  | un => cases ho
  | val d => cases ho
  | ol ds =>
    obtain ⟨a, vs, h1, h2, _⟩ := h
    exact ⟨a, _, h1, h2⟩
  | od ds =>
    obtain ⟨a, vs, h1, h2, _⟩ := h
    exact ⟨a, _, h1, h2⟩
theorem Ok.bs (h : Ok c k r Z H σ ρ) : Bs c.s Z H := h.en.bs
theorem SlOk.stp {t : Sl} {o : Option V} (h : SlOk c Z H t o) (e : Stp c.s Z H Z' H') (n : t.own = true → ∀ a, o = some (.ref a) → a ≠ c.s) : SlOk c Z' H' t o := by
  cases t with
  | un => trivial
  | val d =>
    obtain ⟨v, h1, h2⟩ := h
    exact ⟨v, h1, h2.mono e.zz⟩
  | ol ds =>
    obtain ⟨a, vs, h1, h2, h3⟩ := h
    exact ⟨a, vs, h1, e.hh _ _ h2 (n rfl a h1), h3.mono e.zz⟩
  | od ds =>
    obtain ⟨a, vs, h1, h2, h3⟩ := h
    exact ⟨a, vs, h1, e.hh _ _ h2 (n rfl a h1), h3.mono e.zz⟩
theorem Ok.stp (h : Ok c k r Z H σ ρ) (e : Stp c.s Z H Z' H') : Ok c k r Z' H' σ ρ := by
  refine ⟨h.en.trans e h.s0, h.s0, h.lb.trans e.zz, fun i t ht => ?_, fun i t a ht ho ha => ?_, h.ds, h.lk⟩
  · obtain ⟨o, h1, h2⟩ := h.sl i t ht
    exact ⟨o, h1, h2.stp e fun hw a ea => (h.ow i t a ht hw (by rw [h1, ea])).2.2⟩
  · obtain ⟨q1, q2, q3⟩ := h.ow i t a ht ho ha
    refine ⟨?_, q2, q3⟩
    obtain ⟨o, h1, h2⟩ := h.sl i t ht
    obtain ⟨b, u, h3, h4⟩ := h2.own ho
    rw [h1, h3] at ha
    cases ha
    cases z : Z' a with
    | none => rfl
    | some w =>
      rcases e.nw a w z with z1 | z1
      · rw [q1] at z1
        cases z1
      · rw [h4] at z1
        cases z1
/-- a name is given a tree -/
theorem Ok.set {i : Nat} {v : V} {d : D} (h : Ok c k r Z H σ ρ) (hv : Rp c Z v d) : Ok c k r Z H (σ.set i (some v)) (ρ.set i (.val d)) := by
  refine ⟨h.en, h.s0, h.lb, fun j t ht => ?_, fun j t a ht ho ha => ?_, fun j l t u a hjl ht hu ho ho' ha => ?_, h.lk⟩
  · by_cases hj : i = j
    · subst hj
      rw [List.getElem?_set] at ht
      rw [if_pos rfl] at ht
      split at ht
      · rename_i hl
        cases ht
        obtain ⟨o, h1, _⟩ := h.sl i _ (List.getElem?_eq_getElem hl)
        have hl2 : i < σ.length := (List.getElem?_eq_some_iff.mp h1).1
        refine ⟨some v, by rw [List.getElem?_set_self hl2], v, rfl, hv⟩
      · cases ht
    · rw [List.getElem?_set_ne hj] at ht ⊢
      exact h.sl j t ht
  · by_cases hj : i = j
    · subst hj
      rw [List.getElem?_set, if_pos rfl] at ht
      split at ht
      · cases ht
        cases ho
      · cases ht
    · rw [List.getElem?_set_ne hj] at ht ha
      exact h.ow j t a ht ho ha
  · have hj : i ≠ j := fun e => by
      subst e
      rw [List.getElem?_set, if_pos rfl] at ht
      split at ht
      · cases ht
        cases ho
      · cases ht
    have hl : i ≠ l := fun e => by
      subst e
      rw [List.getElem?_set, if_pos rfl] at hu
      split at hu
      · cases hu
        cases ho'
      · cases hu
    rw [List.getElem?_set_ne hj] at ht ha
    rw [List.getElem?_set_ne hl] at hu ⊢
    exact h.ds j l t u a hjl ht hu ho ho' ha
end
/-! ### judgements -/
abbrev WE := En → (D → Prop) → Prop
abbrev WA := En → (List D → Prop) → Prop
abbrev WT := En → (Bool → Prop) → Prop
structure DEnds where
  nx : En → Prop
  rt : D → Prop
  bk : En → Prop := fun _ => False
  ct : En → Prop := fun _ => False
abbrev WS := DEnds → En → Prop
def DE (X : Cx) (k : Cc) (e : Expr) (w : WE) : Prop := ∃ t, PE X e t ∧ ∀ (r : Rt) (Z H : Hp) (σ : St) (ρ : En) (Qd : D → Prop) (Q : VK), Ok (wc X k.s) k r Z H σ ρ → w ρ Qd →
  (∀ d v Z' H', Stp k.s Z H Z' H' → Rp (wc X k.s) Z' v d → Qd d → Q v H') → t σ H Q
def DA (X : Cx) (k : Cc) (es : List Expr) (w : WA) : Prop := ∃ t, PA X es t ∧ ∀ (r : Rt) (Z H : Hp) (σ : St) (ρ : En) (Qd : List D → Prop) (Q : List V → Hp → Prop), Ok (wc X k.s) k r Z H σ ρ → w ρ Qd →
  (∀ d v Z' H', Stp k.s Z H Z' H' → RpA (wc X k.s) Z' v d → Qd d → Q v H') → t σ H Q
def DT (X : Cx) (k : Cc) (e : Expr) (w : WT) : Prop := ∃ t, PT X e t ∧ ∀ (r : Rt) (Z H : Hp) (σ : St) (ρ : En) (Qd : Bool → Prop) (Q : Bool → Hp → Prop), Ok (wc X k.s) k r Z H σ ρ → w ρ Qd →
  (∀ b Z' H', Stp k.s Z H Z' H' → Qd b → Q b H') → t σ H Q
def DW (X : Cx) (k : Cc) (e : Expr) (w : WT) : Prop := ∃ t, PW X e t ∧ ∀ (r : Rt) (Z H : Hp) (σ : St) (ρ : En) (Qd : Bool → Prop) (Q : Bool → Hp → Prop), Ok (wc X k.s) k r Z H σ ρ → w ρ Qd →
  (∀ b Z' H', Stp k.s Z H Z' H' → Qd b → Q b H') → t σ H Q
structure Lk (c : Wc) (k : Cc) (r : Rt) (d : DEnds) (D : Ends) : Prop where
  nx : ∀ Z H σ ρ, Ok c k r Z H σ ρ → d.nx ρ → D.nx σ H
  rt : ∀ Z H v x, Stp c.s r.Z0 r.H0 Z H → Rp c Z v x → d.rt x → D.rt v H
  bk : ∀ Z H σ ρ, Ok c k r Z H σ ρ → d.bk ρ → D.bk σ H
  ct : ∀ Z H σ ρ, Ok c k r Z H σ ρ → d.ct ρ → D.ct σ H
def DS (X : Cx) (k : Cc) (st : Stmt) (w : WS) : Prop := ∃ t, PS X st t ∧ ∀ (r : Rt) (Z H : Hp) (σ : St) (ρ : En) (d : DEnds) (E : Ends), Ok (wc X k.s) k r Z H σ ρ → Lk (wc X k.s) k r d E → w d ρ → t E σ H
def DB (X : Cx) (k : Cc) (sts : List Stmt) (w : WS) : Prop := ∃ t, PSs X sts t ∧ ∀ (r : Rt) (Z H : Hp) (σ : St) (ρ : En) (d : DEnds) (E : Ends), Ok (wc X k.s) k r Z H σ ρ → Lk (wc X k.s) k r d E → w d ρ → t E σ H
abbrev WG := D → En → (En → Prop) → Prop
def DG (X : Cx) (k : Cc) (tg : Expr) (us : List Nat) (w : WG) : Prop := ∃ g, PG X tg g ∧ ∀ (r : Rt) (Z H : Hp) (σ : St) (ρ : En) (v : V) (d : D) (Qd : En → Prop) (Q : St → Hp → Prop), Ok (wc X k.s) k r Z H σ ρ → Rp (wc X k.s) Z v d → w d ρ Qd →
  (∀ σ' ρ', Ok (wc X k.s) k r Z H σ' ρ' → (∀ vs, (∀ i ∈ us, i ∈ vs) → wipe σ' vs = wipe σ vs) → Qd ρ' → Q σ' H) → g v σ H Q
abbrev WGs := List D → En → (En → Prop) → Prop
def DGs (X : Cx) (k : Cc) (tgs : List Expr) (us : List Nat) (w : WGs) : Prop := ∃ g, PGs X tgs g ∧ ∀ (r : Rt) (Z H : Hp) (σ : St) (ρ : En) (vs : List V) (ds : List D) (Qd : En → Prop) (Q : St → Hp → Prop), Ok (wc X k.s) k r Z H σ ρ → RpA (wc X k.s) Z vs ds → w ds ρ Qd →
  (∀ σ' ρ', Ok (wc X k.s) k r Z H σ' ρ' → (∀ vs, (∀ i ∈ us, i ∈ vs) → wipe σ' vs = wipe σ vs) → Qd ρ' → Q σ' H) → g vs σ H Q
/-- an operation of two values, of trees -/
abbrev R2D := D → D → (D → Prop) → Prop
def Op2 (X : Cx) (k : Cc) (r : R2) (rd : R2D) : Prop := ∀ (Z H : Hp) (x y : V) (a b : D) (Qd : D → Prop) (Q : VK), Bs k.s Z H → Rp (wc X k.s) Z x a → Rp (wc X k.s) Z y b → rd a b Qd →
  (∀ d v Z' H', Stp k.s Z H Z' H' → Rp (wc X k.s) Z' v d → Qd d → Q v H') → r x y H Q
abbrev R1D := D → (D → Prop) → Prop
def Op1 (X : Cx) (k : Cc) (r : V → Hp → VK → Prop) (rd : R1D) : Prop := ∀ (Z H : Hp) (x : V) (a : D) (Qd : D → Prop) (Q : VK), Bs k.s Z H → Rp (wc X k.s) Z x a → rd a Qd →
  (∀ d v Z' H', Stp k.s Z H Z' H' → Rp (wc X k.s) Z' v d → Qd d → Q v H') → r x H Q
abbrev RAD := List D → (D → Prop) → Prop
def OpA (X : Cx) (k : Cc) (r : List V → Hp → VK → Prop) (rd : RAD) : Prop := ∀ (Z H : Hp) (xs : List V) (ds : List D) (Qd : D → Prop) (Q : VK), Bs k.s Z H → RpA (wc X k.s) Z xs ds → rd ds Qd →
  (∀ d v Z' H', Stp k.s Z H Z' H' → Rp (wc X k.s) Z' v d → Qd d → Q v H') → r xs H Q
/-! ### expressions -/
section
variable {X : Cx} {k : Cc} {a b e : Expr} {es : List Expr} {wa wb w : WE} {pos : Pos}
def Sl.V (t : Option Sl) (Q : D → Prop) : Prop := match t with
  | some (.val d) => Q d
  | _ => False
theorem Sl.V_ex {t : Option Sl} {Q : D → Prop} (h : Sl.V t Q) : ∃ d, t = some (.val d) ∧ Q d := by
  cases t with
  | none => exact h.elim
  | some t => cases t <;> first | exact ⟨_, rfl, h⟩ | exact h.elim
def wVar (i : Nat) : WE := fun ρ Q => Sl.V ρ[i]? Q
theorem de_var {i : Nat} {x : Str} (hN : X.N[i]? = some x := by rfl) (hv : Vis X.env.scope x := by first | exact Or.inl rfl | exact Or.inr (Or.inl rfl) | exact Or.inr (Or.inr rfl)) (hd : (x == ("__debug__" : Str)) = false := by decide)
    (hcd : (x == ("__classdict__" : Str)) = false := by decide) : DE X k (.Name x pos) (wVar i) := by
  refine ⟨_, pe_var hN hv hd hcd, fun r Z H σ ρ Qd Q O h q => ?_⟩
  obtain ⟨d, h1, h2⟩ := Sl.V_ex h
  obtain ⟨o, h3, v, rfl, h4⟩ := O.sl i _ h1
  exact ⟨v, h3, q d v Z H (.refl O.bs) h4 h2⟩
def wC (d : D) : WE := fun _ Q => Q d
theorem de_int {i : Int} {j : Nat} : DE X k (.Constant (.int i) j pos) (wC (.int i)) := ⟨_, pe_int, fun r Z H σ ρ Qd Q O h q => q _ _ Z H (.refl O.bs) (.int i) h⟩
theorem de_str {x : Str} {j : Nat} : DE X k (.Constant (.str x) j pos) (wC (.str x)) := ⟨_, pe_str, fun r Z H σ ρ Qd Q O h q => q _ _ Z H (.refl O.bs) (.str x) h⟩
theorem de_bl {x : Bool} {j : Nat} : DE X k (.Constant (.bool x) j pos) (wC (.bl x)) := ⟨_, pe_bl, fun r Z H σ ρ Qd Q O h q => q _ _ Z H (.refl O.bs) (.bl x) h⟩
theorem de_non {j : Nat} : DE X k (.Constant .none j pos) (wC .non) := ⟨_, pe_non, fun r Z H σ ρ Qd Q O h q => q _ _ Z H (.refl O.bs) .non h⟩
/-- a module's constant -/
theorem de_glob {x : Str} {v : V} {d : D} {u : Value} (hm : X.mg x = some u) (r : RelV v u) (hd : ∀ Z, Rp (wc X k.s) Z v d) (hg : Gl X x := by rfl) (hdb : (x == ("__debug__" : Str)) = false := by decide) : DE X k (.Name x pos) (wC d) :=
  ⟨_, pe_glob hg hm r hdb, fun _ Z H σ ρ Qd Q O h q => q _ _ Z H (.refl O.bs) (hd Z) h⟩
theorem de_imp {w' : WE} (h : DE X k e w) (hw : ∀ ρ Q, w' ρ Q → w ρ Q) : DE X k e w' := by
  obtain ⟨t, p, f⟩ := h
  exact ⟨t, p, fun r Z H σ ρ Qd Q O h q => f r Z H σ ρ Qd Q O (hw _ _ h) q⟩
def wOp (rd : R2D) (wa wb : WE) : WE := fun ρ Q => wa ρ fun x => wb ρ fun y => rd x y Q
theorem op_core {r : R2} {rd : R2D} {ta tb : TE} (o : Op2 X k r rd)
    (ha : ∀ (r : Rt) (Z H : Hp) (σ : St) (ρ : En) (Qd : D → Prop) (Q : VK), Ok (wc X k.s) k r Z H σ ρ → wa ρ Qd → (∀ d v Z' H', Stp k.s Z H Z' H' → Rp (wc X k.s) Z' v d → Qd d → Q v H') → ta σ H Q)
    (hb : ∀ (r : Rt) (Z H : Hp) (σ : St) (ρ : En) (Qd : D → Prop) (Q : VK), Ok (wc X k.s) k r Z H σ ρ → wb ρ Qd → (∀ d v Z' H', Stp k.s Z H Z' H' → Rp (wc X k.s) Z' v d → Qd d → Q v H') → tb σ H Q) :
    ∀ (r' : Rt) (Z H : Hp) (σ : St) (ρ : En) (Qd : D → Prop) (Q : VK), Ok (wc X k.s) k r' Z H σ ρ → wOp rd wa wb ρ Qd → (∀ d v Z' H', Stp k.s Z H Z' H' → Rp (wc X k.s) Z' v d → Qd d → Q v H') → tOp r ta tb σ H Q := by
  intro r' Z H σ ρ Qd Q O h q
  refine ha r' Z H σ ρ _ _ O h fun x v Z1 H1 s1 r1 h1 => ?_
  refine hb r' Z1 H1 σ ρ _ _ (O.stp s1) h1 fun y u Z2 H2 s2 r2 h2 => ?_
  exact o Z2 H2 v u x y Qd Q s2.bs (r1.mono s2.zz) r2 h2 fun d w Z3 H3 s3 r3 h3 => q d w Z3 H3 ((s1.trans s2 O.bs.st).trans s3 O.bs.st) r3 h3
theorem de_op {op : Operator} {r : R2} {rd : R2D} (ho : OpR X (binaryOp op) r) (o : Op2 X k r rd) (ha : DE X k a wa) (hb : DE X k b wb) : DE X k (.BinOp a op b pos) (wOp rd wa wb) := by
  obtain ⟨ta, pa, fa⟩ := ha
  obtain ⟨tb, pb, fb⟩ := hb
  exact ⟨_, pe_op ho pa pb, op_core o fa fb⟩
theorem de_cmp {op : CmpOp} {r : R2} {rd : R2D} (ho : OpR X (compareOp op) r) (o : Op2 X k r rd) (ha : DE X k a wa) (hb : DE X k b wb) (hm : behindInMarks op b = false := by first | exact nobehind _ (by decide) (by decide) | rfl) : DE X k (.Compare a [op] [b] pos) (wOp rd wa wb) := by
  obtain ⟨ta, pa, fa⟩ := ha
  obtain ⟨tb, pb, fb⟩ := hb
  exact ⟨_, pe_cmpR ho pa pb hm, op_core o fa fb⟩
/-- a bool as a test's answer -/
def wB (w : WE) : WT := fun ρ Q => w ρ fun d => d.B Q
theorem dt_cmp {op : CmpOp} {r : R2} {rd : R2D} (ho : OpR X (compareOp op) r) (o : Op2 X k r rd) (ha : DE X k a wa) (hb : DE X k b wb) (hm : behindInMarks op b = false := by first | exact nobehind _ (by decide) (by decide) | rfl) : DT X k (.Compare a [op] [b] pos) (wB (wOp rd wa wb)) := by
  obtain ⟨ta, pa, fa⟩ := ha
  obtain ⟨tb, pb, fb⟩ := hb
  refine ⟨_, pt_cmpR ho pa pb hm, fun r Z H σ ρ Qd Q O h q => ?_⟩
  refine op_core o fa fb r Z H σ ρ _ _ O h fun d v Z1 H1 s1 r1 h1 => ?_
  obtain ⟨c, e0, g0⟩ := D.B_ex h1
  clear h1
  have h1 := g0
  clear g0
  subst e0
  cases r1
  exact ⟨c, rfl, q c Z1 H1 s1 h1⟩
/-- an expression whose value is a bool, as a test -/
theorem dt_val (h : DE X k e w) (he : ∀ whole, isTrue e X.env whole = (do let v ← whole; standAt e.pos; holding [v] (truthy v)) := by intro _; rfl) : DT X k e (wB w) := by
  obtain ⟨t, p, f⟩ := h
  refine ⟨_, pt_val p he, fun r Z H σ ρ Qd Q O h q => ?_⟩
  refine f r Z H σ ρ _ _ O h fun d v Z1 H1 s1 r1 h1 => ?_
  obtain ⟨c, e0, g0⟩ := D.B_ex h1
  clear h1
  have h1 := g0
  clear g0
  subst e0
  cases r1
  exact ⟨c, rfl, q c Z1 H1 s1 h1⟩
def wNotT (w : WT) : WT := fun ρ Q => w ρ fun b => Q (!b)
theorem dt_not {w : WT} (h : DT X k e w) : DT X k (.UnaryOp .Not e pos) (wNotT w) := by
  obtain ⟨t, p, f⟩ := h
  exact ⟨_, pt_not p, fun r Z H σ ρ Qd Q O h q => f r Z H σ ρ _ _ O h fun b Z1 H1 s1 h1 => q _ Z1 H1 s1 h1⟩
def wAndT (w u : WT) : WT := fun ρ Q => w ρ fun b => if b = true then u ρ Q else Q false
def wOrT (w u : WT) : WT := fun ρ Q => w ρ fun b => if b = true then Q true else u ρ Q
theorem dw_and1 {w : WT} (h : DT X k a w) : DW X k (.BoolOp .And [a] pos) w := by
  obtain ⟨t, p, f⟩ := h
  exact ⟨_, pw_and1 p, f⟩
theorem dw_or1 {w : WT} (h : DT X k a w) : DW X k (.BoolOp .Or [a] pos) w := by
  obtain ⟨t, p, f⟩ := h
  exact ⟨_, pw_or1 p, f⟩
theorem dw_and {w u : WT} (h : DT X k a w) (h2 : DW X k (.BoolOp .And (b :: es) pos) u) : DW X k (.BoolOp .And (a :: b :: es) pos) (wAndT w u) := by
  obtain ⟨t, p, f⟩ := h
  obtain ⟨t2, p2, f2⟩ := h2
  refine ⟨_, pw_and p p2, fun r Z H σ ρ Qd Q O h q => ?_⟩
  refine f r Z H σ ρ _ _ O h fun b Z1 H1 s1 h1 => ?_
  cases b with
  | true => exact iteT (f2 r Z1 H1 σ ρ Qd Q (O.stp s1) (by simpa using h1) fun c Z2 H2 s2 h2 => q c Z2 H2 (s1.trans s2 O.bs.st) h2)
  | false => exact iteF (q false Z1 H1 s1 (by simpa using h1))
theorem dw_or {w u : WT} (h : DT X k a w) (h2 : DW X k (.BoolOp .Or (b :: es) pos) u) : DW X k (.BoolOp .Or (a :: b :: es) pos) (wOrT w u) := by
  obtain ⟨t, p, f⟩ := h
  obtain ⟨t2, p2, f2⟩ := h2
  refine ⟨_, pw_or p p2, fun r Z H σ ρ Qd Q O h q => ?_⟩
  refine f r Z H σ ρ _ _ O h fun b Z1 H1 s1 h1 => ?_
  cases b with
  | false => exact iteF (f2 r Z1 H1 σ ρ Qd Q (O.stp s1) (by simpa using h1) fun c Z2 H2 s2 h2 => q c Z2 H2 (s1.trans s2 O.bs.st) h2)
  | true => exact iteT (q true Z1 H1 s1 (by simpa using h1))
theorem dt_w {w : WT} (h : DW X k e w) : DT X k e w := by
  obtain ⟨t, p, f⟩ := h
  exact ⟨t, p.pt, f⟩
/-- and, or, not of bools as values -/
def wAndV (wa wb : WE) : WE := fun ρ Q => wa ρ fun x => x.B fun b => if b = true then wb ρ Q else Q (.bl false)
def wOrV (wa wb : WE) : WE := fun ρ Q => wa ρ fun x => x.B fun b => if b = true then Q (.bl true) else wb ρ Q
def wNotV (wa : WE) : WE := fun ρ Q => wa ρ fun x => x.B fun b => Q (.bl (!b))
theorem de_one {op : BoolOp} (h : DE X k a wa) : DE X k (.BoolOp op [a] pos) wa := by
  obtain ⟨t, p, f⟩ := h
  exact ⟨t, pe_one p, f⟩
theorem de_and (h : DE X k a wa) (h2 : DE X k (.BoolOp .And (b :: es) pos) wb) : DE X k (.BoolOp .And (a :: b :: es) pos) (wAndV wa wb) := by
  obtain ⟨t, p, f⟩ := h
  obtain ⟨t2, p2, f2⟩ := h2
  refine ⟨_, pe_and p p2, fun r Z H σ ρ Qd Q O h q => ?_⟩
  refine f r Z H σ ρ _ _ O h fun d v Z1 H1 s1 r1 h1 => ?_
  obtain ⟨c, e0, g0⟩ := D.B_ex h1
  clear h1
  have h1 := g0
  clear g0
  subst e0
  cases r1
  refine ⟨c, rfl, ?_⟩
  cases c with
  | true => exact iteT (f2 r Z1 H1 σ ρ Qd Q (O.stp s1) (by simpa using h1) fun c v Z2 H2 s2 r2 h2 => q c v Z2 H2 (s1.trans s2 O.bs.st) r2 h2)
  | false => exact iteF (q _ _ Z1 H1 s1 (.bl false) (by simpa using h1))
theorem de_or (h : DE X k a wa) (h2 : DE X k (.BoolOp .Or (b :: es) pos) wb) : DE X k (.BoolOp .Or (a :: b :: es) pos) (wOrV wa wb) := by
  obtain ⟨t, p, f⟩ := h
  obtain ⟨t2, p2, f2⟩ := h2
  refine ⟨_, pe_or p p2, fun r Z H σ ρ Qd Q O h q => ?_⟩
  refine f r Z H σ ρ _ _ O h fun d v Z1 H1 s1 r1 h1 => ?_
  obtain ⟨c, e0, g0⟩ := D.B_ex h1
  clear h1
  have h1 := g0
  clear g0
  subst e0
  cases r1
  refine ⟨c, rfl, ?_⟩
  cases c with
  | false => exact iteF (f2 r Z1 H1 σ ρ Qd Q (O.stp s1) (by simpa using h1) fun c v Z2 H2 s2 r2 h2 => q c v Z2 H2 (s1.trans s2 O.bs.st) r2 h2)
  | true => exact iteT (q _ _ Z1 H1 s1 (.bl true) (by simpa using h1))
theorem de_not (h : DE X k a wa) : DE X k (.UnaryOp .Not a pos) (wNotV wa) := by
  obtain ⟨t, p, f⟩ := h
  refine ⟨_, pe_not p, fun r Z H σ ρ Qd Q O h q => ?_⟩
  refine f r Z H σ ρ _ _ O h fun d v Z1 H1 s1 r1 h1 => ?_
  obtain ⟨c, e0, g0⟩ := D.B_ex h1
  clear h1
  have h1 := g0
  clear g0
  subst e0
  cases r1
  exact ⟨c, rfl, q _ _ Z1 H1 s1 (.bl _) h1⟩
def wIfE (w : WT) (wa wb : WE) : WE := fun ρ Q => w ρ fun c => if c = true then wa ρ Q else wb ρ Q
theorem de_if {w : WT} {c : Expr} (h : DT X k c w) (ha : DE X k a wa) (hb : DE X k b wb) : DE X k (.IfExp c a b pos) (wIfE w wa wb) := by
  obtain ⟨t, p, f⟩ := h
  obtain ⟨ta, pa, fa⟩ := ha
  obtain ⟨tb, pb, fb⟩ := hb
  refine ⟨_, pe_ifExp p pa pb, fun r Z H σ ρ Qd Q O h q => ?_⟩
  refine f r Z H σ ρ _ _ O h fun b Z1 H1 s1 h1 => ?_
  cases b with
  | true => exact iteT (fa r Z1 H1 σ ρ Qd Q (O.stp s1) (by simpa using h1) fun c v Z2 H2 s2 r2 h2 => q c v Z2 H2 (s1.trans s2 O.bs.st) r2 h2)
  | false => exact iteF (fb r Z1 H1 σ ρ Qd Q (O.stp s1) (by simpa using h1) fun c v Z2 H2 s2 r2 h2 => q c v Z2 H2 (s1.trans s2 O.bs.st) r2 h2)
/-- two comparisons in a chain -/
def wChain (rd rd' : R2D) (wa wb wc : WE) : WE := fun ρ Q => wa ρ fun x => wb ρ fun y => rd x y fun z => z.B fun c => if c = true then wc ρ fun u => rd' y u Q else Q (.bl false)
theorem chain_core {r r' : R2} {rd rd' : R2D} {ta tb tc : TE} {wc' : WE} (o : Op2 X k r rd) (o' : Op2 X k r' rd')
    (ha : ∀ (r : Rt) (Z H : Hp) (σ : St) (ρ : En) (Qd : D → Prop) (Q : VK), Ok (wc X k.s) k r Z H σ ρ → wa ρ Qd → (∀ d v Z' H', Stp k.s Z H Z' H' → Rp (wc X k.s) Z' v d → Qd d → Q v H') → ta σ H Q)
    (hb : ∀ (r : Rt) (Z H : Hp) (σ : St) (ρ : En) (Qd : D → Prop) (Q : VK), Ok (wc X k.s) k r Z H σ ρ → wb ρ Qd → (∀ d v Z' H', Stp k.s Z H Z' H' → Rp (wc X k.s) Z' v d → Qd d → Q v H') → tb σ H Q)
    (hc : ∀ (r : Rt) (Z H : Hp) (σ : St) (ρ : En) (Qd : D → Prop) (Q : VK), Ok (wc X k.s) k r Z H σ ρ → wc' ρ Qd → (∀ d v Z' H', Stp k.s Z H Z' H' → Rp (wc X k.s) Z' v d → Qd d → Q v H') → tc σ H Q) :
    ∀ (r0 : Rt) (Z H : Hp) (σ : St) (ρ : En) (Qd : D → Prop) (Q : VK), Ok (wc X k.s) k r0 Z H σ ρ → wChain rd rd' wa wb wc' ρ Qd → (∀ d v Z' H', Stp k.s Z H Z' H' → Rp (wc X k.s) Z' v d → Qd d → Q v H') → tChain r r' ta tb tc σ H Q := by
  intro r0 Z H σ ρ Qd Q O h q
  refine ha r0 Z H σ ρ _ _ O h fun x v Z1 H1 s1 r1 h1 => ?_
  refine hb r0 Z1 H1 σ ρ _ _ (O.stp s1) h1 fun y u Z2 H2 s2 r2 h2 => ?_
  refine o Z2 H2 v u x y _ _ s2.bs (r1.mono s2.zz) r2 h2 fun d w Z3 H3 s3 r3 h3 => ?_
  have s13 := (s1.trans s2 O.bs.st).trans s3 O.bs.st
  obtain ⟨c, e0, g0⟩ := D.B_ex h3
  clear h3
  have h3 := g0
  clear g0
  subst e0
  cases r3
  refine ⟨c, rfl, ?_⟩
  cases c with
  | true =>
    refine iteT (hc r0 Z3 H3 σ ρ _ _ (O.stp s13) (by simpa using h3) fun z w' Z4 H4 s4 r4 h4 => ?_)
    exact o' Z4 H4 u w' y z Qd Q s4.bs (r2.mono (s3.zz.trans s4.zz)) r4 h4 fun d w5 Z5 H5 s5 r5 h5 => q d w5 Z5 H5 ((s13.trans s4 O.bs.st).trans s5 O.bs.st) r5 h5
  | false => exact iteF (q _ _ Z3 H3 s13 (.bl false) (by simpa using h3))
theorem de_chain {op op' : CmpOp} {c : Expr} {r r' : R2} {rd rd' : R2D} {wc' : WE} (ho : OpR X (compareOp op) r) (o : Op2 X k r rd) (ho' : OpR X (compareOp op') r') (o' : Op2 X k r' rd') (ha : DE X k a wa) (hb : DE X k b wb) (hc : DE X k c wc') (hm : lastMarks [op, op'] [b, c] = false := by rfl) :
    DE X k (.Compare a [op, op'] [b, c] pos) (wChain rd rd' wa wb wc') := by
  obtain ⟨ta, pa, fa⟩ := ha
  obtain ⟨tb, pb, fb⟩ := hb
  obtain ⟨tc, pc, fc⟩ := hc
  exact ⟨_, pe_chain ho ho' pa pb pc hm, chain_core o o' fa fb fc⟩
theorem dt_chain {op op' : CmpOp} {c : Expr} {r r' : R2} {rd rd' : R2D} {wc' : WE} (ho : OpR X (compareOp op) r) (o : Op2 X k r rd) (ho' : OpR X (compareOp op') r') (o' : Op2 X k r' rd') (ha : DE X k a wa) (hb : DE X k b wb) (hc : DE X k c wc') (hm : lastMarks [op, op'] [b, c] = false := by rfl) :
    DT X k (.Compare a [op, op'] [b, c] pos) (wB (wChain rd rd' wa wb wc')) := by
  obtain ⟨ta, pa, fa⟩ := ha
  obtain ⟨tb, pb, fb⟩ := hb
  obtain ⟨tc, pc, fc⟩ := hc
  refine ⟨_, pt_chain ho ho' pa pb pc hm, fun r Z H σ ρ Qd Q O h q => ?_⟩
  refine chain_core o o' fa fb fc r Z H σ ρ _ _ O h fun d v Z1 H1 s1 r1 h1 => ?_
  obtain ⟨c, e0, g0⟩ := D.B_ex h1
  clear h1
  have h1 := g0
  clear g0
  subst e0
  cases r1
  exact ⟨c, rfl, q c Z1 H1 s1 h1⟩
/-- argument lists -/
def wNil : WA := fun _ Q => Q []
def wCons (w : WE) (u : WA) : WA := fun ρ Q => w ρ fun x => u ρ fun xs => Q (x :: xs)
theorem da_nil : DA X k [] wNil := ⟨_, pa_nil, fun r Z H σ ρ Qd Q O h q => q [] [] Z H (.refl O.bs) .nil h⟩
theorem da_cons {u : WA} (h : DE X k e w) (h2 : DA X k es u) (hs : starEach (e :: es) X.env = (false, eval e X.env) :: starEach es X.env := by rfl) : DA X k (e :: es) (wCons w u) := by
  obtain ⟨t, p, f⟩ := h
  obtain ⟨t2, p2, f2⟩ := h2
  refine ⟨_, pa_cons p p2 hs, fun r Z H σ ρ Qd Q O h q => ?_⟩
  refine f r Z H σ ρ _ _ O h fun d v Z1 H1 s1 r1 h1 => ?_
  exact f2 r Z1 H1 σ ρ _ _ (O.stp s1) h1 fun ds vs Z2 H2 s2 r2 h2 => q _ _ Z2 H2 (s1.trans s2 O.bs.st) (.cons (r1.mono s2.zz) r2) h2
/-- tuples, lists as they are written; lists are trees from the start -/
def wTup (u : WA) : WE := fun ρ Q => u ρ fun xs => xs.length ≤ 100000 ∧ Q (.tup xs)
def wLst (u : WA) : WE := fun ρ Q => u ρ fun xs => xs.length ≤ 100000 ∧ Q (.lst xs)
theorem sz {n : Nat} (h : n ≤ 100000) : n ≤ sizeLine := Nat.le_trans h (by decide)
theorem rp_tup {c : Wc} {Z H : Hp} {p : Addr} {vs : List V} {ds : List D} (h : RpA c Z vs ds) (b : Bs c.s Z H) (n : H p = none) : Rp c (upd Z p (.tup vs)) (.ref p) (.tup ds) :=
  .tup (.inl (.inl upd_same)) (h.mono (Stp.add b n).zz)
theorem rp_lst {c : Wc} {Z H : Hp} {p : Addr} {vs : List V} {ds : List D} (h : RpA c Z vs ds) (b : Bs c.s Z H) (n : H p = none) : Rp c (upd Z p (.lst vs)) (.ref p) (.lst ds) :=
  .lst upd_same (h.mono (Stp.add b n).zz)
theorem de_tup {u : WA} {x1 : Nat} (h : DA X k es u) : DE X k (.Tuple es x1 pos) (wTup u) := by
  obtain ⟨t, p, f⟩ := h
  refine ⟨_, pe_tup p, fun r Z H σ ρ Qd Q O h q => ?_⟩
  refine f r Z H σ ρ _ _ O h fun ds vs Z1 H1 s1 r1 h1 => ?_
  refine ⟨by rw [r1.length]; exact sz h1.1, fun p hp => ?_⟩
  exact q _ _ _ _ (s1.trans (.add s1.bs hp) O.bs.st) (rp_tup r1 s1.bs hp) h1.2
theorem de_lst {u : WA} (h : DA X k es u) : DE X k (.List es pos) (wLst u) := by
  obtain ⟨t, p, f⟩ := h
  refine ⟨_, pe_lst p, fun r Z H σ ρ Qd Q O h q => ?_⟩
  refine f r Z H σ ρ _ _ O h fun ds vs Z1 H1 s1 r1 h1 => ?_
  refine ⟨by rw [r1.length]; exact sz h1.1, fun p hp => ?_⟩
  exact q _ _ _ _ (s1.trans (.add s1.bs hp) O.bs.st) (rp_lst r1 s1.bs hp) h1.2
end
end Dl
set_option Elab.async false
set_option linter.all false
set_option maxRecDepth 100000
set_option maxHeartbeats 2000000
namespace Dl
open PySem L2
/-! ### targets -/
section
variable {X : Cx} {k : Cc} {a b e : Expr} {es : List Expr} {wa wb w : WE} {pos : Pos}
def wgName (i : Nat) : WG := fun d ρ Q => Q (ρ.set i (.val d))
theorem wipe_set {σ : St} {i : Nat} {x : Option V} : ∀ {vs : List Nat}, i ∈ vs → wipe (σ.set i x) vs = wipe σ vs
  | [], h => by cases h
  | v :: vs, h => by
    by_cases e : i ∈ vs
    · show (wipe (σ.set i x) vs).set v none = (wipe σ vs).set v none
      rw [wipe_set e]
    · have e2 : i = v := by
        rcases List.mem_cons.mp h with z | z
        · exact z
        · exact absurd z e
      subst e2
      have q : ∀ ws : List Nat, i ∉ ws → wipe (σ.set i x) ws = (wipe σ ws).set i x := by
        intro ws
        induction ws with
        | nil => intro _; rfl
        | cons w ws ih =>
          intro hn
          have h1 : i ≠ w := fun z => hn (by rw [z]; exact List.mem_cons_self)
          have h2 : i ∉ ws := fun z => hn (List.mem_cons_of_mem _ z)
          show (wipe (σ.set i x) ws).set w none = ((wipe σ ws).set w none).set i x
          rw [ih h2, List.set_comm _ _ h1]
      show (wipe (σ.set i x) vs).set i none = (wipe σ vs).set i none
      rw [q vs e, List.set_set]
theorem dg_name {i : Nat} {x : Str} (hN : X.N.Nodup) (hi : X.N[i]? = some x := by rfl) (hx : Loc X.env.scope x := by first | exact Or.inl rfl | exact Or.inr rfl) (hf : X.fn x = true ∨ X.env.scope.names.lookup x = some .local := by first | exact .inl rfl | exact .inr rfl | assumption) : DG X k (.Name x pos) [i] (wgName i) :=
  ⟨_, pg_name hN hi hx hf, fun r Z H σ ρ v d Qd Q O rv h q => q _ _ (O.set rv) (fun vs hv => wipe_set (hv i List.mem_cons_self)) h⟩
def wgNil : WGs := fun ds ρ Q => match ds with
  | [] => Q ρ
  | _ => False
def wgCons (w : WG) (u : WGs) : WGs := fun ds ρ Q => match ds with
  | d :: r => w d ρ fun ρ' => u r ρ' Q
  | [] => False
theorem dgs_nil : DGs X k [] [] wgNil := ⟨_, pgs_nil, fun r Z H σ ρ vs ds Qd Q O rv h q => by
  cases rv with
  | nil => exact ⟨rfl, q _ _ O (fun _ _ => rfl) h⟩
  | cons _ _ => exact h.elim⟩
theorem dgs_cons {w : WG} {u : WGs} {us vs : List Nat} (h1 : DG X k e us w) (h2 : DGs X k es vs u) (hs : (assignEach (e :: es) X.env).map (·.2) = assign e X.env :: (assignEach es X.env).map (·.2) := by rfl) : DGs X k (e :: es) (us ++ vs) (wgCons w u) := by
  obtain ⟨g, p, f⟩ := h1
  obtain ⟨g2, p2, f2⟩ := h2
  refine ⟨_, pgs_cons p p2 hs, fun r Z H σ ρ vs ds Qd Q O rv h q => ?_⟩
  cases rv with
  | nil => exact h.elim
  | cons r1 r2 => exact ⟨_, _, rfl, f r Z H σ ρ _ _ _ _ O r1 h fun σ' ρ' O' w1 h' => f2 r Z H σ' ρ' _ _ _ _ O' r2 h' fun σ2 ρ2 O2 w2 h2 => q σ2 ρ2 O2 (fun vs hv => (w2 vs fun i hi => hv i (List.mem_append_right _ hi)).trans (w1 vs fun i hi => hv i (List.mem_append_left _ hi))) h2⟩
def wgTup (n : Nat) (u : WGs) : WG := fun d ρ Q => d.T fun ds => ds.length = n ∧ u ds ρ Q
theorem dg_tup {kk : Nat} {u : WGs} {n : Nat} {us : List Nat} (hc : X.calm = true) (h : DGs X k es us u) (hn : (assignEach es X.env).length = n := by rfl) (hst : (assignEach es X.env).findIdx? (·.1) = none := by rfl) : DG X k (.Tuple es kk pos) us (wgTup n u) := by
  obtain ⟨g, p, f⟩ := h
  refine ⟨_, pg_tup hc p hn hst, fun r Z H σ ρ v d Qd Q O rv h q => ?_⟩
  obtain ⟨ds, e0, hl, g0⟩ := D.T_ex h
  clear h
  have h := g0
  clear g0
  subst e0
  cases rv with
  | tup hs hr => exact ⟨_, _, rfl, same_t O.bs.zh hs, by rw [hr.length, hl], f r Z H σ ρ _ _ _ _ O hr h q⟩
/-! ### statements -/
variable {st : Stmt} {rest : List Stmt} {u v : WS}
def wNext : WS := fun d ρ => d.nx ρ
theorem db_nil : DB X k [] wNext := ⟨_, pss_nil, fun r Z H σ ρ d E O L h => L.nx Z H σ ρ O h⟩
def wSeq (u v : WS) : WS := fun d ρ => u { d with nx := v d } ρ
theorem db_cons (h : DS X k st u) (h2 : DB X k rest v) : DB X k (st :: rest) (wSeq u v) := by
  obtain ⟨t, p, f⟩ := h
  obtain ⟨t2, p2, f2⟩ := h2
  refine ⟨_, pss_cons p p2, fun r Z H σ ρ d E O L h => ?_⟩
  exact f r Z H σ ρ { d with nx := v d } { E with nx := t2 E } O ⟨fun Z' H' σ' ρ' O' h' => f2 r Z' H' σ' ρ' d E O' L h', L.rt, L.bk, L.ct⟩ h
theorem db_one (h : DS X k st u) : DB X k [st] u := by
  obtain ⟨t, p, f⟩ := h
  exact ⟨_, pss_one p, f⟩
def wSet (i : Nat) (w : WE) : WS := fun d ρ => w ρ fun x => d.nx (ρ.set i (.val x))
theorem ds_set {i : Nat} {x : Str} {pos' : Pos} (hN : X.N.Nodup) (h : DE X k e w) (hi : X.N[i]? = some x := by rfl) (hx : Loc X.env.scope x := by first | exact Or.inl rfl | exact Or.inr rfl) (hs : swapsWith e (some (.Name x pos')) pos.line X.env = pure false := by rfl)
    (hf : X.fn x = true ∨ X.env.scope.names.lookup x = some .local := by first | exact .inl rfl | exact .inr rfl | assumption) : DS X k (.Assign [.Name x pos'] e pos) (wSet i w) := by
  obtain ⟨t, p, f⟩ := h
  refine ⟨_, ps_set hN hi hx p hs hf, fun r Z H σ ρ d E O L h => ?_⟩
  exact f r Z H σ ρ _ _ O h fun x v Z1 H1 s1 r1 h1 => L.nx Z1 H1 _ _ ((O.stp s1).set r1) h1
def wAsg (w : WE) (g : WG) : WS := fun d ρ => w ρ fun x => g x ρ d.nx
theorem ds_asg {tg : Expr} {g : WG} {us : List Nat} (h : DE X k e w) (hg : DG X k tg us g) (hs : swapsWithSole [tg] e pos.line X.env = pure false := by rfl) (hw : swappedStores [tg] e X.env = pure none := by rfl) (h1 : (assignEach [tg] X.env).map (·.2) = [assign tg X.env] := by rfl) : DS X k (.Assign [tg] e pos) (wAsg w g) := by
  obtain ⟨t, p, f⟩ := h
  obtain ⟨g', p', f'⟩ := hg
  refine ⟨_, ps_asg p p' hs hw h1, fun r Z H σ ρ d E O L h => ?_⟩
  exact f r Z H σ ρ _ _ O h fun x v Z1 H1 s1 r1 h1 => f' r Z1 H1 σ ρ v x _ _ (O.stp s1) r1 h1 fun σ' ρ' O' _ h' => L.nx Z1 H1 σ' ρ' O' h'
def wDrop (w : WE) : WS := fun d ρ => w ρ fun _ => d.nx ρ
theorem ds_expr (h : DE X k e w) (hs : swapsWith e none pos.line X.env = pure false := by rfl) : DS X k (.Expr e pos) (wDrop w) := by
  obtain ⟨t, p, f⟩ := h
  refine ⟨_, ps_expr p hs, fun r Z H σ ρ d E O L h => ?_⟩
  exact f r Z H σ ρ _ _ O h fun x v Z1 H1 s1 r1 h1 => L.nx Z1 H1 _ _ (O.stp s1) h1
def wRet (w : WE) : WS := fun d ρ => w ρ d.rt
theorem ds_ret (h : DE X k e w) : DS X k (.Return (some e) pos) (wRet w) := by
  obtain ⟨t, p, f⟩ := h
  refine ⟨_, ps_ret p, fun r Z H σ ρ d E O L h => ?_⟩
  exact f r Z H σ ρ _ _ O h fun x v Z1 H1 s1 r1 h1 => L.rt Z1 H1 v x (O.en.trans s1 O.s0) r1 h1
def wRetN : WS := fun d _ => d.rt .non
theorem ds_retN : DS X k (.Return none pos) wRetN := ⟨_, ps_retN, fun r Z H σ ρ d E O L h => L.rt Z H _ _ O.en .non h⟩
theorem ds_pass : DS X k (.Pass pos) wNext := ⟨_, ps_pass, fun r Z H σ ρ d E O L h => L.nx Z H σ ρ O h⟩
def wBrk : WS := fun d ρ => d.bk ρ
def wCont : WS := fun d ρ => d.ct ρ
theorem ds_break : DS X k (.Break pos) wBrk := ⟨_, ps_break, fun r Z H σ ρ d E O L h => L.bk Z H σ ρ O h⟩
theorem ds_continue : DS X k (.Continue pos) wCont := ⟨_, ps_continue, fun r Z H σ ρ d E O L h => L.ct Z H σ ρ O h⟩
def wIf (w : WT) (u v : WS) : WS := fun d ρ => w ρ fun b => if b = true then u d ρ else v d ρ
theorem ds_if {w : WT} {p q : List Stmt} (h : DT X k e w) (hu : DB X k p u) (hv : DB X k q v) : DS X k (.If e p q pos) (wIf w u v) := by
  obtain ⟨t, p, f⟩ := h
  obtain ⟨t1, p1, f1⟩ := hu
  obtain ⟨t2, p2, f2⟩ := hv
  refine ⟨_, ps_if p p1 p2, fun r Z H σ ρ d E O L h => ?_⟩
  refine f r Z H σ ρ _ _ O h fun b Z1 H1 s1 h1 => ?_
  cases b with
  | true => exact iteT (f1 r Z1 H1 σ ρ d E (O.stp s1) L (by simpa using h1))
  | false => exact iteF (f2 r Z1 H1 σ ρ d E (O.stp s1) L (by simpa using h1))
theorem ds_imp {u' : WS} (h : DS X k st u) (hu : ∀ d ρ, u' d ρ → u d ρ) : DS X k st u' := by
  obtain ⟨t, p, f⟩ := h
  exact ⟨t, p, fun r Z H σ ρ d E O L h => f r Z H σ ρ d E O L (hu _ _ h)⟩
theorem db_imp {u' : WS} (h : DB X k rest u) (hu : ∀ d ρ, u' d ρ → u d ρ) : DB X k rest u' := by
  obtain ⟨t, p, f⟩ := h
  exact ⟨t, p, fun r Z H σ ρ d E O L h => f r Z H σ ρ d E O L (hu _ _ h)⟩
/-! ### what is walked -/
/-- the turns of an iterator give the trees ds -/
def ItD (c : Wc) (Z : Hp) (J : It) (ds : List D) : Prop := ∀ Z2 H2, Same Z Z2 → Bs c.s Z2 H2 → (∀ i, i < ds.length → J.go i H2) ∧ (∀ i, ds.length ≤ i → J.stop i H2) ∧
  ∀ i x H', J.yld i H2 x H' → i < ds.length → ∃ d Z3, ds[i]? = some d ∧ Stp c.s Z2 H2 Z3 H' ∧ Rp c Z3 x d
def DI (X : Cx) (k : Cc) (tg it : Expr) (w : WA) : Prop := ∃ wi, PI X tg it wi ∧ ∀ (r : Rt) (Z H : Hp) (σ : St) (ρ : En) (Qd : List D → Prop) (R : It → Hp → Prop), Ok (wc X k.s) k r Z H σ ρ → w ρ Qd →
  (∀ ds Z' H' J, Stp k.s Z H Z' H' → ItD (wc X k.s) Z' J ds → Qd ds → R J H') → wi σ H R
theorem itd_list {c : Wc} {Z : Hp} {a : Addr} {xs : List V} {ds : List D} (h : Z a = some (.lst xs)) (hr : RpA c Z xs ds) : ItD c Z (Itl c.K a) ds := by
  intro Z2 H2 e b
  have h2 : SqL c.K H2 a xs := .inl (.inl (b.zh _ _ (e _ _ h)))
  refine ⟨fun i hi => ?_, fun i hi => ⟨xs, h2, by rw [hr.length]; exact hi⟩, fun i x H' y hi => ?_⟩
  · rw [← hr.length] at hi
    exact ⟨xs, xs[i], h2, List.getElem?_eq_getElem hi⟩
  · obtain ⟨rfl, y⟩ := y
    obtain ⟨d, h3, h4⟩ := hr.getV i (y xs h2)
    exact ⟨d, Z2, h3, .refl b, h4.mono e⟩
theorem itd_tup {c : Wc} {Z : Hp} {a : Addr} {xs : List V} {ds : List D} (h : SqT c.K Z a xs) (hr : RpA c Z xs ds) : ItD c Z (Itt c.K a) ds := by
  intro Z2 H2 e b
  have h2 : SqT c.K H2 a xs := same_t b.zh (same_t e h)
  refine ⟨fun i hi => ?_, fun i hi => ⟨xs, h2, by rw [hr.length]; exact hi⟩, fun i x H' y hi => ?_⟩
  · rw [← hr.length] at hi
    exact ⟨xs, xs[i], h2, List.getElem?_eq_getElem hi⟩
  · obtain ⟨rfl, y⟩ := y
    obtain ⟨d, h3, h4⟩ := hr.getV i (y xs h2)
    exact ⟨d, Z2, h3, .refl b, h4.mono e⟩
/-- a list, a tuple that is a tree -/
def wiL (w : WE) : WA := fun ρ Q => w ρ fun d => d.L Q
def wiT (w : WE) : WA := fun ρ Q => w ρ fun d => d.T Q
theorem di_list {tg : Expr} (h : DE X k e w) : DI X k tg e (wiL w) := by
  obtain ⟨t, p, f⟩ := h
  refine ⟨_, pi_list p, fun r Z H σ ρ Qd R O h q => ?_⟩
  refine f r Z H σ ρ _ _ O h fun d v Z1 H1 s1 r1 h1 => ?_
  obtain ⟨ds, e0, g0⟩ := D.L_ex h1
  clear h1
  have h1 := g0
  clear g0
  subst e0
  cases r1 with
  | lst hs hr => exact ⟨_, rfl, ⟨_, .inl (.inl (s1.bs.zh _ _ hs))⟩, q ds Z1 H1 _ s1 (itd_list hs hr) h1⟩
theorem di_tup {tg : Expr} (h : DE X k e w) : DI X k tg e (wiT w) := by
  obtain ⟨t, p, f⟩ := h
  refine ⟨_, pi_tup p, fun r Z H σ ρ Qd R O h q => ?_⟩
  refine f r Z H σ ρ _ _ O h fun d v Z1 H1 s1 r1 h1 => ?_
  obtain ⟨ds, e0, g0⟩ := D.T_ex h1
  clear h1
  have h1 := g0
  clear g0
  subst e0
  cases r1 with
  | tup hs hr => exact ⟨_, rfl, ⟨_, same_t s1.bs.zh hs⟩, q ds Z1 H1 _ s1 (itd_tup hs hr) h1⟩
/-- range(n) -/
def rngD (n : Int) : List D := (List.range n.toNat).map fun i => .int (i : Nat)
def wiR (w : WE) : WA := fun ρ Q => w ρ fun d => d.I fun n => (-1000000 ≤ n ∧ n ≤ 1000000) ∧ Q (rngD n)
theorem itd_range {c : Wc} (Z : Hp) (n : Int) : ItD c Z (Itr 0 n.toNat) (rngD n) := by
  intro Z2 H2 e b
  have hl : (rngD n).length = n.toNat := by unfold rngD; rw [List.length_map, List.length_range]
  refine ⟨fun i hi => by rw [hl] at hi; exact hi, fun i hi => by rw [hl] at hi; exact hi, fun i x H' y hi => ?_⟩
  obtain ⟨rfl, rfl⟩ := y
  rw [hl] at hi
  refine ⟨.int (i : Nat), Z2, ?_, .refl b, ?_⟩
  · unfold rngD
    rw [List.getElem?_map, List.getElem?_range hi]
    rfl
  · rw [Int.zero_add]
    exact .int _
theorem di_range {tg a : Expr} {p pos : Pos} (h : DE X k a w) (hg : Gl X "range") (hm : X.mg "range" = none) (hs : starEach [a] X.env = [(false, eval a X.env)] := by rfl) : DI X k tg (.Call (.Name "range" p) [a] [] pos) (wiR w) := by
  obtain ⟨t, p, f⟩ := h
  refine ⟨_, pi_range1 hg hm (pa_cons p pa_nil hs) hs, fun r Z H σ ρ Qd R O h q => ?_⟩
  refine f r Z H σ ρ _ _ O h fun d v Z1 H1 s1 r1 h1 => ?_
  obtain ⟨n, e0, ⟨hlo, hn⟩, g0⟩ := D.I_ex h1
  clear h1
  have h1 := g0
  clear g0
  subst e0
  cases r1
  exact ⟨n, rfl, by omega, by omega, q _ Z1 H1 _ s1 (itd_range _ n) h1⟩
/-! ### for -/
def wForL (g : WG) (u : WS) : List D → WS
  | [] => fun d ρ => d.nx ρ
  | x :: xs => fun d ρ => g x ρ fun ρ1 => u { nx := wForL g u xs d, rt := d.rt, bk := d.nx, ct := wForL g u xs d } ρ1
def wFor (wi : WA) (g : WG) (u : WS) : WS := fun d ρ => wi ρ fun ds => wForL g u ds d ρ
theorem Ok.lower {c : Wc} {r : Rt} {Z H Zl : Hp} {σ : St} {ρ : En} (O : Ok c k { r with Zl := Zl } Z H σ ρ) (e : Same r.Zl Zl) : Ok c k r Z H σ ρ := ⟨O.en, O.s0, e.trans O.lb, O.sl, O.ow, O.ds, O.lk⟩
theorem Ok.raise {c : Wc} {r : Rt} {Z H : Hp} {σ : St} {ρ : En} (O : Ok c k r Z H σ ρ) : Ok c k { r with Zl := Z } Z H σ ρ := ⟨O.en, O.s0, Same.refl _, O.sl, O.ow, O.ds, O.lk⟩
theorem ds_for {tg it : Expr} {body : List Stmt} {wi : WA} {g : WG} {us : List Nat} (hp : PassesOwn (model X.prog X.w) X.A X.env X.xe) (hi : DI X k tg it wi) (hg : DG X k tg us g) (hb : DB X k body u) (hc : X.calm = true := by rfl)
    (hs : ∀ x, foldedSetIterable it X.env x = pure x := by intro _; rfl) : DS X k (.For tg it body [] pos) (wFor wi g u) := by
  obtain ⟨ti, pi, fi⟩ := hi
  obtain ⟨g', pg, fg⟩ := hg
  obtain ⟨tb, pb, fb⟩ := hb
  refine ⟨_, ps_for hp hc pi pg pb hs, fun r Z H σ ρ d E O L h => ?_⟩
  refine fi r Z H σ ρ _ _ O h fun ds Z1 H1 J s1 it h1 => ?_
  have O1 := O.stp s1
  have lw : Same r.Zl Z1 := O1.lb
  refine ⟨fun i m σ' H' => ∃ Z' ρ', Ok (wc X k.s) k { r with Zl := Z1 } Z' H' σ' ρ' ∧ wForL g u (ds.drop i) d ρ' ∧ i ≤ ds.length ∧ m = ds.length - i, ⟨_, Z1, ρ, O1.raise, h1, Nat.zero_le _, rfl⟩, ?_⟩
  rintro i m σ' H' ⟨Z', ρ', O', h', hi, rfl⟩
  obtain ⟨go, stop, yld⟩ := it Z' H' O'.lb O'.bs
  by_cases hlt : i < ds.length
  · refine .inr ⟨go i hlt, fun σ2 H2 => ∃ Z2 ρ2, Ok (wc X k.s) k { r with Zl := Z1 } Z2 H2 σ2 ρ2 ∧ wForL g u (ds.drop (i + 1)) d ρ2, ?_, ?_⟩
    · rintro σ2 H2 ⟨Z2, ρ2, O2, h2⟩
      exact ⟨_, by omega, Z2, ρ2, O2, h2, hlt, rfl⟩
    · intro x H2 y
      obtain ⟨dx, Z3, e1, s3, r3⟩ := yld i x H2 y hlt
      have e2 : ds.drop i = dx :: ds.drop (i + 1) := by
        rw [List.drop_eq_getElem_cons hlt]
        rw [List.getElem?_eq_getElem hlt] at e1
        rw [Option.some.inj e1]
      rw [e2] at h'
      refine fg _ Z3 H2 σ' ρ' x dx _ _ (O'.stp s3) r3 h' fun σ4 ρ4 O4 _ h4 => ?_
      refine fb _ Z3 H2 σ4 ρ4 _ _ O4 ⟨?_, ?_, ?_, ?_⟩ h4
      · exact fun Z5 H5 σ5 ρ5 O5 h5 => ⟨Z5, ρ5, O5, h5⟩
      · exact L.rt
      · exact fun Z5 H5 σ5 ρ5 O5 h5 => L.nx Z5 H5 σ5 ρ5 (O5.lower lw) h5
      · exact fun Z5 H5 σ5 ρ5 O5 h5 => ⟨Z5, ρ5, O5, h5⟩
  · have e : i = ds.length := by omega
    subst e
    refine .inl ⟨stop _ (Nat.le_refl _), L.nx Z' H' σ' ρ' (O'.lower lw) ?_⟩
    rw [List.drop_length] at h'
    exact h'
/-! ### while -/
def wWhN (w : WT) (u : WS) : Nat → WS
  | 0 => fun _ _ => False
  | n + 1 => fun d ρ => w ρ fun b => if b = true then u { nx := wWhN w u n d, rt := d.rt, bk := d.nx, ct := wWhN w u n d } ρ else d.nx ρ
def wWhile (w : WT) (u : WS) : WS := fun d ρ => ∃ n, wWhN w u n d ρ
theorem ds_while {w : WT} {body : List Stmt} (hp : PassesOwn (model X.prog X.w) X.A X.env X.xe) (h : DT X k e w) (hb : DB X k body u) : DS X k (.While e body [] pos) (wWhile w u) := by
  obtain ⟨t, p, f⟩ := h
  obtain ⟨tb, pb, fb⟩ := hb
  refine ⟨_, ps_while hp p pb, fun r Z H σ ρ d E O L h => ?_⟩
  obtain ⟨n, h⟩ := h
  refine ⟨fun m σ' H' => ∃ Z' ρ', Ok (wc X k.s) k r Z' H' σ' ρ' ∧ wWhN w u m d ρ', ⟨n, Z, ρ, O, h⟩, ?_⟩
  rintro m σ' H' ⟨Z', ρ', O', h'⟩
  cases m with
  | zero => exact h'.elim
  | succ m =>
    refine f r Z' H' σ' ρ' _ _ O' h' fun b Z1 H1 s1 h1 => ?_
    cases b with
    | true =>
      refine iteT ⟨fun σ2 H2 => ∃ Z2 ρ2, Ok (wc X k.s) k r Z2 H2 σ2 ρ2 ∧ wWhN w u m d ρ2, fun σ2 H2 ⟨Z2, ρ2, O2, h2⟩ => ⟨m, Nat.lt_succ_self _, Z2, ρ2, O2, h2⟩, ?_⟩
      refine fb r Z1 H1 σ' ρ' { nx := wWhN w u m d, rt := d.rt, bk := d.nx, ct := wWhN w u m d } _ (O'.stp s1) ⟨?_, L.rt, L.nx, ?_⟩ (by simpa using h1)
      · exact fun Z5 H5 σ5 ρ5 O5 h5 => ⟨Z5, ρ5, O5, h5⟩
      · exact fun Z5 H5 σ5 ρ5 O5 h5 => ⟨Z5, ρ5, O5, h5⟩
    | false => exact iteF (L.nx Z1 H1 σ' ρ' (O'.stp s1) (by simpa using h1))
end
end Dl
set_option Elab.async false
set_option linter.all false
set_option maxRecDepth 100000
set_option maxHeartbeats 2000000
namespace Dl
open PySem PySem.Spec PyProof.Rows L2
/-! ### what a def promises, by trees -/
abbrev SpecD := List D → (D → Prop) → (Exn → Prop) → Prop
def spD (K : PySem.W.Frag) (mg : Str → Option Value) (spec : SpecD) : Sp := fun vs H Q E => ∃ (s : Addr) (Z : Hp) (ds : List D) (Qd : D → Prop) (Ed : Exn → Prop), Bs s Z H ∧ RpA ⟨K, mg, s⟩ Z vs ds ∧ spec ds Qd Ed ∧
  (∀ d v Z' H', Stp s Z H Z' H' → Rp ⟨K, mg, s⟩ Z' v d → Qd d → Q v H') ∧ (∀ ex cls od Z' H', Stp s Z H Z' H' → ExR ⟨K, mg, s⟩ Z' H' ex cls od → Ed ex → E cls od H')
def ρ0 (n : Nat) (ds : List D) : En := ds.map .val ++ List.replicate (n - ds.length) .un
theorem start_ok {c : Wc} {k : Cc} {Z H : Hp} {N : List Str} {vs : List V} {ds : List D} (b : Bs c.s Z H) (h : RpA c Z vs ds) (hl : ds.length ≤ N.length)
    (lk : ∀ (Z' H' : Hp) (ex : Exn) (cls : Value) (od : Option Addr), Stp c.s Z H Z' H' → ExR c Z' H' ex cls od → k.xd ex → k.xk cls od H') : Ok c k ⟨Z, H, Z⟩ Z H (L2.start N vs) (ρ0 N.length ds) := by
  have el := h.length
  have no : ∀ (i : Nat) (t : Sl), (ρ0 N.length ds)[i]? = some t → t.own = false := fun i t ht => by
    unfold ρ0 at ht
    by_cases hi : i < ds.length
    · rw [List.getElem?_append_left (by rw [List.length_map]; exact hi), List.getElem?_map, List.getElem?_eq_getElem hi] at ht
      cases ht
      rfl
    · rw [List.getElem?_append_right (by rw [List.length_map]; omega), List.getElem?_replicate] at ht
      split at ht
      · cases ht
        rfl
      · cases ht
  refine ⟨.refl b, b.st, Same.refl _, fun i t ht => ?_, fun i t a ht ho _ => ?_, fun i j t u a _ ht _ ho _ _ => ?_, lk⟩
  · unfold ρ0 at ht
    unfold L2.start
    by_cases hi : i < ds.length
    · rw [List.getElem?_append_left (by rw [List.length_map]; exact hi), List.getElem?_map, List.getElem?_eq_getElem hi] at ht
      cases ht
      obtain ⟨v, h1, h2⟩ := h.get i (List.getElem?_eq_getElem hi)
      exact ⟨some v, by rw [List.getElem?_append_left (by rw [List.length_map, el]; exact hi), List.getElem?_map, h1]; rfl, v, rfl, h2⟩
    · rw [List.getElem?_append_right (by rw [List.length_map]; omega), List.length_map, List.getElem?_replicate] at ht
      split at ht
      · rename_i hlt
        cases ht
        refine ⟨none, ?_, trivial⟩
        rw [List.getElem?_append_right (by rw [List.length_map, el]; omega), List.length_map, el, List.getElem?_replicate, if_pos hlt]
      · cases ht
  · rw [no i t ht] at ho
    cases ho
  · rw [no i t ht] at ho
    cases ho
/-- THE RULE for a def from which no error comes -/
theorem fn_d {P : Program} {w : World} {K : PySem.W.Frag} {mg : Str → Option Value} {base : Heap} {x qual : Str} {st : Stmt} {f : Addr} {fd : FuncData} {N ps : List Str} {n : Nat} {spec : SpecD} (F : Fun K x qual st f fd) (S : FnScope N ps (defScope st))
    (hl : ∀ ds Q E, spec ds Q E → ds.length = ps.length) (hn : ps.length ≤ N.length) (W : WS)
    (hb : ∀ (cdv : Value) (A : Around) (outer : List Env) (s : Shared) (H : Hp) (E : XK) (k : Cc), Room n (A.deeper (envOfC qual (defScope st) s.heap.objs.size f cdv)) → k.xd = (fun _ => False) →
      DB (cxOf CX0 P w K mg base N qual (defScope st) f cdv A outer s H E).nox k (defBody st) W)
    (hW : ∀ ds Q E, spec ds Q E → W { nx := fun _ => Q .non, rt := Q } (ρ0 N.length ds)) : FnOk P w K mg base CX0 (n + 1) f fd ps (spD K mg spec) := by
  refine F.ok S (fun vs H Q E h => ?_) (fun cdv A outer s H vs Q E hr h => ?_)
  · obtain ⟨s, Z, ds, Qd, Ed, _, h1, h2, _⟩ := h
    rw [h1.length]
    exact hl _ _ _ h2
  · obtain ⟨s', Z, ds, Qd, Ed, b, h1, h2, h3, _⟩ := h
    obtain ⟨t, p, q⟩ := hb cdv A outer s H E ⟨s', fun _ => False, fun _ _ _ => False⟩ hr rfl
    refine ⟨t, p, q ⟨Z, H, Z⟩ Z H (L2.start N vs) (ρ0 N.length ds) _ _ (start_ok (c := ⟨K, mg, s'⟩) b h1 (by rw [hl _ _ _ h2]; exact hn) (fun _ _ _ _ _ _ _ z => z.elim)) ⟨?_, ?_, ?_, ?_⟩ (hW ds Qd Ed h2)⟩
    · exact fun Z' H' σ ρ O hq => h3 .non .non Z' H' O.en .non hq
    · exact fun Z' H' v x st rx hq => h3 x v Z' H' st rx hq
    · exact fun _ _ _ _ _ z => z.elim
    · exact fun _ _ _ _ _ z => z.elim
/-- .. for a def from which an error may come -/
theorem fn_dx {P : Program} {w : World} {K : PySem.W.Frag} {mg : Str → Option Value} {base : Heap} {x qual : Str} {st : Stmt} {f : Addr} {fd : FuncData} {N ps : List Str} {n : Nat} {spec : SpecD} (F : Fun K x qual st f fd) (S : FnScope N ps (defScope st))
    (hl : ∀ ds Q E, spec ds Q E → ds.length = ps.length) (hn : ps.length ≤ N.length) (W : (Exn → Prop) → WS)
    (hb : ∀ (cdv : Value) (A : Around) (outer : List Env) (s : Shared) (H : Hp) (k : Cc), Room n (A.deeper (envOfC qual (defScope st) s.heap.objs.size f cdv)) →
      DB (cxOf (L2.CX P w) P w K mg base N qual (defScope st) f cdv A outer s H k.xk) k (defBody st) (W k.xd))
    (hW : ∀ ds Q E, spec ds Q E → W E { nx := fun _ => Q .non, rt := Q } (ρ0 N.length ds)) : FnOk P w K mg base (L2.CX P w) (n + 1) f fd ps (spD K mg spec) := by
  refine F.okX S (fun vs H Q E h => ?_) (fun cdv A outer s H vs Q E hr h => ?_)
  · obtain ⟨s, Z, ds, Qd, Ed, _, h1, h2, _⟩ := h
    rw [h1.length]
    exact hl _ _ _ h2
  · obtain ⟨s', Z, ds, Qd, Ed, b, h1, h2, h3, h4⟩ := h
    obtain ⟨t, p, q⟩ := hb cdv A outer s H ⟨s', Ed, E⟩ hr
    refine ⟨t, p, q ⟨Z, H, Z⟩ Z H (L2.start N vs) (ρ0 N.length ds) _ _ (start_ok (c := ⟨K, mg, s'⟩) b h1 (by rw [hl _ _ _ h2]; exact hn) (fun Z' H' ex cls od st e z => h4 ex cls od Z' H' st e z)) ⟨?_, ?_, ?_, ?_⟩ (hW ds Qd Ed h2)⟩
    · exact fun Z' H' σ ρ O hq => h3 .non .non Z' H' O.en .non hq
    · exact fun Z' H' v x st rx hq => h3 x v Z' H' st rx hq
    · exact fun _ _ _ _ _ z => z.elim
    · exact fun _ _ _ _ _ z => z.elim
section
variable {X : Cx} {k : Cc} {a b e : Expr} {es : List Expr} {wa wb w : WE} {pos p : Pos}
/-- f(e, ..), no error comes -/
def wCall0 (spec : SpecD) (u : WA) : WE := fun ρ Q => u ρ fun ds => spec ds Q fun _ => False
def wCall (spec : SpecD) (xd : Exn → Prop) (u : WA) : WE := fun ρ Q => u ρ fun ds => spec ds Q xd
theorem de_call0 {n : Nat} {f : Addr} {fd : FuncData} {ps : List Str} {spec : SpecD} {x : Str} {u : WA} (F : FnOk X.prog X.w X.K X.mg X.base CX0 n f fd ps (spD X.K X.mg spec)) (hr : Room n X.A) (hm : X.mg x = some (.ref f)) (hk : PySem.W.keepIn X.K (.ref f) = true) (hb : Binds X.K fd ps [])
    (ha : DA X k (e :: es) u) (hg : Gl X x := by rfl) (hdb : (x == ("__debug__" : Str)) = false := by decide) (he : starEach (e :: es) X.env = (false, eval e X.env) :: starEach es X.env := by rfl) (hpl : (backTo pos (starEach es X.env)).any (·.1) = false := by rfl) :
    DE X k (.Call (.Name x p) (e :: es) [] pos) (wCall0 spec u) := by
  obtain ⟨t, pa, fa⟩ := ha
  refine ⟨_, pe_call F hr hg hm hk hb .nil pass0 pa hdb he hpl, fun r Z H σ ρ Qd Q O h q => ?_⟩
  refine fa r Z H σ ρ _ _ O h fun ds vs Z1 H1 s1 r1 h1 => ?_
  rw [List.append_nil]
  exact ⟨k.s, Z1, ds, Qd, fun _ => False, s1.bs, r1, h1, fun d v Z' H' st rv qd => q d v Z' H' (s1.trans st O.bs.st) rv qd, fun _ _ _ _ _ _ _ z => z.elim⟩
theorem de_callX {n : Nat} {f : Addr} {fd : FuncData} {ps : List Str} {spec : SpecD} {x : Str} {u : WA} {CX : CXT} (F : FnOk X.prog X.w X.K X.mg X.base CX n f fd ps (spD X.K X.mg spec)) (hr : Room n X.A) (hm : X.mg x = some (.ref f)) (hk : PySem.W.keepIn X.K (.ref f) = true) (hb : Binds X.K fd ps [])
    (hx : Passes CX X k.xk) (ha : DA X k (e :: es) u) (hg : Gl X x := by rfl) (hdb : (x == ("__debug__" : Str)) = false := by decide) (he : starEach (e :: es) X.env = (false, eval e X.env) :: starEach es X.env := by rfl) (hpl : (backTo pos (starEach es X.env)).any (·.1) = false := by rfl) :
    DE X k (.Call (.Name x p) (e :: es) [] pos) (wCall spec k.xd u) := by
  obtain ⟨t, pa, fa⟩ := ha
  refine ⟨_, pe_call F hr hg hm hk hb .nil hx pa hdb he hpl, fun r Z H σ ρ Qd Q O h q => ?_⟩
  refine fa r Z H σ ρ _ _ O h fun ds vs Z1 H1 s1 r1 h1 => ?_
  rw [List.append_nil]
  exact ⟨k.s, Z1, ds, Qd, k.xd, s1.bs, r1, h1, fun d v Z' H' st rv qd => q d v Z' H' (s1.trans st O.bs.st) rv qd, fun ex cls od Z' H' st er z => O.lk Z' H' ex cls od (O.en.trans (s1.trans st O.bs.st) O.s0) er z⟩
/-- a def that may raise, called where it does not -/
theorem de_callN {n : Nat} {f : Addr} {fd : FuncData} {ps : List Str} {spec : SpecD} {x : Str} {u : WA} (F : FnOk X.prog X.w X.K X.mg X.base (L2.CX X.prog X.w) n f fd ps (spD X.K X.mg spec)) (hr : Room n X.A) (hm : X.mg x = some (.ref f)) (hk : PySem.W.keepIn X.K (.ref f) = true) (hb : Binds X.K fd ps [])
    (ha : DA X k (e :: es) u) (hg : Gl X x := by rfl) (hdb : (x == ("__debug__" : Str)) = false := by decide) (he : starEach (e :: es) X.env = (false, eval e X.env) :: starEach es X.env := by rfl) (hpl : (backTo pos (starEach es X.env)).any (·.1) = false := by rfl) :
    DE X k (.Call (.Name x p) (e :: es) [] pos) (wCall0 spec u) := by
  obtain ⟨t, pa, fa⟩ := ha
  refine ⟨_, pe_call F hr hg hm hk hb .nil passL pa hdb he hpl, fun r Z H σ ρ Qd Q O h q => ?_⟩
  refine fa r Z H σ ρ _ _ O h fun ds vs Z1 H1 s1 r1 h1 => ?_
  rw [List.append_nil]
  exact ⟨k.s, Z1, ds, Qd, fun _ => False, s1.bs, r1, h1, fun d v Z' H' st rv qd => q d v Z' H' (s1.trans st O.bs.st) rv qd, fun _ _ _ _ _ _ _ z => z.elim⟩
/-- a built-in function, a built-in type, called -/
def wCB (rd : RAD) (u : WA) : WE := fun ρ Q => u ρ fun ds => rd ds Q
theorem de_b {id : String} {r : List V → Hp → VK → Prop} {rd : RAD} {x : Str} {u : WA} (hc : CallR X (.builtin id) r) (o : OpA X k r rd) (hm : X.mg x = none) (hv : bootBuiltins x = some (.builtin id)) (ha : DA X k (e :: es) u) (hg : Gl X x := by rfl) (hn : x ≠ "__name__" := by decide) (hdb : (x == ("__debug__" : Str)) = false := by decide)
    (he : starEach (e :: es) X.env = (false, eval e X.env) :: starEach es X.env := by rfl) (hpl : (backTo pos (starEach es X.env)).any (·.1) = false := by rfl) : DE X k (.Call (.Name x p) (e :: es) [] pos) (wCB rd u) := by
  obtain ⟨t, pa, fa⟩ := ha
  refine ⟨_, pe_callB hc hg hm hv pa hn hdb he hpl, fun r Z H σ ρ Qd Q O h q => ?_⟩
  refine fa r Z H σ ρ _ _ O h fun ds vs Z1 H1 s1 r1 h1 => ?_
  exact o Z1 H1 vs ds Qd Q s1.bs r1 h1 fun d v Z' H' st rv qd => q d v Z' H' (s1.trans st O.bs.st) rv qd
theorem de_ty {T : String} {r : List V → Hp → VK → Prop} {rd : RAD} {x : Str} {u : WA} (hc : CallR X (.type T) r) (o : OpA X k r rd) (hm : X.mg x = none) (hv : bootBuiltins x = some (.type T)) (ha : DA X k (e :: es) u) (hg : Gl X x := by rfl) (hn : x ≠ "__name__" := by decide) (hdb : (x == ("__debug__" : Str)) = false := by decide)
    (he : starEach (e :: es) X.env = (false, eval e X.env) :: starEach es X.env := by rfl) (hpl : (backTo pos (starEach es X.env)).any (·.1) = false := by rfl) : DE X k (.Call (.Name x p) (e :: es) [] pos) (wCB rd u) := by
  obtain ⟨t, pa, fa⟩ := ha
  refine ⟨_, pe_callTy hc hg hm hv pa hn hdb he hpl, fun r Z H σ ρ Qd Q O h q => ?_⟩
  refine fa r Z H σ ρ _ _ O h fun ds vs Z1 H1 s1 r1 h1 => ?_
  exact o Z1 H1 vs ds Qd Q s1.bs r1 h1 fun d v Z' H' st rv qd => q d v Z' H' (s1.trans st O.bs.st) rv qd
/-- a method of a text, with no argument, with one -/
abbrev RM0 := Str → (D → Prop) → Prop
def wM0 (rd : Str → (D → Prop) → Prop) (w : WE) : WE := fun ρ Q => w ρ fun d => d.S fun z => rd z Q
theorem de_m0 {id : String} {name : Str} {apos : Pos} {o : Expr} {r : V → List V → Hp → VK → Prop} {rd : Str → (D → Prop) → Prop} (slot : Slot "str" name id) (ty : typeOf (.builtin id) = pure (.type "method_descriptor")) (rule : MtR X id r)
    (om : ∀ (Z H : Hp) (z : Str) (Qd : D → Prop) (Q : VK), Bs k.s Z H → rd z Qd → (∀ d v Z' H', Stp k.s Z H Z' H' → Rp (wc X k.s) Z' v d → Qd d → Q v H') → r (.str z) [] H Q) (h : DE X k o w)
    (hbase : attributeBase o name X.env (eval o X.env) = eval o X.env := by rfl) (hline : (apos.endLine == pos.line) = true := by rfl) : DE X k (.Call (.Attribute o name apos) [] [] pos) (wM0 rd w) := by
  obtain ⟨t, pa, fa⟩ := h
  refine ⟨_, pe_m0 slot ty rule pa hbase hline, fun r Z H σ ρ Qd Q O h q => ?_⟩
  refine fa r Z H σ ρ _ _ O h fun d v Z1 H1 s1 r1 h1 => ?_
  obtain ⟨z, e0, g0⟩ := D.S_ex h1
  clear h1
  have h1 := g0
  clear g0
  subst e0
  cases r1
  exact ⟨⟨z, rfl⟩, om Z1 H1 z Qd Q s1.bs h1 fun d v Z' H' st rv qd => q d v Z' H' (s1.trans st O.bs.st) rv qd⟩
def wM1 (rd : Str → D → (D → Prop) → Prop) (w u : WE) : WE := fun ρ Q => w ρ fun d => d.S fun z => u ρ fun y => rd z y Q
theorem de_m1 {id : String} {name : Str} {apos : Pos} {o : Expr} {r : V → List V → Hp → VK → Prop} {rd : Str → D → (D → Prop) → Prop} (slot : Slot "str" name id) (ty : typeOf (.builtin id) = pure (.type "method_descriptor")) (rule : MtR X id r)
    (om : ∀ (Z H : Hp) (z : Str) (y : V) (d : D) (Qd : D → Prop) (Q : VK), Bs k.s Z H → Rp (wc X k.s) Z y d → rd z d Qd → (∀ d v Z' H', Stp k.s Z H Z' H' → Rp (wc X k.s) Z' v d → Qd d → Q v H') → r (.str z) [y] H Q) (h : DE X k o w) (h2 : DE X k e wa)
    (hs : starEach [e] X.env = [(false, eval e X.env)] := by rfl) (hbase : attributeBase o name X.env (eval o X.env) = eval o X.env := by rfl) (hline : (apos.endLine == pos.line) = true := by rfl) : DE X k (.Call (.Attribute o name apos) [e] [] pos) (wM1 rd w wa) := by
  obtain ⟨t, pa, fa⟩ := h
  obtain ⟨t2, pa2, fa2⟩ := h2
  refine ⟨_, pe_m1 slot ty rule pa pa2 hs hbase hline, fun r Z H σ ρ Qd Q O h q => ?_⟩
  refine fa r Z H σ ρ _ _ O h fun d v Z1 H1 s1 r1 h1 => ?_
  obtain ⟨z, e0, g0⟩ := D.S_ex h1
  clear h1
  have h1 := g0
  clear g0
  subst e0
  cases r1
  refine ⟨⟨z, rfl⟩, fa2 r Z1 H1 σ ρ _ _ (O.stp s1) h1 fun d v Z2 H2 s2 r2 h2 => ?_⟩
  exact om Z2 H2 z v d Qd Q s2.bs r2 h2 fun d v Z' H' st rv qd => q d v Z' H' ((s1.trans s2 O.bs.st).trans st O.bs.st) rv qd
/-- subscripts -/
theorem de_ix {r : R2} {rd : R2D} (hi : IxR X r) (o : Op2 X k r rd) (ha : DE X k a wa) (hb : DE X k b wb) (hs : PlainIx b := by intro _ _; rfl) : DE X k (.Subscript a b pos) (wOp rd wa wb) := by
  obtain ⟨ta, pa, fa⟩ := ha
  obtain ⟨tb, pb, fb⟩ := hb
  exact ⟨_, pe_ix hi pa pb hs, op_core o fa fb⟩
/-- slices -/
abbrev WO := En → (Option Int → Prop) → Prop
def DO (X : Cx) (k : Cc) (e : Option Expr) (w : WO) : Prop := ∃ t, PO X e t ∧ ∀ (r : Rt) (Z H : Hp) (σ : L2.St) (ρ : En) (Qd : Option Int → Prop) (Q : Option Int → Hp → Prop), Ok (wc X k.s) k r Z H σ ρ → w ρ Qd → (∀ i Z' H', Stp k.s Z H Z' H' → Qd i → Q i H') → t σ H Q
def wNo : WO := fun _ Q => Q none
def wPart (w : WE) : WO := fun ρ Q => w ρ fun d => d.I fun i => Q (some i)
theorem do_no : DO X k none wNo := ⟨_, po_none, fun r Z H σ ρ Qd Q O h q => q none Z H (.refl O.bs) h⟩
theorem do_some (h : DE X k e w) : DO X k (some e) (wPart w) := by
  obtain ⟨t, p, f⟩ := h
  refine ⟨_, po_some p, fun r Z H σ ρ Qd Q O h q => ?_⟩
  refine f r Z H σ ρ _ _ O h fun d v Z1 H1 s1 r1 h1 => ?_
  obtain ⟨i, e0, g0⟩ := D.I_ex h1
  clear h1
  have h1 := g0
  clear g0
  subst e0
  cases r1
  exact ⟨i, rfl, q _ Z1 H1 s1 h1⟩
abbrev RSD := D → Option Int → Option Int → (D → Prop) → Prop
def wSl (rd : RSD) (w : WE) (l u : WO) : WE := fun ρ Q => w ρ fun d => l ρ fun i => u ρ fun j => rd d i j Q
def OpS (X : Cx) (k : Cc) (r : V → Option Int → Option Int → Hp → VK → Prop) (rd : RSD) : Prop := ∀ (Z H : Hp) (x : V) (d : D) (i j : Option Int) (Qd : D → Prop) (Q : VK), Bs k.s Z H → Rp (wc X k.s) Z x d → rd d i j Qd →
  (∀ d v Z' H', Stp k.s Z H Z' H' → Rp (wc X k.s) Z' v d → Qd d → Q v H') → r x i j H Q
theorem de_slice {r : V → Option Int → Option Int → Hp → VK → Prop} {rd : RSD} {lo hi : Option Expr} {l u : WO} {p2 : Pos} (hr : SlR X r) (o : OpS X k r rd) (h : DE X k e w) (hl : DO X k lo l) (hu : DO X k hi u) : DE X k (.Subscript e (.Slice lo hi none p2) pos) (wSl rd w l u) := by
  obtain ⟨t, p, f⟩ := h
  obtain ⟨t1, p1, f1⟩ := hl
  obtain ⟨t2, p2, f2⟩ := hu
  refine ⟨_, pe_slice hr p p1 p2, fun r Z H σ ρ Qd Q O h q => ?_⟩
  refine f r Z H σ ρ _ _ O h fun d v Z1 H1 s1 r1 h1 => ?_
  refine f1 r Z1 H1 σ ρ _ _ (O.stp s1) h1 fun i Z2 H2 s2 h2 => ?_
  have s12 := s1.trans s2 O.bs.st
  refine f2 r Z2 H2 σ ρ _ _ (O.stp s12) h2 fun j Z3 H3 s3 h3 => ?_
  have s13 := s12.trans s3 O.bs.st
  exact o Z3 H3 v d i j Qd Q s3.bs (r1.mono (s2.zz.trans s3.zz)) h3 fun d v Z' H' st rv qd => q d v Z' H' (s13.trans st O.bs.st) rv qd
/-- a field -/
def D.F (d : D) (n f : Str) (Q : D → Prop) : Prop := match d with
  | .ins m fs => m = n ∧ (match fs.lookup f with
    | some v => Q v
    | none => False)
  | _ => False
theorem D.F_ex {d : D} {n f : Str} {Q : D → Prop} (h : d.F n f Q) : ∃ fs v, d = .ins n fs ∧ fs.lookup f = some v ∧ Q v := by
  cases d with
  | ins m fs =>
    obtain ⟨rfl, h⟩ := h
    cases e : fs.lookup f with
    | none =>
      rw [e] at h
      exact h.elim
    | some v =>
      rw [e] at h
      exact ⟨fs, v, rfl, e, h⟩
  | _ => exact h.elim
def wFld (n f : Str) (w : WE) : WE := fun ρ Q => w ρ fun d => d.F n f Q
theorem rpf_lookup {c : Wc} {Z : Hp} {f : Str} : ∀ {fs : List (Str × V)} {ds : List (Str × D)} {d : D}, RpF c Z fs ds → ds.lookup f = some d → ∃ v, fs.lookup f = some v ∧ Rp c Z v d
  | _, _, _, .nil, h => by cases h
  | _, _, _, .cons (k := g) h r, e => by
    rw [List.lookup_cons] at e ⊢
    cases q : f == g with
    | true =>
      rw [q] at e
      cases e
      exact ⟨_, rfl, h⟩
    | false =>
      rw [q] at e
      exact rpf_lookup r e
theorem de_fld {n f : Str} {C : Addr} (hm : X.mg n = some (.ref C)) (hc : Cls X.K C) (hn : NoAttr X.K C f) (h : DE X k e w) (hb : attributeBase e f X.env (eval e X.env) = eval e X.env := by rfl) : DE X k (.Attribute e f pos) (wFld n f w) := by
  obtain ⟨t, p, g⟩ := h
  refine ⟨_, pe_fld p hb, fun r Z H σ ρ Qd Q O h q => ?_⟩
  refine g r Z H σ ρ _ _ O h fun d v Z1 H1 s1 r1 h1 => ?_
  obtain ⟨fs, x, e0, hl, g0⟩ := D.F_ex h1
  clear h1
  have h1 := g0
  clear g0
  subst e0
  cases r1 with
  | ins m hz hr =>
    have e : X.mg n = _ := m
    rw [hm] at e
    cases e
    obtain ⟨u, h2, h3⟩ := rpf_lookup hr hl
    exact ⟨_, _, _, _, u, rfl, s1.bs.zh _ _ hz, hc, hn, h2, q x u Z1 H1 s1 h3 h1⟩
end
/-! ### list comprehensions -/
/-- the readings in one form -/
def tEc (c : Wc) (k : Cc) (w : WE) : TE := fun σ H Q => ∃ r Z ρ Qd, Ok c k r Z H σ ρ ∧ w ρ Qd ∧ ∀ d v Z' H', Stp c.s Z H Z' H' → Rp c Z' v d → Qd d → Q v H'
def tTc (c : Wc) (k : Cc) (w : WT) : TT := fun σ H Q => ∃ r Z ρ Qd, Ok c k r Z H σ ρ ∧ w ρ Qd ∧ ∀ d Z' H', Stp c.s Z H Z' H' → Qd d → Q d H'
def tGc (c : Wc) (k : Cc) (us : List Nat) (w : WG) : TG := fun v σ H Q => ∃ r Z ρ d Qd, Ok c k r Z H σ ρ ∧ Rp c Z v d ∧ w d ρ Qd ∧ ∀ σ' ρ', Ok c k r Z H σ' ρ' → (∀ vs, (∀ i ∈ us, i ∈ vs) → wipe σ' vs = wipe σ vs) → Qd ρ' → Q σ' H
section
variable {X : Cx} {k : Cc} {e : Expr} {es : List Expr} {w : WE} {pos : Pos}
theorem PE.weak {t t' : TE} (h : PE X e t) (hw : ∀ σ H Q, t' σ H Q → t σ H Q) : PE X e t' := ⟨fun pins s σ H Q I q => h.run pins s σ H Q I (hw _ _ _ q)⟩
theorem DE.pe (h : DE X k e w) : PE X e (tEc (wc X k.s) k w) := by
  obtain ⟨t, p, f⟩ := h
  exact PE.weak p fun σ H Q ⟨r, Z, ρ, Qd, O, h, q⟩ => f r Z H σ ρ Qd Q O h q
def DTs (X : Cx) (k : Cc) (es : List Expr) (w : WT) : Prop := ∃ t, PTs X es t ∧ ∀ (r : Rt) (Z H : Hp) (σ : L2.St) (ρ : En) (Qd : Bool → Prop) (Q : Bool → Hp → Prop), Ok (wc X k.s) k r Z H σ ρ → w ρ Qd → (∀ b Z' H', Stp k.s Z H Z' H' → Qd b → Q b H') → t σ H Q
def wYes : WT := fun _ Q => Q true
theorem dts_nil : DTs X k [] wYes := ⟨_, pts_nil, fun r Z H σ ρ Qd Q O h q => q true Z H (.refl O.bs) h⟩
theorem dts_one {w : WT} (h : DT X k e w) : DTs X k [e] w := by
  obtain ⟨t, p, f⟩ := h
  exact ⟨_, pts_one p, f⟩
theorem DTs.pt {w : WT} (h : DTs X k es w) : PTs X es (tTc (wc X k.s) k w) := by
  obtain ⟨t, p, f⟩ := h
  exact ⟨fun pins s σ H Q I ⟨r, Z, ρ, Qd, O, h, q⟩ => p.run pins s σ H Q I (f r Z H σ ρ Qd Q O h q)⟩
theorem DG.pg {w : WG} {us : List Nat} (h : DG X k e us w) : PG X e (tGc (wc X k.s) k us w) := by
  obtain ⟨t, p, f⟩ := h
  exact ⟨fun pins s σ H v u Q I rv ⟨r, Z, ρ, d, Qd, O, rd, h, q⟩ => p.run pins s σ H v u Q I rv (f r Z H σ ρ v d Qd Q O rd h q)⟩
theorem wipe_idem {σ : L2.St} {vs : List Nat} : wipe (wipe σ vs) vs = wipe σ vs := by
  have q : ∀ (ws : List Nat) (i : Nat) (τ : L2.St), (wipe (τ.set i none) ws) = (wipe τ ws).set i none := by
    intro ws
    induction ws with
    | nil => intro i τ; rfl
    | cons w ws ih =>
      intro i τ
      show (wipe (τ.set i none) ws).set w none = ((wipe τ ws).set w none).set i none
      rw [ih]
      by_cases e : i = w
      · subst e; rfl
      · rw [List.set_comm _ _ e]
  have m : ∀ (ws : List Nat) (τ : L2.St), wipe (wipe τ ws) ws = wipe τ ws := by
    intro ws
    induction ws with
    | nil => intro τ; rfl
    | cons w ws ih =>
      intro τ
      show (wipe ((wipe τ ws).set w none) ws).set w none = (wipe τ ws).set w none
      rw [q, ih, List.set_set]
  exact m vs σ
def wipeD (ρ : En) : List Nat → En
  | [] => ρ
  | v :: vs => (wipeD ρ vs).set v .un
theorem Ok.un {c : Wc} {r : Rt} {Z H : Hp} {σ : L2.St} {ρ : En} {i : Nat} (O : Ok c k r Z H σ ρ) : Ok c k r Z H (σ.set i none) (ρ.set i .un) := by
  refine ⟨O.en, O.s0, O.lb, fun j t ht => ?_, fun j t a ht ho ha => ?_, fun j l t u a hjl ht hu ho ho' ha => ?_, O.lk⟩
  · by_cases hj : i = j
    · subst hj
      rw [List.getElem?_set, if_pos rfl] at ht
      split at ht
      · rename_i hl
        cases ht
        obtain ⟨o, h1, _⟩ := O.sl i _ (List.getElem?_eq_getElem hl)
        have hl2 : i < σ.length := (List.getElem?_eq_some_iff.mp h1).1
        exact ⟨none, by rw [List.getElem?_set_self hl2], trivial⟩
      · cases ht
    · rw [List.getElem?_set_ne hj] at ht ⊢
      exact O.sl j t ht
  · by_cases hj : i = j
    · subst hj
      rw [List.getElem?_set, if_pos rfl] at ht
      split at ht
      · cases ht
        cases ho
      · cases ht
    · rw [List.getElem?_set_ne hj] at ht ha
      exact O.ow j t a ht ho ha
  · have hj : i ≠ j := fun e => by
      subst e
      rw [List.getElem?_set, if_pos rfl] at ht
      split at ht
      · cases ht
        cases ho
      · cases ht
    have hl : i ≠ l := fun e => by
      subst e
      rw [List.getElem?_set, if_pos rfl] at hu
      split at hu
      · cases hu
        cases ho'
      · cases hu
    rw [List.getElem?_set_ne hj] at ht ha
    rw [List.getElem?_set_ne hl] at hu ⊢
    exact O.ds j l t u a hjl ht hu ho ho' ha
theorem Ok.wipe {c : Wc} {r : Rt} {Z H : Hp} {σ : L2.St} {ρ : En} (O : Ok c k r Z H σ ρ) : ∀ vs : List Nat, Ok c k r Z H (wipe σ vs) (wipeD ρ vs)
  | [] => O
  | v :: vs => (O.wipe vs).un
/-- no wish of errors -/
abbrev Cc.still (k : Cc) : Cc := ⟨k.s, fun _ => False, fun _ _ _ => False⟩
theorem Ok.still {c : Wc} {r : Rt} {Z H : Hp} {σ : L2.St} {ρ : En} (O : Ok c k r Z H σ ρ) : Ok c k.still r Z H σ ρ := ⟨O.en, O.s0, O.lb, O.sl, O.ow, O.ds, fun _ _ _ _ _ _ _ z => z.elim⟩
theorem Stp.mut {s p : Addr} {Z H Z' H' : Hp} {o : HO} (h : Stp s Z H Z' H') (b : StOk s H) (n : H p = none) (z : Z' p = none) : Stp s Z H Z' (upd H' p o) := by
  have ne : s ≠ p := b.ne n
  refine ⟨h.zz, ⟨fun a u e => by rw [upd_ne (ne_of_none e z)]; exact h.bs.zh a u e, ?_, h.bs.zs⟩, h.nw, fun a u e q => by rw [upd_ne (ne_of_none e n)]; exact h.hh a u e q⟩
  obtain ⟨i, j, h1, h2, h3⟩ := h.bs.st
  exact ⟨i, j, by rw [upd_ne ne]; exact h1, h2, h3⟩
theorem Stp.frz {s p : Addr} {Z H Z' H' : Hp} {o : HO} (h : Stp s Z H Z' H') (b : StOk s H) (n : H p = none) (z : Z' p = none) (e : H' p = some o) : Stp s Z H (upd Z' p o) H' := by
  have ne : s ≠ p := b.ne n
  have zz : Same Z' (upd Z' p o) := fun a u q => by rw [upd_ne (ne_of_none q z)]; exact q
  refine ⟨h.zz.trans zz, ⟨fun a u q => ?_, h.bs.st, by rw [upd_ne ne]; exact h.bs.zs⟩, fun a u q => ?_, h.hh⟩
  · by_cases w : a = p
    · subst w
      rw [upd_same] at q
      rw [e]
      exact q
    · rw [upd_ne w] at q
      exact h.bs.zh a u q
  · by_cases w : a = p
    · subst w
      exact .inr n
    · rw [upd_ne w] at q
      exact h.nw a u q
def wLcL (g : WG) (wt : WT) (we : WE) (ρ : En) : List D → List D → (List D → Prop) → Prop
  | [], acc, Q => Q acc
  | x :: xs, acc, Q => g x ρ fun ρ1 => wt ρ1 fun b => if b = true then we ρ1 fun y => wLcL g wt we ρ xs (acc ++ [y]) Q else wLcL g wt we ρ xs acc Q
def wLc (wi : WA) (g : WG) (wt : WT) (we : WE) (vs : List Nat) : WE := fun ρ Q => wi ρ fun ds => ds.length ≤ 1000000 ∧ wLcL g wt we (wipeD ρ vs) ds [] fun ys => Q (.lst ys)
theorem lc_core_d {wi : WA} {g : WG} {wt : WT} {vs us : List Nat} {ti : TI} (hus : ∀ i ∈ us, i ∈ vs)
    (fi : ∀ (r : Rt) (Z H : Hp) (σ : L2.St) (ρ : En) (Qd : List D → Prop) (R : It → Hp → Prop), Ok (wc X k.s) k r Z H σ ρ → wi ρ Qd → (∀ ds Z' H' J, Stp k.s Z H Z' H' → ItD (wc X k.s) Z' J ds → Qd ds → R J H') → ti σ H R) :
    ∀ (r : Rt) (Z H : Hp) (σ : L2.St) (ρ : En) (Qd : D → Prop) (Q : VK), Ok (wc X k.s) k r Z H σ ρ → wLc wi g wt w vs ρ Qd → (∀ d v Z' H', Stp k.s Z H Z' H' → Rp (wc X k.s) Z' v d → Qd d → Q v H') →
      tLc ti (tGc (wc X k.s) k.still us g) (tTc (wc X k.s) k.still wt) (tEc (wc X k.s) k.still w) vs σ H Q := by
  intro r Z H σ ρ Qd Q O h q
  refine fi r Z H σ ρ _ _ O h fun ds Z1 H1 J s1 it h1 => ?_
  obtain ⟨hlen, h1⟩ := h1
  intro D hD
  have O1 := O.stp s1
  have b1 : StOk k.s H1 := O1.bs.st
  have nD : k.s ≠ D := b1.ne hD
  refine ⟨fun i m H' => ∃ Z' acc avs, Stp k.s Z1 H1 Z' H' ∧ H' D = some (.lst avs) ∧ RpA (wc X k.s) Z' avs acc ∧ Z' D = none ∧ acc.length ≤ i ∧ wLcL g wt w (wipeD ρ vs) (ds.drop i) acc (fun ys => Qd (.lst ys)) ∧ i ≤ ds.length ∧ m = ds.length - i,
    ⟨_, Z1, [], [], (Stp.refl O1.bs).mut b1 hD (O1.bs.zh.free hD), upd_same, .nil, O1.bs.zh.free hD, Nat.le_refl _, h1, Nat.zero_le _, rfl⟩, ?_⟩
  rintro i m H' ⟨Z', acc, avs, st, hd, ra, zd, hal, h', hi, rfl⟩
  obtain ⟨go, stop, yld⟩ := it Z' H' st.zz st.bs
  by_cases hlt : i < ds.length
  · refine .inr ⟨go i hlt, fun H2 => ∃ Z2 acc2 avs2, Stp k.s Z1 H1 Z2 H2 ∧ H2 D = some (.lst avs2) ∧ RpA (wc X k.s) Z2 avs2 acc2 ∧ Z2 D = none ∧ acc2.length ≤ i + 1 ∧ wLcL g wt w (wipeD ρ vs) (ds.drop (i + 1)) acc2 (fun ys => Qd (.lst ys)), ?_, ?_⟩
    · rintro H2 ⟨Z2, acc2, avs2, st2, hd2, ra2, zd2, hal2, h2⟩
      exact ⟨_, by omega, Z2, acc2, avs2, st2, hd2, ra2, zd2, hal2, h2, hlt, rfl⟩
    · intro x H2 y
      obtain ⟨dx, Z3, e1, s3, r3⟩ := yld i x H2 y hlt
      have e2 : ds.drop i = dx :: ds.drop (i + 1) := by
        rw [List.drop_eq_getElem_cons hlt]
        rw [List.getElem?_eq_getElem hlt] at e1
        rw [Option.some.inj e1]
      rw [e2] at h'
      have zn : ∀ {Za Ha Zb Hb : Hp}, Stp k.s Za Ha Zb Hb → Za D = none → Ha D = some (.lst avs) → Zb D = none := fun {Za Ha Zb Hb} st za ha => by
        cases z : Zb D with
        | none => rfl
        | some o =>
          rcases st.nw D o z with z1 | z1
          · rw [za] at z1
            cases z1
          · rw [ha] at z1
            cases z1
      have st3 := st.trans s3 b1
      have O3 := ((O1.stp st3).wipe vs).still
      have hd3 := s3.hh D _ hd (Ne.symm nD)
      refine ⟨r, Z3, wipeD ρ vs, dx, _, O3, r3, h', fun σ4 ρ4 O4 w4 h4 => ?_⟩
      refine ⟨by rw [w4 vs hus, wipe_idem], r, Z3, ρ4, _, O4, h4, fun bb Z5 H5 s5 h5 => ?_⟩
      have hd5 := s5.hh D _ hd3 (Ne.symm nD)
      have zd5 := zn s5 (zn s3 zd hd) hd3
      cases bb with
      | true =>
        refine iteT ⟨r, Z5, ρ4, _, O4.stp s5, (by simpa using h5), fun d v Z6 H6 s6 r6 h6 => ?_⟩
        have hd6 := s6.hh D _ hd5 (Ne.symm nD)
        have zd6 := zn s6 zd5 hd5
        have st6 := (st3.trans s5 b1).trans s6 b1
        refine ⟨avs, hd6, ?_, Z6, acc ++ [d], avs ++ [v], st6.mut b1 hD zd6, upd_same, (ra.mono ((s3.zz.trans s5.zz).trans s6.zz)).append (.cons r6 .nil), zd6, by rw [List.length_append]; simp; omega, h6⟩
        have e5 := ra.length
        have e6 : sizeLine = 16777216 := by decide
        omega
      | false =>
        exact iteF ⟨Z5, acc, avs, st3.trans s5 b1, hd5, ra.mono (s3.zz.trans s5.zz), zd5, by omega, by simpa using h5⟩
  · have e : i = ds.length := by omega
    subst e
    refine .inl ⟨stop _ (Nat.le_refl _), ?_⟩
    rw [List.drop_length] at h'
    exact q (.lst acc) (.ref D) (upd Z' D (.lst avs)) H' (s1.trans (st.frz b1 hD zd hd) O.bs.st) (.lst upd_same (ra.mono fun a u e => by rw [upd_ne (ne_of_none e zd)]; exact e)) h'
theorem de_lc {elt tg it : Expr} {ifs : List Expr} {scope : Scope} {own : List (Str × Nat)} {wi : WA} {g : WG} {wt : WT} {us : List Nat} (hN : X.N.Nodup) (hi : DI X k tg it wi) (ok : BlkOk X.N X.env.scope scope own)
    (hg : ∀ (s : Shared) (H : Hp) (C : Addr) (cl : List (Str × Addr)) (fp : List Addr), DG (X.blk s H scope (compEnvC scope cl C X.env) fp) k.still tg us g)
    (ht : ∀ (s : Shared) (H : Hp) (C : Addr) (cl : List (Str × Addr)) (fp : List Addr), DTs (X.blk s H scope (compEnvC scope cl C X.env) fp) k.still ifs wt)
    (he : ∀ (s : Shared) (H : Hp) (C : Addr) (cl : List (Str × Addr)) (fp : List Addr), DE (X.blk s H scope (compEnvC scope cl C X.env) fp) k.still elt w)
    (hus : ∀ i ∈ us, i ∈ own.map (·.2) := by decide) (hc : X.calm = true := by rfl) (hs : ∀ x, foldedSetIterable it X.env x = pure x := by intro _; rfl) : DE X k (.ListComp elt [⟨tg, it, ifs, 0⟩] scope pos) (wLc wi g wt w (own.map (·.2))) := by
  obtain ⟨ti, pi, fi⟩ := hi
  exact ⟨_, pe_lc (g := tGc (wc X k.s) k.still us g) (tt := tTc (wc X k.s) k.still wt) (te := tEc (wc X k.s) k.still w) hc hN pi ok (fun s H C cl fp => (hg s H C cl fp).pg) (fun s H C cl fp => (ht s H C cl fp).pt) (fun s H C cl fp => (he s H C cl fp).pe) hs, lc_core_d hus fi⟩
theorem ds_setLc {i : Nat} {y : Str} {py spos : Pos} {elt tg it : Expr} {ifs : List Expr} {scope : Scope} {own : List (Str × Nat)} {wi : WA} {g : WG} {wt : WT} {us : List Nat} (hN : X.N.Nodup)
    (hsw : swapsWith (.ListComp elt [⟨tg, it, ifs, 0⟩] scope pos) (some (.Name y py)) spos.line X.env = pure true) (hi : DI X k tg it wi) (ok : BlkOk X.N X.env.scope scope own)
    (hg : ∀ (s : Shared) (H : Hp) (C : Addr) (cl : List (Str × Addr)) (fp : List Addr), DG (X.blk s H scope (compEnvC scope cl C X.env) fp) k.still tg us g)
    (ht : ∀ (s : Shared) (H : Hp) (C : Addr) (cl : List (Str × Addr)) (fp : List Addr), DTs (X.blk s H scope (compEnvC scope cl C X.env) fp) k.still ifs wt)
    (he : ∀ (s : Shared) (H : Hp) (C : Addr) (cl : List (Str × Addr)) (fp : List Addr), DE (X.blk s H scope (compEnvC scope cl C X.env) fp) k.still elt w)
    (hus : ∀ i ∈ us, i ∈ own.map (·.2) := by decide) (hc : X.calm = true := by rfl) (hs : ∀ x, foldedSetIterable it X.env x = pure x := by intro _; rfl) (hy : X.N[i]? = some y := by rfl) (hyl : X.env.scope.names.lookup y = some .local := by rfl) :
    DS X k (.Assign [.Name y py] (.ListComp elt [⟨tg, it, ifs, 0⟩] scope pos) spos) (wSet i (wLc wi g wt w (own.map (·.2)))) := by
  obtain ⟨ti, pi, fi⟩ := hi
  refine ⟨_, ps_setLc (g := tGc (wc X k.s) k.still us g) (tt := tTc (wc X k.s) k.still wt) (te := tEc (wc X k.s) k.still w) hc hN hy hyl hsw pi ok (fun s H C cl fp => (hg s H C cl fp).pg) (fun s H C cl fp => (ht s H C cl fp).pt) (fun s H C cl fp => (he s H C cl fp).pe) hs, fun r Z H σ ρ d E O L h => ?_⟩
  exact lc_core_d hus fi r Z H σ ρ _ _ O h fun x v Z1 H1 s1 r1 h1 => L.nx Z1 H1 _ _ ((O.stp s1).set r1) h1
end
end Dl
set_option Elab.async false
set_option linter.all false
set_option maxRecDepth 100000
set_option maxHeartbeats 2000000
namespace Dl
open PySem PySem.Spec PyProof.Rows L2
/-! ### trees as data, for == -/
mutual
def D.py : D → PyData
  | .non => .none
  | .bl b => .bool b
  | .int i => .int i
  | .str s => .str s
  | .lst xs => .list (D.pyA xs)
  | .tup xs => .tuple (D.pyA xs)
  | _ => .none
def D.pyA : List D → List PyData
  | [] => []
  | x :: xs => x.py :: D.pyA xs
end
mutual
/-- no dict, no object, texts of characters -/
def D.fit : D → Bool
  | .non => true
  | .bl _ => true
  | .int _ => true
  | .str s => PyData.strOk s
  | .lst xs => D.fitA xs
  | .tup xs => D.fitA xs
  | _ => false
def D.fitA : List D → Bool
  | [] => true
  | x :: xs => x.fit && D.fitA xs
end
mutual
def D.dep : D → Nat
  | .lst xs => D.depA xs + 1
  | .tup xs => D.depA xs + 1
  | _ => 0
def D.depA : List D → Nat
  | [] => 0
  | x :: xs => max x.dep (D.depA xs)
end
mutual
theorem dep_py : ∀ d : D, d.py.depth = d.dep
  | .lst xs => by simp only [D.py, D.dep, PyData.depth, depA_py xs]
  | .tup xs => by simp only [D.py, D.dep, PyData.depth, depA_py xs]
  | .non => by simp only [D.py, D.dep, PyData.depth]
  | .bl _ => by simp only [D.py, D.dep, PyData.depth]
  | .int _ => by simp only [D.py, D.dep, PyData.depth]
  | .str _ => by simp only [D.py, D.dep, PyData.depth]
  | .dic _ => by simp only [D.py, D.dep, PyData.depth]
  | .ins _ _ => by simp only [D.py, D.dep, PyData.depth]
  | .drw => by simp only [D.py, D.dep, PyData.depth]
  | .scr _ => by simp only [D.py, D.dep, PyData.depth]
  | .ty _ => by simp only [D.py, D.dep, PyData.depth]
  | .rf _ => by simp only [D.py, D.dep, PyData.depth]
theorem depA_py : ∀ ds : List D, PyData.depthAll (D.pyA ds) = D.depA ds
  | [] => by simp only [D.pyA, D.depA, PyData.depthAll]
  | d :: ds => by simp only [D.pyA, D.depA, PyData.depthAll, dep_py d, depA_py ds]
end
mutual
theorem fit_py : ∀ d : D, d.fit = true → d.py.canLay0 = true
  | .lst xs, h => by
    simp only [D.fit] at h
    simp only [D.py, PyData.canLay0, fitA_py xs h]
  | .tup xs, h => by
    simp only [D.fit] at h
    simp only [D.py, PyData.canLay0, fitA_py xs h]
  | .non, _ => by simp only [D.py, PyData.canLay0]
  | .bl _, _ => by simp only [D.py, PyData.canLay0]
  | .int _, _ => by simp only [D.py, PyData.canLay0]
  | .str s, h => by
    simp only [D.fit] at h
    simp only [D.py, PyData.canLay0, h]
theorem fitA_py : ∀ ds : List D, D.fitA ds = true → PyData.canLayAll0 (D.pyA ds) = true
  | [], _ => by simp only [D.pyA, PyData.canLayAll0]
  | d :: ds, h => by
    simp only [D.fitA, Bool.and_eq_true] at h
    simp only [D.pyA, PyData.canLayAll0, fit_py d h.1, fitA_py ds h.2, Bool.and_self]
end
mutual
theorem rp_dp {c : Wc} {Z H : Hp} (e : Same Z H) : ∀ (d : D) (v : V), Rp c Z v d → d.fit = true → Dp c.K H v d.py
  | .lst xs, _, .lst h r, f => by
    simp only [D.fit] at f
    simp only [D.py]
    exact .lst (.inl (.inl (e _ _ h))) (rpa_dp e xs _ r f)
  | .tup xs, _, .tup h r, f => by
    simp only [D.fit] at f
    simp only [D.py]
    exact .tup (same_t e h) (rpa_dp e xs _ r f)
  | .non, _, .non, _ => by simp only [D.py]; exact .non
  | .bl b, _, .bl _, _ => by simp only [D.py]; exact .bl b
  | .int i, _, .int _, _ => by simp only [D.py]; exact .int i
  | .str s, _, .str _, _ => by simp only [D.py]; exact .str s
theorem rpa_dp {c : Wc} {Z H : Hp} (e : Same Z H) : ∀ (ds : List D) (vs : List V), RpA c Z vs ds → D.fitA ds = true → DpAll c.K H vs (D.pyA ds)
  | [], _, .nil, _ => by simp only [D.pyA]; exact .nil
  | d :: ds, _, .cons h r, f => by
    simp only [D.fitA, Bool.and_eq_true] at f
    simp only [D.pyA]
    exact .cons (rp_dp e d _ h f.1) (rpa_dp e ds _ r f.2)
end
/-- fit to be compared -/
def D.ok (d : D) : Prop := d.fit = true ∧ d.dep ≤ 64
theorem D.ok.shaped {d : D} (h : d.ok) : SeqAt.shaped d.py = true := by
  unfold SeqAt.shaped
  rw [fit_py d h.1, dep_py, decide_eq_true h.2]
  rfl
/-- Python's == of two trees -/
def deq (a b : D) : Bool := PyData.eqv a.py b.py
/-- .. where both are single values of a kind -/
def eqS : D → D → Option Bool
  | .str x, .str y => some (decide (x = y))
  | .int x, .int y => some (decide (x = y))
  | .bl x, .bl y => some (decide (x = y))
  | .non, .non => some true
  | .non, .str _ => some false
  | .str _, .non => some false
  | .non, .int _ => some false
  | .int _, .non => some false
  | .non, .bl _ => some false
  | .bl _, .non => some false
  | .int _, .str _ => some false
  | .str _, .int _ => some false
  | .bl _, .str _ => some false
  | .str _, .bl _ => some false
  | _, _ => none
def rdEq : R2D := fun a b Q => match eqS a b with
  | some r => Q (.bl r)
  | none => (a.ok ∧ b.ok) ∧ Q (.bl (deq a b))
def rdNe : R2D := fun a b Q => match eqS a b with
  | some r => Q (.bl (!r))
  | none => (a.ok ∧ b.ok) ∧ Q (.bl (!deq a b))
section
variable {X : Cx} {k : Cc}
theorem eqS_scal {c : Wc} {Z : Hp} {x y : V} {a b : D} {r : Bool} (h : eqS a b = some r) (ra : Rp c Z x a) (rb : Rp c Z y b) : scal x y = true ∧ decide (x = y) = r := by
  cases ra <;> cases rb <;> first
    | (simp only [eqS, Option.some.injEq] at h
       subst h
       refine ⟨rfl, ?_⟩
       simp)
    | (simp [eqS] at h)
theorem op_eq_d (hu : X.A.units + 64 < cLine) : OpR X (compareOp .Eq) (fun x y H Q => rEq x y H Q ∨ rEqD X.K x y H Q) := .or op_eq (op_eqD hu)
theorem op_ne_d (hu : X.A.units + 64 < cLine) : OpR X (compareOp .NotEq) (fun x y H Q => rNe x y H Q ∨ rNeD X.K x y H Q) := .or op_ne (op_neD hu)
theorem o2_eq : Op2 X k (fun x y H Q => rEq x y H Q ∨ rEqD X.K x y H Q) rdEq := by
  intro Z H x y a b Qd Q B ra rb h q
  unfold rdEq at h
  cases e : eqS a b with
  | some r =>
    rw [e] at h
    obtain ⟨h1, h2⟩ := eqS_scal e ra rb
    exact .inl ⟨h1, by rw [h2]; exact q _ _ Z H (.refl B) (.bl _) h⟩
  | none =>
    rw [e] at h
    obtain ⟨⟨oa, ob⟩, h⟩ := h
    exact .inr ⟨a.py, b.py, rp_dp (c := wc X k.s) B.zh a x ra oa.1, rp_dp (c := wc X k.s) B.zh b y rb ob.1, oa.shaped, ob.shaped, q _ _ Z H (.refl B) (.bl _) h⟩
theorem o2_ne : Op2 X k (fun x y H Q => rNe x y H Q ∨ rNeD X.K x y H Q) rdNe := by
  intro Z H x y a b Qd Q B ra rb h q
  unfold rdNe at h
  cases e : eqS a b with
  | some r =>
    rw [e] at h
    obtain ⟨h1, h2⟩ := eqS_scal e ra rb
    exact .inl ⟨h1, by rw [h2]; exact q _ _ Z H (.refl B) (.bl _) h⟩
  | none =>
    rw [e] at h
    obtain ⟨⟨oa, ob⟩, h⟩ := h
    exact .inr ⟨a.py, b.py, rp_dp (c := wc X k.s) B.zh a x ra oa.1, rp_dp (c := wc X k.s) B.zh b y rb ob.1, oa.shaped, ob.shaped, q _ _ Z H (.refl B) (.bl _) h⟩
/-! ### whole numbers -/
def rdI (C : Int → Int → Prop) (g : Int → Int → D) : R2D := fun a b Q => a.I fun i => b.I fun j => C i j ∧ Q (g i j)
def rdI0 (g : Int → Int → D) : R2D := fun a b Q => a.I fun i => b.I fun j => Q (g i j)
theorem o2_int {C : Int → Int → Prop} {g : Int → Int → V} {gd : Int → Int → D} (hg : ∀ c Z i j, Rp c Z (g i j) (gd i j)) : Op2 X k (rI C g) (rdI C gd) := by
  intro Z H x y a b Qd Q B ra rb h q
  obtain ⟨i, e1, h1⟩ := D.I_ex h
  obtain ⟨j, e2, hc, h2⟩ := D.I_ex h1
  subst e1 e2
  cases ra
  cases rb
  exact ⟨i, j, rfl, rfl, hc, q _ _ Z H (.refl B) (hg _ _ _ _) h2⟩
theorem o2_int0 {g : Int → Int → V} {gd : Int → Int → D} (hg : ∀ c Z i j, Rp c Z (g i j) (gd i j)) : Op2 X k (rI0 g) (rdI0 gd) := by
  intro Z H x y a b Qd Q B ra rb h q
  obtain ⟨i, e1, h1⟩ := D.I_ex h
  obtain ⟨j, e2, h2⟩ := D.I_ex h1
  subst e1 e2
  cases ra
  cases rb
  exact ⟨i, j, rfl, rfl, q _ _ Z H (.refl B) (hg _ _ _ _) h2⟩
variable {a b e c : Expr} {es : List Expr} {wa wb w wc' : WE} {pos p : Pos}
theorem de_add (ha : DE X k a wa) (hb : DE X k b wb) : DE X k (.BinOp a .Add b pos) (wOp (rdI0 fun i j => .int (i + j)) wa wb) := de_op op_add (o2_int0 fun _ _ _ _ => .int _) ha hb
theorem de_sub (ha : DE X k a wa) (hb : DE X k b wb) : DE X k (.BinOp a .Sub b pos) (wOp (rdI0 fun i j => .int (i - j)) wa wb) := de_op op_sub (o2_int0 fun _ _ _ _ => .int _) ha hb
theorem de_mul (ha : DE X k a wa) (hb : DE X k b wb) : DE X k (.BinOp a .Mult b pos) (wOp (rdI CMul fun i j => .int (i * j)) wa wb) := de_op op_mul (o2_int fun _ _ _ _ => .int _) ha hb
theorem de_mod (ha : DE X k a wa) (hb : DE X k b wb) : DE X k (.BinOp a .Mod b pos) (wOp (rdI (fun _ j => 0 < j) fun i j => .int (i % j)) wa wb) := de_op op_mod (o2_int fun _ _ _ _ => .int _) ha hb
theorem de_fdiv (ha : DE X k a wa) (hb : DE X k b wb) : DE X k (.BinOp a .FloorDiv b pos) (wOp (rdI CDivW fun i j => .int (i / j)) wa wb) := de_op op_fdivW (o2_int fun _ _ _ _ => .int _) ha hb
theorem de_pow (ha : DE X k a wa) (hb : DE X k b wb) : DE X k (.BinOp a .Pow b pos) (wOp (rdI CPow fun i j => .int (i ^ j.toNat)) wa wb) := de_op op_pow (o2_int fun _ _ _ _ => .int _) ha hb
theorem de_shl (ha : DE X k a wa) (hb : DE X k b wb) : DE X k (.BinOp a .LShift b pos) (wOp (rdI CPow fun i j => .int (i * 2 ^ j.toNat)) wa wb) := de_op op_shl (o2_int fun _ _ _ _ => .int _) ha hb
def wNeg (wa : WE) : WE := fun ρ Q => wa ρ fun d => d.I fun i => Q (.int (-i))
theorem de_neg (ha : DE X k a wa) : DE X k (.UnaryOp .USub a pos) (wNeg wa) := by
  obtain ⟨t, p, f⟩ := ha
  refine ⟨_, pe_un un_neg p, fun r Z H σ ρ Qd Q O h q => ?_⟩
  refine f r Z H σ ρ _ _ O h fun d v Z1 H1 s1 r1 h1 => ?_
  obtain ⟨i, e0, h2⟩ := D.I_ex h1
  subst e0
  cases r1
  exact ⟨i, rfl, q _ _ Z1 H1 s1 (.int _) h2⟩
abbrev rdLt : R2D := rdI0 fun i j => .bl (decide (i < j))
abbrev rdLe : R2D := rdI0 fun i j => .bl (decide (i ≤ j))
abbrev rdGt : R2D := rdI0 fun i j => .bl (decide (j < i))
abbrev rdGe : R2D := rdI0 fun i j => .bl (decide (j ≤ i))
theorem o2_lt : Op2 X k (rI0 fun i j => .bl (decide (i < j))) rdLt := o2_int0 fun _ _ _ _ => .bl _
theorem o2_le : Op2 X k (rI0 fun i j => .bl (decide (i ≤ j))) rdLe := o2_int0 fun _ _ _ _ => .bl _
theorem o2_gt : Op2 X k (rI0 fun i j => .bl (decide (j < i))) rdGt := o2_int0 fun _ _ _ _ => .bl _
theorem o2_ge : Op2 X k (rI0 fun i j => .bl (decide (j ≤ i))) rdGe := o2_int0 fun _ _ _ _ => .bl _
/-! ### None -/
def rdIsN : R2D := fun a b Q => b = .non ∧ Q (.bl (match a with | .non => true | _ => false))
def rdNotN : R2D := fun a b Q => b = .non ∧ Q (.bl (match a with | .non => false | _ => true))
theorem o2_isN : Op2 X k (fun x y H Q => y = .non ∧ Q (.bl (decide (x = .non))) H) rdIsN := by
  intro Z H x y a b Qd Q B ra rb h q
  obtain ⟨rfl, h⟩ := h
  cases rb
  refine ⟨rfl, q _ _ Z H (.refl B) (.bl _) ?_⟩
  cases ra <;> exact h
theorem o2_notN : Op2 X k (fun x y H Q => y = .non ∧ Q (.bl (!decide (x = .non))) H) rdNotN := by
  intro Z H x y a b Qd Q B ra rb h q
  obtain ⟨rfl, h⟩ := h
  cases rb
  refine ⟨rfl, q _ _ Z H (.refl B) (.bl _) ?_⟩
  cases ra <;> exact h
/-! ### texts -/
def rdAddS : R2D := fun a b Q => a.S fun x => b.S fun y => x.length + y.length ≤ 1000000 ∧ Q (.str (x ++ y))
theorem o2_addS : Op2 X k (fun x y H Q => ∃ i j, x = .str i ∧ y = .str j ∧ i.length + j.length ≤ sizeLine ∧ Q (.str (i ++ j)) H) rdAddS := by
  intro Z H x y a b Qd Q B ra rb h q
  obtain ⟨i, e1, h1⟩ := D.S_ex h
  obtain ⟨j, e2, hc, h2⟩ := D.S_ex h1
  subst e1 e2
  cases ra
  cases rb
  exact ⟨i, j, rfl, rfl, Nat.le_trans hc (by decide), q _ _ Z H (.refl B) (.str _) h2⟩
theorem de_addS (ha : DE X k a wa) (hb : DE X k b wb) : DE X k (.BinOp a .Add b pos) (wOp rdAddS wa wb) := de_op op_add_str o2_addS ha hb
/-- one sign in a text -/
def rdInS (neg : Bool) : R2D := fun a b Q => a.S fun x => b.S fun y => x.length = 1 ∧ Q (.bl (neg.xor (decide (x.cps.getD 0 0 ∈ y.cps.toList))))
theorem sign_of {x : Str} (h : x.length = 1) : x = ⟨#[x.cps.getD 0 0]⟩ := by
  obtain ⟨⟨l⟩⟩ := x
  match l, h with
  | [c], _ => rfl
theorem o2_inS : Op2 X k (fun x y H Q => ∃ (c : Nat) (z : Str), x = .str ⟨#[c]⟩ ∧ y = .str z ∧ Q (.bl (decide (c ∈ z.cps.toList))) H) (rdInS false) := by
  intro Z H x y a b Qd Q B ra rb h q
  obtain ⟨i, e1, h1⟩ := D.S_ex h
  obtain ⟨j, e2, hc, h2⟩ := D.S_ex h1
  subst e1 e2
  cases ra
  cases rb
  exact ⟨_, j, congrArg V.str (sign_of hc), rfl, q _ _ Z H (.refl B) (.bl _) (by simpa using h2)⟩
theorem o2_notInS : Op2 X k (fun x y H Q => ∃ (c : Nat) (z : Str), x = .str ⟨#[c]⟩ ∧ y = .str z ∧ Q (.bl (!decide (c ∈ z.cps.toList))) H) (rdInS true) := by
  intro Z H x y a b Qd Q B ra rb h q
  obtain ⟨i, e1, h1⟩ := D.S_ex h
  obtain ⟨j, e2, hc, h2⟩ := D.S_ex h1
  subst e1 e2
  cases ra
  cases rb
  exact ⟨_, j, congrArg V.str (sign_of hc), rfl, q _ _ Z H (.refl B) (.bl _) (by simpa using h2)⟩
/-- s[i], xs[i], t[i] -/
def rdIxS : R2D := fun a b Q => a.S fun x => b.I fun i => x.length ≤ 1000000 ∧ ∃ n, atI x.cps.toList i = some n ∧ Q (.str ⟨#[n]⟩)
theorem o2_ixS : Op2 X k rIxS rdIxS := by
  intro Z H x y a b Qd Q B ra rb h q
  obtain ⟨s, e1, h1⟩ := D.S_ex h
  obtain ⟨i, e2, hl, n, ha, h2⟩ := D.I_ex h1
  subst e1 e2
  cases ra
  cases rb
  exact ⟨s, i, n, rfl, rfl, Nat.le_trans hl (by decide), ha, q _ _ Z H (.refl B) (.str _) h2⟩
theorem rpa_at {c : Wc} {Z : Hp} {vs : List V} {ds : List D} {i : Int} {d : D} (r : RpA c Z vs ds) (h : atI ds i = some d) : ∃ v, atI vs i = some v ∧ Rp c Z v d := by
  unfold atI at h ⊢
  rw [r.length]
  cases e : ixN ds.length i with
  | none =>
    rw [e] at h
    cases h
  | some j =>
    rw [e] at h
    obtain ⟨v, h1, h2⟩ := r.get j h
    exact ⟨v, h1, h2⟩
def rdIxT : R2D := fun a b Q => a.T fun ds => b.I fun i => ∃ d, atI ds i = some d ∧ Q d
def rdIxL : R2D := fun a b Q => a.L fun ds => b.I fun i => ∃ d, atI ds i = some d ∧ Q d
theorem o2_ixT : Op2 X k (rIxT X.K) rdIxT := by
  intro Z H x y a b Qd Q B ra rb h q
  obtain ⟨ds, e1, h1⟩ := D.T_ex h
  obtain ⟨i, e2, d, hd, h2⟩ := D.I_ex h1
  subst e1 e2
  cases rb
  cases ra with
  | tup hs hr =>
    obtain ⟨v, h3, h4⟩ := rpa_at hr hd
    exact ⟨_, _, i, v, rfl, rfl, same_t B.zh hs, h3, q d v Z H (.refl B) h4 h2⟩
theorem o2_ixL : Op2 X k (rIxL X.K) rdIxL := by
  intro Z H x y a b Qd Q B ra rb h q
  obtain ⟨ds, e1, h1⟩ := D.L_ex h
  obtain ⟨i, e2, d, hd, h2⟩ := D.I_ex h1
  subst e1 e2
  cases rb
  cases ra with
  | lst hs hr =>
    obtain ⟨v, h3, h4⟩ := rpa_at hr hd
    exact ⟨_, _, i, v, rfl, rfl, .inl (.inl (B.zh _ _ hs)), h3, q d v Z H (.refl B) h4 h2⟩
/-- s[i:j] -/
def rdSlS : RSD := fun a i j Q => a.S fun x => x.length ≤ 1000000 ∧ Q (.str (cutS x i j))
theorem os_slS : OpS X k rSlS rdSlS := by
  intro Z H x d i j Qd Q B ra h q
  obtain ⟨s, e1, hl, h1⟩ := D.S_ex h
  subst e1
  cases ra
  exact ⟨s, rfl, Nat.le_trans hl (by decide), q _ _ Z H (.refl B) (.str _) h1⟩
def cutD (xs : List D) (lo hi : Option Int) : List D := (xs.drop (HT.sIx xs.length 0 lo)).take (HT.sIx xs.length xs.length hi - HT.sIx xs.length 0 lo)
theorem rpa_cut {c : Wc} {Z : Hp} {vs : List V} {ds : List D} {i j : Option Int} (r : RpA c Z vs ds) : RpA c Z (cutV vs i j) (cutD ds i j) := by
  unfold cutV cutD
  rw [r.length]
  exact (r.drop _).take _
def rdSlL : RSD := fun a i j Q => a.L fun xs => Q (.lst (cutD xs i j))
theorem os_slL : OpS X k (rSlL X.K) rdSlL := by
  intro Z H x d i j Qd Q B ra h q
  obtain ⟨s, e1, h1⟩ := D.L_ex h
  subst e1
  cases ra with
  | lst hs hr => exact ⟨_, _, rfl, .inl (.inl (B.zh _ _ hs)), fun p hp => q _ _ _ _ (.add B hp) (rp_lst (c := wc X k.s) (rpa_cut hr) B hp) h1⟩
/-! ### lists, tuples put together -/
def rdCatL : R2D := fun a b Q => a.L fun xs => b.L fun ys => xs.length + ys.length ≤ 1000000 ∧ Q (.lst (xs ++ ys))
theorem o2_catL : Op2 X k rCat rdCatL := by
  intro Z H x y a b Qd Q B ra rb h q
  obtain ⟨xs, e1, h1⟩ := D.L_ex h
  obtain ⟨ys, e2, hc, h2⟩ := D.L_ex h1
  subst e1 e2
  cases ra with
  | lst hs hr =>
    cases rb with
    | lst hs2 hr2 => exact ⟨_, _, _, _, rfl, rfl, B.zh _ _ hs, B.zh _ _ hs2, by rw [hr.length, hr2.length]; exact Nat.le_trans hc (by decide), fun p hp => q _ _ _ _ (.add B hp) (rp_lst (c := wc X k.s) (hr.append hr2) B hp) h2⟩
theorem de_catL (ha : DE X k a wa) (hb : DE X k b wb) : DE X k (.BinOp a .Add b pos) (wOp rdCatL wa wb) := de_op op_cat o2_catL ha hb
def rdCatT : R2D := fun a b Q => a.T fun xs => b.T fun ys => (xs ≠ [] ∧ xs.length + ys.length ≤ 1000000) ∧ Q (.tup (xs ++ ys))
theorem o2_catT : Op2 X k (rCatT X.K) rdCatT := by
  intro Z H x y a b Qd Q B ra rb h q
  obtain ⟨xs, e1, h1⟩ := D.T_ex h
  obtain ⟨ys, e2, ⟨hn, hc⟩, h2⟩ := D.T_ex h1
  subst e1 e2
  cases ra with
  | tup hs hr =>
    cases rb with
    | tup hs2 hr2 =>
      refine ⟨_, _, _, _, rfl, rfl, same_t B.zh hs, same_t B.zh hs2, fun z => hn ?_, by rw [hr.length, hr2.length]; exact Nat.le_trans hc (by decide), fun z => ?_, fun _ p hp => q _ _ _ _ (.add B hp) (rp_tup (c := wc X k.s) (hr.append hr2) B hp) h2⟩
      · subst z
        cases hr
        rfl
      · subst z
        cases hr2
        rw [List.append_nil] at h2
        exact q _ _ Z H (.refl B) (.tup hs hr) h2
theorem de_catT (ha : DE X k a wa) (hb : DE X k b wb) : DE X k (.BinOp a .Add b pos) (wOp rdCatT wa wb) := de_op op_catT o2_catT ha hb
/-! ### built-in functions -/
def D.len : D → Option Nat
  | .str s => if s.length ≤ 1000000 then some s.length else none
  | .lst xs => some xs.length
  | .tup xs => some xs.length
  | .scr xs => some xs.length
  | _ => none
def rdLen : RAD := fun ds Q => match ds with
  | [d] => match d.len with
    | some n => Q (.int n)
    | none => False
  | _ => False
theorem call_len_d : CallR X (.builtin "len") (fun xs H Q => (∃ z, xs = [.str z] ∧ z.length ≤ sizeLine ∧ Q (.int z.length) H) ∨ ∃ p ys, xs = [.ref p] ∧ (SqL X.K H p ys ∨ SqT X.K H p ys) ∧ Q (.int ys.length) H) := .or call_len_str call_len_seq
theorem oa_len : OpA X k (fun xs H Q => (∃ z, xs = [.str z] ∧ z.length ≤ sizeLine ∧ Q (.int z.length) H) ∨ ∃ p ys, xs = [.ref p] ∧ (SqL X.K H p ys ∨ SqT X.K H p ys) ∧ Q (.int ys.length) H) rdLen := by
  intro Z H xs ds Qd Q B ra h q
  match ds, xs, ra, h with
  | [d], [v], .cons r .nil, h =>
    unfold rdLen at h
    cases e : d.len with
    | none =>
      simp only [e] at h
    | some n =>
      simp only [e] at h
      cases r with
      | str z =>
        simp only [D.len] at e
        split at e
        · rename_i hz
          cases e
          exact .inl ⟨z, rfl, Nat.le_trans hz (by decide), q _ _ Z H (.refl B) (.int _) h⟩
        · cases e
      | lst hs hr =>
        simp only [D.len, Option.some.injEq] at e
        subst e
        rw [← hr.length] at h
        exact .inr ⟨_, _, rfl, .inl (.inl (.inl (B.zh _ _ hs))), q _ _ Z H (.refl B) (.int _) h⟩
      | tup hs hr =>
        simp only [D.len, Option.some.injEq] at e
        subst e
        rw [← hr.length] at h
        exact .inr ⟨_, _, rfl, .inr (same_t B.zh hs), q _ _ Z H (.refl B) (.int _) h⟩
      | scr hs =>
        simp only [D.len, Option.some.injEq] at e
        subst e
        refine .inr ⟨_, _, rfl, .inl (B.zh.seq hs), q _ _ Z H (.refl B) (.int _) ?_⟩
        rw [List.length_map]
        exact h
      | _ => simp [D.len] at e
theorem de_len {u : WA} (hm : X.mg "len" = none) (ha : DA X k [e] u) (hg : Gl X "len" := by rfl) (he : starEach [e] X.env = (false, eval e X.env) :: starEach [] X.env := by rfl) : DE X k (.Call (.Name "len" p) [e] [] pos) (wCB rdLen u) := de_b call_len_d oa_len hm PySem.boot_len ha hg (by decide) (by decide) he
def rdOrd : RAD := fun ds Q => match ds with
  | [.str x] => x.length = 1 ∧ Q (.int (x.cps.getD 0 0 : Nat))
  | _ => False
theorem oa_ord : OpA X k (fun xs H Q => ∃ x, xs = [.str x] ∧ x.length = 1 ∧ Q (.int (x.cps.getD 0 0 : Nat)) H) rdOrd := by
  intro Z H xs ds Qd Q B ra h q
  match ds, xs, ra, h with
  | [.str x], [_], .cons (.str _) .nil, h => exact ⟨x, rfl, h.1, q _ _ Z H (.refl B) (.int _) h.2⟩
theorem de_ord {u : WA} (hm : X.mg "ord" = none) (ha : DA X k [e] u) (hg : Gl X "ord" := by rfl) (he : starEach [e] X.env = (false, eval e X.env) :: starEach [] X.env := by rfl) : DE X k (.Call (.Name "ord" p) [e] [] pos) (wCB rdOrd u) := de_b call_ord oa_ord hm PyProof.Rows.boot_ord ha hg (by decide) (by decide) he
def D.blA : List D → Option (List Bool)
  | [] => some []
  | .bl b :: r => (D.blA r).map (b :: ·)
  | _ => none
theorem blA_map : ∀ {ds : List D} {bs : List Bool}, D.blA ds = some bs → ds = bs.map .bl
  | [], _, h => by
    cases h
    rfl
  | .bl b :: r, _, h => by
    simp only [D.blA, Option.map_eq_some_iff] at h
    obtain ⟨c, h1, rfl⟩ := h
    rw [blA_map h1]
    rfl
theorem rpa_bl {c : Wc} {Z : Hp} : ∀ {bs : List Bool} {vs : List V}, RpA c Z vs (bs.map .bl) → vs = bs.map V.bl
  | [], _, .nil => rfl
  | b :: bs, _, .cons (.bl _) r => by rw [rpa_bl r]; rfl
def rdAll : RAD := fun ds Q => match ds with
  | [d] => d.L fun xs => match D.blA xs with
    | some bs => Q (.bl (bs.all id))
    | none => False
  | _ => False
def rdAny : RAD := fun ds Q => match ds with
  | [d] => d.L fun xs => match D.blA xs with
    | some bs => Q (.bl (bs.any id))
    | none => False
  | _ => False
theorem oa_all : OpA X k (rAll X.K) rdAll := by
  intro Z H xs ds Qd Q B ra h q
  match ds, xs, ra, h with
  | [d], [v], .cons r .nil, h =>
    obtain ⟨ys, e0, h1⟩ := D.L_ex h
    subst e0
    cases e : D.blA ys with
    | none =>
      rw [e] at h1
      exact h1.elim
    | some bs =>
      rw [e] at h1
      have e2 := blA_map e
      subst e2
      cases r with
      | lst hs hr =>
        have e3 := rpa_bl hr
        subst e3
        exact ⟨_, bs, rfl, .inl (.inl (B.zh _ _ hs)), q _ _ Z H (.refl B) (.bl _) h1⟩
theorem oa_any : OpA X k (rAny X.K) rdAny := by
  intro Z H xs ds Qd Q B ra h q
  match ds, xs, ra, h with
  | [d], [v], .cons r .nil, h =>
    obtain ⟨ys, e0, h1⟩ := D.L_ex h
    subst e0
    cases e : D.blA ys with
    | none =>
      rw [e] at h1
      exact h1.elim
    | some bs =>
      rw [e] at h1
      have e2 := blA_map e
      subst e2
      cases r with
      | lst hs hr =>
        have e3 := rpa_bl hr
        subst e3
        exact ⟨_, bs, rfl, .inl (.inl (B.zh _ _ hs)), q _ _ Z H (.refl B) (.bl _) h1⟩
theorem boot_all : bootBuiltins "all" = some (.builtin "all") := by decide +kernel
theorem boot_any : bootBuiltins "any" = some (.builtin "any") := by decide +kernel
theorem de_all {u : WA} (hm : X.mg "all" = none) (ha : DA X k [e] u) (hc : X.calm = true := by rfl) (hg : Gl X "all" := by rfl) (he : starEach [e] X.env = (false, eval e X.env) :: starEach [] X.env := by rfl) : DE X k (.Call (.Name "all" p) [e] [] pos) (wCB rdAll u) := de_b (cr_all hc) oa_all hm boot_all ha hg (by decide) (by decide) he
theorem de_any {u : WA} (hm : X.mg "any" = none) (ha : DA X k [e] u) (hc : X.calm = true := by rfl) (hg : Gl X "any" := by rfl) (he : starEach [e] X.env = (false, eval e X.env) :: starEach [] X.env := by rfl) : DE X k (.Call (.Name "any" p) [e] [] pos) (wCB rdAny u) := de_b (cr_any hc) oa_any hm boot_any ha hg (by decide) (by decide) he
/-! ### isinstance by a built-in class -/
def tyN : D → Option String
  | .non => some "NoneType"
  | .bl _ => some "bool"
  | .int _ => some "int"
  | .str _ => some "str"
  | .lst _ => some "list"
  | .tup _ => some "tuple"
  | .dic _ => some "dict"
  | _ => none
def isaT (t n : String) : Bool := t == n || (t == "bool" && n == "int")
theorem kit_tab : ∀ t ∈ ["NoneType", "bool", "int", "str", "list", "tuple", "dict"], ∀ n ∈ ["bool", "int", "str", "list", "tuple", "dict"], kitB t n = some (isaT t n) := by decide +kernel
theorem tyN_in {d : D} {t : String} (h : tyN d = some t) : t ∈ ["NoneType", "bool", "int", "str", "list", "tuple", "dict"] := by
  cases d <;> simp only [tyN, Option.some.injEq] at h <;> first | (subst h; decide) | cases h
theorem tyX_of {c : Wc} {Z H : Hp} {v : V} {d : D} {t : String} (r : Rp c Z v d) (e : Same Z H) (h : tyN d = some t) : TyX c.K H v (.type t) := by
  cases r with
  | non => cases h; exact .base .non
  | bl b => cases h; exact .base (.bl b)
  | int b => cases h; exact .base (.int b)
  | str b => cases h; exact .base (.str b)
  | lst hs hr => cases h; exact .base (.lst (e _ _ hs))
  | dic hs hr => cases h; exact .base (.dK (e _ _ hs))
  | tup hs hr =>
    cases h
    rcases same_t e hs with (h | ⟨o, h⟩) | ⟨o, _, _, h1, h2, _⟩
    · exact .base (.tup h)
    · exact .fTuple h
    · exact .kTuple h1 h2
  | _ => cases h
def rdIsi : RAD := fun ds Q => match ds with
  | [x, .ty n] => n ∈ ["bool", "int", "str", "list", "tuple", "dict"] ∧ (match tyN x with
    | some t => Q (.bl (isaT t n))
    | none => False)
  | _ => False
theorem oa_isi : OpA X k (rIsi X.K) rdIsi := by
  intro Z H xs ds Qd Q B ra h q
  match ds, xs, ra, h with
  | [x, .ty n], [v, _], .cons r (.cons (.ty _) .nil), h =>
    obtain ⟨hn, h⟩ := h
    cases e : tyN x with
    | none =>
      rw [e] at h
      exact h.elim
    | some t =>
      rw [e] at h
      exact ⟨v, .ty n, .type t, .type n, isaT t n, rfl, .ty n, tyX_of (c := wc X k.s) r B.zh e, kit_ty (kit_tab t (tyN_in e) n hn), q _ _ Z H (.refl B) (.bl _) h⟩
theorem de_isi {u : WA} (hm : X.mg "isinstance" = none) (ha : DA X k (e :: es) u) (hg : Gl X "isinstance" := by rfl) (he : starEach (e :: es) X.env = (false, eval e X.env) :: starEach es X.env := by rfl) (hpl : (backTo pos (starEach es X.env)).any (·.1) = false := by rfl) : DE X k (.Call (.Name "isinstance" p) (e :: es) [] pos) (wCB rdIsi u) :=
  de_b call_isi oa_isi hm PyProof.Rows.boot_isinstance ha hg (by decide) (by decide) he hpl
/-- a built-in class as a value -/
theorem de_tyN {x : Str} {n : String} (hm : X.mg x = none) (hv : bootBuiltins x = some (.type n)) (hg : Gl X x := by rfl) (hn : x ≠ "__name__" := by decide) (hdb : (x == ("__debug__" : Str)) = false := by decide) : DE X k (.Name x pos) (wC (.ty n)) :=
  ⟨_, pe_bltn (v := .ty n) hg hm hv rfl hn hdb, fun r Z H σ ρ Qd Q O h q => q _ _ Z H (.refl O.bs) (.ty n) h⟩
/-! ### methods of texts -/
theorem om_bl {g : Str → Bool} : ∀ (Z H : Hp) (z : Str) (Qd : D → Prop) (Q : VK), Bs k.s Z H → (fun (z : Str) (Q : D → Prop) => Q (.bl (g z))) z Qd → (∀ d v Z' H', Stp k.s Z H Z' H' → Rp (wc X k.s) Z' v d → Qd d → Q v H') →
    (fun x xs H (Q : VK) => ∃ a, x = V.str a ∧ xs = ([] : List V) ∧ True ∧ Q (.bl (g a)) H) (.str z) [] H Q := fun Z H z Qd Q B h q => ⟨z, rfl, rfl, trivial, q _ _ Z H (.refl B) (.bl _) h⟩
abbrev wSB (g : Str → Bool) (w : WE) : WE := wM0 (fun z Q => Q (.bl (g z))) w
theorem om_bl1 {g : Str → Str → Bool} : ∀ (Z H : Hp) (z : Str) (y : V) (d : D) (Qd : D → Prop) (Q : VK), Bs k.s Z H → Rp (wc X k.s) Z y d → (fun (z : Str) (d : D) (Q : D → Prop) => d.S fun y => Q (.bl (g z y))) z d Qd → (∀ d v Z' H', Stp k.s Z H Z' H' → Rp (wc X k.s) Z' v d → Qd d → Q v H') →
    (fun x xs H (Q : VK) => ∃ a b, x = V.str a ∧ xs = [V.str b] ∧ Q (.bl (g a b)) H) (.str z) [y] H Q := fun Z H z y d Qd Q B r h q => by
  obtain ⟨b, e0, h1⟩ := D.S_ex h
  subst e0
  cases r
  exact ⟨z, b, rfl, rfl, q _ _ Z H (.refl B) (.bl _) h1⟩
abbrev wSB1 (g : Str → Str → Bool) (w u : WE) : WE := wM1 (fun z d Q => d.S fun y => Q (.bl (g z y))) w u
def D.strA : List D → Option (List Str)
  | [] => some []
  | .str b :: r => (D.strA r).map (b :: ·)
  | _ => none
theorem strA_map : ∀ {ds : List D} {bs : List Str}, D.strA ds = some bs → ds = bs.map .str
  | [], _, h => by
    cases h
    rfl
  | .str b :: r, _, h => by
    simp only [D.strA, Option.map_eq_some_iff] at h
    obtain ⟨c, h1, rfl⟩ := h
    rw [strA_map h1]
    rfl
theorem rpa_str {c : Wc} {Z : Hp} : ∀ {bs : List Str} {vs : List V}, RpA c Z vs (bs.map .str) → vs = bs.map V.str
  | [], _, .nil => rfl
  | b :: bs, _, .cons (.str _) r => by rw [rpa_str r]; rfl
def rdJoin : Str → D → (D → Prop) → Prop := fun z d Q => d.L fun xs => match D.strA xs with
  | some ys => (ys.map (·.length)).sum + ys.length * z.length ≤ 1000000 ∧ Q (.str (Txt.join z ys))
  | none => False
theorem om_join : ∀ (Z H : Hp) (z : Str) (y : V) (d : D) (Qd : D → Prop) (Q : VK), Bs k.s Z H → Rp (wc X k.s) Z y d → rdJoin z d Qd → (∀ d v Z' H', Stp k.s Z H Z' H' → Rp (wc X k.s) Z' v d → Qd d → Q v H') →
    (fun x xs H (Q : VK) => ∃ a p, ∃ ys : List Str, x = V.str a ∧ xs = [V.ref p] ∧ (SqL X.K H p (ys.map V.str) ∨ SqT X.K H p (ys.map V.str)) ∧ (ys.map (·.length)).sum + ys.length * a.length ≤ 16777216 ∧ Q (.str (Txt.join a ys)) H) (.str z) [y] H Q := fun Z H z y d Qd Q B r h q => by
  obtain ⟨xs, e0, h1⟩ := D.L_ex h
  subst e0
  cases e : D.strA xs with
  | none =>
    rw [e] at h1
    exact h1.elim
  | some ys =>
    rw [e] at h1
    have e2 := strA_map e
    subst e2
    cases r with
    | lst hs hr =>
      have e3 := rpa_str hr
      subst e3
      exact ⟨z, _, ys, rfl, rfl, .inl (.inl (.inl (B.zh _ _ hs))), Nat.le_trans h1.1 (by decide), q _ _ Z H (.refl B) (.str _) h1.2⟩
end
end Dl
set_option Elab.async false
set_option linter.all false
set_option maxRecDepth 100000
set_option maxHeartbeats 2000000
namespace Dl
open PySem PySem.Spec PyProof.Rows L2
section
variable {X : Cx} {k : Cc} {a b e c : Expr} {es : List Expr} {wa wb w wc' : WE} {pos p pos2 : Pos}
/-! ### + , subscripts, slices of any kind -/
def rdAdd : R2D := fun a b Q => match a, b with
  | .int i, .int j => Q (.int (i + j))
  | .str x, .str y => x.length + y.length ≤ 1000000 ∧ Q (.str (x ++ y))
  | .lst xs, .lst ys => xs.length + ys.length ≤ 1000000 ∧ Q (.lst (xs ++ ys))
  | .tup xs, .tup ys => (xs ≠ [] ∧ xs.length + ys.length ≤ 1000000) ∧ Q (.tup (xs ++ ys))
  | _, _ => False
theorem de_plus (ha : DE X k a wa) (hb : DE X k b wb) : DE X k (.BinOp a .Add b pos) (wOp rdAdd wa wb) := by
  refine de_op (.or op_add (.or op_add_str (.or op_cat op_catT))) ?_ ha hb
  intro Z H x y a b Qd Q B ra rb h q
  cases ra with
  | int i => cases rb with
    | int j => exact .inl (o2_int0 (X := X) (k := k) (gd := fun i j => .int (i + j)) (fun _ _ _ _ => .int _) Z H _ _ (.int i) (.int j) Qd Q B (.int i) (.int j) h q)
    | _ => exact h.elim
  | str x => cases rb with
    | str y => exact .inr (.inl (o2_addS (X := X) (k := k) Z H _ _ (.str x) (.str y) Qd Q B (.str x) (.str y) h q))
    | _ => exact h.elim
  | lst hs hr => cases rb with
    | lst hs2 hr2 => exact .inr (.inr (.inl (o2_catL (X := X) (k := k) Z H _ _ (.lst _) (.lst _) Qd Q B (.lst hs hr) (.lst hs2 hr2) h q)))
    | _ => exact h.elim
  | tup hs hr => cases rb with
    | tup hs2 hr2 => exact .inr (.inr (.inr (o2_catT (X := X) (k := k) Z H _ _ (.tup _) (.tup _) Qd Q B (.tup hs hr) (.tup hs2 hr2) h q)))
    | _ => exact h.elim
  | _ => exact h.elim
def rdIx : R2D := fun a b Q => match a with
  | .str x => b.I fun i => x.length ≤ 1000000 ∧ (match atI x.cps.toList i with
    | some n => Q (.str ⟨#[n]⟩)
    | none => False)
  | .lst xs => b.I fun i => match atI xs i with
    | some d => Q d
    | none => False
  | .tup xs => b.I fun i => match atI xs i with
    | some d => Q d
    | none => False
  | .scr ns => b.I fun i => match atI ns i with
    | some n => Q (.int n)
    | none => False
  | .drw => b.I fun i => (i = 0 ∨ i = 1) ∧ ∀ n : Int, 0 ≤ n → Q (.int n)
  | _ => False
theorem de_sub1 (ha : DE X k a wa) (hb : DE X k b wb) (hs : PlainIx b := by intro _ _; rfl) : DE X k (.Subscript a b pos) (wOp rdIx wa wb) := by
  refine de_ix ix_seq ?_ ha hb hs
  intro Z H x y a b Qd Q B ra rb h q
  cases ra <;> first
    | exact h.elim
    | skip
  · obtain ⟨i, e0, hl, h1⟩ := D.I_ex h
    split at h1
    · rename_i n hn
      exact .inr (.inr (o2_ixS (X := X) (k := k) Z H _ _ (.str _) b Qd Q B (.str _) rb (by subst e0; exact ⟨hl, n, hn, h1⟩) q))
    · exact h1.elim
  · rename_i hs hr
    obtain ⟨i, e0, h1⟩ := D.I_ex h
    split at h1
    · rename_i n hn
      exact .inl (o2_ixL (X := X) (k := k) Z H _ _ _ b Qd Q B (.lst hs hr) rb (by subst e0; exact ⟨n, hn, h1⟩) q)
    · exact h1.elim
  · rename_i hs hr
    obtain ⟨i, e0, h1⟩ := D.I_ex h
    split at h1
    · rename_i n hn
      exact .inr (.inl (o2_ixT (X := X) (k := k) Z H _ _ _ b Qd Q B (.tup hs hr) rb (by subst e0; exact ⟨n, hn, h1⟩) q))
    · exact h1.elim
  · obtain ⟨i, e0, h01, h1⟩ := D.I_ex h
    subst e0
    cases rb
    obtain ⟨n0, n1, hs, p0, p1⟩ := B.st
    rcases h01 with e | e
    · subst e
      exact .inl ⟨_, _, 0, .int n0, rfl, rfl, .inl (.inl hs), rfl, q _ _ Z H (.refl B) (.int _) (h1 n0 p0)⟩
    · subst e
      exact .inl ⟨_, _, 1, .int n1, rfl, rfl, .inl (.inl hs), rfl, q _ _ Z H (.refl B) (.int _) (h1 n1 p1)⟩
  · rename_i ns hs
    obtain ⟨i, e0, h1⟩ := D.I_ex h
    subst e0
    cases rb
    split at h1
    · rename_i n hn
      refine .inl ⟨_, _, i, .int n, rfl, rfl, B.zh.seq hs, ?_, q _ _ Z H (.refl B) (.int _) h1⟩
      unfold atI at hn ⊢
      rw [List.length_map]
      cases e : ixN ns.length i with
      | none =>
        rw [e] at hn
        cases hn
      | some j =>
        rw [e] at hn
        show (List.map V.int ns)[j]? = some (.int n)
        rw [List.getElem?_map, show ns[j]? = some n from hn]
        rfl
    · exact h1.elim
def rdSl : RSD := fun a i j Q => match a with
  | .str x => x.length ≤ 1000000 ∧ Q (.str (cutS x i j))
  | .lst xs => Q (.lst (cutD xs i j))
  | _ => False
theorem de_slc {lo hi : Option Expr} {l u : WO} {p2 : Pos} (h : DE X k e w) (hl : DO X k lo l) (hu : DO X k hi u) : DE X k (.Subscript e (.Slice lo hi none p2) pos) (wSl rdSl w l u) := by
  refine de_slice (SlR.or sl_str sl_list) ?_ h hl hu
  intro Z H x d i j Qd Q B ra h q
  cases ra <;> first
    | exact h.elim
    | skip
  · exact .inl (os_slS (X := X) (k := k) Z H _ (.str _) i j Qd Q B (.str _) h q)
  · rename_i hs hr
    exact .inr (os_slL (X := X) (k := k) Z H _ _ i j Qd Q B (.lst hs hr) h q)
/-! ### comparisons in short -/
theorem de_eq (hu : X.A.units + 64 < cLine) (ha : DE X k a wa) (hb : DE X k b wb) (hm : behindInMarks .Eq b = false := by first | exact nobehind _ (by decide) (by decide) | rfl) : DE X k (.Compare a [.Eq] [b] pos) (wOp rdEq wa wb) := de_cmp (op_eq_d hu) o2_eq ha hb hm
theorem de_ne (hu : X.A.units + 64 < cLine) (ha : DE X k a wa) (hb : DE X k b wb) (hm : behindInMarks .NotEq b = false := by first | exact nobehind _ (by decide) (by decide) | rfl) : DE X k (.Compare a [.NotEq] [b] pos) (wOp rdNe wa wb) := de_cmp (op_ne_d hu) o2_ne ha hb hm
theorem dt_eq (hu : X.A.units + 64 < cLine) (ha : DE X k a wa) (hb : DE X k b wb) (hm : behindInMarks .Eq b = false := by first | exact nobehind _ (by decide) (by decide) | rfl) : DT X k (.Compare a [.Eq] [b] pos) (wB (wOp rdEq wa wb)) := dt_cmp (op_eq_d hu) o2_eq ha hb hm
theorem dt_ne (hu : X.A.units + 64 < cLine) (ha : DE X k a wa) (hb : DE X k b wb) (hm : behindInMarks .NotEq b = false := by first | exact nobehind _ (by decide) (by decide) | rfl) : DT X k (.Compare a [.NotEq] [b] pos) (wB (wOp rdNe wa wb)) := dt_cmp (op_ne_d hu) o2_ne ha hb hm
/-- a value's truth -/
def D.tru : D → Option Bool
  | .non => some false
  | .bl b => some b
  | .int i => some (i != 0)
  | .str y => if y.length ≤ 1000000 then some ((y.length : Int) != 0) else none
  | .lst xs => some (!xs.isEmpty)
  | .tup xs => some (!xs.isEmpty)
  | .dic xs => some (!xs.isEmpty)
  | .scr xs => some (!xs.isEmpty)
  | _ => none
def wTru (w : WE) : WT := fun ρ Q => w ρ fun d => match d.tru with
  | some b => Q b
  | none => False
theorem isE_rpa {c : Wc} {Z : Hp} {xs : List V} {ds : List D} (r : RpA c Z xs ds) : xs.isEmpty = ds.isEmpty := by cases r <;> rfl
theorem dt_truth (h : DE X k e w) (he : ∀ whole, isTrue e X.env whole = (do let v ← whole; standAt e.pos; holding [v] (truthy v)) := by intro _; rfl) : DT X k e (wTru w) := by
  obtain ⟨t, p, f⟩ := h
  refine ⟨_, pt_truth p he, fun r Z H σ ρ Qd Q O h q => ?_⟩
  refine f r Z H σ ρ _ _ O h fun d v Z1 H1 s1 r1 h1 => ?_
  cases e : d.tru with
  | none =>
    rw [e] at h1
    exact h1.elim
  | some b =>
    rw [e] at h1
    refine ⟨b, ?_, q b Z1 H1 s1 h1⟩
    cases r1 with
    | non => cases e; rfl
    | bl _ => cases e; rfl
    | int _ => cases e; rfl
    | str y =>
      simp only [D.tru] at e
      split at e
      · rename_i hz
        cases e
        exact ⟨Nat.le_trans hz (by decide), rfl⟩
      · cases e
    | lst hs hr =>
      cases e
      exact .inl ⟨_, .inl (.inl (s1.bs.zh _ _ hs)), by rw [isE_rpa hr]⟩
    | tup hs hr =>
      cases e
      exact .inr (.inl ⟨_, same_t s1.bs.zh hs, by rw [isE_rpa hr]⟩)
    | dic hs hr =>
      cases e
      exact .inr (.inr ⟨_, s1.bs.zh _ _ hs, by cases hr <;> rfl⟩)
    | scr hs =>
      cases e
      exact .inl ⟨_, s1.bs.zh.seq hs, by rw [List.isEmpty_map]⟩
    | _ => cases e
/-! ### texts with holes -/
def rdFmt : R1D := fun d Q => match d with
  | .str y => y.length ≤ 1000000 ∧ Q (.str y)
  | .int i => i.natAbs.log2 < 1920 ∧ Q (.str (toString i))
  | _ => False
def wFmt (w : WE) : WE := fun ρ Q => w ρ fun d => rdFmt d Q
theorem de_fmt (h : DE X k e w) : DE X k (.FormattedValue e (-1) none pos) (wFmt w) := by
  obtain ⟨t, p, f⟩ := h
  refine ⟨_, pe_fmt p, fun r Z H σ ρ Qd Q O h q => ?_⟩
  refine f r Z H σ ρ _ _ O h fun d v Z1 H1 s1 r1 h1 => ?_
  cases r1 with
  | str y => exact .inl ⟨y, rfl, Nat.le_trans h1.1 (by decide), q _ _ Z1 H1 s1 (.str _) h1.2⟩
  | int i => exact .inr ⟨i, rfl, h1.1, q _ _ Z1 H1 s1 (.str _) h1.2⟩
  | _ => exact h1.elim
def wJs : List WE → Str → En → (Str → Prop) → Prop
  | [], acc, _, Q => Q acc
  | w :: ws, acc, ρ, Q => w ρ fun d => d.S fun y => (acc ++ y).length ≤ 1000000 ∧ wJs ws (acc ++ y) ρ Q
def DJ (X : Cx) (k : Cc) (es : List Expr) (ws : List WE) : Prop := ∃ ts, PJ X es ts ∧ ∀ (r : Rt) (σ : L2.St) (ρ : En) (acc : Str) (Z H : Hp) (Qd : Str → Prop) (Q : Str → Hp → Prop), Ok (wc X k.s) k r Z H σ ρ → wJs ws acc ρ Qd → (∀ y Z' H', Stp k.s Z H Z' H' → Qd y → Q y H') → tJs ts acc σ H Q
theorem dj_nil : DJ X k [] [] := ⟨[], .nil, fun r σ ρ acc Z H Qd Q O h q => q acc Z H (.refl O.bs) h⟩
theorem dj_cons {ws : List WE} (h : DE X k e w) (h2 : DJ X k es ws) : DJ X k (e :: es) (w :: ws) := by
  obtain ⟨t, p, f⟩ := h
  obtain ⟨ts, p2, f2⟩ := h2
  refine ⟨t :: ts, .cons p p2, fun r σ ρ acc Z H Qd Q O h q => ?_⟩
  refine f r Z H σ ρ _ _ O h fun d v Z1 H1 s1 r1 h1 => ?_
  obtain ⟨y, e0, hl, h2⟩ := D.S_ex h1
  subst e0
  cases r1
  exact ⟨y, rfl, Nat.le_trans hl (by decide), f2 r σ ρ _ Z1 H1 Qd Q (O.stp s1) h2 fun y Z2 H2 s2 h2 => q y Z2 H2 (s1.trans s2 O.bs.st) h2⟩
def wJoined (ws : List WE) : WE := fun ρ Q => wJs ws Str.empty ρ fun y => Q (.str y)
theorem de_joined {v1 v2 : Expr} {rest : List Expr} {ws : List WE} (h : DJ X k (v1 :: v2 :: rest) ws) : DE X k (.JoinedStr (v1 :: v2 :: rest) pos) (wJoined ws) := by
  obtain ⟨ts, p, f⟩ := h
  exact ⟨_, pe_joined p, fun r Z H σ ρ Qd Q O h q => f r σ ρ _ Z H _ _ O h fun y Z' H' s h => q _ _ Z' H' s (.str y) h⟩
theorem de_joined1 (h : DE X k e w) : DE X k (.JoinedStr [e] pos) w := by
  obtain ⟨t, p, f⟩ := h
  exact ⟨_, pe_joined1 p, f⟩
/-! ### an own error without __init__ is raised, with one argument -/
structure ExcT (K : PySem.W.Frag) (mg : Str → Option Value) (x : Str) (C : Addr) : Prop where
  g : mg x = some (.ref C)
  x : PySem.W.excIn K C [.type "ValueError", .type "Exception", .type "BaseException", .type "object"] "ValueError.__new__" = true
  k : PySem.W.keepIn K (.ref C) = true
  b : PySem.W.subIn K (.ref C) (.type "BaseException") = some true
  t : PySem.W.typeIn K (.ref C) = some (.type "type")
def wRaise1 (x : Str) (xd : Exn → Prop) (w : WE) : WS := fun d ρ => w ρ fun _ => xd ⟨x, none⟩
theorem ds_raise1 {x : Str} {C : Addr} (T : ExcT X.K X.mg x C) (tk : Takes X (fun cls d _ H => k.xk cls d H)) (h : DE X k e w) (hc : X.calm = true := by rfl) (hg : Gl X x := by rfl) (hs : starEach [e] X.env = (false, eval e X.env) :: starEach [] X.env := by rfl) (hdb : (x == ("__debug__" : Str)) = false := by decide) :
    DS X k (.Raise (some (.Call (.Name x p) [e] [] pos)) none pos2) (wRaise1 x k.xd w) := by
  obtain ⟨t, pe, f⟩ := h
  refine ⟨_, ps_raise hc tk (SkE.pmk_own1 PySem.F.excBase_ValueError T.x T.g T.k (raises_own T.b T.t) hg pe hs hdb), fun r Z H σ ρ d E O L h => ?_⟩
  refine f r Z H σ ρ _ _ O h fun x v Z1 H1 s1 r1 h1 => ?_
  exact O.lk Z1 H1 _ _ _ (O.en.trans s1 O.s0) ⟨C, T.g, rfl, rfl⟩ h1
end
end Dl
set_option Elab.async false
set_option linter.all false
set_option maxRecDepth 100000
set_option maxHeartbeats 2000000
namespace Dl
open PySem PySem.Spec PyProof.Rows L2
section
variable {X : Cx} {k : Cc} {a b e c : Expr} {es : List Expr} {wa wb w wc' : WE} {pos p p1 p2 pos2 : Pos}
/-! ### the draws' object is written -/
def wStw (we wo wi : WE) : WS := fun d ρ => we ρ fun v => wo ρ fun o => wi ρ fun i => v.I fun n => i.I fun j => (o = .drw ∧ 0 ≤ n ∧ (j = 0 ∨ j = 1)) ∧ d.nx ρ
theorem StOk.put {s : Addr} {Z H : Hp} {a b : Int} (B : Bs s Z H) (h0 : 0 ≤ a) (h1 : 0 ≤ b) : Stp s Z H Z (upd H s (.lst [.int a, .int b])) :=
  ⟨Same.refl _, ⟨fun x o e => by rw [upd_ne (fun z => by rw [z, B.zs] at e; cases e)]; exact B.zh x o e, ⟨a, b, upd_same, h0, h1⟩, B.zs⟩, fun _ _ e => .inl e, fun x o e n => by rw [upd_ne n]; exact e⟩
theorem ds_stw (he : DE X k e w) (ha : DE X k a wa) (hb : DE X k b wb) (hs : swapsWithSole [.Subscript a b p] e pos.line X.env = pure false := by rfl) (hw : swappedStores [.Subscript a b p] e X.env = pure none := by rfl)
    (h1 : (assignEach [.Subscript a b p] X.env).map (·.2) = [assign (.Subscript a b p) X.env] := by rfl) (hx : PlainIx b := by intro _ _; rfl)
    (pg : ∀ {to ti : TE}, PE X a to → PE X b ti → PG X (.Subscript a b p) (gSub to ti rSetL) := by intro _ _ h1 h2; exact pg_sub h1 h2 set_list) : DS X k (.Assign [.Subscript a b p] e pos) (wStw w wa wb) := by
  obtain ⟨t, pe, f⟩ := he
  obtain ⟨ta, pa, fa⟩ := ha
  obtain ⟨tb, pb, fb⟩ := hb
  refine ⟨_, ps_asg pe (pg pa pb) hs hw h1, fun r Z H σ ρ d E O L h => ?_⟩
  refine f r Z H σ ρ _ _ O h fun x v Z1 H1 s1 r1 h1 => ?_
  refine fa r Z1 H1 σ ρ _ _ (O.stp s1) h1 fun y u Z2 H2 s2 r2 h2 => ?_
  have s12 := s1.trans s2 O.bs.st
  refine fb r Z2 H2 σ ρ _ _ (O.stp s12) h2 fun z u2 Z3 H3 s3 r3 h3 => ?_
  have s13 := s12.trans s3 O.bs.st
  obtain ⟨n, e1, h4⟩ := D.I_ex h3
  obtain ⟨j, e2, ⟨e3, hn, hj⟩, h5⟩ := D.I_ex h4
  subst e1 e2 e3
  cases r1
  cases r2
  cases r3
  obtain ⟨n0, n1, hh, q0, q1⟩ := s13.bs.st
  rcases hj with e | e
  · subst e
    exact ⟨_, _, 0, 0, rfl, rfl, hh, rfl, L.nx Z3 _ σ ρ (O.stp (s13.trans (StOk.put s13.bs hn q1) O.bs.st)) h5⟩
  · subst e
    exact ⟨_, _, 1, 1, rfl, rfl, hh, rfl, L.nx Z3 _ σ ρ (O.stp (s13.trans (StOk.put s13.bs q0 hn) O.bs.st)) h5⟩
/-! ### a text is walked sign by sign -/
def sgnD (s : Str) : List D := s.cps.toList.map fun c => .str ⟨#[c]⟩
def wiS (w : WE) : WA := fun ρ Q => w ρ fun d => d.S fun s => s.length ≤ 1000000 ∧ Q (sgnD s)
theorem itd_str {c : Wc} (Z : Hp) (s : Str) : ItD c Z (Its s) (sgnD s) := by
  intro Z2 H2 e b
  have hl : (sgnD s).length = s.cps.size := by unfold sgnD; rw [List.length_map, Array.length_toList]
  refine ⟨fun i hi => ?_, fun i hi => ?_, fun i x H' y hi => ?_⟩
  · rw [hl] at hi
    exact hi
  · rw [hl] at hi
    exact hi
  · obtain ⟨rfl, ch, h1, rfl⟩ := y
    refine ⟨.str ⟨#[ch]⟩, Z2, ?_, .refl b, .str _⟩
    unfold sgnD
    rw [List.getElem?_map, Array.getElem?_toList, h1]
    rfl
theorem di_str {tg : Expr} (h : DE X k e w) : DI X k tg e (wiS w) := by
  obtain ⟨t, p, f⟩ := h
  refine ⟨_, pi_str p, fun r Z H σ ρ Qd R O h q => ?_⟩
  refine f r Z H σ ρ _ _ O h fun d v Z1 H1 s1 r1 h1 => ?_
  obtain ⟨ds, e0, hl, h2⟩ := D.S_ex h1
  subst e0
  cases r1
  exact ⟨_, rfl, q _ Z1 H1 _ s1 (itd_str Z1 ds) h2⟩
/-! ### int(..), {} -/
def rdCint : RAD := fun ds Q => match ds with
  | [.int i] => Q (.int i)
  | [.bl b] => Q (.int (if b then 1 else 0))
  | _ => False
theorem de_Cint {u : WA} (hm : X.mg "int" = none) (ha : DA X k [e] u) (hg : Gl X "int" := by rfl) (he : starEach [e] X.env = (false, eval e X.env) :: starEach [] X.env := by rfl) : DE X k (.Call (.Name "int" p) [e] [] pos) (wCB rdCint u) := by
  refine de_ty call_int1 ?_ hm PyProof.Rows.boot_int ha hg (by decide) (by decide) he
  intro Z H xs ds Qd Q B ra h q
  match ds, xs, ra, h with
  | [.int i], [_], .cons (.int _) .nil, h => exact .inl ⟨i, rfl, q _ _ Z H (.refl B) (.int _) h⟩
  | [.bl i], [_], .cons (.bl _) .nil, h => exact .inr ⟨i, rfl, q _ _ Z H (.refl B) (.int _) h⟩
theorem de_dic0 : DE X k (.Dict [] [] pos) (wC (.dic [])) := ⟨_, pe_dnewK, fun r Z H σ ρ Qd Q O h q p hp => q _ _ _ _ (.add O.bs hp) (.dic upd_same .nil) h⟩
/-! ### s[0].isalpha() and s.replace('_', '0').isalnum(): the replacing wants that a number or a text was written ahead -/
def PEk (X : Cx) (e : Expr) (t : TE) : Prop := ∀ (pins : List (Addr × Obj)) (s : Shared) (σ : L2.St) (H : Hp) (Q : VK), Inv X pins σ H s → t σ H Q → wpAny (model X.prog X.w) X.A (eval e X.env) (fun u s' => EP X pins σ Q u s' ∧ 1 ≤ s'.toks) X.xe s
theorem pek_ix {i : Int} {j : Nat} {ta : TE} {r : R2} (hr : IxR X r) (ha : PE X a ta) : PEk X (.Subscript a (.Constant (.int i) j p1) pos) (tOp r ta (tC (.int i))) := by
  intro pins s σ H Q I h
  refine Subscript_ (thn (ha.run pins s σ H _ I h) fun v s1 ⟨x, H1, I1, r1, q1⟩ => wpAny_Constant_int ?_)
  exact wpAny_mono (PySem.wpAny_toks_of (n := 1) (by show 1 ≤ s1.toks + 1; omega) (hr a (.Constant (.int i) j p1) pins { s1 with toks := s1.toks + 1 } σ H1 x (.int i) v _ Q (I1.tok _) r1 ⟨_, rfl⟩ q1 rfl)) (fun _ _ h => ⟨h.2, h.1⟩) fun _ _ h => h.2
theorem pek_m0 {o : Expr} {to : TE} {id : String} {name : Str} {apos : Pos} {r : V → List V → Hp → VK → Prop} (slot : Slot "str" name id) (ty : typeOf (.builtin id) = pure (.type "method_descriptor")) (rule : MtR X id r) (ho : PEk X o to)
    (hbase : attributeBase o name X.env (eval o X.env) = eval o X.env := by rfl) (hline : (apos.endLine == pos.line) = true := by rfl) : PEk X (.Call (.Attribute o name apos) [] [] pos) (tM0 r to) := by
  intro pins s σ H Q I h
  refine PySem.Call_method0 hbase hline (thn (ho pins s σ H _ I h) fun v s1 ⟨⟨x, H1, I1, r1, q1⟩, hk⟩ => ?_)
  obtain ⟨⟨a, rfl⟩, q1⟩ := q1
  obtain ⟨t, rfl⟩ := _root_.id r1
  refine ⟨"str", _, F.plainAttrs_str, slot, ty, typeIs_str _ _ _, (fun _ e => nomatch e), ?_⟩
  exact wpAny_mono (PySem.wpAny_toks_of hk (Calls.callWith_builtin rfl (PySem.evalArgs_none (rule pins s1 σ H1 _ [] _ [] Q I1 r1 .nil q1)))) (fun _ _ h => ⟨h.2, h.1⟩) fun _ _ h => h.2
theorem pet_m0 {o : Expr} {to : TE} {id : String} {name : Str} {apos : Pos} {r : V → List V → Hp → VK → Prop} (slot : Slot "str" name id) (ty : typeOf (.builtin id) = pure (.type "method_descriptor")) (rule : MtR X id r) (ho : PET X o to)
    (hbase : attributeBase o name X.env (eval o X.env) = eval o X.env := by rfl) (hline : (apos.endLine == pos.line) = true := by rfl) : PET X (.Call (.Attribute o name apos) [] [] pos) (tM0 r to) := by
  intro pins s σ H Q h0 I h
  refine PySem.Call_method0 hbase hline (thn (ho pins s σ H _ h0 I h) fun v s1 ⟨x, H1, I1, r1, q1⟩ => ?_)
  obtain ⟨⟨a, rfl⟩, q1⟩ := q1
  obtain ⟨t, rfl⟩ := _root_.id r1
  exact ⟨"str", _, F.plainAttrs_str, slot, ty, typeIs_str _ _ _, (fun _ e => nomatch e), Calls.callWith_builtin rfl (PySem.evalArgs_none (rule pins s1 σ H1 _ [] _ [] Q I1 r1 .nil q1))⟩
theorem pe_andK {b : Expr} {ta tb : TE} (ha : PEk X a ta) (hb : PET X b tb) : PE X (.BoolOp .And [a, b] pos) (tAndV ta tb) := by
  refine ⟨fun pins s σ H Q I h => ?_⟩
  refine BoolOp_and (thn (ha pins s σ H _ I h) fun v s1 ⟨⟨x, H1, I1, r1, q1⟩, hk⟩ => ?_)
  obtain ⟨c, rfl, q1⟩ := q1
  cases r1
  refine wpAny_truthy_bool ?_
  cases c with
  | true => exact BoolOp_one (hb pins s1 σ H1 Q hk I1 q1)
  | false => exact ⟨.bl false, H1, I1, rfl, q1⟩
def nameEnd (t : Str) : Option Bool := match t.cps.toList with
  | [] => none
  | ch :: _ => if t.length ≤ 1000 then some (Txt.isalpha ⟨#[ch]⟩ && Txt.isalnum (Txt.replace t "_" "0")) else none
def wNameEnd (i : Nat) : WE := fun ρ Q => Sl.V ρ[i]? fun d => d.S fun t => match nameEnd t with
  | some b => Q (.bl b)
  | none => False
theorem de_nameEnd {i : Nat} {x : Str} {q1 q2 q3 c0 c1 c2 a1 a2 a3 p1 p2 p3 : Pos} {j0 j1 j2 : Nat} (hN : X.N[i]? = some x := by rfl) (hv : Vis X.env.scope x := by first | exact Or.inl rfl | exact Or.inr (Or.inl rfl) | exact Or.inr (Or.inr rfl)) (hd : (x == ("__debug__" : Str)) = false := by decide)
    (hcd : (x == ("__classdict__" : Str)) = false := by decide)
    (b1 : attributeBase (.Subscript (.Name x q1) (.Constant (.int 0) j0 c0) q2) "isalpha" X.env (eval (.Subscript (.Name x q1) (.Constant (.int 0) j0 c0) q2) X.env) = eval (.Subscript (.Name x q1) (.Constant (.int 0) j0 c0) q2) X.env := by rfl) (l1 : (a1.endLine == p1.line) = true := by rfl)
    (b2 : attributeBase (.Name x q3) "replace" X.env (eval (.Name x q3) X.env) = eval (.Name x q3) X.env := by rfl) (l2 : (a2.endLine == p2.line) = true := by rfl)
    (st : starEach [.Constant (.str "_") j1 c1, .Constant (.str "0") j2 c2] X.env = [(false, eval (.Constant (.str "_") j1 c1) X.env), (false, eval (.Constant (.str "0") j2 c2) X.env)] := by rfl)
    (b3 : attributeBase (.Call (.Attribute (.Name x q3) "replace" a2) [.Constant (.str "_") j1 c1, .Constant (.str "0") j2 c2] [] p2) "isalnum" X.env (eval (.Call (.Attribute (.Name x q3) "replace" a2) [.Constant (.str "_") j1 c1, .Constant (.str "0") j2 c2] [] p2) X.env) = eval (.Call (.Attribute (.Name x q3) "replace" a2) [.Constant (.str "_") j1 c1, .Constant (.str "0") j2 c2] [] p2) X.env := by rfl)
    (l3 : (a3.endLine == p3.line) = true := by rfl) :
    DE X k (.BoolOp .And [.Call (.Attribute (.Subscript (.Name x q1) (.Constant (.int 0) j0 c0) q2) "isalpha" a1) [] [] p1, .Call (.Attribute (.Call (.Attribute (.Name x q3) "replace" a2) [.Constant (.str "_") j1 c1, .Constant (.str "0") j2 c2] [] p2) "isalnum" a3) [] [] p3] pos) (wNameEnd i) := by
  refine ⟨_, pe_andK (pek_m0 PySem.F.slot_str_isalpha PySem.F.type_str_isalpha mt_isalpha (pek_ix ix_str (pe_var hN hv hd hcd)) b1 l1) (pet_m0 PySem.F.slot_str_isalnum PySem.F.type_str_isalnum mt_isalnum (CwR.pet_replC (pe_var hN hv hd hcd) (by decide) st b2 l2) b3 l3), fun r Z H σ ρ Qd Q O h q => ?_⟩
  obtain ⟨d, h1, h2⟩ := Sl.V_ex h
  obtain ⟨t, e0, h3⟩ := D.S_ex h2
  subst e0
  obtain ⟨o, h4, v, rfl, h5⟩ := O.sl i _ h1
  cases h5
  unfold nameEnd at h3
  split at h3
  · rename_i bb hb
    split at hb
    · cases hb
    · rename_i ch cr hc
      split at hb
      · rename_i hl
        cases hb
        have hz : t.cps.toList.length ≤ 1000 := by rw [Array.length_toList]; exact hl
        have hat : atI t.cps.toList 0 = some ch := by
          rw [hc]
          unfold atI ixN
          rw [if_pos (by omega), if_pos (by rw [List.length_cons]; omega)]
          rfl
        refine ⟨_, h4, t, 0, ch, rfl, rfl, Nat.le_trans hl (by decide), hat, ⟨_, rfl⟩, _, rfl, rfl, trivial, _, rfl, ?_⟩
        cases hq : Txt.isalpha ⟨#[ch]⟩ with
        | false =>
          rw [hq] at h3
          exact iteF (q _ _ Z H (.refl O.bs) (.bl _) (by simpa using h3))
        | true =>
          rw [hq] at h3
          have z : t.length + (t.length + 1) * ("0" : Str).length ≤ 16777216 := by
            have e1 : ("0" : Str).length = 1 := rfl
            rw [e1]
            omega
          exact iteT ⟨_, h4, t, rfl, z, ⟨_, rfl⟩, _, rfl, rfl, trivial, q _ _ Z H (.refl O.bs) (.bl _) (by simpa using h3)⟩
      · cases hb
  · exact h3.elim
end
/-! ### the law: its first statement makes the draws' object -/
theorem pss_any {X : Cx} {rest : List Stmt} {W : WS} (h : ∀ s0 : Addr, DB X ⟨s0, fun _ => False, fun _ _ _ => False⟩ rest W) :
    PSs X rest (fun E σ H => ∃ (s0 : Addr) (r : Rt) (Z : Hp) (ρ : En) (d : DEnds), Ok (wc X s0) ⟨s0, fun _ => False, fun _ _ _ => False⟩ r Z H σ ρ ∧ Lk (wc X s0) ⟨s0, fun _ => False, fun _ _ _ => False⟩ r d E ∧ W d ρ) := by
  refine ⟨fun pins s σ H E I ⟨s0, r, Z, ρ, d, O, L, hw⟩ => ?_⟩
  obtain ⟨t, p, f⟩ := h s0
  exact p.run pins s σ H E I (f r Z H σ ρ d E O L hw)
theorem fn_law {P : Program} {w : World} {K : PySem.W.Frag} {mg : Str → Option Value} {base : Heap} {qual x0 : Str} {st : Stmt} {f : Addr} {fd : FuncData} {N : List Str} {n : Nat} (F : Fun K x0 qual st f fd) (S : FnScope N ["script"] (defScope st)) (W : WS) {st1 : Stmt} {rest : List Stmt} (hbd : defBody st = st1 :: rest)
    (hN : 2 ≤ N.length)
    (h1 : ∀ (cdv : Value) (A : Around) (outer : List Env) (s : Shared) (H : Hp) (E : XK), PS (cxOf CX0 P w K mg base N qual (defScope st) f cdv A outer s H E).nox st1 (tAsg (tLst (tCons (tC (.int 0)) (tCons (tC (.int 0)) tNil))) (gName 1)))
    (hb : ∀ (cdv : Value) (A : Around) (outer : List Env) (s : Shared) (H : Hp) (E : XK) (k : Cc), Room n (A.deeper (envOfC qual (defScope st) s.heap.objs.size f cdv)) → DB (cxOf CX0 P w K mg base N qual (defScope st) f cdv A outer s H E).nox k rest W)
    (hW : ∀ (ns : List Int), ns.length ≤ 63 → W { nx := fun _ => False, rt := fun d => d = .bl true } (.val (.scr ns) :: .val .drw :: List.replicate (N.length - 2) .un)) :
    FnOk P w K mg base CX0 (n + 1) f fd ["script"] (fun vs H Q _ => ∃ (a : Addr) (ns : List Int), vs = [.ref a] ∧ SqL K H a (ns.map V.int) ∧ ns.length ≤ 63 ∧ ∀ H', Q (.bl true) H') := by
  refine F.ok S (fun vs H Q E h => ?_) (fun cdv A outer s H vs Q E hr h => ?_)
  · obtain ⟨a, ns, rfl, _⟩ := h
    rfl
  · obtain ⟨a, ns, rfl, hS, hlen, q⟩ := h
    rw [hbd]
    refine ⟨_, pss_cons (h1 cdv A outer s H E) (pss_any fun s0 => hb cdv A outer s H E ⟨s0, fun _ => False, fun _ _ _ => False⟩ hr), ?_⟩
    refine ⟨by show 2 ≤ sizeLine; decide, fun p hp => ?_⟩
    have st : StOk p (upd H p (.lst [.int 0, .int 0])) := ⟨0, 0, upd_same, Int.le_refl _, Int.le_refl _⟩
    have zh : Same H (upd H p (.lst [.int 0, .int 0])) := fun b o e => by rw [upd_ne (ne_of_none e hp)]; exact e
    obtain ⟨n2, e2⟩ : ∃ n2, N.length = n2 + 2 := ⟨N.length - 2, by omega⟩
    have es : (L2.start N [V.ref a]).set 1 (some (.ref p)) = some (.ref a) :: some (.ref p) :: List.replicate n2 none := by
      unfold L2.start
      rw [e2]
      rfl
    refine ⟨p, ⟨H, upd H p (.lst [.int 0, .int 0]), H⟩, H, .val (.scr ns) :: .val .drw :: List.replicate (N.length - 2) .un, _, ?_, ?_, hW ns hlen⟩
    · rw [es, e2, Nat.add_sub_cancel]
      refine ⟨.refl ⟨zh, st, hp⟩, st, Same.refl _, fun i t ht => ?_, fun i t b ht ho hb => ?_, fun i j t u b _ ht _ ho _ _ => ?_, fun _ _ _ _ _ _ _ z => z.elim⟩
      · match i, ht with
        | 0, ht =>
          cases ht
          exact ⟨_, rfl, _, rfl, .scr hS⟩
        | 1, ht =>
          cases ht
          exact ⟨_, rfl, _, rfl, .drw⟩
        | i + 2, ht =>
          rw [List.getElem?_cons_succ, List.getElem?_cons_succ, List.getElem?_replicate] at ht
          split at ht
          · rename_i hi
            cases ht
            exact ⟨none, by rw [List.getElem?_cons_succ, List.getElem?_cons_succ, List.getElem?_replicate, if_pos hi], trivial⟩
          · cases ht
      · exfalso
        match i, ht with
        | 0, ht => cases ht; cases ho
        | 1, ht => cases ht; cases ho
        | i + 2, ht =>
          rw [List.getElem?_cons_succ, List.getElem?_cons_succ, List.getElem?_replicate] at ht
          split at ht
          · cases ht; cases ho
          · cases ht
      · exfalso
        match i, ht with
        | 0, ht => cases ht; cases ho
        | 1, ht => cases ht; cases ho
        | i + 2, ht =>
          rw [List.getElem?_cons_succ, List.getElem?_cons_succ, List.getElem?_replicate] at ht
          split at ht
          · cases ht; cases ho
          · cases ht
    · refine ⟨fun _ _ _ _ _ z => z.elim, fun Z' H' v x _ rx e => ?_, fun _ _ _ _ _ z => z.elim, fun _ _ _ _ _ z => z.elim⟩
      subst e
      cases rx
      exact q H'
end Dl
set_option Elab.async false
set_option linter.all false
set_option maxRecDepth 100000
set_option maxHeartbeats 2000000
namespace Dl
open PySem PySem.Spec PyProof.Rows L2
/-! ### comprehensions, by lists -/
theorem lcl_map {we : WE} {ρ : En} {i : Nat} (f : D → D) : ∀ (xs acc : List D) (Q : List D → Prop), (∀ x ∈ xs, ∀ K : D → Prop, K (f x) → we (ρ.set i (.val x)) K) → Q (acc ++ xs.map f) → wLcL (wgName i) wYes we ρ xs acc Q
  | [], acc, Q, _, h => by
    rw [List.map_nil, List.append_nil] at h
    exact h
  | x :: xs, acc, Q, hf, h => by
    refine iteT (A := we (ρ.set i (.val x)) fun y => wLcL (wgName i) wYes we ρ xs (acc ++ [y]) Q) (B := wLcL (wgName i) wYes we ρ xs acc Q) ?_
    refine hf x List.mem_cons_self _ ?_
    refine lcl_map f xs _ Q (fun y hy => hf y (List.mem_cons_of_mem _ hy)) ?_
    rw [List.append_assoc]
    exact h
theorem lcl_any {we : WE} {ρ : En} {i : Nat} (P : D → Prop) : ∀ (xs acc : List D) (Q : List D → Prop), (∀ x ∈ xs, ∀ K : D → Prop, (∀ y, P y → K y) → we (ρ.set i (.val x)) K) → (∀ ys, ys.length = xs.length → (∀ y ∈ ys, P y) → Q (acc ++ ys)) → wLcL (wgName i) wYes we ρ xs acc Q
  | [], acc, Q, _, h => by
    have := h [] rfl (fun _ z => by cases z)
    rw [List.append_nil] at this
    exact this
  | x :: xs, acc, Q, hf, h => by
    refine iteT (A := we (ρ.set i (.val x)) fun y => wLcL (wgName i) wYes we ρ xs (acc ++ [y]) Q) (B := wLcL (wgName i) wYes we ρ xs acc Q) ?_
    refine hf x List.mem_cons_self _ fun y hy => ?_
    refine lcl_any P xs _ Q (fun y hy => hf y (List.mem_cons_of_mem _ hy)) fun ys hl hp => ?_
    rw [List.append_assoc]
    refine h (y :: ys) (by rw [List.length_cons, List.length_cons, hl]) fun z hz => ?_
    rcases List.mem_cons.mp hz with e | e
    · rw [e]; exact hy
    · exact hp z e
theorem blA_of (bs : List Bool) : D.blA (bs.map .bl) = some bs := by
  induction bs with
  | nil => rfl
  | cons b bs ih =>
    show (D.blA (bs.map .bl)).map (b :: ·) = _
    rw [ih]
    rfl
theorem strA_of (bs : List Str) : D.strA (bs.map .str) = some bs := by
  induction bs with
  | nil => rfl
  | cons b bs ih =>
    show (D.strA (bs.map .str)).map (b :: ·) = _
    rw [ih]
    rfl
theorem deq_refl {d : D} (h : d.fit = true) : deq d d = true := SeqAt.eqv_refl d.py (fit_py d h)
/-- == and != of one tree with itself -/
theorem ne_same {d : D} {Q : D → Prop} (h : d.ok) (q : Q (.bl false)) : rdNe d d Q := by
  unfold rdNe
  cases d with
  | str x => simpa [eqS] using q
  | int x => simpa [eqS] using q
  | bl x => simpa [eqS] using q
  | non => simpa [eqS] using q
  | lst xs =>
    refine ⟨⟨h, h⟩, ?_⟩
    rw [deq_refl h.1]
    exact q
  | tup xs =>
    refine ⟨⟨h, h⟩, ?_⟩
    rw [deq_refl h.1]
    exact q
  | dic _ => exact absurd h.1 (by simp [D.fit])
  | ins _ _ => exact absurd h.1 (by simp [D.fit])
  | drw => exact absurd h.1 (by simp [D.fit])
  | scr _ => exact absurd h.1 (by simp [D.fit])
  | ty _ => exact absurd h.1 (by simp [D.fit])
  | rf _ => exact absurd h.1 (by simp [D.fit])
theorem ia_NoneType_bool : isaT "NoneType" "bool" = false := by decide
theorem ia_NoneType_int : isaT "NoneType" "int" = false := by decide
theorem ia_NoneType_str : isaT "NoneType" "str" = false := by decide
theorem ia_NoneType_list : isaT "NoneType" "list" = false := by decide
theorem ia_NoneType_tuple : isaT "NoneType" "tuple" = false := by decide
theorem ia_NoneType_dict : isaT "NoneType" "dict" = false := by decide
theorem ia_bool_bool : isaT "bool" "bool" = true := by decide
theorem ia_bool_int : isaT "bool" "int" = true := by decide
theorem ia_bool_str : isaT "bool" "str" = false := by decide
theorem ia_bool_list : isaT "bool" "list" = false := by decide
theorem ia_bool_tuple : isaT "bool" "tuple" = false := by decide
theorem ia_bool_dict : isaT "bool" "dict" = false := by decide
theorem ia_int_bool : isaT "int" "bool" = false := by decide
theorem ia_int_int : isaT "int" "int" = true := by decide
theorem ia_int_str : isaT "int" "str" = false := by decide
theorem ia_int_list : isaT "int" "list" = false := by decide
theorem ia_int_tuple : isaT "int" "tuple" = false := by decide
theorem ia_int_dict : isaT "int" "dict" = false := by decide
theorem ia_str_bool : isaT "str" "bool" = false := by decide
theorem ia_str_int : isaT "str" "int" = false := by decide
theorem ia_str_str : isaT "str" "str" = true := by decide
theorem ia_str_list : isaT "str" "list" = false := by decide
theorem ia_str_tuple : isaT "str" "tuple" = false := by decide
theorem ia_str_dict : isaT "str" "dict" = false := by decide
theorem ia_list_bool : isaT "list" "bool" = false := by decide
theorem ia_list_int : isaT "list" "int" = false := by decide
theorem ia_list_str : isaT "list" "str" = false := by decide
theorem ia_list_list : isaT "list" "list" = true := by decide
theorem ia_list_tuple : isaT "list" "tuple" = false := by decide
theorem ia_list_dict : isaT "list" "dict" = false := by decide
theorem ia_tuple_bool : isaT "tuple" "bool" = false := by decide
theorem ia_tuple_int : isaT "tuple" "int" = false := by decide
theorem ia_tuple_str : isaT "tuple" "str" = false := by decide
theorem ia_tuple_list : isaT "tuple" "list" = false := by decide
theorem ia_tuple_tuple : isaT "tuple" "tuple" = true := by decide
theorem ia_tuple_dict : isaT "tuple" "dict" = false := by decide
theorem ia_dict_bool : isaT "dict" "bool" = false := by decide
theorem ia_dict_int : isaT "dict" "int" = false := by decide
theorem ia_dict_str : isaT "dict" "str" = false := by decide
theorem ia_dict_list : isaT "dict" "list" = false := by decide
theorem ia_dict_tuple : isaT "dict" "tuple" = false := by decide
theorem ia_dict_dict : isaT "dict" "dict" = true := by decide
theorem inT_bool : "bool" ∈ ["bool", "int", "str", "list", "tuple", "dict"] := by decide
theorem inT_int : "int" ∈ ["bool", "int", "str", "list", "tuple", "dict"] := by decide
theorem inT_str : "str" ∈ ["bool", "int", "str", "list", "tuple", "dict"] := by decide
theorem inT_list : "list" ∈ ["bool", "int", "str", "list", "tuple", "dict"] := by decide
theorem inT_tuple : "tuple" ∈ ["bool", "int", "str", "list", "tuple", "dict"] := by decide
theorem inT_dict : "dict" ∈ ["bool", "int", "str", "list", "tuple", "dict"] := by decide
/-! ### texts by their codes -/
abbrev cs (s : Str) : List Nat := s.cps.toList
theorem cs_len (s : Str) : (cs s).length = s.length := Array.length_toList
theorem cs_inj {s t : Str} (h : cs s = cs t) : s = t := by
  obtain ⟨a⟩ := s
  obtain ⟨b⟩ := t
  exact congrArg Str.mk (Array.toList_inj.mp h)
theorem ends_c (t : Str) (c : Nat) : Txt.endswith t ⟨#[c]⟩ = decide ((cs t).getLast? = some c) := by
  have hl : (⟨#[c]⟩ : Str).length = 1 := rfl
  have hn := cs_len t
  rw [List.getLast?_eq_getElem?, hn, ← Bool.coe_iff_coe]
  unfold Txt.endswith
  rw [Bool.and_eq_true, decide_eq_true_eq, decide_eq_true_eq, hl, Nat.zero_add, ← PySem.StrLaws.subAt_one t c (t.length - 1), hl]
  constructor
  · rintro ⟨h1, h2⟩
    exact ⟨by omega, h2⟩
  · rintro ⟨h1, h2⟩
    exact ⟨by omega, h2⟩
theorem starts_c (t : Str) (c : Nat) : Txt.startswith t ⟨#[c]⟩ = decide ((cs t).head? = some c) := by
  have hl : (⟨#[c]⟩ : Str).length = 1 := rfl
  rw [List.head?_eq_getElem?, ← Bool.coe_iff_coe]
  unfold Txt.startswith
  rw [Bool.and_eq_true, decide_eq_true_eq, decide_eq_true_eq, ← PySem.StrLaws.subAt_one t c 0]
theorem cs_cut (z : Str) (lo hi : Option Int) : cs (cutS z lo hi) = ((cs z).drop (HT.sIx z.length 0 lo)).take (HT.sIx z.length z.length hi - HT.sIx z.length 0 lo) := rfl
theorem sIx_m1 (n d : Nat) : HT.sIx n d (some (-1)) = n - 1 := by
  show (if (-1 : Int) < 0 then ((-1 : Int) + (n : Int)).toNat else min (-1 : Int).toNat n) = n - 1
  rw [if_pos (by decide)]
  omega
theorem cut_init (z : Str) : cs (cutS z none (some (-1))) = (cs z).dropLast := by
  rw [cs_cut, HT.sIx_none, List.drop_zero, List.dropLast_eq_take, cs_len, sIx_m1, Nat.sub_zero]
theorem cut_mid (z : Str) : cs (cutS z (some 1) (some (-1))) = ((cs z).drop 1).dropLast := by
  have e1 : HT.sIx z.length z.length (some (-1)) = z.length - 1 := sIx_m1 _ _
  have e2 : HT.sIx z.length 0 (some 1) = min 1 z.length := HT.sIx_nat z.length 0 1
  rw [cs_cut, e1, e2, List.dropLast_eq_take, List.length_drop, cs_len]
  by_cases h : 1 ≤ z.length
  · rw [Nat.min_eq_left h]
  · have h0 : z.length = 0 := by omega
    have : cs z = [] := List.length_eq_zero_iff.mp (by rw [cs_len, h0])
    rw [this]
    simp
theorem cut_last (z : Str) : cs (cutS z (some (-1)) none) = (cs z).getLast?.toList := by
  have e2 : HT.sIx z.length 0 (some (-1)) = z.length - 1 := sIx_m1 _ _
  have hn := cs_len z
  rw [cs_cut, e2, HT.sIx_none, List.getLast?_eq_getElem?, hn]
  by_cases h : z.length = 0
  · have : cs z = [] := List.length_eq_zero_iff.mp (by rw [cs_len, h])
    rw [this]
    simp
  · have hlt : z.length - 1 < (cs z).length := by rw [cs_len]; omega
    rw [List.drop_eq_getElem_cons hlt, List.getElem?_eq_getElem hlt, show z.length - (z.length - 1) = 1 by omega]
    rfl
theorem cut_first (z : Str) : cs (cutS z none (some 1)) = (cs z).head?.toList := by
  have e1 : HT.sIx z.length z.length (some 1) = min 1 z.length := HT.sIx_nat z.length z.length 1
  rw [cs_cut, e1, HT.sIx_none, List.drop_zero, ← cs_len]
  cases cs z with
  | nil => rfl
  | cons c r => simp
theorem cut_take (z : Str) (n : Nat) : cs (cutS z none (some (n : Int))) = (cs z).take n := by
  rw [cs_cut, HT.sIx_nat, HT.sIx_none, List.drop_zero, Nat.sub_zero, ← cs_len, List.take_eq_take_iff]
  omega
theorem cut_drop (z : Str) (n : Nat) : cs (cutS z (some (n : Int)) none) = (cs z).drop n := by
  rw [cs_cut, HT.sIx_nat, HT.sIx_none, ← cs_len]
  by_cases h : n ≤ (cs z).length
  · rw [Nat.min_eq_left h, List.take_of_length_le (by rw [List.length_drop]; exact Nat.le_refl _)]
  · rw [Nat.min_eq_right (by omega), List.drop_eq_nil_of_le (Nat.le_refl _), List.drop_eq_nil_of_le (by omega), List.take_nil]
theorem cut_one (z : Str) (n : Nat) (c : Nat) (h : (cs z)[n]? = some c) : cutS z (some (n : Int)) (some ((n : Int) + 1)) = ⟨#[c]⟩ := by
  have hlt : n < (cs z).length := (List.getElem?_eq_some_iff.mp h).1
  apply cs_inj
  rw [cs_cut, show ((n : Int) + 1) = ((n + 1 : Nat) : Int) by omega, HT.sIx_nat, HT.sIx_nat, ← cs_len, Nat.min_eq_left (by omega), Nat.min_eq_left (by omega), List.drop_eq_getElem_cons hlt, show n + 1 - n = 1 by omega]
  rw [List.getElem?_eq_getElem hlt] at h
  rw [Option.some.inj h]
  rfl
theorem cs_app (x y : Str) : cs (x ++ y) = cs x ++ cs y := by
  show (x.cps ++ y.cps).toList = _
  exact Array.toList_append
theorem len_app (x y : Str) : (x ++ y).length = x.length + y.length := by rw [← cs_len, cs_app, List.length_append, cs_len, cs_len]
theorem cut_len (z : Str) (lo hi : Option Int) : (cutS z lo hi).length ≤ z.length := cutS_length z lo hi
end Dl
set_option Elab.async false
set_option linter.all false
set_option maxRecDepth 100000
set_option maxHeartbeats 2000000
namespace Dl
open PySem PySem.Spec PyProof.Rows L2
section
variable {X : Cx} {k : Cc} {a b e c : Expr} {es : List Expr} {wa wb w wc' : WE} {pos p p1 p2 pos2 : Pos}
/-! ### try: return f(..) / except X as n: suite -/
def tAc (c : Wc) (k : Cc) (u : WA) : TA := fun σ H Q => ∃ r Z ρ Qd, Ok c k r Z H σ ρ ∧ u ρ Qd ∧ ∀ ds vs Z' H', Stp c.s Z H Z' H' → RpA c Z' vs ds → Qd ds → Q vs H'
theorem DA.pa {u : WA} (h : DA X k es u) : PA X es (tAc (wc X k.s) k u) := by
  obtain ⟨t, p, f⟩ := h
  exact ⟨fun pos pins s σ H Q I ⟨r, Z, ρ, Qd, O, h, q⟩ => p.run pos pins s σ H Q I (f r Z H σ ρ Qd Q O h q)⟩
def tSc (c : Wc) (k : Cc) (cl : Value) (C : Addr) (u : WS) : TS := fun E σ H => cl = .ref C ∧ ∃ r Z ρ d, Ok c k r Z H σ ρ ∧ Lk c k r d E ∧ u d ρ
theorem DB.ps {sts : List Stmt} {cl : Value} {C : Addr} {u : WS} (h : cl = .ref C → DB X k sts u) : PSs X sts (tSc (wc X k.s) k cl C u) := by
  refine ⟨fun pins s σ H E I ⟨ec, r, Z, ρ, d, O, L, hu⟩ => ?_⟩
  obtain ⟨t, p, f⟩ := h ec
  exact p.run pins s σ H E I (f r Z H σ ρ d E O L hu)
theorem Ok.back {c : Wc} {k' : Cc} {r : Rt} {Z H Z2 H2 : Hp} {σ σ2 : L2.St} {ρ ρ2 : En} {i : Nat} (O : Ok c k r Z H σ ρ) (O2 : Ok c k' r Z2 H2 σ2 ρ2) : Ok c k r Z2 H2 (σ2.set i none) (ρ2.set i .un) := by
  have U := O2.un (i := i)
  exact ⟨U.en, U.s0, U.lb, U.sl, U.ow, U.ds, O.lk⟩
def wTryR (spec : SpecD) (x : Str) (i : Nat) (u : WA) (sw : Addr → WS) : WS := fun d ρ => u ρ fun ds => spec ds d.rt fun ex => (ex.cls = x ∧ ex.fs = none) ∧
  ∀ a : Addr, sw a { nx := fun ρ' => d.nx (ρ'.set i .un), rt := d.rt, bk := fun ρ' => d.bk (ρ'.set i .un), ct := fun ρ' => d.ct (ρ'.set i .un) } (ρ.set i (.val (.rf a)))
theorem ds_tryret {i : Nat} {x n f : Str} {C : Addr} {fa : Addr} {fd : FuncData} {ps : List Str} {spec : SpecD} {u : WA} {sw : Addr → WS} {j : Nat} {b₀ : Stmt} {suite : List Stmt} {np rp pos' tpos : Pos}
    (hN : X.N.Nodup) (hm0 : X.mg x = some (.ref C)) (hex : PySem.W.exmOne X.K (.ref C) (.ref C) = some true)
    (F : FnOk X.prog X.w X.K X.mg X.base (L2.CX X.prog X.w) j fa fd ps (spD X.K X.mg spec)) (hr : Room j X.A) (hm : X.mg f = some (.ref fa)) (hk : PySem.W.keepIn X.K (.ref fa) = true) (hb : Binds X.K fd ps [])
    (ha : ∀ (pn : List (Addr × Obj)) (xe : Value → Shared → Prop), DA (X.tr pn xe) k.still (e :: es) u)
    (hsu : ∀ (a : Addr) (oe : Obj) (pn : List (Addr × Obj)), Zc (.ref C) none oe → (∃ vs, oe.data = .fields vs) → DB (X.suite a ((a, oe) :: pn)) k.still (b₀ :: suite) (sw a))
    (hs : X.stack = X.env :: X.outer := by rfl) (hf : X.env.frame = some X.env.locals := by rfl) (hi : X.N[i]? = some n := by rfl) (hln : X.env.kindOf n = some .local := by rfl) (hc : Gl X x := by rfl) (hxd : (x == ("__debug__" : Str)) = false := by decide)
    (hg : Gl X f := by rfl) (hdb : (f == ("__debug__" : Str)) = false := by decide) (he : ∀ pn xe, starEach (e :: es) (X.tr pn xe).env = (false, eval e (X.tr pn xe).env) :: starEach es (X.tr pn xe).env := by intro _ _; rfl) (hpl : ∀ pn xe, (backTo pos (starEach es (X.tr pn xe).env)).any (·.1) = false := by intro _ _; rfl) :
    DS X k (.Try [.Return (some (.Call (.Name f p) (e :: es) [] pos)) rp] [.ExceptHandler (some (.Name x np)) (some n) (b₀ :: suite) pos'] [] [] tpos) (wTryR spec x i u sw) := by
  refine ⟨_, ps_try_as (c := .ref C) (tb := fun W => tRet (tCallS (spD X.K X.mg spec) (L2.WE W) (tAc (wc X k.s) k.still u))) (ts := fun a cl d => fun E σ H => d = none ∧ tSc (wc X k.s) k.still cl C (sw a) E σ H) (Wout := fun _ _ _ _ => False) hs hf hN hi hln ⟨hc, hxd, .inl hm0⟩ takes0 (fun W pn xe tk _ => ?_) (fun a oe cls d pn hz hv => ?_), fun r Z H σ ρ d E O L h => ?_⟩
  · exact pss_one (ps_ret (pe_callS (X := X.tr pn xe) F hr hg hm hk hb (fun σ => passAt tk σ) (ha pn xe).pa hdb (he pn xe) (hpl pn xe)))
  · refine ⟨fun pins s σ H E I ⟨ed, ec, r, Z, ρ, dd, O, L, hu⟩ => ?_⟩
    subst ed ec
    obtain ⟨t, p, f⟩ := hsu a oe pn hz hv
    exact p.run pins s σ H E I (f r Z H σ ρ dd E O L hu)
  · refine ⟨r, Z, ρ, _, O.still, h, fun ds vs Z1 H1 s1 r1 h1 => ?_⟩
    refine ⟨k.s, Z1, ds, d.rt, _, s1.bs, r1, h1, fun x v Z' H' st rv hd => L.rt Z' H' v x ((O.en.trans s1 O.s0).trans st O.s0) rv hd, fun ex cls od Z' H' st er hd => ?_⟩
    obtain ⟨⟨e1, e2⟩, hsw⟩ := hd
    obtain ⟨C', hC, rfl, hfs⟩ := er
    rw [e1] at hC
    have eC : C' = C := by
      have hC2 : X.mg x = some (.ref C') := hC
      rw [hm0] at hC2
      cases hC2 <;> rfl
    subst eC
    rw [e2] at hfs
    subst hfs
    have O2 := (O.stp (s1.trans st O.bs.st)).still
    refine ⟨true, hex, fun _ a ha => ⟨rfl, rfl, r, Z', ρ.set i (.val (.rf a)), _, O2.set (.rf a), ⟨?_, ?_, ?_, ?_⟩, hsw a⟩, fun z => by cases z⟩
    · exact fun Z3 H3 σ3 ρ3 O3 h3 => L.nx Z3 H3 _ _ (O.back O3) h3
    · exact L.rt
    · exact fun Z3 H3 σ3 ρ3 O3 h3 => L.bk Z3 H3 _ _ (O.back O3) h3
    · exact fun Z3 H3 σ3 ρ3 O3 h3 => L.ct Z3 H3 _ _ (O.back O3) h3
/-- isinstance(e, c) of the error that the suite holds: yes -/
def wIsE (i : Nat) (a : Addr) : WE := fun ρ Q => Sl.V ρ[i]? fun d => d = .rf a ∧ Q (.bl true)
theorem de_isE {i : Nat} {a D : Addr} {oe : Obj} {pn : List (Addr × Obj)} {n : Str} {ce : Expr} {np : Pos} {v : V} {cv : Value} (T : ExcC X.K D) (hz : Zc (.ref D) none oe) (hf : ∃ vs, oe.data = .fields vs) (hk : PySem.W.kitOne X.K (.ref D) cv = some true)
    (hv : ∀ u, RelV v u → u = cv) (hce : PE (X.suite a ((a, oe) :: pn)) ce (tC v)) (hm : X.mg "isinstance" = none) (hi : X.N[i]? = some n := by rfl) (hvis : Vis X.env.scope n := by first | exact Or.inl rfl | exact Or.inr (Or.inl rfl) | exact Or.inr (Or.inr rfl)) (hd : (n == ("__debug__" : Str)) = false := by decide)
    (hcd : (n == ("__classdict__" : Str)) = false := by decide) (hg : Gl X "isinstance" := by rfl)
    (h1 : starEach [.Name n np, ce] (X.suite a ((a, oe) :: pn)).env = (false, eval (.Name n np) (X.suite a ((a, oe) :: pn)).env) :: starEach [ce] (X.suite a ((a, oe) :: pn)).env := by rfl)
    (h2 : starEach [ce] (X.suite a ((a, oe) :: pn)).env = (false, eval ce (X.suite a ((a, oe) :: pn)).env) :: starEach [] (X.suite a ((a, oe) :: pn)).env := by rfl)
    (h3 : (backTo pos (starEach [ce] (X.suite a ((a, oe) :: pn)).env)).any (·.1) = false := by rfl) :
    DE (X.suite a ((a, oe) :: pn)) k (.Call (.Name "isinstance" p) [.Name n np, ce] [] pos) (wIsE i a) := by
  refine ⟨_, pe_callB (X := X.suite a ((a, oe) :: pn)) (call_isE T hz hf) hg hm PyProof.Rows.boot_isinstance (pa_cons (pe_var (X := X.suite a ((a, oe) :: pn)) hi hvis hd hcd) (pa_cons hce pa_nil h2) h1) (by decide) (by decide) h1 h3, fun r Z H σ ρ Qd Q O h q => ?_⟩
  obtain ⟨d, e1, e2, e3⟩ := Sl.V_ex h
  subst e2
  obtain ⟨o, h4, v', rfl, h5⟩ := O.sl i _ e1
  cases h5
  exact ⟨_, h4, v, cv, true, rfl, hv, hk, q _ _ Z H (.refl O.bs) (.bl true) e3⟩
end
theorem kit_ref {K : PySem.W.Frag} {t : Value} {S : Addr} (hd : PySem.W.hasDictIn K S = true) (ht : PySem.W.typeIn K (.ref S) = some (.type "type")) (hs : PySem.W.subIn K t (.ref S) = some true) : PySem.W.kitOne K t (.ref S) = some true := by
  obtain ⟨cd, hc, _⟩ := PySem.W.any_some hd
  unfold PySem.W.kitOne
  split
  · rfl
  · show (if ((PySem.W.clsIn K S).isSome && PySem.W.typeIn K (.ref S) == some (.type "type")) = true then PySem.W.subIn K t (.ref S) else none) = some true
    rw [if_pos (show ((PySem.W.clsIn K S).isSome && PySem.W.typeIn K (.ref S) == some (.type "type")) = true by rw [hc, ht]; rfl)]
    exact hs
theorem kit_typ {K : PySem.W.Frag} {t : Value} {T : String} (hm : PySem.W.kitMeta T = true) (hs : PySem.W.subIn K t (.type T) = some true) : PySem.W.kitOne K t (.type T) = some true := by
  unfold PySem.W.kitOne
  split
  · rfl
  · show (if PySem.W.kitMeta T = true then PySem.W.subIn K t (.type T) else none) = some true
    rw [if_pos hm]
    exact hs
end Dl
set_option Elab.async false
set_option linter.all false
set_option maxRecDepth 100000
set_option maxHeartbeats 2000000
namespace K1
open PySem PySem.Spec PyProof.Rows L2 Dl
/-! ### names, kinds: the mathematics -/
def mk (l : List Nat) : Str := ⟨l.toArray⟩
def isLet (c : Nat) : Bool := decide (97 ≤ c ∧ c ≤ 122) || decide (65 ≤ c ∧ c ≤ 90)
def isNam (c : Nat) : Bool := isLet c || decide (48 ≤ c ∧ c ≤ 57) || decide (c = 95)
def nameL : List Nat → Bool
  | [] => false
  | c :: r => decide (r.length ≤ 29) && isLet c && (c :: r).all isNam
def nameS (s : Str) : Bool := nameL (cs s)
def plain (c : Nat) : Bool := decide (32 ≤ c ∧ c ≤ 126 ∧ c ≠ 37)
def fitsD (sc : Str) : D → Bool
  | .bl _ => decide (sc = "Truth")
  | .int i => decide (sc = "Int") && decide (-2147483648 ≤ i ∧ i ≤ 2147483647)
  | .str s => decide (sc = "Text") && (cs s).all plain
  | _ => false
inductive Kd where
  | nm (s : Str) | ls (k : Kd) | mu (k : Kd)
def Kd.enc : Kd → D
  | .nm s => .tup [.str "name", .str s]
  | .ls k => .tup [.str "list", k.enc]
  | .mu k => .tup [.str "must", k.enc]
def encO : Option Kd → D
  | none => .non
  | some k => k.enc
def Kd.dep : Kd → Nat
  | .nm _ => 0
  | .ls k => k.dep + 1
  | .mu k => k.dep + 1
def Kd.fmt : Kd → List Nat
  | .nm s => cs s
  | .ls k => 91 :: (k.fmt ++ [93])
  | .mu k => k.fmt ++ [33]
def Kd.base : Kd → Str
  | .nm s => s
  | .ls k => k.base
  | .mu k => k.base
def Kd.hasL : Kd → Bool
  | .nm _ => false
  | .ls _ => true
  | .mu k => k.hasL
def pB : Nat → List Nat → Option Kd
  | 0, l => if nameL l = true then some (.nm (mk l)) else none
  | m + 1, l => if l.head? = some 91 ∧ l.getLast? = some 93 then
      (if (l.drop 1).dropLast.getLast? = some 33 then (pB m (l.drop 1).dropLast.dropLast).map .mu else pB m (l.drop 1).dropLast).map .ls
    else if nameL l = true then some (.nm (mk l)) else none
def pN (m : Nat) (l : List Nat) : Option Kd := if l.getLast? = some 33 then (pB m l.dropLast).map .mu else pB m l
/-- what a drawn name is -/
def good (s : Str) : Prop := ∃ c r, cs s = c :: r ∧ isLet c = true ∧ r.all isNam = true ∧ r.length ≤ 31
/-! ### the promises -/
def sp_is_name : SpecD := fun ds Q _ => ∃ t : Str, ds = [.str t] ∧ t.length ≤ 1000 ∧ Q (.bl (nameS t))
def sp_is_plain : SpecD := fun ds Q _ => ∃ i : Int, ds = [.int i] ∧ Q (.bl (decide (32 ≤ i ∧ i ≤ 126 ∧ i ≠ 37)))
def sp_fits : SpecD := fun ds Q _ => ∃ (sc : Str) (v : D), ds = [.str sc, v] ∧ (∃ t, tyN v = some t) ∧ (∀ s, v = .str s → s.length ≤ 1000) ∧ Q (.bl (fitsD sc v))
def sp_parse_bare (m : Nat) : SpecD := fun ds Q E => ∃ t : Str, ds = [.str t, .int (5 - (m : Int))] ∧ t.length ≤ 1000 ∧ m ≤ 5 ∧ match pB m (cs t) with
  | some k => Q k.enc
  | none => E ⟨"InvalidType", none⟩
def sp_parse_nested : Nat → SpecD
  | 0 => fun _ _ _ => False
  | m + 1 => fun ds Q E => ∃ t : Str, ds = [.str t, .int (5 - (m : Int))] ∧ t.length ≤ 1000 ∧ m ≤ 5 ∧ match pN m (cs t) with
    | some k => Q k.enc
    | none => E ⟨"InvalidType", none⟩
def sp_parse_type : SpecD := fun ds Q E => ∃ t : Str, ds = [.str t] ∧ t.length ≤ 1000 ∧ match pN 5 (cs t) with
  | some k => Q k.enc
  | none => E ⟨"InvalidType", none⟩
def sp_format_type (m : Nat) : SpecD := fun ds Q _ => ∃ k : Kd, ds = [k.enc] ∧ k.dep < m ∧ k.fmt.length ≤ 1000 ∧ Q (.str (mk k.fmt))
def sp_base_of : SpecD := fun ds Q _ => ∃ k : Kd, ds = [k.enc] ∧ Q (.str k.base)
def sp_has_list : SpecD := fun ds Q _ => ∃ k : Kd, ds = [k.enc] ∧ Q (.bl k.hasL)
def sp_l_is_integer : SpecD := fun ds Q _ => ∃ v : D, ds = [v] ∧ (∃ t, tyN v = some t) ∧ Q (.bl (match v with
  | .int _ => true
  | _ => false))
def sp_l_refill : SpecD := fun ds Q _ => ∃ (ns : List Int) (k : Int), ds = [.scr ns, .int k] ∧ 0 ≤ k ∧ ∀ v, 0 ≤ v → Q (.int v)
def sp_l_draw : SpecD := fun ds Q _ => ∃ (ns : List Int) (n : Int), ds = [.drw, .scr ns, .int n] ∧ 0 < n ∧ n < 2 ^ 60 ∧ ∀ d, 0 ≤ d → d < n → Q (.int d)
def sp_l_pick : SpecD := fun ds Q _ => ∃ (ns : List Int) (z : Str), ds = [.drw, .scr ns, .str z] ∧ 0 < z.length ∧ z.length ≤ 1000 ∧ ∀ c, c ∈ cs z → Q (.str ⟨#[c]⟩)
def sp_l_name : SpecD := fun ds Q _ => ∃ ns : List Int, ds = [.drw, .scr ns] ∧ ∀ s, good s → Q (.str s)
def sp_l_is_name : SpecD := sp_is_name
def sp_l_parsed (m : Nat) : SpecD := fun ds Q _ => ∃ (t : Str) (j : Nat), ds = [.str t, .int (5 - (j : Int))] ∧ t.length < m ∧ t.length ≤ 1000 ∧ j ≤ 5 ∧ Q (encO (pN j (cs t)))
def sp_l_told : SpecD := fun ds Q _ => ∃ t : Str, ds = [.str t] ∧ t.length ≤ 1000 ∧ Q (encO (pN 5 (cs t)))
def sp_l_fits : SpecD := fun ds Q _ => ∃ (sc : Str) (v : D), ds = [.str sc, v] ∧ (sc = "Int" ∨ sc = "Text" ∨ sc = "Truth") ∧ (∃ t, tyN v = some t) ∧ (∀ s, v = .str s → s.length ≤ 1000) ∧ Q (.bl (fitsD sc v))
end K1
set_option Elab.async false
set_option linter.all false
set_option maxRecDepth 100000
set_option maxHeartbeats 4000000
namespace K1
open PySem PySem.Spec PyProof.Rows L2 Dl
def W_is_name : WS :=
  (wSeq (wIf (wNotT (wB (wSB Txt.isascii (wVar 0)))) (wRet (wC (.bl false))) wNext)
  (wSeq (wIf (wNotT (wB (wChain rdLe rdLe (wC (.int 1)) (wCB rdLen (wCons (wVar 0) wNil)) (wC (.int (30)))))) (wRet (wC (.bl false))) wNext)
  (wRet (wNameEnd 0))))
def W_is_plain : WS :=
  (wRet (wAndV (wChain rdLe rdLe (wC (.int (32))) (wVar 0) (wC (.int (126)))) (wOp rdNe (wVar 0) (wC (.int (37))))))
def W_fits : WS :=
  (wSeq (wIf (wB (wCB rdIsi (wCons (wVar 1) (wCons (wC (.ty "bool")) wNil)))) (wRet (wOp rdEq (wVar 0) (wC (.str "Truth")))) wNext)
  (wSeq (wIf (wB (wCB rdIsi (wCons (wVar 1) (wCons (wC (.ty "int")) wNil)))) (wRet (wAndV (wOp rdEq (wVar 0) (wC (.str "Int"))) (wChain rdLe rdLe (wC (.int (-2147483648))) (wVar 1) (wC (.int (2147483647)))))) wNext)
  (wSeq (wIf (wB (wCB rdIsi (wCons (wVar 1) (wCons (wC (.ty "str")) wNil)))) (wRet (wAndV (wOp rdEq (wVar 0) (wC (.str "Text"))) (wCB rdAll (wCons (wLc (wiS (wVar 1)) (wgName 2) wYes (wCall0 sp_is_plain (wCons (wCB rdOrd (wCons (wVar 2) wNil)) wNil)) [2]) wNil)))) wNext)
  (wRet (wC (.bl false))))))
def W_parse_nested (m : Nat) (xd : Exn → Prop) : WS :=
  (wSeq (wIf (wB (wSB1 Txt.endswith (wVar 0) (wC (.str "!")))) (wRet (wTup (wCons (wC (.str "must")) (wCons (wCall (sp_parse_bare m) xd (wCons (wSl rdSl (wVar 0) wNo (wPart (wNeg (wC (.int 1))))) (wCons (wVar 1) wNil))) wNil)))) wNext)
  (wRet (wCall (sp_parse_bare m) xd (wCons (wVar 0) (wCons (wVar 1) wNil)))))
def W_parse_bare (m : Nat) (xd : Exn → Prop) : WS :=
  (wSeq (wIf (wAndT (wB (wOp rdLt (wVar 1) (wC (.int (5))))) (wAndT (wB (wSB1 Txt.startswith (wVar 0) (wC (.str "[")))) (wB (wSB1 Txt.endswith (wVar 0) (wC (.str "]")))))) (wRet (wTup (wCons (wC (.str "list")) (wCons (wCall (sp_parse_nested m) xd (wCons (wSl rdSl (wVar 0) (wPart (wC (.int 1))) (wPart (wNeg (wC (.int 1))))) (wCons (wOp rdAdd (wVar 1) (wC (.int 1))) wNil))) wNil)))) wNext)
  (wSeq (wIf (wNotT (wB (wCall0 sp_is_name (wCons (wVar 0) wNil)))) (wRaise1 "InvalidType" xd (wJoined [(wC (.str "not a name: ")), (wFmt (wVar 0))])) wNext)
  (wRet (wTup (wCons (wC (.str "name")) (wCons (wVar 0) wNil))))))
def W_parse_type (xd : Exn → Prop) : WS :=
  (wRet (wCall (sp_parse_nested 6) xd (wCons (wVar 0) (wCons (wC (.int 0)) wNil))))
def W_format_type (m : Nat) : WS :=
  (wSeq (wAsg (wVar 0) (wgTup 2 (wgCons (wgName 1) (wgCons (wgName 2) wgNil))))
  (wSeq (wIf (wB (wOp rdEq (wVar 1) (wC (.str "must")))) (wRet (wOp rdAdd (wCall0 (sp_format_type m) (wCons (wVar 2) wNil)) (wC (.str "!")))) wNext)
  (wSeq (wIf (wB (wOp rdEq (wVar 1) (wC (.str "list")))) (wRet (wOp rdAdd (wOp rdAdd (wC (.str "[")) (wCall0 (sp_format_type m) (wCons (wVar 2) wNil))) (wC (.str "]")))) wNext)
  (wRet (wVar 2)))))
def W_base_of : WS :=
  (wSeq (wAsg (wVar 0) (wgTup 2 (wgCons (wgName 1) (wgCons (wgName 2) wgNil))))
  (wSeq (wWhile (wB (wOp rdNe (wVar 1) (wC (.str "name"))))
  (wAsg (wVar 2) (wgTup 2 (wgCons (wgName 1) (wgCons (wgName 2) wgNil)))))
  (wRet (wVar 2))))
def W_has_list : WS :=
  (wSeq (wAsg (wVar 0) (wgTup 2 (wgCons (wgName 1) (wgCons (wgName 2) wgNil))))
  (wSeq (wWhile (wB (wOp rdEq (wVar 1) (wC (.str "must"))))
  (wAsg (wVar 2) (wgTup 2 (wgCons (wgName 1) (wgCons (wgName 2) wgNil)))))
  (wRet (wOp rdEq (wVar 1) (wC (.str "list"))))))
def W_l_is_integer : WS :=
  (wRet (wAndV (wCB rdIsi (wCons (wVar 0) (wCons (wC (.ty "int")) wNil))) (wNotV (wCB rdIsi (wCons (wVar 0) (wCons (wC (.ty "bool")) wNil))))))
def W_l_refill : WS :=
  (wSeq (wSet 2 (wC (.int 0)))
  (wSeq (wIf (wTru (wVar 0)) (wSet 2 (wOp rdIx (wVar 0) (wOp (rdI (fun _ j => 0 < j) fun i j => .int (i % j)) (wVar 1) (wCB rdLen (wCons (wVar 0) wNil))))) wNext)
  (wSeq (wIf (wB (wOp rdLt (wVar 2) (wC (.int 0)))) (wSet 2 (wOp (rdI0 fun i j => .int (i - j)) (wC (.int 1)) (wOp (rdI CMul fun i j => .int (i * j)) (wC (.int 2)) (wVar 2)))) wNext)
  (wSeq (wIf (wAndT (wB (wOp rdGe (wVar 2) (wOp (rdI CPow fun i j => .int (i ^ j.toNat)) (wC (.int 10)) (wC (.int 18))))) (wB (wOp rdLt (wVar 1) (wCB rdLen (wCons (wVar 0) wNil))))) (wRet (wVar 2)) wNext)
  (wRet (wOp (rdI (fun _ j => 0 < j) fun i j => .int (i % j)) (wCB rdCint (wCons (wOp rdAdd (wOp (rdI CMul fun i j => .int (i * j)) (wCB rdCint (wCons (wOp rdAdd (wOp rdAdd (wOp (rdI CMul fun i j => .int (i * j)) (wVar 2) (wC (.int 48271))) (wOp (rdI CMul fun i j => .int (i * j)) (wVar 1) (wC (.int 69621)))) (wC (.int 12345))) wNil)) (wC (.int 40692))) (wC (.int 7))) wNil)) (wC (.int 2147483399))))))))
def W_l_draw : WS :=
  (wSeq (wIf (wB (wOp rdEq (wOp rdIx (wVar 0) (wC (.int 1))) (wC (.int 0)))) (wSeq (wStw (wCall0 sp_l_refill (wCons (wVar 1) (wCons (wOp rdIx (wVar 0) (wC (.int 0))) wNil))) (wVar 0) (wC (.int 1)))
  (wStw (wOp rdAdd (wOp rdIx (wVar 0) (wC (.int 0))) (wC (.int 1))) (wVar 0) (wC (.int 0)))) wNext)
  (wSeq (wSet 3 (wOp (rdI (fun _ j => 0 < j) fun i j => .int (i % j)) (wCB rdCint (wCons (wOp rdIx (wVar 0) (wC (.int 1))) wNil)) (wVar 2)))
  (wSeq (wStw (wOp (rdI CDivW fun i j => .int (i / j)) (wOp rdIx (wVar 0) (wC (.int 1))) (wVar 2)) (wVar 0) (wC (.int 1)))
  (wRet (wVar 3)))))
def W_l_pick : WS :=
  (wSeq (wSet 3 (wCall0 sp_l_draw (wCons (wVar 0) (wCons (wVar 1) (wCons (wCB rdLen (wCons (wVar 2) wNil)) wNil)))))
  (wRet (wSl rdSl (wVar 2) (wPart (wVar 3)) (wPart (wOp rdAdd (wVar 3) (wC (.int 1)))))))
def W_l_name : WS :=
  (wSeq (wSet 2 (wC (.str "abcdefghijklmnopqrstuvwxyzABCDEFGHIJKLMNOPQRSTUVWXYZ")))
  (wSeq (wSet 3 (wOp rdIx (wLst (wCons (wCall0 sp_l_draw (wCons (wVar 0) (wCons (wVar 1) (wCons (wC (.int 4)) wNil)))) (wCons (wOp rdAdd (wC (.int 28)) (wCall0 sp_l_draw (wCons (wVar 0) (wCons (wVar 1) (wCons (wC (.int 4)) wNil))))) wNil))) (wCall0 sp_l_draw (wCons (wVar 0) (wCons (wVar 1) (wCons (wC (.int 2)) wNil))))))
  (wRet (wOp rdAdd (wCall0 sp_l_pick (wCons (wVar 0) (wCons (wVar 1) (wCons (wVar 2) wNil)))) (wM1 rdJoin (wC (.str "")) (wLc (wiR (wVar 3)) (wgName 4) wYes (wCall0 sp_l_pick (wCons (wVar 0) (wCons (wVar 1) (wCons (wOp rdAdd (wVar 2) (wC (.str "0123456789_"))) wNil)))) [4]))))))
def W_l_is_name : WS :=
  (wSeq (wSet 1 (wC (.str "abcdefghijklmnopqrstuvwxyzABCDEFGHIJKLMNOPQRSTUVWXYZ")))
  (wSeq (wIf (wOrT (wB (wOp rdLt (wCB rdLen (wCons (wVar 0) wNil)) (wC (.int 1)))) (wOrT (wB (wOp rdGt (wCB rdLen (wCons (wVar 0) wNil)) (wC (.int 30)))) (wB (wOp (rdInS true) (wOp rdIx (wVar 0) (wC (.int 0))) (wVar 1))))) (wRet (wC (.bl false))) wNext)
  (wRet (wCB rdAll (wCons (wLc (wiS (wVar 0)) (wgName 2) wYes (wOp (rdInS false) (wVar 2) (wOp rdAdd (wVar 1) (wC (.str "0123456789_")))) [2]) wNil)))))
def W_l_parsed (m : Nat) : WS :=
  (wSeq (wIf (wB (wOp rdEq (wSl rdSl (wVar 0) (wPart (wNeg (wC (.int 1)))) wNo) (wC (.str "!")))) (wSeq (wSet 2 (wCall0 (sp_l_parsed m) (wCons (wSl rdSl (wVar 0) wNo (wPart (wNeg (wC (.int 1))))) (wCons (wVar 1) wNil))))
  (wSeq (wIf (wOrT (wB (wOp rdIsN (wVar 2) (wC .non))) (wB (wOp rdEq (wOp rdIx (wVar 2) (wC (.int 0))) (wC (.str "must"))))) (wRet (wC .non)) wNext)
  (wRet (wTup (wCons (wC (.str "must")) (wCons (wVar 2) wNil)))))) wNext)
  (wSeq (wIf (wAndT (wB (wOp rdEq (wSl rdSl (wVar 0) wNo (wPart (wC (.int 1)))) (wC (.str "[")))) (wAndT (wB (wOp rdEq (wSl rdSl (wVar 0) (wPart (wNeg (wC (.int 1)))) wNo) (wC (.str "]")))) (wB (wOp rdLt (wVar 1) (wC (.int 5)))))) (wSeq (wSet 2 (wCall0 (sp_l_parsed m) (wCons (wSl rdSl (wVar 0) (wPart (wC (.int 1))) (wPart (wNeg (wC (.int 1))))) (wCons (wOp rdAdd (wVar 1) (wC (.int 1))) wNil))))
  (wSeq (wIf (wB (wOp rdIsN (wVar 2) (wC .non))) (wRet (wC .non)) wNext)
  (wRet (wTup (wCons (wC (.str "list")) (wCons (wVar 2) wNil)))))) wNext)
  (wSeq (wIf (wB (wCall0 sp_l_is_name (wCons (wVar 0) wNil))) (wRet (wTup (wCons (wC (.str "name")) (wCons (wVar 0) wNil)))) wNext)
  (wRet (wC .non)))))
def W_l_fits : WS :=
  (wSeq (wIf (wB (wOp rdEq (wVar 0) (wC (.str "Int")))) (wRet (wAndV (wCall0 sp_l_is_integer (wCons (wVar 1) wNil)) (wChain rdLe rdLe (wNeg (wC (.int 2147483648))) (wVar 1) (wC (.int 2147483647))))) wNext)
  (wSeq (wIf (wB (wOp rdEq (wVar 0) (wC (.str "Text")))) (wRet (wAndV (wCB rdIsi (wCons (wVar 1) (wCons (wC (.ty "str")) wNil))) (wCB rdAll (wCons (wLc (wiS (wVar 1)) (wgName 2) wYes (wAndV (wChain rdLe rdLe (wC (.int 32)) (wCB rdOrd (wCons (wVar 2) wNil)) (wC (.int 126))) (wOp rdNe (wCB rdOrd (wCons (wVar 2) wNil)) (wC (.int 37)))) [2]) wNil)))) wNext)
  (wRet (wCB rdIsi (wCons (wVar 1) (wCons (wC (.ty "bool")) wNil))))))
def W_law_b1 : WS :=
  (wSeq (wIf (wAndT (wB (wOp rdEq (wCall0 sp_l_draw (wCons (wVar 1) (wCons (wVar 0) (wCons (wC (.int 2)) wNil)))) (wC (.int 1)))) (wB (wOp rdNe (wOp rdIx (wVar 3) (wC (.int 0))) (wC (.str "must"))))) (wSeq (wSet 3 (wTup (wCons (wC (.str "must")) (wCons (wVar 3) wNil))))
  (wSet 4 (wOp rdAdd (wVar 4) (wC (.str "!"))))) wNext)
  (wSeq (wSet 3 (wTup (wCons (wC (.str "list")) (wCons (wVar 3) wNil))))
  (wSeq (wSet 4 (wOp rdAdd (wOp rdAdd (wC (.str "[")) (wVar 4)) (wC (.str "]"))))
  (wSet 5 (wOp rdAdd (wVar 5) (wC (.int 1)))))))
def W_law_b2 : WS :=
  (wSeq (wSet 7 (wCall0 sp_l_draw (wCons (wVar 1) (wCons (wVar 0) (wCons (wOp rdAdd (wCB rdLen (wCons (wVar 4) wNil)) (wC (.int 1))) wNil)))))
  (wSeq (wSet 8 (wCall0 sp_l_pick (wCons (wVar 1) (wCons (wVar 0) (wCons (wC (.str "[]!!_9a [].A")) wNil)))))
  (wSet 4 (wOp rdAdd (wOp rdAdd (wSl rdSl (wVar 4) wNo (wPart (wVar 7))) (wOp rdIx (wLst (wCons (wVar 8) (wCons (wC (.str "")) (wCons (wOp rdAdd (wVar 8) (wVar 8)) wNil)))) (wCall0 sp_l_draw (wCons (wVar 1) (wCons (wVar 0) (wCons (wC (.int 3)) wNil)))))) (wSl rdSl (wVar 4) (wPart (wOp rdAdd (wVar 7) (wCall0 sp_l_draw (wCons (wVar 1) (wCons (wVar 0) (wCons (wC (.int 2)) wNil)))))) wNo)))))
def W_law_b3 : WS :=
  (wIf (wOrT (wB (wOp rdNe (wCall0 sp_is_name (wCons (wVar 9) wNil)) (wCall0 sp_l_is_name (wCons (wVar 9) wNil)))) (wNotT (wB (wCB rdIsi (wCons (wCall0 sp_is_name (wCons (wVar 9) wNil)) (wCons (wC (.ty "bool")) wNil)))))) (wRet (wC (.bl false))) wNext)
def W_law_b4 : WS :=
  (wIf (wOrT (wB (wOp rdNe (wCall0 sp_fits (wCons (wVar 11) (wCons (wVar 12) wNil))) (wCall0 sp_l_fits (wCons (wVar 11) (wCons (wVar 12) wNil))))) (wNotT (wB (wCB rdIsi (wCons (wCall0 sp_fits (wCons (wVar 11) (wCons (wVar 12) wNil))) (wCons (wC (.ty "bool")) wNil)))))) (wRet (wC (.bl false))) wNext)
def W_law_b5 : WS :=
  (wFor (wiL (wOp rdAdd (wVar 10) (wLst (wCons (wCall0 sp_l_draw (wCons (wVar 1) (wCons (wVar 0) (wCons (wOp (rdI CPow fun i j => .int (i * 2 ^ j.toNat)) (wC (.int 1)) (wC (.int 40))) wNil)))) (wCons (wVar 4) wNil))))) (wgName 12)
  W_law_b4)
def W_law_s13 : WS :=
  (wRet (wC (.bl true)))
def W_law_s12 : WS :=
  (wSeq (wFor (wiL (wLst (wCons (wC (.str "Int")) (wCons (wC (.str "Text")) (wCons (wC (.str "Truth")) wNil))))) (wgName 11)
  W_law_b5)
  W_law_s13)
def W_law_s11 : WS :=
  (wSeq (wSet 10 (wLst (wCons (wC .non) (wCons (wC (.bl true)) (wCons (wC (.bl false)) (wCons (wC (.int 0)) (wCons (wNeg (wC (.int 2147483648))) (wCons (wNeg (wC (.int 2147483649))) (wCons (wC (.int 2147483647)) (wCons (wC (.int 2147483648)) (wCons (wC (.str "")) (wCons (wC (.str " ~")) (wCons (wC (.str "\n")) (wCons (wLst wNil) (wCons (wLst (wCons (wC (.int 1)) wNil)) (wCons (wTup (wCons (wC (.str "ref")) (wCons (wC (.str "A")) (wCons (wC (.int 1)) wNil)))) (wCons (wC (.dic [])) wNil)))))))))))))))))
  W_law_s12)
def W_law_s10 : WS :=
  (wSeq (wFor (wiL (wLst (wCons (wVar 4) (wCons (wVar 2) (wCons (wOp rdAdd (wVar 2) (wC (.str "_"))) (wCons (wC (.str "_type")) (wCons (wC (.str "")) wNil))))))) (wgName 9)
  W_law_b3)
  W_law_s11)
def W_law_s9 : WS :=
  (wSeq (wIf (wB (wOp rdNe (wCall0 sp_l_told (wCons (wVar 4) wNil)) (wCall0 (sp_l_parsed 150) (wCons (wVar 4) (wCons (wC (.int 0)) wNil))))) (wRet (wC (.bl false))) wNext)
  W_law_s10)
def W_law_s8 : WS :=
  (wSeq (wFor (wiR (wCall0 sp_l_draw (wCons (wVar 1) (wCons (wVar 0) (wCons (wC (.int 3)) wNil))))) (wgName 6)
  W_law_b2)
  W_law_s9)
def W_law_s7 : WS :=
  (wSeq (wIf (wOrT (wB (wOp rdNe (wCall0 sp_has_list (wCons (wVar 3) wNil)) (wOp rdGt (wVar 5) (wC (.int 0))))) (wNotT (wB (wCB rdIsi (wCons (wCall0 sp_has_list (wCons (wVar 3) wNil)) (wCons (wC (.ty "bool")) wNil)))))) (wRet (wC (.bl false))) wNext)
  W_law_s8)
def W_law_s6 : WS :=
  (wSeq (wIf (wOrT (wB (wOp rdNe (wCall0 sp_parse_type (wCons (wVar 4) wNil)) (wVar 3))) (wOrT (wB (wOp rdNe (wCall0 (sp_format_type 20) (wCons (wVar 3) wNil)) (wVar 4))) (wB (wOp rdNe (wCall0 sp_base_of (wCons (wVar 3) wNil)) (wSl rdSl (wVar 2) wNo (wPart (wC (.int 30)))))))) (wRet (wC (.bl false))) wNext)
  W_law_s7)
def W_law_s5 : WS :=
  (wSeq (wIf (wAndT (wB (wOp rdEq (wCall0 sp_l_draw (wCons (wVar 1) (wCons (wVar 0) (wCons (wC (.int 2)) wNil)))) (wC (.int 1)))) (wB (wOp rdNe (wOp rdIx (wVar 3) (wC (.int 0))) (wC (.str "must"))))) (wSeq (wSet 3 (wTup (wCons (wC (.str "must")) (wCons (wVar 3) wNil))))
  (wSet 4 (wOp rdAdd (wVar 4) (wC (.str "!"))))) wNext)
  W_law_s6)
def W_law_s4 : WS :=
  (wSeq (wFor (wiR (wCall0 sp_l_draw (wCons (wVar 1) (wCons (wVar 0) (wCons (wC (.int 6)) wNil))))) (wgName 6)
  W_law_b1)
  W_law_s5)
def W_law_s3 : WS :=
  (wSeq (wSet 5 (wC (.int 0)))
  W_law_s4)
def W_law_s2 : WS :=
  (wSeq (wSet 4 (wSl rdSl (wVar 2) wNo (wPart (wC (.int 30)))))
  W_law_s3)
def W_law_s1 : WS :=
  (wSeq (wSet 3 (wTup (wCons (wC (.str "name")) (wCons (wSl rdSl (wVar 2) wNo (wPart (wC (.int 30)))) wNil))))
  W_law_s2)
def W_law : WS :=
  (wSeq (wSet 2 (wCall0 sp_l_name (wCons (wVar 1) (wCons (wVar 0) wNil))))
  W_law_s1)
end K1
set_option Elab.async false
set_option linter.all false
set_option maxRecDepth 100000
set_option maxHeartbeats 4000000
namespace K1
open PySem PySem.Spec PyProof.Rows L2 Dl
theorem uni_tab : ∀ c ∈ List.range 128, Unicode.isAlpha c = isLet c ∧ Unicode.isAlnum c = (isLet c || decide (48 ≤ c ∧ c ≤ 57)) := by decide +kernel
theorem uni_a {c : Nat} (h : c < 128) : Unicode.isAlpha c = isLet c := (uni_tab c (List.mem_range.mpr h)).1
theorem uni_n {c : Nat} (h : c < 128) : Unicode.isAlnum c = (isLet c || decide (48 ≤ c ∧ c ≤ 57)) := (uni_tab c (List.mem_range.mpr h)).2
theorem all_cs (s : Str) (p : Nat → Bool) : s.cps.all p = (cs s).all p := by rw [← Array.all_toList]
theorem repl_us : ∀ l : List Nat, PySem.StrLaws.replL [95] [48] l = l.map fun c => if c = 95 then 48 else c
  | [] => PySem.StrLaws.replL_nil
  | c :: r => by
    by_cases h : c = 95
    · subst h
      rw [PySem.StrLaws.replL_hit (by simp) (by simp)]
      simp [repl_us r]
    · rw [PySem.StrLaws.replL_miss (by simpa using h), repl_us r]
      simp [h]
theorem isLet_lt {c : Nat} (h : isLet c = true) : c < 128 := by
  unfold isLet at h
  simp only [Bool.or_eq_true, decide_eq_true_eq] at h
  omega
theorem isNam_lt {c : Nat} (h : isNam c = true) : c < 128 := by
  unfold isNam isLet at h
  simp only [Bool.or_eq_true, decide_eq_true_eq] at h
  omega
theorem isNam_rep {c : Nat} (h : c < 128) : Unicode.isAlnum (if c = 95 then 48 else c) = isNam c := by
  by_cases e : c = 95
  · subst e
    rw [if_pos rfl]
    decide +kernel
  · rw [if_neg e, uni_n h]
    unfold isNam
    simp [e]
theorem name_ascii {t : Str} (h : Txt.isascii t = false) : nameS t = false := by
  unfold nameS
  cases e : cs t with
  | nil => rfl
  | cons c r =>
    cases q : nameL (c :: r) with
    | false => rfl
    | true =>
      unfold nameL at q
      simp only [Bool.and_eq_true] at q
      have : Txt.isascii t = true := by
        unfold Txt.isascii
        rw [all_cs, e, List.all_eq_true]
        intro x hx
        have := isNam_lt (List.all_eq_true.mp q.2 x hx)
        simpa using this
      rw [this] at h
      cases h
theorem name_len {t : Str} (h : ¬ (1 ≤ t.length ∧ t.length ≤ 30)) : nameS t = false := by
  unfold nameS
  cases e : cs t with
  | nil => rfl
  | cons c r =>
    have hl := cs_len t
    rw [e, List.length_cons] at hl
    show (decide (r.length ≤ 29) && isLet c && (c :: r).all isNam) = false
    have : decide (r.length ≤ 29) = false := decide_eq_false (by omega)
    rw [this]
    rfl
theorem name_end {t : Str} (h : Txt.isascii t = true) (h1 : 1 ≤ t.length) (h2 : t.length ≤ 30) : nameEnd t = some (nameS t) := by
  unfold nameEnd nameS
  have hl := cs_len t
  cases e : cs t with
  | nil =>
    rw [e] at hl
    simp at hl
    omega
  | cons c r =>
    have e' : t.cps.toList = c :: r := e
    rw [e, List.length_cons] at hl
    simp only [e']
    rw [if_pos (by omega)]
    congr 1
    unfold Txt.isascii at h
    rw [all_cs, e, List.all_eq_true] at h
    have hc : c < 128 := by simpa using h c List.mem_cons_self
    have ha : Txt.isalpha ⟨#[c]⟩ = isLet c := by
      unfold Txt.isalpha
      rw [all_cs]
      simp [Str.length, uni_a hc]
    have hr : (cs (Txt.replace t "_" "0")) = (c :: r).map fun c => if c = 95 then 48 else c := by
      have := PySem.StrLaws.replace_list (x := t) (y := "_") (z := "0") (by decide)
      rw [show cs (Txt.replace t "_" "0") = (Txt.replace t "_" "0").cps.toList from rfl, this, e', ← repl_us]
      rfl
    have hn : Txt.isalnum (Txt.replace t "_" "0") = (c :: r).all isNam := by
      unfold Txt.isalnum
      rw [all_cs, hr, List.all_map]
      have hlen : (Txt.replace t "_" "0").length > 0 := by
        rw [← cs_len, hr]
        simp
      rw [decide_eq_true hlen, Bool.true_and]
      have key : ∀ l : List Nat, (∀ x ∈ l, x < 128) → l.all (Unicode.isAlnum ∘ fun c => if c = 95 then 48 else c) = l.all isNam := by
        intro l
        induction l with
        | nil => intro _; rfl
        | cons a l ih =>
          intro hx
          rw [List.all_cons, List.all_cons, ih fun x m => hx x (List.mem_cons_of_mem _ m)]
          congr 1
          exact isNam_rep (hx a List.mem_cons_self)
      exact key _ fun x hx => by simpa using h x hx
    rw [ha, hn]
    show _ = (decide (r.length ≤ 29) && isLet c && (c :: r).all isNam)
    rw [decide_eq_true (show r.length ≤ 29 by omega), Bool.true_and]
end K1
set_option Elab.async false
set_option linter.all false
set_option maxRecDepth 100000
set_option maxHeartbeats 4000000
namespace K1
open PySem L2 Dl
local macro_rules | `(tactic| walk_at "dw") => `(tactic| simp only [wSB, wSB1, wVar, wC, wOp, wB, wNotT, wAndT, wOrT, wAndV, wOrV, wNotV, wIfE, wChain, wNil, wCons, wTup, wLst, wNext, wSeq, wSet, wAsg, wDrop, wRet, wRetN, wBrk, wCont, wIf, wiL, wiT, wiR, wFor, wCall0, wCall, wCB, wM0, wM1, wNo, wPart, wSl, wYes, wLc, wipeD, wNeg, wTru, wFmt, wJoined, wJs, wRaise1, wStw, wiS, wNameEnd, wgName, wgNil, wgCons, wgTup,
  Sl.V, D.I, D.B, D.S, D.L, D.T, D.K, D.len, D.tru, rdI, rdI0, rdLt, rdLe, rdGt, rdGe, rdEq, rdNe, eqS, rdIsN, rdNotN, rdAdd, rdIx, rdSl, rdInS, rdLen, rdOrd, rdAll, rdAny, rdIsi, rdFmt, rdJoin, rdCint, tyN, ρ0, List.map_cons, List.map_nil, List.length_cons, List.length_nil, List.replicate, List.append, List.cons_append, List.nil_append, List.getElem?_cons_zero, List.getElem?_cons_succ, List.set_cons_zero, List.set_cons_succ, Nat.add_sub_cancel, Nat.sub_self, Nat.zero_add, Nat.reduceAdd, Nat.reduceSub, if_true, if_false, true_and, and_true, ia_NoneType_bool, ia_NoneType_int, ia_NoneType_str, ia_NoneType_list, ia_NoneType_tuple, ia_NoneType_dict, ia_bool_bool, ia_bool_int, ia_bool_str, ia_bool_list, ia_bool_tuple, ia_bool_dict, ia_int_bool, ia_int_int, ia_int_str, ia_int_list, ia_int_tuple, ia_int_dict, ia_str_bool, ia_str_int, ia_str_str, ia_str_list, ia_str_tuple, ia_str_dict, ia_list_bool, ia_list_int, ia_list_str, ia_list_list, ia_list_tuple, ia_list_dict, ia_tuple_bool, ia_tuple_int, ia_tuple_str, ia_tuple_list, ia_tuple_tuple, ia_tuple_dict, ia_dict_bool, ia_dict_int, ia_dict_str, ia_dict_list, ia_dict_tuple, ia_dict_dict, inT_bool, inT_int, inT_str, inT_list, inT_tuple, inT_dict, Bool.not_eq_true, Bool.not_true, Bool.not_false, Bool.false_eq_true, ite_false, ite_true, reduceCtorEq])
theorem len_is_name {ds : List D} {Q : D → Prop} {E : Exn → Prop} (h : sp_is_name ds Q E) : ds.length = (["text"] : List Str).length := by
  obtain ⟨t, rfl, _⟩ := h
  rfl
theorem hw_is_name : ∀ ds Q E, sp_is_name ds Q E → W_is_name { nx := fun _ => Q .non, rt := Q } (ρ0 (["text"] : List Str).length ds) := by
  rintro ds Q E ⟨t, rfl, hl, h⟩
  unfold W_is_name
  walk_at "dw"
  cases ha : Txt.isascii t with
  | false =>
    rw [name_ascii ha] at h
    walk_at "dw"
    exact h
  | true =>
    walk_at "dw"
    rw [if_pos (show t.length ≤ 1000000 by omega)]
    walk_at "dw"
    by_cases h1 : (1 : Int) ≤ (t.length : Int)
    · rw [decide_eq_true h1]
      by_cases h2 : (t.length : Int) ≤ 30
      · rw [decide_eq_true h2]
        walk_at "dw"
        rw [name_end ha (by omega) (by omega)]
        exact h
      · rw [decide_eq_false h2]
        walk_at "dw"
        rw [name_len (by omega)] at h
        exact h
    · rw [decide_eq_false h1]
      walk_at "dw"
      rw [name_len (by omega)] at h
      exact h
theorem len_is_plain {ds : List D} {Q : D → Prop} {E : Exn → Prop} (h : sp_is_plain ds Q E) : ds.length = (["code"] : List Str).length := by
  obtain ⟨t, rfl, _⟩ := h
  rfl
theorem hw_is_plain : ∀ ds Q E, sp_is_plain ds Q E → W_is_plain { nx := fun _ => Q .non, rt := Q } (ρ0 (["code"] : List Str).length ds) := by
  rintro ds Q E ⟨i, rfl, h⟩
  unfold W_is_plain
  walk_at "dw"
  by_cases h1 : (32 : Int) ≤ i
  · rw [decide_eq_true h1]
    walk_at "dw"
    have e : decide (32 ≤ i ∧ i ≤ 126 ∧ i ≠ 37) = if decide (i ≤ 126) = true then !decide (i = 37) else false := by
      by_cases h2 : i ≤ 126 <;> by_cases h3 : i = 37 <;> simp [h1, h2, h3]
    rw [e] at h
    split <;> rename_i h2 <;> simp only [h2, if_true, if_false] at h <;> exact h
  · rw [decide_eq_false h1]
    have e : decide (32 ≤ i ∧ i ≤ 126 ∧ i ≠ 37) = false := decide_eq_false fun z => h1 z.1
    rw [e] at h
    walk_at "dw"
    exact h
theorem plain_cast (c : Nat) : decide ((32 : Int) ≤ (c : Int) ∧ (c : Int) ≤ 126 ∧ (c : Int) ≠ 37) = plain c := decide_eq_decide.mpr (by omega)
theorem sgn_map (s : Str) (f : D → D) (g : Nat → Bool) (h : ∀ c, f (.str ⟨#[c]⟩) = .bl (g c)) : (sgnD s).map f = ((cs s).map g).map .bl := by
  unfold sgnD
  rw [List.map_map, List.map_map]
  exact List.map_congr_left fun c _ => h c
theorem sgn_mem {s : Str} {x : D} (h : x ∈ sgnD s) : ∃ c, c ∈ cs s ∧ x = .str ⟨#[c]⟩ := by
  unfold sgnD at h
  obtain ⟨c, h1, h2⟩ := List.mem_map.mp h
  exact ⟨c, h1, h2.symm⟩
theorem sgn_len (s : Str) : (sgnD s).length = s.length := by
  unfold sgnD
  rw [List.length_map]
  exact cs_len s
def plD : D → D
  | .str z => .bl (plain (z.cps.getD 0 0))
  | d => d
theorem all_id (l : List Bool) : l.all id = l.all fun b => b := rfl
theorem len_fits {ds : List D} {Q : D → Prop} {E : Exn → Prop} (h : sp_fits ds Q E) : ds.length = (["scalar", "value"] : List Str).length := by
  obtain ⟨t, v, rfl, _⟩ := h
  rfl
theorem hw_fits : ∀ ds Q E, sp_fits ds Q E → W_fits { nx := fun _ => Q .non, rt := Q } (ρ0 (["scalar", "value", "sign"] : List Str).length ds) := by
  rintro ds Q E ⟨sc, v, rfl, ⟨ty, ht⟩, hs, h⟩
  unfold W_fits
  walk_at "dw"
  cases v with
  | bl b => walk_at "dw"; exact h
  | int i =>
    walk_at "dw"
    simp only [fitsD] at h
    by_cases e : sc = "Int"
    · rw [decide_eq_true e] at h ⊢
      walk_at "dw"
      by_cases h1 : -2147483648 ≤ i
      · rw [decide_eq_true h1]
        walk_at "dw"
        rw [show decide (-2147483648 ≤ i ∧ i ≤ 2147483647) = decide (i ≤ 2147483647) from decide_eq_decide.mpr ⟨fun z => z.2, fun z => ⟨h1, z⟩⟩] at h
        exact h
      · rw [decide_eq_false h1]
        walk_at "dw"
        rw [show decide (-2147483648 ≤ i ∧ i ≤ 2147483647) = false from decide_eq_false fun z => h1 z.1] at h
        exact h
    · rw [decide_eq_false e] at h ⊢
      walk_at "dw"
      exact h
  | str s =>
    have hl := hs s rfl
    walk_at "dw"
    simp only [fitsD] at h
    by_cases e : sc = "Text"
    · rw [decide_eq_true e] at h ⊢
      walk_at "dw"
      refine ⟨by omega, by rw [sgn_len]; omega, ?_⟩
      refine lcl_map plD _ _ _ (fun x hx K hk => ?_) ?_
      · obtain ⟨c, hc, rfl⟩ := sgn_mem hx
        walk_at "dw"
        refine ⟨rfl, (c : Int), rfl, ?_⟩
        rw [plain_cast]
        exact hk
      · rw [List.nil_append, sgn_map s plD plain fun c => rfl, blA_of]
        walk_at "dw"
        have e2 : ((cs s).map plain).all id = (cs s).all plain := by
          rw [List.all_map]
          rfl
        rw [e2]
        exact h
    · rw [decide_eq_false e] at h ⊢
      walk_at "dw"
      exact h
  | non => walk_at "dw"; exact h
  | lst xs => walk_at "dw"; exact h
  | tup xs => walk_at "dw"; exact h
  | dic xs => walk_at "dw"; exact h
  | ins _ _ => cases ht
  | drw => cases ht
  | scr _ => cases ht
  | ty _ => cases ht
  | rf _ => cases ht
theorem len_l_is_integer {ds : List D} {Q : D → Prop} {E : Exn → Prop} (h : sp_l_is_integer ds Q E) : ds.length = (["actual"] : List Str).length := by
  obtain ⟨v, rfl, _⟩ := h
  rfl
theorem hw_l_is_integer : ∀ ds Q E, sp_l_is_integer ds Q E → W_l_is_integer { nx := fun _ => Q .non, rt := Q } (ρ0 (["actual"] : List Str).length ds) := by
  rintro ds Q E ⟨v, rfl, ⟨ty, ht⟩, h⟩
  unfold W_l_is_integer
  walk_at "dw"
  cases v <;> first
    | (cases ht; done)
    | (walk_at "dw"; exact h)
theorem len_l_fits {ds : List D} {Q : D → Prop} {E : Exn → Prop} (h : sp_l_fits ds Q E) : ds.length = (["scalar", "value"] : List Str).length := by
  obtain ⟨t, v, rfl, _⟩ := h
  rfl
theorem s_it : ¬ ("Int" : Str) = "Text" := by decide
theorem s_itr : ¬ ("Int" : Str) = "Truth" := by decide
theorem s_tt : ¬ ("Text" : Str) = "Truth" := by decide
theorem s_ti : ¬ ("Text" : Str) = "Int" := by decide
theorem s_tri : ¬ ("Truth" : Str) = "Int" := by decide
theorem s_trt : ¬ ("Truth" : Str) = "Text" := by decide
theorem fits_int (v : D) : fitsD "Int" v = match v with
    | .int i => decide (-2147483648 ≤ i ∧ i ≤ 2147483647)
    | _ => false := by
  cases v <;> simp only [fitsD, decide_eq_false s_itr, decide_eq_false s_it, decide_true, Bool.true_and, Bool.false_and]
theorem fits_text (v : D) : fitsD "Text" v = match v with
    | .str s => (cs s).all plain
    | _ => false := by
  cases v <;> simp only [fitsD, decide_eq_false s_tt, decide_eq_false s_ti, decide_true, Bool.true_and, Bool.false_and]
theorem fits_truth (v : D) : fitsD "Truth" v = match v with
    | .bl _ => true
    | _ => false := by
  cases v <;> simp only [fitsD, decide_eq_false s_tri, decide_eq_false s_trt, decide_true, Bool.true_and, Bool.false_and]
theorem hw_l_fits : ∀ ds Q E, sp_l_fits ds Q E → W_l_fits { nx := fun _ => Q .non, rt := Q } (ρ0 (["scalar", "value", "sign"] : List Str).length ds) := by
  rintro ds Q E ⟨sc, v, rfl, hsc, ⟨ty, ht⟩, hs, h⟩
  unfold W_l_fits
  walk_at "dw"
  rcases hsc with rfl | rfl | rfl
  · rw [decide_eq_true (Eq.refl ("Int" : Str)), fits_int] at *
    walk_at "dw"
    refine ⟨v, rfl, ⟨ty, ht⟩, ?_⟩
    cases v with
    | int i =>
      walk_at "dw"
      simp only at h
      by_cases h1 : -2147483648 ≤ i
      · rw [decide_eq_true h1]
        walk_at "dw"
        rw [show decide (-2147483648 ≤ i ∧ i ≤ 2147483647) = decide (i ≤ 2147483647) from decide_eq_decide.mpr ⟨fun z => z.2, fun z => ⟨h1, z⟩⟩] at h
        exact h
      · rw [decide_eq_false h1]
        walk_at "dw"
        rw [show decide (-2147483648 ≤ i ∧ i ≤ 2147483647) = false from decide_eq_false fun z => h1 z.1] at h
        exact h
    | _ => walk_at "dw"; exact h
  · rw [decide_eq_false s_ti, decide_eq_true (Eq.refl ("Text" : Str))]
    rw [fits_text] at h
    walk_at "dw"
    cases v with
    | str s =>
      have hl := hs s rfl
      walk_at "dw"
      refine ⟨by omega, by rw [sgn_len]; omega, ?_⟩
      refine lcl_map plD _ _ _ (fun x hx K hk => ?_) ?_
      · obtain ⟨c, hc, rfl⟩ := sgn_mem hx
        walk_at "dw"
        refine ⟨rfl, ?_⟩
        have hk' : K (.bl (plain c)) := hk
        rw [← plain_cast c] at hk'
        have e0 : ((#[c] : Array Nat).getD 0 0 : Nat) = c := rfl
        rw [e0]
        by_cases h1 : (32 : Int) ≤ (c : Int)
        · rw [decide_eq_true h1]
          walk_at "dw"
          have hl1 : (⟨#[c]⟩ : Str).length = 1 := rfl
          have e : decide ((32 : Int) ≤ (c : Int) ∧ (c : Int) ≤ 126 ∧ (c : Int) ≠ 37) = if decide ((c : Int) ≤ 126) = true then !decide ((c : Int) = 37) else false := by
            by_cases h2 : (c : Int) ≤ 126 <;> by_cases h3 : (c : Int) = 37 <;> simp [h1, h2, h3]
          rw [e] at hk'
          split <;> rename_i h2 <;> simp only [h2, if_true, if_false] at hk'
          · exact ⟨rfl, hk'⟩
          · exact hk'
        · rw [decide_eq_false h1]
          walk_at "dw"
          rw [show decide ((32 : Int) ≤ (c : Int) ∧ (c : Int) ≤ 126 ∧ (c : Int) ≠ 37) = false from decide_eq_false fun z => h1 z.1] at hk'
          exact hk'
      · rw [List.nil_append, sgn_map s plD plain fun c => rfl, blA_of]
        walk_at "dw"
        have e2 : ((cs s).map plain).all id = (cs s).all plain := by
          rw [List.all_map]
          rfl
        rw [e2]
        exact h
    | ins _ _ => cases ht
    | drw => cases ht
    | scr _ => cases ht
    | ty _ => cases ht
    | rf _ => cases ht
    | _ => walk_at "dw"; exact h
  · rw [decide_eq_false s_tri, decide_eq_false s_trt]
    rw [fits_truth] at h
    walk_at "dw"
    cases v <;> first
      | (cases ht; done)
      | (walk_at "dw"; exact h)
end K1
set_option Elab.async false
set_option linter.all false
set_option maxRecDepth 100000
set_option maxHeartbeats 4000000
namespace K1
open PySem L2 Dl
local macro_rules | `(tactic| walk_at "dw") => `(tactic| simp only [wSB, wSB1, wVar, wC, wOp, wB, wNotT, wAndT, wOrT, wAndV, wOrV, wNotV, wIfE, wChain, wNil, wCons, wTup, wLst, wNext, wSeq, wSet, wAsg, wDrop, wRet, wRetN, wBrk, wCont, wIf, wiL, wiT, wiR, wFor, wCall0, wCall, wCB, wM0, wM1, wNo, wPart, wSl, wYes, wLc, wipeD, wNeg, wTru, wFmt, wJoined, wJs, wRaise1, wStw, wiS, wNameEnd, wgName, wgNil, wgCons, wgTup,
  Sl.V, D.I, D.B, D.S, D.L, D.T, D.K, D.len, D.tru, rdI, rdI0, rdLt, rdLe, rdGt, rdGe, rdEq, rdNe, eqS, rdIsN, rdNotN, rdAdd, rdIx, rdSl, rdInS, rdLen, rdOrd, rdAll, rdAny, rdIsi, rdFmt, rdJoin, rdCint, tyN, ρ0, List.map_cons, List.map_nil, List.length_cons, List.length_nil, List.replicate, List.append, List.cons_append, List.nil_append, List.getElem?_cons_zero, List.getElem?_cons_succ, List.set_cons_zero, List.set_cons_succ, Nat.add_sub_cancel, Nat.sub_self, Nat.zero_add, Nat.reduceAdd, Nat.reduceSub, if_true, if_false, true_and, and_true, true_or, or_true, ia_NoneType_bool, ia_NoneType_int, ia_NoneType_str, ia_NoneType_list, ia_NoneType_tuple, ia_NoneType_dict, ia_bool_bool, ia_bool_int, ia_bool_str, ia_bool_list, ia_bool_tuple, ia_bool_dict, ia_int_bool, ia_int_int, ia_int_str, ia_int_list, ia_int_tuple, ia_int_dict, ia_str_bool, ia_str_int, ia_str_str, ia_str_list, ia_str_tuple, ia_str_dict, ia_list_bool, ia_list_int, ia_list_str, ia_list_list, ia_list_tuple, ia_list_dict, ia_tuple_bool, ia_tuple_int, ia_tuple_str, ia_tuple_list, ia_tuple_tuple, ia_tuple_dict, ia_dict_bool, ia_dict_int, ia_dict_str, ia_dict_list, ia_dict_tuple, ia_dict_dict, inT_bool, inT_int, inT_str, inT_list, inT_tuple, inT_dict, Bool.not_eq_true, Bool.not_true, Bool.not_false, Bool.false_eq_true, ite_false, ite_true, reduceCtorEq])
theorem refill_fin {c k : Int} {l : Nat} {Q : D → Prop} (hc : 0 ≤ c) (h : ∀ v : Int, 0 ≤ v → Q (.int v)) : CPow 10 18 ∧
    if decide ((10 : Int) ^ Int.toNat 18 ≤ c) = true then
      if decide (k < (l : Int)) = true then Q (D.int c) else CMul c 48271 ∧ CMul k 69621 ∧ CMul (c * 48271 + k * 69621 + 12345) 40692 ∧ (0 : Int) < 2147483399 ∧ Q (D.int (((c * 48271 + k * 69621 + 12345) * 40692 + 7) % 2147483399))
    else CMul c 48271 ∧ CMul k 69621 ∧ CMul (c * 48271 + k * 69621 + 12345) 40692 ∧ (0 : Int) < 2147483399 ∧ Q (D.int (((c * 48271 + k * 69621 + 12345) * 40692 + 7) % 2147483399)) := by
  have e : CMul c 48271 ∧ CMul k 69621 ∧ CMul (c * 48271 + k * 69621 + 12345) 40692 ∧ (0 : Int) < 2147483399 ∧ Q (D.int (((c * 48271 + k * 69621 + 12345) * 40692 + 7) % 2147483399)) :=
    ⟨.inr ⟨by decide, by decide⟩, .inr ⟨by decide, by decide⟩, .inr ⟨by decide, by decide⟩, by decide, h _ (Int.emod_nonneg _ (by decide))⟩
  refine ⟨⟨by decide, by decide, by decide⟩, ?_⟩
  split
  · split
    · exact h c hc
    · exact e
  · exact e
theorem len_l_refill {ds : List D} {Q : D → Prop} {E : Exn → Prop} (h : sp_l_refill ds Q E) : ds.length = (["script", "k"] : List Str).length := by
  obtain ⟨t, v, rfl, _⟩ := h
  rfl
theorem hw_l_refill : ∀ ds Q E, sp_l_refill ds Q E → W_l_refill { nx := fun _ => Q .non, rt := Q } (ρ0 (["script", "k", "cell"] : List Str).length ds) := by
  rintro ds Q E ⟨ns, k, rfl, hk, h⟩
  unfold W_l_refill
  walk_at "dw"
  cases hn : ns with
  | nil => exact refill_fin (l := 0) (Int.le_refl _) h
  | cons n0 r =>
    rw [← hn]
    have hpos : 0 < ns.length := by rw [hn]; simp
    have he : ns.isEmpty = false := by rw [hn]; rfl
    rw [he]
    walk_at "dw"
    refine ⟨by omega, ?_⟩
    have h1 := Int.emod_nonneg k (show (ns.length : Int) ≠ 0 by omega)
    have h2 := Int.emod_lt_of_pos k (show (0 : Int) < ns.length by omega)
    obtain ⟨j, hj⟩ : ∃ j : Nat, k % (ns.length : Int) = (j : Int) := ⟨(k % (ns.length : Int)).toNat, by omega⟩
    have hlt : j < ns.length := by omega
    rw [hj, atI_nat (List.getElem?_eq_getElem hlt)]
    simp only
    generalize ns[j] = c
    by_cases hc : c < 0
    · rw [decide_eq_true hc]
      walk_at "dw"
      exact ⟨.inl ⟨by decide, by decide⟩, refill_fin (by omega) h⟩
    · rw [decide_eq_false hc]
      walk_at "dw"
      exact refill_fin (by omega) h
theorem divw {a n : Int} (h0 : 0 < n) (h1 : n < 2 ^ 60) : CDivW a n := wide_div h0 (b := 60) (by omega) (by decide) (by decide)
theorem len_l_draw {ds : List D} {Q : D → Prop} {E : Exn → Prop} (h : sp_l_draw ds Q E) : ds.length = (["state", "script", "size"] : List Str).length := by
  obtain ⟨t, v, rfl, _⟩ := h
  rfl
theorem hw_l_draw : ∀ ds Q E, sp_l_draw ds Q E → W_l_draw { nx := fun _ => Q .non, rt := Q } (ρ0 (["state", "script", "size", "digit"] : List Str).length ds) := by
  rintro ds Q E ⟨ns, n, rfl, h0, h1, h⟩
  unfold W_l_draw
  walk_at "dw"
  intro a ha
  have fin : ∀ x : Int, Q (D.int (x % n)) := fun x => h _ (Int.emod_nonneg _ (by omega)) (Int.emod_lt_of_pos _ h0)
  by_cases e : a = 0
  · rw [decide_eq_true e]
    walk_at "dw"
    intro b hb
    refine ⟨ns, b, rfl, hb, fun v hv => ?_⟩
    walk_at "dw"
    refine ⟨hv, fun c hc => ⟨by omega, fun d hd => ⟨h0, fun e he => ⟨divw h0 h1, Int.ediv_nonneg he (by omega), fin _⟩⟩⟩⟩
  · rw [decide_eq_false e]
    walk_at "dw"
    exact fun b hb => ⟨h0, fun c hc => ⟨divw h0 h1, Int.ediv_nonneg hc (by omega), fin _⟩⟩
theorem len_l_pick {ds : List D} {Q : D → Prop} {E : Exn → Prop} (h : sp_l_pick ds Q E) : ds.length = (["state", "script", "signs"] : List Str).length := by
  obtain ⟨t, v, rfl, _⟩ := h
  rfl
theorem hw_l_pick : ∀ ds Q E, sp_l_pick ds Q E → W_l_pick { nx := fun _ => Q .non, rt := Q } (ρ0 (["state", "script", "signs", "k"] : List Str).length ds) := by
  rintro ds Q E ⟨ns, z, rfl, h0, h1, h⟩
  unfold W_l_pick
  walk_at "dw"
  rw [if_pos (show z.length ≤ 1000000 by omega)]
  walk_at "dw"
  refine ⟨ns, z.length, rfl, by omega, by omega, fun d hd0 hd1 => ?_⟩
  walk_at "dw"
  refine ⟨by omega, ?_⟩
  obtain ⟨j, rfl⟩ : ∃ j : Nat, d = (j : Int) := ⟨d.toNat, by omega⟩
  have hlt : j < (cs z).length := by rw [cs_len]; omega
  rw [cut_one z j _ (List.getElem?_eq_getElem hlt)]
  exact h _ (List.getElem_mem hlt)
theorem len_l_name {ds : List D} {Q : D → Prop} {E : Exn → Prop} (h : sp_l_name ds Q E) : ds.length = (["state", "script"] : List Str).length := by
  obtain ⟨v, rfl, _⟩ := h
  rfl
theorem let_all : ∀ c ∈ cs "abcdefghijklmnopqrstuvwxyzABCDEFGHIJKLMNOPQRSTUVWXYZ", isLet c = true := by decide
theorem nam_all : ∀ c ∈ cs "0123456789_", isNam c = true := by decide
theorem let_nam {c : Nat} (h : isLet c = true) : isNam c = true := by
  unfold isNam
  rw [h]
  rfl
/-- what is joined without anything between -/
theorem glueL_nil : ∀ r : List Str, PySem.StrLaws.glueL [] r = (r.map cs).flatten
  | [] => rfl
  | p :: r => by
    show [] ++ cs p ++ PySem.StrLaws.glueL [] r = _
    rw [glueL_nil r]
    rfl
theorem join_none : ∀ ys : List Str, cs (Txt.join "" ys) = (ys.map cs).flatten
  | [] => rfl
  | p :: r => by
    have h := PySem.StrLaws.glued_list "" p r
    have e : cs (Txt.join "" (p :: r)) = PySem.StrLaws.glueT ("" : Str).cps.toList (p :: r) := h
    rw [e]
    show cs p ++ PySem.StrLaws.glueL [] r = _
    rw [glueL_nil]
    rfl
theorem hw_l_name : ∀ ds Q E, sp_l_name ds Q E → W_l_name { nx := fun _ => Q .non, rt := Q } (ρ0 (["state", "script", "letters", "count", "k"] : List Str).length ds) := by
  rintro ds Q E ⟨ns, rfl, h⟩
  unfold W_l_name
  walk_at "dw"
  refine ⟨ns, 4, rfl, by decide, by decide, fun a ha0 ha1 => ?_⟩
  refine ⟨ns, 4, rfl, by decide, by decide, fun b hb0 hb1 => ?_⟩
  walk_at "dw"
  refine ⟨by decide, ns, 2, rfl, by decide, by decide, fun c hc0 hc1 => ?_⟩
  walk_at "dw"
  have hcnt : ∃ n : Int, atI [D.int a, D.int (28 + b)] c = some (.int n) ∧ 0 ≤ n ∧ n ≤ 31 := by
    have : c = 0 ∨ c = 1 := by omega
    rcases this with rfl | rfl
    · exact ⟨a, rfl, ha0, by omega⟩
    · exact ⟨28 + b, rfl, by omega, by omega⟩
  obtain ⟨n, e, hn0, hn1⟩ := hcnt
  rw [e]
  walk_at "dw"
  refine ⟨ns, _, rfl, by decide, by decide, fun x hx => ?_⟩
  refine ⟨⟨by omega, by omega⟩, ?_, ?_⟩
  · unfold rngD
    rw [List.length_map, List.length_range]
    omega
  refine lcl_any (fun d => ∃ c, d = .str ⟨#[c]⟩ ∧ isNam c = true) _ _ _ (fun y hy K hK => ?_) fun ys hl hp => ?_
  · walk_at "dw"
    refine ⟨by decide, ns, _, rfl, by decide, by decide, fun c hc => hK _ ⟨c, rfl, ?_⟩⟩
    rw [cs_app] at hc
    rcases List.mem_append.mp hc with hc | hc
    · exact let_nam (let_all c hc)
    · exact nam_all c hc
  · have hys : ∃ l : List Nat, ys = (l.map fun c => Str.mk #[c]).map .str ∧ l.all isNam = true ∧ l.length = ys.length := by
      clear hl
      induction ys with
      | nil => exact ⟨[], rfl, rfl, rfl⟩
      | cons y ys ih =>
        obtain ⟨l, e1, e2, e3⟩ := ih fun z hz => hp z (List.mem_cons_of_mem _ hz)
        obtain ⟨c, e4, e5⟩ := hp y List.mem_cons_self
        exact ⟨c :: l, by rw [e4, e1]; rfl, by rw [List.all_cons, e5, e2]; rfl, by rw [List.length_cons, List.length_cons, e3]⟩
    obtain ⟨l, e1, e2, e3⟩ := hys
    have hlen : l.length ≤ 31 := by
      rw [e3, hl]
      unfold rngD
      rw [List.length_map, List.length_range]
      omega
    rw [List.nil_append, e1, strA_of]
    walk_at "dw"
    have hj : cs (Txt.join "" (l.map fun c => Str.mk #[c])) = l := by
      rw [join_none, List.map_map]
      clear e1 e2 e3 hlen
      induction l with
      | nil => rfl
      | cons c l ih => exact congrArg (c :: ·) ih
    have hsum : ((l.map fun c => Str.mk #[c]).map fun s => s.length).sum = l.length := by
      rw [List.map_map]
      clear e1 e2 e3 hlen hj
      induction l with
      | nil => rfl
      | cons c l ih =>
        rw [List.map_cons, List.sum_cons, ih, List.length_cons, Nat.add_comm]
        rfl
    have hx1 : (⟨#[x]⟩ : Str).length = 1 := rfl
    refine ⟨?_, ?_, h _ ⟨x, l, ?_, let_all x hx, e2, hlen⟩⟩
    · rw [hsum]
      have : ("" : Str).length = 0 := rfl
      rw [this]
      omega
    · have : (Txt.join "" (l.map fun c => Str.mk #[c])).length = l.length := by rw [← cs_len, hj]
      rw [this, hx1]
      omega
    · rw [cs_app, hj]
      rfl
end K1
set_option Elab.async false
set_option linter.all false
set_option maxRecDepth 100000
set_option maxHeartbeats 4000000
namespace K1
open PySem L2 Dl
theorem s_nm : (("name" : Str) = "must") = False := eq_false (by decide)
theorem s_nl : (("name" : Str) = "list") = False := eq_false (by decide)
theorem s_lm : (("list" : Str) = "must") = False := eq_false (by decide)
theorem s_ln : (("list" : Str) = "name") = False := eq_false (by decide)
theorem s_ml : (("must" : Str) = "list") = False := eq_false (by decide)
theorem s_mn : (("must" : Str) = "name") = False := eq_false (by decide)
local macro_rules | `(tactic| walk_at "dw") => `(tactic| simp only [wSB, wSB1, wVar, wC, wOp, wB, wNotT, wAndT, wOrT, wAndV, wOrV, wNotV, wIfE, wChain, wNil, wCons, wTup, wLst, wNext, wSeq, wSet, wAsg, wDrop, wRet, wRetN, wBrk, wCont, wIf, wiL, wiT, wiR, wFor, wCall0, wCall, wCB, wM0, wM1, wNo, wPart, wSl, wYes, wLc, wipeD, wNeg, wTru, wFmt, wJoined, wJs, wRaise1, wStw, wiS, wNameEnd, wgName, wgNil, wgCons, wgTup,
  Sl.V, D.I, D.B, D.S, D.L, D.T, D.K, D.len, D.tru, rdI, rdI0, rdLt, rdLe, rdGt, rdGe, rdEq, rdNe, eqS, rdIsN, rdNotN, rdAdd, rdIx, rdSl, rdInS, rdLen, rdOrd, rdAll, rdAny, rdIsi, rdFmt, rdJoin, rdCint, tyN, ρ0, List.map_cons, List.map_nil, List.length_cons, List.length_nil, List.replicate, List.append, List.cons_append, List.nil_append, List.getElem?_cons_zero, List.getElem?_cons_succ, List.set_cons_zero, List.set_cons_succ, Nat.add_sub_cancel, Nat.sub_self, Nat.zero_add, Nat.reduceAdd, Nat.reduceSub, if_true, if_false, true_and, and_true, decide_true, decide_false, s_nm, s_nl, s_lm, s_ln, s_ml, s_mn, true_or, or_true, ia_NoneType_bool, ia_NoneType_int, ia_NoneType_str, ia_NoneType_list, ia_NoneType_tuple, ia_NoneType_dict, ia_bool_bool, ia_bool_int, ia_bool_str, ia_bool_list, ia_bool_tuple, ia_bool_dict, ia_int_bool, ia_int_int, ia_int_str, ia_int_list, ia_int_tuple, ia_int_dict, ia_str_bool, ia_str_int, ia_str_str, ia_str_list, ia_str_tuple, ia_str_dict, ia_list_bool, ia_list_int, ia_list_str, ia_list_list, ia_list_tuple, ia_list_dict, ia_tuple_bool, ia_tuple_int, ia_tuple_str, ia_tuple_list, ia_tuple_tuple, ia_tuple_dict, ia_dict_bool, ia_dict_int, ia_dict_str, ia_dict_list, ia_dict_tuple, ia_dict_dict, inT_bool, inT_int, inT_str, inT_list, inT_tuple, inT_dict, Bool.not_eq_true, Bool.not_true, Bool.not_false, Bool.false_eq_true, ite_false, ite_true, reduceCtorEq])
theorem mk_cs (t : Str) : mk (cs t) = t := by
  apply cs_inj
  rfl
theorem cs_mk (l : List Nat) : cs (mk l) = l := rfl
theorem let_mem (c : Nat) : decide (c ∈ cs "abcdefghijklmnopqrstuvwxyzABCDEFGHIJKLMNOPQRSTUVWXYZ") = isLet c := by
  by_cases h : c < 128
  · have key : ∀ c ∈ List.range 128, decide (c ∈ cs "abcdefghijklmnopqrstuvwxyzABCDEFGHIJKLMNOPQRSTUVWXYZ") = isLet c := by decide +kernel
    exact key c (List.mem_range.mpr h)
  · have h1 : isLet c = false := by
      cases q : isLet c with
      | false => rfl
      | true => exact absurd (isLet_lt q) h
    rw [h1]
    exact decide_eq_false fun z => h (isLet_lt (let_all c z))
theorem nam_mem (c : Nat) : decide (c ∈ cs ("abcdefghijklmnopqrstuvwxyzABCDEFGHIJKLMNOPQRSTUVWXYZ" ++ "0123456789_")) = isNam c := by
  by_cases h : c < 128
  · have key : ∀ c ∈ List.range 128, decide (c ∈ cs "abcdefghijklmnopqrstuvwxyzABCDEFGHIJKLMNOPQRSTUVWXYZ" ∨ c ∈ cs "0123456789_") = isNam c := by decide +kernel
    rw [← key c (List.mem_range.mpr h)]
    exact decide_eq_decide.mpr (by rw [cs_app, List.mem_append])
  · have h1 : isNam c = false := by
      cases q : isNam c with
      | false => rfl
      | true => exact absurd (isNam_lt q) h
    rw [h1]
    refine decide_eq_false fun z => h ?_
    rw [cs_app] at z
    rcases List.mem_append.mp z with z | z
    · exact isLet_lt (let_all c z)
    · exact isNam_lt (nam_all c z)
def nmD : D → D
  | .str z => .bl (isNam (z.cps.getD 0 0))
  | d => d
theorem len_l_is_name {ds : List D} {Q : D → Prop} {E : Exn → Prop} (h : sp_l_is_name ds Q E) : ds.length = (["text"] : List Str).length := len_is_name h
theorem hw_l_is_name : ∀ ds Q E, sp_l_is_name ds Q E → W_l_is_name { nx := fun _ => Q .non, rt := Q } (ρ0 (["text", "letters", "sign"] : List Str).length ds) := by
  rintro ds Q E ⟨t, rfl, hl, h⟩
  unfold W_l_is_name
  walk_at "dw"
  rw [if_pos (show t.length ≤ 1000000 by omega)]
  walk_at "dw"
  by_cases h1 : (t.length : Int) < 1
  · rw [decide_eq_true h1]
    walk_at "dw"
    rw [name_len (by omega)] at h
    exact h
  · rw [decide_eq_false h1]
    walk_at "dw"
    by_cases h2 : (30 : Int) < (t.length : Int)
    · rw [decide_eq_true h2]
      walk_at "dw"
      rw [name_len (by omega)] at h
      exact h
    · rw [decide_eq_false h2]
      walk_at "dw"
      refine ⟨by omega, ?_⟩
      obtain ⟨c, r, e⟩ : ∃ c r, cs t = c :: r := by
        cases e : cs t with
        | nil =>
          have := cs_len t
          rw [e] at this
          simp at this
          omega
        | cons c r => exact ⟨c, r, rfl⟩
      have hlr := cs_len t
      rw [e, List.length_cons] at hlr
      have ea : atI (cs t) 0 = some c := atI_nat (j := 0) (by rw [e]; rfl)
      rw [show t.cps.toList = cs t from rfl, ea]
      walk_at "dw"
      refine ⟨rfl, ?_⟩
      have e0 : (#[c] : Array Nat).getD 0 0 = c := rfl
      rw [e0, show (true ^^ decide (c ∈ (("abcdefghijklmnopqrstuvwxyzABCDEFGHIJKLMNOPQRSTUVWXYZ" : Str)).cps.toList)) = !isLet c by rw [let_mem]; cases isLet c <;> rfl]
      have hn : nameS t = (isLet c && (cs t).all isNam) := by
        unfold nameS
        rw [e]
        show (decide (r.length ≤ 29) && isLet c && (c :: r).all isNam) = _
        rw [decide_eq_true (show r.length ≤ 29 by omega), Bool.true_and]
      rw [hn] at h
      cases hc : isLet c with
      | false =>
        walk_at "dw"
        rw [hc] at h
        exact h
      | true =>
        walk_at "dw"
        rw [hc, Bool.true_and] at h
        refine ⟨by omega, by rw [sgn_len]; omega, ?_⟩
        refine lcl_map nmD _ _ _ (fun x hx K hk => ?_) ?_
        · obtain ⟨c, hc, rfl⟩ := sgn_mem hx
          walk_at "dw"
          refine ⟨by decide, rfl, ?_⟩
          have hk' : K (.bl (isNam c)) := hk
          rw [show (#[c] : Array Nat).getD 0 0 = c from rfl, show (false ^^ decide (c ∈ (("abcdefghijklmnopqrstuvwxyzABCDEFGHIJKLMNOPQRSTUVWXYZ" : Str) ++ ("0123456789_" : Str)).cps.toList)) = isNam c by rw [nam_mem]; cases isNam c <;> rfl]
          exact hk'
        · rw [List.nil_append, sgn_map t nmD isNam fun c => rfl, blA_of]
          walk_at "dw"
          have e2 : ((cs t).map isNam).all id = (cs t).all isNam := by
            rw [List.all_map]
            rfl
          rw [e2]
          exact h
theorem len_parse_nested {m : Nat} {ds : List D} {Q : D → Prop} {E : Exn → Prop} (h : sp_parse_nested (m + 1) ds Q E) : ds.length = (["text", "depth"] : List Str).length := by
  obtain ⟨t, rfl, _⟩ := h
  rfl
theorem hw_parse_nested {m : Nat} : ∀ ds Q E, sp_parse_nested (m + 1) ds Q E → W_parse_nested m E { nx := fun _ => Q .non, rt := Q } (ρ0 (["text", "depth"] : List Str).length ds) := by
  rintro ds Q E ⟨t, rfl, hl, hm, h⟩
  unfold W_parse_nested
  walk_at "dw"
  have ee : Txt.endswith t "!" = decide ((cs t).getLast? = some 33) := ends_c t 33
  rw [ee]
  unfold pN at h
  by_cases c : (cs t).getLast? = some 33
  · rw [if_pos c] at h
    rw [decide_eq_true c]
    walk_at "dw"
    refine ⟨by omega, cutS t none (some (-1)), rfl, Nat.le_trans (cut_len _ _ _) hl, hm, ?_⟩
    rw [cut_init]
    cases hp : pB m (cs t).dropLast with
    | none =>
      rw [hp] at h
      exact h
    | some k =>
      rw [hp] at h
      exact ⟨by decide, h⟩
  · rw [if_neg c] at h
    rw [decide_eq_false c]
    walk_at "dw"
    exact ⟨t, rfl, hl, hm, h⟩
theorem len_parse_bare {m : Nat} {ds : List D} {Q : D → Prop} {E : Exn → Prop} (h : sp_parse_bare m ds Q E) : ds.length = (["text", "depth"] : List Str).length := by
  obtain ⟨t, rfl, _⟩ := h
  rfl
theorem bare_fin {t : Str} {Q : D → Prop} {E : Exn → Prop} (hl : t.length ≤ 1000)
    (h : match (if nameL (cs t) = true then some (Kd.nm (mk (cs t))) else none : Option Kd) with
      | some k => Q k.enc
      | none => E ⟨"InvalidType", none⟩) : sp_is_name [D.str t] (fun d => match d with
        | D.bl i => if (!i) = true then (Str.empty ++ "not a name: ").length ≤ 1000000 ∧ t.length ≤ 1000000 ∧ (Str.empty ++ "not a name: " ++ t).length ≤ 1000000 ∧ E { cls := "InvalidType", fs := none } else 2 ≤ 100000 ∧ Q (D.tup [D.str "name", D.str t])
        | x => False) fun x => False := by
  refine ⟨t, rfl, hl, ?_⟩
  rw [mk_cs] at h
  unfold nameS
  cases hn : nameL (cs t) with
  | true =>
    rw [hn] at h
    exact ⟨by decide, h⟩
  | false =>
    rw [hn] at h
    refine ⟨by decide, by omega, ?_, h⟩
    rw [len_app]
    have : (Str.empty ++ ("not a name: " : Str)).length = 12 := by decide
    omega
theorem hw_parse_bare {m : Nat} : ∀ ds Q E, sp_parse_bare m ds Q E → W_parse_bare m E { nx := fun _ => Q .non, rt := Q } (ρ0 (["text", "depth"] : List Str).length ds) := by
  rintro ds Q E ⟨t, rfl, hl, hm, h⟩
  unfold W_parse_bare
  walk_at "dw"
  have es : Txt.startswith t "[" = decide ((cs t).head? = some 91) := starts_c t 91
  have ee : Txt.endswith t "]" = decide ((cs t).getLast? = some 93) := ends_c t 93
  rw [es, ee]
  cases m with
  | zero =>
    rw [decide_eq_false (show ¬ (5 - ((0 : Nat) : Int) < 5) by omega)]
    exact bare_fin hl h
  | succ m =>
    rw [decide_eq_true (show 5 - ((m + 1 : Nat) : Int) < 5 by omega)]
    walk_at "dw"
    unfold pB at h
    by_cases c1 : (cs t).head? = some 91
    · rw [decide_eq_true c1]
      walk_at "dw"
      by_cases c2 : (cs t).getLast? = some 93
      · rw [decide_eq_true c2]
        walk_at "dw"
        rw [if_pos ⟨c1, c2⟩] at h
        refine ⟨by omega, cutS t (some 1) (some (-1)), ?_, Nat.le_trans (cut_len _ _ _) hl, by omega, ?_⟩
        · rw [show 5 - ((m + 1 : Nat) : Int) + 1 = 5 - (m : Int) by omega]
        · rw [cut_mid]
          unfold pN
          generalize (if ((cs t).drop 1).dropLast.getLast? = some 33 then (pB m ((cs t).drop 1).dropLast.dropLast).map Kd.mu else pB m ((cs t).drop 1).dropLast) = o at h
          cases o with
          | none => exact h
          | some k => exact ⟨by decide, h⟩
      · rw [decide_eq_false c2]
        walk_at "dw"
        rw [if_neg fun z => c2 z.2] at h
        exact bare_fin hl h
    · rw [decide_eq_false c1]
      walk_at "dw"
      rw [if_neg fun z => c1 z.1] at h
      exact bare_fin hl h
theorem len_parse_type {ds : List D} {Q : D → Prop} {E : Exn → Prop} (h : sp_parse_type ds Q E) : ds.length = (["text"] : List Str).length := by
  obtain ⟨t, rfl, _⟩ := h
  rfl
theorem hw_parse_type : ∀ ds Q E, sp_parse_type ds Q E → W_parse_type E { nx := fun _ => Q .non, rt := Q } (ρ0 (["text"] : List Str).length ds) := by
  rintro ds Q E ⟨t, rfl, hl, h⟩
  unfold W_parse_type
  walk_at "dw"
  exact ⟨t, rfl, hl, by decide, h⟩
theorem len_format_type {m : Nat} {ds : List D} {Q : D → Prop} {E : Exn → Prop} (h : sp_format_type m ds Q E) : ds.length = (["kind"] : List Str).length := by
  obtain ⟨t, rfl, _⟩ := h
  rfl
theorem hw_format_type {m : Nat} : ∀ ds Q E, sp_format_type (m + 1) ds Q E → W_format_type m { nx := fun _ => Q .non, rt := Q } (ρ0 (["kind", "form", "inner"] : List Str).length ds) := by
  rintro ds Q E ⟨k, rfl, hd, hl, h⟩
  unfold W_format_type
  walk_at "dw"
  cases k with
  | nm s =>
    simp only [Kd.enc]
    walk_at "dw"
    simp only [Kd.fmt, mk_cs] at h
    exact h
  | ls k =>
    simp only [Kd.enc]
    walk_at "dw"
    simp only [Kd.dep] at hd
    simp only [Kd.fmt, List.length_cons, List.length_append, List.length_nil] at hl
    refine ⟨k, rfl, by omega, by omega, ?_⟩
    have e1 : (mk k.fmt).length = k.fmt.length := by rw [← cs_len, cs_mk]
    have e2 : ("[" : Str).length = 1 := rfl
    have e3 : ("]" : Str).length = 1 := rfl
    refine ⟨by omega, by rw [len_app]; omega, ?_⟩
    have e : ("[" : Str) ++ mk k.fmt ++ ("]" : Str) = mk (Kd.ls k).fmt := by
      apply cs_inj
      rw [cs_app, cs_app, cs_mk, cs_mk]
      rfl
    rw [e]
    exact h
  | mu k =>
    simp only [Kd.enc]
    walk_at "dw"
    simp only [Kd.dep] at hd
    simp only [Kd.fmt, List.length_cons, List.length_append, List.length_nil] at hl
    refine ⟨k, rfl, by omega, by omega, ?_⟩
    have e1 : (mk k.fmt).length = k.fmt.length := by rw [← cs_len, cs_mk]
    have e2 : ("!" : Str).length = 1 := rfl
    refine ⟨by omega, ?_⟩
    have e : mk k.fmt ++ ("!" : Str) = mk (Kd.mu k).fmt := by
      apply cs_inj
      rw [cs_app, cs_mk, cs_mk]
      rfl
    rw [e]
    exact h
theorem len_base_of {ds : List D} {Q : D → Prop} {E : Exn → Prop} (h : sp_base_of ds Q E) : ds.length = (["kind"] : List Str).length := by
  obtain ⟨t, rfl, _⟩ := h
  rfl
def Kd.form : Kd → Str
  | .nm _ => "name"
  | .ls _ => "list"
  | .mu _ => "must"
def Kd.inner : Kd → D
  | .nm s => .str s
  | .ls k => k.enc
  | .mu k => k.enc
theorem enc_eq (k : Kd) : k.enc = .tup [.str k.form, k.inner] := by cases k <;> rfl
theorem hw_base_of : ∀ ds Q E, sp_base_of ds Q E → W_base_of { nx := fun _ => Q .non, rt := Q } (ρ0 (["kind", "form", "inner"] : List Str).length ds) := by
  rintro ds Q E ⟨k, rfl, h⟩
  unfold W_base_of
  rw [enc_eq]
  walk_at "dw"
  generalize k.enc = k0
  have key : ∀ (k : Kd) (d0 : D), Q (.str k.base) → ∃ n, wWhN (wB (wOp rdNe (wVar 1) (wC (.str "name")))) (wAsg (wVar 2) (wgTup 2 (wgCons (wgName 1) (wgCons (wgName 2) wgNil)))) n
      { nx := fun ρ => Sl.V ρ[2]? Q, rt := Q } [.val d0, .val (.str k.form), .val k.inner] := by
    intro k d0 h
    induction k with
    | nm s =>
      refine ⟨1, ?_⟩
      unfold wWhN
      simp only [Kd.form, Kd.inner]
      walk_at "dw"
      exact h
    | ls k ih =>
      obtain ⟨n, hn⟩ := ih h
      refine ⟨n + 1, ?_⟩
      unfold wWhN
      rw [show (Kd.ls k).form = "list" from rfl, show (Kd.ls k).inner = .tup [.str k.form, k.inner] from enc_eq k]
      walk_at "dw"
      exact hn
    | mu k ih =>
      obtain ⟨n, hn⟩ := ih h
      refine ⟨n + 1, ?_⟩
      unfold wWhN
      rw [show (Kd.mu k).form = "must" from rfl, show (Kd.mu k).inner = .tup [.str k.form, k.inner] from enc_eq k]
      walk_at "dw"
      exact hn
  exact key k _ h
theorem len_has_list {ds : List D} {Q : D → Prop} {E : Exn → Prop} (h : sp_has_list ds Q E) : ds.length = (["kind"] : List Str).length := by
  obtain ⟨t, rfl, _⟩ := h
  rfl
theorem hw_has_list : ∀ ds Q E, sp_has_list ds Q E → W_has_list { nx := fun _ => Q .non, rt := Q } (ρ0 (["kind", "form", "inner"] : List Str).length ds) := by
  rintro ds Q E ⟨k, rfl, h⟩
  unfold W_has_list
  rw [enc_eq]
  walk_at "dw"
  have key : ∀ (k : Kd) (d0 : D), Q (.bl k.hasL) → ∃ n, wWhN (wB (wOp rdEq (wVar 1) (wC (.str "must")))) (wAsg (wVar 2) (wgTup 2 (wgCons (wgName 1) (wgCons (wgName 2) wgNil)))) n
      { nx := wRet (wOp rdEq (wVar 1) (wC (.str "list"))) { nx := fun _ => Q .non, rt := Q }, rt := Q } [.val d0, .val (.str k.form), .val k.inner] := by
    intro k d0 h
    induction k with
    | nm s =>
      refine ⟨1, ?_⟩
      unfold wWhN
      simp only [Kd.form, Kd.inner]
      walk_at "dw"
      exact h
    | ls k ih =>
      refine ⟨1, ?_⟩
      unfold wWhN
      rw [show (Kd.ls k).form = "list" from rfl]
      walk_at "dw"
      exact h
    | mu k ih =>
      obtain ⟨n, hn⟩ := ih h
      refine ⟨n + 1, ?_⟩
      unfold wWhN
      rw [show (Kd.mu k).form = "must" from rfl, show (Kd.mu k).inner = .tup [.str k.form, k.inner] from enc_eq k]
      walk_at "dw"
      exact hn
  exact key k _ h
/-! ### the law's own reading of a type -/
theorem form_nm {s : Str} (h : (Kd.nm s).form = "must") : False := absurd (show ("name" : Str) = "must" from h) (by decide)
theorem form_ls {k : Kd} (h : (Kd.ls k).form = "must") : False := absurd (show ("list" : Str) = "must" from h) (by decide)
theorem pB_must : ∀ (m : Nat) (l : List Nat) (k : Kd), pB m l = some k → k.form = "must" → False
  | 0, l, k, h, hf => by
    unfold pB at h
    split at h
    · cases h
      first | exact form_nm hf | exact form_ls hf
    · cases h
  | m + 1, l, k, h, hf => by
    unfold pB at h
    split at h
    · obtain ⟨k', _, rfl⟩ := Option.map_eq_some_iff.mp h
      first | exact form_nm hf | exact form_ls hf
    · split at h
      · cases h
        first | exact form_nm hf | exact form_ls hf
      · cases h
theorem name_last {l : List Nat} (h : nameL l = true) : ∀ c, l.getLast? = some c → isNam c = true := by
  intro c hc
  cases l with
  | nil => cases h
  | cons a r =>
    have h2 : (decide (r.length ≤ 29) && isLet a && (a :: r).all isNam) = true := h
    simp only [Bool.and_eq_true] at h2
    exact List.all_eq_true.mp h2.2 c (List.mem_of_getLast? hc)
theorem pB_bang : ∀ (m : Nat) (l : List Nat), l.getLast? = some 33 → pB m l = none := by
  intro m l h
  have hn : nameL l = false := by
    cases q : nameL l with
    | false => rfl
    | true => exact absurd (name_last q 33 h) (by decide)
  cases m with
  | zero =>
    unfold pB
    rw [hn]
    rfl
  | succ m =>
    unfold pB
    rw [if_neg (fun z => by rw [h] at z; exact absurd z.2 (by decide)), hn]
    rfl
theorem len_l_parsed {m : Nat} {ds : List D} {Q : D → Prop} {E : Exn → Prop} (h : sp_l_parsed m ds Q E) : ds.length = (["text", "depth"] : List Str).length := by
  obtain ⟨t, j, rfl, _⟩ := h
  rfl
theorem cut_last_eq (t : Str) (c : Nat) : decide (cutS t (some (-1)) none = ⟨#[c]⟩) = decide ((cs t).getLast? = some c) := by
  refine decide_eq_decide.mpr ⟨fun h => ?_, fun h => ?_⟩
  · have h2 := congrArg cs h
    rw [cut_last] at h2
    cases e : (cs t).getLast? with
    | none =>
      rw [e] at h2
      cases h2
    | some x =>
      rw [e] at h2
      have : [x] = [c] := h2
      rw [List.cons.inj this |>.1]
  · apply cs_inj
    rw [cut_last, h]
    rfl
theorem cut_first_eq (t : Str) (c : Nat) : decide (cutS t none (some 1) = ⟨#[c]⟩) = decide ((cs t).head? = some c) := by
  refine decide_eq_decide.mpr ⟨fun h => ?_, fun h => ?_⟩
  · have h2 := congrArg cs h
    rw [cut_first] at h2
    cases e : (cs t).head? with
    | none =>
      rw [e] at h2
      cases h2
    | some x =>
      rw [e] at h2
      have : [x] = [c] := h2
      rw [List.cons.inj this |>.1]
  · apply cs_inj
    rw [cut_first, h]
    rfl
theorem at0 (a b : D) : atI [a, b] 0 = some a := rfl
theorem parsed_fin {t : Str} {Q : D → Prop} (hl : t.length ≤ 1000) (h : Q (encO (if nameL (cs t) = true then some (Kd.nm (mk (cs t))) else none))) :
    sp_l_is_name [D.str t] (fun d => match d with
      | D.bl i => if i = true then 2 ≤ 100000 ∧ Q (D.tup [D.str "name", D.str t]) else Q D.non
      | x => False) fun x => False := by
  refine ⟨t, rfl, hl, ?_⟩
  rw [mk_cs] at h
  unfold nameS
  cases hn : nameL (cs t) with
  | true =>
    rw [hn] at h
    exact ⟨by decide, h⟩
  | false =>
    rw [hn] at h
    exact h
theorem hw_l_parsed {m : Nat} : ∀ ds Q E, sp_l_parsed (m + 1) ds Q E → W_l_parsed m { nx := fun _ => Q .non, rt := Q } (ρ0 (["text", "depth", "inner"] : List Str).length ds) := by
  rintro ds Q E ⟨t, j, rfl, hm, hl, hj, h⟩
  unfold W_l_parsed
  walk_at "dw"
  have hl6 : t.length ≤ 1000000 := by omega
  have e1 : decide (cutS t (some (-1)) none = ("!" : Str)) = decide ((cs t).getLast? = some 33) := cut_last_eq t 33
  have e2 : decide (cutS t (some (-1)) none = ("]" : Str)) = decide ((cs t).getLast? = some 93) := cut_last_eq t 93
  have e3 : decide (cutS t none (some 1) = ("[" : Str)) = decide ((cs t).head? = some 91) := cut_first_eq t 91
  rw [e1, e2, e3]
  refine ⟨hl6, ?_⟩
  have hn := cs_len t
  unfold pN at h
  by_cases c : (cs t).getLast? = some 33
  · rw [decide_eq_true c]
    rw [if_pos c] at h
    walk_at "dw"
    have hpos : 0 < (cs t).length := by
      cases q : cs t with
      | nil =>
        rw [q] at c
        cases c
      | cons _ _ => simp
    refine ⟨hl6, cutS t none (some (-1)), j, rfl, ?_, Nat.le_trans (cut_len _ _ _) hl, hj, ?_⟩
    · rw [← cs_len, cut_init, List.length_dropLast]
      omega
    · rw [cut_init]
      unfold pN
      by_cases c2 : (cs t).dropLast.getLast? = some 33
      · rw [if_pos c2]
        rw [pB_bang _ _ c2] at h
        cases pB j (cs t).dropLast.dropLast with
        | none => exact h
        | some k =>
          show (if false = true then Q D.non else match atI [D.str "must", k.enc] 0 with
            | some d => _
            | none => False)
          rw [at0]
          walk_at "dw"
          exact h
      · rw [if_neg c2]
        cases hp : pB j (cs t).dropLast with
        | none =>
          rw [hp] at h
          exact h
        | some k =>
          rw [hp] at h
          have hf := pB_must _ _ _ hp
          have e : encO (some k) = D.tup [D.str k.form, k.inner] := enc_eq k
          rw [e]
          walk_at "dw"
          rw [at0]
          walk_at "dw"
          rw [decide_eq_false hf]
          walk_at "dw"
          refine ⟨by decide, ?_⟩
          rw [← enc_eq]
          exact h
  · rw [decide_eq_false c]
    rw [if_neg c] at h
    walk_at "dw"
    refine ⟨hl6, ?_⟩
    by_cases c1 : (cs t).head? = some 91
    · rw [decide_eq_true c1]
      walk_at "dw"
      refine ⟨hl6, ?_⟩
      by_cases c2 : (cs t).getLast? = some 93
      · rw [decide_eq_true c2]
        walk_at "dw"
        cases j with
        | zero =>
          rw [decide_eq_false (show ¬ (5 - ((0 : Nat) : Int) < 5) by omega)]
          exact parsed_fin hl h
        | succ j =>
          rw [decide_eq_true (show 5 - ((j + 1 : Nat) : Int) < 5 by omega)]
          walk_at "dw"
          have hpos : 2 ≤ (cs t).length := by
            cases q : cs t with
            | nil =>
              rw [q] at c1
              cases c1
            | cons a r =>
              cases r with
              | nil =>
                rw [q] at c1 c2
                cases c1
                cases c2
              | cons _ _ => simp
          refine ⟨hl6, cutS t (some 1) (some (-1)), j, ?_, ?_, Nat.le_trans (cut_len _ _ _) hl, by omega, ?_⟩
          · rw [show 5 - ((j + 1 : Nat) : Int) + 1 = 5 - (j : Int) by omega]
          · rw [← cs_len, cut_mid, List.length_dropLast, List.length_drop]
            omega
          · rw [cut_mid]
            unfold pB at h
            rw [if_pos ⟨c1, c2⟩] at h
            have hu : pN j ((cs t).drop 1).dropLast = if ((cs t).drop 1).dropLast.getLast? = some 33 then (pB j ((cs t).drop 1).dropLast.dropLast).map Kd.mu else pB j ((cs t).drop 1).dropLast := rfl
            rw [← hu] at h
            cases hp : pN j ((cs t).drop 1).dropLast with
            | none =>
              rw [hp] at h
              exact h
            | some k =>
              rw [hp] at h
              have e : encO (some k) = D.tup [D.str k.form, k.inner] := enc_eq k
              rw [e]
              walk_at "dw"
              refine ⟨by decide, ?_⟩
              rw [← enc_eq]
              exact h
      · rw [decide_eq_false c2]
        walk_at "dw"
        have hb : pB j (cs t) = if nameL (cs t) = true then some (Kd.nm (mk (cs t))) else none := by
          cases j with
          | zero => rfl
          | succ j =>
            unfold pB
            rw [if_neg fun z => c2 z.2]
        rw [hb] at h
        exact parsed_fin hl h
    · rw [decide_eq_false c1]
      walk_at "dw"
      have hb : pB j (cs t) = if nameL (cs t) = true then some (Kd.nm (mk (cs t))) else none := by
        cases j with
        | zero => rfl
        | succ j =>
          unfold pB
          rw [if_neg fun z => c1 z.1]
      rw [hb] at h
      exact parsed_fin hl h
end K1
set_option Elab.async false
set_option linter.all false
set_option maxRecDepth 100000
set_option maxHeartbeats 4000000
namespace K1
open PySem L2 Dl
local macro_rules | `(tactic| walk_at "dw") => `(tactic| simp only [wSB, wSB1, wVar, wC, wOp, wB, wNotT, wAndT, wOrT, wAndV, wOrV, wNotV, wIfE, wChain, wNil, wCons, wTup, wLst, wNext, wSeq, wSet, wAsg, wDrop, wRet, wRetN, wBrk, wCont, wIf, wiL, wiT, wiR, wFor, wCall0, wCall, wCB, wM0, wM1, wNo, wPart, wSl, wYes, wLc, wipeD, wNeg, wTru, wFmt, wJoined, wJs, wRaise1, wStw, wiS, wNameEnd, wgName, wgNil, wgCons, wgTup,
  Sl.V, D.I, D.B, D.S, D.L, D.T, D.K, D.len, D.tru, rdI, rdI0, rdLt, rdLe, rdGt, rdGe, rdEq, rdNe, eqS, rdIsN, rdNotN, rdAdd, rdIx, rdSl, rdInS, rdLen, rdOrd, rdAll, rdAny, rdIsi, rdFmt, rdJoin, rdCint, tyN, ρ0, List.map_cons, List.map_nil, List.length_cons, List.length_nil, List.replicate, List.append, List.cons_append, List.nil_append, List.getElem?_cons_zero, List.getElem?_cons_succ, List.set_cons_zero, List.set_cons_succ, Nat.add_sub_cancel, Nat.sub_self, Nat.zero_add, Nat.reduceAdd, Nat.reduceSub, if_true, if_false, true_and, and_true, decide_true, decide_false, s_nm, s_nl, s_lm, s_ln, s_ml, s_mn, true_or, or_true, ia_NoneType_bool, ia_NoneType_int, ia_NoneType_str, ia_NoneType_list, ia_NoneType_tuple, ia_NoneType_dict, ia_bool_bool, ia_bool_int, ia_bool_str, ia_bool_list, ia_bool_tuple, ia_bool_dict, ia_int_bool, ia_int_int, ia_int_str, ia_int_list, ia_int_tuple, ia_int_dict, ia_str_bool, ia_str_int, ia_str_str, ia_str_list, ia_str_tuple, ia_str_dict, ia_list_bool, ia_list_int, ia_list_str, ia_list_list, ia_list_tuple, ia_list_dict, ia_tuple_bool, ia_tuple_int, ia_tuple_str, ia_tuple_list, ia_tuple_tuple, ia_tuple_dict, ia_dict_bool, ia_dict_int, ia_dict_str, ia_dict_list, ia_dict_tuple, ia_dict_dict, inT_bool, inT_int, inT_str, inT_list, inT_tuple, inT_dict, Bool.not_eq_true, Bool.not_true, Bool.not_false, Bool.false_eq_true, ite_false, ite_true, reduceCtorEq])
local macro_rules | `(tactic| walk_at "dv") => `(tactic| simp only [wSB, wSB1, wVar, wC, wOp, wB, wNotT, wAndT, wOrT, wAndV, wOrV, wNotV, wIfE, wChain, wNil, wCons, wTup, wLst, wNext, wSeq, wSet, wAsg, wDrop, wRet, wRetN, wBrk, wCont, wIf, wiL, wiT, wiR, wFor, wCall0, wCall, wCB, wM0, wM1, wNo, wPart, wSl, wYes, wLc, wipeD, wNeg, wTru, wFmt, wJoined, wJs, wRaise1, wStw, wiS, wNameEnd, wgName, wgNil, wgCons, wgTup,
  Sl.V, D.I, D.B, D.S, D.L, D.T, D.K, D.len, D.tru, rdI, rdI0, rdLt, rdLe, rdGt, rdGe, rdIsN, rdNotN, rdAdd, rdIx, rdSl, rdInS, rdLen, rdOrd, rdAll, rdAny, rdIsi, rdFmt, rdJoin, rdCint, tyN, ρ0, List.map_cons, List.map_nil, List.length_cons, List.length_nil, List.replicate, List.append, List.cons_append, List.nil_append, List.getElem?_cons_zero, List.getElem?_cons_succ, List.set_cons_zero, List.set_cons_succ, Nat.add_sub_cancel, Nat.sub_self, Nat.zero_add, Nat.reduceAdd, Nat.reduceSub, if_true, if_false, true_and, and_true, decide_true, decide_false, s_nm, s_nl, s_lm, s_ln, s_ml, s_mn, true_or, or_true, ia_NoneType_bool, ia_NoneType_int, ia_NoneType_str, ia_NoneType_list, ia_NoneType_tuple, ia_NoneType_dict, ia_bool_bool, ia_bool_int, ia_bool_str, ia_bool_list, ia_bool_tuple, ia_bool_dict, ia_int_bool, ia_int_int, ia_int_str, ia_int_list, ia_int_tuple, ia_int_dict, ia_str_bool, ia_str_int, ia_str_str, ia_str_list, ia_str_tuple, ia_str_dict, ia_list_bool, ia_list_int, ia_list_str, ia_list_list, ia_list_tuple, ia_list_dict, ia_tuple_bool, ia_tuple_int, ia_tuple_str, ia_tuple_list, ia_tuple_tuple, ia_tuple_dict, ia_dict_bool, ia_dict_int, ia_dict_str, ia_dict_list, ia_dict_tuple, ia_dict_dict, inT_bool, inT_int, inT_str, inT_list, inT_tuple, inT_dict, Bool.not_eq_true, Bool.not_true, Bool.not_false, Bool.false_eq_true, ite_false, ite_true, reduceCtorEq])
/-! ### kinds that are drawn -/
def Kd.wf : Kd → Prop
  | .nm s => nameS s = true
  | .ls k => k.wf
  | .mu k => k.wf ∧ k.form ≠ "must"
def Kd.nl : Kd → Nat
  | .nm _ => 0
  | .ls k => k.nl + 1
  | .mu k => k.nl
theorem name_bang {l : List Nat} (h : nameL l = true) : l.getLast? ≠ some 33 := fun e => absurd (name_last h 33 e) (by decide)
theorem name_close {l : List Nat} (h : nameL l = true) : l.getLast? ≠ some 93 := fun e => absurd (name_last h 93 e) (by decide)
theorem last_snoc (l : List Nat) (c : Nat) : (l ++ [c]).getLast? = some c := List.getLast?_concat
theorem fmt_last (k : Kd) (h : k.wf) (hf : k.form ≠ "must") : k.fmt.getLast? ≠ some 33 := by
  cases k with
  | nm s => exact name_bang h
  | ls k =>
    show (91 :: (k.fmt ++ [93])).getLast? ≠ some 33
    rw [← List.cons_append, last_snoc]
    decide
  | mu k => exact absurd rfl hf
theorem round : ∀ (k : Kd) (m : Nat), k.wf → k.nl ≤ m → (k.form ≠ "must" → pB m k.fmt = some k) ∧ pN m k.fmt = some k
  | .nm s, m, h, _ => by
    have e : pB m (cs s) = some (.nm s) := by
      have hn : nameL (cs s) = true := h
      cases m with
      | zero =>
        unfold pB
        rw [if_pos hn, mk_cs]
      | succ m =>
        unfold pB
        rw [if_neg fun z => name_close hn z.2, if_pos hn, mk_cs]
    refine ⟨fun _ => e, ?_⟩
    unfold pN
    rw [if_neg (fmt_last (.nm s) h (by show ¬ ("name" : Str) = "must"; decide))]
    exact e
  | .ls k, m, h, hm => by
    have hm' : k.nl + 1 ≤ m := hm
    obtain ⟨m, rfl⟩ : ∃ n, m = n + 1 := ⟨m - 1, by omega⟩
    have ih := (round k m h (by omega)).2
    have e : pB (m + 1) (91 :: (k.fmt ++ [93])) = some (.ls k) := by
      unfold pB
      rw [if_pos ⟨rfl, by rw [← List.cons_append, last_snoc]⟩, List.drop_one, List.tail_cons, List.dropLast_concat]
      have e2 : (if k.fmt.getLast? = some 33 then (pB m k.fmt.dropLast).map Kd.mu else pB m k.fmt) = pN m k.fmt := rfl
      rw [e2, ih]
      rfl
    refine ⟨fun _ => e, ?_⟩
    unfold pN
    rw [if_neg (fmt_last (.ls k) h (by show ¬ ("list" : Str) = "must"; decide))]
    exact e
  | .mu k, m, h, hm => by
    refine ⟨fun z => absurd rfl z, ?_⟩
    have ih := (round k m h.1 hm).1 h.2
    unfold pN
    show (if (k.fmt ++ [33]).getLast? = some 33 then (pB m (k.fmt ++ [33]).dropLast).map Kd.mu else pB m (k.fmt ++ [33])) = some (.mu k)
    rw [last_snoc, if_pos rfl, List.dropLast_concat, ih]
    rfl
theorem name_strok {s : Str} (h : nameS s = true) : PyData.strOk s = true := by
  unfold PyData.strOk
  rw [all_cs, List.all_eq_true]
  intro x hx
  unfold nameS at h
  cases e : cs s with
  | nil =>
    rw [e] at hx
    cases hx
  | cons c r =>
    rw [e] at h hx
    have h2 : (decide (r.length ≤ 29) && isLet c && (c :: r).all isNam) = true := h
    simp only [Bool.and_eq_true] at h2
    have := isNam_lt (List.all_eq_true.mp h2.2 x hx)
    exact decide_eq_true (by omega)
theorem enc_fit : ∀ k : Kd, k.wf → k.enc.fit = true
  | .nm s, h => by
    simp only [Kd.enc, D.fit, D.fitA, name_strok h]
    decide +kernel
  | .ls k, h => by
    simp only [Kd.enc, D.fit, D.fitA, enc_fit k h]
    decide +kernel
  | .mu k, h => by
    simp only [Kd.enc, D.fit, D.fitA, enc_fit k h.1]
    decide +kernel
theorem enc_dep : ∀ k : Kd, k.enc.dep ≤ k.dep + 1
  | .nm s => by simp [Kd.enc, D.dep, D.depA, Kd.dep]
  | .ls k => by
    have := enc_dep k
    simp only [Kd.enc, D.dep, D.depA, Kd.dep]
    omega
  | .mu k => by
    have := enc_dep k
    simp only [Kd.enc, D.dep, D.depA, Kd.dep]
    omega
def isMu : Kd → Nat
  | .mu _ => 1
  | _ => 0
theorem isMu_of {k : Kd} (h : k.form ≠ "must") : isMu k = 0 := by
  cases k with
  | nm _ => rfl
  | ls _ => rfl
  | mu k => exact absurd rfl h
theorem isMu_le (k : Kd) : isMu k ≤ 1 := by cases k <;> simp [isMu]
theorem wf_sizes : ∀ k : Kd, k.wf → k.dep ≤ 2 * k.nl + isMu k ∧ k.fmt.length ≤ k.base.length + 3 * k.nl + isMu k
  | .nm s, _ => by
    refine ⟨Nat.le_refl _, ?_⟩
    show (cs s).length ≤ s.length + 3 * 0 + 0
    rw [cs_len]
    omega
  | .ls k, h => by
    have ih := wf_sizes k h
    have := isMu_le k
    simp only [Kd.dep, Kd.nl, Kd.fmt, Kd.base, isMu, List.length_cons, List.length_append, List.length_nil]
    omega
  | .mu k, h => by
    have ih := wf_sizes k h.1
    have := isMu_of h.2
    simp only [Kd.dep, Kd.nl, Kd.fmt, Kd.base, isMu, List.length_cons, List.length_append, List.length_nil]
    omega
theorem enc_ok {k : Kd} (h : k.wf) (hn : k.nl ≤ 20) : k.enc.ok := by
  have h1 := wf_sizes k h
  have h2 := enc_dep k
  have h3 := isMu_le k
  exact ⟨enc_fit k h, by omega⟩
theorem pB_wf : ∀ (m : Nat) (l : List Nat) (k : Kd), pB m l = some k → k.wf ∧ k.nl ≤ m ∧ k.form ≠ "must"
  | 0, l, k, h => by
    unfold pB at h
    split at h
    · rename_i hn
      cases h
      exact ⟨hn, Nat.le_refl _, by show ¬ ("name" : Str) = "must"; decide⟩
    · cases h
  | m + 1, l, k, h => by
    unfold pB at h
    split at h
    · obtain ⟨k', hk, rfl⟩ := Option.map_eq_some_iff.mp h
      split at hk
      · obtain ⟨k2, hk2, rfl⟩ := Option.map_eq_some_iff.mp hk
        have ih := pB_wf m _ k2 hk2
        exact ⟨⟨ih.1, ih.2.2⟩, Nat.succ_le_succ ih.2.1, by show ¬ ("list" : Str) = "must"; decide⟩
      · have ih := pB_wf m _ k' hk
        exact ⟨ih.1, Nat.succ_le_succ ih.2.1, by show ¬ ("list" : Str) = "must"; decide⟩
    · split at h
      · rename_i hn
        cases h
        exact ⟨hn, Nat.zero_le _, by show ¬ ("name" : Str) = "must"; decide⟩
      · cases h
theorem pN_wf {m : Nat} {l : List Nat} {k : Kd} (h : pN m l = some k) : k.wf ∧ k.nl ≤ m := by
  unfold pN at h
  split at h
  · obtain ⟨k', hk, rfl⟩ := Option.map_eq_some_iff.mp h
    have ih := pB_wf m _ k' hk
    exact ⟨⟨ih.1, ih.2.2⟩, ih.2.1⟩
  · have ih := pB_wf m _ k h
    exact ⟨ih.1, ih.2.1⟩
theorem encO_ok {m : Nat} {l : List Nat} (hm : m ≤ 20) : (encO (pN m l)).ok := by
  cases h : pN m l with
  | none => exact ⟨rfl, Nat.zero_le _⟩
  | some k =>
    have := pN_wf h
    exact enc_ok this.1 (by omega)
end K1
set_option Elab.async false
set_option linter.all false
set_option maxRecDepth 100000
set_option maxHeartbeats 4000000
namespace K1
open PySem L2 Dl
local macro_rules | `(tactic| walk_at "dw") => `(tactic| simp only [wSB, wSB1, wVar, wC, wOp, wB, wNotT, wAndT, wOrT, wAndV, wOrV, wNotV, wIfE, wChain, wNil, wCons, wTup, wLst, wNext, wSeq, wSet, wAsg, wDrop, wRet, wRetN, wBrk, wCont, wIf, wiL, wiT, wiR, wFor, wCall0, wCall, wCB, wM0, wM1, wNo, wPart, wSl, wYes, wLc, wipeD, wNeg, wTru, wFmt, wJoined, wJs, wRaise1, wStw, wiS, wNameEnd, wgName, wgNil, wgCons, wgTup,
  Sl.V, D.I, D.B, D.S, D.L, D.T, D.K, D.len, D.tru, rdI, rdI0, rdLt, rdLe, rdGt, rdGe, rdEq, rdNe, eqS, rdIsN, rdNotN, rdAdd, rdIx, rdSl, rdInS, rdLen, rdOrd, rdAll, rdAny, rdIsi, rdFmt, rdJoin, rdCint, tyN, ρ0, List.map_cons, List.map_nil, List.length_cons, List.length_nil, List.replicate, List.append, List.cons_append, List.nil_append, List.getElem?_cons_zero, List.getElem?_cons_succ, List.set_cons_zero, List.set_cons_succ, Nat.add_sub_cancel, Nat.sub_self, Nat.zero_add, Nat.reduceAdd, Nat.reduceSub, if_true, if_false, true_and, and_true, decide_true, decide_false, s_nm, s_nl, s_lm, s_ln, s_ml, s_mn, true_or, or_true, ia_NoneType_bool, ia_NoneType_int, ia_NoneType_str, ia_NoneType_list, ia_NoneType_tuple, ia_NoneType_dict, ia_bool_bool, ia_bool_int, ia_bool_str, ia_bool_list, ia_bool_tuple, ia_bool_dict, ia_int_bool, ia_int_int, ia_int_str, ia_int_list, ia_int_tuple, ia_int_dict, ia_str_bool, ia_str_int, ia_str_str, ia_str_list, ia_str_tuple, ia_str_dict, ia_list_bool, ia_list_int, ia_list_str, ia_list_list, ia_list_tuple, ia_list_dict, ia_tuple_bool, ia_tuple_int, ia_tuple_str, ia_tuple_list, ia_tuple_tuple, ia_tuple_dict, ia_dict_bool, ia_dict_int, ia_dict_str, ia_dict_list, ia_dict_tuple, ia_dict_dict, inT_bool, inT_int, inT_str, inT_list, inT_tuple, inT_dict, Bool.not_eq_true, Bool.not_true, Bool.not_false, Bool.false_eq_true, ite_false, ite_true, reduceCtorEq])
local macro_rules | `(tactic| walk_at "dv") => `(tactic| simp only [wSB, wSB1, wVar, wC, wOp, wB, wNotT, wAndT, wOrT, wAndV, wOrV, wNotV, wIfE, wChain, wNil, wCons, wTup, wLst, wNext, wSeq, wSet, wAsg, wDrop, wRet, wRetN, wBrk, wCont, wIf, wiL, wiT, wiR, wFor, wCall0, wCall, wCB, wM0, wM1, wNo, wPart, wSl, wYes, wLc, wipeD, wNeg, wTru, wFmt, wJoined, wJs, wRaise1, wStw, wiS, wNameEnd, wgName, wgNil, wgCons, wgTup,
  Sl.V, D.I, D.B, D.S, D.L, D.T, D.K, D.len, D.tru, rdI, rdI0, rdLt, rdLe, rdGt, rdGe, rdIsN, rdNotN, rdAdd, rdIx, rdSl, rdInS, rdLen, rdOrd, rdAll, rdAny, rdIsi, rdFmt, rdJoin, rdCint, tyN, ρ0, List.map_cons, List.map_nil, List.length_cons, List.length_nil, List.replicate, List.append, List.cons_append, List.nil_append, List.getElem?_cons_zero, List.getElem?_cons_succ, List.set_cons_zero, List.set_cons_succ, Nat.add_sub_cancel, Nat.sub_self, Nat.zero_add, Nat.reduceAdd, Nat.reduceSub, if_true, if_false, true_and, and_true, decide_true, decide_false, s_nm, s_nl, s_lm, s_ln, s_ml, s_mn, true_or, or_true, ia_NoneType_bool, ia_NoneType_int, ia_NoneType_str, ia_NoneType_list, ia_NoneType_tuple, ia_NoneType_dict, ia_bool_bool, ia_bool_int, ia_bool_str, ia_bool_list, ia_bool_tuple, ia_bool_dict, ia_int_bool, ia_int_int, ia_int_str, ia_int_list, ia_int_tuple, ia_int_dict, ia_str_bool, ia_str_int, ia_str_str, ia_str_list, ia_str_tuple, ia_str_dict, ia_list_bool, ia_list_int, ia_list_str, ia_list_list, ia_list_tuple, ia_list_dict, ia_tuple_bool, ia_tuple_int, ia_tuple_str, ia_tuple_list, ia_tuple_tuple, ia_tuple_dict, ia_dict_bool, ia_dict_int, ia_dict_str, ia_dict_list, ia_dict_tuple, ia_dict_dict, inT_bool, inT_int, inT_str, inT_list, inT_tuple, inT_dict, Bool.not_eq_true, Bool.not_true, Bool.not_false, Bool.false_eq_true, ite_false, ite_true, reduceCtorEq])
/-! ### the law -/
theorem good_take {s : Str} (h : good s) : nameS (cutS s none (some 30)) = true := by
  obtain ⟨c, r, e, h1, h2, _⟩ := h
  have e1 : cs (cutS s none (some (30 : Int))) = c :: r.take 29 := by
    have := cut_take s 30
    rw [e] at this
    exact this
  unfold nameS
  rw [e1]
  show (decide ((r.take 29).length ≤ 29) && isLet c && (c :: r.take 29).all isNam) = true
  rw [h1, List.all_cons, let_nam h1, decide_eq_true (by rw [List.length_take]; omega)]
  show (r.take 29).all isNam = true
  rw [List.all_eq_true] at h2 ⊢
  exact fun x hx => h2 x (List.mem_of_mem_take hx)
theorem name_le {s : Str} (h : nameS s = true) : s.length ≤ 30 := by
  unfold nameS at h
  rw [← cs_len]
  cases e : cs s with
  | nil => exact Nat.zero_le _
  | cons c r =>
    rw [e] at h
    have h2 : (decide (r.length ≤ 29) && isLet c && (c :: r).all isNam) = true := h
    simp only [Bool.and_eq_true, decide_eq_true_eq] at h2
    rw [List.length_cons]
    omega
theorem good_len {s : Str} (h : good s) : s.length ≤ 32 := by
  obtain ⟨c, r, e, _, _, h3⟩ := h
  rw [← cs_len, e, List.length_cons]
  omega
theorem has_nl : ∀ k : Kd, k.hasL = decide (0 < (k.nl : Int))
  | .nm _ => rfl
  | .ls k => by
    show true = _
    exact (decide_eq_true (by show (0 : Int) < ((k.nl + 1 : Nat) : Int); omega)).symm
  | .mu k => has_nl k
/-- the first loop: lists and marks around the name -/
theorem loop1 {d : DEnds} {ns : List Int} {s t0 : Str} (CONT : ∀ (K : Kd) (sl : Sl), K.wf → K.base = t0 → K.nl ≤ 5 →
      d.nx [.val (.scr ns), .val .drw, .val (.str s), .val K.enc, .val (.str (mk K.fmt)), .val (.int K.nl), sl, .un, .un, .un, .un, .un, .un]) (ht : t0.length ≤ 30) :
    ∀ (xs : List D) (K : Kd) (sl : Sl), K.wf → K.base = t0 → K.nl + xs.length ≤ 5 →
      wForL (wgName 6) W_law_b1 xs d [.val (.scr ns), .val .drw, .val (.str s), .val K.enc, .val (.str (mk K.fmt)), .val (.int K.nl), sl, .un, .un, .un, .un, .un, .un]
  | [], K, sl, h1, h2, h3 => CONT K sl h1 h2 h3
  | x :: xs, K, sl, h1, h2, h3 => by
    unfold wForL W_law_b1
    walk_at "dw"
    rw [List.length_cons] at h3
    have hz := wf_sizes K h1
    rw [h2] at hz
    have hmu := isMu_le K
    have e1 : (mk K.fmt).length = K.fmt.length := by rw [← cs_len, cs_mk]
    have l1 : ("[" : Str).length = 1 := rfl
    have l2 : ("]" : Str).length = 1 := rfl
    have l3 : ("!" : Str).length = 1 := rfl
    have ls : wForL (wgName 6) W_law_b1 xs d [.val (.scr ns), .val .drw, .val (.str s), .val (Kd.ls K).enc, .val (.str (mk (Kd.ls K).fmt)), .val (.int ((Kd.ls K).nl : Nat)), .val x, .un, .un, .un, .un, .un, .un] :=
      loop1 CONT ht xs (.ls K) (.val x) h1 h2 (by show K.nl + 1 + xs.length ≤ 5; omega)
    have f1 : ("[" : Str) ++ mk K.fmt ++ ("]" : Str) = mk (Kd.ls K).fmt := by
      apply cs_inj
      rw [cs_app, cs_app, cs_mk, cs_mk]
      rfl
    have plain_way : 2 ≤ 100000 ∧ ("[" : Str).length + (mk K.fmt).length ≤ 1000000 ∧ (("[" : Str) ++ mk K.fmt).length + ("]" : Str).length ≤ 1000000 ∧
        wForL (wgName 6) W_law_b1 xs d [.val (.scr ns), .val .drw, .val (.str s), .val (.tup [.str "list", K.enc]), .val (.str (("[" : Str) ++ mk K.fmt ++ ("]" : Str))), .val (.int ((K.nl : Int) + 1)), .val x, .un, .un, .un, .un, .un, .un] := by
      refine ⟨by decide, by omega, by rw [len_app]; omega, ?_⟩
      rw [f1]
      exact ls
    refine ⟨ns, 2, rfl, by decide, by decide, fun c hc0 hc1 => ?_⟩
    walk_at "dw"
    by_cases hc : c = 1
    · rw [decide_eq_true hc]
      walk_at "dw"
      rw [enc_eq]
      walk_at "dw"
      rw [at0]
      walk_at "dw"
      by_cases hf : K.form = "must"
      · rw [decide_eq_true hf]
        walk_at "dw"
        rw [← enc_eq]
        exact plain_way
      · rw [decide_eq_false hf]
        walk_at "dw"
        rw [← enc_eq]
        have f2 : mk K.fmt ++ ("!" : Str) = mk (Kd.mu K).fmt := by
          apply cs_inj
          rw [cs_app, cs_mk, cs_mk]
          rfl
        have f3 : ("[" : Str) ++ mk (Kd.mu K).fmt ++ ("]" : Str) = mk (Kd.ls (.mu K)).fmt := by
          apply cs_inj
          rw [cs_app, cs_app, cs_mk, cs_mk]
          rfl
        have e2 : (mk (Kd.mu K).fmt).length = K.fmt.length + 1 := by rw [← f2, len_app, e1, l3]
        refine ⟨by decide, by omega, by decide, ?_⟩
        rw [f2, f3]
        refine ⟨by omega, by rw [len_app]; omega, ?_⟩
        exact loop1 CONT ht xs (.ls (.mu K)) (.val x) ⟨h1, hf⟩ h2 (by show K.nl + 1 + xs.length ≤ 5; omega)
    · rw [decide_eq_false hc]
      walk_at "dw"
      exact plain_way
theorem at3 (a b c : D) (i : Int) (h0 : 0 ≤ i) (h1 : i < 3) : ∃ d, atI [a, b, c] i = some d ∧ (d = a ∨ d = b ∨ d = c) := by
  have : i = 0 ∨ i = 1 ∨ i = 2 := by omega
  rcases this with rfl | rfl | rfl
  · exact ⟨a, rfl, .inl rfl⟩
  · exact ⟨b, rfl, .inr (.inl rfl)⟩
  · exact ⟨c, rfl, .inr (.inr rfl)⟩
/-- the second loop: the text is changed -/
theorem loop2 {d : DEnds} {ns : List Int} {s : Str} {kd : D} {cnt : Int} (CONT : ∀ (t : Str) (a b c : Sl), t.length ≤ 100 →
      d.nx [.val (.scr ns), .val .drw, .val (.str s), .val kd, .val (.str t), .val (.int cnt), a, b, c, .un, .un, .un, .un]) :
    ∀ (xs : List D) (t : Str) (a b c : Sl), t.length + 2 * xs.length ≤ 100 →
      wForL (wgName 6) W_law_b2 xs d [.val (.scr ns), .val .drw, .val (.str s), .val kd, .val (.str t), .val (.int cnt), a, b, c, .un, .un, .un, .un]
  | [], t, a, b, c, h => CONT t a b c (by rw [List.length_nil] at h; omega)
  | x :: xs, t, a, b, c, h => by
    unfold wForL W_law_b2
    walk_at "dw"
    rw [List.length_cons] at h
    rw [if_pos (show t.length ≤ 1000000 by omega)]
    walk_at "dw"
    refine ⟨ns, (t.length : Int) + 1, rfl, by omega, by omega, fun at' ha0 ha1 => ?_⟩
    refine ⟨ns, _, rfl, by decide, by decide, fun ch hch => ?_⟩
    walk_at "dw"
    have lc : (⟨#[ch]⟩ : Str).length = 1 := rfl
    obtain ⟨j, rfl⟩ : ∃ j : Nat, at' = (j : Int) := ⟨at'.toNat, by omega⟩
    refine ⟨by omega, ?_⟩
    refine ⟨by rw [lc]; decide, by decide, ns, 3, rfl, by decide, by decide, fun i hi0 hi1 => ?_⟩
    obtain ⟨dd, hd, hor⟩ := at3 (D.str ⟨#[ch]⟩) (D.str "") (D.str ((⟨#[ch]⟩ : Str) ++ ⟨#[ch]⟩)) i hi0 hi1
    have hy : ∃ y : Str, dd = .str y ∧ y.length ≤ 2 := by
      rcases hor with e | e | e
      · exact ⟨_, e, by rw [lc]; decide⟩
      · exact ⟨_, e, by decide⟩
      · exact ⟨_, e, by rw [len_app, lc]; decide⟩
    obtain ⟨y, rfl, hy⟩ := hy
    walk_at "dw"
    rw [hd]
    walk_at "dw"
    have q1 : (cutS t none (some (j : Int))).length ≤ j := by
      rw [← cs_len, cut_take, List.length_take]
      omega
    refine ⟨by omega, ns, 2, rfl, by decide, by decide, fun b2 hb0 hb1 => ?_⟩
    walk_at "dw"
    obtain ⟨k, rfl⟩ : ∃ k : Nat, b2 = (k : Int) := ⟨b2.toNat, by omega⟩
    have q2 : (cutS t (some ((j : Int) + (k : Int))) none).length = t.length - (j + k) := by
      rw [← cs_len, show (j : Int) + (k : Int) = ((j + k : Nat) : Int) by omega, cut_drop, List.length_drop, cs_len]
    refine ⟨by omega, by rw [len_app, q2]; omega, ?_⟩
    exact loop2 CONT xs _ _ _ _ (by rw [len_app, len_app, q2]; omega)
/-- the third loop: names -/
theorem loop3 {d : DEnds} {a0 a1 a2 a3 a4 a5 a6 a7 a8 a10 a11 a12 : Sl} (CONT : ∀ sl : Sl, d.nx [a0, a1, a2, a3, a4, a5, a6, a7, a8, sl, a10, a11, a12]) :
    ∀ (xs : List D) (sl : Sl), (∀ x ∈ xs, ∃ z : Str, x = .str z ∧ z.length ≤ 1000) → wForL (wgName 9) W_law_b3 xs d [a0, a1, a2, a3, a4, a5, a6, a7, a8, sl, a10, a11, a12]
  | [], sl, _ => CONT sl
  | x :: xs, sl, h => by
    obtain ⟨z, rfl, hz⟩ := h x List.mem_cons_self
    have ih := loop3 CONT xs (.val (.str z)) fun y hy => h y (List.mem_cons_of_mem _ hy)
    unfold wForL W_law_b3
    walk_at "dw"
    refine ⟨z, rfl, hz, z, rfl, hz, ?_⟩
    walk_at "dw"
    exact ⟨z, rfl, hz, ih⟩
/-- the fourth and fifth: scalars and values -/
def vOk (x : D) : Prop := (∃ t, tyN x = some t) ∧ ∀ s, x = .str s → s.length ≤ 1000
theorem loop5 {d : DEnds} {a0 a1 a2 a3 a4 a5 a6 a7 a8 a9 a10 : Sl} {sc : Str} (hsc : sc = "Int" ∨ sc = "Text" ∨ sc = "Truth") (CONT : ∀ sl : Sl, d.nx [a0, a1, a2, a3, a4, a5, a6, a7, a8, a9, a10, .val (.str sc), sl]) :
    ∀ (xs : List D) (sl : Sl), (∀ x ∈ xs, vOk x) → wForL (wgName 12) W_law_b4 xs d [a0, a1, a2, a3, a4, a5, a6, a7, a8, a9, a10, .val (.str sc), sl]
  | [], sl, _ => CONT sl
  | x :: xs, sl, h => by
    obtain ⟨h1, h2⟩ := h x List.mem_cons_self
    have ih := loop5 hsc CONT xs (.val x) fun y hy => h y (List.mem_cons_of_mem _ hy)
    unfold wForL W_law_b4
    walk_at "dw"
    refine ⟨sc, x, rfl, h1, h2, sc, x, rfl, hsc, h1, h2, ?_⟩
    walk_at "dw"
    exact ⟨sc, x, rfl, h1, h2, ih⟩
def edges : List D := [.non, .bl true, .bl false, .int 0, .int (-2147483648), .int (-2147483649), .int 2147483647, .int 2147483648, .str "", .str " ~", .str "\n", .lst [], .lst [.int 1], .tup [.str "ref", .str "A", .int 1], .dic []]
theorem edges_ok : ∀ x ∈ edges, vOk x := by
  intro x hx
  unfold edges at hx
  simp only [List.mem_cons, List.not_mem_nil, or_false] at hx
  rcases hx with rfl | rfl | rfl | rfl | rfl | rfl | rfl | rfl | rfl | rfl | rfl | rfl | rfl | rfl | rfl
  all_goals first
    | exact ⟨⟨_, rfl⟩, fun s e => by injection e with e; subst e; decide⟩
    | exact ⟨⟨_, rfl⟩, fun s e => nomatch e⟩
theorem loop4 {d : DEnds} {ns : List Int} {t : Str} {a2 a3 a5 a6 a7 a8 a9 : Sl} (ht : t.length ≤ 1000) (CONT : ∀ sl sl' : Sl, d.nx [.val (.scr ns), .val .drw, a2, a3, .val (.str t), a5, a6, a7, a8, a9, .val (.lst edges), sl, sl']) :
    ∀ (xs : List D) (sl sl' : Sl), (∀ x ∈ xs, ∃ sc : Str, x = .str sc ∧ (sc = "Int" ∨ sc = "Text" ∨ sc = "Truth")) →
      wForL (wgName 11) W_law_b5 xs d [.val (.scr ns), .val .drw, a2, a3, .val (.str t), a5, a6, a7, a8, a9, .val (.lst edges), sl, sl']
  | [], sl, sl', _ => CONT sl sl'
  | x :: xs, sl, sl', h => by
    obtain ⟨sc, rfl, hsc⟩ := h x List.mem_cons_self
    have ih := fun sl2 => loop4 ht CONT xs (.val (.str sc)) sl2 fun y hy => h y (List.mem_cons_of_mem _ hy)
    unfold wForL W_law_b5
    walk_at "dw"
    refine ⟨⟨by decide, by decide, by decide⟩, ns, _, rfl, by decide, by decide, fun dr h0 h1 => ?_⟩
    refine ⟨by decide, by decide, ?_⟩
    refine loop5 hsc (fun sl2 => ih sl2) _ _ fun x hx => ?_
    rcases List.mem_append.mp hx with hx | hx
    · exact edges_ok x hx
    · simp only [List.mem_cons, List.not_mem_nil, or_false] at hx
      rcases hx with rfl | rfl
      · exact ⟨⟨_, rfl⟩, fun s e => nomatch e⟩
      · exact ⟨⟨_, rfl⟩, fun s e => by injection e with e; subst e; exact ht⟩
abbrev dL : DEnds := { nx := fun _ => False, rt := fun d => d = .bl true }
theorem law_12 {ns : List Int} {t : Str} {a2 a3 a5 a6 a7 a8 a9 sl sl' : Sl} (ht : t.length ≤ 1000) : W_law_s12 dL [.val (.scr ns), .val .drw, a2, a3, .val (.str t), a5, a6, a7, a8, a9, .val (.lst edges), sl, sl'] := by
  unfold W_law_s12
  walk_at "dw"
  refine ⟨by decide, ?_⟩
  refine loop4 ht (fun sl sl' => ?_) _ _ _ fun x hx => ?_
  · unfold W_law_s13
    walk_at "dw"
  · simp only [List.mem_cons, List.not_mem_nil, or_false] at hx
    rcases hx with rfl | rfl | rfl
    · exact ⟨_, rfl, .inl rfl⟩
    · exact ⟨_, rfl, .inr (.inl rfl)⟩
    · exact ⟨_, rfl, .inr (.inr rfl)⟩
theorem law_9 {ns : List Int} {s t : Str} {a3 a5 a6 a7 a8 a9 a10 a11 a12 : Sl} (hs : s.length ≤ 32) (ht : t.length ≤ 100) : W_law_s9 dL [.val (.scr ns), .val .drw, .val (.str s), a3, .val (.str t), a5, a6, a7, a8, a9, a10, a11, a12] := by
  unfold W_law_s9
  walk_at "dv"
  refine ⟨t, rfl, by omega, t, 5, rfl, by omega, by omega, by decide, ?_⟩
  refine ne_same (encO_ok (by decide)) ?_
  walk_at "dv"
  unfold W_law_s10
  walk_at "dw"
  have l1 : ("_" : Str).length = 1 := rfl
  refine ⟨by omega, by decide, ?_⟩
  refine loop3 (fun sl => ?_) _ _ fun x hx => ?_
  · unfold W_law_s11
    walk_at "dw"
    refine ⟨by decide, by decide, by decide, by decide, ?_⟩
    exact law_12 (by omega)
  · simp only [List.mem_cons, List.not_mem_nil, or_false] at hx
    rcases hx with rfl | rfl | rfl | rfl | rfl
    · exact ⟨_, rfl, by omega⟩
    · exact ⟨_, rfl, by omega⟩
    · exact ⟨_, rfl, by rw [len_app]; omega⟩
    · exact ⟨_, rfl, by decide⟩
    · exact ⟨_, rfl, by decide⟩
theorem law_6 {ns : List Int} {s t0 : Str} {K : Kd} {sl : Sl} (hs : s.length ≤ 32) (ht0 : cutS s none (some 30) = t0) (hl : t0.length ≤ 30) (h1 : K.wf) (h2 : K.base = t0) (h3 : K.nl ≤ 5) :
    W_law_s6 dL [.val (.scr ns), .val .drw, .val (.str s), .val K.enc, .val (.str (mk K.fmt)), .val (.int K.nl), sl, .un, .un, .un, .un, .un, .un] := by
  have hz := wf_sizes K h1
  rw [h2] at hz
  have hmu := isMu_le K
  have ek := enc_ok h1 (by omega)
  have e1 : (mk K.fmt).length = K.fmt.length := by rw [← cs_len, cs_mk]
  unfold W_law_s6
  walk_at "dv"
  refine ⟨mk K.fmt, rfl, by omega, ?_⟩
  rw [cs_mk, (round K 5 h1 h3).2]
  refine ne_same ek ?_
  walk_at "dv"
  refine ⟨K, rfl, by omega, by omega, ?_⟩
  have str_same : ∀ (z : Str) (Q : D → Prop), Q (.bl false) → rdNe (.str z) (.str z) Q := fun z Q q => by
    unfold rdNe
    simpa [eqS] using q
  refine str_same _ _ ?_
  walk_at "dv"
  refine ⟨K, rfl, by omega, ?_⟩
  rw [h2, ht0]
  refine str_same _ _ ?_
  walk_at "dv"
  unfold W_law_s7
  walk_at "dv"
  refine ⟨K, rfl, ?_⟩
  rw [has_nl K]
  have bl_same : ∀ (z : Bool) (Q : D → Prop), Q (.bl false) → rdNe (.bl z) (.bl z) Q := fun z Q q => by
    unfold rdNe
    simpa [eqS] using q
  refine bl_same _ _ ?_
  walk_at "dv"
  refine ⟨K, rfl, ?_⟩
  walk_at "dv"
  unfold W_law_s8
  walk_at "dv"
  refine ⟨ns, 3, rfl, by decide, by decide, fun n hn0 hn1 => ?_⟩
  walk_at "dv"
  refine ⟨⟨by omega, by omega⟩, ?_⟩
  refine loop2 (fun t a b c ht => law_9 hs ht) _ _ _ _ _ ?_
  unfold rngD
  rw [List.length_map, List.length_range]
  omega
theorem hw_law (ns : List Int) (h : ns.length ≤ 63) : W_law { nx := fun _ => False, rt := fun d => d = .bl true } (.val (.scr ns) :: .val .drw :: List.replicate ((["script", "state", "name", "kind", "text", "lists", "k", "at", "sign", "one", "edges", "scalar", "value"] : List Str).length - 2) .un) := by
  unfold W_law
  walk_at "dv"
  refine ⟨ns, rfl, fun s hs => ?_⟩
  have hl := good_len hs
  have hnm := good_take hs
  have hnl := name_le hnm
  unfold W_law_s1 W_law_s2 W_law_s3 W_law_s4
  walk_at "dv"
  refine ⟨by omega, by decide, by omega, ns, 6, rfl, by decide, by decide, fun n hn0 hn1 => ?_⟩
  walk_at "dv"
  refine ⟨⟨by omega, by omega⟩, ?_⟩
  generalize ht0 : cutS s none (some 30) = t0 at *
  have e0 : mk (Kd.nm t0).fmt = t0 := mk_cs t0
  have key := fun (d : DEnds) (CONT) => loop1 (d := d) (ns := ns) (s := s) (t0 := t0) CONT hnl (rngD n) (.nm t0) .un hnm rfl (by
    show 0 + (rngD n).length ≤ 5
    unfold rngD
    rw [List.length_map, List.length_range]
    omega)
  rw [e0] at key
  refine key _ fun K sl h1 h2 h3 => ?_
  have hz := wf_sizes K h1
  rw [h2] at hz
  have hmu := isMu_le K
  have e1 : (mk K.fmt).length = K.fmt.length := by rw [← cs_len, cs_mk]
  have l3 : ("!" : Str).length = 1 := rfl
  dsimp only
  unfold W_law_s5
  walk_at "dw"
  refine ⟨ns, 2, rfl, by decide, by decide, fun c hc0 hc1 => ?_⟩
  walk_at "dw"
  by_cases hc : c = 1
  · rw [decide_eq_true hc]
    walk_at "dw"
    rw [enc_eq]
    walk_at "dw"
    rw [at0]
    walk_at "dw"
    by_cases hf : K.form = "must"
    · rw [decide_eq_true hf]
      walk_at "dw"
      rw [← enc_eq]
      exact law_6 hl ht0 hnl h1 h2 h3
    · rw [decide_eq_false hf]
      walk_at "dw"
      rw [← enc_eq]
      have f2 : mk K.fmt ++ ("!" : Str) = mk (Kd.mu K).fmt := by
        apply cs_inj
        rw [cs_app, cs_mk, cs_mk]
        rfl
      refine ⟨by decide, by omega, ?_⟩
      rw [f2]
      exact law_6 (K := .mu K) hl ht0 hnl ⟨h1, hf⟩ h2 h3
  · rw [decide_eq_false hc]
    walk_at "dw"
    exact law_6 hl ht0 hnl h1 h2 h3
end K1
set_option Elab.async false
set_option linter.all false
set_option maxRecDepth 100000
set_option maxHeartbeats 4000000
namespace K1
open PySem PySem.Spec PyProof.Rows L2 Dl
def top (i : Nat) : Stmt := PySem.Challenge.pw_seamgraph_k01_types_and_names.main.body.getD i (.Pass ⟨0, 0, 0, 0⟩)
section
/-! ### the text by places, its names -/
abbrev s_is_name : Stmt := top 11
abbrev s_is_plain : Stmt := top 13
abbrev s_fits : Stmt := top 12
abbrev s_parse_nested : Stmt := top 15
abbrev s_parse_bare : Stmt := top 16
abbrev s_parse_type : Stmt := top 14
abbrev s_format_type : Stmt := top 17
abbrev s_base_of : Stmt := top 18
abbrev s_has_list : Stmt := top 19
abbrev s_l_is_integer : Stmt := top 21
abbrev s_l_refill : Stmt := top 22
abbrev s_l_draw : Stmt := top 23
abbrev s_l_pick : Stmt := top 24
abbrev s_l_name : Stmt := top 25
abbrev s_l_is_name : Stmt := top 26
abbrev s_l_parsed : Stmt := top 27
abbrev s_l_told : Stmt := top 28
abbrev s_l_fits : Stmt := top 29
abbrev s_law : Stmt := top 30
theorem sc_is_name : FnScope ["text"] ["text"] (defScope s_is_name) := ⟨rfl, rfl, rfl, by decide +kernel, rfl, by decide +kernel, by decide +kernel⟩
theorem sc_is_plain : FnScope ["code"] ["code"] (defScope s_is_plain) := ⟨rfl, rfl, rfl, by decide +kernel, rfl, by decide +kernel, by decide +kernel⟩
theorem sc_fits : FnScope ["scalar", "value", "sign"] ["scalar", "value"] (defScope s_fits) := ⟨rfl, rfl, rfl, by decide +kernel, rfl, by decide +kernel, by decide +kernel⟩
theorem sc_parse_nested : FnScope ["text", "depth"] ["text", "depth"] (defScope s_parse_nested) := ⟨rfl, rfl, rfl, by decide +kernel, rfl, by decide +kernel, by decide +kernel⟩
theorem sc_parse_bare : FnScope ["text", "depth"] ["text", "depth"] (defScope s_parse_bare) := ⟨rfl, rfl, rfl, by decide +kernel, rfl, by decide +kernel, by decide +kernel⟩
theorem sc_parse_type : FnScope ["text"] ["text"] (defScope s_parse_type) := ⟨rfl, rfl, rfl, by decide +kernel, rfl, by decide +kernel, by decide +kernel⟩
theorem sc_format_type : FnScope ["kind", "form", "inner"] ["kind"] (defScope s_format_type) := ⟨rfl, rfl, rfl, by decide +kernel, rfl, by decide +kernel, by decide +kernel⟩
theorem sc_base_of : FnScope ["kind", "form", "inner"] ["kind"] (defScope s_base_of) := ⟨rfl, rfl, rfl, by decide +kernel, rfl, by decide +kernel, by decide +kernel⟩
theorem sc_has_list : FnScope ["kind", "form", "inner"] ["kind"] (defScope s_has_list) := ⟨rfl, rfl, rfl, by decide +kernel, rfl, by decide +kernel, by decide +kernel⟩
theorem sc_l_is_integer : FnScope ["actual"] ["actual"] (defScope s_l_is_integer) := ⟨rfl, rfl, rfl, by decide +kernel, rfl, by decide +kernel, by decide +kernel⟩
theorem sc_l_refill : FnScope ["script", "k", "cell"] ["script", "k"] (defScope s_l_refill) := ⟨rfl, rfl, rfl, by decide +kernel, rfl, by decide +kernel, by decide +kernel⟩
theorem sc_l_draw : FnScope ["state", "script", "size", "digit"] ["state", "script", "size"] (defScope s_l_draw) := ⟨rfl, rfl, rfl, by decide +kernel, rfl, by decide +kernel, by decide +kernel⟩
theorem sc_l_pick : FnScope ["state", "script", "signs", "k"] ["state", "script", "signs"] (defScope s_l_pick) := ⟨rfl, rfl, rfl, by decide +kernel, rfl, by decide +kernel, by decide +kernel⟩
theorem sc_l_name : FnScope ["state", "script", "letters", "count", "k"] ["state", "script"] (defScope s_l_name) := ⟨rfl, rfl, rfl, by decide +kernel, rfl, by decide +kernel, by decide +kernel⟩
theorem sc_l_is_name : FnScope ["text", "letters", "sign"] ["text"] (defScope s_l_is_name) := ⟨rfl, rfl, rfl, by decide +kernel, rfl, by decide +kernel, by decide +kernel⟩
theorem sc_l_parsed : FnScope ["text", "depth", "inner"] ["text", "depth"] (defScope s_l_parsed) := ⟨rfl, rfl, rfl, by decide +kernel, rfl, by decide +kernel, by decide +kernel⟩
theorem sc_l_told : FnScope ["text", "e"] ["text"] (defScope s_l_told) := ⟨rfl, rfl, rfl, by decide +kernel, rfl, by decide +kernel, by decide +kernel⟩
theorem sc_l_fits : FnScope ["scalar", "value", "sign"] ["scalar", "value"] (defScope s_l_fits) := ⟨rfl, rfl, rfl, by decide +kernel, rfl, by decide +kernel, by decide +kernel⟩
theorem sc_law : FnScope ["script", "state", "name", "kind", "text", "lists", "k", "at", "sign", "one", "edges", "scalar", "value"] ["script"] (defScope s_law) := ⟨rfl, rfl, rfl, by decide +kernel, rfl, by decide +kernel, by decide +kernel⟩
structure Tx (K : PySem.W.Frag) (mg : Str → Option Value) where
  a_is_name : Addr
  d_is_name : FuncData
  F_is_name : Fun K "is_name" "is_name" s_is_name a_is_name d_is_name
  b_is_name : Binds K d_is_name ["text"] []
  m_is_name : mg "is_name" = some (.ref a_is_name)
  a_is_plain : Addr
  d_is_plain : FuncData
  F_is_plain : Fun K "_is_plain" "_is_plain" s_is_plain a_is_plain d_is_plain
  b_is_plain : Binds K d_is_plain ["code"] []
  m_is_plain : mg "_is_plain" = some (.ref a_is_plain)
  a_fits : Addr
  d_fits : FuncData
  F_fits : Fun K "fits" "fits" s_fits a_fits d_fits
  b_fits : Binds K d_fits ["scalar", "value"] []
  m_fits : mg "fits" = some (.ref a_fits)
  a_parse_nested : Addr
  d_parse_nested : FuncData
  F_parse_nested : Fun K "_parse_nested" "_parse_nested" s_parse_nested a_parse_nested d_parse_nested
  b_parse_nested : Binds K d_parse_nested ["text", "depth"] []
  m_parse_nested : mg "_parse_nested" = some (.ref a_parse_nested)
  a_parse_bare : Addr
  d_parse_bare : FuncData
  F_parse_bare : Fun K "_parse_bare" "_parse_bare" s_parse_bare a_parse_bare d_parse_bare
  b_parse_bare : Binds K d_parse_bare ["text", "depth"] []
  m_parse_bare : mg "_parse_bare" = some (.ref a_parse_bare)
  a_parse_type : Addr
  d_parse_type : FuncData
  F_parse_type : Fun K "parse_type" "parse_type" s_parse_type a_parse_type d_parse_type
  b_parse_type : Binds K d_parse_type ["text"] []
  m_parse_type : mg "parse_type" = some (.ref a_parse_type)
  a_format_type : Addr
  d_format_type : FuncData
  F_format_type : Fun K "format_type" "format_type" s_format_type a_format_type d_format_type
  b_format_type : Binds K d_format_type ["kind"] []
  m_format_type : mg "format_type" = some (.ref a_format_type)
  a_base_of : Addr
  d_base_of : FuncData
  F_base_of : Fun K "base_of" "base_of" s_base_of a_base_of d_base_of
  b_base_of : Binds K d_base_of ["kind"] []
  m_base_of : mg "base_of" = some (.ref a_base_of)
  a_has_list : Addr
  d_has_list : FuncData
  F_has_list : Fun K "has_list" "has_list" s_has_list a_has_list d_has_list
  b_has_list : Binds K d_has_list ["kind"] []
  m_has_list : mg "has_list" = some (.ref a_has_list)
  a_l_is_integer : Addr
  d_l_is_integer : FuncData
  F_l_is_integer : Fun K "_law_is_integer" "_law_is_integer" s_l_is_integer a_l_is_integer d_l_is_integer
  b_l_is_integer : Binds K d_l_is_integer ["actual"] []
  m_l_is_integer : mg "_law_is_integer" = some (.ref a_l_is_integer)
  a_l_refill : Addr
  d_l_refill : FuncData
  F_l_refill : Fun K "_law_refill" "_law_refill" s_l_refill a_l_refill d_l_refill
  b_l_refill : Binds K d_l_refill ["script", "k"] []
  m_l_refill : mg "_law_refill" = some (.ref a_l_refill)
  a_l_draw : Addr
  d_l_draw : FuncData
  F_l_draw : Fun K "_law_draw" "_law_draw" s_l_draw a_l_draw d_l_draw
  b_l_draw : Binds K d_l_draw ["state", "script", "size"] []
  m_l_draw : mg "_law_draw" = some (.ref a_l_draw)
  a_l_pick : Addr
  d_l_pick : FuncData
  F_l_pick : Fun K "_law_pick" "_law_pick" s_l_pick a_l_pick d_l_pick
  b_l_pick : Binds K d_l_pick ["state", "script", "signs"] []
  m_l_pick : mg "_law_pick" = some (.ref a_l_pick)
  a_l_name : Addr
  d_l_name : FuncData
  F_l_name : Fun K "_law_name" "_law_name" s_l_name a_l_name d_l_name
  b_l_name : Binds K d_l_name ["state", "script"] []
  m_l_name : mg "_law_name" = some (.ref a_l_name)
  a_l_is_name : Addr
  d_l_is_name : FuncData
  F_l_is_name : Fun K "_law_is_name" "_law_is_name" s_l_is_name a_l_is_name d_l_is_name
  b_l_is_name : Binds K d_l_is_name ["text"] []
  m_l_is_name : mg "_law_is_name" = some (.ref a_l_is_name)
  a_l_parsed : Addr
  d_l_parsed : FuncData
  F_l_parsed : Fun K "_law_parsed" "_law_parsed" s_l_parsed a_l_parsed d_l_parsed
  b_l_parsed : Binds K d_l_parsed ["text", "depth"] []
  m_l_parsed : mg "_law_parsed" = some (.ref a_l_parsed)
  a_l_told : Addr
  d_l_told : FuncData
  F_l_told : Fun K "_law_told" "_law_told" s_l_told a_l_told d_l_told
  b_l_told : Binds K d_l_told ["text"] []
  m_l_told : mg "_law_told" = some (.ref a_l_told)
  a_l_fits : Addr
  d_l_fits : FuncData
  F_l_fits : Fun K "_law_fits" "_law_fits" s_l_fits a_l_fits d_l_fits
  b_l_fits : Binds K d_l_fits ["scalar", "value"] []
  m_l_fits : mg "_law_fits" = some (.ref a_l_fits)
  a_law : Addr
  d_law : FuncData
  F_law : Fun K "law" "law" s_law a_law d_law
  b_law : Binds K d_law ["script"] []
  m_law : mg "law" = some (.ref a_law)
  t_LONGEST_NAME : Tok
  c_LONGEST_NAME : mg "LONGEST_NAME" = some (.int (30) t_LONGEST_NAME)
  t_DEEPEST_LIST : Tok
  c_DEEPEST_LIST : mg "DEEPEST_LIST" = some (.int (5) t_DEEPEST_LIST)
  t_LEAST_INT : Tok
  c_LEAST_INT : mg "LEAST_INT" = some (.int (-2147483648) t_LEAST_INT)
  t_GREATEST_INT : Tok
  c_GREATEST_INT : mg "GREATEST_INT" = some (.int (2147483647) t_GREATEST_INT)
  t_FIRST_CODE : Tok
  c_FIRST_CODE : mg "FIRST_CODE" = some (.int (32) t_FIRST_CODE)
  t_LAST_CODE : Tok
  c_LAST_CODE : mg "LAST_CODE" = some (.int (126) t_LAST_CODE)
  t_EXCEPTED_CODE : Tok
  c_EXCEPTED_CODE : mg "EXCEPTED_CODE" = some (.int (37) t_EXCEPTED_CODE)
  z_all : mg "all" = none
  z_bool : mg "bool" = none
  z_int : mg "int" = none
  z_isinstance : mg "isinstance" = none
  z_len : mg "len" = none
  z_ord : mg "ord" = none
  z_range : mg "range" = none
  z_str : mg "str" = none
  e_InvalidType : Addr
  x_InvalidType : ExcT K mg "InvalidType" e_InvalidType
/-- what the except suite asks of the classes -/
structure Tv (K : PySem.W.Frag) (mg : Str → Option Value) (C : Addr) where
  S : Addr
  mS : mg "SeamError" = some (.ref S)
  mV : mg "ValueError" = none
  bV : bootBuiltins "ValueError" = some (.type "ValueError")
  ex : PySem.W.exmOne K (.ref C) (.ref C) = some true
  cc : ExcC K C
  k1 : PySem.W.kitOne K (.ref C) (.ref S) = some true
  k2 : PySem.W.kitOne K (.ref C) (.type "ValueError") = some true
variable {P : Program} {w : World} {K : PySem.W.Frag} {mg : Str → Option Value} {base : Heap}
theorem db_is_name (T : Tx K mg) {cdv : Value} {A : Around} {outer : List Env} {s : Shared} {H : Hp} {E : XK} {k : Cc} (hr : Room (0) (A.deeper (envOfC "is_name" (defScope s_is_name) s.heap.objs.size T.a_is_name cdv))) :
    DB (cxOf CX0 P w K mg base ["text"] "is_name" (defScope s_is_name) T.a_is_name cdv A outer s H E).nox k (defBody s_is_name) (W_is_name) :=
  (db_cons (ds_if (dt_not (dt_val (de_m0 PySem.F.slot_str_isascii PySem.F.type_str_isascii mt_isascii om_bl (de_var (i := 0))))) (db_one (ds_ret de_bl)) db_nil)
  (db_cons (ds_if (dt_not (dt_chain op_le o2_le op_le o2_le de_int (de_len T.z_len (da_cons (de_var (i := 0)) da_nil)) (de_glob (v := (.int (30))) (d := (.int (30))) T.c_LONGEST_NAME ⟨_, rfl⟩ (fun _ => .int _)))) (db_one (ds_ret de_bl)) db_nil)
  (db_one (ds_ret (de_nameEnd (i := 0))))))
theorem ok_is_name (T : Tx K mg) : FnOk P w K mg base CX0 1 T.a_is_name T.d_is_name ["text"] (spD K mg sp_is_name) :=
  fn_d T.F_is_name sc_is_name (fun _ _ _ h => len_is_name h) (by decide) W_is_name (fun _ _ _ _ _ _ _ hr _ => db_is_name T hr) hw_is_name
theorem db_is_plain (T : Tx K mg) {cdv : Value} {A : Around} {outer : List Env} {s : Shared} {H : Hp} {E : XK} {k : Cc} (hr : Room (0) (A.deeper (envOfC "_is_plain" (defScope s_is_plain) s.heap.objs.size T.a_is_plain cdv))) :
    DB (cxOf CX0 P w K mg base ["code"] "_is_plain" (defScope s_is_plain) T.a_is_plain cdv A outer s H E).nox k (defBody s_is_plain) (W_is_plain) :=
  (db_one (ds_ret (de_and (de_chain op_le o2_le op_le o2_le (de_glob (v := (.int (32))) (d := (.int (32))) T.c_FIRST_CODE ⟨_, rfl⟩ (fun _ => .int _)) (de_var (i := 0)) (de_glob (v := (.int (126))) (d := (.int (126))) T.c_LAST_CODE ⟨_, rfl⟩ (fun _ => .int _))) (de_one (de_cmp (op_ne_d hr.units) o2_ne (de_var (i := 0)) (de_glob (v := (.int (37))) (d := (.int (37))) T.c_EXCEPTED_CODE ⟨_, rfl⟩ (fun _ => .int _)))))))
theorem ok_is_plain (T : Tx K mg) : FnOk P w K mg base CX0 1 T.a_is_plain T.d_is_plain ["code"] (spD K mg sp_is_plain) :=
  fn_d T.F_is_plain sc_is_plain (fun _ _ _ h => len_is_plain h) (by decide) W_is_plain (fun _ _ _ _ _ _ _ hr _ => db_is_plain T hr) hw_is_plain
theorem db_fits (T : Tx K mg) {cdv : Value} {A : Around} {outer : List Env} {s : Shared} {H : Hp} {E : XK} {k : Cc} (hr : Room (1) (A.deeper (envOfC "fits" (defScope s_fits) s.heap.objs.size T.a_fits cdv))) :
    DB (cxOf CX0 P w K mg base ["scalar", "value", "sign"] "fits" (defScope s_fits) T.a_fits cdv A outer s H E).nox k (defBody s_fits) (W_fits) :=
  (db_cons (ds_if (dt_val (de_isi T.z_isinstance (da_cons (de_var (i := 1)) (da_cons (de_tyN T.z_bool PyProof.Rows.boot_bool) da_nil)))) (db_one (ds_ret (de_cmp (op_eq_d hr.units) o2_eq (de_var (i := 0)) de_str))) db_nil)
  (db_cons (ds_if (dt_val (de_isi T.z_isinstance (da_cons (de_var (i := 1)) (da_cons (de_tyN T.z_int PyProof.Rows.boot_int) da_nil)))) (db_one (ds_ret (de_and (de_cmp (op_eq_d hr.units) o2_eq (de_var (i := 0)) de_str) (de_one (de_chain op_le o2_le op_le o2_le (de_glob (v := (.int (-2147483648))) (d := (.int (-2147483648))) T.c_LEAST_INT ⟨_, rfl⟩ (fun _ => .int _)) (de_var (i := 1)) (de_glob (v := (.int (2147483647))) (d := (.int (2147483647))) T.c_GREATEST_INT ⟨_, rfl⟩ (fun _ => .int _))))))) db_nil)
  (db_cons (ds_if (dt_val (de_isi T.z_isinstance (da_cons (de_var (i := 1)) (da_cons (de_tyN T.z_str PyProof.Rows.boot_str) da_nil)))) (db_one (ds_ret (de_and (de_cmp (op_eq_d hr.units) o2_eq (de_var (i := 0)) de_str) (de_one (de_all T.z_all (da_cons (de_lc (own := [("sign", 2)]) sc_fits.nd (di_str (de_var (i := 1))) (blkOk_by (N := ["scalar", "value", "sign"]) (sc := defScope s_fits) (by decide +kernel)) (fun _ _ _ _ _ => (dg_name (i := 2) sc_fits.nd)) (fun _ _ _ _ _ => dts_nil) (fun _ _ _ _ _ => (de_call0 (ok_is_plain T) (hr.mono (by decide)) T.m_is_plain T.F_is_plain.kp T.b_is_plain (da_cons (de_ord T.z_ord (da_cons (de_var (i := 2)) da_nil)) da_nil)))) da_nil)))))) db_nil)
  (db_one (ds_ret de_bl)))))
theorem ok_fits (T : Tx K mg) : FnOk P w K mg base CX0 2 T.a_fits T.d_fits ["scalar", "value"] (spD K mg sp_fits) :=
  fn_d T.F_fits sc_fits (fun _ _ _ h => len_fits h) (by decide) W_fits (fun _ _ _ _ _ _ _ hr _ => db_fits T hr) hw_fits
theorem db_parse_nested (T : Tx K mg) {m : Nat} (G_parse_bare : FnOk P w K mg base (L2.CX P w) (2 * m + 2) T.a_parse_bare T.d_parse_bare ["text", "depth"] (spD K mg (sp_parse_bare m))) {cdv : Value} {A : Around} {outer : List Env} {s : Shared} {H : Hp} {k : Cc} (hr : Room (2 * m + 2) (A.deeper (envOfC "_parse_nested" (defScope s_parse_nested) s.heap.objs.size T.a_parse_nested cdv))) :
    DB (cxOf (L2.CX P w) P w K mg base ["text", "depth"] "_parse_nested" (defScope s_parse_nested) T.a_parse_nested cdv A outer s H k.xk) k (defBody s_parse_nested) (W_parse_nested m k.xd) :=
  (db_cons (ds_if (dt_val (de_m1 PySem.F.slot_str_endswith PySem.F.type_str_endswith mt_endswith om_bl1 (de_var (i := 0)) de_str)) (db_one (ds_ret (de_tup (da_cons de_str (da_cons (de_callX G_parse_bare hr T.m_parse_bare T.F_parse_bare.kp T.b_parse_bare (passes_call (takes_of rfl rfl rfl rfl) (fun _ _ _ _ h => h)) (da_cons (de_slc (de_var (i := 0)) do_no (do_some (de_neg de_int))) (da_cons (de_var (i := 1)) da_nil))) da_nil))))) db_nil)
  (db_one (ds_ret (de_callX G_parse_bare hr T.m_parse_bare T.F_parse_bare.kp T.b_parse_bare (passes_call (takes_of rfl rfl rfl rfl) (fun _ _ _ _ h => h)) (da_cons (de_var (i := 0)) (da_cons (de_var (i := 1)) da_nil))))))
theorem db_parse_bare (T : Tx K mg) {m : Nat} (G_parse_nested : FnOk P w K mg base (L2.CX P w) (2 * m + 1) T.a_parse_nested T.d_parse_nested ["text", "depth"] (spD K mg (sp_parse_nested m))) {cdv : Value} {A : Around} {outer : List Env} {s : Shared} {H : Hp} {k : Cc} (hr : Room (2 * m + 1) (A.deeper (envOfC "_parse_bare" (defScope s_parse_bare) s.heap.objs.size T.a_parse_bare cdv))) :
    DB (cxOf (L2.CX P w) P w K mg base ["text", "depth"] "_parse_bare" (defScope s_parse_bare) T.a_parse_bare cdv A outer s H k.xk) k (defBody s_parse_bare) (W_parse_bare m k.xd) :=
  (db_cons (ds_if (dt_w (dw_and (dt_cmp op_lt o2_lt (de_var (i := 1)) (de_glob (v := (.int (5))) (d := (.int (5))) T.c_DEEPEST_LIST ⟨_, rfl⟩ (fun _ => .int _))) (dw_and (dt_val (de_m1 PySem.F.slot_str_startswith PySem.F.type_str_startswith mt_startswith om_bl1 (de_var (i := 0)) de_str)) (dw_and1 (dt_val (de_m1 PySem.F.slot_str_endswith PySem.F.type_str_endswith mt_endswith om_bl1 (de_var (i := 0)) de_str)))))) (db_one (ds_ret (de_tup (da_cons de_str (da_cons (de_callX G_parse_nested hr T.m_parse_nested T.F_parse_nested.kp T.b_parse_nested (passes_call (takes_of rfl rfl rfl rfl) (fun _ _ _ _ h => h)) (da_cons (de_slc (de_var (i := 0)) (do_some de_int) (do_some (de_neg de_int))) (da_cons (de_plus (de_var (i := 1)) de_int) da_nil))) da_nil))))) db_nil)
  (db_cons (ds_if (dt_not (dt_val (de_call0 (ok_is_name T) (hr.mono (by omega)) T.m_is_name T.F_is_name.kp T.b_is_name (da_cons (de_var (i := 0)) da_nil)))) (db_one (ds_raise1 T.x_InvalidType (takes_of rfl rfl rfl rfl) (de_joined (dj_cons de_str (dj_cons (de_fmt (de_var (i := 0))) dj_nil))))) db_nil)
  (db_one (ds_ret (de_tup (da_cons de_str (da_cons (de_var (i := 0)) da_nil)))))))
theorem none_left {k : Nat} {CX : CXT} {f : Addr} {fd : FuncData} {ps : List Str} {sp : SpecD} (h : ∀ ds Q E, ¬ sp ds Q E) : FnOk P w K mg base CX k f fd ps (spD K mg sp) := by
  have no : ∀ vs H Q E, ¬ spD K mg sp vs H Q E := fun vs H Q E ⟨_, _, _, _, _, _, _, q, _⟩ => h _ _ _ q
  exact ⟨fun vs H Q E h => absurd h (no vs H Q E), fun A outer s H args us vs Q E _ _ _ _ h => absurd h (no vs H Q E)⟩
theorem ok_parse (T : Tx K mg) : ∀ m : Nat, FnOk P w K mg base (L2.CX P w) (2 * m + 1) T.a_parse_nested T.d_parse_nested ["text", "depth"] (spD K mg (sp_parse_nested m)) ∧
    FnOk P w K mg base (L2.CX P w) (2 * m + 2) T.a_parse_bare T.d_parse_bare ["text", "depth"] (spD K mg (sp_parse_bare m))
  | 0 => by
    have g : FnOk P w K mg base (L2.CX P w) (2 * 0 + 1) T.a_parse_nested T.d_parse_nested ["text", "depth"] (spD K mg (sp_parse_nested 0)) := none_left fun _ _ _ h => h
    exact ⟨g, fn_dx T.F_parse_bare sc_parse_bare (fun _ _ _ h => len_parse_bare h) (by decide) (fun xd => W_parse_bare 0 xd) (fun _ _ _ _ _ _ hr => db_parse_bare T g hr) hw_parse_bare⟩
  | m + 1 => by
    have ih := ok_parse T m
    have g : FnOk P w K mg base (L2.CX P w) (2 * (m + 1) + 1) T.a_parse_nested T.d_parse_nested ["text", "depth"] (spD K mg (sp_parse_nested (m + 1))) :=
      fn_dx T.F_parse_nested sc_parse_nested (fun _ _ _ h => len_parse_nested h) (by decide) (fun xd => W_parse_nested m xd) (fun _ _ _ _ _ _ hr => db_parse_nested T ih.2 hr) hw_parse_nested
    exact ⟨g, fn_dx T.F_parse_bare sc_parse_bare (fun _ _ _ h => len_parse_bare h) (by decide) (fun xd => W_parse_bare (m + 1) xd) (fun _ _ _ _ _ _ hr => db_parse_bare T g hr) hw_parse_bare⟩
theorem ok_parse_nested (T : Tx K mg) (m : Nat) : FnOk P w K mg base (L2.CX P w) (2 * m + 1) T.a_parse_nested T.d_parse_nested ["text", "depth"] (spD K mg (sp_parse_nested m)) := (ok_parse T m).1
theorem db_parse_type (T : Tx K mg) {cdv : Value} {A : Around} {outer : List Env} {s : Shared} {H : Hp} {k : Cc} (hr : Room (13) (A.deeper (envOfC "parse_type" (defScope s_parse_type) s.heap.objs.size T.a_parse_type cdv))) :
    DB (cxOf (L2.CX P w) P w K mg base ["text"] "parse_type" (defScope s_parse_type) T.a_parse_type cdv A outer s H k.xk) k (defBody s_parse_type) (W_parse_type k.xd) :=
  (db_one (ds_ret (de_callX (ok_parse_nested T 6) (hr.mono (by decide)) T.m_parse_nested T.F_parse_nested.kp T.b_parse_nested (passes_call (takes_of rfl rfl rfl rfl) (fun _ _ _ _ h => h)) (da_cons (de_var (i := 0)) (da_cons de_int da_nil)))))
theorem ok_parse_type (T : Tx K mg) : FnOk P w K mg base (L2.CX P w) 14 T.a_parse_type T.d_parse_type ["text"] (spD K mg sp_parse_type) :=
  fn_dx T.F_parse_type sc_parse_type (fun _ _ _ h => len_parse_type h) (by decide) (fun xd => W_parse_type xd) (fun _ _ _ _ _ _ hr => db_parse_type T hr) hw_parse_type
theorem db_format_type (T : Tx K mg) {m : Nat} (G_format_type : FnOk P w K mg base CX0 (m) T.a_format_type T.d_format_type ["kind"] (spD K mg (sp_format_type m))) {cdv : Value} {A : Around} {outer : List Env} {s : Shared} {H : Hp} {E : XK} {k : Cc} (hr : Room (m) (A.deeper (envOfC "format_type" (defScope s_format_type) s.heap.objs.size T.a_format_type cdv))) :
    DB (cxOf CX0 P w K mg base ["kind", "form", "inner"] "format_type" (defScope s_format_type) T.a_format_type cdv A outer s H E).nox k (defBody s_format_type) (W_format_type m) :=
  (db_cons (ds_asg (de_var (i := 0)) (dg_tup rfl (dgs_cons (dg_name (i := 1) sc_format_type.nd) (dgs_cons (dg_name (i := 2) sc_format_type.nd) dgs_nil))))
  (db_cons (ds_if (dt_cmp (op_eq_d hr.units) o2_eq (de_var (i := 1)) de_str) (db_one (ds_ret (de_plus (de_call0 G_format_type hr T.m_format_type T.F_format_type.kp T.b_format_type (da_cons (de_var (i := 2)) da_nil)) de_str))) db_nil)
  (db_cons (ds_if (dt_cmp (op_eq_d hr.units) o2_eq (de_var (i := 1)) de_str) (db_one (ds_ret (de_plus (de_plus de_str (de_call0 G_format_type hr T.m_format_type T.F_format_type.kp T.b_format_type (da_cons (de_var (i := 2)) da_nil))) de_str))) db_nil)
  (db_one (ds_ret (de_var (i := 2)))))))
theorem ok_format_type (T : Tx K mg) : ∀ m : Nat, FnOk P w K mg base CX0 m T.a_format_type T.d_format_type ["kind"] (spD K mg (sp_format_type m))
  | 0 => none_left fun _ _ _ ⟨_, _, h, _⟩ => absurd h (Nat.not_lt_zero _)
  | m + 1 => fn_d T.F_format_type sc_format_type (fun _ _ _ h => len_format_type h) (by decide) (W_format_type m) (fun _ _ _ _ _ _ _ hr _ => db_format_type T (ok_format_type T m) hr) hw_format_type
theorem db_base_of (T : Tx K mg) {cdv : Value} {A : Around} {outer : List Env} {s : Shared} {H : Hp} {E : XK} {k : Cc} (hr : Room (0) (A.deeper (envOfC "base_of" (defScope s_base_of) s.heap.objs.size T.a_base_of cdv))) :
    DB (cxOf CX0 P w K mg base ["kind", "form", "inner"] "base_of" (defScope s_base_of) T.a_base_of cdv A outer s H E).nox k (defBody s_base_of) (W_base_of) :=
  (db_cons (ds_asg (de_var (i := 0)) (dg_tup rfl (dgs_cons (dg_name (i := 1) sc_base_of.nd) (dgs_cons (dg_name (i := 2) sc_base_of.nd) dgs_nil))))
  (db_cons (ds_while PassesOwn.never (dt_cmp (op_ne_d hr.units) o2_ne (de_var (i := 1)) de_str)
  (db_one (ds_asg (de_var (i := 2)) (dg_tup rfl (dgs_cons (dg_name (i := 1) sc_base_of.nd) (dgs_cons (dg_name (i := 2) sc_base_of.nd) dgs_nil))))))
  (db_one (ds_ret (de_var (i := 2))))))
theorem ok_base_of (T : Tx K mg) : FnOk P w K mg base CX0 1 T.a_base_of T.d_base_of ["kind"] (spD K mg sp_base_of) :=
  fn_d T.F_base_of sc_base_of (fun _ _ _ h => len_base_of h) (by decide) W_base_of (fun _ _ _ _ _ _ _ hr _ => db_base_of T hr) hw_base_of
theorem db_has_list (T : Tx K mg) {cdv : Value} {A : Around} {outer : List Env} {s : Shared} {H : Hp} {E : XK} {k : Cc} (hr : Room (0) (A.deeper (envOfC "has_list" (defScope s_has_list) s.heap.objs.size T.a_has_list cdv))) :
    DB (cxOf CX0 P w K mg base ["kind", "form", "inner"] "has_list" (defScope s_has_list) T.a_has_list cdv A outer s H E).nox k (defBody s_has_list) (W_has_list) :=
  (db_cons (ds_asg (de_var (i := 0)) (dg_tup rfl (dgs_cons (dg_name (i := 1) sc_has_list.nd) (dgs_cons (dg_name (i := 2) sc_has_list.nd) dgs_nil))))
  (db_cons (ds_while PassesOwn.never (dt_cmp (op_eq_d hr.units) o2_eq (de_var (i := 1)) de_str)
  (db_one (ds_asg (de_var (i := 2)) (dg_tup rfl (dgs_cons (dg_name (i := 1) sc_has_list.nd) (dgs_cons (dg_name (i := 2) sc_has_list.nd) dgs_nil))))))
  (db_one (ds_ret (de_cmp (op_eq_d hr.units) o2_eq (de_var (i := 1)) de_str)))))
theorem ok_has_list (T : Tx K mg) : FnOk P w K mg base CX0 1 T.a_has_list T.d_has_list ["kind"] (spD K mg sp_has_list) :=
  fn_d T.F_has_list sc_has_list (fun _ _ _ h => len_has_list h) (by decide) W_has_list (fun _ _ _ _ _ _ _ hr _ => db_has_list T hr) hw_has_list
theorem db_l_is_integer (T : Tx K mg) {cdv : Value} {A : Around} {outer : List Env} {s : Shared} {H : Hp} {E : XK} {k : Cc} (hr : Room (0) (A.deeper (envOfC "_law_is_integer" (defScope s_l_is_integer) s.heap.objs.size T.a_l_is_integer cdv))) :
    DB (cxOf CX0 P w K mg base ["actual"] "_law_is_integer" (defScope s_l_is_integer) T.a_l_is_integer cdv A outer s H E).nox k (defBody s_l_is_integer) (W_l_is_integer) :=
  (db_one (ds_ret (de_and (de_isi T.z_isinstance (da_cons (de_var (i := 0)) (da_cons (de_tyN T.z_int PyProof.Rows.boot_int) da_nil))) (de_one (de_not (de_isi T.z_isinstance (da_cons (de_var (i := 0)) (da_cons (de_tyN T.z_bool PyProof.Rows.boot_bool) da_nil))))))))
theorem ok_l_is_integer (T : Tx K mg) : FnOk P w K mg base CX0 1 T.a_l_is_integer T.d_l_is_integer ["actual"] (spD K mg sp_l_is_integer) :=
  fn_d T.F_l_is_integer sc_l_is_integer (fun _ _ _ h => len_l_is_integer h) (by decide) W_l_is_integer (fun _ _ _ _ _ _ _ hr _ => db_l_is_integer T hr) hw_l_is_integer
theorem db_l_refill (T : Tx K mg) {cdv : Value} {A : Around} {outer : List Env} {s : Shared} {H : Hp} {E : XK} {k : Cc} (hr : Room (0) (A.deeper (envOfC "_law_refill" (defScope s_l_refill) s.heap.objs.size T.a_l_refill cdv))) :
    DB (cxOf CX0 P w K mg base ["script", "k", "cell"] "_law_refill" (defScope s_l_refill) T.a_l_refill cdv A outer s H E).nox k (defBody s_l_refill) (W_l_refill) :=
  (db_cons (ds_set (i := 2) sc_l_refill.nd de_int)
  (db_cons (ds_if (dt_truth (de_var (i := 0))) (db_one (ds_set (i := 2) sc_l_refill.nd (de_sub1 (de_var (i := 0)) (de_mod (de_var (i := 1)) (de_len T.z_len (da_cons (de_var (i := 0)) da_nil)))))) db_nil)
  (db_cons (ds_if (dt_cmp op_lt o2_lt (de_var (i := 2)) de_int) (db_one (ds_set (i := 2) sc_l_refill.nd (de_sub de_int (de_mul de_int (de_var (i := 2)))))) db_nil)
  (db_cons (ds_if (dt_w (dw_and (dt_cmp op_ge o2_ge (de_var (i := 2)) (de_pow de_int de_int)) (dw_and1 (dt_cmp op_lt o2_lt (de_var (i := 1)) (de_len T.z_len (da_cons (de_var (i := 0)) da_nil)))))) (db_one (ds_ret (de_var (i := 2)))) db_nil)
  (db_one (ds_ret (de_mod (de_Cint T.z_int (da_cons (de_plus (de_mul (de_Cint T.z_int (da_cons (de_plus (de_plus (de_mul (de_var (i := 2)) de_int) (de_mul (de_var (i := 1)) de_int)) de_int) da_nil)) de_int) de_int) da_nil)) de_int)))))))
theorem ok_l_refill (T : Tx K mg) : FnOk P w K mg base CX0 1 T.a_l_refill T.d_l_refill ["script", "k"] (spD K mg sp_l_refill) :=
  fn_d T.F_l_refill sc_l_refill (fun _ _ _ h => len_l_refill h) (by decide) W_l_refill (fun _ _ _ _ _ _ _ hr _ => db_l_refill T hr) hw_l_refill
theorem db_l_draw (T : Tx K mg) {cdv : Value} {A : Around} {outer : List Env} {s : Shared} {H : Hp} {E : XK} {k : Cc} (hr : Room (1) (A.deeper (envOfC "_law_draw" (defScope s_l_draw) s.heap.objs.size T.a_l_draw cdv))) :
    DB (cxOf CX0 P w K mg base ["state", "script", "size", "digit"] "_law_draw" (defScope s_l_draw) T.a_l_draw cdv A outer s H E).nox k (defBody s_l_draw) (W_l_draw) :=
  (db_cons (ds_if (dt_cmp (op_eq_d hr.units) o2_eq (de_sub1 (de_var (i := 0)) de_int) de_int) (db_cons (ds_stw (de_call0 (ok_l_refill T) (hr.mono (by decide)) T.m_l_refill T.F_l_refill.kp T.b_l_refill (da_cons (de_var (i := 1)) (da_cons (de_sub1 (de_var (i := 0)) de_int) da_nil))) (de_var (i := 0)) de_int)
  (db_one (ds_stw (de_plus (de_sub1 (de_var (i := 0)) de_int) de_int) (de_var (i := 0)) de_int))) db_nil)
  (db_cons (ds_set (i := 3) sc_l_draw.nd (de_mod (de_Cint T.z_int (da_cons (de_sub1 (de_var (i := 0)) de_int) da_nil)) (de_var (i := 2))))
  (db_cons (ds_stw (de_fdiv (de_sub1 (de_var (i := 0)) de_int) (de_var (i := 2))) (de_var (i := 0)) de_int)
  (db_one (ds_ret (de_var (i := 3)))))))
theorem ok_l_draw (T : Tx K mg) : FnOk P w K mg base CX0 2 T.a_l_draw T.d_l_draw ["state", "script", "size"] (spD K mg sp_l_draw) :=
  fn_d T.F_l_draw sc_l_draw (fun _ _ _ h => len_l_draw h) (by decide) W_l_draw (fun _ _ _ _ _ _ _ hr _ => db_l_draw T hr) hw_l_draw
theorem db_l_pick (T : Tx K mg) {cdv : Value} {A : Around} {outer : List Env} {s : Shared} {H : Hp} {E : XK} {k : Cc} (hr : Room (2) (A.deeper (envOfC "_law_pick" (defScope s_l_pick) s.heap.objs.size T.a_l_pick cdv))) :
    DB (cxOf CX0 P w K mg base ["state", "script", "signs", "k"] "_law_pick" (defScope s_l_pick) T.a_l_pick cdv A outer s H E).nox k (defBody s_l_pick) (W_l_pick) :=
  (db_cons (ds_set (i := 3) sc_l_pick.nd (de_call0 (ok_l_draw T) (hr.mono (by decide)) T.m_l_draw T.F_l_draw.kp T.b_l_draw (da_cons (de_var (i := 0)) (da_cons (de_var (i := 1)) (da_cons (de_len T.z_len (da_cons (de_var (i := 2)) da_nil)) da_nil)))))
  (db_one (ds_ret (de_slc (de_var (i := 2)) (do_some (de_var (i := 3))) (do_some (de_plus (de_var (i := 3)) de_int))))))
theorem ok_l_pick (T : Tx K mg) : FnOk P w K mg base CX0 3 T.a_l_pick T.d_l_pick ["state", "script", "signs"] (spD K mg sp_l_pick) :=
  fn_d T.F_l_pick sc_l_pick (fun _ _ _ h => len_l_pick h) (by decide) W_l_pick (fun _ _ _ _ _ _ _ hr _ => db_l_pick T hr) hw_l_pick
theorem db_l_name (T : Tx K mg) {cdv : Value} {A : Around} {outer : List Env} {s : Shared} {H : Hp} {E : XK} {k : Cc} (hr : Room (3) (A.deeper (envOfC "_law_name" (defScope s_l_name) s.heap.objs.size T.a_l_name cdv))) :
    DB (cxOf CX0 P w K mg base ["state", "script", "letters", "count", "k"] "_law_name" (defScope s_l_name) T.a_l_name cdv A outer s H E).nox k (defBody s_l_name) (W_l_name) :=
  (db_cons (ds_set (i := 2) sc_l_name.nd de_str)
  (db_cons (ds_set (i := 3) sc_l_name.nd (de_sub1 (de_lst (da_cons (de_call0 (ok_l_draw T) (hr.mono (by decide)) T.m_l_draw T.F_l_draw.kp T.b_l_draw (da_cons (de_var (i := 0)) (da_cons (de_var (i := 1)) (da_cons de_int da_nil)))) (da_cons (de_plus de_int (de_call0 (ok_l_draw T) (hr.mono (by decide)) T.m_l_draw T.F_l_draw.kp T.b_l_draw (da_cons (de_var (i := 0)) (da_cons (de_var (i := 1)) (da_cons de_int da_nil))))) da_nil))) (de_call0 (ok_l_draw T) (hr.mono (by decide)) T.m_l_draw T.F_l_draw.kp T.b_l_draw (da_cons (de_var (i := 0)) (da_cons (de_var (i := 1)) (da_cons de_int da_nil))))))
  (db_one (ds_ret (de_plus (de_call0 (ok_l_pick T) (hr.mono (by decide)) T.m_l_pick T.F_l_pick.kp T.b_l_pick (da_cons (de_var (i := 0)) (da_cons (de_var (i := 1)) (da_cons (de_var (i := 2)) da_nil)))) (de_m1 PySem.F.slot_str_join PySem.F.type_str_join mt_join om_join de_str (de_lc (own := [("k", 4)]) sc_l_name.nd (di_range (de_var (i := 3)) rfl T.z_range) (blkOk_by (N := ["state", "script", "letters", "count", "k"]) (sc := defScope s_l_name) (by decide +kernel)) (fun _ _ _ _ _ => (dg_name (i := 4) sc_l_name.nd)) (fun _ _ _ _ _ => dts_nil) (fun _ _ _ _ _ => (de_call0 (ok_l_pick T) (hr.mono (by decide)) T.m_l_pick T.F_l_pick.kp T.b_l_pick (da_cons (de_var (i := 0)) (da_cons (de_var (i := 1)) (da_cons (de_plus (de_var (i := 2)) de_str) da_nil))))))))))))
theorem ok_l_name (T : Tx K mg) : FnOk P w K mg base CX0 4 T.a_l_name T.d_l_name ["state", "script"] (spD K mg sp_l_name) :=
  fn_d T.F_l_name sc_l_name (fun _ _ _ h => len_l_name h) (by decide) W_l_name (fun _ _ _ _ _ _ _ hr _ => db_l_name T hr) hw_l_name
theorem db_l_is_name (T : Tx K mg) {cdv : Value} {A : Around} {outer : List Env} {s : Shared} {H : Hp} {E : XK} {k : Cc} (hr : Room (0) (A.deeper (envOfC "_law_is_name" (defScope s_l_is_name) s.heap.objs.size T.a_l_is_name cdv))) :
    DB (cxOf CX0 P w K mg base ["text", "letters", "sign"] "_law_is_name" (defScope s_l_is_name) T.a_l_is_name cdv A outer s H E).nox k (defBody s_l_is_name) (W_l_is_name) :=
  (db_cons (ds_set (i := 1) sc_l_is_name.nd de_str)
  (db_cons (ds_if (dt_w (dw_or (dt_cmp op_lt o2_lt (de_len T.z_len (da_cons (de_var (i := 0)) da_nil)) de_int) (dw_or (dt_cmp op_gt o2_gt (de_len T.z_len (da_cons (de_var (i := 0)) da_nil)) de_int) (dw_or1 (dt_cmp op_notIn_sign o2_notInS (de_sub1 (de_var (i := 0)) de_int) (de_var (i := 1)) rfl))))) (db_one (ds_ret de_bl)) db_nil)
  (db_one (ds_ret (de_all T.z_all (da_cons (de_lc (own := [("sign", 2)]) sc_l_is_name.nd (di_str (de_var (i := 0))) (blkOk_by (N := ["text", "letters", "sign"]) (sc := defScope s_l_is_name) (by decide +kernel)) (fun _ _ _ _ _ => (dg_name (i := 2) sc_l_is_name.nd)) (fun _ _ _ _ _ => dts_nil) (fun _ _ _ _ _ => (de_cmp op_in_sign o2_inS (de_var (i := 2)) (de_plus (de_var (i := 1)) de_str) rfl))) da_nil))))))
theorem ok_l_is_name (T : Tx K mg) : FnOk P w K mg base CX0 1 T.a_l_is_name T.d_l_is_name ["text"] (spD K mg sp_l_is_name) :=
  fn_d T.F_l_is_name sc_l_is_name (fun _ _ _ h => len_l_is_name h) (by decide) W_l_is_name (fun _ _ _ _ _ _ _ hr _ => db_l_is_name T hr) hw_l_is_name
theorem db_l_parsed (T : Tx K mg) {m : Nat} (G_l_parsed : FnOk P w K mg base CX0 (m + 1) T.a_l_parsed T.d_l_parsed ["text", "depth"] (spD K mg (sp_l_parsed m))) {cdv : Value} {A : Around} {outer : List Env} {s : Shared} {H : Hp} {E : XK} {k : Cc} (hr : Room (m + 1) (A.deeper (envOfC "_law_parsed" (defScope s_l_parsed) s.heap.objs.size T.a_l_parsed cdv))) :
    DB (cxOf CX0 P w K mg base ["text", "depth", "inner"] "_law_parsed" (defScope s_l_parsed) T.a_l_parsed cdv A outer s H E).nox k (defBody s_l_parsed) (W_l_parsed m) :=
  (db_cons (ds_if (dt_cmp (op_eq_d hr.units) o2_eq (de_slc (de_var (i := 0)) (do_some (de_neg de_int)) do_no) de_str) (db_cons (ds_set (i := 2) sc_l_parsed.nd (de_call0 G_l_parsed hr T.m_l_parsed T.F_l_parsed.kp T.b_l_parsed (da_cons (de_slc (de_var (i := 0)) do_no (do_some (de_neg de_int))) (da_cons (de_var (i := 1)) da_nil))))
  (db_cons (ds_if (dt_w (dw_or (dt_cmp op_isN o2_isN (de_var (i := 2)) de_non) (dw_or1 (dt_cmp (op_eq_d hr.units) o2_eq (de_sub1 (de_var (i := 2)) de_int) de_str)))) (db_one (ds_ret de_non)) db_nil)
  (db_one (ds_ret (de_tup (da_cons de_str (da_cons (de_var (i := 2)) da_nil))))))) db_nil)
  (db_cons (ds_if (dt_w (dw_and (dt_cmp (op_eq_d hr.units) o2_eq (de_slc (de_var (i := 0)) do_no (do_some de_int)) de_str) (dw_and (dt_cmp (op_eq_d hr.units) o2_eq (de_slc (de_var (i := 0)) (do_some (de_neg de_int)) do_no) de_str) (dw_and1 (dt_cmp op_lt o2_lt (de_var (i := 1)) de_int))))) (db_cons (ds_set (i := 2) sc_l_parsed.nd (de_call0 G_l_parsed hr T.m_l_parsed T.F_l_parsed.kp T.b_l_parsed (da_cons (de_slc (de_var (i := 0)) (do_some de_int) (do_some (de_neg de_int))) (da_cons (de_plus (de_var (i := 1)) de_int) da_nil))))
  (db_cons (ds_if (dt_cmp op_isN o2_isN (de_var (i := 2)) de_non) (db_one (ds_ret de_non)) db_nil)
  (db_one (ds_ret (de_tup (da_cons de_str (da_cons (de_var (i := 2)) da_nil))))))) db_nil)
  (db_cons (ds_if (dt_val (de_call0 (ok_l_is_name T) (hr.mono (by omega)) T.m_l_is_name T.F_l_is_name.kp T.b_l_is_name (da_cons (de_var (i := 0)) da_nil))) (db_one (ds_ret (de_tup (da_cons de_str (da_cons (de_var (i := 0)) da_nil))))) db_nil)
  (db_one (ds_ret de_non)))))
theorem ok_l_parsed (T : Tx K mg) : ∀ m : Nat, FnOk P w K mg base CX0 (m + 1) T.a_l_parsed T.d_l_parsed ["text", "depth"] (spD K mg (sp_l_parsed m))
  | 0 => none_left fun _ _ _ ⟨_, _, _, h, _⟩ => absurd h (Nat.not_lt_zero _)
  | m + 1 => fn_d T.F_l_parsed sc_l_parsed (fun _ _ _ h => len_l_parsed h) (by decide) (W_l_parsed m) (fun _ _ _ _ _ _ _ hr _ => db_l_parsed T (ok_l_parsed T m) hr) hw_l_parsed
theorem ok_l_told (T : Tx K mg) (V : Tv K mg T.e_InvalidType) : FnOk P w K mg base CX0 15 T.a_l_told T.d_l_told ["text"] (spD K mg sp_l_told) := by
  refine fn_d T.F_l_told sc_l_told (fun _ _ _ ⟨t, e, _⟩ => by rw [e]; rfl) (by decide) (wTryR sp_parse_type "InvalidType" 1 (wCons (wVar 0) wNil) (fun a => wSeq (wIf (wOrT (wNotT (wB (wIsE 1 a))) (wNotT (wB (wIsE 1 a)))) (wRet (wTup (wCons (wC (.str "other")) wNil))) wNext) (wRet (wC .non)))) (fun cdv A outer s H E k hr _ => ?_) fun ds Q E ⟨t, e, hl, h⟩ => ?_
  · refine db_one (ds_tryret sc_l_told.nd T.x_InvalidType.g V.ex (ok_parse_type T) (hr.mono (by decide)) T.m_parse_type T.F_parse_type.kp T.b_parse_type (fun pn xe => da_cons (de_var (i := 0)) da_nil) (fun a oe pn hz hv => ?_))
    exact db_cons (ds_if (dt_w (dw_or (dt_not (dt_val (de_isE V.cc hz hv V.k1 (v := .ref V.S) (fun _ e => e) (pe_glob rfl V.mS rfl) T.z_isinstance))) (dw_or1 (dt_not (dt_val (de_isE V.cc hz hv V.k2 (v := .ty "ValueError") (fun _ e => e) (pe_bltn (v := .ty "ValueError") rfl V.mV V.bV rfl) T.z_isinstance)))))) (db_one (ds_ret (de_tup (da_cons de_str da_nil)))) db_nil) (db_one (ds_ret de_non))
  · subst e
    refine ⟨t, rfl, hl, ?_⟩
    cases hp : pN 5 (cs t) with
    | some k =>
      rw [hp] at h
      exact h
    | none =>
      rw [hp] at h
      refine ⟨⟨rfl, rfl⟩, fun a => ?_⟩
      exact ⟨rfl, ⟨rfl, h⟩⟩
theorem db_l_fits (T : Tx K mg) {cdv : Value} {A : Around} {outer : List Env} {s : Shared} {H : Hp} {E : XK} {k : Cc} (hr : Room (1) (A.deeper (envOfC "_law_fits" (defScope s_l_fits) s.heap.objs.size T.a_l_fits cdv))) :
    DB (cxOf CX0 P w K mg base ["scalar", "value", "sign"] "_law_fits" (defScope s_l_fits) T.a_l_fits cdv A outer s H E).nox k (defBody s_l_fits) (W_l_fits) :=
  (db_cons (ds_if (dt_cmp (op_eq_d hr.units) o2_eq (de_var (i := 0)) de_str) (db_one (ds_ret (de_and (de_call0 (ok_l_is_integer T) (hr.mono (by decide)) T.m_l_is_integer T.F_l_is_integer.kp T.b_l_is_integer (da_cons (de_var (i := 1)) da_nil)) (de_one (de_chain op_le o2_le op_le o2_le (de_neg de_int) (de_var (i := 1)) de_int))))) db_nil)
  (db_cons (ds_if (dt_cmp (op_eq_d hr.units) o2_eq (de_var (i := 0)) de_str) (db_one (ds_ret (de_and (de_isi T.z_isinstance (da_cons (de_var (i := 1)) (da_cons (de_tyN T.z_str PyProof.Rows.boot_str) da_nil))) (de_one (de_all T.z_all (da_cons (de_lc (own := [("sign", 2)]) sc_l_fits.nd (di_str (de_var (i := 1))) (blkOk_by (N := ["scalar", "value", "sign"]) (sc := defScope s_l_fits) (by decide +kernel)) (fun _ _ _ _ _ => (dg_name (i := 2) sc_l_fits.nd)) (fun _ _ _ _ _ => dts_nil) (fun _ _ _ _ _ => (de_and (de_chain op_le o2_le op_le o2_le de_int (de_ord T.z_ord (da_cons (de_var (i := 2)) da_nil)) de_int) (de_one (de_cmp (op_ne_d hr.units) o2_ne (de_ord T.z_ord (da_cons (de_var (i := 2)) da_nil)) de_int))))) da_nil)))))) db_nil)
  (db_one (ds_ret (de_isi T.z_isinstance (da_cons (de_var (i := 1)) (da_cons (de_tyN T.z_bool PyProof.Rows.boot_bool) da_nil)))))))
theorem ok_l_fits (T : Tx K mg) : FnOk P w K mg base CX0 2 T.a_l_fits T.d_l_fits ["scalar", "value"] (spD K mg sp_l_fits) :=
  fn_d T.F_l_fits sc_l_fits (fun _ _ _ h => len_l_fits h) (by decide) W_l_fits (fun _ _ _ _ _ _ _ hr _ => db_l_fits T hr) hw_l_fits
theorem db_law (T : Tx K mg) (V : Tv K mg T.e_InvalidType) {cdv : Value} {A : Around} {outer : List Env} {s : Shared} {H : Hp} {E : XK} {k : Cc} (hr : Room (159) (A.deeper (envOfC "law" (defScope s_law) s.heap.objs.size T.a_law cdv))) :
    DB (cxOf CX0 P w K mg base ["script", "state", "name", "kind", "text", "lists", "k", "at", "sign", "one", "edges", "scalar", "value"] "law" (defScope s_law) T.a_law cdv A outer s H E).nox k ((defBody s_law).drop 1) (W_law) :=
  (db_cons (ds_set (i := 2) sc_law.nd (de_call0 (ok_l_name T) (hr.mono (by decide)) T.m_l_name T.F_l_name.kp T.b_l_name (da_cons (de_var (i := 1)) (da_cons (de_var (i := 0)) da_nil))))
  (db_cons (ds_set (i := 3) sc_law.nd (de_tup (da_cons de_str (da_cons (de_slc (de_var (i := 2)) do_no (do_some de_int)) da_nil))))
  (db_cons (ds_set (i := 4) sc_law.nd (de_slc (de_var (i := 2)) do_no (do_some de_int)))
  (db_cons (ds_set (i := 5) sc_law.nd de_int)
  (db_cons (ds_for PassesOwn.never (di_range (de_call0 (ok_l_draw T) (hr.mono (by decide)) T.m_l_draw T.F_l_draw.kp T.b_l_draw (da_cons (de_var (i := 1)) (da_cons (de_var (i := 0)) (da_cons de_int da_nil)))) rfl T.z_range) (dg_name (i := 6) sc_law.nd)
  (db_cons (ds_if (dt_w (dw_and (dt_cmp (op_eq_d hr.units) o2_eq (de_call0 (ok_l_draw T) (hr.mono (by decide)) T.m_l_draw T.F_l_draw.kp T.b_l_draw (da_cons (de_var (i := 1)) (da_cons (de_var (i := 0)) (da_cons de_int da_nil)))) de_int) (dw_and1 (dt_cmp (op_ne_d hr.units) o2_ne (de_sub1 (de_var (i := 3)) de_int) de_str)))) (db_cons (ds_set (i := 3) sc_law.nd (de_tup (da_cons de_str (da_cons (de_var (i := 3)) da_nil))))
  (db_one (ds_set (i := 4) sc_law.nd (de_plus (de_var (i := 4)) de_str)))) db_nil)
  (db_cons (ds_set (i := 3) sc_law.nd (de_tup (da_cons de_str (da_cons (de_var (i := 3)) da_nil))))
  (db_cons (ds_set (i := 4) sc_law.nd (de_plus (de_plus de_str (de_var (i := 4))) de_str))
  (db_one (ds_set (i := 5) sc_law.nd (de_plus (de_var (i := 5)) de_int)))))))
  (db_cons (ds_if (dt_w (dw_and (dt_cmp (op_eq_d hr.units) o2_eq (de_call0 (ok_l_draw T) (hr.mono (by decide)) T.m_l_draw T.F_l_draw.kp T.b_l_draw (da_cons (de_var (i := 1)) (da_cons (de_var (i := 0)) (da_cons de_int da_nil)))) de_int) (dw_and1 (dt_cmp (op_ne_d hr.units) o2_ne (de_sub1 (de_var (i := 3)) de_int) de_str)))) (db_cons (ds_set (i := 3) sc_law.nd (de_tup (da_cons de_str (da_cons (de_var (i := 3)) da_nil))))
  (db_one (ds_set (i := 4) sc_law.nd (de_plus (de_var (i := 4)) de_str)))) db_nil)
  (db_cons (ds_if (dt_w (dw_or (dt_cmp (op_ne_d hr.units) o2_ne (de_callN (ok_parse_type T) (hr.mono (by decide)) T.m_parse_type T.F_parse_type.kp T.b_parse_type (da_cons (de_var (i := 4)) da_nil)) (de_var (i := 3))) (dw_or (dt_cmp (op_ne_d hr.units) o2_ne (de_call0 (ok_format_type T 20) (hr.mono (by decide)) T.m_format_type T.F_format_type.kp T.b_format_type (da_cons (de_var (i := 3)) da_nil)) (de_var (i := 4))) (dw_or1 (dt_cmp (op_ne_d hr.units) o2_ne (de_call0 (ok_base_of T) (hr.mono (by decide)) T.m_base_of T.F_base_of.kp T.b_base_of (da_cons (de_var (i := 3)) da_nil)) (de_slc (de_var (i := 2)) do_no (do_some de_int))))))) (db_one (ds_ret de_bl)) db_nil)
  (db_cons (ds_if (dt_w (dw_or (dt_cmp (op_ne_d hr.units) o2_ne (de_call0 (ok_has_list T) (hr.mono (by decide)) T.m_has_list T.F_has_list.kp T.b_has_list (da_cons (de_var (i := 3)) da_nil)) (de_cmp op_gt o2_gt (de_var (i := 5)) de_int)) (dw_or1 (dt_not (dt_val (de_isi T.z_isinstance (da_cons (de_call0 (ok_has_list T) (hr.mono (by decide)) T.m_has_list T.F_has_list.kp T.b_has_list (da_cons (de_var (i := 3)) da_nil)) (da_cons (de_tyN T.z_bool PyProof.Rows.boot_bool) da_nil)))))))) (db_one (ds_ret de_bl)) db_nil)
  (db_cons (ds_for PassesOwn.never (di_range (de_call0 (ok_l_draw T) (hr.mono (by decide)) T.m_l_draw T.F_l_draw.kp T.b_l_draw (da_cons (de_var (i := 1)) (da_cons (de_var (i := 0)) (da_cons de_int da_nil)))) rfl T.z_range) (dg_name (i := 6) sc_law.nd)
  (db_cons (ds_set (i := 7) sc_law.nd (de_call0 (ok_l_draw T) (hr.mono (by decide)) T.m_l_draw T.F_l_draw.kp T.b_l_draw (da_cons (de_var (i := 1)) (da_cons (de_var (i := 0)) (da_cons (de_plus (de_len T.z_len (da_cons (de_var (i := 4)) da_nil)) de_int) da_nil)))))
  (db_cons (ds_set (i := 8) sc_law.nd (de_call0 (ok_l_pick T) (hr.mono (by decide)) T.m_l_pick T.F_l_pick.kp T.b_l_pick (da_cons (de_var (i := 1)) (da_cons (de_var (i := 0)) (da_cons de_str da_nil)))))
  (db_one (ds_set (i := 4) sc_law.nd (de_plus (de_plus (de_slc (de_var (i := 4)) do_no (do_some (de_var (i := 7)))) (de_sub1 (de_lst (da_cons (de_var (i := 8)) (da_cons de_str (da_cons (de_plus (de_var (i := 8)) (de_var (i := 8))) da_nil)))) (de_call0 (ok_l_draw T) (hr.mono (by decide)) T.m_l_draw T.F_l_draw.kp T.b_l_draw (da_cons (de_var (i := 1)) (da_cons (de_var (i := 0)) (da_cons de_int da_nil)))))) (de_slc (de_var (i := 4)) (do_some (de_plus (de_var (i := 7)) (de_call0 (ok_l_draw T) (hr.mono (by decide)) T.m_l_draw T.F_l_draw.kp T.b_l_draw (da_cons (de_var (i := 1)) (da_cons (de_var (i := 0)) (da_cons de_int da_nil)))))) do_no)))))))
  (db_cons (ds_if (dt_cmp (op_ne_d hr.units) o2_ne (de_call0 (ok_l_told T V) (hr.mono (by decide)) T.m_l_told T.F_l_told.kp T.b_l_told (da_cons (de_var (i := 4)) da_nil)) (de_call0 (ok_l_parsed T 150) (hr.mono (by decide)) T.m_l_parsed T.F_l_parsed.kp T.b_l_parsed (da_cons (de_var (i := 4)) (da_cons de_int da_nil)))) (db_one (ds_ret de_bl)) db_nil)
  (db_cons (ds_for PassesOwn.never (di_list (de_lst (da_cons (de_var (i := 4)) (da_cons (de_var (i := 2)) (da_cons (de_plus (de_var (i := 2)) de_str) (da_cons de_str (da_cons de_str da_nil))))))) (dg_name (i := 9) sc_law.nd)
  (db_one (ds_if (dt_w (dw_or (dt_cmp (op_ne_d hr.units) o2_ne (de_call0 (ok_is_name T) (hr.mono (by decide)) T.m_is_name T.F_is_name.kp T.b_is_name (da_cons (de_var (i := 9)) da_nil)) (de_call0 (ok_l_is_name T) (hr.mono (by decide)) T.m_l_is_name T.F_l_is_name.kp T.b_l_is_name (da_cons (de_var (i := 9)) da_nil))) (dw_or1 (dt_not (dt_val (de_isi T.z_isinstance (da_cons (de_call0 (ok_is_name T) (hr.mono (by decide)) T.m_is_name T.F_is_name.kp T.b_is_name (da_cons (de_var (i := 9)) da_nil)) (da_cons (de_tyN T.z_bool PyProof.Rows.boot_bool) da_nil)))))))) (db_one (ds_ret de_bl)) db_nil)))
  (db_cons (ds_set (i := 10) sc_law.nd (de_lst (da_cons de_non (da_cons de_bl (da_cons de_bl (da_cons de_int (da_cons (de_neg de_int) (da_cons (de_neg de_int) (da_cons de_int (da_cons de_int (da_cons de_str (da_cons de_str (da_cons de_str (da_cons (de_lst da_nil) (da_cons (de_lst (da_cons de_int da_nil)) (da_cons (de_tup (da_cons de_str (da_cons de_str (da_cons de_int da_nil)))) (da_cons de_dic0 da_nil)))))))))))))))))
  (db_cons (ds_for PassesOwn.never (di_list (de_lst (da_cons de_str (da_cons de_str (da_cons de_str da_nil))))) (dg_name (i := 11) sc_law.nd)
  (db_one (ds_for PassesOwn.never (di_list (de_plus (de_var (i := 10)) (de_lst (da_cons (de_call0 (ok_l_draw T) (hr.mono (by decide)) T.m_l_draw T.F_l_draw.kp T.b_l_draw (da_cons (de_var (i := 1)) (da_cons (de_var (i := 0)) (da_cons (de_shl de_int de_int) da_nil)))) (da_cons (de_var (i := 4)) da_nil))))) (dg_name (i := 12) sc_law.nd)
  (db_one (ds_if (dt_w (dw_or (dt_cmp (op_ne_d hr.units) o2_ne (de_call0 (ok_fits T) (hr.mono (by decide)) T.m_fits T.F_fits.kp T.b_fits (da_cons (de_var (i := 11)) (da_cons (de_var (i := 12)) da_nil))) (de_call0 (ok_l_fits T) (hr.mono (by decide)) T.m_l_fits T.F_l_fits.kp T.b_l_fits (da_cons (de_var (i := 11)) (da_cons (de_var (i := 12)) da_nil)))) (dw_or1 (dt_not (dt_val (de_isi T.z_isinstance (da_cons (de_call0 (ok_fits T) (hr.mono (by decide)) T.m_fits T.F_fits.kp T.b_fits (da_cons (de_var (i := 11)) (da_cons (de_var (i := 12)) da_nil))) (da_cons (de_tyN T.z_bool PyProof.Rows.boot_bool) da_nil)))))))) (db_one (ds_ret de_bl)) db_nil)))))
  (db_one (ds_ret de_bl)))))))))))))))
def spLaw (K : PySem.W.Frag) : Sp := fun vs H Q _ => ∃ (a : Addr) (ns : List Int), vs = [.ref a] ∧ SqL K H a (ns.map V.int) ∧ ns.length ≤ 63 ∧ ∀ H', Q (.bl true) H'
theorem ok_law (T : Tx K mg) (V : Tv K mg T.e_InvalidType) : FnOk P w K mg base CX0 160 T.a_law T.d_law ["script"] (spLaw K) :=
  fn_law T.F_law sc_law W_law (st1 := (defBody s_law).getD 0 (.Pass ⟨0, 0, 0, 0⟩)) (rest := (defBody s_law).drop 1) (by rfl) (by decide)
    (fun _ _ _ _ _ _ => ps_set (i := 1) sc_law.nd rfl (by first | exact Or.inl rfl | exact Or.inr rfl) (pe_lst (pa_cons pe_int (pa_cons pe_int pa_nil)))) (fun _ _ _ _ _ _ _ hr => db_law T V hr) hw_law
end
end K1
set_option Elab.async false
set_option linter.all false
set_option maxRecDepth 100000
set_option maxHeartbeats 4000000
namespace K1
open PySem PySem.Spec PyProof.Rows L2 Dl
theorem all_mk {l : PySem.W.OpenLaw} {w : World} {K : PySem.W.Frag} {h : Heap} {mg : Str → Option Value} (X : K.In h) (G : h.Ns mainGlobals mg) {fa : Addr} (hfa : mg "law" = some (.ref fa))
    {f1 : Addr} {od1 an1 : Option Addr} {sl1 : Array (Option Value)} {oc1 kV1 dc1 pm1 cd1 ct1 : Value}
    (a1 : PySem.W.nsIn K mainGlobals "is_name" = some (some (.ref f1))) (l1 : K.lookup f1 = some ⟨oc1, od1, .func (PySem.W.fnOf "is_name" "is_name" (defArgs s_is_name) (defBody s_is_name) (defScope s_is_name) .none kV1 dc1 pm1 an1 cd1 ct1), sl1⟩) (c1 : PySem.W.codeIn K cd1 "is_name" = true) (k1 : PySem.W.keepIn K (.ref f1) = true)
    {f2 : Addr} {od2 an2 : Option Addr} {sl2 : Array (Option Value)} {oc2 kV2 dc2 pm2 cd2 ct2 : Value}
    (a2 : PySem.W.nsIn K mainGlobals "_is_plain" = some (some (.ref f2))) (l2 : K.lookup f2 = some ⟨oc2, od2, .func (PySem.W.fnOf "_is_plain" "_is_plain" (defArgs s_is_plain) (defBody s_is_plain) (defScope s_is_plain) .none kV2 dc2 pm2 an2 cd2 ct2), sl2⟩) (c2 : PySem.W.codeIn K cd2 "_is_plain" = true) (k2 : PySem.W.keepIn K (.ref f2) = true)
    {f3 : Addr} {od3 an3 : Option Addr} {sl3 : Array (Option Value)} {oc3 kV3 dc3 pm3 cd3 ct3 : Value}
    (a3 : PySem.W.nsIn K mainGlobals "fits" = some (some (.ref f3))) (l3 : K.lookup f3 = some ⟨oc3, od3, .func (PySem.W.fnOf "fits" "fits" (defArgs s_fits) (defBody s_fits) (defScope s_fits) .none kV3 dc3 pm3 an3 cd3 ct3), sl3⟩) (c3 : PySem.W.codeIn K cd3 "fits" = true) (k3 : PySem.W.keepIn K (.ref f3) = true)
    {f4 : Addr} {od4 an4 : Option Addr} {sl4 : Array (Option Value)} {oc4 kV4 dc4 pm4 cd4 ct4 : Value}
    (a4 : PySem.W.nsIn K mainGlobals "_parse_nested" = some (some (.ref f4))) (l4 : K.lookup f4 = some ⟨oc4, od4, .func (PySem.W.fnOf "_parse_nested" "_parse_nested" (defArgs s_parse_nested) (defBody s_parse_nested) (defScope s_parse_nested) .none kV4 dc4 pm4 an4 cd4 ct4), sl4⟩) (c4 : PySem.W.codeIn K cd4 "_parse_nested" = true) (k4 : PySem.W.keepIn K (.ref f4) = true)
    {f5 : Addr} {od5 an5 : Option Addr} {sl5 : Array (Option Value)} {oc5 kV5 dc5 pm5 cd5 ct5 : Value}
    (a5 : PySem.W.nsIn K mainGlobals "_parse_bare" = some (some (.ref f5))) (l5 : K.lookup f5 = some ⟨oc5, od5, .func (PySem.W.fnOf "_parse_bare" "_parse_bare" (defArgs s_parse_bare) (defBody s_parse_bare) (defScope s_parse_bare) .none kV5 dc5 pm5 an5 cd5 ct5), sl5⟩) (c5 : PySem.W.codeIn K cd5 "_parse_bare" = true) (k5 : PySem.W.keepIn K (.ref f5) = true)
    {f6 : Addr} {od6 an6 : Option Addr} {sl6 : Array (Option Value)} {oc6 kV6 dc6 pm6 cd6 ct6 : Value}
    (a6 : PySem.W.nsIn K mainGlobals "parse_type" = some (some (.ref f6))) (l6 : K.lookup f6 = some ⟨oc6, od6, .func (PySem.W.fnOf "parse_type" "parse_type" (defArgs s_parse_type) (defBody s_parse_type) (defScope s_parse_type) .none kV6 dc6 pm6 an6 cd6 ct6), sl6⟩) (c6 : PySem.W.codeIn K cd6 "parse_type" = true) (k6 : PySem.W.keepIn K (.ref f6) = true)
    {f7 : Addr} {od7 an7 : Option Addr} {sl7 : Array (Option Value)} {oc7 kV7 dc7 pm7 cd7 ct7 : Value}
    (a7 : PySem.W.nsIn K mainGlobals "format_type" = some (some (.ref f7))) (l7 : K.lookup f7 = some ⟨oc7, od7, .func (PySem.W.fnOf "format_type" "format_type" (defArgs s_format_type) (defBody s_format_type) (defScope s_format_type) .none kV7 dc7 pm7 an7 cd7 ct7), sl7⟩) (c7 : PySem.W.codeIn K cd7 "format_type" = true) (k7 : PySem.W.keepIn K (.ref f7) = true)
    {f8 : Addr} {od8 an8 : Option Addr} {sl8 : Array (Option Value)} {oc8 kV8 dc8 pm8 cd8 ct8 : Value}
    (a8 : PySem.W.nsIn K mainGlobals "base_of" = some (some (.ref f8))) (l8 : K.lookup f8 = some ⟨oc8, od8, .func (PySem.W.fnOf "base_of" "base_of" (defArgs s_base_of) (defBody s_base_of) (defScope s_base_of) .none kV8 dc8 pm8 an8 cd8 ct8), sl8⟩) (c8 : PySem.W.codeIn K cd8 "base_of" = true) (k8 : PySem.W.keepIn K (.ref f8) = true)
    {f9 : Addr} {od9 an9 : Option Addr} {sl9 : Array (Option Value)} {oc9 kV9 dc9 pm9 cd9 ct9 : Value}
    (a9 : PySem.W.nsIn K mainGlobals "has_list" = some (some (.ref f9))) (l9 : K.lookup f9 = some ⟨oc9, od9, .func (PySem.W.fnOf "has_list" "has_list" (defArgs s_has_list) (defBody s_has_list) (defScope s_has_list) .none kV9 dc9 pm9 an9 cd9 ct9), sl9⟩) (c9 : PySem.W.codeIn K cd9 "has_list" = true) (k9 : PySem.W.keepIn K (.ref f9) = true)
    {f10 : Addr} {od10 an10 : Option Addr} {sl10 : Array (Option Value)} {oc10 kV10 dc10 pm10 cd10 ct10 : Value}
    (a10 : PySem.W.nsIn K mainGlobals "_law_is_integer" = some (some (.ref f10))) (l10 : K.lookup f10 = some ⟨oc10, od10, .func (PySem.W.fnOf "_law_is_integer" "_law_is_integer" (defArgs s_l_is_integer) (defBody s_l_is_integer) (defScope s_l_is_integer) .none kV10 dc10 pm10 an10 cd10 ct10), sl10⟩) (c10 : PySem.W.codeIn K cd10 "_law_is_integer" = true) (k10 : PySem.W.keepIn K (.ref f10) = true)
    {f11 : Addr} {od11 an11 : Option Addr} {sl11 : Array (Option Value)} {oc11 kV11 dc11 pm11 cd11 ct11 : Value}
    (a11 : PySem.W.nsIn K mainGlobals "_law_refill" = some (some (.ref f11))) (l11 : K.lookup f11 = some ⟨oc11, od11, .func (PySem.W.fnOf "_law_refill" "_law_refill" (defArgs s_l_refill) (defBody s_l_refill) (defScope s_l_refill) .none kV11 dc11 pm11 an11 cd11 ct11), sl11⟩) (c11 : PySem.W.codeIn K cd11 "_law_refill" = true) (k11 : PySem.W.keepIn K (.ref f11) = true)
    {f12 : Addr} {od12 an12 : Option Addr} {sl12 : Array (Option Value)} {oc12 kV12 dc12 pm12 cd12 ct12 : Value}
    (a12 : PySem.W.nsIn K mainGlobals "_law_draw" = some (some (.ref f12))) (l12 : K.lookup f12 = some ⟨oc12, od12, .func (PySem.W.fnOf "_law_draw" "_law_draw" (defArgs s_l_draw) (defBody s_l_draw) (defScope s_l_draw) .none kV12 dc12 pm12 an12 cd12 ct12), sl12⟩) (c12 : PySem.W.codeIn K cd12 "_law_draw" = true) (k12 : PySem.W.keepIn K (.ref f12) = true)
    {f13 : Addr} {od13 an13 : Option Addr} {sl13 : Array (Option Value)} {oc13 kV13 dc13 pm13 cd13 ct13 : Value}
    (a13 : PySem.W.nsIn K mainGlobals "_law_pick" = some (some (.ref f13))) (l13 : K.lookup f13 = some ⟨oc13, od13, .func (PySem.W.fnOf "_law_pick" "_law_pick" (defArgs s_l_pick) (defBody s_l_pick) (defScope s_l_pick) .none kV13 dc13 pm13 an13 cd13 ct13), sl13⟩) (c13 : PySem.W.codeIn K cd13 "_law_pick" = true) (k13 : PySem.W.keepIn K (.ref f13) = true)
    {f14 : Addr} {od14 an14 : Option Addr} {sl14 : Array (Option Value)} {oc14 kV14 dc14 pm14 cd14 ct14 : Value}
    (a14 : PySem.W.nsIn K mainGlobals "_law_name" = some (some (.ref f14))) (l14 : K.lookup f14 = some ⟨oc14, od14, .func (PySem.W.fnOf "_law_name" "_law_name" (defArgs s_l_name) (defBody s_l_name) (defScope s_l_name) .none kV14 dc14 pm14 an14 cd14 ct14), sl14⟩) (c14 : PySem.W.codeIn K cd14 "_law_name" = true) (k14 : PySem.W.keepIn K (.ref f14) = true)
    {f15 : Addr} {od15 an15 : Option Addr} {sl15 : Array (Option Value)} {oc15 kV15 dc15 pm15 cd15 ct15 : Value}
    (a15 : PySem.W.nsIn K mainGlobals "_law_is_name" = some (some (.ref f15))) (l15 : K.lookup f15 = some ⟨oc15, od15, .func (PySem.W.fnOf "_law_is_name" "_law_is_name" (defArgs s_l_is_name) (defBody s_l_is_name) (defScope s_l_is_name) .none kV15 dc15 pm15 an15 cd15 ct15), sl15⟩) (c15 : PySem.W.codeIn K cd15 "_law_is_name" = true) (k15 : PySem.W.keepIn K (.ref f15) = true)
    {f16 : Addr} {od16 an16 : Option Addr} {sl16 : Array (Option Value)} {oc16 kV16 dc16 pm16 cd16 ct16 : Value}
    (a16 : PySem.W.nsIn K mainGlobals "_law_parsed" = some (some (.ref f16))) (l16 : K.lookup f16 = some ⟨oc16, od16, .func (PySem.W.fnOf "_law_parsed" "_law_parsed" (defArgs s_l_parsed) (defBody s_l_parsed) (defScope s_l_parsed) .none kV16 dc16 pm16 an16 cd16 ct16), sl16⟩) (c16 : PySem.W.codeIn K cd16 "_law_parsed" = true) (k16 : PySem.W.keepIn K (.ref f16) = true)
    {f17 : Addr} {od17 an17 : Option Addr} {sl17 : Array (Option Value)} {oc17 kV17 dc17 pm17 cd17 ct17 : Value}
    (a17 : PySem.W.nsIn K mainGlobals "_law_told" = some (some (.ref f17))) (l17 : K.lookup f17 = some ⟨oc17, od17, .func (PySem.W.fnOf "_law_told" "_law_told" (defArgs s_l_told) (defBody s_l_told) (defScope s_l_told) .none kV17 dc17 pm17 an17 cd17 ct17), sl17⟩) (c17 : PySem.W.codeIn K cd17 "_law_told" = true) (k17 : PySem.W.keepIn K (.ref f17) = true)
    {f18 : Addr} {od18 an18 : Option Addr} {sl18 : Array (Option Value)} {oc18 kV18 dc18 pm18 cd18 ct18 : Value}
    (a18 : PySem.W.nsIn K mainGlobals "_law_fits" = some (some (.ref f18))) (l18 : K.lookup f18 = some ⟨oc18, od18, .func (PySem.W.fnOf "_law_fits" "_law_fits" (defArgs s_l_fits) (defBody s_l_fits) (defScope s_l_fits) .none kV18 dc18 pm18 an18 cd18 ct18), sl18⟩) (c18 : PySem.W.codeIn K cd18 "_law_fits" = true) (k18 : PySem.W.keepIn K (.ref f18) = true)
    {f19 : Addr} {od19 an19 : Option Addr} {sl19 : Array (Option Value)} {oc19 kV19 dc19 pm19 cd19 ct19 : Value}
    (a19 : PySem.W.nsIn K mainGlobals "law" = some (some (.ref f19))) (l19 : K.lookup f19 = some ⟨oc19, od19, .func (PySem.W.fnOf "law" "law" (defArgs s_law) (defBody s_law) (defScope s_law) .none kV19 dc19 pm19 an19 cd19 ct19), sl19⟩) (c19 : PySem.W.codeIn K cd19 "law" = true) (k19 : PySem.W.keepIn K (.ref f19) = true)
    {t_LONGEST_NAME : Tok} (g_LONGEST_NAME : PySem.W.nsIn K mainGlobals "LONGEST_NAME" = some (some (.int (30) t_LONGEST_NAME)))
    {t_DEEPEST_LIST : Tok} (g_DEEPEST_LIST : PySem.W.nsIn K mainGlobals "DEEPEST_LIST" = some (some (.int (5) t_DEEPEST_LIST)))
    {t_LEAST_INT : Tok} (g_LEAST_INT : PySem.W.nsIn K mainGlobals "LEAST_INT" = some (some (.int (-2147483648) t_LEAST_INT)))
    {t_GREATEST_INT : Tok} (g_GREATEST_INT : PySem.W.nsIn K mainGlobals "GREATEST_INT" = some (some (.int (2147483647) t_GREATEST_INT)))
    {t_FIRST_CODE : Tok} (g_FIRST_CODE : PySem.W.nsIn K mainGlobals "FIRST_CODE" = some (some (.int (32) t_FIRST_CODE)))
    {t_LAST_CODE : Tok} (g_LAST_CODE : PySem.W.nsIn K mainGlobals "LAST_CODE" = some (some (.int (126) t_LAST_CODE)))
    {t_EXCEPTED_CODE : Tok} (g_EXCEPTED_CODE : PySem.W.nsIn K mainGlobals "EXCEPTED_CODE" = some (some (.int (37) t_EXCEPTED_CODE)))
    (z_all : PySem.W.nsIn K mainGlobals "all" = some none)
    (z_bool : PySem.W.nsIn K mainGlobals "bool" = some none)
    (z_int : PySem.W.nsIn K mainGlobals "int" = some none)
    (z_isinstance : PySem.W.nsIn K mainGlobals "isinstance" = some none)
    (z_len : PySem.W.nsIn K mainGlobals "len" = some none)
    (z_ord : PySem.W.nsIn K mainGlobals "ord" = some none)
    (z_range : PySem.W.nsIn K mainGlobals "range" = some none)
    (z_str : PySem.W.nsIn K mainGlobals "str" = some none)
    {e_InvalidType : Addr} (x1_InvalidType : PySem.W.nsIn K mainGlobals "InvalidType" = some (some (.ref e_InvalidType))) (x2_InvalidType : PySem.W.excIn K e_InvalidType [.type "ValueError", .type "Exception", .type "BaseException", .type "object"] "ValueError.__new__" = true) (x3_InvalidType : PySem.W.keepIn K (.ref e_InvalidType) = true) (x4_InvalidType : PySem.W.subIn K (.ref e_InvalidType) (.type "BaseException") = some true) (x5_InvalidType : PySem.W.typeIn K (.ref e_InvalidType) = some (.type "type"))
    {S : Addr} (v1 : PySem.W.nsIn K mainGlobals "SeamError" = some (some (.ref S))) (v2 : PySem.W.nsIn K mainGlobals "ValueError" = some none) (v3 : PySem.W.subIn K (.ref e_InvalidType) (.ref e_InvalidType) = some true)
    (v4 : PySem.W.findIn K (.ref e_InvalidType) "__getattribute__" = some (some (.builtin "BaseException.__getattribute__"))) (v5 : PySem.W.findIn K (.ref e_InvalidType) "__getattr__" = some none) (v6 : PySem.W.hasDictIn K e_InvalidType = true) (v7 : PySem.W.findIn K (.ref e_InvalidType) "__class__" = some (some (.builtin "object.__class__")))
    (v8 : PySem.W.specialIn K (.builtin "object.__class__") "__get__" = some (some (.builtin "getset_descriptor.__get__"))) (v9 : PySem.W.takesIn K (.builtin "object.__class__") = some true) (v10 : PySem.W.mroIn K e_InvalidType (.type "object") = some true)
    (v11 : PySem.W.subIn K (.ref e_InvalidType) (.ref S) = some true) (v12 : PySem.W.subIn K (.ref e_InvalidType) (.type "ValueError") = some true) (v13 : PySem.W.hasDictIn K S = true) (v14 : PySem.W.typeIn K (.ref S) = some (.type "type")) :
    ∃ fd : FuncData, (∀ (s : Shared) (v : Value), BindsTo s fd ⟨[v], []⟩ [("script", v)]) ∧ ∀ base : Heap, K.In base → base.Ns mainGlobals mg → FnOk l.prog w K mg base CX0 160 fa fd ["script"] (spLaw K) := by
  have e := hfa.symm.trans (PySem.W.mg_of X G a19)
  cases e
  have F1 := fun_mk (st := s_is_name) l1 c1 k1
  have b1 := F1.binds (ps := ["text"]) fun _ _ _ _ _ _ us hl => match us, hl with | [_], _ => rfl
  have F2 := fun_mk (st := s_is_plain) l2 c2 k2
  have b2 := F2.binds (ps := ["code"]) fun _ _ _ _ _ _ us hl => match us, hl with | [_], _ => rfl
  have F3 := fun_mk (st := s_fits) l3 c3 k3
  have b3 := F3.binds (ps := ["scalar", "value"]) fun _ _ _ _ _ _ us hl => match us, hl with | [_, _], _ => rfl
  have F4 := fun_mk (st := s_parse_nested) l4 c4 k4
  have b4 := F4.binds (ps := ["text", "depth"]) fun _ _ _ _ _ _ us hl => match us, hl with | [_, _], _ => rfl
  have F5 := fun_mk (st := s_parse_bare) l5 c5 k5
  have b5 := F5.binds (ps := ["text", "depth"]) fun _ _ _ _ _ _ us hl => match us, hl with | [_, _], _ => rfl
  have F6 := fun_mk (st := s_parse_type) l6 c6 k6
  have b6 := F6.binds (ps := ["text"]) fun _ _ _ _ _ _ us hl => match us, hl with | [_], _ => rfl
  have F7 := fun_mk (st := s_format_type) l7 c7 k7
  have b7 := F7.binds (ps := ["kind"]) fun _ _ _ _ _ _ us hl => match us, hl with | [_], _ => rfl
  have F8 := fun_mk (st := s_base_of) l8 c8 k8
  have b8 := F8.binds (ps := ["kind"]) fun _ _ _ _ _ _ us hl => match us, hl with | [_], _ => rfl
  have F9 := fun_mk (st := s_has_list) l9 c9 k9
  have b9 := F9.binds (ps := ["kind"]) fun _ _ _ _ _ _ us hl => match us, hl with | [_], _ => rfl
  have F10 := fun_mk (st := s_l_is_integer) l10 c10 k10
  have b10 := F10.binds (ps := ["actual"]) fun _ _ _ _ _ _ us hl => match us, hl with | [_], _ => rfl
  have F11 := fun_mk (st := s_l_refill) l11 c11 k11
  have b11 := F11.binds (ps := ["script", "k"]) fun _ _ _ _ _ _ us hl => match us, hl with | [_, _], _ => rfl
  have F12 := fun_mk (st := s_l_draw) l12 c12 k12
  have b12 := F12.binds (ps := ["state", "script", "size"]) fun _ _ _ _ _ _ us hl => match us, hl with | [_, _, _], _ => rfl
  have F13 := fun_mk (st := s_l_pick) l13 c13 k13
  have b13 := F13.binds (ps := ["state", "script", "signs"]) fun _ _ _ _ _ _ us hl => match us, hl with | [_, _, _], _ => rfl
  have F14 := fun_mk (st := s_l_name) l14 c14 k14
  have b14 := F14.binds (ps := ["state", "script"]) fun _ _ _ _ _ _ us hl => match us, hl with | [_, _], _ => rfl
  have F15 := fun_mk (st := s_l_is_name) l15 c15 k15
  have b15 := F15.binds (ps := ["text"]) fun _ _ _ _ _ _ us hl => match us, hl with | [_], _ => rfl
  have F16 := fun_mk (st := s_l_parsed) l16 c16 k16
  have b16 := F16.binds (ps := ["text", "depth"]) fun _ _ _ _ _ _ us hl => match us, hl with | [_, _], _ => rfl
  have F17 := fun_mk (st := s_l_told) l17 c17 k17
  have b17 := F17.binds (ps := ["text"]) fun _ _ _ _ _ _ us hl => match us, hl with | [_], _ => rfl
  have F18 := fun_mk (st := s_l_fits) l18 c18 k18
  have b18 := F18.binds (ps := ["scalar", "value"]) fun _ _ _ _ _ _ us hl => match us, hl with | [_, _], _ => rfl
  have F19 := fun_mk (st := s_law) l19 c19 k19
  have b19 := F19.binds (ps := ["script"]) fun _ _ _ _ _ _ us hl => match us, hl with | [_], _ => rfl
  let T : Tx K mg := {
    a_is_name := f1, d_is_name := _, F_is_name := F1, b_is_name := b1, m_is_name := PySem.W.mg_of X G a1,
    a_is_plain := f2, d_is_plain := _, F_is_plain := F2, b_is_plain := b2, m_is_plain := PySem.W.mg_of X G a2,
    a_fits := f3, d_fits := _, F_fits := F3, b_fits := b3, m_fits := PySem.W.mg_of X G a3,
    a_parse_nested := f4, d_parse_nested := _, F_parse_nested := F4, b_parse_nested := b4, m_parse_nested := PySem.W.mg_of X G a4,
    a_parse_bare := f5, d_parse_bare := _, F_parse_bare := F5, b_parse_bare := b5, m_parse_bare := PySem.W.mg_of X G a5,
    a_parse_type := f6, d_parse_type := _, F_parse_type := F6, b_parse_type := b6, m_parse_type := PySem.W.mg_of X G a6,
    a_format_type := f7, d_format_type := _, F_format_type := F7, b_format_type := b7, m_format_type := PySem.W.mg_of X G a7,
    a_base_of := f8, d_base_of := _, F_base_of := F8, b_base_of := b8, m_base_of := PySem.W.mg_of X G a8,
    a_has_list := f9, d_has_list := _, F_has_list := F9, b_has_list := b9, m_has_list := PySem.W.mg_of X G a9,
    a_l_is_integer := f10, d_l_is_integer := _, F_l_is_integer := F10, b_l_is_integer := b10, m_l_is_integer := PySem.W.mg_of X G a10,
    a_l_refill := f11, d_l_refill := _, F_l_refill := F11, b_l_refill := b11, m_l_refill := PySem.W.mg_of X G a11,
    a_l_draw := f12, d_l_draw := _, F_l_draw := F12, b_l_draw := b12, m_l_draw := PySem.W.mg_of X G a12,
    a_l_pick := f13, d_l_pick := _, F_l_pick := F13, b_l_pick := b13, m_l_pick := PySem.W.mg_of X G a13,
    a_l_name := f14, d_l_name := _, F_l_name := F14, b_l_name := b14, m_l_name := PySem.W.mg_of X G a14,
    a_l_is_name := f15, d_l_is_name := _, F_l_is_name := F15, b_l_is_name := b15, m_l_is_name := PySem.W.mg_of X G a15,
    a_l_parsed := f16, d_l_parsed := _, F_l_parsed := F16, b_l_parsed := b16, m_l_parsed := PySem.W.mg_of X G a16,
    a_l_told := f17, d_l_told := _, F_l_told := F17, b_l_told := b17, m_l_told := PySem.W.mg_of X G a17,
    a_l_fits := f18, d_l_fits := _, F_l_fits := F18, b_l_fits := b18, m_l_fits := PySem.W.mg_of X G a18,
    a_law := fa, d_law := _, F_law := F19, b_law := b19, m_law := PySem.W.mg_of X G a19,
    t_LONGEST_NAME := t_LONGEST_NAME, c_LONGEST_NAME := PySem.W.mg_of X G g_LONGEST_NAME,
    t_DEEPEST_LIST := t_DEEPEST_LIST, c_DEEPEST_LIST := PySem.W.mg_of X G g_DEEPEST_LIST,
    t_LEAST_INT := t_LEAST_INT, c_LEAST_INT := PySem.W.mg_of X G g_LEAST_INT,
    t_GREATEST_INT := t_GREATEST_INT, c_GREATEST_INT := PySem.W.mg_of X G g_GREATEST_INT,
    t_FIRST_CODE := t_FIRST_CODE, c_FIRST_CODE := PySem.W.mg_of X G g_FIRST_CODE,
    t_LAST_CODE := t_LAST_CODE, c_LAST_CODE := PySem.W.mg_of X G g_LAST_CODE,
    t_EXCEPTED_CODE := t_EXCEPTED_CODE, c_EXCEPTED_CODE := PySem.W.mg_of X G g_EXCEPTED_CODE,
    z_all := PySem.W.mg_none_of X G z_all,
    z_bool := PySem.W.mg_none_of X G z_bool,
    z_int := PySem.W.mg_none_of X G z_int,
    z_isinstance := PySem.W.mg_none_of X G z_isinstance,
    z_len := PySem.W.mg_none_of X G z_len,
    z_ord := PySem.W.mg_none_of X G z_ord,
    z_range := PySem.W.mg_none_of X G z_range,
    z_str := PySem.W.mg_none_of X G z_str,
    e_InvalidType := e_InvalidType, x_InvalidType := ⟨PySem.W.mg_of X G x1_InvalidType, x2_InvalidType, x3_InvalidType, x4_InvalidType, x5_InvalidType⟩ }
  have V : Tv K mg T.e_InvalidType := { S := S, mS := PySem.W.mg_of X G v1, mV := PySem.W.mg_none_of X G v2, bV := by decide +kernel, ex := PySem.W.exm_ref x4_InvalidType v6 x5_InvalidType v3, cc := ⟨v4, v5, x4_InvalidType, v6, v7, v8, v9, v10⟩, k1 := kit_ref v13 v14 v11, k2 := kit_typ (by decide +kernel) v12 }
  exact ⟨_, fun s v => .of_eq rfl, fun base _ _ => ok_law T V⟩
theorem walk {l : PySem.W.OpenLaw} {q : Program} {loose : List Str} {XP : (Str → Option Value) → Heap → Prop} {YP : World → Heap → Prop} {d : DefRec} {K : Params → PySem.W.Frag} (hn : l.most = some 63) (hdf : d.params.defaults = [])
    (hY : ∀ (w : World) (h : Heap), YP w h → (K w.params).In h)
    (F : ∀ (w : World) (mg : Str → Option Value) (fa : Addr) (h : Heap), (K w.params).In h → h.Ns mainGlobals mg → mg d.name = some (.ref fa) →
      ∃ fd : FuncData, (∀ (s : Shared) (u : Value), BindsTo s fd ⟨[u], []⟩ [("script", u)]) ∧ ∀ base : Heap, (K w.params).In base → base.Ns mainGlobals mg → FnOk l.prog w (K w.params) mg base CX0 160 fa fd ["script"] (spLaw (K w.params))) :
    PySem.W.WalkO q loose XP YP l.row.toRowW d [] (fun f vs => PySem.call f vs) :=
  L2.walk_of (n := 63) (k := 160) (x := "script") (CX := fun _ => CX0) (sp := fun w => spLaw (K w.params)) hn (by decide) hdf ⟨rfl, by decide, by decide⟩ hY F (fun _ _ a ns hl _ hS => ⟨a, ns, rfl, hS, hl, fun _ => rfl⟩) fun _ _ _ _ _ z => z
end K1
open PySem PySem.W PyProof.Rows
set_option maxRecDepth 100000 in
set_option maxHeartbeats 0 in
theorem PySem.Challenge.cw_seamgraph_k01_types_and_names_holds : PySem.Challenge.rw_seamgraph_k01_types_and_names.Holds := by
  w_on; o_law; k_head; (case hw => w_witness2)
  k_fill
  refine K1.walk (l := PySem.Challenge.rw_seamgraph_k01_types_and_names) rfl rfl (fun w h Y => PySem.W.kIn_of Y) ?F
  case F =>
    intro w mg fa h KX G hmg
    refine' K1.all_mk KX G hmg ?a1 ?l1 ?c1 ?k1 ?a2 ?l2 ?c2 ?k2 ?a3 ?l3 ?c3 ?k3 ?a4 ?l4 ?c4 ?k4 ?a5 ?l5 ?c5 ?k5 ?a6 ?l6 ?c6 ?k6 ?a7 ?l7 ?c7 ?k7 ?a8 ?l8 ?c8 ?k8 ?a9 ?l9 ?c9 ?k9 ?a10 ?l10 ?c10 ?k10 ?a11 ?l11 ?c11 ?k11 ?a12 ?l12 ?c12 ?k12 ?a13 ?l13 ?c13 ?k13 ?a14 ?l14 ?c14 ?k14 ?a15 ?l15 ?c15 ?k15 ?a16 ?l16 ?c16 ?k16 ?a17 ?l17 ?c17 ?k17 ?a18 ?l18 ?c18 ?k18 ?a19 ?l19 ?c19 ?k19 ?g_LONGEST_NAME ?g_DEEPEST_LIST ?g_LEAST_INT ?g_GREATEST_INT ?g_FIRST_CODE ?g_LAST_CODE ?g_EXCEPTED_CODE ?z_all ?z_bool ?z_int ?z_isinstance ?z_len ?z_ord ?z_range ?z_str ?x1_InvalidType ?x2_InvalidType ?x3_InvalidType ?x4_InvalidType ?x5_InvalidType ?v1 ?v2 ?v3 ?v4 ?v5 ?v6 ?v7 ?v8 ?v9 ?v10 ?v11 ?v12 ?v13 ?v14
    (case a1 => k_is)
    (case l1 => k_is)
    (case c1 => k_is)
    (case k1 => k_is)
    (case a2 => k_is)
    (case l2 => k_is)
    (case c2 => k_is)
    (case k2 => k_is)
    (case a3 => k_is)
    (case l3 => k_is)
    (case c3 => k_is)
    (case k3 => k_is)
    (case a4 => k_is)
    (case l4 => k_is)
    (case c4 => k_is)
    (case k4 => k_is)
    (case a5 => k_is)
    (case l5 => k_is)
    (case c5 => k_is)
    (case k5 => k_is)
    (case a6 => k_is)
    (case l6 => k_is)
    (case c6 => k_is)
    (case k6 => k_is)
    (case a7 => k_is)
    (case l7 => k_is)
    (case c7 => k_is)
    (case k7 => k_is)
    (case a8 => k_is)
    (case l8 => k_is)
    (case c8 => k_is)
    (case k8 => k_is)
    (case a9 => k_is)
    (case l9 => k_is)
    (case c9 => k_is)
    (case k9 => k_is)
    (case a10 => k_is)
    (case l10 => k_is)
    (case c10 => k_is)
    (case k10 => k_is)
    (case a11 => k_is)
    (case l11 => k_is)
    (case c11 => k_is)
    (case k11 => k_is)
    (case a12 => k_is)
    (case l12 => k_is)
    (case c12 => k_is)
    (case k12 => k_is)
    (case a13 => k_is)
    (case l13 => k_is)
    (case c13 => k_is)
    (case k13 => k_is)
    (case a14 => k_is)
    (case l14 => k_is)
    (case c14 => k_is)
    (case k14 => k_is)
    (case a15 => k_is)
    (case l15 => k_is)
    (case c15 => k_is)
    (case k15 => k_is)
    (case a16 => k_is)
    (case l16 => k_is)
    (case c16 => k_is)
    (case k16 => k_is)
    (case a17 => k_is)
    (case l17 => k_is)
    (case c17 => k_is)
    (case k17 => k_is)
    (case a18 => k_is)
    (case l18 => k_is)
    (case c18 => k_is)
    (case k18 => k_is)
    (case a19 => k_is)
    (case l19 => k_is)
    (case c19 => k_is)
    (case k19 => k_is)
    (case g_LONGEST_NAME => k_is)
    (case g_DEEPEST_LIST => k_is)
    (case g_LEAST_INT => k_is)
    (case g_GREATEST_INT => k_is)
    (case g_FIRST_CODE => k_is)
    (case g_LAST_CODE => k_is)
    (case g_EXCEPTED_CODE => k_is)
    (case z_all => k_is)
    (case z_bool => k_is)
    (case z_int => k_is)
    (case z_isinstance => k_is)
    (case z_len => k_is)
    (case z_ord => k_is)
    (case z_range => k_is)
    (case z_str => k_is)
    (case x1_InvalidType => k_is)
    (case x2_InvalidType => k_exc)
    (case x3_InvalidType => k_is)
    (case x4_InvalidType => k_is)
    (case x5_InvalidType => k_is)
    (case v1 => k_is)
    (case v2 => k_is)
    (case v3 => first | rfl | k_is)
    (case v4 => k_is)
    (case v5 => k_is)
    (case v6 => k_is)
    (case v7 => k_is)
    (case v8 => k_is)
    (case v9 => k_is)
    (case v10 => k_is)
    (case v11 => k_is)
    (case v12 => k_is)
    (case v13 => k_is)
    (case v14 => k_is)
